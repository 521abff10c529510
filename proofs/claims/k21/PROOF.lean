import PyProof.Rows.All
import Wide.All
import OpenK.AllK
import Wide.FinOn
import Lean
import PyProof.EqAt
import PyProof.EqKinds
import PyProof.TupleCall
import PyProof.P3Eq
import PyProof.NeData
import PyProof.P3In
import PyProof.StrLawsChain
import KE.KIntText
import KE.IntTextLaws
import PyProof.Rows.StrJoinMade
import PyProof.Rows.FStr
import PyProof.ListMulRoad
import PySem.Challenge.RW_openhouses_k21_things_that_are_no_papers
open List renaming getElem?_eq_getElem→Zt,length_map→Zv,mem_of_getElem?→Zx,length_append→Zy,mem_cons→Zz,getElem?_map→Z0,getElem?_eq_some_iff→Z2,not_mem_nil→Z3,mem_map→Z6,map_append→Z7,mem_append→Z9,size_toArray→ZA,mem_append_right→ZC,length_take→ZE,getD_eq_getElem?_getD→ZG,mem_singleton→ZH,map_cons→ZI,mem_cons_of_mem→ZK,take_add_one→ZL,getElem_of_mem→ZM,take_length→ZN,mem_cons_self→ZP,getElem?_append_left→ZR,length_drop→ZU,getElem?_append_right→ZV,range→ZW,all_eq_true→ZZ,length_range→af,length_cons→ak,getElem?_cons_zero→ao,nodup_cons→aq,getElem_mem→ar,getElem?_eq_none→av,map_map→ax,mem_append_left→ay,length_reverse→aB,all_map→aF,pairwise_iff_getElem→aG,mem_range→aH,nodup_append→aI,length_eq_zero_iff→aJ,getElem?_zip_eq_some→aL,append_assoc→aM,mem_of_mem_take→aN,length→aP,find?_cons→aQ,getElem?_reverse→aT,mem_of_mem_drop→aU,pairwise_cons→aX,getElem?_cons_succ→ba,not_lt→bg,take_of_length_le→bh,drop_zero→bj,any_eq_true→bp,any_cons→bq,mem_filter→bu,length_zip→bx,filterMap_cons→bz,length_pos_iff→b9,map_congr_left→bA,getElem?_range→bB,drop_eq_getElem_cons→bF,getElem_take→bG,getElem?_take_of_lt→bH,lt_asymm→bJ,of_mem_zip→bM,length_singleton→bP,lt_irrefl→bR,length_eraseIdx→bT,cons→bU,all_cons→bZ,lt_trans→cg,mem_filterMap→cj,getElem?_drop→cn,map_nil→cu,ext_getElem?→cv,cons_append→cB,ext_getElem→cD,append_nil→cG,nodup_nil→cH,sum_cons→cM,length_filterMap_le→cO,pairwise_singleton→cP,getElem?_set_self→cS,getElem?_set_ne→cX,mem_erase_of_ne→dc,pairwise_append→df,getElem_toArray→di,getElem?_of_mem→dj,take_succ_cons→dq,drop_succ_cons→dt,mem_map_of_mem→dy,zip_cons_cons→dz,map_inj_right→dA,flatten_cons→dJ,reverse_cons→dM,getElem_inj→dN,filter_cons→dO,zipIdx_cons→dX,length_nil→dY,nil_append→dZ,foldl_cons→ef,zipIdx_nil→et,forIn_cons→e6,filterMap→e7,take_zero→eA,forIn_nil→eB,le_trans→eE,take_nil→eG,drop_nil→eI,map_take→eJ,map_drop→eK
open PySem.Heap renaming get?_push_of_some→Zu,lt_size→Z1,get?_push_size→Z5,get?_update_other→aa,size_push→ae,get?_update_self→ah,get?_update_ne→dv,size_update→dU
open PySem.W renaming Frag→Zw,mg_none_of→ZT,nsIn→ag,kia_one→aD,mg_of→aK,fnOf→aO,kitOne→b8,keepIn→bL,codeIn→bN,methodObj→bY,instObj→cx,OpenLaw→cz,lookIn→cE,cellsFrom_some→cK,kitx_list→cY,kitx_dict→cZ,plainGet→dk,findIn→dF,WalkO→dP
open Nat renaming le_refl→Z4,ne_of_lt→Z8,lt_of_lt_of_le→ZF,zero_le→ZQ,le_trans→ZS,le_succ→ZX,lt_succ_of_lt→ZY,lt_succ_self→ai,lt_irrefl→au,ne_of_gt→aA,zero_add→aV,not_lt_zero→aZ,not_lt→bO,mul_le_mul_right→bW,pos_of_ne_zero→cq,sub_self→cA,le_of_lt→cU,add_sub_cancel→dG,le_succ_of_le→dQ,lt_or_ge→eL,sub_zero→eN,min_self→eO,log2_lt→eP,mod_lt→eR,succ→eT
open Bool renaming false_ne_true→ZD,false_eq_true→ab,and_eq_true→aj,eq_iff_iff→aE,false_and→bQ,and_false→cJ,or_false→eC,and_true→eD,not_true→eF
open Option renaming some→ZJ,map_some→aW,isSome_iff_exists→bE,isSome_map→ck,none→cT
open Array renaming length_toList→ZO,getElem?_toList→bo,toList→bK,toList_append→bX,getD_eq_getD_getElem?→cF,getElem?_eq_getElem→cI,ext→cN,mem_of_getElem?→cR,mem_toList_iff→cV,toList_push→dB,toList_inj→dI
open Int renaming le_refl→az,emod_nonneg→aY,mul_le_mul_of_nonneg_right→br,lt_of_le_of_lt→bC,emod_lt_of_pos→bD,toNat_natCast→bI,mul_le_mul→bV,ediv_one→cy,zero_add→c0,mul_nonneg→cL,add_assoc→cQ,add_zero→cW,natAbs_dvd_natAbs→dh,toNat_of_nonneg→dE,le_trans→eM,max_def→eQ
local macro_rules|`(tactic|exists $es,*)=>`(tactic|refine ⟨$es,*, ?_⟩)
set_option Elab.async false
set_option linter.all false
set_option maxRecDepth 100000
set_option maxHeartbeats 4000000
namespace L2
open PySem PySem.W PyProof.Rows
section
variable {lt:Keyed->Keyed->Bool}
end
def Fs (xs:Array Keyed) (i:Nat):Keyed:=xs.getD i (Value.none,Value.none)
theorem O3 {xs:Array Keyed} {i:Nat} (h:i < xs.size):xs[i]? = some (Fs xs i):=by
 unfold Fs;simp [Array.getD,h]
theorem Jd {xs ys:Array Keyed} {i j:Nat} (h:xs[i]? = ys[j]?):Fs xs i=Fs ys j:=by
 unfold Fs;rw [cF,cF,h]
theorem O2 {xs:Array Keyed} {i:Nat} (h:i < xs.size):Fs xs i ∈ xs:=cR (O3 h)
def VQ (prog:Program) (w:World) (A:Around) (s:Shared) (κ:SortKind) (lt:Keyed->Keyed->Bool) (a0:Array Keyed):Prop:=
 ∀ x y,x ∈ a0->y ∈ a0->∀ (Q:Bool->Shared->Prop) (E:Value->Shared->Prop),Q (lt x y) s->wpAny (model prog w) A (keyLt' κ x.1 y.1) Q E s
section
variable {prog:Program} {w:World} {A:Around} {E:Value->Shared->Prop} {s:Shared} {κ:SortKind} {lt:Keyed->Keyed->Bool} {a0:Array Keyed}
theorem JR {xs:Array Keyed} {i:Nat} {Q:Keyed->SortSt->Prop} {st:SortSt} (hi:i < xs.size) (h:Q (Fs xs i) st):wpS (model prog w) A E s (elem' xs i) Q st:=by
 rw [elem'_eq,O3 hi];exact wpS_pure h
theorem Sv {x y:Keyed} {Q:Option Bool->SortSt->Prop} {st:SortSt} (an:VQ prog w A s κ lt a0) (hk:kindOf st=κ) (hx:x ∈ a0) (hy:y ∈ a0) (h:Q (some (lt x y)) st) :
  wpS (model prog w) A E s (lt' x y) Q st:=by
 rw [lt'_eq];refine wpS_bind (wpS_get ?_);rw [hk];refine wpS_bind (wpS_lift (wpAny_attempt (an x y hx hy _ _ ⟨rfl,?_⟩)));exact wpS_pure h
theorem De {i j:Nat} {Q:Option Bool->SortSt->Prop} {st:SortSt} (an:VQ prog w A s κ lt a0) (hk:kindOf st=κ) (hp:(arrOf st).Perm a0) (hi:i < a0.size) (hj:j < a0.size)
  (h:Q (some (lt (Fs (arrOf st) i) (Fs (arrOf st) j))) st):wpS (model prog w) A E s (ltAt' i j) Q st:=by
 rw [ltAt'_eq];refine wpS_bind (wpS_get ?_);have e:=hp.size_eq;refine wpS_bind (JR (by lia) (wpS_bind (JR (by lia) ?_)));exact Sv an hk ((Array.Perm.mem_iff hp).mp (O2 (by lia))) ((Array.Perm.mem_iff hp).mp (O2 (by lia))) h
end
section lists
variable {lt:Keyed->Keyed->Bool}
end lists
section
variable {prog:Program} {w:World} {A:Around} {E:Value->Shared->Prop} {s:Shared} {κ:SortKind} {lt:Keyed->Keyed->Bool} {a0:Array Keyed}
end
section
variable {prog:Program} {w:World} {A:Around} {E:Value->Shared->Prop} {s:Shared} {κ:SortKind} {lt:Keyed->Keyed->Bool} {a0:Array Keyed}
end
section segs
variable {lt:Keyed->Keyed->Bool}
theorem Ny {xs:Array Keyed} {i j:Nat} (hj:j<=xs.size) (k:Nat):Fs (mirror xs i j ((j - i) / 2)) k=if i<=k/\k < j then Fs xs (i + j - 1 - k) else Fs xs k:=by
 have e:=getElem?_mirror_all (i:=i) hj k;split at e
 ·rw [if_pos ‹_›]; exact Jd e
 ·rw [if_neg ‹_›]; exact Jd e
theorem Nz {xs:Array Keyed} {src d:Nat} (hs:src < xs.size) (hd:d<=src) (k:Nat) :
  Fs (bubble xs src d) k=if k=src - d then Fs xs src else if src - d < k/\k<=src then Fs xs (k - 1) else Fs xs k:=by
 have e:=getElem?_bubble hs d hd k;by_cases h1:k=src - d
 ·rw [if_pos h1] at e ⊢; exact Jd e
 ·by_cases h2:src - d < k/\k<=src
  ·rw [if_neg h1,if_pos h2] at e ⊢; exact Jd e
  ·rw [if_neg h1,if_neg h2] at e ⊢; exact Jd e
def Kp (xs ys:Array Keyed) (lo:Nat):Prop:=ys.Perm xs/\∀ k,k < lo->Fs ys k=Fs xs k
theorem Kp.refl (xs:Array Keyed) (lo:Nat):Kp xs xs lo:=⟨Array.Perm.refl _,fun _ _=>rfl⟩
theorem Kp.size {xs ys:Array Keyed} {lo:Nat} (h:Kp xs ys lo):ys.size=xs.size:=h.1.size_eq
theorem Kp.mirror {xs ys:Array Keyed} {lo i j:Nat} (h:Kp xs ys lo) (hj:j<=xs.size) (hi:lo<=i):Kp xs (PyProof.Rows.mirror ys i j ((j - i) / 2)) lo:=by
 refine ⟨(mirror_perm _ _ _ _).trans h.1,fun k hk=>?_⟩;rw [Ny (by rw [h.size]; exact hj),if_neg (by lia)];exact h.2 k hk
theorem Kp.bubble {xs ys:Array Keyed} {lo src d:Nat} (h:Kp xs ys lo) (hs:src < xs.size) (hd:lo + d<=src):Kp xs (PyProof.Rows.bubble ys src d) lo:=by
 refine ⟨(bubble_perm _ _ _).trans h.1,fun k hk=>?_⟩;rw [Nz (by rw [h.size]; exact hs) (by lia),if_neg (by lia),if_neg (by lia)];exact h.2 k hk
end segs
section
variable {prog:Program} {w:World} {A:Around} {E:Value->Shared->Prop} {s:Shared} {κ:SortKind} {lt:Keyed->Keyed->Bool} {a0:Array Keyed}
theorem FL {i j:Nat} {Q:Unit->SortSt->Prop} {st:SortSt} (h:Q () (setArr st (mirror (arrOf st) i j ((j - i) / 2)))):wpS (model prog w) A E s (reverseSlice' i j) Q st:=by
 rw [reverseSlice'_eq];exact wpS_modify h
theorem NW {body:Nat->Option (Option Nat) × Nat->StateT SortSt Sem (ForInStep (Option (Option Nat) × Nat))} {f:Nat->Bool} {a nrem:Nat} {st:SortSt} (ha:a<=nrem)
  (hb:∀ x n (R:ForInStep (Option (Option Nat) × Nat)->SortSt->Prop),a<=n->n < nrem->(f n=true->R (.done (none,n)) st)->(f n=false->R (.yield (none,n + 1)) st)->wpS (model prog w) A E s (body x (none,n)) R st) :
  wpS (model prog w) A E s (forIn [a:nrem] (none,a) body) (fun c Bh=>Bh=st/\∃ n,c=(none,n)/\a<=n/\n<=nrem/\(∀ i,a<=i->i < n->f i=false)/\(n=nrem\/f n=true)) st:=by
 refine wpS_forRange (I:=fun x c Bh=>Bh=st/\c=(none,x)/\(∀ i,a<=i->i < x->f i=false)) ?_ ?_ ⟨rfl,rfl,fun i h1 h2=>by lia⟩
 ·rintro x c Bh h1 h2 ⟨rfl,rfl,q⟩;refine hb _ _ _ h1 h2 (fun e=>⟨rfl,x,rfl,h1,by lia,q,.inr e⟩) (fun e=>⟨rfl,rfl,fun i i1 i2=>?_⟩);by_cases z:i=x
  ·rw [z]; exact e
  ·exact q i i1 (by lia)
 ·rintro c Bh ⟨rfl,rfl,q⟩;rw [Nat.max_eq_right ha] at q ⊢;exact ⟨rfl,nrem,rfl,ha,Z4 _,q,.inl rfl⟩
end
section
variable {lt:Keyed->Keyed->Bool}
end
section
variable {prog:Program} {w:World} {A:Around} {E:Value->Shared->Prop} {s:Shared} {κ:SortKind} {lt:Keyed->Keyed->Bool} {a0:Array Keyed}
end
section
variable {prog:Program} {w:World} {A:Around} {E:Value->Shared->Prop} {s:Shared} {κ:SortKind} {lt:Keyed->Keyed->Bool} {a0:Array Keyed}
end
end L2
namespace L2
open PySem PySem.Spec PyProof.Rows
abbrev Bg:=Sum Int Str
def Jc:Bg->Value->Bool
 | .inl k,v=>Value.isInt k v
 | .inr x,v=>Value.isStrOf x v
def keyH (w:World):Bg->Int
 | .inl k=>hashInt k
 | .inr x=>hashStr w x
theorem Bs:∀ {k:Bg} {v:Value},Jc k v=true->(∃ i t,k=Sum.inl i/\v=Value.int i t)\/(∃ x t,k=Sum.inr x/\v=Value.str x t)
 | .inl i,v,h=>by
  obtain ⟨t,e⟩:=Value.isInt_shape (k:=i) (v:=v) h;exact .inl ⟨i,t,rfl,e⟩
 | .inr x,v,h=>by
  obtain ⟨t,e⟩:=Value.isStrOf_shape (x:=x) (v:=v) h;exact .inr ⟨x,t,rfl,e⟩
theorem PV (i:Int) (t:Tok):Jc (.inl i) (.int i t)=true:=by simp [Jc,Value.isInt]
theorem PU (x:Str) (t:Tok):Jc (.inr x) (.str x t)=true:=by simp [Jc,Value.isStrOf]
theorem Vt (a b:Int):decide ((Sum.inl a:Bg)=Sum.inl b)=(a == b):=by
 by_cases e:a=b
 ·subst e; simp
 ·have h:¬ (Sum.inl a:Bg)=Sum.inl b:=fun q=>e (Sum.inl.inj q)
  rw [decide_eq_false h];exact (beq_eq_false_iff_ne.mpr e).symm
theorem Vq (a b:Str):decide ((Sum.inr a:Bg)=Sum.inr b)=decide (a=b):=by
 by_cases e:a=b
 ·subst e; simp
 ·have h:¬ (Sum.inr a:Bg)=Sum.inr b:=fun q=>e (Sum.inr.inj q)
  rw [decide_eq_false h,decide_eq_false e]
theorem Vs (a:Int) (b:Str):decide ((Sum.inl a:Bg)=Sum.inr b)=false:=decide_eq_false (fun q=>nomatch q)
theorem Vr (a:Str) (b:Int):decide ((Sum.inr a:Bg)=Sum.inl b)=false:=decide_eq_false (fun q=>nomatch q)
def AS (prog:Program) (w:World):PySem.KeyKind prog w Bg where
 is:=Jc
 hash:=keyH w
 inj:=fun v a b ha hb=>by
  rcases Bs ha with ⟨i,t,rfl,rfl⟩ | ⟨x,t,rfl,rfl⟩
  ·rcases Bs hb with ⟨j,u,rfl,e⟩ | ⟨y,u,rfl,e⟩
   ·injection e with e1 _; rw [e1]
   ·exact nomatch e
  ·rcases Bs hb with ⟨j,u,rfl,e⟩ | ⟨y,u,rfl,e⟩
   ·exact nomatch e
   ·injection e with e1 _; rw [e1]
 byValue:=fun k v h=>by
  rcases Bs h with ⟨i,t,rfl,rfl⟩ | ⟨x,t,rfl,rfl⟩ <;> rfl
 pyHash:=fun hv h=>by
  rcases Bs hv with ⟨i,t,rfl,rfl⟩ | ⟨x,t,rfl,rfl⟩
  ·exact wpAny_pyHash_int h
  ·exact wpAny_pyHash_str h
 eqBool:=fun hu hv h=>by
  rcases Bs hu with ⟨i,t,rfl,rfl⟩ | ⟨x,t,rfl,rfl⟩
  ·rcases Bs hv with ⟨j,u,rfl,rfl⟩ | ⟨y,u,rfl,rfl⟩
   ·rw [Vt] at h; exact wpAny_eqBool_int h
   ·rw [Vs] at h; exact SeqAt.EqAt.int_str i t y u _ _ _ _ h
  ·rcases Bs hv with ⟨j,u,rfl,rfl⟩ | ⟨y,u,rfl,rfl⟩
   ·rw [Vr] at h; exact SeqAt.EqAt.str_int x t j u _ _ _ _ h
   ·rw [Vq] at h; exact wpAny_eqBool_str h
 «strs»:=fun k x t v h=>by
  rcases Bs h with ⟨i,u,rfl,e⟩ | ⟨y,u,rfl,e⟩
  ·exact nomatch e
  ·injection e with e1 _;subst e1;cases v <;> rfl
theorem Mv (prog:Program) (w:World) (i:Int) (t:Tok):(AS prog w).is (.inl i) (.int i t)=true:=PV i t
theorem Hy (prog:Program) (w:World) (x:Str) (t:Tok):(AS prog w).is (.inr x) (.str x t)=true:=PU x t
inductive V where
 | non | bl (b:Bool) | int (i:Int) | str (x:Str) | byt (b:Array UInt8) | flt (b:UInt64) | ref (a:Addr) | ty (n:String)
 deriving DecidableEq
def AF:V->Value->Prop
 | .non,u=>u=Value.none
 | .bl b,u=>u=Value.bool b
 | .int i,u=>∃ t,u=Value.int i t
 | .str x,u=>∃ t,u=Value.str x t
 | .byt b,u=>∃ t,u=Value.bytes b t
 | .flt b,u=>∃ t,u=Value.float b t
 | .ref a,u=>u=Value.ref a
 | .ty n,u=>u=Value.type n
abbrev A9:List V->List Value->Prop:=Paired AF
theorem A9.length {xs:List V} {us:List Value} (r:A9 xs us):xs.length=us.length:=Paired.length r
theorem A9.get:∀ {xs:List V} {us:List Value} {i:Nat} {x:V},A9 xs us->xs[i]? = some x->∃ u,us[i]? = some u/\AF x u
 | _,_,_,_,.nil,e=>by simp at e
 | _,_,0,_,.cons r _,e=>by simp at e; subst e; exact ⟨_,rfl,r⟩
 | _,_,i + 1,x,.cons _ t,e=>by
  obtain ⟨u,h1,h2⟩:=A9.get (i:=i) (x:=x) t (by simpa using e);exact ⟨u,by simpa using h1,h2⟩
theorem A9.set {x:V} {u:Value} (r:AF x u):∀ {xs:List V} {us:List Value} (i:Nat),A9 xs us->A9 (xs.set i x) (us.set i u)
 | _,_,_,.nil=>.nil
 | _,_,0,.cons _ t=>.cons r t
 | _,_,i + 1,.cons q t=>.cons q (A9.set r i t)
theorem A9.append:∀ {xs ys:List V} {us ws:List Value},A9 xs us->A9 ys ws->A9 (xs ++ ys) (us ++ ws)
 | _,_,_,_,.nil,s=>s
 | _,_,_,_,.cons r t,s=>.cons r (A9.append t s)
theorem A9.take:∀ {xs:List V} {us:List Value} (n:Nat),A9 xs us->A9 (xs.take n) (us.take n)
 | _,_,0,_=>.nil
 | _,_,_ + 1,.nil=>.nil
 | _,_,n + 1,.cons r t=>.cons r (A9.take n t)
theorem A9.drop:∀ {xs:List V} {us:List Value} (n:Nat),A9 xs us->A9 (xs.drop n) (us.drop n)
 | _,_,0,r=>r
 | _,_,_ + 1,.nil=>.nil
 | _,_,n + 1,.cons _ t=>A9.drop n t
def GJ:Option V->Option Value->Prop
 | some v,some u=>AF v u
 | none,none=>True
 | _,_=>False
def KV {κ:Type}:List (κ × V)->List (κ × Value)->Prop:=Paired fun (p:κ × V) (q:κ × Value)=>p.1=q.1/\AF p.2 q.2
def kV:Bg->V
 | .inl i=>.int i
 | .inr x=>.str x
inductive HO where
 /-- a list -/
 | lst (xs:List V)
 /-- a tuple (never changes) -/
 | tup (xs:List V)
 /-- a dict whose keys are ints and texts; one whose keys are tuples of ints and texts (the empty one is both) -/
 | dK (kvs:List (Bg × V)) | dT (kvs:List (List Bg × V))
 /-- a set of ints: Ax members,Ax size -/
 | set (S:Int->Bool) (n:Nat)
 /-- an instance of the class at C,Ax dict at dx,Ax attributes -/
 | ins (C dx:Addr) (fs:List (Str × V))
 /-- the dict of the instance at x -/
 | own (x:Addr)
 /-- the dict of an exception -/
 | xd (fs:List (Str × V))
 /-- a bound method,f of x -/
 | met (f x:Addr)
 /-- a range object lo,lo + 1,.. below hi -/
 | rng (lo hi:Int)
 /-- a thing that is known to the object (the script; a dict while a loop walks it): read,never written while it is so -/
 | frz (o:Obj) (u:HO)
 /-- a code Wz table -/
 | tbl (ps:Array Value)
 /-- any other thing,by what is true of Ax one object (a def of one's own: SetO a S n:=HO.ext fun h=>..) -/
 | ext (φ:Heap->Prop)
abbrev Hp:=Addr->Option HO
def upd (H:Hp) (a:Addr) (o:HO):Hp:=fun b=>if b=a then some o else H b
theorem Ab {H:Hp} {a:Addr} {o:HO}:upd H a o a=some o:=by unfold upd; rw [if_pos rfl]
theorem Ae {H:Hp} {a b:Addr} {o:HO} (h:b ≠ a):upd H a o b=H b:=by unfold upd; rw [if_neg h]
theorem FO {H:Hp} {a:Addr} {o u:HO}:upd (upd H a o) a u=upd H a u:=by
 funext b; unfold upd; split <;> rfl
theorem CN {H:Hp} {a b:Addr} {o u:HO} (h:H a=some o) (h':H b=some u) (d:o ≠ u):a ≠ b:=by
 intro e; subst e; rw [h] at h'; exact d (ZJ.inj h')
theorem Ah {H:Hp} {a b:Addr} {o:HO} (h:H a=some o) (h':H b=none):a ≠ b:=by
 intro e; subst e; rw [h] at h'; cases h'
def Lu (h:Heap) (a:Addr):Prop:=∀ o,h.get? a=some o->o.dict=none
theorem Lu.new {h:Heap} {o:Obj} (hd:o.dict=none) (hf:o.isFreed=false):Lu (h.push o) h.objs.size:=fun o' e=>by
 rw [Z5 _ hf] at e;cases e
 exact hd
section
variable (P:Program) (w:World)
def AO (H:Hp) (h:Heap) (a:Addr):HO->Prop
 | .lst xs=>xs.length<=sizeLine/\∃ (Ax:List Value) (n:Nat),A9 xs Ax/\h.get? a=some { cls:=.type "list",data:=.seq Ax.toArray n }
 | .tup xs=>xs.length<=sizeLine/\∃ Ax:List Value,A9 xs Ax/\IsTup h a Ax.toArray/\Lu h a
 | .dK kvs=>kvs.length<=sizeLine/\(a == sysModules)=false/\∃ vs,KV kvs vs/\h.DictOf (AS P w) a vs
 | .dT kvs=>kvs.length<=sizeLine/\(a == sysModules)=false/\∃ xs:List (List Bg × Addr × Value),
   Paired (fun (p:List Bg × V) (q:List Bg × Addr × Value)=>p.1=q.1/\H q.2.1=some (.tup (p.1.map kV))/\AF p.2 q.2.2) kvs xs /\
   ∃ o es ep,h.get? a=some o/\o.ExactDict/\o.data=.dict es ep/\es.toList=xs.map (entryOfKey (tupleKind (AS P w)))/\(xs.map (·.1)).Nodup
 | .set S n=>h.SetOf (intKind P w) a S n
 | .ins C dx fs=>H dx=some (.own a)/\fs.length<=1000/\dx ≠ a/\h.get? a=some (cx C dx) /\
   ∃ mA,h.Ns1 dx mA/\(∀ f,GJ (fs.lookup f) (mA f))/\PySem.Within mA (fs.map (·.1))
 | .own _=>∃ o,h.get? a=some o
 | .xd fs=>∃ mA,h.Ns1 a mA/\∀ f,GJ (fs.lookup f) (mA f)
 | .rng lo hi=>∃ t u v,h.get? a=some { cls:=.type "range",data:=.fields #[.int lo t,.int hi u,.int 1 v] }
 | .frz o u=>h.get? a=some o/\AO H h a u
 | .tbl ps=>h.get? a=some { cls:=.none,data:=.fields ps }
 | .met f x=>h.get? a=some (bY (.ref f) (.ref x))
 | .ext φ=>φ h/\(∃ o,h.get? a=some o)/\∀ h1 h2:Heap,φ h1->(∀ o,h1.get? a=some o->h2.get? a=some o)->φ h2
def FJ (H:Hp) (h:Heap):Prop:=∀ a o,H a=some o->AO P w H h a o
end
section
variable {P:Program} {w:World} {H H':Hp} {h h':Heap} {a:Addr} {o:HO}
theorem AO.lt (x:AO P w H h a o):a < h.objs.size:=by
 cases o with
 | lst xs=>obtain ⟨_,_,_,_,e⟩:=x; exact Z1 e
 | tup xs=>obtain ⟨_,_,_,p,_⟩:=x; exact p.lt
 | dK kvs=>obtain ⟨_,_,_,_,o,_,_,e,_⟩:=x; exact Z1 e
 | dT kvs=>obtain ⟨_,_,_,_,o,_,_,e,_⟩:=x; exact Z1 e
 | set S n=>obtain ⟨o,_,_,_,e,_⟩:=x; exact Z1 e
 | ins C dx fs=>obtain ⟨_,_,_,e,_⟩:=x; exact Z1 e
 | own y=>obtain ⟨_,e⟩:=x; exact Z1 e
 | xd fs=>obtain ⟨_,⟨_,_,_,e,_⟩,_⟩:=x; exact Z1 e
 | rng lo hi=>obtain ⟨_,_,_,e⟩:=x; exact Z1 e
 | frz ob u=>obtain ⟨e,_⟩:=x; exact Z1 e
 | tbl ps=>exact Z1 (show h.get? a=some _ from x)
 | met f y=>exact Z1 (show h.get? a=some _ from x)
 | ext φ=>obtain ⟨_,⟨_,e⟩,_⟩:=x; exact Z1 e
theorem Paired.mapP {α β:Type} {F G:α->β->Prop}:∀ {R1:List α} {Rz:List β},Paired F R1 Rz->(∀ a b,F a b->G a b)->Paired G R1 Rz
 | _,_,.nil,_=>.nil
 | _,_,.cons r t,f=>.cons (f _ _ r) (Paired.mapP t f)
theorem AO.stay (x:AO P w H h a o) (k:∀ b u,(b=a\/H b=some (.own a))->h.get? b=some u->h'.get? b=some u)
  (ho:∀ b,H b=some (.own a)->H' b=some (.own a)) (ht:∀ b xs,H b=some (.tup xs)->H' b=some (.tup xs)):AO P w H' h' a o:=by
 induction o with
 | lst xs=>obtain ⟨z,Ax,n,r,e⟩:=x; exact ⟨z,Ax,n,r,k _ _ (.inl rfl) e⟩
 | tup xs=>
  obtain ⟨z,Ax,r,⟨ob,e,c⟩,dn⟩:=x;have e':=k _ _ (.inl rfl) e;exact ⟨z,Ax,r,⟨ob,e',c⟩,fun o q=>by rw [e'] at q; cases q; exact dn _ e⟩
 | dK kvs=>obtain ⟨z,y,vs,r,ob,es,ep,e,c⟩:=x; exact ⟨z,y,vs,r,ob,es,ep,k _ _ (.inl rfl) e,c⟩
 | dT kvs=>
  obtain ⟨z,y,xs,r,ob,es,ep,e,c⟩:=x;exact ⟨z,y,xs,Paired.mapP r fun p q z=>⟨z.1,ht _ _ z.2.1,z.2.2⟩,ob,es,ep,k _ _ (.inl rfl) e,c⟩
 | set S n=>obtain ⟨ob,es,ep,t,e,c⟩:=x; exact ⟨ob,es,ep,t,k _ _ (.inl rfl) e,c⟩
 | ins C dx fs=>
  obtain ⟨d,z,ne,e,mA,⟨od,es,ep,e2,c⟩,r⟩:=x;exact ⟨ho _ d,z,ne,k _ _ (.inl rfl) e,mA,⟨od,es,ep,k _ _ (.inr d) e2,c⟩,r⟩
 | own y=>obtain ⟨ob,e⟩:=x; exact ⟨ob,k _ _ (.inl rfl) e⟩
 | xd fs=>obtain ⟨mA,⟨od,es,ep,e,c⟩,r⟩:=x; exact ⟨mA,⟨od,es,ep,k _ _ (.inl rfl) e,c⟩,r⟩
 | rng lo hi=>obtain ⟨t,u,v,e⟩:=x; exact ⟨t,u,v,k _ _ (.inl rfl) e⟩
 | frz ob u ih=>obtain ⟨e,q⟩:=x; exact ⟨k _ _ (.inl rfl) e,ih q⟩
 | tbl ps=>
  have e:h.get? a=some { cls:=.none,data:=.fields ps }:=x;show h'.get? a=some { cls:=.none,data:=.fields ps }
  exact k a _ (.inl rfl) e
 | met f y=>
  have e:h.get? a=some (bY (.ref f) (.ref y)):=x;show h'.get? a=some (bY (.ref f) (.ref y))
  exact k a _ (.inl rfl) e
 | ext φ=>obtain ⟨p,⟨o,e⟩,st⟩:=x; exact ⟨st _ _ p fun o q=>k _ _ (.inl rfl) q,⟨o,k _ _ (.inl rfl) e⟩,st⟩
theorem FJ.lt (x:FJ P w H h) (e:H a=some o):a < h.objs.size:=(x a o e).lt
theorem FJ.fresh (x:FJ P w H h) (e:h.objs.size<=a):H a=none:=by
 cases q:H a with
 | none=>rfl
 | some u=>exact absurd (ZF (x.lt q) e) (au _)
theorem FJ.kept (x:FJ P w H h) (k:∀ b u,h.get? b=some u->h'.get? b=some u):FJ P w H h':=fun a o e=>
 (x a o e).stay (fun b u _ q=>k b u q) (fun _ q=>q) fun _ _ q=>q
theorem FJ.laid (x:FJ P w H h) (k:∀ b u,h.get? b=some u->h'.get? b=some u) (hp:h.objs.size<=a) (new:AO P w (upd H a o) h' a o):FJ P w (upd H a o) h':=fun b u e=>by
 have hn:=x.fresh hp;by_cases hb:b=a
 ·subst hb; rw [Ab] at e; cases e; exact new
 ·rw [Ae hb] at e;exact (x b u e).stay (fun c v _ q=>k c v q) (fun c q=>by rw [Ae (Ah q hn)]; exact q) fun c xs q=>by rw [Ae (Ah q hn)]; exact q
end
def Rd (H:Hp) (a:Addr) (u:HO):Prop:=H a=some u\/∃ o,H a=some (.frz o u)
theorem Rd.ok {P:Program} {w:World} {H:Hp} {h:Heap} {a:Addr} {u:HO} (r:Rd H a u) (x:FJ P w H h):AO P w H h a u:=by
 rcases r with r | ⟨o,r⟩
 ·exact x a u r
 ·obtain ⟨_,q⟩:=x a _ r;exact q
def Mut:Option HO->Prop
 | some (.lst _)=>True
 | some (.dK _)=>True
 | some (.dT _)=>True
 | some (.set _ _)=>True
 | some (.ins _ _ _)=>True
 | some (.ext _)=>True
 | _=>False
section
variable {P:Program} {w:World} {H:Hp} {h h':Heap} {x e:Addr} {o':HO}
theorem FJ.write (ok:FJ P w H h) (mu:Mut (H x)) (he:e=x\/H e=some (.own x)) (k:∀ b u,b ≠ e->h.get? b=some u->h'.get? b=some u) (heo:∃ u,h'.get? e=some u)
  (new:AO P w (upd H x o') h' x o'):FJ P w (upd H x o') h':=fun b u q=>by
 have nown:∀ c y,H c=some (.own y)->c ≠ x:=fun c y r z=>by subst z; rw [r] at mu; exact mu
 have ntup:∀ c xs,H c=some (.tup xs)->c ≠ x:=fun c xs r z=>by subst z; rw [r] at mu; exact mu
 by_cases hb:b=x
 ·subst hb; rw [Ab] at q; cases q; exact new
 ·rw [Ae hb] at q;by_cases hbe:b=e
  ·have q':H b=some (.own x):=by
    rcases he with z | z
    ·exact absurd (hbe.trans z) hb
    ·rw [hbe]; exact z
   rw [q] at q'; cases q';obtain ⟨v,hv⟩:=heo;exact ⟨v,by rw [hbe]; exact hv⟩
  ·refine (ok b u q).stay (fun c v hc r=>k c v ?_ r) (fun c r=>by rw [Ae (nown c b r)]; exact r) fun c xs r=>by rw [Ae (ntup c xs r)]; exact r
   rcases hc with rfl | hc
   ·exact hbe
   ·rintro rfl;rcases he with z | z
    ·exact nown c b hc z
    ·rw [hc] at z; cases z; exact hb rfl
end
structure Un (fs ex:List Addr) (H H':Hp) (h h':Heap):Prop where
 keep:∀ b o,h.get? b=some o->H b=none->b ∉ fs->b ∉ ex->h'.get? b=some o
 slot:∀ b o,h.get? b=some o->H b=none->b ∈ fs->b ∉ ex->∃ sl,h'.get? b=some { o with slots:=sl }
 free:∀ b o,h.get? b=some o->H b=none->b ∉ ex->H' b=none
 there:∀ b o,h.get? b=some o->b ∉ ex->∃ o',h'.get? b=some o'
 tups:∀ b xs,H b=some (.tup xs)->H' b=some (.tup xs)
 frzs:∀ b o u,H b=some (.frz o u)->H' b=some (.frz o u)
 tbls:∀ b ps,H b=some (.tbl ps)->∃ more,H' b=some (.tbl (ps ++ more))
section
variable {fs fs' ex Wj:List Addr} {H H1 H2:Hp} {h h1 h2 h':Heap} {a x e:Addr} {o:HO}
theorem Un.any (u:Un fs ex H H1 h h1) {b:Addr} {ob:Obj} (q:h.get? b=some ob) (n:H b=none) (hx:b ∉ ex):∃ sl,h1.get? b=some { ob with slots:=sl }:=by
 by_cases hb:b ∈ fs
 ·exact u.slot b ob q n hb hx
 ·exact ⟨ob.slots,u.keep b ob q n hb hx⟩
theorem Un.kept (k:∀ b u,h.get? b=some u->h'.get? b=some u):Un fs ex H H h h':=
 ⟨fun b ob q _ _ _=>k b ob q,fun b ob q _ _ _=>⟨ob.slots,k b ob q⟩,fun _ _ _ n _=>n,fun b ob q _=>⟨ob,k b ob q⟩,fun _ _ q=>q,fun _ _ _ q=>q,fun _ ps q=>⟨#[],by rw [q]; simp⟩⟩
theorem Un.refl:Un fs ex H H h h:=Un.kept fun _ _ q=>q
theorem Un.laid (k:∀ b u,h.get? b=some u->h'.get? b=some u) (hp:h.objs.size<=a) (hn:H a=none):Un fs ex H (upd H a o) h h' where
 keep:=fun b u q _ _ _=>k b u q
 slot:=fun b u q _ _ _=>⟨u.slots,k b u q⟩
 free:=fun b u q n _=>by rw [Ae (Z8 (ZF (Z1 q) hp))]; exact n
 there:=fun b u q _=>⟨u,k b u q⟩
 tups:=fun b xs q=>by rw [Ae (Ah q hn)]; exact q
 frzs:=fun b u xs q=>by rw [Ae (Ah q hn)]; exact q
 tbls:=fun b ps q=>⟨#[],by rw [Ae (Ah q hn),q]; simp⟩
theorem Un.write (mu:Mut (H x)) (he:e=x\/H e=some (.own x)) (k:∀ b u,b ≠ e->h.get? b=some u->h'.get? b=some u) (heo:∃ u,h'.get? e=some u):Un fs ex H (upd H x o) h h':=by
 have hx:∀ b,H b=none->b ≠ x:=fun b n z=>by subst z; rw [n] at mu; exact mu
 have hb:∀ b,H b=none->b ≠ e:=fun b n z=>by
  subst z;rcases he with r | r
  ·exact hx b n r
  ·rw [n] at r; cases r
 have hm:∀ b u,H b=some u->¬ Mut (some u)->b ≠ x:=fun b u q nm z=>by subst z; rw [q] at mu; exact nm mu
 refine ⟨fun b u q n _ _=>k b u (hb b n) q,fun b u q n _ _=>⟨u.slots,k b u (hb b n) q⟩,fun b u q n _=>by rw [Ae (hx b n)]; exact n,fun b u q _=>?_,
  fun b xs q=>by rw [Ae (hm b _ q fun z=>z)]; exact q,fun b u xs q=>by rw [Ae (hm b _ q fun z=>z)]; exact q,fun b ps q=>⟨#[],by rw [Ae (hm b _ q fun z=>z),q]; simp⟩⟩
 by_cases hbe:b=e
 ·subst hbe; exact heo
 ·exact ⟨u,k b u hbe q⟩
end
def trk (h:Heap) (H:Hp):List Addr:=(ZW h.objs.size).filter fun a=>(H a).isSome
def Lh (h:Heap) (H:Hp):Heap:=PySem.W.hideAll h (trk h H)
theorem Qa (h:Heap) (H:Hp):(Lh h H).objs.size=h.objs.size:=PySem.W.hideAll_size _ _
theorem RI {h:Heap} {H:Hp} {b:Addr} {o:Obj} (e:h.get? b=some o) (n:H b=none):(Lh h H).get? b=some o:=
 PySem.W.hideAll_get _ e fun hm=>by
  have q:(H b).isSome=true:=(bu.mp hm).2;rw [n] at q; simp at q
theorem SQ {h:Heap} {H:Hp} {b:Addr} {o:Obj} (e:(Lh h H).get? b=some o):h.get? b=some o/\H b=none:=by
 have e':h.get? b=some o:=PySem.W.of_hideAll (trk h H) e;exists e';cases q:H b with
 | none=>rfl
 | some x=>
  have hm:b ∈ trk h H:=bu.mpr ⟨aH.mpr (Z1 e'),by simp [q]⟩;have z:(Lh h H).get? b=none:=PySem.W.hideAll_none (trk h H) hm;rw [z] at e; cases e
structure Mod (K:Zw) (mg:Str->Option Value) (base:Heap):Prop where
 kin:K.In base
 glob:base.Ns mainGlobals mg
 blt:∃ mb,base.Ns builtinsNs mb/\∀ x:Str,x ≠ "__name__"->mb x=bootBuiltins x
 nolimit:base.NoLimit
structure Cx where
 prog:Program
 w:World
 K:Zw
 mg:Str->Option Value
 base:Heap
 A:Around
 N:List Str
 s₀:Shared
 H₀:Hp
 env:Env
 outer:List Env
 stack:List Env
 ex:List Addr
 fn:Str->Bool
 calm:Bool
 pn:List (Addr × Obj)
 xe:Value->Shared->Prop
def RN (l:List Env):List Addr:=l.filterMap (·.frame)
abbrev Cx.fs (X:Cx):List Addr:=RN X.outer
def Vis (sc:Scope) (x:Str):Prop:=sc.names.lookup x=some .local\/sc.names.lookup x=some .cell\/sc.names.lookup x=some .free
def Wm (sc:Scope) (x:Str):Prop:=sc.names.lookup x=some .local\/sc.names.lookup x=some .cell
def Look (env:Env) (h:Heap) (m:Str->Option Value) (x:Str) (u:Value):Prop:=
 (env.kindOf x=some .local/\m x=some u)\/((env.kindOf x=some .cell\/env.kindOf x=some .free)/\∃ c,env.cells.lookup x=some c/\h.IsCell c (some u))
structure Cx.Ok (X:Cx):Prop where
 mod:Mod X.K X.mg X.base
 kind:X.env.scope.kind=.function
 glob:X.env.globals=mainGlobals
 blt:X.env.builtins=builtinsNs
 above:X.s₀.heap.objs.size<=X.env.locals
 inj:∀ x y c,X.env.cells.lookup x=some c->X.env.cells.lookup y=some c->x=y
 has:∀ x,(X.env.kindOf x=some .cell\/X.env.kindOf x=some .free)->∃ c,X.env.cells.lookup x=some c
 cab:∀ x c,X.fn x=true->X.env.cells.lookup x=some c->X.s₀.heap.objs.size<=c
 hd:X.calm=true->X.A.handled=none
 frames:X.A.frames=some X.stack
 stk:X.stack=X.outer\/(X.stack=X.env :: X.outer/\X.env.frame=some X.env.locals)
 exf:∀ b ∈ X.ex,b ≠ X.env.locals/\∀ x c,X.env.cells.lookup x=some c->c ≠ b
 bs:∀ b o,X.base.get? b=some o->X.s₀.heap.get? b=some o/\X.H₀ b=none
 bsz:X.base.objs.size<=X.s₀.heap.objs.size
 noex:∀ b o,X.base.get? b=some o->b ∉ X.ex
 exfs:∀ b ∈ X.ex,b ∉ X.fs
 funs:X.s₀.heap.FunFrames X.base X.outer
 frf:∀ b ∈ X.fs,X.H₀ b=none
structure Av (X:Cx) (pins:List (Addr × Obj)) (σ:List (Option V)) (H:Hp) (s:Shared):Prop where
 ok:X.Ok
 os:s.os=X.s₀.os
 bare:AllBare s.gens
 base:Un X.fs X.ex X.H₀ H X.s₀.heap s.heap
 loc:∃ m,s.heap.Ns X.env.locals m/\∀ (i:Nat) (x:Str) (v:V),X.N[i]? = some x->σ[i]? = some (some v)->Vis X.env.scope x->∃ u,AF v u/\Look X.env s.heap m x u
 cell:∀ x c,X.env.cells.lookup x=some c->∃ v,s.heap.IsCell c v
 free:H X.env.locals=none
 freeC:∀ x c,X.env.cells.lookup x=some c->H c=none
 pin:∀ p ∈ X.pn ++ pins,s.heap.get? p.1=some p.2/\H p.1=none/\p.1 ≠ X.env.locals/\p.1 ∉ X.fs/\∀ v,p.2.data ≠ .cell v
 hok:FJ X.prog X.w H s.heap
 len:σ.length=X.N.length
section
variable {X:Cx} {pins:List (Addr × Obj)} {σ:List (Option V)} {H H':Hp} {s:Shared} {h':Heap}
theorem Cx.Ok.nofr (ok:X.Ok) {b:Addr} {o:Obj} (e:X.base.get? b=some o):b ∉ X.fs:=fun hb=>by
 have:=(ok.funs.mem hb).1;rw [e] at this; cases this
theorem Av.bs (I:Av X pins σ H s):∀ b o,X.base.get? b=some o->s.heap.get? b=some o/\H b=none:=fun b o e=>
 ⟨I.base.keep b o (I.ok.bs b o e).1 (I.ok.bs b o e).2 (I.ok.nofr e) (I.ok.noex b o e),I.base.free b o (I.ok.bs b o e).1 (I.ok.bs b o e).2 (I.ok.noex b o e)⟩
theorem Av.bk (I:Av X pins σ H s):∀ b o,X.base.get? b=some o->s.heap.get? b=some o:=fun b o e=>(I.bs b o e).1
theorem Av.mod (I:Av X pins σ H s):Mod X.K X.mg X.base:=I.ok.mod
theorem Av.kIn (I:Av X pins σ H s):X.K.In s.heap:=I.ok.mod.kin.keeps I.bk
theorem Av.lt (I:Av X pins σ H s):X.env.locals < s.heap.objs.size:=let ⟨_,hn,_⟩:=I.loc; hn.lt
theorem Av.sz (I:Av X pins σ H s):X.s₀.heap.objs.size<=s.heap.objs.size:=ZS I.ok.above (cU I.lt)
theorem Av.nofs (I:Av X pins σ H s) {a:Addr} (h:s.heap.objs.size<=a):a ∉ X.fs:=fun hb=>by
 obtain ⟨_,o,ho,_⟩:=I.ok.funs.mem hb;exact absurd (ZF (Z1 ho) (ZS I.sz h)) (au _)
theorem Av.cne (I:Av X pins σ H s):∀ x c,X.env.cells.lookup x=some c->c ≠ X.env.locals:=fun x c e z=>by
 obtain ⟨v,o,ho,hd⟩:=I.cell x c e;obtain ⟨m,⟨o',es,ep,Im,Li,_⟩,_⟩:=I.loc;rw [z,Im] at ho; cases ho; rw [Li] at hd; cases hd
theorem Av.funs (I:Av X pins σ H s):s.heap.FunFrames X.base X.outer:=by
 have all:∀ (l:List Env),(∀ b ∈ RN l,b ∈ X.fs)->X.s₀.heap.FunFrames X.base l->s.heap.FunFrames X.base l:=by
  intro l;induction l with
  | nil=>intro _ _; trivial
  | cons env r ih=>
   intro hs hl;obtain ⟨hk,⟨L,o,hf,hn,ho,hd⟩,hr⟩:=hl;have hL:L ∈ X.fs:=hs L (by unfold RN; rw [bz,hf]; exact ZP);obtain ⟨sl,e⟩:=I.base.slot L o ho (I.ok.frf L hL) hL fun z=>I.ok.exfs L z hL
   exact ⟨hk,⟨L,_,hf,hn,e,hd⟩,ih (fun b hb=>hs b (by unfold RN; rw [bz,hf]; exact ZK _ hb)) hr⟩
 exact all X.outer (fun _ hb=>hb) I.ok.funs
theorem Av.stack (I:Av X pins σ H s):s.heap.FunFrames X.base X.stack:=by
 rcases I.ok.stk with e | ⟨e,hf⟩
 ·rw [e]; exact I.funs
 ·rw [e];obtain ⟨m,hn,_⟩:=I.loc;refine .cons (by rw [I.ok.kind]; decide) hf hn ?_ I.funs;exact Heap.get?_none_of_le (ZS I.ok.bsz I.ok.above)
theorem Av.stkSub (I:Av X pins σ H s):∀ b ∈ RN X.stack,b ∈ X.env.locals :: X.fs:=fun b hb=>by
 rcases I.ok.stk with e | ⟨e,hf⟩
 ·rw [e] at hb; exact ZK _ hb
 ·rw [e] at hb;unfold RN at hb;rw [bz,hf] at hb;exact hb
theorem Av.stkFree (I:Av X pins σ H s):∀ b ∈ RN X.stack,H b=none:=fun b hb=>by
 rcases Zz.mp (I.stkSub b hb) with e | hb
 ·rw [e]; exact I.free
 ·obtain ⟨_,o,ho,_⟩:=I.ok.funs.mem hb;exact I.base.free b o ho (I.ok.frf b hb) fun z=>I.ok.exfs b z hb
theorem Av.step {g':Array GenState} {t':Nat} {d':Drawn} {ch:List Addr} (I:Av X pins σ H s)
  (hch:∀ b ∈ ch,(b ∈ X.ex\/X.s₀.heap.objs.size<=b)/\b ≠ X.env.locals/\(∀ x c,X.env.cells.lookup x=some c->c ≠ b)/\∀ p ∈ X.pn ++ pins,p.1 ≠ b)
  (keep:∀ b o,b ≠ X.env.locals->b ∉ X.fs->b ∉ ch->s.heap.get? b=some o->H b=none->h'.get? b=some o)
  (slot:∀ b o,b ≠ X.env.locals->b ∈ X.fs->b ∉ ch->s.heap.get? b=some o->H b=none->∃ sl,h'.get? b=some { o with slots:=sl }) (free:∀ b o,b ∉ ch->s.heap.get? b=some o->H b=none->H' b=none)
  (there:∀ b o,b ∉ ch->s.heap.get? b=some o->∃ o',h'.get? b=some o')
  (tups:∀ b xs,H b=some (.tup xs)->H' b=some (.tup xs)) (frzs:∀ b o u,H b=some (.frz o u)->H' b=some (.frz o u)) (tbls:∀ b ps,H b=some (.tbl ps)->∃ more,H' b=some (.tbl (ps ++ more)))
  (ns:∀ m,s.heap.Ns X.env.locals m->h'.Ns X.env.locals m) (hok:FJ X.prog X.w H' h') (hg:AllBare g') :
  Av X pins σ H' { s with heap:=h',gens:=g',drawn:=d',toks:=t' }:=by
 have neL:∀ b o,X.s₀.heap.get? b=some o->b ≠ X.env.locals:=fun b o e=>Z8 (ZF (Z1 e) I.ok.above)
 have neC:∀ b o,X.s₀.heap.get? b=some o->b ∉ X.ex->b ∉ ch:=fun b o e hx hb=>by
  rcases (hch b hb).1 with z | z
  ·exact hx z
  ·exact absurd (ZF (Z1 e) z) (au _)
 have cellK:∀ x c,X.env.cells.lookup x=some c->∀ v,s.heap.IsCell c v->h'.IsCell c v:=fun x c e v ⟨o,ho,hd⟩=>by
  have nch:c ∉ ch:=fun z=>(hch c z).2.2.1 x c e rfl
  by_cases hc:c ∈ X.fs
  ·obtain ⟨sl,q⟩:=slot c o (I.cne x c e) hc nch ho (I.freeC x c e);exact ⟨_,q,hd⟩
  ·exact ⟨o,keep c o (I.cne x c e) hc nch ho (I.freeC x c e),hd⟩
 refine ⟨I.ok,I.os,hg,⟨fun b o e n hb hx=>?_,fun b o e n hb hx=>?_,fun b o e n hx=>?_,fun b o e hx=>?_,fun b xs e=>tups b xs (I.base.tups b xs e),fun b o xs e=>frzs b o xs (I.base.frzs b o xs e),fun b ps e=>?_⟩,?_,fun x c e=>?_,?_,fun x c e=>?_,fun p hp=>?_,hok,I.len⟩
 ·exact keep b o (neL b o e) hb (neC b o e hx) (I.base.keep b o e n hb hx) (I.base.free b o e n hx)
 ·obtain ⟨sl,e1⟩:=I.base.slot b o e n hb hx;obtain ⟨sl',e2⟩:=slot b _ (neL b o e) hb (neC b o e hx) e1 (I.base.free b o e n hx);exact ⟨sl',e2⟩
 ·obtain ⟨o',e1⟩:=I.base.there b o e hx;exact free b o' (neC b o e hx) e1 (I.base.free b o e n hx)
 ·obtain ⟨o',e1⟩:=I.base.there b o e hx;exact there b o' (neC b o e hx) e1
 ·obtain ⟨m1,e1⟩:=I.base.tbls b ps e;obtain ⟨m2,e2⟩:=tbls b _ e1;exact ⟨m1 ++ m2,by rw [e2,Array.append_assoc]⟩
 ·obtain ⟨m,hn,hl⟩:=I.loc;refine ⟨m,ns m hn,fun i x v e1 e2 e3=>?_⟩;obtain ⟨u,r,l⟩:=hl i x v e1 e2 e3;exists u,r;rcases l with l | ⟨k,c,e,z⟩
  ·exact .inl l
  ·exact .inr ⟨k,c,e,cellK x c e _ z⟩
 ·obtain ⟨v,z⟩:=I.cell x c e;exact ⟨v,cellK x c e v z⟩
 ·obtain ⟨m,⟨o,_,_,ho,_⟩,_⟩:=I.loc;exact free _ o (fun z=>(hch _ z).2.1 rfl) ho I.free
 ·obtain ⟨v,o,ho,hd⟩:=I.cell x c e;exact free c o (fun z=>(hch c z).2.2.1 x c e rfl) ho (I.freeC x c e)
 ·obtain ⟨e,n,ne,nf,d⟩:=I.pin p hp;have nch:p.1 ∉ ch:=fun z=>(hch p.1 z).2.2.2 p hp rfl
  exact ⟨keep p.1 p.2 ne nf nch e n,free p.1 p.2 nch e n,ne,nf,d⟩
theorem Av.un {t':Nat} (I:Av X pins σ H s) (u:Un X.fs [] H H' s.heap h') (hok:FJ X.prog X.w H' h'):Av X pins σ H' { s with heap:=h',toks:=t' }:=by
 obtain ⟨m,⟨o,es,ep,ho,r⟩,_⟩:=id I.loc;obtain ⟨sl,hL⟩:=u.any ho I.free (by simp);exact I.step (g':=s.gens) (d':=s.drawn) (ch:=[]) (fun _ z=>nomatch z) (fun b o _ hb _ e n=>u.keep b o e n hb (by simp)) (fun b o _ hb _ e n=>u.slot b o e n hb (by simp)) (fun b o _ e n=>u.free b o e n (by simp)) (fun b o _ e=>u.there b o e (by simp)) u.tups u.frzs u.tbls (fun m' hm=>by
  obtain ⟨o',Yd,Ut,Im,r'⟩:=hm;rw [ho] at Im; cases Im;exact ⟨_,Yd,Ut,hL,r'⟩) hok I.bare
theorem Av.call {g':Array GenState} {t':Nat} {d':Drawn} {ch:List Addr} (I:Av X pins σ H s) (u:Un (RN X.stack) ch H H' s.heap h') (hok:FJ X.prog X.w H' h') (hg:AllBare g')
  (hch:∀ b ∈ ch,(b ∈ X.ex\/X.s₀.heap.objs.size<=b)/\b ≠ X.env.locals/\(∀ x c,X.env.cells.lookup x=some c->c ≠ b)/\∀ p ∈ X.pn ++ pins,p.1 ≠ b) :
  Av X pins σ H' { s with heap:=h',gens:=g',drawn:=d',toks:=t' }:=by
 obtain ⟨m,⟨o,es,ep,ho,r⟩,_⟩:=id I.loc;obtain ⟨sl,hL⟩:=u.any ho I.free fun z=>(hch _ z).2.1 rfl
 exact I.step (ch:=ch) hch (fun b o hL hb hc e n=>u.keep b o e n (fun z=>(Zz.mp (I.stkSub b z)).elim hL hb) hc) (fun b o _ _ hc e n=>u.any e n hc) (fun b o hc e n=>u.free b o e n hc) (fun b o hc e=>u.there b o e hc) u.tups u.frzs u.tbls (fun m' hm=>by
  obtain ⟨o',Yd,Ut,Im,r'⟩:=hm;rw [ho] at Im; cases Im;exact ⟨_,Yd,Ut,hL,r'⟩) hok hg
theorem Av.turned {t':Nat} {it:Addr} (I:Av X pins σ H s) (k:∀ b o,b ≠ it->s.heap.get? b=some o->h'.get? b=some o) (hn:H it=none) (hL:it ≠ X.env.locals)
  (h1:it ∈ X.ex\/X.s₀.heap.objs.size<=it) (h2:∀ x c,X.env.cells.lookup x=some c->c ≠ it) (h3:∀ p ∈ X.pn ++ pins,p.1 ≠ it):Av X pins σ H { s with heap:=h',toks:=t' }:=by
 have nit:∀ b u,H b=some u->b ≠ it:=fun b u e z=>by rw [z,hn] at e; cases e
 refine I.step (g':=s.gens) (d':=s.drawn) (ch:=[it]) (fun b hb=>?_) (fun b o _ _ hc e _=>k b o (fun z=>hc (by simp [z])) e) (fun b o _ _ hc e _=>⟨o.slots,k b o (fun z=>hc (by simp [z])) e⟩) (fun _ _ _ _ n=>n)
  (fun b o hc e=>⟨o,k b o (fun z=>hc (by simp [z])) e⟩) (fun _ _ e=>e) (fun _ _ _ e=>e) (fun b ps e=>⟨#[],by rw [e]; simp⟩) (fun m hm=>?_) (fun b u e=>?_) I.bare
 ·have e:b=it:=by simpa using hb
  subst e;exact ⟨h1,hL,h2,h3⟩
 ·obtain ⟨o,es,ep,ho,r⟩:=hm;exact ⟨o,es,ep,k _ o (Ne.symm hL) ho,r⟩
 ·refine (I.hok b u e).stay (fun c v hc q=>k c v ?_ q) (fun _ q=>q) fun _ _ q=>q
  rcases hc with z | z
  ·rw [z]; exact nit b u e
  ·exact nit c _ z
theorem Av.tok (I:Av X pins σ H s) (t:Nat):Av X pins σ H { s with toks:=t }:=I.un (h':=s.heap) (t':=t) Un.refl I.hok
theorem Av.kept {t':Nat} (I:Av X pins σ H s) (k:∀ b u,s.heap.get? b=some u->h'.get? b=some u):Av X pins σ H { s with heap:=h',toks:=t' }:=I.un (Un.kept k) (I.hok.kept k)
theorem Av.laid {a:Addr} {o:HO} {t':Nat} (I:Av X pins σ H s) (k:∀ b u,s.heap.get? b=some u->h'.get? b=some u) (hp:s.heap.objs.size<=a) (new:AO X.prog X.w (upd H a o) h' a o) :
  Av X pins σ (upd H a o) { s with heap:=h',toks:=t' }:=I.un (Un.laid k hp (I.hok.fresh hp)) (I.hok.laid k hp new)
theorem Av.write {x e:Addr} {o:HO} {t':Nat} (I:Av X pins σ H s) (mu:Mut (H x)) (he:e=x\/H e=some (.own x)) (k:∀ b u,b ≠ e->s.heap.get? b=some u->h'.get? b=some u) (heo:∃ u,h'.get? e=some u)
  (new:AO X.prog X.w (upd H x o) h' x o):Av X pins σ (upd H x o) { s with heap:=h',toks:=t' }:=I.un (Un.write mu he k heo) (I.hok.write mu he k heo new)
theorem Av.pins_of {TU:List (Addr × Obj)} (I:Av X pins σ H s) (h:∀ p ∈ TU,s.heap.get? p.1=some p.2/\H p.1=none/\p.1 ≠ X.env.locals/\p.1 ∉ X.fs/\∀ v,p.2.data ≠ .cell v):Av X TU σ H s:=
 ⟨I.ok,I.os,I.bare,I.base,I.loc,I.cell,I.free,I.freeC,fun p hp=>(Z9.mp hp).elim (fun z=>I.pin p (ay _ z)) (h p),I.hok,I.len⟩
theorem IU {N:List Str} (hN:N.Nodup) {i j:Nat} {x:Str} (a:N[i]? = some x) (b:N[j]? = some x):i=j:=by
 obtain ⟨h1,e1⟩:=Z2.mp a;obtain ⟨h2,e2⟩:=Z2.mp b;exact (dN hN).mp (e1.trans e2.symm)
theorem Gp {M:Model} {A:Around} {E:Value->Shared->Prop} {i:Nat} {x:Str} {v:V} {u:Value} {Q:Unit->Shared->Prop} (I:Av X pins σ H s) (hN:X.N.Nodup) (hi:X.N[i]? = some x) (hx:Wm X.env.scope x) (r:AF v u)
  (h:∀ s',Av X pins (σ.set i (some v)) H s'->(∃ a,Heap.SameBut a s.heap s'.heap/\(a=X.env.locals\/X.env.cells.lookup x=some a))->Q () s') (hf:X.fn x=true\/X.env.scope.names.lookup x=some .local:=by first | exact .inl rfl | exact .inr rfl | assumption):wpAny M A (storeName X.env x u) Q E s:=by
 obtain ⟨m,hn,hl⟩:=id I.loc;have hcls:(X.env.scope.kind == .class || (X.env.scope.kind == .module && X.env.locals != X.env.globals))=false:=by rw [I.ok.kind]; rfl
 have hiσ:i < σ.length:=by rw [I.len]; exact (Z2.mp hi).1
 have cne:=I.cne;have tracked:∀ {a:Addr} {h':Heap},(∃ o,s.heap.get? a=some o/\H a=none)->Heap.SameBut a s.heap h'->FJ X.prog X.w H h':=fun {a h'} ha hs b ob e=>by
  obtain ⟨_,_,hfree⟩:=ha;refine (I.hok b ob e).stay (fun c w' hc q=>(hs.2 c ?_).trans q) (fun _ q=>q) fun _ _ q=>q
  rintro rfl;rcases hc with rfl | hc
  ·rw [hfree] at e; cases e
  ·rw [hfree] at hc; cases hc
 rcases hx with hk | hk
 ·refine wpAny_storeName_local hk hn (fun h' X9 hs=>?_) hcls;obtain ⟨oL,_,_,hoL,_⟩:=id hn;refine h _ ⟨I.ok,I.os,I.bare,⟨fun b o e n hb hx=>?_,fun b o e n hb hx=>?_,I.base.free,fun b o e hx=>?_,I.base.tups,I.base.frzs,I.base.tbls⟩,⟨_,X9,fun j y v' e1 e2 e3=>?_⟩,fun y c e=>?_,I.free,I.freeC,fun p hp=>?_,tracked ⟨oL,hoL,I.free⟩ hs,by simpa using I.len⟩ ⟨_,hs,.inl rfl⟩
  ·exact (hs.2 b (Z8 (ZF (Z1 e) I.ok.above))).trans (I.base.keep b o e n hb hx)
  ·obtain ⟨sl,e1⟩:=I.base.slot b o e n hb hx;exact ⟨sl,(hs.2 b (Z8 (ZF (Z1 e) I.ok.above))).trans e1⟩
  ·obtain ⟨o',e1⟩:=I.base.there b o e hx;exact ⟨o',(hs.2 b (Z8 (ZF (Z1 e) I.ok.above))).trans e1⟩
  ·by_cases hj:j=i
   ·subst hj;rw [hi] at e1; cases e1;rw [cS hiσ] at e2;cases e2
    exact ⟨u,r,.inl ⟨hk,by simp⟩⟩
   ·rw [cX (Ne.symm hj)] at e2;obtain ⟨u',r',q⟩:=hl j y v' e1 e2 e3;exists u',r';rcases q with ⟨k,e⟩ | ⟨k,c,e,z⟩
    ·refine .inl ⟨k,?_⟩;have:y ≠ x:=fun e=>hj (IU hN e1 (e ▸ hi))
     simp [this,e]
    ·exact .inr ⟨k,c,e,z.sameBut hs (cne y c e)⟩
  ·obtain ⟨w',z⟩:=I.cell y c e;exact ⟨w',z.sameBut hs (cne y c e)⟩
  ·obtain ⟨e,n,ne,nf,d⟩:=I.pin p hp;exact ⟨(hs.2 p.1 ne).trans e,n,ne,nf,d⟩
 ·have hfn:X.fn x=true:=by
   rcases hf with z | z
   ·exact z
   ·rw [z] at hk; cases hk
  obtain ⟨c,hc⟩:=I.ok.has x (.inl hk);obtain ⟨w',z⟩:=I.cell x c hc;refine wpAny_storeName_cell I.ok.kind hk hc z (fun h' MK hs=>?_);obtain ⟨oc,hoc,hocd⟩:=id z;refine h { s with heap:=h' } ⟨I.ok,I.os,I.bare,⟨fun b o e n hb hx=>?_,fun b o e n hb hx=>?_,I.base.free,fun b o e hx=>?_,I.base.tups,I.base.frzs,I.base.tbls⟩,⟨m,hn.sameBut hs (Ne.symm (cne x c hc)),fun j y v' e1 e2 e3=>?_⟩,fun y c' e=>?_,I.free,I.freeC,fun p hp=>?_,tracked ⟨oc,hoc,I.freeC x c hc⟩ hs,by simpa using I.len⟩ ⟨c,hs,.inr hc⟩
  ·exact (hs.2 b (Z8 (ZF (Z1 e) (I.ok.cab x c hfn hc)))).trans (I.base.keep b o e n hb hx)
  ·obtain ⟨sl,e1⟩:=I.base.slot b o e n hb hx;exact ⟨sl,(hs.2 b (Z8 (ZF (Z1 e) (I.ok.cab x c hfn hc)))).trans e1⟩
  ·obtain ⟨o',e1⟩:=I.base.there b o e hx;exact ⟨o',(hs.2 b (Z8 (ZF (Z1 e) (I.ok.cab x c hfn hc)))).trans e1⟩
  ·by_cases hj:j=i
   ·subst hj;rw [hi] at e1; cases e1;rw [cS hiσ] at e2;cases e2
    exact ⟨u,r,.inr ⟨.inl hk,c,hc,MK⟩⟩
   ·rw [cX (Ne.symm hj)] at e2;obtain ⟨u',r',q⟩:=hl j y v' e1 e2 e3;exists u',r';rcases q with q | ⟨k,c',e,z'⟩
    ·exact .inl q
    ·refine .inr ⟨k,c',e,z'.sameBut hs ?_⟩;rintro rfl;exact hj (IU hN e1 (I.ok.inj _ _ _ e hc ▸ hi))
  ·by_cases hcc:c'=c
   ·subst hcc; exact ⟨_,MK⟩
   ·obtain ⟨w2,z2⟩:=I.cell y c' e;exact ⟨w2,z2.sameBut hs hcc⟩
  ·obtain ⟨e,n,ne,nf,d⟩:=I.pin p hp;refine ⟨(hs.2 p.1 ?_).trans e,n,ne,nf,d⟩;intro q;rw [q,hoc] at e;have q':oc=p.2:=ZJ.inj e;exact d w' (by rw [<-q']; exact hocd)
theorem LI {M:Model} {A:Around} {E:Value->Shared->Prop} {i:Nat} {x:Str} {v:V} {u:Value} {Q:Unit->Shared->Prop} (I:Av X pins σ H s) (hN:X.N.Nodup) (hi:X.N[i]? = some x) (hx:Wm X.env.scope x) (r:AF v u)
  (h:∀ s',Av X pins (σ.set i (some v)) H s'->Q () s') (hf:X.fn x=true\/X.env.scope.names.lookup x=some .local:=by first | exact .inl rfl | exact .inr rfl | assumption):wpAny M A (storeName X.env x u) Q E s:=
 Gp I hN hi hx r (fun s' I' _=>h s' I') hf
theorem Av.call' {s':Shared} {ch:List Addr} (I:Av X pins σ H s) (ho:s'.os=s.os) (u:Un (RN X.stack) ch H H' s.heap s'.heap) (hok:FJ X.prog X.w H' s'.heap) (hg:AllBare s'.gens)
  (hch:∀ b ∈ ch,(b ∈ X.ex\/X.s₀.heap.objs.size<=b)/\b ≠ X.env.locals/\(∀ x c,X.env.cells.lookup x=some c->c ≠ b)/\∀ p ∈ X.pn ++ pins,p.1 ≠ b):Av X pins σ H' s':=by
 obtain ⟨h',g',d',t',o'⟩:=s';have e:o'=s.os:=ho;subst e;exact I.call (g':=g') (t':=t') (d':=d') u hok hg hch
end
abbrev XK:=Value->Option Addr->Hp->Prop
abbrev St:=List (Option V)
abbrev VK:=V->Hp->Prop
abbrev TE:=St->Hp->VK->Prop
abbrev TT:=St->Hp->(Bool->Hp->Prop)->Prop
abbrev TA:=St->Hp->(List V->Hp->Prop)->Prop
structure Fi where
 nx:St->Hp->Prop
 rt:VK
 bk:St->Hp->Prop:=fun _ _=>False
 ct:St->Hp->Prop:=fun _ _=>False
abbrev TS:=Fi->St->Hp->Prop
def EP (X:Cx) (pins:List (Addr × Obj)) (σ:St) (Q:VK) (u:Value) (s':Shared):Prop:=∃ v H',Av X pins σ H' s'/\AF v u/\Q v H'
def TP (X:Cx) (pins:List (Addr × Obj)) (σ:St) (Q:Bool->Hp->Prop) (b:Bool) (s':Shared):Prop:=∃ H',Av X pins σ H' s'/\Q b H'
def AP (X:Cx) (pins:List (Addr × Obj)) (σ:St) (Q:List V->Hp->Prop) (us:List Value) (s':Shared):Prop:=∃ vs H',Av X pins σ H' s'/\A9 vs us/\Q vs H'
def SP (X:Cx) (pins:List (Addr × Obj)) (D:Fi) (f:Flow) (s':Shared):Prop:=
 match f with
 | .next=>∃ Ay H',Av X pins Ay H' s'/\D.nx Ay H'
 | .brk=>∃ Ay H',Av X pins Ay H' s'/\D.bk Ay H'
 | .cont=>∃ Ay H',Av X pins Ay H' s'/\D.ct Ay H'
 | .ret u=>∃ v Ay H',Av X pins Ay H' s'/\AF v u/\D.rt v H'
def PE (X:Cx) (e:Expr) (t:TE):Prop:=
 ∀ ⦃pins:List (Addr × Obj)⦄ (s:Shared) (σ:St) (H:Hp) (Q:VK),Av X pins σ H s->t σ H Q->wpAny (model X.prog X.w) X.A (eval e X.env) (EP X pins σ Q) X.xe s
def PT (X:Cx) (e:Expr) (t:TT):Prop:=
 ∀ ⦃pins:List (Addr × Obj)⦄ (s:Shared) (σ:St) (H:Hp) (Q:Bool->Hp->Prop),Av X pins σ H s->t σ H Q->wpAny (model X.prog X.w) X.A (isTrue e X.env (eval e X.env)) (TP X pins σ Q) X.xe s
def PW (X:Cx) (e:Expr) (t:TT):Prop:=
 ∀ ⦃whole:Sem Value⦄ (pins:List (Addr × Obj)) (s:Shared) (σ:St) (H:Hp) (Q:Bool->Hp->Prop),Av X pins σ H s->t σ H Q->wpAny (model X.prog X.w) X.A (isTrue e X.env whole) (TP X pins σ Q) X.xe s
theorem PW.pt {X:Cx} {e:Expr} {t:TT} (h:PW X e t):PT X e t:=@h _
def PA (X:Cx) (es:List Expr) (t:TA):Prop:=
 ∀ ⦃pos:Pos⦄ (pins:List (Addr × Obj)) (s:Shared) (σ:St) (H:Hp) (Q:List V->Hp->Prop),Av X pins σ H s->t σ H Q->wpAny (model X.prog X.w) X.A (spliced (backTo pos (starEach es X.env))) (AP X pins σ Q) X.xe s
def PS (X:Cx) (st:Stmt) (t:TS):Prop:=
 ∀ ⦃pins:List (Addr × Obj)⦄ (s:Shared) (σ:St) (H:Hp) (D:Fi),Av X pins σ H s->t D σ H->wpAny (model X.prog X.w) X.A (exec st X.env) (SP X pins D) X.xe s
def MP (X:Cx) (st:List Stmt) (t:TS):Prop:=
 ∀ ⦃pins:List (Addr × Obj)⦄ (s:Shared) (σ:St) (H:Hp) (D:Fi),Av X pins σ H s->t D σ H->wpAny (model X.prog X.w) X.A (execs st X.env) (SP X pins D) X.xe s
theorem By {α:Type} {t:Sem α} {Q Q':α->Shared->Prop} {M:Model} {A:Around} {E:Value->Shared->Prop} {s:Shared} (h:wpAny M A t Q E s) (hQ:∀ a s,Q a s->Q' a s):wpAny M A t Q' E s:=wpAny_mono h hQ fun _ _ x=>x
section
variable {X:Cx}
def QD (i:Nat):TE:=fun σ H Q=>∃ v,σ[i]? = some (some v)/\Q v H
def tC (v:V):TE:=fun _ H Q=>Q v H
theorem Vc {i:Nat} {x:Str} {pos:Pos} (hN:X.N[i]? = some x) (hv:Vis X.env.scope x) (hd:(x == ("__debug__":Str))=false:=by decide) (hcd:(x == ("__classdict__":Str))=false:=by decide):PE X (.Name x pos) (QD i):=by
 intro pins s σ H Q I h;obtain ⟨v,e,h⟩:=h;obtain ⟨m,hn,hl⟩:=I.loc;obtain ⟨u,r,l⟩:=hl i x v hN e hv;have fin:EP X pins σ Q u s:=⟨v,H,I,r,h⟩
 rcases l with ⟨hk,hm⟩ | ⟨hk,c,hc,hcell⟩
 ·exact wpAny_Name (wpAny_loadName_local I.ok.kind hk hn hm fin) hd
 ·rcases hk with hk | hk
  ·exact wpAny_Name (wpAny_loadName_cell I.ok.kind hk hc hcell fin) hd
  ·exact wpAny_Name (wpAny_loadName_free I.ok.kind hk hc hcell fin hcd) hd
theorem Af {i j pos}:PE X (.Constant (.int i) j pos) (tC (.int i)):=fun _ _ _ H _ I h=>wpAny_Constant_int ⟨.int i,H,I.tok _,⟨_,rfl⟩,h⟩
theorem DL {b j pos}:PE X (.Constant (.bool b) j pos) (tC (.bl b)):=fun _ _ _ H _ I h=>Constant_bool ⟨.bl b,H,I,rfl,h⟩
theorem E3 {j pos}:PE X (.Constant .none j pos) (tC .non):=fun _ _ _ H _ I h=>Constant_none ⟨.non,H,I,rfl,h⟩
theorem Du {x j pos}:PE X (.Constant (.str x) j pos) (tC (.str x)):=fun _ _ _ H _ I h=>Calls.Constant_str ⟨.str x,H,I.tok _,⟨_,rfl⟩,h⟩
def Gl (X:Cx) (x:Str):Prop:=X.env.kindOf x=some .globalImplicit
theorem O1 {E:Value->Shared->Prop} {pins:List (Addr × Obj)} {s:Shared} {σ:St} {H:Hp} {x:Str} {u:Value} {pos:Pos} {Q:Value->Shared->Prop} (I:Av X pins σ H s) (hg:Gl X x) (hm:X.mg x=some u) (h:Q u s)
  (hd:(x == ("__debug__":Str))=false:=by decide):wpAny (model X.prog X.w) X.A (eval (.Name x pos) X.env) Q E s:=
 Calls.Name_function_global I.ok.kind hg (Calls.loadGlobal_global (by rw [I.ok.glob]; exact I.mod.glob.keeps I.bk) hm h) hd
theorem G4 {E:Value->Shared->Prop} {pins:List (Addr × Obj)} {s:Shared} {σ:St} {H:Hp} {x:Str} {u:Value} {pos:Pos} {Q:Value->Shared->Prop} (I:Av X pins σ H s) (hg:Gl X x) (hm:X.mg x=none) (hv:bootBuiltins x=some u) (h:Q u s)
  (hn:x ≠ "__name__":=by decide) (hd:(x == ("__debug__":Str))=false:=by decide):wpAny (model X.prog X.w) X.A (eval (.Name x pos) X.env) Q E s:=by
 obtain ⟨mb,h1,h2⟩:=I.mod.blt;exact Calls.Name_function_global I.ok.kind hg (Calls.loadGlobal_builtin (by rw [I.ok.glob]; exact I.mod.glob.keeps I.bk) hm (by rw [I.ok.blt]; exact h1.keeps I.bk) ((h2 x hn).trans hv) h) hd
theorem SI {x:Str} {v:V} {u:Value} {pos:Pos} (hg:Gl X x) (hm:X.mg x=some u) (r:AF v u) (hd:(x == ("__debug__":Str))=false:=by decide):PE X (.Name x pos) (tC v):=
 fun _ _ _ H _ I h=>O1 I hg hm ⟨v,H,I,r,h⟩ hd
theorem E4 {x:Str} {v:V} {u:Value} {pos:Pos} (hg:Gl X x) (hm:X.mg x=none) (hv:bootBuiltins x=some u) (r:AF v u) (hn:x ≠ "__name__":=by decide) (hd:(x == ("__debug__":Str))=false:=by decide):PE X (.Name x pos) (tC v):=
 fun _ _ _ H _ I h=>G4 I hg hm hv ⟨v,H,I,r,h⟩ hn hd
variable {a b:Expr} {ta tb:TE} {pos:Pos}
def PC (X:Cx) (op:CmpOp) (a b:Expr) (t:TE):Prop:=
 ∀ ⦃pins:List (Addr × Obj)⦄ (s:Shared) (σ:St) (H:Hp) (Q:VK),Av X pins σ H s->t σ H Q ->
  wpAny (model X.prog X.w) X.A (eval a X.env) (fun v AR=>wpAny (model X.prog X.w) X.A (eval b X.env) (fun u EI=>wpAny (model X.prog X.w) X.A (compareOp op v u) (EP X pins σ Q) X.xe EI) X.xe AR) X.xe s
theorem Mr (b:Expr) {op:CmpOp} (h:op ≠ .In) (h2:op ≠ .NotIn):behindInMarks op b=false:=by
 have e1:(op == CmpOp.In)=false:=by cases op <;> first | rfl | exact absurd rfl h
 have e2:(op == CmpOp.NotIn)=false:=by cases op <;> first | rfl | exact absurd rfl h2
 cases b <;> simp [behindInMarks,e1,e2]
def tIsN (ta:TE):TE:=fun σ H Q=>ta σ H fun x H1=>Q (.bl (decide (x=.non))) H1
def tNotN (ta:TE):TE:=fun σ H Q=>ta σ H fun x H1=>Q (.bl (!decide (x=.non))) H1
theorem AF.none_iff {x:V} {v:Value} (r:AF x v):(v == Value.none)=decide (x=.non):=by
 cases x with
 | non=>cases r; rfl
 | bl _=>cases r; rfl
 | int _=>obtain ⟨t,rfl⟩:=r; rfl
 | str _=>obtain ⟨t,rfl⟩:=r; rfl
 | byt _=>obtain ⟨t,rfl⟩:=r; rfl
 | flt _=>obtain ⟨t,rfl⟩:=r; rfl
 | ref _=>cases r; rfl
 | ty _=>cases r; rfl
theorem Nl {j pos'} (ha:PE X a ta):PC X .Is a (.Constant .none j pos') (tIsN ta):=by
 intro pins s σ H Q I h;refine By (ha (pins:=pins) s σ H _ I h) fun v s1 ⟨x,H1,I1,r1,q1⟩=>?_
 exact Constant_none (is_none_gen ⟨.bl _,H1,I1,by rw [r1.none_iff]; rfl,q1⟩)
theorem Ih {j pos'} (ha:PE X a ta):PC X .IsNot a (.Constant .none j pos') (tNotN ta):=by
 intro pins s σ H Q I h;refine By (ha (pins:=pins) s σ H _ I h) fun v s1 ⟨x,H1,I1,r1,q1⟩=>?_
 exact Constant_none (isnot_none_gen ⟨.bl _,H1,I1,by rw [r1.none_iff]; rfl,q1⟩)
def tB (t:TE):TT:=fun σ H Q=>t σ H fun x H1=>∃ c,x=.bl c/\Q c H1
theorem KO {op:CmpOp} {t:TE} (h:PC X op a b t) (h1:behindInMarks op b=false:=by first | exact Mr _ (by decide) (by decide) | rfl):PE X (.Compare a [op] [b] pos) t:=fun pins s σ H Q I hw=>wpAny_Compare1 (h (pins:=pins) s σ H Q I hw) h1
theorem IL {op:CmpOp} {t:TE} (h:PC X op a b t) (h1:behindInMarks op b=false:=by first | exact Mr _ (by decide) (by decide) | rfl):PT X (.Compare a [op] [b] pos) (tB t):=by
 intro pins s σ H Q I hw;refine wpAny_isTrue_Compare1 (By (h (pins:=pins) s σ H _ I hw) fun v s1 h1=>By h1 fun u s2 h2=>By h2 fun c s3 ⟨x,H1,I1,r1,q1⟩=>?_) h1;obtain ⟨d,rfl,q⟩:=q1;cases r1
 exact wpAny_truthy_bool ⟨H1,I1,q⟩
theorem Gu {e:Expr} {t:TE} (h:PE X e t) (he:∀ whole,isTrue e X.env whole=(do let v <- whole; standAt e.pos; holding [v] (truthy v)):=by intro _; rfl):PT X e (tB t):=by
 intro pins s σ H Q I hw;refine isTrue_plain (By (h (pins:=pins) s σ H _ I hw) fun v s1 ⟨x,H1,I1,r1,q1⟩=>?_) (he _);obtain ⟨d,rfl,q⟩:=q1;cases r1
 exact wpAny_truthy_bool ⟨H1,I1,q⟩
variable {tA Xu:TT} {rest:List Expr}
def tAnd (t u:TT):TT:=fun σ H Q=>t σ H fun c H1=>if c=true then u σ H1 Q else Q false H1
def tOr (t u:TT):TT:=fun σ H Q=>t σ H fun c H1=>if c=true then Q true H1 else u σ H1 Q
def tNot (t:TT):TT:=fun σ H Q=>t σ H fun c H1=>Q (!c) H1
theorem Oq (ha:PT X a tA):PW X (.BoolOp .And [a] pos) tA:=by
 intro wh pins s σ H Q I h;refine isTrue_and (By (ha (pins:=pins) s σ H Q I h) fun c s1 e=>?_);cases c with
 | true=>exact isTrue_and_nil e
 | false=>exact e
theorem Gs (ha:PT X a tA):PW X (.BoolOp .Or [a] pos) tA:=by
 intro wh pins s σ H Q I h;refine isTrue_or (By (ha (pins:=pins) s σ H Q I h) fun c s1 e=>?_);cases c with
 | false=>exact isTrue_or_nil e
 | true=>exact e
theorem Ng (ha:PT X a tA) (hb:PW X (.BoolOp .And (b :: rest) pos) Xu):PW X (.BoolOp .And (a :: b :: rest) pos) (tAnd tA Xu):=by
 intro wh pins s σ H Q I h;refine isTrue_and (By (ha (pins:=pins) s σ H _ I h) fun c s1 ⟨H1,I1,q1⟩=>?_);cases c with
 | true=>exact hb (whole:=wh) (pins:=pins) s1 σ H1 Q I1 q1
 | false=>exact ⟨H1,I1,q1⟩
theorem Ki (ha:PT X a tA) (hb:PW X (.BoolOp .Or (b :: rest) pos) Xu):PW X (.BoolOp .Or (a :: b :: rest) pos) (tOr tA Xu):=by
 intro wh pins s σ H Q I h;refine isTrue_or (By (ha (pins:=pins) s σ H _ I h) fun c s1 ⟨H1,I1,q1⟩=>?_);cases c with
 | true=>exact ⟨H1,I1,q1⟩
 | false=>exact hb (whole:=wh) (pins:=pins) s1 σ H1 Q I1 q1
theorem EU (ha:PT X a tA):PT X (.UnaryOp .Not a pos) (tNot tA):=by
 intro pins s σ H Q I h;exact isTrue_not (ha (pins:=pins) s σ H (fun c H1=>Q (!c) H1) I h)
def tAndV (ta tb:TE):TE:=fun σ H Q=>ta σ H fun x H1=>∃ c,x=.bl c/\if c=true then tb σ H1 Q else Q (.bl false) H1
def tOrV (ta tb:TE):TE:=fun σ H Q=>ta σ H fun x H1=>∃ c,x=.bl c/\if c=true then Q (.bl true) H1 else tb σ H1 Q
def tNotV (ta:TE):TE:=fun σ H Q=>ta σ H fun x H1=>∃ c,x=.bl c/\Q (.bl (!c)) H1
theorem Dv {op} {t:TE} (h:PE X a t):PE X (.BoolOp op [a] pos) t:=fun pins s σ H Q I hw=>BoolOp_one (h (pins:=pins) s σ H Q I hw)
theorem C1 (ha:PE X a ta) (hb:PE X (.BoolOp .And (b :: rest) pos) tb):PE X (.BoolOp .And (a :: b :: rest) pos) (tAndV ta tb):=by
 intro pins s σ H Q I h;refine BoolOp_and (By (ha (pins:=pins) s σ H _ I h) fun v s1 ⟨x,H1,I1,r1,q1⟩=>?_);obtain ⟨c,rfl,q1⟩:=q1;cases r1
 refine wpAny_truthy_bool ?_;cases c with
 | true=>exact hb (pins:=pins) s1 σ H1 Q I1 q1
 | false=>exact ⟨.bl false,H1,I1,rfl,q1⟩
theorem pe_or (ha:PE X a ta) (hb:PE X (.BoolOp .Or (b :: rest) pos) tb):PE X (.BoolOp .Or (a :: b :: rest) pos) (tOrV ta tb):=by
 intro pins s σ H Q I h;refine BoolOp_or (By (ha (pins:=pins) s σ H _ I h) fun v s1 ⟨x,H1,I1,r1,q1⟩=>?_);obtain ⟨c,rfl,q1⟩:=q1;cases r1
 refine wpAny_truthy_bool ?_;cases c with
 | false=>exact hb (pins:=pins) s1 σ H1 Q I1 q1
 | true=>exact ⟨.bl true,H1,I1,rfl,q1⟩
theorem Vd (ha:PE X a ta):PE X (.UnaryOp .Not a pos) (tNotV ta):=by
 intro pins s σ H Q I h;refine UnaryOp_ (By (ha (pins:=pins) s σ H _ I h) fun v s1 ⟨x,H1,I1,r1,q1⟩=>?_);obtain ⟨c,rfl,q1⟩:=q1;cases r1
 exact not_of (wpAny_truthy_bool ⟨.bl (!c),H1,I1,rfl,q1⟩)
def tIf (t:TT) (ta tb:TE):TE:=fun σ H Q=>t σ H fun c H1=>if c=true then ta σ H1 Q else tb σ H1 Q
theorem Rm {c:Expr} (hc:PT X c tA) (ha:PE X a ta) (hb:PE X b tb):PE X (.IfExp c a b pos) (tIf tA ta tb):=by
 intro pins s σ H Q I h;refine wpAny_IfExp (By (hc (pins:=pins) s σ H _ I h) fun d s1 ⟨H1,I1,q1⟩=>?_);cases d with
 | true=>exact ha (pins:=pins) s1 σ H1 Q I1 q1
 | false=>exact hb (pins:=pins) s1 σ H1 Q I1 q1
end
def AX (K:Zw) (H:Hp) (a:Addr) (xs:List V):Prop:=
 Rd H a (.lst xs) \/
  ∃ (o:Obj) (Ax:Array Value) (n:Nat),K.lookup a=some o/\o.cls=.type "list"/\o.dict=none/\o.data=.seq Ax n/\Ax.size<=sizeLine/\A9 xs Ax.toList
def A4 (K:Zw) (H:Hp) (a:Addr) (xs:List V):Prop:=
 Rd H a (.tup xs) \/
  ∃ (o:Obj) (Ax:Array Value) (n:Nat),K.lookup a=some o/\o.cls=.type "tuple"/\o.data=.seq Ax n/\Ax.size<=sizeLine/\A9 xs Ax.toList
def absV:Value->Option V
 | .none=>some .non
 | .bool b=>some (.bl b)
 | .int i _=>some (.int i)
 | .str x _=>some (.str x)
 | .bytes b _=>some (.byt b)
 | .float b _=>some (.flt b)
 | .ref a=>some (.ref a)
 | .type n=>some (.ty n)
 | _=>none
theorem AF.abs {x:V} {u:Value} (r:AF x u):absV u=some x:=by
 cases x with
 | non=>cases r; rfl
 | bl _=>cases r; rfl
 | int _=>obtain ⟨t,rfl⟩:=r; rfl
 | str _=>obtain ⟨t,rfl⟩:=r; rfl
 | byt _=>obtain ⟨t,rfl⟩:=r; rfl
 | flt _=>obtain ⟨t,rfl⟩:=r; rfl
 | ref _=>cases r; rfl
 | ty _=>cases r; rfl
theorem AF.inj {x y:V} {u:Value} (r:AF x u) (q:AF y u):x=y:=ZJ.inj (r.abs.symm.trans q.abs)
theorem A9.inj:∀ {xs ys:List V} {us:List Value},A9 xs us->A9 ys us->xs=ys
 | _,_,_,.nil,.nil=>rfl
 | _,_,_,.cons r t,.cons r' t'=>by rw [r.inj r',A9.inj t t']
section
variable {X:Cx} {pins:List (Addr × Obj)} {σ:St} {H:Hp} {s:Shared} {a:Addr} {xs ys:List V}
theorem AX.of {K:Zw} (h:H a=some (.lst xs)):AX K H a xs:=.inl (.inl h)
theorem A4.of {K:Zw} (h:H a=some (.tup xs)):A4 K H a xs:=.inl (.inl h)
theorem Av.list (I:Av X pins σ H s) (h:AX X.K H a xs):∃ Ax:List Value,A9 xs Ax/\PlainL s.heap a Ax.toArray/\xs.length<=sizeLine:=by
 rcases h with h | ⟨o,Ax,n,hk,hc,hd,hs,hz,r⟩
 ·obtain ⟨z,Ax,n,r,e⟩:=h.ok I.hok;exact ⟨Ax,r,⟨_,n,e,rfl,rfl,rfl⟩,z⟩
 ·exists Ax.toList,r,⟨o,n,I.kIn a o hk,hc,hd,by simpa using hs⟩
  have e:=r.length;simp only [ZO] at e;lia
theorem Av.tuple (I:Av X pins σ H s) (h:A4 X.K H a xs):∃ Ax:List Value,A9 xs Ax/\IsTup s.heap a Ax.toArray/\xs.length<=sizeLine:=by
 rcases h with h | ⟨o,Ax,n,hk,hc,hs,hz,r⟩
 ·obtain ⟨z,Ax,r,p,_⟩:=h.ok I.hok;exact ⟨Ax,r,p,z⟩
 ·exists Ax.toList,r,⟨o,I.kIn a o hk,hc,n,by simpa using hs⟩
  have e:=r.length;simp only [ZO] at e;lia
theorem Av.list_inj (I:Av X pins σ H s) (h:AX X.K H a xs) (h':AX X.K H a ys):xs=ys:=by
 obtain ⟨Ax,r,⟨o,n,e,_,_,d⟩,_⟩:=I.list h;obtain ⟨its',r',⟨o',n',e',_,_,d'⟩,_⟩:=I.list h';rw [e] at e'; cases e';rw [d] at d';injection d' with d1 _;have:Ax=its':=by simpa using congrArg bK d1
 subst this;exact r.inj r'
theorem Av.tuple_inj (I:Av X pins σ H s) (h:A4 X.K H a xs) (h':A4 X.K H a ys):xs=ys:=by
 obtain ⟨Ax,r,⟨o,e,_,n,d⟩,_⟩:=I.tuple h;obtain ⟨its',r',⟨o',e',_,n',d'⟩,_⟩:=I.tuple h';rw [e] at e'; cases e';rw [d] at d';injection d' with d1 _;have:Ax=its':=by simpa using congrArg bK d1
 subst this;exact r.inj r'
end
abbrev Cx.wish (X:Cx) (E:Value->Shared->Prop):Cx:={ X with xe:=E }
abbrev Cx.nox (X:Cx):Cx:=X.wish fun _ _=>False
theorem Cx.Ok.wish {X:Cx} (ok:X.Ok) (E:Value->Shared->Prop):(X.wish E).Ok:=
 ⟨ok.mod,ok.kind,ok.glob,ok.blt,ok.above,ok.inj,ok.has,ok.cab,ok.hd,ok.frames,ok.stk,ok.exf,ok.bs,ok.bsz,ok.noex,ok.exfs,ok.funs,ok.frf⟩
theorem Cx.Ok.unwish {X:Cx} {E:Value->Shared->Prop} (ok:(X.wish E).Ok):X.Ok:=
 ⟨ok.mod,ok.kind,ok.glob,ok.blt,ok.above,ok.inj,ok.has,ok.cab,ok.hd,ok.frames,ok.stk,ok.exf,ok.bs,ok.bsz,ok.noex,ok.exfs,ok.funs,ok.frf⟩
section
variable {X:Cx} {pins:List (Addr × Obj)} {σ:St} {H:Hp} {s:Shared} {E:Value->Shared->Prop}
theorem Av.wish (I:Av X pins σ H s) (E:Value->Shared->Prop):Av (X.wish E) pins σ H s:=⟨I.ok.wish E,I.os,I.bare,I.base,I.loc,I.cell,I.free,I.freeC,I.pin,I.hok,I.len⟩
theorem Av.unwish (I:Av (X.wish E) pins σ H s):Av X pins σ H s:=⟨I.ok.unwish,I.os,I.bare,I.base,I.loc,I.cell,I.free,I.freeC,I.pin,I.hok,I.len⟩
theorem SP.unwish {D:Fi} {f:Flow} {s':Shared} (h:SP (X.wish E) pins D f s'):SP X pins D f s':=by
 cases f with
 | next=>obtain ⟨Ay,H',I,q⟩:=h; exact ⟨Ay,H',I.unwish,q⟩
 | brk=>obtain ⟨Ay,H',I,q⟩:=h; exact ⟨Ay,H',I.unwish,q⟩
 | cont=>obtain ⟨Ay,H',I,q⟩:=h; exact ⟨Ay,H',I.unwish,q⟩
 | ret u=>obtain ⟨v,Ay,H',I,r,q⟩:=h; exact ⟨v,Ay,H',I.unwish,r,q⟩
theorem MP.nox {st:List Stmt} {t:TS} (h:MP X.nox st t):MP X st t:=fun pins s σ H D I hw=>
 wpAny_mono (h (pins:=pins) s σ H D (I.wish _) hw) (fun _ _ q=>q.unwish) fun _ _ z=>False.elim z
end
section
variable {X:Cx} {st:Stmt} {rest:List Stmt} {t u:TS} {e:Expr} {te:TE} {pos:Pos}
def tNext:TS:=fun D σ H=>D.nx σ H
def tSeq (t u:TS):TS:=fun D σ H=>t { D with nx:=u D } σ H
theorem B3:MP X [] tNext:=fun _ _ σ H _ I h=>wpAny_execs_nil ⟨σ,H,I,h⟩
theorem Ag (h1:PS X st t) (h2:MP X rest u):MP X (st :: rest) (tSeq t u):=by
 intro pins s σ H D I h;refine wpAny_execs_cons (By (h1 (pins:=pins) s σ H { D with nx:=u D } I h) fun f s1 q=>?_);cases f with
 | next=>
  obtain ⟨Ay,H',I',q⟩:=q;exact h2 (pins:=pins) s1 Ay H' D I' q
 | ret v=>exact q
 | brk=>exact q
 | cont=>exact q
theorem Ak (h1:PS X st t):MP X [st] t:=by
 intro pins s σ H D I h;refine wpAny_execs_cons (By (h1 (pins:=pins) s σ H D I h) fun f s1 q=>?_);cases f with
 | next=>exact wpAny_execs_nil q
 | ret v=>exact q
 | brk=>exact q
 | cont=>exact q
theorem Av.quiet {pins:List (Addr × Obj)} {σ:St} {H:Hp} {s:Shared} (I:Av X pins σ H s):interactive X.env=false:=by simp [interactive,I.ok.kind]
def tDrop (te:TE):TS:=fun D σ H=>te σ H fun _ H1=>D.nx σ H1
theorem Ie (he:PE X e te) (hs:swapsWith e none pos.line X.env=pure false:=by rfl):PS X (.Expr e pos) (tDrop te):=by
 intro pins s σ H D I h;exact wpAny_Expr_any (By (he (pins:=pins) s σ H _ I h) fun v s1 ⟨x,H1,I1,r1,q1⟩=>⟨σ,H1,I1,q1⟩) I.quiet hs
def tRet (te:TE):TS:=fun D σ H=>te σ H D.rt
theorem A8 (he:PE X e te):PS X (.Return (some e) pos) (tRet te):=by
 intro pins s σ H D I h;exact wpAny_Return_some (By (he (pins:=pins) s σ H _ I h) fun v s1 ⟨x,H1,I1,r1,q1⟩=>⟨x,σ,H1,I1,r1,q1⟩)
def tIfS (c:TT) (t u:TS):TS:=fun D σ H=>c σ H fun b H1=>if b=true then t D σ H1 else u D σ H1
theorem C9 {c:Expr} {a b:List Stmt} {tc:TT} (hc:PT X c tc) (ha:MP X a t) (hb:MP X b u):PS X (.If c a b pos) (tIfS tc t u):=by
 intro pins s σ H D I h;refine wpAny_If (By (hc (pins:=pins) s σ H _ I h) fun d s1 ⟨H1,I1,q1⟩=>?_);cases d with
 | true=>exact ha (pins:=pins) s1 σ H1 D I1 q1
 | false=>exact hb (pins:=pins) s1 σ H1 D I1 q1
end
abbrev TG:=V->St->Hp->(St->Hp->Prop)->Prop
abbrev Uw:=List V->St->Hp->(St->Hp->Prop)->Prop
def PG (X:Cx) (target:Expr) (t:TG):Prop:=
 ∀ ⦃pins:List (Addr × Obj)⦄ (s:Shared) (σ:St) (H:Hp) (v:V) (u:Value) (Q:St->Hp->Prop),Av X pins σ H s->AF v u->t v σ H Q ->
  wpAny (model X.prog X.w) X.A (assign target X.env u) (fun _ s'=>∃ Ay H',Av X pins Ay H' s'/\Q Ay H') X.xe s
def PGs (X:Cx) (ts:List Expr) (t:Uw):Prop:=
 ∀ ⦃pins:List (Addr × Obj)⦄ (s:Shared) (σ:St) (H:Hp) (vs:List V) (us:List Value) (Q:St->Hp->Prop),Av X pins σ H s->A9 vs us->t vs σ H Q ->
  wpAny (model X.prog X.w) X.A (assignInOrder ((assignEach ts X.env).map (·.2)) us) (fun _ s'=>∃ Ay H',Av X pins Ay H' s'/\Q Ay H') X.xe s
abbrev VI:=V->V->V->Hp->(Hp->Prop)->Prop
def PSet (X:Cx) (t:VI):Prop:=
 ∀ ⦃pins:List (Addr × Obj)⦄ (s:Shared) (σ:St) (H:Hp) (o i v:V) (ov iv u:Value) (Q:Hp->Prop),Av X pins σ H s->AF o ov->AF i iv->AF v u->t o i v H Q ->
  wpAny (model X.prog X.w) X.A (setItem ov iv u) (fun _ s'=>∃ H',Av X pins σ H' s'/\Q H') X.xe s
section
variable {X:Cx} {pos:Pos}
def M5 (i:Nat):TG:=fun v σ H Q=>Q (σ.set i (some v)) H
theorem Ai {i:Nat} {x:Str} (hN:X.N.Nodup) (hi:X.N[i]? = some x) (hx:Wm X.env.scope x) (hf:X.fn x=true\/X.env.scope.names.lookup x=some .local:=by first | exact .inl rfl | exact .inr rfl | assumption):PG X (.Name x pos) (M5 i):=by
 intro pins s σ H v u Q I r h;exact wpAny_assign_Name (LI I hN hi hx r (fun s' I'=>⟨_,H,I',h⟩) hf)
def gNil:Uw:=fun vs σ H Q=>vs=[]/\Q σ H
def gCons (t:TG) (u:Uw):Uw:=fun vs σ H Q=>∃ v r,vs=v :: r/\t v σ H fun Ay H'=>u r Ay H' Q
theorem AZ:PGs X [] gNil:=by
 intro pins s σ H vs us Q I r h;obtain ⟨e,h⟩:=h;subst e;cases r
 exact assignInOrder_nil ⟨σ,H,I,h⟩
theorem Am {e:Expr} {es:List Expr} {t:TG} {u:Uw} (h1:PG X e t) (h2:PGs X es u)
  (hs:(assignEach (e :: es) X.env).map (·.2)=assign e X.env :: (assignEach es X.env).map (·.2):=by rfl):PGs X (e :: es) (gCons t u):=by
 intro pins s σ H vs us Q I r h;obtain ⟨v,vr,e1,h⟩:=h;subst e1;cases r with
 | cons r rr=>
  rw [hs];refine assignInOrder_cons (By (h1 (pins:=pins) s σ H _ _ _ I r h) fun _ s1 ⟨VR,H1,I1,q1⟩=>?_);exact h2 (pins:=pins) s1 VR H1 _ _ Q I1 rr q1
def gTup (K:Zw) (n:Nat) (t:Uw):TG:=fun v σ H Q=>∃ a xs,v=.ref a/\A4 K H a xs/\xs.length=n/\t xs σ H Q
theorem Va {es:List Expr} {k:Nat} {t:Uw} {n:Nat} (hc:X.calm=true) (h:PGs X es t)
  (hn:(assignEach es X.env).length=n:=by rfl) (hst:(assignEach es X.env).findIdx? (·.1)=none:=by rfl):PG X (.Tuple es k pos) (gTup X.K n t):=by
 intro pins s σ H v u Q I r hw;obtain ⟨a,xs,e1,hq,hl,hw⟩:=hw;subst e1;cases r
 obtain ⟨Ax,rv,ht,hz⟩:=I.tuple hq;refine assign_Tuple_tuple (I.ok.hd hc) ht (by simp [hn,<-hl,rv.length]) hst fun h' hx=>?_
 have I1:Av X pins σ H { s with heap:=h' }:=I.kept (t':=s.toks) fun b o e=>hx b o (Z8 (Z1 e)) e
 exact h (pins:=pins) _ σ H xs _ Q I1 (by simpa using rv) hw
def gSub (to ti:TE) (t:VI):TG:=fun v σ H Q=>to σ H fun o H1=>ti σ H1 fun i H2=>t o i v H2 fun H3=>Q σ H3
theorem Nj {o i:Expr} {to ti:TE} {t:VI} (ho:PE X o to) (hi:PE X i ti) (hs:PSet X t)
  (ha:∀ v,assign (.Subscript o i pos) X.env v=(do
   let ov <- holding [v] (eval o X.env)
   let iv <- holding [v,ov] (eval i X.env)
   standAt pos
   holding [v,ov,iv] (setItem ov iv v)
   release [v,ov,iv] []):=by intro _; rfl):PG X (.Subscript o i pos) (gSub to ti t):=by
 intro pins s σ H v u Q I r h;rw [ha];refine wpAny_bind (wpAny_holding (By (ho (pins:=pins) s σ H _ I h) fun ov s1 ⟨x,H1,I1,r1,q1⟩=>?_));refine wpAny_bind (wpAny_holding (By (hi (pins:=pins) s1 σ H1 _ I1 q1) fun iv s2 ⟨y,H2,I2,r2,q2⟩=>?_));refine wpAny_bind (wpAny_standAt (wpAny_bind (wpAny_holding (By (hs (pins:=pins) s2 σ H2 x y v ov iv u _ I2 r1 r2 r q2) fun _ s3 ⟨H3,I3,q3⟩=>?_))));exact wpAny_release ⟨σ,H3,I3,q3⟩
def S2 (te:TE) (g:TG):TS:=fun D σ H=>te σ H fun x H1=>g x σ H1 D.nx
theorem Ds {tg e:Expr} {te:TE} {g:TG} (he:PE X e te) (hg:PG X tg g) (hs:swapsWithSole [tg] e pos.line X.env=pure false:=by rfl) (hw:swappedStores [tg] e X.env=pure none:=by rfl)
  (h1:(assignEach [tg] X.env).map (·.2)=[assign tg X.env]:=by rfl):PS X (.Assign [tg] e pos) (S2 te g):=by
 intro pins s σ H D I h;refine wpAny_Assign_stores (By (he (pins:=pins) s σ H _ I h) fun v s1 ⟨x,H1,I1,r1,q1⟩=>?_) hs hw;rw [h1];exact By (hg (pins:=pins) s1 σ H1 x v _ I1 r1 q1) fun _ s2 q=>q
theorem Ar {i:Nat} {x:Str} {e:Expr} {te:TE} {pos':Pos} (hN:X.N.Nodup) (hi:X.N[i]? = some x) (hx:Wm X.env.scope x) (he:PE X e te) (hs:swapsWith e (some (.Name x pos')) pos.line X.env=pure false:=by rfl) (hf:X.fn x=true\/X.env.scope.names.lookup x=some .local:=by first | exact .inl rfl | exact .inr rfl | assumption) :
  PS X (.Assign [.Name x pos'] e pos) (S2 te (M5 i)):=by
 intro pins s σ H D I h;refine wpAny_Assign_Name (By (he (pins:=pins) s σ H _ I h) fun v s1 ⟨y,H1,I1,r1,q1⟩=>?_) hs;exact LI I1 hN hi hx r1 (fun s2 I2=>⟨_,H1,I2,q1⟩) hf
end
section
variable {X:Cx} {pos:Pos}
def UB (c:TT) (tb:TS):TS:=fun D σ H=>∃ W:Nat->St->Hp->Prop,(∃ m,W m σ H)/\∀ m σ H,W m σ H ->
 c σ H fun b H1=>if b=true then ∃ N:St->Hp->Prop,(∀ Ay H',N Ay H'->∃ m',m' < m/\W m' Ay H')/\tb { D with nx:=N,ct:=N,bk:=D.nx } σ H1 else D.nx σ H1
theorem Ri {c:Expr} {body:List Stmt} {tc:TT} {tb:TS} (hp:PassesOwn (model X.prog X.w) X.A X.env X.xe) (hc:PT X c tc) (hb:MP X body tb):PS X (.While c body [] pos) (UB tc tb):=by
 intro pins s σ H D I h;obtain ⟨W,⟨m0,w0⟩,turn⟩:=h;refine wpAny_While (codeAny_whileLoop (fun n s'=>∃ Ay H',Av X pins Ay H' s'/\W n Ay H') ?_ m0 ⟨σ,H,I,w0⟩);rintro n s1 ⟨VR,H1,I1,w1⟩;refine wpAny_passesOwn hp (By (hc (pins:=pins) s1 VR H1 _ I1 (turn n VR H1 w1)) fun b s2 ⟨H2,I2,q2⟩=>?_);cases b with
 | true=>
  obtain ⟨N,hN,q2⟩:=q2;rw [if_pos rfl];refine wpAny_passesOwn hp (By (hb (pins:=pins) s2 VR H2 _ I2 q2) fun f s3 q3=>?_);cases f with
  | next=>
   obtain ⟨Q0,H3,I3,n3⟩:=q3;obtain ⟨m',hm,w3⟩:=hN Q0 H3 n3;exact ⟨m',hm,Q0,H3,I3,w3⟩
  | cont=>
   obtain ⟨Q0,H3,I3,n3⟩:=q3;obtain ⟨m',hm,w3⟩:=hN Q0 H3 n3;exact ⟨m',hm,Q0,H3,I3,w3⟩
  | brk=>exact q3
  | ret v=>exact q3
 | false=>
  rw [if_neg ZD];exact wpAny_execs_nil ⟨VR,H2,I2,q2⟩
end
structure It where
 go:Nat->Hp->Prop
 yld:Nat->Hp->V->Hp->Prop
 stop:Nat->Hp->Prop
def Fh (X:Cx) (pins:List (Addr × Obj)) (H:Hp) (b:Addr):Prop:=
 H b=none/\b ≠ X.env.locals/\b ∉ X.fs/\(b ∈ X.ex\/X.s₀.heap.objs.size<=b)/\(∀ x c,X.env.cells.lookup x=some c->c ≠ b)/\∀ p ∈ X.pn ++ pins,p.1 ≠ b
theorem Av.fpOk {X:Cx} {pins:List (Addr × Obj)} {σ:St} {H H':Hp} {s:Shared} {b:Addr} (I:Av X pins σ H s) (hb:s.heap.objs.size<=b) (hn:H' b=none):Fh X pins H' b:=by
 refine ⟨hn,aA (ZF I.lt hb),I.nofs hb,.inr (ZS I.sz hb),fun x c e z=>?_,fun p hp z=>?_⟩
 ·obtain ⟨v,q⟩:=I.cell x c e;exact absurd (ZF q.lt (by rw [z]; exact hb)) (au _)
 ·exact absurd (ZF (Z1 (I.pin p hp).1) (by rw [z]; exact hb)) (au _)
structure MG (P:Program) (w:World) (K:Zw) (tg:Expr) (J:It) (fp:List Addr) (it:Addr) (tn:Nat->Heap->Prop):Prop where
 mem:it ∈ fp
 obj:∀ i h,tn i h->∀ b ∈ fp,∃ o,h.get? b=some o/\∀ v,o.data ≠ .cell v
 keep:∀ i h h',tn i h->(∀ b ∈ fp,∀ o,h.get? b=some o->h'.get? b=some o)->tn i h'
 item:∀ (X:Cx),X.prog=P->X.w=w->X.K=K->X.calm=true->∀ (i:Nat) (pins:List (Addr × Obj)) (s:Shared) (σ:St) (H:Hp) (E:Value->Shared->Prop),Av X pins σ H s->(∀ b ∈ fp,Fh X pins H b)->tn i s.heap->J.go i H ->
  wpAny (model P w) X.A (pyNext (.ref it)) (fun r s1=>∃ u,r=some u /\
   wpAny (model P w) X.A (letOwnedTupleGo tg (.ref it) u) (fun _ s2=>∃ x H',Av X pins σ H' s2/\AF x u/\J.yld i H x H'/\tn (i + 1) s2.heap/\∀ b ∈ fp,H' b=none) E s1) E s
 done:∀ (X:Cx),X.prog=P->X.w=w->X.K=K->X.calm=true->∀ (i:Nat) (pins:List (Addr × Obj)) (s:Shared) (σ:St) (H:Hp) (E:Value->Shared->Prop),Av X pins σ H s->(∀ b ∈ fp,Fh X pins H b)->tn i s.heap->J.stop i H ->
  wpAny (model P w) X.A (pyNext (.ref it)) (fun r s1=>r=none/\Av X pins σ H s1) E s
 self:∀ (A:Around) (i:Nat) (s:Shared) (Q:Value->Shared->Prop) (E:Value->Shared->Prop),tn i s.heap->Q (.ref it) s->wpAny (model P w) A (pyIter (.ref it)) Q E s
abbrev TI:=St->Hp->(It->Hp->Prop)->Prop
def PIE (X:Cx) (pins:List (Addr × Obj)) (σ:St) (tg:Expr) (R:It->Hp->Prop) (itv:Value) (s2:Shared):Prop:=
 ∃ (it:Addr) (fp:List Addr) (tn:Nat->Heap->Prop) (J:It) (H':Hp),itv=.ref it/\Av X pins σ H' s2/\MG X.prog X.w X.K tg J fp it tn/\tn 0 s2.heap/\(∀ b ∈ fp,Fh X pins H' b)/\R J H'
def PI (X:Cx) (tg iter:Expr) (wi:TI):Prop:=
 ∀ ⦃pins:List (Addr × Obj)⦄ (s:Shared) (σ:St) (H:Hp) (R:It->Hp->Prop),Av X pins σ H s->wi σ H R ->
  wpAny (model X.prog X.w) X.A (eval iter X.env) (fun v s1=>wpAny (model X.prog X.w) X.A (pyIter v) (PIE X pins σ tg R) X.xe s1) X.xe s
theorem Kq {M:Model} {A:Around} {E:Value->Shared->Prop} {s:Shared} {tg:Expr} {it:Addr} {u:Value} {o:Obj} {n:String} {vs:Array Value} {Q:Unit->Shared->Prop} (ho:s.heap.get? it=some o) (hc:o.cls=.type n) (hd:o.data=.fields vs)
  (hn:["enumerate","zip","dict_itemiterator","dict_reverseitemiterator","odict_iterator","itertools.zip_longest","itertools.pairwise"].contains n=false) (hQ:Q () s):wpAny M A (letOwnedTupleGo tg (.ref it) u) Q E s:=by
 unfold letOwnedTupleGo;cases tg <;> first
  | exact wpAny_pure hQ
  | (cases u <;> first
    | exact wpAny_pure hQ
    | (refine wpAny_bind (wpAny_load ho ?_)
       rw [hc,hd];show wpAny M A (if (["enumerate","zip","dict_itemiterator","dict_reverseitemiterator","odict_iterator","itertools.zip_longest","itertools.pairwise"].contains n && vs[0]? == some (rawInt _))=true then _ else _) Q E s
       rw [if_neg (by intro h; rw [hn,bQ] at h; cases h)];exact wpAny_pure hQ))
def Ss (K:Zw) (a:Addr):It:=
 ⟨fun i H=>∃ xs x,AX K H a xs/\xs[i]? = some x,fun i H x H'=>H'=H/\∀ xs,AX K H a xs->xs[i]? = some x,fun i H=>∃ xs,AX K H a xs/\xs.length<=i⟩
def Qr (K:Zw) (a:Addr):It:=
 ⟨fun i H=>∃ xs x,A4 K H a xs/\xs[i]? = some x,fun i H x H'=>H'=H/\∀ xs,A4 K H a xs->xs[i]? = some x,fun i H=>∃ xs,A4 K H a xs/\xs.length<=i⟩
def Sr (lo:Int) (n:Nat):It:=⟨fun i _=>i < n,fun i H x H'=>H'=H/\x=.int (lo + i),fun i _=>n<=i⟩
theorem JX {P:Program} {w:World} {K:Zw} {tg:Expr} (a it:Addr):MG P w K tg (Ss K a) [it] it (fun i h=>h.IsListIter it a i) where
 mem:=by simp
 obj:=fun i h st b hb=>by
  have e:b=it:=by simpa using hb
  subst e;obtain ⟨o,e,c,d⟩:=st;exact ⟨o,e,fun v z=>by rw [d] at z; cases z⟩
 keep:=fun i h h' st k=>st.at fun o e=>k it (by simp) o e
 item:=by
  intro X hP hw hK hc i pins s σ H E I hf st hg;subst hP hw hK;obtain ⟨xs,x,hq,hx⟩:=hg;obtain ⟨Ax,rv,p,hz⟩:=I.list hq;obtain ⟨u,hu,ru⟩:=rv.get hx;obtain ⟨f0,f1,f2,f3,f4,f5⟩:=hf it (by simp);refine wpAny_pyNext_list_item st p.isList (x:=u) (by simpa using hu) fun h' Bh sb=>?_
  have I1:Av X pins σ H { s with heap:=h' }:=I.turned (t':=s.toks) (fun b o hb e=>(sb.2 b hb).trans e) f0 f1 f3 f4 f5;obtain ⟨o,e,c,d⟩:=id Bh;exact ⟨u,rfl,Kq (s:={ s with heap:=h' }) e c d (by decide) ⟨x,H,I1,ru,⟨rfl,fun ys hy=>by rw [I.list_inj hy hq]; exact hx⟩,Bh,fun b hb=>(hf b hb).1⟩⟩
 done:=by
  intro X hP hw hK hc i pins s σ H E I hf st hg;subst hP hw hK;obtain ⟨xs,hq,hx⟩:=hg;obtain ⟨Ax,rv,p,hz⟩:=I.list hq;obtain ⟨f0,f1,f2,f3,f4,f5⟩:=hf it (by simp);have hl:=rv.length;exact wpAny_pyNext_list_end (I.ok.hd hc) st p.isList (by simp; lia) fun h' eb=>⟨rfl,I.turned (t':=s.toks) (fun b o hb e=>eb b o hb e) f0 f1 f3 f4 f5⟩
 self:=fun _ _ _ _ _ st h=>wpAny_pyIter_listiter st h
theorem Iz {P:Program} {w:World} {K:Zw} {tg:Expr} (a it:Addr):MG P w K tg (Qr K a) [it] it (fun i h=>h.IsTupleIter it a i) where
 mem:=by simp
 obj:=fun i h st b hb=>by
  have e:b=it:=by simpa using hb
  subst e;obtain ⟨o,e,c,d⟩:=st;exact ⟨o,e,fun v z=>by rw [d] at z; cases z⟩
 keep:=fun i h h' st k=>st.at fun o e=>k it (by simp) o e
 item:=by
  intro X hP hw hK hc i pins s σ H E I hf st hg;subst hP hw hK;obtain ⟨xs,x,hq,hx⟩:=hg;obtain ⟨Ax,rv,p,hz⟩:=I.tuple hq;obtain ⟨u,hu,ru⟩:=rv.get hx;obtain ⟨f0,f1,f2,f3,f4,f5⟩:=hf it (by simp);refine wpAny_pyNext_tuple_item st (show s.heap.IsTuple a Ax.toArray from p) (x:=u) (by simpa using hu) fun h' Bh sb=>?_
  have I1:Av X pins σ H { s with heap:=h' }:=I.turned (t':=s.toks) (fun b o hb e=>(sb.2 b hb).trans e) f0 f1 f3 f4 f5;obtain ⟨o,e,c,d⟩:=id Bh;exact ⟨u,rfl,Kq (s:={ s with heap:=h' }) e c d (by decide) ⟨x,H,I1,ru,⟨rfl,fun ys hy=>by rw [I.tuple_inj hy hq]; exact hx⟩,Bh,fun b hb=>(hf b hb).1⟩⟩
 done:=by
  intro X hP hw hK hc i pins s σ H E I hf st hg;subst hP hw hK;obtain ⟨xs,hq,hx⟩:=hg;obtain ⟨Ax,rv,p,hz⟩:=I.tuple hq;obtain ⟨f0,f1,f2,f3,f4,f5⟩:=hf it (by simp);have hl:=rv.length;exact wpAny_pyNext_tuple_end (I.ok.hd hc) st (show s.heap.IsTuple a Ax.toArray from p) (by simp; lia) fun h' eb=>⟨rfl,I.turned (t':=s.toks) (fun b o hb e=>eb b o hb e) f0 f1 f3 f4 f5⟩
 self:=fun _ _ _ _ _ st h=>wpAny_pyIter_tupleiter st h
theorem MW {P:Program} {w:World} {K:Zw} {tg:Expr} (it:Addr) (lo:Int) (n:Nat):MG P w K tg (Sr lo n) [it] it (fun i h=>IsRangeIter h it (lo + (i:Nat) * 1) ((n:Int) - (i:Nat)) 1) where
 mem:=by simp
 obj:=fun i h st b hb=>by
  have e:b=it:=by simpa using hb
  subst e;exact ⟨_,st,fun v z=>by
   have z':Data.fields _=Data.cell v:=z;cases z'⟩
 keep:=fun i h h' st k=>k it (by simp) _ st
 item:=by
  intro X hP hw hK hc i pins s σ H E I hf st hg;subst hP hw hK;obtain ⟨f0,f1,f2,f3,f4,f5⟩:=hf it (by simp);have W:=Walks.range (prog:=X.prog) (w:=X.w) (I.ok.hd hc) it lo 1 n;refine W.item i s _ _ hg st fun v h' tk hv Bh kk=>?_
  obtain ⟨t,rfl⟩:=hv;have I1:Av X pins σ H { s with heap:=h',toks:=tk }:=I.turned (fun b o hb e=>kk b o (by simpa using hb) e) f0 f1 f3 f4 f5;refine ⟨_,rfl,Kq (s:={ s with heap:=h',toks:=tk }) (n:="range_iterator") Bh rfl rfl (by decide) ⟨.int (lo + i),H,I1,⟨t,?_⟩,⟨rfl,rfl⟩,Bh,fun b hb=>(hf b hb).1⟩⟩;rw [Int.mul_one]
 done:=by
  intro X hP hw hK hc i pins s σ H E I hf st hg;subst hP hw hK;obtain ⟨f0,f1,f2,f3,f4,f5⟩:=hf it (by simp);exact wpAny_pyNext_range_end (I.ok.hd hc) st (by have:n<=i:=hg; lia) fun h' eb=>⟨rfl,I.turned (t':=s.toks) (fun b o hb e=>eb b o hb e) f0 f1 f3 f4 f5⟩
 self:=fun _ _ _ _ _ st h=>wpAny_pyIter_rangeiter st h
section
variable {X:Cx} {tg:Expr}
def Ud (K:Zw) (tl:TE):TI:=fun σ H R=>tl σ H fun x H1=>∃ a,x=.ref a/\(∃ xs,AX K H1 a xs)/\R (Ss K a) H1
def iTup (K:Zw) (tl:TE):TI:=fun σ H R=>tl σ H fun x H1=>∃ a,x=.ref a/\(∃ xs,A4 K H1 a xs)/\R (Qr K a) H1
theorem Ig {l:Expr} {tl:TE} (hl:PE X l tl):PI X tg l (Ud X.K tl):=by
 intro pins s σ H R I h;refine By (hl (pins:=pins) s σ H _ I h) fun v s1 ⟨x,H1,I1,r1,q1⟩=>?_
 obtain ⟨a,e,⟨xs,hq⟩,q⟩:=q1;subst e;cases r1
 obtain ⟨Ax,rv,p,hz⟩:=I1.list hq;refine wpAny_pyIter_list p.isList ?_;refine ⟨s1.heap.objs.size,[s1.heap.objs.size],_,_,H1,rfl,I1.kept (t':=s1.toks) fun b o e=>Zu _ e,JX a _,⟨_,Z5 _ rfl,rfl,rfl⟩,fun b hb=>?_,q⟩;have e:b=s1.heap.objs.size:=by simpa using hb
 subst e;exact I1.fpOk (Z4 _) (I1.hok.fresh (Z4 _))
theorem Gv {l:Expr} {tl:TE} (hl:PE X l tl):PI X tg l (iTup X.K tl):=by
 intro pins s σ H R I h;refine By (hl (pins:=pins) s σ H _ I h) fun v s1 ⟨x,H1,I1,r1,q1⟩=>?_
 obtain ⟨a,e,⟨xs,hq⟩,q⟩:=q1;subst e;cases r1
 obtain ⟨Ax,rv,p,hz⟩:=I1.tuple hq;refine wpAny_pyIter_tuple (show s1.heap.IsTuple a Ax.toArray from p) ?_;refine ⟨s1.heap.objs.size,[s1.heap.objs.size],_,_,H1,rfl,I1.kept (t':=s1.toks) fun b o e=>Zu _ e,Iz a _,⟨_,Z5 _ rfl,rfl,rfl⟩,fun b hb=>?_,q⟩;have e:b=s1.heap.objs.size:=by simpa using hb
 subst e;exact I1.fpOk (Z4 _) (I1.hok.fresh (Z4 _))
theorem LY {pins:List (Addr × Obj)} {σ:St} {H:Hp} {s:Shared} {R:It->Hp->Prop} {E:Value->Shared->Prop} {lo hi:Int} {t u v:Tok} {tk:Nat} (I:Av X pins σ H s) (h1:-(2 ^ 62)<=lo) (h2:lo < 2 ^ 62) (h3:-(2 ^ 62)<=hi) (h4:hi < 2 ^ 62)
  (q:R (Sr lo (hi - lo).toNat) H):wpAny (model X.prog X.w) X.A (pyIter (.ref s.heap.objs.size)) (PIE X pins σ tg R) E { s with heap:=s.heap.push { cls:=.type "range",data:=.fields #[.int lo t,.int hi u,.int 1 v] },toks:=tk }:=by
 refine wpAny_pyIter_range (IsRange.new ..) (small_one h1 h2 h3 h4) ?_;have I1:Av X pins σ H { s with heap:=s.heap.push { cls:=.type "range",data:=.fields #[.int lo t,.int hi u,.int 1 v] },toks:=tk }:=I.kept fun b o e=>Zu _ e
 refine ⟨(s.heap.push { cls:=.type "range",data:=.fields #[.int lo t,.int hi u,.int 1 v] }).objs.size,[(s.heap.push { cls:=.type "range",data:=.fields #[.int lo t,.int hi u,.int 1 v] }).objs.size],_,_,H,rfl,
  I1.kept (t':=tk) fun b o e=>Zu _ e,MW _ lo (hi - lo).toNat,?_,fun b hb=>?_,q⟩
 ·have e1:lo + ((0:Nat):Int) * 1=lo:=by simp
  have e2:(((hi - lo).toNat:Nat):Int) - ((0:Nat):Int)=Builtin.Range.rangeSize lo hi 1:=by rw [rangeSize_one]; split <;> lia
  show IsRangeIter _ _ (lo + ((0:Nat):Int) * 1) ((((hi - lo).toNat:Nat):Int) - ((0:Nat):Int)) 1
  rw [e1,e2];exact Z5 _ rfl
 ·have e:b=(s.heap.push { cls:=.type "range",data:=.fields #[.int lo t,.int hi u,.int 1 v] }).objs.size:=by simpa using hb
  subst e;exact I1.fpOk (Z4 _) (I1.hok.fresh (Z4 _))
def iRng1 (ta:TA):TI:=fun σ H R=>ta σ H fun vs H1=>∃ j:Int,vs=[.int j]/\-(2 ^ 62)<=j/\j < 2 ^ 62/\R (Sr 0 j.toNat) H1
def iRng2 (ta:TA):TI:=fun σ H R=>ta σ H fun vs H1=>∃ i j:Int,vs=[.int i,.int j]/\(-(2 ^ 62)<=i/\i < 2 ^ 62/\-(2 ^ 62)<=j/\j < 2 ^ 62)/\R (Sr i (j - i).toNat) H1
theorem Dm {a:Expr} {ta:TA} {p pos:Pos} (hg:Gl X "range") (hm:X.mg "range"=none) (ha:PA X [a] ta) (hs:starEach [a] X.env=[(false,eval a X.env)]:=by rfl):PI X tg (.Call (.Name "range" p) [a] [] pos) (iRng1 ta):=by
 intro pins s σ H R I h;refine Call_ (G4 I hg hm boot_range (PyProof.Rows.callWith_type1 (By (ha (pos:=pos) (pins:=pins) s σ H _ I h) fun us s1 ⟨vs,H1,I1,r1,q1⟩=>?_) hs rfl));obtain ⟨j,e,q1,q2,q⟩:=q1;subst e;cases r1 with
 | cons r rr=>
  cases rr
  obtain ⟨t,rfl⟩:=r;exact call_range_1 (LY I1 (by lia) (by lia) q1 q2 (by simpa using q))
theorem Pr {a b:Expr} {ta:TA} {p pos:Pos} (hg:Gl X "range") (hm:X.mg "range"=none) (ha:PA X [a,b] ta) (hs:starEach [a,b] X.env=[(false,eval a X.env),(false,eval b X.env)]:=by rfl) (Wc:starEach [b] X.env=[(false,eval b X.env)]:=by rfl) :
  PI X tg (.Call (.Name "range" p) [a,b] [] pos) (iRng2 ta):=by
 intro pins s σ H R I h;refine Call_ (G4 I hg hm boot_range (PyProof.Rows.callWith_type1 (By (ha (pos:=pos) (pins:=pins) s σ H _ I h) fun us s1 ⟨vs,H1,I1,r1,q1⟩=>?_) (by rw [hs,Wc]) (by rw [Wc]; rfl)));obtain ⟨i,j,e,⟨q1,q2,q3,q4⟩,q⟩:=q1;subst e;cases r1 with
 | cons r rr=>
  cases rr with
  | cons r' rr=>
   cases rr
   obtain ⟨t,rfl⟩:=r;obtain ⟨t',rfl⟩:=r';exact call_range_2 (LY I1 q1 q2 q3 q4 q)
def tFor (wi:TI) (g:TG) (tb:TS):TS:=fun D σ H=>wi σ H fun J H1=>∃ W:Nat->Nat->St->Hp->Prop,(∃ m,W 0 m σ H1)/\∀ i m σ H,W i m σ H ->
 (J.stop i H/\D.nx σ H)\/(J.go i H/\∃ N:St->Hp->Prop,(∀ Ay H',N Ay H'->∃ m',m' < m/\W (i + 1) m' Ay H')/\∀ x H',J.yld i H x H'->g x σ H' fun AG H2=>tb { D with nx:=N,ct:=N,bk:=D.nx } AG H2)
def EV (fp:List Addr) (h:Heap):List (Addr × Obj):=fp.filterMap fun b=>(h.get? b).map fun o=>(b,o)
theorem B6 {fp:List Addr} {h:Heap} {b:Addr} {o:Obj} (hb:b ∈ fp) (e:h.get? b=some o):(b,o) ∈ EV fp h:=cj.mpr ⟨b,hb,by rw [e]; rfl⟩
theorem PB {fp:List Addr} {h:Heap} {p:Addr × Obj} (hp:p ∈ EV fp h):p.1 ∈ fp/\h.get? p.1=some p.2:=by
 obtain ⟨b,hb,e⟩:=cj.mp hp;cases q:h.get? b with
 | none=>rw [q] at e; cases e
 | some o=>
  rw [q] at e;have e':(b,o)=p:=ZJ.inj e;subst e';exact ⟨hb,q⟩
theorem Av.pinned {pins:List (Addr × Obj)} {σ:St} {H:Hp} {s:Shared} {fp:List Addr} (I:Av X pins σ H s) (hf:∀ b ∈ fp,Fh X pins H b) (ho:∀ b ∈ fp,∃ o,s.heap.get? b=some o/\∀ v,o.data ≠ .cell v):Av X (pins ++ EV fp s.heap) σ H s:=
 I.pins_of fun p hp=>(Z9.mp hp).elim (fun z=>I.pin p (ZC _ z)) fun z=>by
  obtain ⟨hb,e⟩:=PB z;obtain ⟨f0,f1,f2,_⟩:=hf p.1 hb;obtain ⟨o,e',d⟩:=ho p.1 hb;rw [e] at e'; cases e';exact ⟨e,f0,f1,f2,d⟩
theorem Av.unpinned {pins pl:List (Addr × Obj)} {σ:St} {H:Hp} {s:Shared} (I:Av X (pins ++ pl) σ H s):Av X pins σ H s:=I.pins_of fun p hp=>I.pin p (ZC _ (ay _ hp))
theorem Cb {iter:Expr} {body:List Stmt} {wi:TI} {g:TG} {tb:TS} {pos:Pos} (hp:PassesOwn (model X.prog X.w) X.A X.env X.xe) (hc:X.calm=true) (hi:PI X tg iter wi) (hg:PG X tg g) (hb:MP X body tb)
  (hs:∀ x,foldedSetIterable iter X.env x=pure x:=by intro _; rfl):PS X (.For tg iter body [] pos) (tFor wi g tb):=by
 intro pins s σ H D I h;refine wpAny_For (By (hi (pins:=pins) s σ H _ I h) fun v s1 h1=>By h1 fun itv s2 h2=>?_) hs;obtain ⟨it,fp,tn,J,H2,e,I2,T,HK,f2,W,⟨m0,w0⟩,turn⟩:=h2;subst e;have stat:∀ {H':Hp},(∀ b ∈ fp,H' b=none)->∀ b ∈ fp,Fh X pins H' b:=fun hn b hb=>⟨hn b hb,(f2 b hb).2⟩
 refine codeAny_forLoop_any (fun n s'=>∃ i Ay H',Av X pins Ay H' s'/\tn i s'.heap/\(∀ b ∈ fp,H' b=none)/\W i n Ay H') ?_ m0 ⟨0,σ,H2,I2,HK,fun b hb=>(f2 b hb).1,w0⟩;rintro n s3 ⟨i,Q0,H3,I3,Yt,fr3,w3⟩;rcases turn i n Q0 H3 w3 with ⟨stop,qn⟩ | ⟨go,N,hN,step⟩
 ·refine wpAny_passesOwn hp (By (T.done X rfl rfl rfl hc i (pins:=pins) s3 Q0 H3 X.xe I3 (stat fr3) Yt stop) fun r s4 ⟨hr,I4⟩=>?_);subst hr;exact wpAny_execs_nil ⟨Q0,H3,I4,qn⟩
 ·refine wpAny_passesOwn hp (By (T.item X rfl rfl rfl hc i (pins:=pins) s3 Q0 H3 X.xe I3 (stat fr3) Yt go) fun r s4 ⟨u,hr,h4⟩=>?_);subst hr;refine wpAny_passesOwn hp (By h4 fun _ s5 ⟨x,H5,I5,r5,y5,Ys,fr5⟩=>?_);have I5':=I5.pinned (stat fr5) (T.obj _ _ Ys);refine wpAny_passesOwn hp (By (hg s5 Q0 H5 x u _ I5' r5 (step x H5 y5)) fun _ s6 ⟨σ6,H6,I6,q6⟩=>?_);refine wpAny_passesOwn hp (By (hb s6 σ6 H6 _ I6 q6) fun f s7 q7=>?_);have again:∀ {FK:St} {H7:Hp},Av X (pins ++ EV fp s5.heap) FK H7 s7->N FK H7->∃ m,m < n/\∃ i Ay H',Av X pins Ay H' s7/\tn i s7.heap/\(∀ b ∈ fp,H' b=none)/\W i m Ay H':=fun {FK H7} I7 n7=>by
   obtain ⟨m',hm,w7⟩:=hN FK H7 n7;refine ⟨m',hm,i + 1,FK,H7,I7.unpinned,T.keep _ _ _ Ys fun b hb o e=>(I7.pin (b,o) (ZC _ (ZC _ (B6 hb e)))).1,fun b hb=>?_,w7⟩;obtain ⟨o,e,d⟩:=T.obj _ _ Ys b hb;exact (I7.pin (b,o) (ZC _ (ZC _ (B6 hb e)))).2.1
  cases f with
  | next=>obtain ⟨FK,H7,I7,n7⟩:=q7; exact again I7 n7
  | cont=>obtain ⟨FK,H7,I7,n7⟩:=q7; exact again I7 n7
  | brk=>obtain ⟨FK,H7,I7,q7⟩:=q7; exact ⟨FK,H7,I7.unpinned,q7⟩
  | ret v=>obtain ⟨x7,FK,H7,I7,r7,q7⟩:=q7; exact ⟨x7,FK,H7,I7.unpinned,r7,q7⟩
end
theorem RQ {K:Zw} {a:Addr} {xs:List V} {g:TG} {tb:TS} {D:Fi} {σ:St} {H:Hp} (Pv:Nat->St->Hp->Prop) (h0:Pv 0 σ H) (hl:∀ i σ H,i<=xs.length->Pv i σ H->AX K H a xs)
  (hs:∀ i x σ H,xs[i]? = some x->Pv i σ H->g x σ H fun AG H2=>tb { D with nx:=Pv (i + 1),ct:=Pv (i + 1),bk:=D.nx } AG H2) (hd:∀ σ H,Pv xs.length σ H->D.nx σ H) :
  ∃ W:Nat->Nat->St->Hp->Prop,(∃ m,W 0 m σ H)/\∀ i m σ H,W i m σ H ->
   ((Ss K a).stop i H/\D.nx σ H)\/((Ss K a).go i H/\∃ N:St->Hp->Prop,(∀ Ay H',N Ay H'->∃ m',m' < m/\W (i + 1) m' Ay H')/\∀ x H',(Ss K a).yld i H x H'->g x σ H' fun AG H2=>tb { D with nx:=N,ct:=N,bk:=D.nx } AG H2):=by
 exists fun i m σ H=>m=xs.length - i/\i<=xs.length/\Pv i σ H,⟨xs.length,by simp,ZQ _,h0⟩
 rintro i m σ H ⟨rfl,hi,p⟩;have q:=hl i σ H hi p;by_cases BL:i < xs.length
 ·refine .inr ⟨⟨xs,xs[i],q,by simp [BL]⟩,Pv (i + 1),fun Ay H' p'=>⟨xs.length - (i + 1),by lia,rfl,BL,p'⟩,fun x H' y=>?_⟩;obtain ⟨e,y⟩:=y;subst e;exact hs i x σ _ (y xs q) p
 ·have e:i=xs.length:=by lia
  subst e;exact .inl ⟨⟨xs,q,Z4 _⟩,hd σ H p⟩
theorem OA {K:Zw} {a:Addr} {xs:List V} {g:TG} {tb:TS} {D:Fi} {σ:St} {H:Hp} (Pv:Nat->St->Hp->Prop) (h0:Pv 0 σ H) (hl:∀ i σ H,i<=xs.length->Pv i σ H->A4 K H a xs)
  (hs:∀ i x σ H,xs[i]? = some x->Pv i σ H->g x σ H fun AG H2=>tb { D with nx:=Pv (i + 1),ct:=Pv (i + 1),bk:=D.nx } AG H2) (hd:∀ σ H,Pv xs.length σ H->D.nx σ H) :
  ∃ W:Nat->Nat->St->Hp->Prop,(∃ m,W 0 m σ H)/\∀ i m σ H,W i m σ H ->
   ((Qr K a).stop i H/\D.nx σ H)\/((Qr K a).go i H/\∃ N:St->Hp->Prop,(∀ Ay H',N Ay H'->∃ m',m' < m/\W (i + 1) m' Ay H')/\∀ x H',(Qr K a).yld i H x H'->g x σ H' fun AG H2=>tb { D with nx:=N,ct:=N,bk:=D.nx } AG H2):=by
 exists fun i m σ H=>m=xs.length - i/\i<=xs.length/\Pv i σ H,⟨xs.length,by simp,ZQ _,h0⟩
 rintro i m σ H ⟨rfl,hi,p⟩;have q:=hl i σ H hi p;by_cases BL:i < xs.length
 ·refine .inr ⟨⟨xs,xs[i],q,by simp [BL]⟩,Pv (i + 1),fun Ay H' p'=>⟨xs.length - (i + 1),by lia,rfl,BL,p'⟩,fun x H' y=>?_⟩;obtain ⟨e,y⟩:=y;subst e;exact hs i x σ _ (y xs q) p
 ·have e:i=xs.length:=by lia
  subst e;exact .inl ⟨⟨xs,q,Z4 _⟩,hd σ H p⟩
theorem El {lo:Int} {n:Nat} {g:TG} {tb:TS} {D:Fi} {σ:St} {H:Hp} (Pv:Nat->St->Hp->Prop) (h0:Pv 0 σ H)
  (hs:∀ i σ H,i < n->Pv i σ H->g (.int (lo + i)) σ H fun AG H2=>tb { D with nx:=Pv (i + 1),ct:=Pv (i + 1),bk:=D.nx } AG H2) (hd:∀ σ H,Pv n σ H->D.nx σ H) :
  ∃ W:Nat->Nat->St->Hp->Prop,(∃ m,W 0 m σ H)/\∀ i m σ H,W i m σ H ->
   ((Sr lo n).stop i H/\D.nx σ H)\/((Sr lo n).go i H/\∃ N:St->Hp->Prop,(∀ Ay H',N Ay H'->∃ m',m' < m/\W (i + 1) m' Ay H')/\∀ x H',(Sr lo n).yld i H x H'->g x σ H' fun AG H2=>tb { D with nx:=N,ct:=N,bk:=D.nx } AG H2):=by
 exists fun i m σ H=>m=n - i/\i<=n/\Pv i σ H,⟨n,by simp,ZQ _,h0⟩
 rintro i m σ H ⟨rfl,hi,p⟩;by_cases BL:i < n
 ·refine .inr ⟨BL,Pv (i + 1),fun Ay H' p'=>⟨n - (i + 1),by lia,rfl,BL,p'⟩,fun x H' y=>?_⟩;obtain ⟨e,y⟩:=y;subst e y;exact hs i σ _ BL p
 ·have e:i=n:=by lia
  subst e;exact .inl ⟨Z4 _,hd σ H p⟩
abbrev R2:=V->V->Hp->VK->Prop
def Ft (X:Cx) (f:Value->Value->Sem Value) (r:R2):Prop:=
 ∀ ⦃pins:List (Addr × Obj)⦄ (s:Shared) (σ:St) (H:Hp) (x y:V) (v u:Value) (Q:VK),Av X pins σ H s->AF x v->AF y u->r x y H Q ->
  wpAny (model X.prog X.w) X.A (f v u) (EP X pins σ Q) X.xe s
def UnR (X:Cx) (f:Value->Sem Value) (r:V->Hp->VK->Prop):Prop:=
 ∀ ⦃pins:List (Addr × Obj)⦄ (s:Shared) (σ:St) (H:Hp) (x:V) (v:Value) (Q:VK),Av X pins σ H s->AF x v->r x H Q ->
  wpAny (model X.prog X.w) X.A (f v) (EP X pins σ Q) X.xe s
def Bz (X:Cx) (f:Value) (r:List V->Hp->VK->Prop):Prop:=
 ∀ ⦃pins:List (Addr × Obj)⦄ (s:Shared) (σ:St) (H:Hp) (xs:List V) (us:List Value) (Q:VK),Av X pins σ H s->A9 xs us->r xs H Q ->
  wpAny (model X.prog X.w) X.A (call f us) (EP X pins σ Q) X.xe s
def TruR (X:Cx) (r:V->Hp->(Bool->Hp->Prop)->Prop):Prop:=
 ∀ ⦃pins:List (Addr × Obj)⦄ (s:Shared) (σ:St) (H:Hp) (x:V) (v:Value) (Q:Bool->Hp->Prop),Av X pins σ H s->AF x v->r x H Q ->
  wpAny (model X.prog X.w) X.A (truthy v) (TP X pins σ Q) X.xe s
def tOp (r:R2) (ta tb:TE):TE:=fun σ H Q=>ta σ H fun x H1=>tb σ H1 fun y H2=>r x y H2 Q
def tUn (r:V->Hp->VK->Prop) (ta:TE):TE:=fun σ H Q=>ta σ H fun x H1=>r x H1 Q
def rI (C:Int->Int->Prop) (g:Int->Int->V):R2:=fun x y H Q=>∃ i j,x=.int i/\y=.int j/\C i j/\Q (g i j) H
def TQ (g:Int->Int->V):R2:=fun x y H Q=>∃ i j,x=.int i/\y=.int j/\Q (g i j) H
def rU (g:Int->V):V->Hp->VK->Prop:=fun x H Q=>∃ i,x=.int i/\Q (g i) H
section
variable {X:Cx} {a b c:Expr} {ta tb tc:TE} {pos:Pos}
theorem VC (ha:PE X a ta) (hb:PE X b tb) {pins:List (Addr × Obj)} {s:Shared} {σ:St} {H:Hp} {R:V->V->Hp->Prop} (I:Av X pins σ H s)
  (h:ta σ H fun x H1=>tb σ H1 fun y H2=>R x y H2) {Q:Value->Shared->Prop} {f:Value->Value->Sem Value}
  (hf:∀ v u s2 x y H2,Av X pins σ H2 s2->AF x v->AF y u->R x y H2->wpAny (model X.prog X.w) X.A (f v u) Q X.xe s2) :
  wpAny (model X.prog X.w) X.A (eval a X.env) (fun v AR=>wpAny (model X.prog X.w) X.A (eval b X.env) (fun u EI=>wpAny (model X.prog X.w) X.A (f v u) Q X.xe EI) X.xe AR) X.xe s:=by
 refine By (ha (pins:=pins) s σ H _ I h) fun v s1 ⟨x,H1,I1,r1,q1⟩=>?_
 refine By (hb (pins:=pins) s1 σ H1 _ I1 q1) fun u s2 ⟨y,H2,I2,r2,q2⟩=>?_
 exact hf v u s2 x y H2 I2 r1 r2 q2
theorem Aq {op:Operator} {r:R2} (ho:Ft X (binaryOp op) r) (ha:PE X a ta) (hb:PE X b tb):PE X (.BinOp a op b pos) (tOp r ta tb):=by
 intro pins s σ H Q I h;exact wpAny_BinOp (VC ha hb I h fun v u s2 x y H2 I2 rx ry q=>ho (pins:=pins) s2 σ H2 x y v u Q I2 rx ry q)
theorem FZ {op:UnaryOp} {r:V->Hp->VK->Prop} (ho:UnR X (unaryOp op) r) (ha:PE X a ta):PE X (.UnaryOp op a pos) (tUn r ta):=by
 intro pins s σ H Q I h;exact UnaryOp_ (By (ha (pins:=pins) s σ H _ I h) fun v s1 ⟨x,H1,I1,r1,q1⟩=>ho (pins:=pins) s1 σ H1 x v Q I1 r1 q1)
theorem opI {f:Value->Value->Sem Value} {C:Int->Int->Prop} {g:Int->Int->Int}
  (rule:∀ (i j:Int) (t u:Tok) (s:Shared) (Q:Value->Shared->Prop) (E:Value->Shared->Prop),C i j->Q (.int (g i j) s.toks) { s with toks:=s.toks + 1 }->wpAny (model X.prog X.w) X.A (f (.int i t) (.int j u)) Q E s) :
  Ft X f (rI C fun i j=>.int (g i j)):=by
 intro pins s σ H x y v u Q I rx ry h;obtain ⟨i,j,rfl,rfl,hc,q⟩:=h;obtain ⟨t,rfl⟩:=rx;obtain ⟨t',rfl⟩:=ry;exact rule i j t t' s _ _ hc ⟨.int (g i j),H,I.tok _,⟨_,rfl⟩,q⟩
theorem opI0 {f:Value->Value->Sem Value} {g:Int->Int->Int}
  (rule:∀ (i j:Int) (t u:Tok) (s:Shared) (Q:Value->Shared->Prop) (E:Value->Shared->Prop),Q (.int (g i j) s.toks) { s with toks:=s.toks + 1 }->wpAny (model X.prog X.w) X.A (f (.int i t) (.int j u)) Q E s) :
  Ft X f (TQ fun i j=>.int (g i j)):=by
 intro pins s σ H x y v u Q I rx ry h;obtain ⟨i,j,rfl,rfl,q⟩:=h;obtain ⟨t,rfl⟩:=rx;obtain ⟨t',rfl⟩:=ry;exact rule i j t t' s _ _ ⟨.int (g i j),H,I.tok _,⟨_,rfl⟩,q⟩
theorem SK {f:Value->Value->Sem Value} {g:Int->Int->Bool}
  (rule:∀ (i j:Int) (t u:Tok) (s:Shared) (Q:Value->Shared->Prop) (E:Value->Shared->Prop),Q (.bool (g i j)) s->wpAny (model X.prog X.w) X.A (f (.int i t) (.int j u)) Q E s) :
  Ft X f (TQ fun i j=>.bl (g i j)):=by
 intro pins s σ H x y v u Q I rx ry h;obtain ⟨i,j,rfl,rfl,q⟩:=h;obtain ⟨t,rfl⟩:=rx;obtain ⟨t',rfl⟩:=ry;exact rule i j t t' s _ _ ⟨.bl (g i j),H,I,rfl,q⟩
def CPow (i j:Int):Prop:=0<=j/\j<=1000000/\i.natAbs < 2 ^ 64
def VP (i j:Int):Prop:=(-(2 ^ 64) < i/\i < 2 ^ 64)\/(-(2 ^ 64) < j/\j < 2 ^ 64)
theorem VP.ok {i j:Int} (h:VP i j):IntMulOk i j:=by
 rcases h with ⟨h1,h2⟩ | ⟨h1,h2⟩
 ·exact .of_left (intBits_le_64 h1 h2)
 ·exact .of_right (intBits_le_64 h1 h2)
theorem Bf:Ft X (binaryOp .Add) (TQ fun i j=>.int (i + j)):=opI0 fun _ _ _ _ _ _ _ q=>add_int q
theorem KP:Ft X (binaryOp .Sub) (TQ fun i j=>.int (i - j)):=opI0 fun _ _ _ _ _ _ _ q=>sub_int q
theorem Cs:Ft X (binaryOp .Mult) (rI VP fun i j=>.int (i * j)):=opI fun _ _ _ _ _ _ _ hc q=>mul_int q hc.ok
theorem EW:Ft X (binaryOp .Mod) (rI (fun _ j=>0 < j) fun i j=>.int (i % j)):=opI fun i j _ _ _ _ _ hc q=>by
 have h1:(0:Int) < j:=hc;exact mod_int' (by lia) (by rw [Int.fmod_eq_emod_of_nonneg i (by lia)]; exact q)
theorem Nm:Ft X (binaryOp .Pow) (rI CPow fun i j=>.int (i ^ j.toNat)):=opI fun _ _ _ _ _ _ _ hc q=>pow_int_small hc.1 hc.2.1 hc.2.2 q
theorem unI {f:Value->Sem Value} {g:Int->Int}
  (rule:∀ (i:Int) (t:Tok) (s:Shared) (Q:Value->Shared->Prop) (E:Value->Shared->Prop),Q (.int (g i) s.toks) { s with toks:=s.toks + 1 }->wpAny (model X.prog X.w) X.A (f (.int i t)) Q E s) :
  UnR X f (rU fun i=>.int (g i)):=by
 intro pins s σ H x v Q I rx h;obtain ⟨i,rfl,q⟩:=h;obtain ⟨t,rfl⟩:=rx;exact rule i t s _ _ ⟨.int (g i),H,I.tok _,⟨_,rfl⟩,q⟩
theorem Er:UnR X (unaryOp .USub) (rU fun i=>.int (-i)):=unI fun _ _ _ _ _ q=>neg_int q
end
def scal:V->V->Bool
 | .non,.non=>true | .non,.int _=>true | .int _,.non=>true | .non,.bl _=>true | .bl _,.non=>true | .non,.str _=>true | .str _,.non=>true
 | .int _,.int _=>true | .bl _,.bl _=>true | .str _,.str _=>true | .byt _,.byt _=>true
 | .int _,.str _=>true | .str _,.int _=>true | .bl _,.str _=>true | .str _,.bl _=>true
 | _,_=>false
def rEq:R2:=fun x y H Q=>scal x y=true/\Q (.bl (decide (x=y))) H
def rNe:R2:=fun x y H Q=>scal x y=true/\Q (.bl (!decide (x=y))) H
theorem OF {i j:Int}:decide (V.int i=V.int j)=(i == j):=by
 rw [aE];simp
theorem RW {i j:Bool}:decide (V.bl i=V.bl j)=(i == j):=by
 rw [aE];simp
theorem OE {i j:Str}:decide (V.str i=V.str j)=(i == j):=by
 rw [aE];simp
theorem OG {i j:Array UInt8}:decide (V.byt i=V.byt j)=(i.toList == j.toList):=by
 rw [aE];cases i
 cases j
 simp
section
variable {X:Cx} {a b c:Expr} {ta tb tc:TE} {pos:Pos}
theorem AY {pins:List (Addr × Obj)} {σ:St} {H:Hp} {s:Shared} {Q:VK} {k k':Bool} (I:Av X pins σ H s) (q:Q (.bl k) H) (e:k=k'):EP X pins σ Q (.bool k') s:=by
 subst e;exact ⟨.bl k,H,I,rfl,q⟩
theorem Hs:Ft X (compareOp .Eq) rEq:=by
 intro pins s σ H x y v u Q I rx ry h;obtain ⟨hs,q⟩:=h;cases x with
 | non=>
  cases rx
  cases y with
  | non=>cases ry; exact PySem.EqNone.eq_none_none (AY I q (by simp))
  | bl j=>cases ry; exact PySem.EqNone.eq_none_bool (AY I q (by simp))
  | int j=>obtain ⟨t',rfl⟩:=ry; exact PySem.EqNone.eq_none_int (AY I q (by simp))
  | str j=>obtain ⟨t',rfl⟩:=ry; exact PySem.EqNone.eq_none_str (AY I q (by simp))
  | _=>exact absurd (show false=true from hs) ZD
 | bl i=>
  cases rx
  cases y with
  | non=>cases ry; exact PySem.EqNone.eq_bool_none (AY I q (by simp))
  | bl j=>cases ry; exact eq_bool (AY I q RW)
  | str j=>obtain ⟨t',rfl⟩:=ry; exact PySem.EqMixed.eq_bool_str (AY I q (by simp))
  | _=>exact absurd (show false=true from hs) ZD
 | int i=>
  obtain ⟨t,rfl⟩:=rx;cases y with
  | non=>cases ry; exact PySem.EqNone.eq_int_none (AY I q (by simp))
  | int j=>obtain ⟨t',rfl⟩:=ry; exact eq_int (AY I q OF)
  | str j=>obtain ⟨t',rfl⟩:=ry; exact PySem.EqMixed.eq_int_str (AY I q (by simp))
  | _=>exact absurd (show false=true from hs) ZD
 | str i=>
  obtain ⟨t,rfl⟩:=rx;cases y with
  | non=>cases ry; exact PySem.EqNone.eq_str_none (AY I q (by simp))
  | bl j=>cases ry; exact PySem.EqMixed.eq_str_bool (AY I q (by simp))
  | int j=>obtain ⟨t',rfl⟩:=ry; exact PySem.EqMixed.eq_str_int (AY I q (by simp))
  | str j=>obtain ⟨t',rfl⟩:=ry; exact eq_str (AY I q OE)
  | _=>exact absurd (show false=true from hs) ZD
 | byt i=>
  obtain ⟨t,rfl⟩:=rx;cases y with
  | byt j=>obtain ⟨t',rfl⟩:=ry; exact PySem.W.eq_bytes (AY I q OG)
  | _=>exact absurd (show false=true from hs) ZD
 | _=>cases y <;> exact absurd (show false=true from hs) ZD
theorem Rt:Ft X (compareOp .NotEq) rNe:=by
 intro pins s σ H x y v u Q I rx ry h;obtain ⟨hs,q⟩:=h;cases x with
 | non=>
  cases rx
  cases y with
  | non=>cases ry; exact PySem.EqNone.ne_none_none (AY I q (by simp))
  | bl j=>cases ry; exact PySem.EqNone.ne_none_bool (AY I q (by simp))
  | int j=>obtain ⟨t',rfl⟩:=ry; exact PySem.EqNone.ne_none_int (AY I q (by simp))
  | str j=>obtain ⟨t',rfl⟩:=ry; exact PySem.EqNone.ne_none_str (AY I q (by simp))
  | _=>exact absurd (show false=true from hs) ZD
 | bl i=>
  cases rx
  cases y with
  | non=>cases ry; exact PySem.EqNone.ne_bool_none (AY I q (by simp))
  | bl j=>cases ry; exact ne_bool (AY I q (congrArg not RW))
  | str j=>obtain ⟨t',rfl⟩:=ry; exact PySem.EqMixed.ne_bool_str (AY I q (by simp))
  | _=>exact absurd (show false=true from hs) ZD
 | int i=>
  obtain ⟨t,rfl⟩:=rx;cases y with
  | non=>cases ry; exact PySem.EqNone.ne_int_none (AY I q (by simp))
  | int j=>obtain ⟨t',rfl⟩:=ry; exact ne_int (AY I q (congrArg not OF))
  | str j=>obtain ⟨t',rfl⟩:=ry; exact PySem.EqMixed.ne_int_str (AY I q (by simp))
  | _=>exact absurd (show false=true from hs) ZD
 | str i=>
  obtain ⟨t,rfl⟩:=rx;cases y with
  | non=>cases ry; exact PySem.EqNone.ne_str_none (AY I q (by simp))
  | bl j=>cases ry; exact PySem.EqMixed.ne_str_bool (AY I q (by simp))
  | int j=>obtain ⟨t',rfl⟩:=ry; exact PySem.EqMixed.ne_str_int (AY I q (by simp))
  | str j=>obtain ⟨t',rfl⟩:=ry; exact ne_str (AY I q (congrArg not OE))
  | _=>exact absurd (show false=true from hs) ZD
 | byt i=>
  obtain ⟨t,rfl⟩:=rx;cases y with
  | byt j=>obtain ⟨t',rfl⟩:=ry; exact PySem.W.ne_bytes (AY I q (congrArg not OG))
  | _=>exact absurd (show false=true from hs) ZD
 | _=>cases y <;> exact absurd (show false=true from hs) ZD
theorem TV:Ft X (compareOp .Lt) (TQ fun i j=>.bl (decide (i < j))):=SK fun _ _ _ _ _ _ _ q=>lt_int q
theorem Mi:Ft X (compareOp .LtE) (TQ fun i j=>.bl (decide (i<=j))):=SK fun _ _ _ _ _ _ _ q=>le_int q
theorem TX:Ft X (compareOp .Gt) (TQ fun i j=>.bl (decide (j < i))):=SK fun _ _ _ _ _ _ _ q=>gt_int q
theorem TY:Ft X (compareOp .GtE) (TQ fun i j=>.bl (decide (j<=i))):=SK fun _ _ _ _ _ _ _ q=>ge_int q
theorem B5 (b:Expr) {op:CmpOp} (h:op ≠ .In:=by decide) (h2:op ≠ .NotIn:=by decide):behindInMarks op b=false:=by
 have e1:(op == CmpOp.In)=false:=by cases op <;> first | rfl | exact absurd rfl h
 have e2:(op == CmpOp.NotIn)=false:=by cases op <;> first | rfl | exact absurd rfl h2
 cases b <;> simp [behindInMarks,e1,e2]
theorem C7 {op:CmpOp} {r:R2} (ho:Ft X (compareOp op) r) (ha:PE X a ta) (hb:PE X b tb) (hm:behindInMarks op b=false):PE X (.Compare a [op] [b] pos) (tOp r ta tb):=by
 intro pins s σ H Q I h;exact wpAny_Compare1 (VC ha hb I h fun v u s2 x y H2 I2 rx ry q=>ho (pins:=pins) s2 σ H2 x y v u Q I2 rx ry q) hm
def TC (t:TE):TT:=fun σ H Q=>t σ H fun x H'=>∃ k,x=.bl k/\Q k H'
theorem BN {op:CmpOp} {r:R2} (ho:Ft X (compareOp op) r) (ha:PE X a ta) (hb:PE X b tb) (hm:behindInMarks op b=false):PT X (.Compare a [op] [b] pos) (TC (tOp r ta tb)):=by
 intro pins s σ H Q I h;refine wpAny_isTrue_Compare1 (By (ha (pins:=pins) s σ H _ I h) fun v s1 ⟨x,H1,I1,r1,q1⟩=>By (hb (pins:=pins) s1 σ H1 _ I1 q1) fun u s2 ⟨y,H2,I2,r2,q2⟩=>
  By (ho (pins:=pins) s2 σ H2 x y v u _ I2 r1 r2 q2) fun c s3 ⟨z,H3,I3,r3,k,e,q3⟩=>?_) hm
 subst e;cases r3
 exact wpAny_truthy_bool ⟨H3,I3,q3⟩
def MY (r r':R2) (ta tb tc:TE):TE:=fun σ H Q=>ta σ H fun x H1=>tb σ H1 fun y H2=>r x y H2 fun z H3=>∃ k,z=.bl k /\
 (if k=true then tc σ H3 fun w' H4=>r' y w' H4 Q else Q (.bl false) H3)
theorem Rp {op Vi:CmpOp} {r r':R2} (ho:Ft X (compareOp op) r) (Im:Ft X (compareOp Vi) r') (ha:PE X a ta) (hb:PE X b tb) (hc:PE X c tc)
  (hm:lastMarks [op,Vi] [b,c]=false:=by with_unfolding_all rfl):PE X (.Compare a [op,Vi] [b,c] pos) (MY r r' ta tb tc):=by
 intro pins s σ H Q I h;refine Compare_chain (By (ha (pins:=pins) s σ H _ I h) fun v s1 ⟨x,H1,I1,r1,q1⟩=>chain_link (By (hb (pins:=pins) s1 σ H1 _ I1 q1) fun u s2 ⟨y,H2,I2,r2,q2⟩=>
  By (ho (pins:=pins) s2 σ H2 x y v u _ I2 r1 r2 q2) fun d s3 ⟨z,H3,I3,r3,k,e,q3⟩=>?_)) hm
 subst e;cases r3
 refine wpAny_truthy_bool ?_;cases k with
 | false=>exact ite_ff ⟨.bl false,H3,I3,rfl,q3⟩
 | true=>exact ite_tt (chain_last (By (hc (pins:=pins) s3 σ H3 _ I3 q3) fun w' s4 ⟨z',H4,I4,r4,q4⟩=>Im (pins:=pins) s4 σ H4 y z' u w' Q I4 r2 r4 q4))
theorem Mb {op Vi:CmpOp} {r r':R2} (ho:Ft X (compareOp op) r) (Im:Ft X (compareOp Vi) r') (ha:PE X a ta) (hb:PE X b tb) (hc:PE X c tc)
  (hm:lastMarks [op,Vi] [b,c]=false:=by with_unfolding_all rfl):PT X (.Compare a [op,Vi] [b,c] pos) (TC (MY r r' ta tb tc)):=by
 intro pins s σ H Q I h;refine isTrue_chain (By (ha (pins:=pins) s σ H _ I h) fun v s1 ⟨x,H1,I1,r1,q1⟩=>test_link (By (hb (pins:=pins) s1 σ H1 _ I1 q1) fun u s2 ⟨y,H2,I2,r2,q2⟩=>
  By (ho (pins:=pins) s2 σ H2 x y v u _ I2 r1 r2 q2) fun d s3 ⟨z,H3,I3,r3,k,e,q3⟩=>?_)) hm
 subst e;cases r3
 refine wpAny_truthy_bool ?_;cases k with
 | false=>
  obtain ⟨k',e',q'⟩:=q3;cases e'
  exact ite_ff ⟨H3,I3,q'⟩
 | true=>
  refine ite_tt (test_last (By (hc (pins:=pins) s3 σ H3 _ I3 q3) fun w' s4 ⟨z',H4,I4,r4,q4⟩=>By (Im (pins:=pins) s4 σ H4 y z' u w' _ I4 r2 r4 q4) fun d' s5 ⟨z2,H5,I5,r5,k2,e2,q5⟩=>?_));subst e2;cases r5
  exact wpAny_truthy_bool ⟨H5,I5,q5⟩
def TruV (K:Zw) (x:V) (H:Hp) (k:Bool):Prop:=
 match x with
 | .non=>k=false
 | .bl b=>k=b
 | .int i=>k=(i != 0)
 | .str y=>y.length<=sizeLine/\k=((y.length:Int) != 0)
 | .byt y=>y.size<=sizeLine/\k=((y.size:Int) != 0)
 | .ref p=>(∃ xs,AX K H p xs/\k = !xs.isEmpty)\/(∃ xs,A4 K H p xs/\k = !xs.isEmpty)\/∃ kvs,H p=some (.dK kvs)/\k = !kvs.isEmpty
 | _=>False
theorem N1 {κ:Type} {kvs:List (κ × V)} {vs:List (κ × Value)} (r:KV kvs vs):(!vs.isEmpty) = !kvs.isEmpty:=by
 cases r <;> rfl
theorem Je {xs:List V} {Ax:List Value} (r:A9 xs Ax):(!Ax.toArray.isEmpty) = !xs.isEmpty:=by
 cases r <;> simp
theorem FA:(sizeLine:Nat) < 2 ^ 63:=by rw [sizeLine_eq]; decide
theorem U8:TruR X (fun x H Q=>∃ k,TruV X.K x H k/\Q k H):=by
 intro pins s σ H x v Q I rx h;obtain ⟨k,e,q⟩:=h;have hl:=FA;have hs:sizeLine=16777216:=sizeLine_eq;cases x with
 | non=>
  cases rx
  have e':k=false:=e;subst e';exact truthy_none ⟨H,I,q⟩
 | bl b=>
  cases rx
  have e':k=b:=e;subst e';exact wpAny_truthy_bool ⟨H,I,q⟩
 | int i=>
  obtain ⟨t,rfl⟩:=rx;have e':k=(i != 0):=e;subst e';exact PySem.P.truthy_int ⟨H,I,q⟩
 | str y=>
  obtain ⟨t,rfl⟩:=rx;obtain ⟨hy,e'⟩:y.length<=sizeLine/\k=((y.length:Int) != 0):=e;subst e';exact PySem.P.truthy_str (by lia) ⟨H,I.tok _,q⟩
 | byt y=>
  obtain ⟨t,rfl⟩:=rx;obtain ⟨hy,e'⟩:y.size<=sizeLine/\k=((y.size:Int) != 0):=e;subst e';exact PySem.W.truthy_bytes (by lia) ⟨H,I.tok _,q⟩
 | ref p=>
  cases rx
  have e':(∃ xs,AX X.K H p xs/\k = !xs.isEmpty)\/(∃ xs,A4 X.K H p xs/\k = !xs.isEmpty)\/∃ kvs,H p=some (.dK kvs)/\k = !kvs.isEmpty:=e;rcases e' with ⟨xs,hx,e'⟩ | ⟨xs,hx,e'⟩ | ⟨kvs,hx,e'⟩
  ·subst e';obtain ⟨Ax,r,pl,hz⟩:=I.list hx;have hlen:=r.length;exact wpAny_truthy_list pl.isList (by simp only [ZA]; lia) ⟨H,I.tok _,by rw [Je r]; exact q⟩
  ·subst e';obtain ⟨Ax,r,pl,hz⟩:=I.tuple hx;have hlen:=r.length;exact truthy_tuple pl (by simp only [ZA]; lia) ⟨H,I.tok _,by rw [Je r]; exact q⟩
  ·subst e';obtain ⟨hz,hS,vs,r,m⟩:kvs.length<=sizeLine/\(p == sysModules)=false/\∃ vs,KV kvs vs/\s.heap.DictOf (AS X.prog X.w) p vs:=I.hok p _ hx;have hlen:kvs.length=vs.length:=Paired.length r;exact wpAny_truthy_dict hS m (by lia) ⟨H,I.tok _,by rw [N1 r]; exact q⟩
 | _=>exact (show False from e).elim
theorem Rh (ha:PE X a ta) (he:∀ whole,isTrue a X.env whole=(do let v <- whole; standAt a.pos; holding [v] (truthy v))) :
  PT X a (fun σ H Q=>ta σ H fun x H'=>∃ k,TruV X.K x H' k/\Q k H'):=by
 intro pins s σ H Q I h;exact isTrue_plain (By (ha (pins:=pins) s σ H _ I h) fun v s1 ⟨x,H1,I1,r1,q1⟩=>U8 (pins:=pins) s1 σ H1 x v Q I1 r1 q1) (he _)
theorem F8:Ft X (binaryOp .Add) (fun x y H Q=>∃ i j,x=.str i/\y=.str j/\i.length + j.length<=sizeLine/\Q (.str (i ++ j)) H):=by
 intro pins s σ H x y v u Q I rx ry h;obtain ⟨i,j,rfl,rfl,hz,q⟩:=h;obtain ⟨t,rfl⟩:=rx;obtain ⟨t',rfl⟩:=ry;exact add_str (fun t' tk=>⟨.str (i ++ j),H,I.tok _,⟨_,rfl⟩,q⟩) hz
theorem Ce {x:V} {us:List Value} (r:A9 [x] us):∃ u,us=[u]/\AF x u:=by
 cases r with
 | cons r1 r2=>cases r2; exact ⟨_,rfl,r1⟩
theorem NX {x y:V} {us:List Value} (r:A9 [x,y] us):∃ u w',us=[u,w']/\AF x u/\AF y w':=by
 cases r with
 | cons r1 r2=>
  cases r2 with
  | cons r3 r4=>cases r4; exact ⟨_,_,rfl,r1,r3⟩
theorem MF:Bz X (.builtin "abs") (fun xs H Q=>∃ i,xs=[.int i]/\Q (.int (if i < 0 then -i else i)) H):=by
 intro pins s σ H xs us Q I r h;obtain ⟨i,rfl,q⟩:=h;obtain ⟨u,rfl,t,rfl⟩:=Ce r;exact call_abs_int fun u tk=>⟨.int (if i < 0 then -i else i),H,I.tok _,⟨_,rfl⟩,q⟩
theorem G9 (hc:X.calm=true):Bz X (.builtin "max") (fun xs H Q=>∃ i j,xs=[.int i,.int j]/\Q (.int (if j > i then j else i)) H):=by
 intro pins s σ H xs us Q I r h;obtain ⟨i,j,rfl,q⟩:=h;obtain ⟨u,w',rfl,⟨t,rfl⟩,⟨t',rfl⟩⟩:=NX r;refine max_two_ints (I.ok.hd hc) fun h' tk k=>⟨_,H,I.kept k,?_,q⟩
 by_cases hj:j > i
 ·rw [if_pos hj,if_pos hj]; exact ⟨_,rfl⟩
 ·rw [if_neg hj,if_neg hj]; exact ⟨_,rfl⟩
theorem G8 (hc:X.calm=true):Bz X (.builtin "min") (fun xs H Q=>∃ i j,xs=[.int i,.int j]/\Q (.int (if j < i then j else i)) H):=by
 intro pins s σ H xs us Q I r h;obtain ⟨i,j,rfl,q⟩:=h;obtain ⟨u,w',rfl,⟨t,rfl⟩,⟨t',rfl⟩⟩:=NX r;refine min_two_ints (I.ok.hd hc) fun h' tk k=>⟨_,H,I.kept k,?_,q⟩
 by_cases hj:j < i
 ·rw [if_pos hj,if_pos hj]; exact ⟨_,rfl⟩
 ·rw [if_neg hj,if_neg hj]; exact ⟨_,rfl⟩
theorem Eo:Bz X (.type "int") (fun xs H Q=>(∃ i,xs=[.int i]/\Q (.int i) H)\/∃ k,xs=[.bl k]/\Q (.int (if k then 1 else 0)) H):=by
 intro pins s σ H xs us Q I r h;rcases h with ⟨i,rfl,q⟩ | ⟨k,rfl,q⟩
 ·obtain ⟨u,rfl,t,rfl⟩:=Ce r;exact call_int_int ⟨.int i,H,I,⟨_,rfl⟩,q⟩
 ·obtain ⟨u,rfl,r1⟩:=Ce r;cases r1
  exact call_int_bool ⟨.int (if k then 1 else 0),H,I.tok _,⟨_,rfl⟩,q⟩
theorem Lp:Bz X (.type "str") (fun xs H Q=>∃ i,xs=[.int i]/\i.natAbs.log2 < 1920/\Q (.str (toString i)) H):=by
 intro pins s σ H xs us Q I r h;obtain ⟨i,rfl,hz,q⟩:=h;obtain ⟨u,rfl,t,rfl⟩:=Ce r;exact PySem.P.str_of_int hz ⟨.str _,H,I.tok _,⟨_,rfl⟩,q⟩
end
structure VJ (h:Heap) (x dx C:Addr) (mA:Str->Option Value):Prop where
 obj:h.get? x=some (cx C dx)
 ns:h.Ns1 dx mA
 ne:dx ≠ x
theorem PQ {h:Heap} {dx:Addr} {mA:Str->Option Value} (n:h.Ns1 dx mA):∃ od,h.get? dx=some od/\∀ name,cE name od=some (mA name):=by
 obtain ⟨o,es,ep,ho,hd,hk,_,hm⟩:=n;refine ⟨o,ho,fun name=>?_⟩;have e:=hm name;unfold nsFind findBy at e;rw [<-Array.find?_toList] at e;unfold cE;rw [hd];dsimp only;split
 ·rename_i y q
  rw [q] at e;exact congrArg some e
 ·rename_i q
  rw [q] at e;have a:es.toList.any (·.refKey)=false:=by
   rw [List.any_eq_false];intro y hy;obtain ⟨z,t,hkey⟩:=hk y (cV.mp hy);simp [DictEntry.refKey,hkey]
  have a':¬ es.toList.any (·.refKey)=true:=by rw [a]; exact ZD
  rw [if_neg a'];exact congrArg some e
theorem VJ.look {h:Heap} {x dx C:Addr} {mA:Str->Option Value} (I:VJ h x dx C mA):∃ od,PySem.W.InstAt h x (cx C dx) C (some od)/\∀ name,cE name od=some (mA name):=
 let ⟨od,ho,hl⟩:=PQ I.ns
 ⟨od,⟨I.obj,rfl,rfl,ho⟩,hl⟩
section
variable {prog:Program} {w:World} {A:Around} {E:Value->Shared->Prop} {s:Shared} {K:Zw} {x dx C f:Addr} {mA:Str->Option Value} {name:Str} {v:Value}
end
theorem GJ.some_of {v:V} {o:Option Value} (r:GJ (some v) o):∃ u,o=some u/\AF v u:=by
 cases o with
 | none=>exact (show False from r).elim
 | some u=>exact ⟨u,rfl,r⟩
section
variable {P:Program} {w:World} {H H':Hp} {h h':Heap} {a C dx:Addr} {fs fs':List (Str × V)}
theorem Tc (hok:FJ P w H h) (e:H a=some (.ins C dx fs)):∃ mA,VJ h a dx C mA/\(∀ f,GJ (fs.lookup f) (mA f))/\PySem.Within mA (fs.map (·.1))/\fs.length<=1000/\H dx=some (.own a):=by
 obtain ⟨d,z,ne,ob,mA,n,r,q⟩:=(show AO P w H h a (.ins C dx fs) from hok a _ e)
 exact ⟨mA,⟨ob,n,ne⟩,r,q,z,d⟩
end
structure Cls (K:Zw) (C:Addr):Prop where
 pg:dk K C Str.empty=true
 hd:PySem.W.hasDictIn K C=true
 po:PySem.W.plainOver K C=true
 sa:dF K (.ref C) "__setattr__"=some (some (.builtin "object.__setattr__"))
theorem Cls.get {K:Zw} {C:Addr} (c:Cls K C) (f:Str):dk K C f=true:=c.pg
section
variable {X:Cx} {pins:List (Addr × Obj)} {σ:St} {H:Hp} {s:Shared} {a C dx:Addr} {fs:List (Str × V)} {f:Str} {v:V} {A:Around} {E:Value->Shared->Prop}
end
section
variable {X:Cx} {o e value:Expr} {f:Str} {pos pos' tpos:Pos} {ta tv:TE}
end
section
variable {X:Cx} {pins:List (Addr × Obj)} {σ:St} {H:Hp} {s:Shared} {A:Around} {E:Value->Shared->Prop} {Q:Value->Shared->Prop} {c:Value} {b:Bool}
inductive DV (K:Zw) (H:Hp):V->Value->Prop where
 | non:DV K H .non (.type "NoneType")
 | bl (x:Bool):DV K H (.bl x) (.type "bool")
 | int (i:Int):DV K H (.int i) (.type "int")
 | str (x:Str):DV K H (.str x) (.type "str")
 | flt (x:UInt64):DV K H (.flt x) (.type "float")
 | lst {a:Addr} {xs:List V} (e:H a=some (.lst xs)):DV K H (.ref a) (.type "list")
 | frz {a:Addr} {o:Obj} {xs:List V} (e:H a=some (.frz o (.lst xs))):DV K H (.ref a) (.type "list")
 | tup {a:Addr} {xs:List V} (e:H a=some (.tup xs)):DV K H (.ref a) (.type "tuple")
 | dK {a:Addr} {kvs:List (Bg × V)} (e:H a=some (.dK kvs)):DV K H (.ref a) (.type "dict")
 | dT {a:Addr} {kvs:List (List Bg × V)} (e:H a=some (.dT kvs)):DV K H (.ref a) (.type "dict")
 | ins {a C dx:Addr} {fs:List (Str × V)} (e:H a=some (.ins C dx fs)) (cl:Cls K C) (ha:dF K (.ref C) "__class__"=some (some (.builtin "object.__class__")))
   (hn:PySem.W.specialIn K (.builtin "object.__class__") "__get__"=some (some (.builtin "getset_descriptor.__get__"))) (htk:PySem.W.takesIn K (.builtin "object.__class__")=some true)
   (hm:PySem.W.mroIn K C (.type "object")=some true):DV K H (.ref a) (.ref C)
theorem PY {x:V} {u t:Value} (I:Av X pins σ H s) (rx:AF x u) (ty:DV X.K H x t) (e:b8 X.K t c=some b) (h:∀ tk,Q (.bool b) { s with toks:=tk }) :
  wpAny (model X.prog X.w) A (call (.builtin "isinstance") [u,c]) Q E s:=by
 cases ty with
 | non=>cases (show u=Value.none from rx); exact aD PySem.W.kitx_none I.kIn True.intro e (fun z=>nomatch z) h
 | bl y=>cases (show u=Value.bool y from rx); exact aD PySem.W.kitx_bool I.kIn True.intro e (fun z=>nomatch z) h
 | int i=>obtain ⟨t,q⟩:=(show ∃ t,u=Value.int i t from rx); cases q; exact aD PySem.W.kitx_int I.kIn True.intro e (fun z=>nomatch z) h
 | str y=>obtain ⟨t,q⟩:=(show ∃ t,u=Value.str y t from rx); cases q; exact aD PySem.W.kitx_str I.kIn True.intro e (fun z=>nomatch z) h
 | flt y=>obtain ⟨t,q⟩:=(show ∃ t,u=Value.float y t from rx); cases q; exact aD PySem.W.kitx_float I.kIn True.intro e (fun z=>nomatch z) h
 | @lst a xs ea=>
  cases (show u=Value.ref a from rx)
  obtain ⟨_,_,n,_,h1⟩:=(show AO X.prog X.w H s.heap a (.lst xs) from I.hok a _ ea)
  exact aD cY I.kIn ⟨_,h1,rfl⟩ e (fun z=>nomatch z) h
 | @frz a ob xs ea=>
  cases (show u=Value.ref a from rx)
  obtain ⟨_,_,_,n,_,h1⟩:=(show AO X.prog X.w H s.heap a (.frz ob (.lst xs)) from I.hok a _ ea)
  exact aD cY I.kIn ⟨_,h1,rfl⟩ e (fun z=>nomatch z) h
 | @tup a xs ea=>
  cases (show u=Value.ref a from rx)
  obtain ⟨_,_,_,p,_⟩:=(show AO X.prog X.w H s.heap a (.tup xs) from I.hok a _ ea)
  obtain ⟨o,h1,h2,_⟩:=p;exact aD PySem.W.kitx_tuple I.kIn ⟨o,h1,h2⟩ e (fun z=>nomatch z) h
 | @dK a kvs ea=>
  cases (show u=Value.ref a from rx)
  obtain ⟨_,_,vs,_,p⟩:=(show AO X.prog X.w H s.heap a (.dK kvs) from I.hok a _ ea)
  obtain ⟨o,es,ep,h1,h2,_⟩:=p;exact aD cZ I.kIn ⟨o,h1,h2.1⟩ e (fun z=>nomatch z) h
 | @dT a kvs ea=>
  cases (show u=Value.ref a from rx)
  obtain ⟨_,_,xs,_,o,es,ep,h1,h2,_⟩:=(show AO X.prog X.w H s.heap a (.dT kvs) from I.hok a _ ea)
  exact aD cZ I.kIn ⟨o,h1,h2.1⟩ e (fun z=>nomatch z) h
 | @ins a C dx fs ea cl ha hn htk hm=>
  cases (show u=Value.ref a from rx)
  obtain ⟨mA,O,_⟩:=Tc I.hok ea;obtain ⟨od,J,_⟩:=O.look;exact aD (PySem.W.kitx_own (cl.get _) cl.hd ha hn htk hm) I.kIn J e (fun z=>nomatch z) h
end
structure DX (k:Nat) (A:Around):Prop where
 hd:A.handled=none
 dp:A.depth + 3 * k + 5 < recursionLimit
 un:A.units + 16 * k + 200 < cLine
 gd:A.guards=some []:=by rfl
theorem DX.mono {j k:Nat} {A:Around} (r:DX k A) (h:j<=k):DX j A:=⟨r.hd,by have:=r.dp; lia,by have:=r.un; lia,r.gd⟩
theorem DX.deeper {k:Nat} {A:Around} (r:DX (k + 1) A) (env:Env):DX k (A.deeper env):=
 ⟨r.hd,by have:=r.dp; show A.depth + 1 + 3 * k + 5 < _; lia,by have:=r.un; show A.units + 3 + 16 * k + 200 < _; lia,r.gd⟩
theorem DX.depth {k:Nat} {A:Around} (r:DX k A):A.depth < recursionLimit:=by have:=r.dp; lia
theorem DX.units {k:Nat} {A:Around} (r:DX k A):A.units + 64 < cLine:=by have:=r.un; lia
def tNil:TA:=fun _ H Q=>Q [] H
def tCons (ta:TE) (tr:TA):TA:=fun σ H Q=>ta σ H fun x H1=>tr σ H1 fun xs H2=>Q (x :: xs) H2
section
variable {X:Cx} {e:Expr} {es:List Expr} {te:TE} {t:TA} {pos:Pos}
theorem Ad:PA X [] tNil:=fun _ _ _ _ H Q I h=>Calls.spliced_nil ⟨[],H,I,.nil,h⟩
theorem Aa (ha:PE X e te) (hr:PA X es t) (hs:starEach (e :: es) X.env=(false,eval e X.env) :: starEach es X.env:=by rfl):PA X (e :: es) (tCons te t):=by
 intro pos pins s σ H Q I h;rw [hs];show wpAny _ _ (spliced ((false,eval e X.env) :: backTo pos (starEach es X.env))) _ _ s
 refine Calls.spliced_cons (By (ha (pins:=pins) s σ H _ I h) fun u s1 ⟨x,H1,I1,r1,q1⟩=>?_);exact By (hr (pos:=pos) (pins:=pins) s1 σ H1 _ I1 q1) fun us s2 ⟨xs,H2,I2,r2,q2⟩=>⟨x :: xs,H2,I2,.cons r1 r2,q2⟩
def tTup (t:TA):TE:=fun σ H Q=>t σ H fun xs H1=>xs.length<=sizeLine/\∀ p,H1 p=none->Q (.ref p) (upd H1 p (.tup xs))
def tLst (t:TA):TE:=fun σ H Q=>t σ H fun xs H1=>xs.length<=sizeLine/\∀ p,H1 p=none->Q (.ref p) (upd H1 p (.lst xs))
theorem As {x1} (h:PA X es t):PE X (.Tuple es x1 pos) (tTup t):=by
 intro pins s σ H Q I hq;refine wpAny_Tuple_spliced (By (h (pos:=pos) (pins:=pins) s σ H _ I hq) fun us s1 ⟨xs,H1,I1,r,z,q⟩=>⟨by rw [<-r.length]; exact z,?_⟩);have hf:H1 s1.heap.objs.size=none:=I1.hok.fresh (Z4 _);refine ⟨.ref s1.heap.objs.size,upd H1 s1.heap.objs.size (.tup xs),I1.laid (t':=s1.toks) (fun b u e=>Zu _ e) (Z4 _) ?_,rfl,q _ hf⟩;exact ⟨z,us,r,⟨_,Z5 _ rfl,rfl,_,rfl⟩,Lu.new rfl rfl⟩
theorem Bl (h:PA X es t):PE X (.List es pos) (tLst t):=by
 intro pins s σ H Q I hq;refine wpAny_List_spliced (By (h (pos:=pos) (pins:=pins) s σ H _ I hq) fun us s1 ⟨xs,H1,I1,r,z,q⟩=>⟨by rw [<-r.length]; exact z,?_⟩);have hf:H1 s1.heap.objs.size=none:=I1.hok.fresh (Z4 _);refine ⟨.ref s1.heap.objs.size,upd H1 s1.heap.objs.size (.lst xs),I1.laid (t':=s1.toks) (fun b u e=>Zu _ e) (Z4 _) ?_,rfl,q _ hf⟩;exact ⟨z,us,0,r,Z5 _ rfl⟩
end
abbrev Sp:=List V->Hp->VK->XK->Prop
abbrev Sj:=List Env->Hp->Shared->XK->Value->Shared->Prop
structure T5 (P:Program) (w:World) (K:Zw) (mg:Str->Option Value) (base:Heap) (A:Around) (outer:List Env) (s:Shared) (H:Hp):Prop where
 frames:A.frames=some outer
 mod:Mod K mg base
 bs:∀ b o,base.get? b=some o->s.heap.get? b=some o/\H b=none
 bsz:base.objs.size<=s.heap.objs.size
 funs:s.heap.FunFrames base outer
 frf:∀ b ∈ RN outer,H b=none
 hok:FJ P w H s.heap
 bare:AllBare s.gens
def CE (outer:List Env) (P:Program) (w:World) (H:Hp) (s:Shared) (Q:VK) (u:Value) (s':Shared):Prop:=
 ∃ v H',s'.os=s.os/\AllBare s'.gens/\Un (RN outer) [] H H' s.heap s'.heap/\FJ P w H' s'.heap/\AF v u/\Q v H'
def CR (CX:Sj) (outer:List Env) (P:Program) (w:World) (H:Hp) (s:Shared) (Q:VK) (E:XK) (r:Result) (s':Shared):Prop:=
 match r with
 | .ok (.ret u)=>CE outer P w H s Q u s'
 | .ok _=>False
 | .error e=>CX outer H s E e s'
structure A7 (P:Program) (w:World) (K:Zw) (mg:Str->Option Value) (base:Heap) (CX:Sj) (k:Nat) (f:Addr) (fd:FuncData) (ps:List Str) (sp:Sp):Prop where
 len:∀ vs H Q E,sp vs H Q E->vs.length=ps.length
 run:∀ (A:Around) (outer:List Env) (s:Shared) (H:Hp) (args:Args) (us:List Value) (vs:List V) (Q:VK) (E:XK),DX k A->T5 P w K mg base A outer s H->BindsTo s fd args (ps.zip us)->A9 vs us->sp vs H Q E ->
  codeAny (model P w) A (.call (.ref f) args) (CR CX outer P w H s Q E) s
section
variable {X:Cx} {pins:List (Addr × Obj)} {σ:St} {H:Hp} {s s':Shared}
theorem Av.env0 (I:Av X pins σ H s):T5 X.prog X.w X.K X.mg X.base X.A X.stack s H:=
 ⟨I.ok.frames,I.ok.mod,I.bs,ZS I.ok.bsz I.sz,I.stack,I.stkFree,I.hok,I.bare⟩
theorem Av.after {Q:VK} {u:Value} (I:Av X pins σ H s) (h:CE X.stack X.prog X.w H s Q u s'):EP X pins σ Q u s':=by
 obtain ⟨v,H',os,bare,un,hok,r,q⟩:=h;obtain ⟨hh,g,d,t,YB⟩:=s';obtain rfl:YB=s.os:=os;exact ⟨v,H',I.call (h':=hh) (g':=g) (d':=d) (t':=t) (ch:=[]) un hok bare (fun b z=>absurd z (by simp)),r,q⟩
end
def tCall (sp:Sp) (dvs:List V) (E:XK) (t:TA):TE:=fun σ H Q=>t σ H fun vs H1=>sp (vs ++ dvs) H1 Q E
def HI (K:Zw) (fd:FuncData) (ps:List Str) (ds:List Value):Prop:=
 ∀ (s:Shared) (us:List Value),K.In s.heap->(us ++ ds).length=ps.length->BindsTo s fd ⟨us,[]⟩ (ps.zip (us ++ ds))
theorem HI.all {K:Zw} {fd:FuncData} {ps:List Str} (h:∀ us:List Value,us.length=ps.length->bindArgs fd ⟨us,[]⟩=pure (ps.zip us)):HI K fd ps []:=fun s us _ hl=>by
 rw [cG] at hl ⊢;exact .of_eq (h us hl)
def NO (CX:Sj) (X:Cx) (E:XK):Prop:=∀ (pins:List (Addr × Obj)) (σ:St) (H:Hp) (s:Shared) (e:Value) (s':Shared),Av X pins σ H s->CX X.stack H s E e s'->X.xe e s'
section
variable {X:Cx} {CX:Sj} {k:Nat} {f C:Addr} {fd:FuncData} {ps:List Str} {sp:Sp} {dvs:List V} {ds:List Value} {E:XK} {x m:Str} {p pos apos:Pos} {e o:Expr} {es:List Expr} {ta:TE} {t:TA}
theorem UO {pins:List (Addr × Obj)} {σ:St} {H:Hp} {s:Shared} {Q:VK} {us:List Value} {vs:List V} (F:A7 X.prog X.w X.K X.mg X.base CX k f fd ps sp) (hr:DX k X.A) (hb:HI X.K fd ps ds) (hd:A9 dvs ds) (hx:NO CX X E)
  (I:Av X pins σ H s) (r:A9 vs us) (h:sp (vs ++ dvs) H Q E):wpAny (model X.prog X.w) X.A (call (.ref f) us) (EP X pins σ Q) X.xe s:=by
 have r2:A9 (vs ++ dvs) (us ++ ds):=r.append hd;have hl:(us ++ ds).length=ps.length:=by rw [<-r2.length]; exact F.len _ _ _ _ h
 refine wpAny_call (codeAny_mono (F.run X.A X.stack s H ⟨us,[]⟩ (us ++ ds) (vs ++ dvs) Q E hr I.env0 (hb s us I.kIn hl) r2 h) fun r s' hq=>?_);cases r with
 | error e=>exact hx pins σ H s e s' I hq
 | ok fl=>
  cases fl with
  | ret u=>exact I.after hq
  | next=>exact False.elim hq
  | brk=>exact False.elim hq
  | cont=>exact False.elim hq
theorem Aj (F:A7 X.prog X.w X.K X.mg X.base CX k f fd ps sp) (hr:DX k X.A) (hg:Gl X x) (hm:X.mg x=some (.ref f)) (hk:bL X.K (.ref f)=true) (hb:HI X.K fd ps ds) (hd:A9 dvs ds) (hx:NO CX X E)
  (ha:PA X (e :: es) t) (hdb:(x == ("__debug__":Str))=false:=by decide) (he:starEach (e :: es) X.env=(false,eval e X.env) :: starEach es X.env:=by rfl) (hpl:(backTo pos (starEach es X.env)).any (·.1)=false:=by rfl) :
  PE X (.Call (.Name x p) (e :: es) [] pos) (tCall sp dvs E t):=by
 intro pins s σ H Q I h;refine wpAny_Call_Name_kw (O1 I hg hm ?_ hdb);refine PySem.W.callWith_K (h₀:=X.base) I.ok.mod.kin hk (By (ha (pos:=pos) (pins:=pins) s σ H _ I h) fun us s1 ⟨vs,H1,I1,r,q⟩=>⟨I1.kIn,?_⟩) he hpl;exact UO F hr hb hd hx I1 r q
end
section
variable {X:Cx} {CX:Sj} {k:Nat} {f C:Addr} {fd:FuncData} {ps ks:List Str} {sp:Sp} {E:XK} {x m:Str} {p pos apos kpos:Pos} {e o:Expr} {es:List Expr} {kws:List Keyword} {te ta:TE} {t tk:TA} {nm:Option Str}
variable {g:List Value->List Value->List Value} {gV:List V->List V->List V}
end
structure A6 (N P:List Str) (sc:Scope):Prop where
 kind:sc.kind=.function
 co:sc.isCoroutine=false
 gen:sc.isGenerator=false
 nd:N.Nodup
 pre:N.take P.length=P
 par:∀ x ∈ P,sc.names.lookup x=some .local\/sc.names.lookup x=some .cell
 nofree:∀ y ∈ sc.names,y.2 ≠ .free
theorem Kw {kindOf:Str->Option NameKind} {x:Str}:∀ {binds:List (Str × Value)} {m:Str->Option Value},(∀ v,(x,v) ∉ binds)->bindL kindOf binds m x=m x
 | [],_,_=>rfl
 | (n,v) :: r,m,h=>by
  unfold bindL;rw [Kw fun w hw=>h w (ZK _ hw)];split
  ·have:x ≠ n:=by rintro rfl; exact h v ZP
   simp [this]
  ·rfl
theorem Ky {kindOf:Str->Option NameKind} {x:Str}:∀ {binds:List (Str × Value)} {m:Str->Option Value},(∀ v,(x,v) ∉ binds)->bindC kindOf binds m x=m x
 | [],_,_=>rfl
 | (n,v) :: r,m,h=>by
  unfold bindC;rw [Ky fun w hw=>h w (ZK _ hw)];split
  ·rfl
  ·have:x ≠ n:=by rintro rfl; exact h v ZP
   simp [this]
theorem Kx {kindOf:Str->Option NameKind} {x:Str} {v:Value}:∀ {P:List Str} {vs:List Value} {i:Nat} {m:Str->Option Value},P.Nodup->P[i]? = some x->vs[i]? = some v->kindOf x=some .local ->
  bindL kindOf (P.zip vs) m x=some v
 | [],_,_,_,_,h,_,_=>by simp at h
 | _ :: _,[],_,_,_,_,h,_=>by simp at h
 | p :: P,w :: vs,0,m,nd,h1,h2,hk=>by
  simp at h1 h2; subst h1; subst h2;show bindL kindOf ((p,w) :: P.zip vs) m p=_
  unfold bindL;rw [Kw fun v hv=>(aq.mp nd).1 (bM hv).1,if_pos hk];simp
 | p :: P,w :: vs,i + 1,m,nd,h1,h2,hk=>by
  show bindL kindOf ((p,w) :: P.zip vs) m x=_
  unfold bindL;exact Kx (i:=i) (aq.mp nd).2 (by simpa using h1) (by simpa using h2) hk
theorem Kz {kindOf:Str->Option NameKind} {x:Str} {v:Value}:∀ {P:List Str} {vs:List Value} {i:Nat} {m:Str->Option Value},P.Nodup->P[i]? = some x->vs[i]? = some v->kindOf x ≠ some .local ->
  bindC kindOf (P.zip vs) m x=some v
 | [],_,_,_,_,h,_,_=>by simp at h
 | _ :: _,[],_,_,_,_,h,_=>by simp at h
 | p :: P,w :: vs,0,m,nd,h1,h2,hk=>by
  simp at h1 h2; subst h1; subst h2;show bindC kindOf ((p,w) :: P.zip vs) m p=_
  unfold bindC;rw [Ky fun v hv=>(aq.mp nd).1 (bM hv).1,if_neg hk];simp
 | p :: P,w :: vs,i + 1,m,nd,h1,h2,hk=>by
  show bindC kindOf ((p,w) :: P.zip vs) m x=_
  unfold bindC;exact Kz (i:=i) (aq.mp nd).2 (by simpa using h1) (by simpa using h2) hk
def start (N:List Str) (vs:List V):St:=vs.map some ++ List.replicate (N.length - vs.length) none
def Lo (CX:Sj) (P:Program) (w:World) (K:Zw) (mg:Str->Option Value) (base:Heap) (N:List Str) (qual:Str) (scope:Scope) (f:Addr) (cd:Value) (A:Around) (outer:List Env) (s:Shared) (H:Hp) (E:XK):Cx where
 prog:=P
 w:=w
 K:=K
 mg:=mg
 base:=base
 A:=A.deeper (envOfC qual scope s.heap.objs.size f cd)
 N:=N
 s₀:=s
 H₀:=H
 env:=envOfC qual scope s.heap.objs.size f cd
 outer:=outer
 stack:=envOfC qual scope s.heap.objs.size f cd :: outer
 ex:=[]
 calm:=true
 fn:=fun _=>true
 pn:=[]
 xe:=fun e s'=>wpAny (model P w) (A.deeper (envOfC qual scope s.heap.objs.size f cd)) (leaving (envOfC qual scope s.heap.objs.size f cd) e) (fun _ UN=>CX outer H s E e UN) (fun e' UN=>CX outer H s E e' UN) s'
theorem MC {sc:Scope} {n:Nat} {x:Str} (h:sc.names.lookup x=some .cell):∃ c,(cellsFrom n sc.names []).lookup x=some c:=by
 have q:=cK sc.names n [] (.inl h);exact bE.mp q
theorem PZ {CX:Sj} {P:Program} {w:World} {K:Zw} {mg:Str->Option Value} {base:Heap} {N ps:List Str} {qual:Str} {scope:Scope} {f:Addr} {cd:Value} {A:Around} {outer:List Env} {s s1:Shared} {H:Hp} {E:XK} {us:List Value} {vs:List V}
  (S:A6 N ps scope) (hd:A.handled=none) (e0:T5 P w K mg base A outer s H) (hl:vs.length=ps.length) (r:A9 vs us)
  (x:InCallC s s.heap.objs.size (bindL (envOfC qual scope s.heap.objs.size f cd).kindOf (ps.zip us) fun _=>none) (cellsFrom (s.heap.objs.size + 1) scope.names []) (bindC (envOfC qual scope s.heap.objs.size f cd).kindOf (ps.zip us) fun _=>none) s1) :
  Av (Lo CX P w K mg base N qual scope f cd A outer s H E) [] (start N vs) H s1:=by
 have hpl:ps.length<=N.length:=by have:=congrArg aP S.pre; rw [ZE] at this; lia
 obtain ⟨h1,tk,rfl,hk⟩:=x.done;have noA:∀ b:Addr,b ∉ (Lo CX P w K mg base N qual scope f cd A outer s H E).ex:=fun b z=>absurd (show b ∈ ([]:List Addr) from z) (by simp)
 refine ⟨⟨e0.mod,S.kind,rfl,rfl,Z4 _,fun y z c h1 h2=>?_,fun y hy=>?_,fun y c _ h=>?_,fun _=>hd,Around.frames_deeper e0.frames,.inr ⟨rfl,rfl⟩,fun b z=>absurd z (noA b),e0.bs,e0.bsz,fun b _ _=>noA b,fun b z=>absurd z (noA b),e0.funs,e0.frf⟩,
  rfl,e0.bare,Un.kept hk,⟨_,x.toInCall.ns,fun i y v h1 h2 h3=>?_⟩,fun y c h=>⟨_,x.cell y c h⟩,e0.hok.fresh (Z4 _),fun y c h=>?_,fun p hp=>absurd (show p ∈ ([]:List (Addr × Obj)) from hp) (by simp),e0.hok.kept hk,?_⟩
 ·exact name_of_addr x.apart (PySem.mem_of_lookup h1) (PySem.mem_of_lookup h2)
 ·have hy:scope.names.lookup y=some .cell\/scope.names.lookup y=some .free:=hy;rcases hy with hy | hy
  ·exact MC hy
  ·exact absurd rfl (S.nofree _ (PySem.mem_of_lookup hy))
 ·exact cU (x.above y c (PySem.mem_of_lookup h))
 ·have hi:i < vs.length:=by
   unfold start at h2;by_cases hi:i < vs.length
   ·exact hi
   ·rw [ZV (by simpa using hi)] at h2;rw [List.getElem?_replicate] at h2;split at h2 <;> cases h2
  have ha:vs[i]? = some v:=by
   unfold start at h2;rw [ZR (by simpa using hi),Z0] at h2;cases e:vs[i]? with
   | none=>rw [e] at h2; cases h2
   | some a=>rw [e] at h2; cases h2; rfl
  obtain ⟨u,hu,rv⟩:=r.get ha;have hp:ps[i]? = some y:=by
   rw [<-S.pre,bH (by lia)]; exact h1
  have ndP:ps.Nodup:=by rw [<-S.pre]; exact S.nd.sublist (List.take_sublist _ _)
  exists u,rv;rcases S.par y (Zx hp) with k | k
  ·exact .inl ⟨k,Kx ndP hp hu k⟩
  ·obtain ⟨c,e⟩:=MC (n:=s.heap.objs.size + 1) k;refine .inr ⟨.inl k,c,e,?_⟩;have q:=x.cell y c e;rw [Kz ndP hp hu (by show scope.names.lookup y ≠ _; rw [k]; decide)] at q;exact q
 ·exact e0.hok.fresh (cU (x.above y c (PySem.mem_of_lookup h)))
 ·unfold start;show _=N.length
  rw [Zy,Zv,List.length_replicate];lia
theorem fn_of {CX:Sj} {P:Program} {w:World} {K:Zw} {mg:Str->Option Value} {base:Heap} {k:Nat} {f:Addr} {name qual:Str} {params:Arguments} {body:List Stmt} {scope:Scope} {dV kV doc pm cdv ct oc:Value} {an od:Option Addr}
  {osl:Array (Option Value)} {N ps:List Str} {sp:Sp} (lk:K.lookup f=some ⟨oc,od,.func (aO name qual params body scope dV kV doc pm an cdv ct),osl⟩) (hcd:bN K cdv qual=true) (S:A6 N ps scope)
  (len:∀ vs H Q E,sp vs H Q E->vs.length=ps.length)
  (hbody:∀ (A:Around) (outer:List Env) (s:Shared) (H:Hp) (vs:List V) (Q:VK) (E:XK),DX k (A.deeper (envOfC qual scope s.heap.objs.size f cdv))->sp vs H Q E ->
   ∃ t,MP (Lo CX P w K mg base N qual scope f cdv A outer s H E) body t/\t { nx:=fun _ H'=>Q .non H',rt:=Q } (start N vs) H) :
  A7 P w K mg base CX (k + 1) f (aO name qual params body scope dV kV doc pm an cdv ct) ps sp:=by
 refine ⟨len,fun A outer s H args us vs Q E hr e0 hb r hsp=>?_⟩;have hl:=len _ _ _ _ hsp;have KX:K.In s.heap:=e0.mod.kin.keeps fun b o e=>(e0.bs b o e).1
 have lim:s.heap.NoLimit:=e0.mod.nolimit.keeps fun b o e=>(e0.bs b o e).1
 have hkind:∀ y ∈ ps.zip us,scope.names.lookup y.1=some .local\/(scope.names.lookup y.1=some .cell/\((cellsFrom (s.heap.objs.size + 1) scope.names []).lookup y.1).isSome=true):=fun ⟨n,v⟩ hy=>by
  rcases S.par n (bM hy).1 with q | q
  ·exact .inl q
  ·exact .inr ⟨q,cK _ _ _ (.inl q)⟩
 refine codeAny_call_function hr.depth (KX _ _ lk) rfl S.co S.gen rfl (PySem.W.codeRec_of KX hcd) (hb _ _ _ _ ?_);refine wpAny_newFunctionEnv_cells S.kind hkind fun env he s1 x=>?_
 subst he;refine ⟨lim.keeps x.toInCall.keep,codeAny_func ?_⟩;obtain ⟨t,ht,hq⟩:=hbody A outer s H vs Q E (hr.deeper _) hsp;have I:Av (Lo CX P w K mg base N qual scope f cdv A outer s H E) [] (start N vs) H s1:=PZ S hr.hd e0 hl r x;refine wpAny_mono (ht s1 (start N vs) H _ I hq) (fun fl s' hs=>?_) fun e s' hs=>hs
 have fin:∀ {Ay:St} {H':Hp} {v:V} {u:Value},Av (Lo CX P w K mg base N qual scope f cdv A outer s H E) [] Ay H' s'->AF v u->Q v H'->CE outer P w H s Q u s':=
  fun {Ay H' v u} J rv q=>⟨v,H',J.os,J.bare,J.base,J.hok,rv,q⟩
 cases fl with
 | ret u=>
  obtain ⟨v,Ay,H',J,rv,q⟩:=hs;exact fin J rv q
 | next=>
  obtain ⟨Ay,H',J,q⟩:=hs;exact fin (v:=V.non) (u:=Value.none) J rfl q
 | brk=>
  obtain ⟨_,_,_,q⟩:=hs;exact False.elim q
 | cont=>
  obtain ⟨_,_,_,q⟩:=hs;exact False.elim q
section
variable {X:Cx} {x:Str} {p pos:Pos} {e:Expr} {es:List Expr} {t:TA} {id T:String} {r:List V->Hp->VK->Prop}
def tCB (r:List V->Hp->VK->Prop) (t:TA):TE:=fun σ H Q=>t σ H fun vs H1=>r vs H1 Q
theorem Al (hc:Bz X (.builtin id) r) (hg:Gl X x) (hm:X.mg x=none) (hv:bootBuiltins x=some (.builtin id)) (ha:PA X (e :: es) t) (hn:x ≠ "__name__":=by decide) (hdb:(x == ("__debug__":Str))=false:=by decide)
  (he:starEach (e :: es) X.env=(false,eval e X.env) :: starEach es X.env:=by rfl) (hpl:(backTo pos (starEach es X.env)).any (·.1)=false:=by rfl):PE X (.Call (.Name x p) (e :: es) [] pos) (tCB r t):=by
 intro pins s σ H Q I h;refine wpAny_Call_Name_kw (G4 I hg hm hv ?_ hn hdb);exact PyProof.Rows.callWith_builtin1 (By (ha (pos:=pos) (pins:=pins) s σ H _ I h) fun us s1 ⟨vs,H1,I1,r1,q1⟩=>hc (pins:=pins) s1 σ H1 vs us Q I1 r1 q1) he hpl
theorem A3 (hc:Bz X (.type T) r) (hg:Gl X x) (hm:X.mg x=none) (hv:bootBuiltins x=some (.type T)) (ha:PA X (e :: es) t) (hn:x ≠ "__name__":=by decide) (hdb:(x == ("__debug__":Str))=false:=by decide)
  (he:starEach (e :: es) X.env=(false,eval e X.env) :: starEach es X.env:=by rfl) (hpl:(backTo pos (starEach es X.env)).any (·.1)=false:=by rfl):PE X (.Call (.Name x p) (e :: es) [] pos) (tCB r t):=by
 intro pins s σ H Q I h;refine wpAny_Call_Name_kw (G4 I hg hm hv ?_ hn hdb);exact PyProof.Rows.callWith_type1 (By (ha (pos:=pos) (pins:=pins) s σ H _ I h) fun us s1 ⟨vs,H1,I1,r1,q1⟩=>hc (pins:=pins) s1 σ H1 vs us Q I1 r1 q1) he hpl
end
end L2
namespace HT
open PySem PyProof.Rows
section
open PySem.SeqAt
open PySem.AutoSeq1 (wpAny_loadPart')
open PySem.MeetsSeq PySem.MeetsSeq2 PySem.MeetsSeq3
end
section
variable {prog:Program} {w:World} {A:Around} {E:Value->Shared->Prop} {s:Shared}
theorem cat_tup {t b:Addr} {vs ws:List Value} {Q:Value->Shared->Prop} (ht:IsTup s.heap t vs.toArray) (hb:IsTup s.heap b ws.toArray) (hv:vs ≠ [])
  (h1:ws=[]->Q (.ref t) s) (h2:ws ≠ []->Q (.ref s.heap.objs.size) { s with heap:=s.heap.push { cls:=.type "tuple",data:=.seq (vs ++ ws).toArray } })
  (hsz:vs.length + ws.length<=sizeLine):wpAny (model prog w) A (binaryOp .Add (.ref t) (.ref b)) Q E s:=by
 obtain ⟨⟨cls,dd,data,sl⟩,ho,hc,n,hd⟩:=id ht;obtain ⟨⟨Xi,Sn,data2,TJ⟩,Sl,Sm,n2,hd2⟩:=id hb;simp only at hc hd Sm hd2;subst hc hd Sm hd2;have e:vs.toArray ++ ws.toArray=(vs ++ ws).toArray:=by simp
 by_cases hw:ws=[]
 ·exact concat_meets ⟨_,ho,rfl⟩ ⟨_,Sl,rfl⟩ noFill_tuple_add seq_tuple_add PySem.F.slot_tuple_add PySem.F.entry_tuple_add (PySem.F.args_tuple_add_2 _ _)
   (tuple_addW1 t b vs.toArray ws.toArray n n2 dd Sn sl TJ (by simpa using hv) (by simp [hw])) ⟨ho,Sl,h1 hw⟩
 ·refine concat_meets ⟨_,ho,rfl⟩ ⟨_,Sl,rfl⟩ noFill_tuple_add seq_tuple_add PySem.F.slot_tuple_add PySem.F.entry_tuple_add (PySem.F.args_tuple_add_2 _ _)
   (tuple_addW2 t b vs.toArray ws.toArray n n2 dd Sn sl TJ (by simpa using hv) (by simpa using hw) (by rw [ZA,ZA]; exact hsz)) ⟨ho,Sl,?_⟩
  rw [e];exact h2 hw
def sIx (n d:Nat):Option Int->Nat
 | none=>d
 | some v=>if v < 0 then (v + (n:Int)).toNat else min v.toNat n
theorem sIx_nat (n d k:Nat):sIx n d (some (k:Int))=min k n:=by
 show (if (k:Int) < 0 then ((k:Int) + (n:Int)).toNat else min (k:Int).toNat n)=min k n
 rw [if_neg (by lia),bI]
theorem QZ (n d:Nat) (hd:d<=n) (o:Option Int):sIx n d o<=n:=by
 cases o with
 | none=>exact hd
 | some v=>
  show (if v < 0 then (v + (n:Int)).toNat else min v.toNat n)<=n
  by_cases hv:v < 0
  ·rw [if_pos hv]; lia
  ·rw [if_neg hv]; exact Nat.min_le_right _ _
theorem OI (v:Int) (n d:Nat):(if v < 0 then max (v + (n:Int)) 0 else min v (n:Int))=((sIx n d (some v):Nat):Int):=by
 show (if v < 0 then max (v + (n:Int)) 0 else min v (n:Int))=(((if v < 0 then (v + (n:Int)).toNat else min v.toNat n):Nat):Int)
 by_cases hv:v < 0
 ·simp only [if_pos hv]; lia
 ·simp only [if_neg hv]; lia
theorem NH (lo hi:Option Int) (n:Nat):Builtin.Slice.sliceAdjust lo hi 1 (n:Int)=(((sIx n 0 lo:Nat):Int),((sIx n n hi:Nat):Int)):=by
 have h1:¬ ((1:Int) < 0):=by lia
 unfold Builtin.Slice.sliceAdjust;simp only [h1,if_false];refine Prod.ext ?_ ?_
 ·cases lo with
  | none=>rfl
  | some v=>exact OI v n 0
 ·cases hi with
  | none=>rfl
  | some v=>exact OI v n n
theorem Ni (i j:Nat):Builtin.Slice.slicePlaces (i:Int) (j:Int) 1=j - i:=by
 unfold Builtin.Slice.slicePlaces;have h1:(1:Int) > 0:=by lia
 simp only [h1,if_true,cy];split <;> lia
theorem ID {v:Value} {o:Option Int} {Q:Option Int->Shared->Prop} (p:IsPart v o) (h:Q o s):wpAny (model prog w) A (Builtin.Slice.slicePartIndex v) Q E s:=by
 cases p with
 | none=>exact slicePart_none h
 | int i t=>exact slicePart_int h
theorem Eb {sl:Addr} {vl vu:Value} {lo hi:Option Int} {n:Nat} {Q:Int × Int × Nat->Shared->Prop} (hs:s.heap.IsSliceOf sl vl vu .none) (pl:IsPart vl lo) (pu:IsPart vu hi)
  (h:Q (((sIx n 0 lo:Nat):Int),1,sIx n n hi - sIx n 0 lo) s):wpAny (model prog w) A (Builtin.Slice.sliceApplied (.ref sl) (pure (n:Int))) Q E s:=by
 obtain ⟨os,hos,hcs,hds⟩:=id hs;unfold Builtin.Slice.sliceApplied Builtin.Slice.sliceFields;refine wpAny_bind (wpAny_bind (wpAny_field hos hds (x:=vl) rfl (wpAny_bind (wpAny_field hos hds (x:=vu) rfl (wpAny_bind (wpAny_field hos hds (x:=.none) rfl (wpAny_pure ?_)))))));refine wpAny_bind (slicePart_none ?_);show wpAny _ _ (if ((1:Int) == 0)=true then _ else _) _ _ s
 rw [if_neg (by decide)];refine wpAny_bind (ID pl (wpAny_bind (ID pu (wpAny_bind (wpAny_pure ?_)))));show wpAny _ _ (match Builtin.Slice.sliceAdjust lo hi 1 (n:Int) with | (lo,hi)=>pure (lo,(1:Int),Builtin.Slice.slicePlaces lo hi 1)) _ _ s
 rw [NH lo hi n];show wpAny _ _ (pure (((sIx n 0 lo:Nat):Int),(1:Int),Builtin.Slice.slicePlaces ((sIx n 0 lo:Nat):Int) ((sIx n n hi:Nat):Int) 1)) _ _ s
 rw [Ni];exact wpAny_pure h
theorem Rk (xs:Array Value) (i k:Nat):((ZW k).filterMap fun (m:Nat)=>xs[((i:Int) + (m:Int) * 1).toNat]?).toArray=((xs.toList.drop i).take k).toArray:=by
 have e:(fun (m:Nat)=>xs[((i:Int) + (m:Int) * 1).toNat]?)=fun m=>xs[i + m]?:=by
  funext m;have:((i:Int) + (m:Int) * 1).toNat=i + m:=by lia
  rw [this]
 rw [e];have:=pick_run xs i k;rw [List.filterMap_map] at this;have e2:((fun x=>xs[x]?) ∘ fun x=>i + x)=fun m=>xs[i + m]?:=rfl
 rw [e2] at this;rw [this]
theorem getItem_tuple_cut {t sl:Addr} {items:Array Value} {vl vu:Value} {lo hi:Option Int} {Q:Value->Shared->Prop} (ht:IsTup s.heap t items) (hs:s.heap.IsSliceOf sl vl vu .none) (pl:IsPart vl lo) (pu:IsPart vu hi)
  (hw:¬ (sIx items.size 0 lo=0/\sIx items.size items.size hi=items.size))
  (h:Q (.ref s.heap.objs.size) { s with heap:=s.heap.push { cls:=.type "tuple",data:=.seq ((items.toList.drop (sIx items.size 0 lo)).take (sIx items.size items.size hi - sIx items.size 0 lo)).toArray } })
  (hsz:items.size<=sizeLine):wpAny (model prog w) A (getItem (.ref t) (.ref sl)) Q E s:=by
 have htake:sizeOk (.seq ((items.toList.drop (sIx items.size 0 lo)).take (sIx items.size items.size hi - sIx items.size 0 lo)).toArray):=by
  show ((items.toList.drop (sIx items.size 0 lo)).take (sIx items.size items.size hi - sIx items.size 0 lo)).toArray.size<=sizeLine
  rw [ZA,ZE,ZU,ZO];lia
 have hj:sIx items.size items.size hi<=items.size:=QZ _ _ (Z4 _) hi;obtain ⟨os,hos,hcs,hds⟩:=id hs;have hTs:s.TypeIs (.ref sl) "slice":=⟨os,hos,hcs⟩
 unfold getItem;try with_reducible refine wpAny_holding ?_
 first | refine wpAny_bind (wpAny_pure ?_) | skip
 refine wpAny_bind (wpAny_sequenceKey ht.typeIs (by decide) ?_);refine wpAny_bind (wpAny_callSpecial?_slot (name:=Str.ofString "__getitem__") ht.typeIs PyProof.Rows.slot_tuple_getitem
  (wpAny_call_entry PyProof.Rows.slot_tuple_getitem ht.typeIs entry_tuple_getitem ?_ (args_tuple_getitem _ _)))
 show wpAny _ _ (Builtin.Tuple.tupleItemsOf (.ref t) >>= _) _ _ s
 refine wpAny_bind (tupleItemsOf_ ht ?_);refine wpAny_bind (wpAny_typeOf hTs ?_);rw [if_pos (by decide)];refine wpAny_bind (Eb hs pl pu ?_);have hno:¬ ((((sIx items.size 0 lo:Nat):Int) == 0 && (1:Int) == 1 && (sIx items.size items.size hi - sIx items.size 0 lo) == items.size)=true):=by
  intro q;rw [aj,aj] at q;have q1:((sIx items.size 0 lo:Nat):Int)=0:=eq_of_beq q.1.1;have q2:sIx items.size items.size hi - sIx items.size 0 lo=items.size:=eq_of_beq q.2;exact hw ⟨by lia,by lia⟩
 show wpAny _ _ (if (((sIx items.size 0 lo:Nat):Int) == 0 && (1:Int) == 1 && (sIx items.size items.size hi - sIx items.size 0 lo) == items.size)=true then _ else _) _ _ s
 rw [if_neg hno,Rk];first
  | exact wpAny_bind (m:=Builtin.Tuple.tupleExact _) (wpAny_newObj_type (wpAny_pure ⟨_,rfl,wpAny_pure h⟩) htake)
  | exact wpAny_bind (m:=Builtin.Tuple.tupleExact _) (wpAny_newObj_type (wpAny_bind (wpAny_pure (wpAny_pure ⟨_,rfl,wpAny_pure h⟩))) htake)
  | exact wpAny_bind (wpAny_bind (m:=Builtin.Tuple.tupleExact _) (wpAny_newObj_type (wpAny_pure (wpAny_pure ⟨_,rfl,wpAny_pure h⟩)) htake))
  | exact wpAny_bind (wpAny_bind (m:=Builtin.Tuple.tupleExact _) (wpAny_newObj_type (wpAny_pure ⟨_,rfl,wpAny_pure h⟩) htake))
end
end HT
namespace L2
open PySem PySem.Spec PyProof.Rows
abbrev TO:=St->Hp->(Option Int->Hp->Prop)->Prop
def PO (X:Cx) (e:Option Expr) (t:TO):Prop:=
 ∀ ⦃pins:List (Addr × Obj)⦄ (s:Shared) (σ:St) (H:Hp) (Q:Option Int->Hp->Prop),Av X pins σ H s->t σ H Q ->
  wpAny (model X.prog X.w) X.A (evalPart e X.env) (fun u s'=>∃ o H',Av X pins σ H' s'/\IsPart u o/\Q o H') X.xe s
def C4:TO:=fun _ H Q=>Q none H
def tPart (t:TE):TO:=fun σ H Q=>t σ H fun x H1=>∃ i,x=.int i/\Q (some i) H1
section
variable {X:Cx} {e:Expr} {te:TE} {lo hi:Option Expr} {tl th:TO} {pos p2:Pos}
theorem Bp:PO X none C4:=by
 intro pins s σ H Q I h;rw [evalPart_none];exact wpAny_pure ⟨none,H,I,.none,h⟩
theorem Bo (h:PE X e te):PO X (some e) (tPart te):=by
 intro pins s σ H Q I hw;rw [evalPart_some];refine By (h (pins:=pins) s σ H _ I hw) fun u s1 ⟨x,H1,I1,r1,q1⟩=>?_
 obtain ⟨i,rfl,q⟩:=q1;obtain ⟨t,rfl⟩:=r1;exact ⟨some i,H1,I1,.int i t,q⟩
def SlR (X:Cx) (r:V->Option Int->Option Int->Hp->VK->Prop):Prop:=
 ∀ ⦃pins:List (Addr × Obj)⦄ (s:Shared) (σ:St) (H:Hp) (x:V) (v vl vu:Value) (lo hi:Option Int) (sl:Addr) (Q:VK),Av X pins σ H s->AF x v->s.heap.IsSliceOf sl vl vu .none->IsPart vl lo->IsPart vu hi->r x lo hi H Q ->
  ∃ T id,typeLookup (.type T) "__getitem__"=pure (some (.builtin id))/\s.TypeIs v T/\wpAny (model X.prog X.w) X.A (getItem v (.ref sl)) (EP X pins σ Q) X.xe s
def tSl (r:V->Option Int->Option Int->Hp->VK->Prop) (te:TE) (tl th:TO):TE:=fun σ H Q=>te σ H fun x H1=>tl σ H1 fun l H2=>th σ H2 fun u H3=>r x l u H3 Q
theorem Bi {r:V->Option Int->Option Int->Hp->VK->Prop} (hr:SlR X r) (he:PE X e te) (hl:PO X lo tl) (hu:PO X hi th):PE X (.Subscript e (.Slice lo hi none p2) pos) (tSl r te tl th):=by
 intro pins s σ H Q I h;refine Subscript_ (By (he (pins:=pins) s σ H _ I h) fun v s1 ⟨x,H1,I1,r1,q1⟩=>?_);refine wpAny_Slice (By (hl (pins:=pins) s1 σ H1 _ I1 q1) fun vl s2 ⟨l,H2,I2,pl,q2⟩=>By (hu (pins:=pins) s2 σ H2 _ I2 q2) fun vu s3 ⟨u,H3,I3,pu,q3⟩=>?_);rw [evalPart_none];refine wpAny_pure ?_;have I4:Av X pins σ H3 { s3 with heap:=s3.heap.push { cls:=.type "slice",data:=.fields #[vl,vu,.none] } }:=I3.kept (t':=s3.toks) fun b ob q=>Zu _ q
 obtain ⟨T,id,hT,ht,hg⟩:=hr { s3 with heap:=s3.heap.push { cls:=.type "slice",data:=.fields #[vl,vu,.none] } } σ H3 x v vl vu l u s3.heap.objs.size Q I4 r1 (Heap.IsSliceOf.new ..) pl pu q3;show wpAny (model X.prog X.w) X.A (subscriptTail e (.Slice lo hi none p2) v (.ref s3.heap.objs.size)) (EP X pins σ Q) X.xe { s3 with heap:=s3.heap.push { cls:=.type "slice",data:=.fields #[vl,vu,.none] } }
 exact tail_any (ops:=[.ref s3.heap.objs.size,v]) ht hT hg (by with_unfolding_all rfl)
def Em (xs:List V) (lo hi:Option Int):List V:=(xs.drop (HT.sIx xs.length 0 lo)).take (HT.sIx xs.length xs.length hi - HT.sIx xs.length 0 lo)
theorem MB (xs:List V) (lo hi:Option Int):(Em xs lo hi).length<=xs.length:=by
 unfold Em;rw [ZE,ZU];lia
def S9 (K:Zw):V->Option Int->Option Int->Hp->VK->Prop:=fun x lo hi H Q=>∃ a xs,x=.ref a/\A4 K H a xs /\
 ¬ (HT.sIx xs.length 0 lo=0/\HT.sIx xs.length xs.length hi=xs.length)/\∀ p,H p=none->Q (.ref p) (upd H p (.tup (Em xs lo hi)))
theorem QS:SlR X (S9 X.K):=by
 intro pins s σ H x v vl vu lo hi sl Q I rx hs pl pu h;obtain ⟨a,xs,rfl,hx,hw,q⟩:=h;cases rx
 obtain ⟨Ax,r,ht,hz⟩:=I.tuple hx;have hlen:Ax.toArray.size=xs.length:=by rw [ZA]; exact r.length.symm
 exists "tuple",_,PyProof.Rows.slot_tuple_getitem.lookup,ht.typeIs;refine HT.getItem_tuple_cut ht hs pl pu (by rw [hlen]; exact hw) ?_ (by rw [hlen]; exact hz);rw [hlen];refine ⟨.ref s.heap.objs.size,_,I.laid (t':=s.toks) (o:=.tup (Em xs lo hi)) (fun b ob q=>Zu _ q) (Z4 _) ?_,rfl,q _ (I.hok.fresh (Z4 _))⟩;exact ⟨ZS (MB xs lo hi) hz,_,(r.drop (HT.sIx xs.length 0 lo)).take (HT.sIx xs.length xs.length hi - HT.sIx xs.length 0 lo),IsTup.new _ _,Lu.new rfl rfl⟩
def TR (K:Zw):R2:=fun x y H Q=>∃ a b xs ys,x=.ref a/\y=.ref b/\A4 K H a xs/\A4 K H b ys/\xs ≠ []/\xs.length + ys.length<=sizeLine /\
 (ys=[]->Q (.ref a) H)/\(ys ≠ []->∀ p,H p=none->Q (.ref p) (upd H p (.tup (xs ++ ys))))
theorem A9.nil_iff {xs:List V} {us:List Value} (r:A9 xs us):us=[] ↔ xs=[]:=by
 cases r with
 | nil=>simp
 | cons _ _=>simp
theorem SJ:Ft X (binaryOp .Add) (TR X.K):=by
 intro pins s σ H x y v u Q I rx ry h;obtain ⟨a,b,xs,ys,rfl,rfl,ha,hb,hx,hz,q1,q2⟩:=h;cases rx
 cases ry
 obtain ⟨Ax,r1,p1,_⟩:=I.tuple ha;obtain ⟨Lf,r2,p2,_⟩:=I.tuple hb;refine HT.cat_tup p1 p2 (fun z=>hx (r1.nil_iff.mp z)) (fun z=>⟨.ref a,H,I,rfl,q1 (r2.nil_iff.mp z)⟩) (fun z=>?_) (by rw [<-r1.length,<-r2.length]; exact hz);refine ⟨.ref s.heap.objs.size,_,I.laid (t':=s.toks) (o:=.tup (xs ++ ys)) (fun b ob q=>Zu _ q) (Z4 _) ?_,rfl,q2 (fun w=>z (r2.nil_iff.mpr w)) _ (I.hok.fresh (Z4 _))⟩;exact ⟨by rw [Zy]; exact hz,_,r1.append r2,IsTup.new _ _,Lu.new rfl rfl⟩
end
def PX (n:Nat) (i:Int):Option Nat:=if 0<=i then (if i < n then some i.toNat else none) else if -(n:Int)<=i then some (i + n).toNat else none
def Gn {α:Type} (xs:List α) (i:Int):Option α:=(PX xs.length i).bind fun j=>xs[j]?
theorem Ik {n:Nat} {i:Int} {j:Nat} (h:PX n i=some j):seqIndex? i n=some j/\j < n/\-(n:Int)<=i/\i < n:=by
 unfold PX at h;by_cases h0:0<=i
 ·rw [if_pos h0] at h;by_cases h1:i < n
  ·rw [if_pos h1] at h;have e:i.toNat=j:=ZJ.inj h;exact ⟨by rw [seqIndex_of h0 h1,e],by lia,by lia,h1⟩
  ·rw [if_neg h1] at h; cases h
 ·rw [if_neg h0] at h;by_cases h1:-(n:Int)<=i
  ·rw [if_pos h1] at h;have e:(i + n).toNat=j:=ZJ.inj h;exact ⟨by rw [seqIndex_neg (by lia) h1,e],by lia,h1,by lia⟩
  ·rw [if_neg h1] at h; cases h
theorem Iq {α:Type} {xs:List α} {i:Int} {v:α} (h:Gn xs i=some v):∃ j,seqIndex? i xs.length=some j/\xs[j]? = some v/\j < xs.length/\-(xs.length:Int)<=i/\i < xs.length:=by
 unfold Gn at h;cases e:PX xs.length i with
 | none=>rw [e] at h; cases h
 | some j=>
  rw [e] at h;obtain ⟨h1,h2,h3,h4⟩:=Ik e;exact ⟨j,h1,h,h2,h3,h4⟩
theorem Cw {α:Type} {xs:List α} {j:Nat} {v:α} (h:xs[j]? = some v):Gn xs (j:Int)=some v:=by
 have hj:j < xs.length:=(Z2.mp h).1;have e:PX xs.length (j:Int)=some j:=by
  unfold PX;rw [if_pos (by lia),if_pos (by lia)]; simp
 unfold Gn; rw [e]; exact h
def Tu (b:Expr):Prop:=∀ o i,subscripted b false o i=operate [o,i] (getItem o i)
def Wn (X:Cx) (r:R2):Prop:=
 ∀ (value slice:Expr) (pins:List (Addr × Obj)) (s:Shared) (σ:St) (H:Hp) (x y:V) (v u:Value) (Q:VK),Av X pins σ H s->AF x v->AF y u->r x y H Q ->
  subscripted slice false v u=operate [v,u] (getItem v u)->wpAny (model X.prog X.w) X.A (subscriptTail value slice v u) (EP X pins σ Q) X.xe s
def MtR (X:Cx) (id:String) (r:V->List V->Hp->VK->Prop):Prop:=
 ∀ ⦃pins:List (Addr × Obj)⦄ (s:Shared) (σ:St) (H:Hp) (x:V) (xs:List V) (v:Value) (us:List Value) (Q:VK),Av X pins σ H s->AF x v->A9 xs us->r x xs H Q ->
  wpAny (model X.prog X.w) X.A (call (.builtin id) (v :: us)) (EP X pins σ Q) X.xe s
section
variable {X:Cx} {a b:Expr} {ta tb:TE} {pos:Pos}
theorem AD {r:R2} (hr:Wn X r) (ha:PE X a ta) (hb:PE X b tb) (hs:Tu b):PE X (.Subscript a b pos) (tOp r ta tb):=by
 intro pins s σ H Q I h;exact Subscript_ (VC ha hb I h fun v u s2 x y H2 I2 rx ry q=>hr a b (pins:=pins) s2 σ H2 x y v u Q I2 rx ry q (hs _ _))
def rIxL (K:Zw):R2:=fun x y H Q=>∃ p xs i v,x=.ref p/\y=.int i/\AX K H p xs/\Gn xs i=some v/\Q v H
def rIxT (K:Zw):R2:=fun x y H Q=>∃ p xs i v,x=.ref p/\y=.int i/\A4 K H p xs/\Gn xs i=some v/\Q v H
def rIxS:R2:=fun x y H Q=>∃ z i c,x=.str z/\y=.int i/\z.length<=sizeLine/\Gn z.cps.toList i=some c/\Q (.str ⟨#[c]⟩) H
theorem Bc:Wn X (rIxL X.K):=by
 intro value slice pins s σ H x y v u Q I rx ry h hs;obtain ⟨p,xs,i,z,rfl,rfl,hq,he,q⟩:=h;cases rx
 obtain ⟨t,rfl⟩:=ry;obtain ⟨Ax,r,pl,hz⟩:=I.list hq;obtain ⟨j,h1,h2,h3,h4,h5⟩:=Iq he;obtain ⟨w,ew,Ph⟩:=r.get h2;have hl:=r.length;have hn:=FA;have fin:EP X pins σ Q w s:=⟨z,H,I,Ph,q⟩
 by_cases h0:0<=i
 ·have hj:i.toNat=j:=by
   rw [seqIndex_of h0 h5] at h1;exact ZJ.inj h1
  exact item_listR pl.isList h0 (by lia) (by rw [hj]; simpa using ew) fin hs
 ·have hj:(i + (Ax.toArray.size:Int)).toNat=j:=by
   rw [seqIndex_neg (by lia) h4] at h1;rw [ZA,<-hl];exact ZJ.inj h1
  exact subscriptTail_builtinR (x:=w) pl.isList.typeIs slot_list_getitem.lookup
   (wpAny_getItem_list_neg (Q:=fun r s'=>r=w/\EP X pins σ Q r s') pl.isList (by lia) (by rw [ZA] <;> lia) (by lia) (by rw [hj]; simpa using ew) ⟨rfl,fin⟩) hs
theorem FC:Wn X (rIxT X.K):=by
 intro value slice pins s σ H x y v u Q I rx ry h hs;obtain ⟨p,xs,i,z,rfl,rfl,hq,he,q⟩:=h;cases rx
 obtain ⟨t,rfl⟩:=ry;obtain ⟨Ax,r,pl,hz⟩:=I.tuple hq;obtain ⟨j,h1,h2,h3,h4,h5⟩:=Iq he;obtain ⟨w,ew,Ph⟩:=r.get h2;have hl:=r.length;have hn:=FA;have fin:EP X pins σ Q w s:=⟨z,H,I,Ph,q⟩
 exact subscriptTail_builtinR (x:=w) pl.typeIs slot_tuple_getitem.lookup
  (getItem_tuple (j:=j) (Q:=fun r s'=>r=w/\EP X pins σ Q r s') pl (by lia) (by lia) (by rw [ZA,<-hl]; exact h1) (by simpa using ew) ⟨rfl,fin⟩) hs
theorem R7:Wn X rIxS:=by
 intro value slice pins s σ H x y v u Q I rx ry h hs;obtain ⟨z,i,c,rfl,rfl,hz,he,q⟩:=h;obtain ⟨t,rfl⟩:=rx;obtain ⟨t',rfl⟩:=ry;obtain ⟨j,h1,h2,h3,h4,h5⟩:=Iq he;have hl:z.cps.toList.length=z.length:=by simp [Str.length]
 rw [hl] at h1 h4 h5;have hn:=FA;exact tail_any (typeIs_str s z t) slot_str_getitem.lookup (getItem_str (c:=c) (by
  have e1:decide (i < -(2 ^ 63:Int))=false:=decide_eq_false (by lia);have e2:decide (i >= 2 ^ 63)=false:=decide_eq_false (by lia);rw [e1,e2,eC]) (by rw [h1]; simpa using h2) ⟨.str ⟨#[c]⟩,H,I.tok _,⟨_,rfl⟩,q⟩) hs
theorem Nu (Ax:List Value) (n j:Nat) (u:Value):Obj.mapSeq (·.setIfInBounds j u) { cls:=.type "list",data:=.seq Ax.toArray n } = { cls:=.type "list",data:=.seq (Ax.set j u).toArray n }:=by
 simp [Obj.mapSeq]
theorem Av.lst {pins:List (Addr × Obj)} {σ:St} {H:Hp} {s:Shared} {p:Addr} {xs:List V} (I:Av X pins σ H s) (h:H p=some (.lst xs)) :
  ∃ (Ax:List Value) (n:Nat),A9 xs Ax/\s.heap.get? p=some { cls:=.type "list",data:=.seq Ax.toArray n }/\xs.length<=sizeLine:=by
 obtain ⟨z,Ax,n,r,e⟩:=I.hok p _ h;exact ⟨Ax,n,r,e,z⟩
theorem Av.lstUpd {pins:List (Addr × Obj)} {σ:St} {H:Hp} {s:Shared} {p:Addr} {xs ys:List V} {Ax its':List Value} {n n':Nat} {f:Obj->Obj} (I:Av X pins σ H s) (h:H p=some (.lst xs))
  (ho:s.heap.get? p=some { cls:=.type "list",data:=.seq Ax.toArray n }) (hf:f { cls:=.type "list",data:=.seq Ax.toArray n } = { cls:=.type "list",data:=.seq its'.toArray n' }) (r:A9 ys its') (hz:ys.length<=sizeLine) (t:Nat) :
  Av X pins σ (upd H p (.lst ys)) { s with heap:=s.heap.update p f,toks:=t }:=by
 have e:(s.heap.update p f).get? p=some { cls:=.type "list",data:=.seq its'.toArray n' }:=by
  rw [ah f ho (by rw [hf] <;> rfl),hf]
 refine I.write (x:=p) (e:=p) (by rw [h]; trivial) (.inl rfl) (fun b u hb q=>(aa _ _ (Ne.symm hb)).trans q) ⟨_,e⟩ ?_;exact ⟨hz,its',n',r,e⟩
def rSetL:V->V->V->Hp->(Hp->Prop)->Prop:=fun o i v H Q=>∃ p xs k j,o=.ref p/\i=.int k/\H p=some (.lst xs)/\PX xs.length k=some j/\Q (upd H p (.lst (xs.set j v)))
theorem IE:PSet X rSetL:=by
 intro pins s σ H o i v ov iv u Q I ro ri rv h;obtain ⟨p,xs,k,j,rfl,rfl,hp,hj,q⟩:=h;cases ro
 obtain ⟨t,rfl⟩:=ri;obtain ⟨Ax,n,r,ho,hz⟩:=I.lst hp;obtain ⟨h1,h2,h3,h4⟩:=Ik hj;have hl:=r.length;have hn:=FA;have I':Av X pins σ (upd H p (.lst (xs.set j v))) { s with heap:=s.heap.update p (Obj.mapSeq (·.setIfInBounds j u)) }:=
  I.lstUpd hp ho (Nu Ax n j u) (r.set rv j) (by rw [List.length_set]; exact hz) s.toks
 by_cases h0:0<=k
 ·have hk:k.toNat=j:=by
   rw [seqIndex_of h0 h4] at h1;exact ZJ.inj h1
  exact PySem.W.ki_setAt ho h0 (by lia) (by rw [ZA,<-hl]; exact h4) (by rw [hk]; exact ⟨_,I',q⟩)
 ·have hk:(k + (Ax.toArray.size:Int)).toNat=j:=by
   rw [seqIndex_neg (by lia) h3] at h1;rw [ZA,<-hl];exact ZJ.inj h1
  exact PySem.W.ki_setBack ho (by lia) (by rw [ZA,<-hl]; exact h3) (by lia) (by rw [hk]; exact ⟨_,I',q⟩)
def Gf:V->Bool
 | .non=>true
 | .bl _=>true
 | .int _=>true
 | .str _=>true
 | _=>false
def Tj:V->V->Bool
 | .non,.non=>true
 | .bl a,.bl b=>a == b
 | .bl a,.int b=>(if a then 1 else 0) == b
 | .int a,.bl b=>a == (if b then 1 else 0)
 | .int a,.int b=>a == b
 | .str a,.str b=>a == b
 | _,_=>false
theorem V9 {A:Around} {s:Shared} {y x:V} {u v:Value} (ry:AF y u) (rx:AF x v) (fy:Gf y=true) (fx:Gf x=true):SeqAt.EqAt A s u v (Tj y x):=by
 cases y with
 | non=>
  cases ry
  cases x with
  | non=>cases rx; exact SeqAt.EqAt.same _
  | bl b=>cases rx; exact SeqAt.EqAt.none_bool b
  | int b=>obtain ⟨t,rfl⟩:=rx; exact SeqAt.EqAt.none_int b t
  | str b=>obtain ⟨t,rfl⟩:=rx; exact SeqAt.EqAt.none_str b t
  | _=>exact absurd (show false=true from fx) ZD
 | bl a=>
  cases ry
  cases x with
  | non=>cases rx; exact SeqAt.EqAt.bool_none a
  | bl b=>cases rx; exact SeqAt.EqAt.bool_bool a b
  | int b=>obtain ⟨t,rfl⟩:=rx; exact SeqAt.EqAt.bool_int a b t
  | str b=>obtain ⟨t,rfl⟩:=rx; exact SeqAt.EqAt.bool_str a b t
  | _=>exact absurd (show false=true from fx) ZD
 | int a=>
  obtain ⟨t',rfl⟩:=ry;cases x with
  | non=>cases rx; exact SeqAt.EqAt.int_none a t'
  | bl b=>cases rx; exact SeqAt.EqAt.int_bool a t' b
  | int b=>obtain ⟨t,rfl⟩:=rx; exact SeqAt.EqAt.int_int a t' b t
  | str b=>obtain ⟨t,rfl⟩:=rx; exact SeqAt.EqAt.int_str a t' b t
  | _=>exact absurd (show false=true from fx) ZD
 | str a=>
  obtain ⟨t',rfl⟩:=ry;cases x with
  | non=>cases rx; exact SeqAt.EqAt.str_none a t'
  | bl b=>cases rx; exact SeqAt.EqAt.str_bool a t' b
  | int b=>obtain ⟨t,rfl⟩:=rx; exact SeqAt.EqAt.str_int a t' b t
  | str b=>obtain ⟨t,rfl⟩:=rx; exact SeqAt.EqAt.str_str a t' b t
  | _=>exact absurd (show false=true from fx) ZD
 | _=>exact absurd (show false=true from fy) ZD
def Tn (x:V) (u:Value):Bool:=match u with
 | .none=>Tj .non x
 | .bool b=>Tj (.bl b) x
 | .int i _=>Tj (.int i) x
 | .str z _=>Tj (.str z) x
 | _=>false
theorem RS {x y:V} {u:Value} (r:AF y u) (f:Gf y=true):Tn x u=Tj y x:=by
 cases y with
 | non=>cases r; rfl
 | bl b=>cases r; rfl
 | int i=>obtain ⟨t,rfl⟩:=r; rfl
 | str z=>obtain ⟨t,rfl⟩:=r; rfl
 | _=>exact absurd (show false=true from f) ZD
theorem Ls {x:V}:∀ {xs:List V} {us:List Value},A9 xs us->xs.all Gf=true->us.any (Tn x)=xs.any fun y=>Tj y x
 | _,_,.nil,_=>rfl
 | y :: xs,u :: us,.cons r t,f=>by
  rw [bZ,aj] at f;rw [bq,bq,RS r f.1,Ls t f.2]
theorem Ja {A:Around} {s:Shared} {x:V} {v:Value} (rx:AF x v) (fx:Gf x=true):∀ {xs:List V} {us:List Value},A9 xs us->xs.all Gf=true->∀ u ∈ us,SeqAt.EqAt A s u v (Tn x u)
 | _,_,.nil,_=>fun u hu=>by cases hu
 | y :: xs,u :: us,.cons r t,f=>fun u' hu=>by
  rw [bZ,aj] at f;rcases Zz.mp hu with rfl | hu
  ·rw [RS r f.1]; exact V9 r rx f.1 fx
  ·exact Ja rx fx t f.2 u' hu
def inV (x:V) (xs:List V):Bool:=xs.any fun y=>Tj y x
def rIn (K:Zw) (neg:Bool):R2:=fun x y H Q=>∃ p xs,y=.ref p/\(AX K H p xs\/A4 K H p xs)/\Gf x=true/\xs.all Gf=true/\Q (.bl (if neg then !inV x xs else inV x xs)) H
theorem Py:Ft X (compareOp .In) (rIn X.K false):=by
 intro pins s σ H x y v u Q I rx ry h;obtain ⟨p,xs,rfl,hq,fx,fs,q⟩:=h;cases ry
 rcases hq with hq | hq
 ·obtain ⟨Ax,r,pl,hz⟩:=I.list hq;refine SeqAt.in_listAt (Tn x) pl.isList (fun w hw=>Ja rx fx r fs w (by simpa using hw)) ⟨.bl _,H,I,rfl,?_⟩;rw [show Ax.toArray.any (Tn x)=Ax.any (Tn x) by simp,Ls r fs];exact q
 ·obtain ⟨Ax,r,pl,hz⟩:=I.tuple hq;refine SeqAt.in_tupleAt (Tn x) pl (fun w hw=>Ja rx fx r fs w (by simpa using hw)) ⟨.bl _,H,I,rfl,?_⟩;rw [show Ax.toArray.any (Tn x)=Ax.any (Tn x) by simp,Ls r fs];exact q
theorem AE:Bz X (.builtin "len") (fun xs H Q=>∃ p ys,xs=[.ref p]/\(AX X.K H p ys\/A4 X.K H p ys)/\Q (.int ys.length) H):=by
 intro pins s σ H xs us Q I r h;obtain ⟨p,ys,rfl,hq,q⟩:=h;obtain ⟨u,rfl,rx⟩:=Ce r;cases rx
 have hn:=FA;rcases hq with hq | hq
 ·obtain ⟨Ax,r',pl,hz⟩:=I.list hq;have hlen:=r'.length;exact Calls.call_len_list pl.isList (by simp only [ZA] <;> lia) ⟨.int ys.length,H,I.tok _,⟨s.toks + 1,by rw [ZA,hlen]⟩,q⟩
 ·obtain ⟨Ax,r',pl,hz⟩:=I.tuple hq;have hlen:=r'.length;exact len_tuple pl (by simp only [ZA] <;> lia) ⟨.int ys.length,H,I.tok _,⟨s.toks + 1,by rw [ZA,hlen]⟩,q⟩
theorem Gh:Bz X (.builtin "len") (fun xs H Q=>∃ z,xs=[.str z]/\z.length<=sizeLine/\Q (.int z.length) H):=by
 intro pins s σ H xs us Q I r h;obtain ⟨z,rfl,hz,q⟩:=h;obtain ⟨u,rfl,t,rfl⟩:=Ce r;have hn:=FA;exact len_str (by lia) ⟨.int z.length,H,I.tok _,⟨_,rfl⟩,q⟩
theorem Cv:Bz X (.type "list") (fun xs H Q=>∃ p ys,xs=[.ref p]/\(AX X.K H p ys\/A4 X.K H p ys)/\∀ l,H l=none->Q (.ref l) (upd H l (.lst ys))):=by
 intro pins s σ H xs us Q I r h;obtain ⟨p,ys,rfl,hq,q⟩:=h;obtain ⟨u,rfl,rx⟩:=Ce r;cases rx
 have fin:∀ (Ax:List Value),A9 ys Ax->ys.length<=sizeLine->∀ (h':Heap) (c':Nat),(∀ b o',s.heap.get? b=some o'->h'.get? b=some o') ->
   h'.get? s.heap.objs.size=some { cls:=.type "list",dict:=none,data:=.seq Ax.toArray c',slots:=#[] }->EP X pins σ Q (.ref s.heap.objs.size) { s with heap:=h' }:=fun Ax r' hz h' c' kp e=>
  ⟨.ref s.heap.objs.size,_,I.laid (t':=s.toks) kp (Z4 _) (show AO X.prog X.w _ h' _ (.lst ys) from ⟨hz,Ax,c',r',e⟩),rfl,q _ (I.hok.fresh (Z4 _))⟩
 rcases hq with hq | hq
 ·obtain ⟨Ax,r',pl,hz⟩:=I.list hq;have hlen:=r'.length;obtain ⟨o,ho,hc,n,hd⟩:=pl.isList;exact call_list_seq p (.inl rfl) ho hc hd (fun h' c' kp e=>fin Ax r' hz h' c' kp e) (by simp only [ZA] <;> lia)
 ·obtain ⟨Ax,r',pl,hz⟩:=I.tuple hq;have hlen:=r'.length;obtain ⟨o,ho,hc,n,hd⟩:=pl;exact call_list_seq p (.inr rfl) ho hc hd (fun h' c' kp e=>fin Ax r' hz h' c' kp e) (by simp only [ZA] <;> lia)
theorem B7:Bz X (.type "tuple") (fun xs H Q=>∃ p ys,xs=[.ref p]/\((AX X.K H p ys/\∀ l,H l=none->Q (.ref l) (upd H l (.tup ys)))\/(A4 X.K H p ys/\Q (.ref p) H))):=by
 intro pins s σ H xs us Q I r h;obtain ⟨p,ys,rfl,h⟩:=h;obtain ⟨u,rfl,rx⟩:=Ce r;cases rx
 rcases h with ⟨hq,q⟩ | ⟨hq,q⟩
 ·obtain ⟨Ax,r',pl,hz⟩:=I.list hq;have hlen:=r'.length;refine call_tuple_list pl.isList (fun h' kp=>?_) (by simp only [ZA] <;> lia);have I1:Av X pins σ H { s with heap:=h' }:=I.kept (t':=s.toks) kp;have I2:Av X pins σ (upd H h'.objs.size (.tup ys)) { s with heap:=h'.push { cls:=.type "tuple",data:=.seq Ax.toArray } }:=
   I1.laid (t':=s.toks) (fun b o e=>Zu _ e) (Z4 _) (show AO X.prog X.w _ _ _ (.tup ys) from ⟨hz,Ax,r',IsTup.new _ _,Lu.new rfl rfl⟩)
  exact ⟨.ref h'.objs.size,_,I2,rfl,q _ (I1.hok.fresh (Z4 _))⟩
 ·obtain ⟨Ax,r',pl,hz⟩:=I.tuple hq;exact call_tuple_same pl ⟨.ref p,H,I,rfl,q⟩
def tyV (K:Zw) (T:String) (x:V) (H:Hp):Prop:=match x with
 | .str _=>T="str"
 | .int _=>T="int"
 | .ref p=>(T="list"/\∃ xs,AX K H p xs)\/(T="tuple"/\∃ o,K.lookup p=some o/\o.cls=.type "tuple"/\o.dict=none) \/
   (T="dict"/\((∃ kvs,H p=some (.dK kvs))\/∃ kvs,H p=some (.dT kvs)))\/(T="set"/\∃ S n,H p=some (.set S n))
 | _=>False
theorem U4 {pins:List (Addr × Obj)} {σ:St} {H:Hp} {s:Shared} {T:String} {x:V} {v:Value} (I:Av X pins σ H s) (r:AF x v) (ty:tyV X.K T x H) :
  s.TypeIs v T/\∀ a,v=.ref a->∃ ob,s.heap.get? a=some ob/\ob.dict=none:=by
 cases x with
 | str z=>
  obtain ⟨t,rfl⟩:=r;cases (show T="str" from ty)
  exact ⟨typeIs_str s z t,fun _ e=>nomatch e⟩
 | int i=>
  obtain ⟨t,rfl⟩:=r;cases (show T="int" from ty)
  exact ⟨typeIs_int s i t,fun _ e=>nomatch e⟩
 | ref p=>
  cases r
  rcases ty with ⟨rfl,xs,hq⟩ | ⟨rfl,o,hk,hc,hd⟩ | ⟨rfl,hk⟩ | ⟨rfl,S,n,hk⟩
  ·obtain ⟨Ax,_,pl,_⟩:=I.list hq;refine ⟨pl.isList.typeIs,fun a e=>?_⟩;cases e
   obtain ⟨o,n,e,c,hd,_⟩:=pl;exact ⟨o,e,hd⟩
  ·refine ⟨⟨o,I.kIn p o hk,hc⟩,fun a e=>?_⟩;cases e
   exact ⟨o,I.kIn _ o hk,hd⟩
  ·have z:∃ o,s.heap.get? p=some o/\o.ExactDict:=by
    rcases hk with ⟨kvs,hk⟩ | ⟨kvs,hk⟩
    ·obtain ⟨_,_,_,_,o,_,_,e,ex,_⟩:=I.hok p _ hk;exact ⟨o,e,ex⟩
    ·obtain ⟨_,_,_,_,o,_,_,e,ex,_⟩:=I.hok p _ hk;exact ⟨o,e,ex⟩
   obtain ⟨o,e,ex⟩:=z;refine ⟨⟨o,e,ex.1⟩,fun a e2=>?_⟩;cases e2
   exact ⟨o,e,ex.2.1⟩
  ·obtain ⟨o,_,_,_,e,ex,_⟩:=I.hok p _ hk;refine ⟨⟨o,e,ex.1⟩,fun a e2=>?_⟩;cases e2
   exact ⟨o,e,ex.2.1⟩
 | _=>exact False.elim ty
def tBM (K:Zw) (T:String) (r:V->List V->Hp->VK->Prop) (to:TE) (t:TA):TE:=fun σ H Q=>to σ H fun x H1=>tyV K T x H1/\t σ H1 fun xs H2=>r x xs H2 Q
variable {o e:Expr} {es:List Expr} {to:TE} {t:TA} {name:Str} {apos DU:Pos} {T id:String} {r:V->List V->Hp->VK->Prop}
theorem IP (pa:PlainAttrs T) (slot:Slot T name id) (hty:typeOf (.builtin id)=pure (.type "method_descriptor")) (hm:MtR X id r) (ho:PE X o to) (ha:PA X (e :: es) t)
  (hbase:attributeBase o name X.env (eval o X.env)=eval o X.env:=by rfl)
  (hfew:((backTo DU (starEach (e :: es) X.env)).all (fun x=>!x.1) && (backToKw DU (keywordEach [] X.env)).all (fun x=>x.1.isSome)
   && decide ((e :: es).length + ([]:List Keyword).length + (if ([]:List Keyword).isEmpty then 0 else 1) < 30))=true:=by rfl)
  (hline:(apos.endLine == DU.line)=true:=by rfl) (hs:starEach (e :: es) X.env=(false,eval e X.env) :: starEach es X.env:=by rfl) (hplain:(backTo DU (starEach es X.env)).any (·.1)=false:=by rfl) :
  PE X (.Call (.Attribute o name apos) (e :: es) [] DU) (tBM X.K T r to t):=by
 intro pins s σ H Q I h;refine wpAny_Call_method_late hbase hfew hline rfl (By (ho (pins:=pins) s σ H _ I h) fun v s1 ⟨x,H1,I1,r1,ty,q1⟩=>?_);obtain ⟨h1,h2⟩:=U4 I1 r1 ty;exists T,id,pa,slot,hty,h1,h2;have hA:=ha (pos:=DU) (pins:=pins) s1 σ H1 _ I1 q1;rw [hs] at hA ⊢;refine Calls.callWith_builtin (by show (false || (backTo DU (starEach es X.env)).any (·.1))=false; rw [hplain] <;> rfl) (Calls.evalArgs_plain ?_);exact By hA fun us s2 ⟨vs,H2,I2,r2,q2⟩=>hm (pins:=pins) s2 σ H2 x vs v us Q I2 r1 r2 q2
end
def MtM (X:Cx) (id:String) (r:V->List V->Hp->VK->Prop):Prop:=
 ∀ ⦃pins:List (Addr × Obj)⦄ (s:Shared) (σ:St) (H:Hp) (x:V) (xs:List V) (v:Value) (us:List Value) (Q:VK),Av X pins σ H s->AF x v->A9 xs us->r x xs H Q ->
  wpAny (model X.prog X.w) X.A (call (.builtin id) (v :: us)) (EP X pins σ Q) X.xe s
theorem A9.one:∀ {x:V} {us:List Value},A9 [x] us->∃ u,us=[u]/\AF x u
 | _,_,.cons r .nil=>⟨_,rfl,r⟩
theorem A9.eraseIdx:∀ {xs:List V} {us:List Value} (i:Nat),A9 xs us->A9 (xs.eraseIdx i) (us.eraseIdx i)
 | _,_,_,.nil=>.nil
 | _,_,0,.cons _ t=>t
 | _,_,i + 1,.cons r t=>.cons r (A9.eraseIdx i t)
theorem Km {α:Type}:∀ (l:List α) (i:Nat),(l.eraseIdx i).length<=l.length
 | [],_=>Z4 _
 | _ :: _,0=>ZX _
 | _ :: r,i + 1=>Nat.succ_le_succ (Km r i)
section
variable {X:Cx} {pins:List (Addr × Obj)} {σ:St} {H:Hp} {s:Shared} {l b:Addr} {xs ys zs:List V}
theorem Av.lset {Ax its':List Value} {n:Nat} {f:Array Value->Array Value} {t':Nat} (I:Av X pins σ H s) (hH:H l=some (.lst xs))
  (e:s.heap.get? l=some { cls:=.type "list",data:=.seq Ax.toArray n }) (hf:f Ax.toArray=its'.toArray) (hv:A9 ys its') (hz:ys.length<=sizeLine) :
  Av X pins σ (upd H l (.lst ys)) { s with heap:=s.heap.update l (Obj.mapSeq f),toks:=t' }:=by
 have q:=PySem.IsL.update e f;rw [hf] at q;refine I.write (x:=l) (e:=l) (by rw [hH]; exact trivial) (.inl rfl) (fun b' u hb hu=>(aa s.heap (Obj.mapSeq f) (Ne.symm hb)).trans hu) ⟨_,q⟩ ?_;exact ⟨hz,its',_,hv,q⟩
theorem Av.lnew {Ax:List Value} {t':Nat} (I:Av X pins σ H s) (hv:A9 ys Ax) (hz:ys.length<=sizeLine) :
  Av X pins σ (upd H s.heap.objs.size (.lst ys)) { s with heap:=s.heap.push { cls:=.type "list",data:=.seq Ax.toArray },toks:=t' }:=
 I.laid (fun _ _ q=>Zu _ q) (Z4 _) ⟨hz,Ax,0,hv,Z5 _ rfl⟩
theorem Av.fresh (I:Av X pins σ H s):H s.heap.objs.size=none:=I.hok.fresh (Z4 _)
theorem Av.lstM (I:Av X pins σ H s) (hH:H l=some (.lst xs)):xs.length<=sizeLine/\∃ (Ax:List Value) (n:Nat),A9 xs Ax/\xs.length=Ax.length/\s.heap.get? l=some { cls:=.type "list",data:=.seq Ax.toArray n }:=by
 obtain ⟨z,Ax,n,r,e⟩:=I.hok l _ hH;exact ⟨z,Ax,n,r,r.length,e⟩
end
section
variable {X:Cx}
def SD:V->List V->Hp->VK->Prop:=fun x vs H Q=>∃ l xs y,x=.ref l/\vs=[y]/\H l=some (.lst xs)/\xs.length < sizeLine/\Q .non (upd H l (.lst (xs ++ [y])))
theorem Dn:MtM X "list.append" SD:=by
 intro pins s σ H x vs v us Q I rx rv h;obtain ⟨l,xs,y,rfl,rfl,hH,hz,q⟩:=h;cases rx
 obtain ⟨u,rfl,ru⟩:=rv.one;obtain ⟨z,Ax,n,r,hl,e⟩:=I.lstM hH;refine call_meets F.slot_list_append ⟨_,e,rfl⟩ F.entry_list_append (F.args_list_append_2 _ _) (PySem.list_append l Ax.toArray n u (by rw [ZA]; lia)) ⟨e,?_⟩;refine ⟨.non,_,I.lset (its':=Ax ++ [u]) hH e (by simp) (r.append (.cons ru .nil)) ?_,rfl,q⟩;rw [Zy,bP];lia
def UU:V->List V->Hp->VK->Prop:=fun x vs H Q=>∃ l xs i k y,x=.ref l/\vs=[.int i]/\H l=some (.lst xs)/\-(2 ^ 63)<=i/\i < 2 ^ 63/\seqIndex? i xs.length=some k/\xs[k]? = some y/\Q y (upd H l (.lst (xs.eraseIdx k)))
theorem Mu:MtM X "list.pop" UU:=by
 intro pins s σ H x vs v us Q I rx rv h;obtain ⟨l,xs,i,k,y,rfl,rfl,hH,h1,h2,hk,hy,q⟩:=h;cases rx
 obtain ⟨u,rfl,ru⟩:=rv.one;obtain ⟨t,rfl⟩:=ru;obtain ⟨z,Ax,n,r,hl,e⟩:=I.lstM hH;obtain ⟨w,hw,Ph⟩:=r.get hy;refine call_meets F.slot_list_pop ⟨_,e,rfl⟩ F.entry_list_pop (F.args_list_pop_2 _ _)
  (MeetsSeq.list_pop_at l Ax.toArray n i t k w (fitsIndex_both h1 h2) (by rw [ZA,<-hl]; exact hk) (by rw [<-bo]; exact hw) (by rw [ZA]; lia)) ⟨e,?_⟩
 refine ⟨y,_,I.lset (its':=Ax.eraseIdx k) hH e ?_ (r.eraseIdx k) ?_,Ph,q⟩
 ·show Ax.toArray.eraseIdxIfInBounds k=(Ax.eraseIdx k).toArray
  rw [List.eraseIdxIfInBounds_toArray]
 ·have:=Km xs k;lia
def rCat:R2:=fun x y H Q=>∃ l b xs zs,x=.ref l/\y=.ref b/\H l=some (.lst xs)/\H b=some (.lst zs)/\xs.length + zs.length<=sizeLine/\∀ p,H p=none->Q (.ref p) (upd H p (.lst (xs ++ zs)))
theorem EX:Ft X (binaryOp .Add) rCat:=by
 intro pins s σ H x y v u Q I rx ry h;obtain ⟨l,b,xs,zs,rfl,rfl,hH,hB,hz,q⟩:=h;cases rx
 cases ry
 obtain ⟨z,Ax,n,r,hl,e⟩:=I.lstM hH;obtain ⟨z2,Lf,n2,r2,HF,e2⟩:=I.lstM hB;refine PySem.P.add_list e e2 ?_ (by rw [ZA,ZA]; lia);have ea:Ax.toArray ++ Lf.toArray=(Ax ++ Lf).toArray:=by simp
 rw [ea];exact ⟨.ref _,_,I.lnew (t':=s.toks) (r.append r2) (by rw [Zy]; lia),rfl,q _ I.fresh⟩
end
section
variable {prog:Program} {w:World} {A:Around} {E:Value->Shared->Prop} {s:Shared}
set_option maxRecDepth 100000 in
end
section
variable {X:Cx}
end
section
variable {κ:Type} [DecidableEq κ]
def B8 (kvs:List (κ × V)) (k:κ):Option V:=(kvs.find? fun kv=>decide (kv.1=k)).map (·.2)
def BK (kvs:List (κ × V)) (k:κ) (v:V):List (κ × V):=
 if (kvs.any fun kv=>decide (kv.1=k))=true then kvs.map (fun kv=>if kv.1=k then (kv.1,v) else kv) else kvs ++ [(k,v)]
def Jo (kvs:List (κ × V)) (k:κ):List (κ × V):=kvs.filter fun kv=>decide (kv.1 ≠ k)
theorem BH {p:κ × V} {r:List (κ × V)} {k:κ} (e:p.1=k):B8 (p :: r) k=some p.2:=by simp [B8,aQ,e]
theorem BB {p:κ × V} {r:List (κ × V)} {k:κ} (e:¬ p.1=k):B8 (p :: r) k=B8 r k:=by simp [B8,aQ,e]
theorem Co (k:κ):∀ kvs:List (κ × V),(kvs.any fun kv=>decide (kv.1=k))=(B8 kvs k).isSome
 | []=>rfl
 | p :: r=>by
  rw [bq];by_cases e:p.1=k
  ·simp only [BH e,decide_eq_true e,Bool.true_or,Option.isSome_some]
  ·rw [BB e,decide_eq_false e,Bool.false_or]; exact Co k r
theorem LC (k j:κ) (y:V):∀ kvs:List (κ × V),B8 (kvs.map fun kv=>if kv.1=k then (kv.1,y) else kv) j=(B8 kvs j).map fun x=>if j=k then y else x
 | []=>rfl
 | p :: r=>by
  have ih:=LC k j y r;rw [ZI];by_cases h:p.1=k
  ·rw [if_pos h];by_cases e:p.1=j
   ·rw [BH (p:=(p.1,y)) e,BH e,aW,if_pos (e.symm.trans h)]
   ·rw [BB (p:=(p.1,y)) e,BB e,ih]
  ·rw [if_neg h];by_cases e:p.1=j
   ·rw [BH (p:=p) e,BH e,aW,if_neg (fun z=>h (e.trans z))]
   ·rw [BB (p:=p) e,BB e,ih]
theorem JW (k j:κ) (y:V):∀ kvs:List (κ × V),B8 kvs k=none->B8 (kvs ++ [(k,y)]) j=if j=k then some y else B8 kvs j
 | [],_=>by
  by_cases e:k=j
  ·rw [if_pos e.symm]; exact BH (p:=(k,y)) e
  ·rw [if_neg (fun z=>e z.symm)]; exact BB (p:=(k,y)) e
 | p :: r,hn=>by
  rw [cB];have hk:¬ p.1=k:=fun z=>by rw [BH z] at hn; cases hn
  rw [BB hk] at hn;have ih:=JW k j y r hn;by_cases e:p.1=j
  ·rw [BH e,BH e,if_neg (fun z=>hk (e.trans z))]
  ·rw [BB e,BB e,ih]
theorem QA (kvs:List (κ × V)) (k j:κ) (y:V):B8 (BK kvs k y) j=if j=k then some y else B8 kvs j:=by
 unfold BK;by_cases a:(kvs.any fun kv=>decide (kv.1=k))=true
 ·rw [if_pos a,LC];rw [Co] at a;by_cases e:j=k
  ·obtain ⟨x,hx⟩:=bE.mp a;rw [if_pos e,e,hx,aW,if_pos rfl]
  ·rw [if_neg e];cases B8 kvs j with
   | none=>rfl
   | some x=>rw [aW,if_neg e]
 ·rw [if_neg a];refine JW k j y kvs ?_;rw [Co] at a;cases q:B8 kvs k with
  | none=>rfl
  | some x=>rw [q] at a; exact (a rfl).elim
theorem CA (kvs:List (κ × V)) (k:κ) (v:V):(BK kvs k v).length<=kvs.length + 1:=by
 unfold BK;split
 ·rw [Zv]; lia
 ·rw [Zy,ak,dY]; lia
theorem Rg {kvs:List (κ × V)} {k:κ} (v:V) (h:B8 kvs k=none):BK kvs k v=kvs ++ [(k,v)]:=by
 unfold BK;rw [Co,h];exact if_neg (by decide)
theorem GJ.isSome_eq {o:Option V} {u:Option Value} (r:GJ o u):o.isSome=u.isSome:=by
 cases o with
 | none=>cases u with
  | none=>rfl
  | some _=>exact (show False from r).elim
 | some _=>cases u with
  | none=>exact (show False from r).elim
  | some _=>rfl
theorem GJ.getD {o:Option V} {u:Option Value} {d:V} {d':Value} (r:GJ o u) (rd:AF d d'):AF (o.getD d) (u.getD d'):=by
 cases o with
 | none=>cases u with
  | none=>exact rd
  | some _=>exact (show False from r).elim
 | some _=>cases u with
  | none=>exact (show False from r).elim
  | some _=>exact r
theorem KV.val {kvs:List (κ × V)} {vs:List (κ × Value)} (r:KV kvs vs) (k:κ):GJ (B8 kvs k) (valueAt vs k):=by
 unfold KV at r;induction r with
 | nil=>exact True.intro
 | @cons p q ps qs h t ih=>
  obtain ⟨h1,h2⟩:=h;by_cases e:p.1=k
  ·have e':q.1=k:=h1.symm.trans e;have b:valueAt (q :: qs) k=some q.2:=by simp [valueAt,aQ,e']
   rw [BH e,b]; exact h2
  ·have e':¬ q.1=k:=fun z=>e (h1.trans z)
   have b:valueAt (q :: qs) k=valueAt qs k:=by simp [valueAt,aQ,e']
   rw [BB e,b]; exact ih
theorem KV.any {kvs:List (κ × V)} {vs:List (κ × Value)} (r:KV kvs vs) (k:κ):(kvs.any fun kv=>decide (kv.1=k))=vs.any fun kv=>decide (kv.1=k):=by
 unfold KV at r;induction r with
 | nil=>rfl
 | cons h t ih=>rw [bq,bq,ih,h.1]
theorem KV.repl {kvs:List (κ × V)} {vs:List (κ × Value)} (r:KV kvs vs) (k:κ) {y:V} {u:Value} (ry:AF y u) :
  KV (kvs.map fun kv=>if kv.1=k then (kv.1,y) else kv) (vs.map fun kv=>if kv.1=k then (kv.1,u) else kv):=by
 unfold KV at r ⊢;induction r with
 | nil=>exact .nil
 | @cons p q ps qs h t ih=>
  rw [ZI,ZI];refine .cons ?_ ih;obtain ⟨h1,h2⟩:=h;by_cases e:p.1=k
  ·rw [if_pos e,if_pos (h1.symm.trans e)]; exact ⟨h1,ry⟩
  ·rw [if_neg e,if_neg (fun z=>e (h1.trans z))]; exact ⟨h1,h2⟩
theorem KV.put {kvs:List (κ × V)} {vs:List (κ × Value)} (r:KV kvs vs) (k:κ) {y:V} {u:Value} (ry:AF y u):KV (BK kvs k y) (stored vs k u):=by
 unfold BK stored;rw [r.any k];by_cases e:(vs.any fun kv=>decide (kv.1=k))=true
 ·rw [if_pos e,if_pos e]; exact r.repl k ry
 ·rw [if_neg e,if_neg e]; exact Paired.snoc r ⟨rfl,ry⟩
theorem KV.drop {kvs:List (κ × V)} {vs:List (κ × Value)} (r:KV kvs vs) (k:κ):KV (Jo kvs k) (without vs k):=by
 unfold KV at r ⊢;unfold Jo without;induction r with
 | nil=>exact .nil
 | @cons p q ps qs h t ih=>
  obtain ⟨h1,h2⟩:=h;rw [dO,dO];by_cases e:p.1=k
  ·have a:¬ decide (p.1 ≠ k)=true:=by simp [e]
   have b:¬ decide (q.1 ≠ k)=true:=by simp [h1.symm.trans e]
   rw [if_neg a,if_neg b]; exact ih
  ·have e':¬ q.1=k:=fun z=>e (h1.trans z)
   have a:decide (p.1 ≠ k)=true:=by simp [e]
   have b:decide (q.1 ≠ k)=true:=by simp [e']
   rw [if_pos a,if_pos b]; exact .cons ⟨h1,h2⟩ ih
theorem KV.length {kvs:List (κ × V)} {vs:List (κ × Value)} (r:KV kvs vs):kvs.length=vs.length:=Paired.length r
theorem RU (kvs:List (κ × V)) (k:κ):(Jo kvs k).length<=kvs.length:=List.length_filter_le _ _
end
theorem HA {P:Program} {w:World} {k:Bg} {u:Value} (r:AF (kV k) u):(AS P w).is k u=true:=by
 cases k with
 | inl i=>obtain ⟨t,e⟩:=(show ∃ t,u=Value.int i t from r); subst e; exact Mv P w i t
 | inr x=>obtain ⟨t,e⟩:=(show ∃ t,u=Value.str x t from r); subst e; exact Hy P w x t
theorem Ko {P:Program} {w:World}:∀ {ks:List Bg} {us:List Value},A9 (ks.map kV) us->ItemsAre (AS P w) ks us
 | [],_,r=>by rw [cu] at r; cases r; exact .nil
 | k :: ks,_,r=>by
  rw [ZI] at r;cases r with
  | cons h t=>exact .cons (HA h) (Ko t)
abbrev KT (H:Hp):List (List Bg × V)->List (List Bg × Addr × Value)->Prop:=Paired fun p q=>p.1=q.1/\H q.2.1=some (.tup (p.1.map kV))/\AF p.2 q.2.2
theorem KT.val {H:Hp} {kvs:List (List Bg × V)} {xs:List (List Bg × Addr × Value)} (r:KT H kvs xs) (k:List Bg):GJ (B8 kvs k) ((atKey xs k).map (·.2)):=by
 induction r with
 | nil=>exact True.intro
 | @cons p q ps qs h t ih=>
  obtain ⟨h1,_,h2⟩:=h;by_cases e:p.1=k
  ·have e':q.1=k:=h1.symm.trans e;have b:atKey (q :: qs) k=some q.2:=by simp [atKey,aQ,e']
   rw [BH e,b]; exact h2
  ·have e':¬ q.1=k:=fun z=>e (h1.trans z)
   have b:atKey (q :: qs) k=atKey qs k:=by simp [atKey,aQ,e']
   rw [BB e,b]; exact ih
theorem KT.repl {H:Hp} {kvs:List (List Bg × V)} {xs:List (List Bg × Addr × Value)} (r:KT H kvs xs) (k:List Bg) {y:V} {u:Value} (ry:AF y u) :
  KT H (kvs.map fun kv=>if kv.1=k then (kv.1,y) else kv) (xs.map (putAt k u)):=by
 induction r with
 | nil=>exact .nil
 | @cons p q ps qs h t ih=>
  rw [ZI,ZI];refine .cons ?_ ih;obtain ⟨h1,h2,h3⟩:=h;unfold putAt;by_cases e:p.1=k
  ·rw [if_pos e,if_pos (h1.symm.trans e)]; exact ⟨h1,h2,ry⟩
  ·rw [if_neg e,if_neg (fun z=>e (h1.trans z))]; exact ⟨h1,h2,h3⟩
theorem KT.put {H:Hp} {kvs:List (List Bg × V)} {xs:List (List Bg × Addr × Value)} (r:KT H kvs xs) (k:List Bg) {b:Addr} {y:V} {u:Value} (hb:H b=some (.tup (k.map kV))) (ry:AF y u) :
  KT H (BK kvs k y) (storedH xs k b u):=by
 have e:(kvs.any fun kv=>decide (kv.1=k))=(atKey xs k).isSome:=by
  rw [Co,(r.val k).isSome_eq,ck]
 unfold BK storedH;rw [e];by_cases q:(atKey xs k).isSome=true
 ·rw [if_pos q,if_pos q]; exact r.repl k ry
 ·rw [if_neg q,if_neg q]; exact Paired.snoc r ⟨rfl,hb,ry⟩
theorem KT.keeps {H H':Hp} {kvs:List (List Bg × V)} {xs:List (List Bg × Addr × Value)} (r:KT H kvs xs) (ht:∀ b ys,H b=some (.tup ys)->H' b=some (.tup ys)):KT H' kvs xs:=
 Paired.mapP r fun _ _ z=>⟨z.1,ht _ _ z.2.1,z.2.2⟩
section
variable {P:Program} {w:World} {H:Hp} {h:Heap} {a:Addr}
theorem TN {u:HO} (ok:FJ P w H h) (e:Rd H a u):AO P w H h a u:=e.ok ok
theorem Jp {kvs:List (Bg × V)} (ok:FJ P w H h) (e:Rd H a (.dK kvs)):kvs.length<=sizeLine/\(a == sysModules)=false/\∃ vs,KV kvs vs/\h.DictOf (AS P w) a vs:=
 show AO P w H h a (.dK kvs) from TN ok e
theorem RV {kvs:List (Bg × V)} (ok:FJ P w H h) (e:H a=some (.dK kvs)):kvs.length<=sizeLine/\(a == sysModules)=false/\∃ vs,KV kvs vs/\h.DictOf (AS P w) a vs:=Jp ok (.inl e)
theorem G5 {ks:List Bg} (ok:FJ P w H h) (e:H a=some (.tup (ks.map kV))):(tupleKind (AS P w)).is h ks a:=by
 obtain ⟨_,Ax,r,⟨o,h1,h2,n,h3⟩,_⟩:=(show AO P w H h a (.tup (ks.map kV)) from ok a _ e)
 exact ⟨o,Ax.toArray,n,h1,h2,h3,by simpa using Ko r⟩
theorem Jn {kvs:List (List Bg × V)} (ok:FJ P w H h) (e:Rd H a (.dT kvs)):kvs.length<=sizeLine/\(a == sysModules)=false /\
  ∃ xs,KT H kvs xs/\h.DictOfH (tupleKind (AS P w)) a xs:=by
 obtain ⟨z,y,xs,r,o,es,ep,h1,h2,h3,h4,h5⟩:=(show AO P w H h a (.dT kvs) from TN ok e)
 refine ⟨z,y,xs,r,o,es,ep,h1,h2,h3,h4,fun x hx=>?_,h5⟩;have all:∀ {l:List (List Bg × V)} {m:List (List Bg × Addr × Value)},KT H l m->∀ x ∈ m,(tupleKind (AS P w)).is h x.1 x.2.1:=by
  intro l m q;induction q with
  | nil=>intro x hx; exact nomatch hx
  | @cons p q ps qs hq t ih=>
   intro x hx;rcases Zz.mp hx with e | hx
   ·subst e;exact G5 ok (by rw [<-hq.1]; exact hq.2.1)
   ·exact ih x hx
 exact all r x hx
theorem dt_of {kvs:List (List Bg × V)} (ok:FJ P w H h) (e:H a=some (.dT kvs)):kvs.length<=sizeLine/\(a == sysModules)=false /\
  ∃ xs,KT H kvs xs/\h.DictOfH (tupleKind (AS P w)) a xs:=Jn ok (.inl e)
end
def Cn (H:Hp) (a:Addr) (y:V) (r:Option V):Prop:=
 (∃ kvs k,Rd H a (.dK kvs)/\y=kV k/\r=B8 kvs k)\/∃ kvs k b,Rd H a (.dT kvs)/\y=.ref b/\H b=some (.tup (k.map kV))/\r=B8 kvs k
def FH (H:Hp) (a:Addr) (y v:V) (H':Hp):Prop:=
 (∃ kvs k,H a=some (.dK kvs)/\y=kV k/\kvs.length < sizeLine/\H'=upd H a (.dK (BK kvs k v))) \/
 ∃ kvs k b,H a=some (.dT kvs)/\y=.ref b/\H b=some (.tup (k.map kV))/\kvs.length < sizeLine/\H'=upd H a (.dT (BK kvs k v))
theorem Cn.k {H:Hp} {a:Addr} {kvs:List (Bg × V)} {k:Bg} (e:H a=some (.dK kvs)):Cn H a (kV k) (B8 kvs k):=.inl ⟨kvs,k,.inl e,rfl,rfl⟩
theorem Cn.t {H:Hp} {a b:Addr} {kvs:List (List Bg × V)} {k:List Bg} (e:H a=some (.dT kvs)) (eb:H b=some (.tup (k.map kV))):Cn H a (.ref b) (B8 kvs k):=.inr ⟨kvs,k,b,.inl e,rfl,eb,rfl⟩
theorem FH.k {H:Hp} {a:Addr} {kvs:List (Bg × V)} {k:Bg} {v:V} (e:H a=some (.dK kvs)) (hl:kvs.length < sizeLine):FH H a (kV k) v (upd H a (.dK (BK kvs k v))):=.inl ⟨kvs,k,e,rfl,hl,rfl⟩
theorem FH.t {H:Hp} {a b:Addr} {kvs:List (List Bg × V)} {k:List Bg} {v:V} (e:H a=some (.dT kvs)) (eb:H b=some (.tup (k.map kV))) (hl:kvs.length < sizeLine) :
  FH H a (.ref b) v (upd H a (.dT (BK kvs k v))):=.inr ⟨kvs,k,b,e,rfl,eb,hl,rfl⟩
section
variable {X:Cx} {pins:List (Addr × Obj)} {σ:St} {H:Hp} {s:Shared} {a:Addr} {y v:V} {u r:Value} {o:Option V} {A:Around} {E:Value->Shared->Prop}
theorem Av.big (I:Av X pins σ H s):sysModules < s.heap.objs.size:=by
 have h:mainGlobals < s.heap.objs.size:=(I.mod.glob.keeps I.bk).lt;exact Nat.lt_trans (by decide) h
theorem Qk {Q:Value->Shared->Prop} (hu:A.units + 1 < cLine) (I:Av X pins σ H s) (g:Cn H a y (some v)) (ry:AF y u) (h:∀ w' s',Av X pins σ H s'->AF v w'->Q w' s') :
  wpAny (model X.prog X.w) A (getItem (.ref a) u) Q E s:=by
 rcases g with ⟨kvs,k,e,ey,l⟩ | ⟨kvs,k,b,e,ey,eb,l⟩
 ·subst ey;obtain ⟨z,hd,vs,rel,dd⟩:=Jp I.hok e;obtain ⟨w',hw,Ph⟩:=GJ.some_of (v:=v) (o:=valueAt vs k) (by rw [l]; exact rel.val k);exact wpAny_getItem_of (HA ry) dd.mapOf hw (h w' _ (I.tok _) Ph)
 ·subst ey;cases (show u=Value.ref b from ry)
  obtain ⟨z,hd,xs,rel,dd⟩:=Jn I.hok e;obtain ⟨w',hw,Ph⟩:=GJ.some_of (v:=v) (o:=(atKey xs k).map (·.2)) (by rw [l]; exact rel.val k);obtain ⟨p,hp,Sk⟩:=Option.map_eq_some_iff.mp hw;refine wpAny_getItem_heap (tupleKind_room_in1 hu) (G5 I.hok eb) dd hp ?_;rw [Sk];exact h w' _ (I.tok _) Ph
theorem d_in {Q:Value->Shared->Prop} (hu:A.units + 1 < cLine) (I:Av X pins σ H s) (g:Cn H a y o) (ry:AF y u) (h:∀ s',Av X pins σ H s'->Q (.bool o.isSome) s') :
  wpAny (model X.prog X.w) A (compareOp .In u (.ref a)) Q E s:=by
 rcases g with ⟨kvs,k,e,ey,l⟩ | ⟨kvs,k,b,e,ey,eb,l⟩
 ·subst ey;obtain ⟨z,hd,vs,rel,dd⟩:=Jp I.hok e;refine wpAny_in_of (HA ry) hd dd.mapOf ?_;rw [<-(rel.val k).isSome_eq,<-l];exact h _ (I.tok _)
 ·subst ey;cases (show u=Value.ref b from ry)
  obtain ⟨z,hd,xs,rel,dd⟩:=Jn I.hok e;refine wpAny_in_heap (tupleKind_room_in1 hu) (G5 I.hok eb) hd dd ?_;have q:=(rel.val k).isSome_eq;rw [ck] at q;rw [<-q,<-l];exact h _ (I.tok _)
theorem Tp {Q:Value->Shared->Prop} (hu:A.units + 1 < cLine) (I:Av X pins σ H s) (g:Cn H a y o) (ry:AF y u) (h:∀ s',Av X pins σ H s'->Q (.bool (!o.isSome)) s') :
  wpAny (model X.prog X.w) A (compareOp .NotIn u (.ref a)) Q E s:=by
 rcases g with ⟨kvs,k,e,ey,l⟩ | ⟨kvs,k,b,e,ey,eb,l⟩
 ·subst ey;obtain ⟨z,hd,vs,rel,dd⟩:=Jp I.hok e;refine wpAny_notIn_of (HA ry) hd dd.mapOf ?_;rw [<-(rel.val k).isSome_eq,<-l];exact h _ (I.tok _)
 ·subst ey;cases (show u=Value.ref b from ry)
  obtain ⟨z,hd,xs,rel,dd⟩:=Jn I.hok e;refine wpAny_notIn_heap (tupleKind_room_in1 hu) (G5 I.hok eb) hd dd ?_;have q:=(rel.val k).isSome_eq;rw [ck] at q;rw [<-q,<-l];exact h _ (I.tok _)
theorem Ip {h':Heap} {t':Nat} {ob:HO} (I:Av X pins σ H s) (mu:Mut (H a)) (hs:Heap.SameBut a s.heap h') (he:∃ q,h'.get? a=some q) (new:AO X.prog X.w (upd H a ob) h' a ob) :
  Av X pins σ (upd H a ob) { s with heap:=h',toks:=t' }:=
 I.write (x:=a) (e:=a) mu (.inl rfl) (fun b q hb z=>(hs.2 b hb).trans z) he new
theorem Ln {P:Program} {w:World} {H':Hp} {h':Heap} {kvs:List (Bg × V)} {vs:List (Bg × Value)} (z:kvs.length<=sizeLine) (hd:(a == sysModules)=false) (rel:KV kvs vs) (dd:h'.DictOf (AS P w) a vs) :
  AO P w H' h' a (.dK kvs):=⟨z,hd,vs,rel,dd⟩
theorem Qj {H':Hp} {Q:Unit->Shared->Prop} (hu:A.units + 1 < cLine) (I:Av X pins σ H s) (g:FH H a y v H') (ry:AF y u) (rv:AF v r) (h:∀ s',Av X pins σ H' s'->Q () s') :
  wpAny (model X.prog X.w) A (setItem (.ref a) u r) Q E s:=by
 rcases g with ⟨kvs,k,e,ey,l,eH⟩ | ⟨kvs,k,b,e,ey,eb,l,eH⟩
 ·subst ey eH;obtain ⟨z,hd,vs,rel,dd⟩:=RV I.hok e;have hz:vs.length<=sizeLine:=by rw [<-rel.length]; exact z
  have hl:(BK kvs k v).length<=sizeLine:=by have:=CA kvs k v; lia
  refine wpAny_setItem_pairs (hsz:=hz) (HA ry) dd fun h' MN hs=>h _ ?_
  have he:∃ q,h'.get? a=some q:=let ⟨q,_,_,hq,_⟩:=MN; ⟨q,hq⟩;exact Ip I (by rw [e]; exact True.intro) hs he (Ln hl hd (rel.put k rv) MN)
 ·subst ey eH;cases (show u=Value.ref b from ry)
  obtain ⟨z,hd,xs,rel,dd⟩:=dt_of I.hok e;have hz:xs.length<=sizeLine:=by rw [<-Paired.length rel]; exact z
  have hl:(BK kvs k v).length<=sizeLine:=by have:=CA kvs k v; lia
  refine wpAny_setItem_heap (hsz:=hz) (tupleKind_room_in1 hu) (G5 I.hok eb) dd fun h' MN hs=>h _ ?_
  obtain ⟨q,es,ep,hq,h2,h3,h4,_,h5⟩:=MN;refine Ip I (by rw [e]; exact True.intro) hs ⟨q,hq⟩ ⟨hl,hd,_,(rel.put k eb rv).keeps fun c ys ec=>?_,q,es,ep,hq,h2,h3,h4,h5⟩;rw [Ae (CN ec e (fun z=>nomatch z))];exact ec
end
section
variable {X:Cx} {pins:List (Addr × Obj)} {σ:St} {H:Hp} {s:Shared} {a:Addr} {kvs:List (Bg × V)} {k:Bg} {u:Value} {A:Around} {E:Value->Shared->Prop}
theorem Ql {Q:Unit->Shared->Prop} (I:Av X pins σ H s) (e:H a=some (.dK kvs)) (ry:AF (kV k) u) (l:(B8 kvs k).isSome=true) (h:∀ s',Av X pins σ (upd H a (.dK (Jo kvs k))) s'->Q () s') :
  wpAny (model X.prog X.w) A (delItem (.ref a) u) Q E s:=by
 obtain ⟨z,hd,vs,rel,dd⟩:=RV I.hok e;refine wpAny_delItem_slot dd.typeIs (by decide) PySem.F.slot_dict_delitem
  (call_meetsIn PySem.F.slot_dict_delitem dd.typeIs PySem.F.entry_dict_delitem (PySem.F.args_dict_delitem_2 _ _) (meets_dict_delitem_pairs (AS X.prog X.w) a (HA ry)) ⟨vs,dd,by rw [<-rel.length]; exact z,by rw [<-(rel.val k).isSome_eq]; exact l,fun h' MN hs=>h _ ?_⟩)
 have he:∃ q,h'.get? a=some q:=let ⟨q,_,_,hq,_⟩:=MN; ⟨q,hq⟩;exact Ip I (by rw [e]; exact True.intro) hs he (Ln (ZS (RU kvs k) z) hd (rel.drop k) MN)
end
def NoSl (i:Expr):Prop:=∀ ov iv,subscripted i false ov iv=operate [ov,iv] (getItem ov iv)
theorem S3 {prog:Program} {w:World} {A:Around} {E:Value->Shared->Prop} {s:Shared} {env:Env} {value slice:Expr} {pos:Pos} {T id:String} {Q:Value->Shared->Prop}
  (hl:typeLookup (.type T) "__getitem__"=pure (some (.builtin id))) (hs:NoSl slice)
  (h:wpAny (model prog w) A (eval value env) (fun o AR=>wpAny (model prog w) A (eval slice env) (fun i EI=>EI.TypeIs o T/\wpAny (model prog w) A (getItem o i) Q E EI) E AR) E s) :
  wpAny (model prog w) A (eval (.Subscript value slice pos) env) Q E s:=by
 refine Subscript_ (wpAny_mono h (fun o AR B4=>wpAny_mono B4 (fun i EI G6=>?_) fun _ _ x=>x) fun _ _ x=>x);obtain ⟨hT,G6⟩:=G6;unfold subscriptTail;refine wpAny_bind ?_;rw [getitemInPython_of_ne hT.not_modules];refine wpAny_bind (wpAny_specialOf hT hl ?_);have fin:wpAny (model prog w) A (subscripted slice false o i) (fun r C8=>wpAny (model prog w) A (letTemporaryGo value o r >>= fun _=>pure r) Q E C8) E EI:=by
  rw [hs o i];exact wpAny_operating (wpAny_mono G6 (fun r C8 HR=>wpAny_bind (wpAny_letTemporaryGo (wpAny_pure HR))) fun _ _ x=>x)
 first
  | exact wpAny_pure (wpAny_bind fin)
  | exact wpAny_bind (wpAny_pure (wpAny_bind fin))
  | exact wpAny_bind fin
theorem M9 {X:Cx} {pins:List (Addr × Obj)} {σ:St} {H:Hp} {s:Shared} {a:Addr} {y:V} {o:Option V} (I:Av X pins σ H s) (g:Cn H a y o):s.TypeIs (.ref a) "dict":=by
 rcases g with ⟨kvs,k,e,_,_⟩ | ⟨kvs,k,b,e,_,_,_⟩
 ·obtain ⟨_,_,vs,_,dd⟩:=Jp I.hok e;exact dd.typeIs
 ·obtain ⟨_,_,xs,_,dd⟩:=Jn I.hok e;exact dd.typeIs
def tDGet (td ty:TE):TE:=fun σ H Q=>td σ H fun x H1=>ty σ H1 fun y H2=>∃ a v,x=.ref a/\Cn H2 a y (some v)/\Q v H2
def tDIn (ty td:TE):TE:=fun σ H Q=>ty σ H fun y H1=>td σ H1 fun x H2=>∃ a o,x=.ref a/\Cn H2 a y o/\Q (.bl o.isSome) H2
def S1 (ty td:TE):TE:=fun σ H Q=>ty σ H fun y H1=>td σ H1 fun x H2=>∃ a o,x=.ref a/\Cn H2 a y o/\Q (.bl (!o.isSome)) H2
def sDPut (td ty tv:TE):TS:=fun D σ H=>tv σ H fun v H1=>td σ H1 fun x H2=>ty σ H2 fun y H3=>∃ a H4,x=.ref a/\FH H3 a y v H4/\D.nx σ H4
def sDDel (td ty:TE):TS:=fun D σ H=>td σ H fun x H1=>ty σ H1 fun y H2=>∃ a kvs k,x=.ref a/\H2 a=some (.dK kvs)/\y=kV k/\(B8 kvs k).isSome=true/\D.nx σ (upd H2 a (.dK (Jo kvs k)))
section
variable {X:Cx} {o i e value:Expr} {pos pos' tpos:Pos} {td ty tv:TE}
theorem Bm (hu:X.A.units + 1 < cLine) (ho:PE X o td) (hi:PE X i ty) (hs:NoSl i):PE X (.Subscript o i pos) (tDGet td ty):=by
 intro pins s σ H Q I h;refine S3 PySem.F.slot_dict_getitem.lookup hs (By (ho (pins:=pins) s σ H _ I h) fun u s1 ⟨x,H1,I1,rx,q1⟩=>By (hi (pins:=pins) s1 σ H1 _ I1 q1) fun iv s2 ⟨y,H2,I2,ry,a,v,ex,g,q2⟩=>?_);subst ex;obtain rfl:u=Value.ref a:=rx;exact ⟨M9 I2 g,Qk hu I2 g ry fun w' s3 I3 Ph=>⟨v,H2,I3,Ph,q2⟩⟩
theorem Vf (hu:X.A.units + 1 < cLine) (hi:PE X i ty) (ho:PE X o td):PC X .In i o (tDIn ty td):=by
 intro pins s σ H Q I h;refine By (hi (pins:=pins) s σ H _ I h) fun iv s1 ⟨y,H1,I1,ry,q1⟩=>By (ho (pins:=pins) s1 σ H1 _ I1 q1) fun u s2 ⟨x,H2,I2,rx,a,ov,ex,g,q2⟩=>?_
 subst ex;obtain rfl:u=Value.ref a:=rx;exact d_in hu I2 g ry fun s3 I3=>⟨.bl ov.isSome,H2,I3,rfl,q2⟩
theorem Pt (hu:X.A.units + 1 < cLine) (hi:PE X i ty) (ho:PE X o td):PC X .NotIn i o (S1 ty td):=by
 intro pins s σ H Q I h;refine By (hi (pins:=pins) s σ H _ I h) fun iv s1 ⟨y,H1,I1,ry,q1⟩=>By (ho (pins:=pins) s1 σ H1 _ I1 q1) fun u s2 ⟨x,H2,I2,rx,a,ov,ex,g,q2⟩=>?_
 subst ex;obtain rfl:u=Value.ref a:=rx;exact Tp hu I2 g ry fun s3 I3=>⟨.bl (!ov.isSome),H2,I3,rfl,q2⟩
theorem DK (hu:X.A.units + 1 < cLine) (ho:PE X o td) (hi:PE X i ty) (hv:PE X value tv) (hs:swapsWith value (some (.Subscript o i pos')) pos.line X.env=pure false) :
  PS X (.Assign [.Subscript o i pos'] value pos) (sDPut td ty tv):=by
 intro pins s σ H D I h;refine wpAny_Assign_Subscript (By (hv (pins:=pins) s σ H _ I h) fun r s1 ⟨v,H1,I1,rv,q1⟩=>By (ho (pins:=pins) s1 σ H1 _ I1 q1) fun u s2 ⟨x,H2,I2,rx,q2⟩=>By (hi (pins:=pins) s2 σ H2 _ I2 q2) fun iv s3 ⟨y,H3,I3,ry,a,H4,ex,g,q3⟩=>?_) hs;subst ex;obtain rfl:u=Value.ref a:=rx;exact Qj hu I3 g ry rv fun s4 I4=>⟨σ,H4,I4,q3⟩
theorem SF (ho:PE X o td) (hi:PE X i ty):PS X (.Delete [.Subscript o i tpos] pos) (sDDel td ty):=by
 intro pins s σ H D I h;refine wpAny_Delete (wpAny_deleteEach_cons (wpAny_delete_Subscript (By (ho (pins:=pins) s σ H _ I h) fun u s1 ⟨x,H1,I1,rx,q1⟩=>By (hi (pins:=pins) s1 σ H1 _ I1 q1) fun iv s2 ⟨y,H2,I2,ry,a,kvs,k,ex,e,ey,l,q2⟩=>?_)));subst ex ey;obtain rfl:u=Value.ref a:=rx;exact Ql I2 e ry l fun s3 I3=>wpAny_deleteEach_nil ⟨σ,_,I3,q2⟩
end
theorem Jq {P:Program} {w:World} {H:Hp} (h:Heap) (hb:sysModules < h.objs.size):AO P w H (h.push { cls:=.type "dict",data:=.dict #[] }) h.objs.size (.dK []):=
 ⟨ZQ _,beq_eq_false_iff_ne.mpr (Ne.symm (Z8 hb)),[],.nil,Heap.DictOf.new h⟩
theorem RT {P:Program} {w:World} {H:Hp} (h:Heap) (hb:sysModules < h.objs.size):AO P w H (h.push { cls:=.type "dict",data:=.dict #[] }) h.objs.size (.dT []):=
 ⟨ZQ _,beq_eq_false_iff_ne.mpr (Ne.symm (Z8 hb)),[],.nil,_,#[],0,Z5 _ rfl,⟨rfl,rfl,rfl⟩,rfl,rfl,cH⟩
def UE:TE:=fun _ H Q=>∀ p,H p=none->Q (.ref p) (upd H p (.dK []))
def UD:TE:=fun _ H Q=>∀ p,H p=none->Q (.ref p) (upd H p (.dT []))
section
variable {X:Cx} {pos:Pos}
theorem Dw:PE X (.Dict [] [] pos) UE:=fun pins s σ H Q I h=>
 wpAny_Dict_empty ⟨.ref s.heap.objs.size,_,I.laid (a:=s.heap.objs.size) (o:=.dK []) (t':=s.toks) (fun _ _ q=>Zu _ q) (Z4 _) (Jq s.heap I.big),rfl,h _ (I.hok.fresh (Z4 _))⟩
theorem Rn:PE X (.Dict [] [] pos) UD:=fun pins s σ H Q I h=>
 wpAny_Dict_empty ⟨.ref s.heap.objs.size,_,I.laid (a:=s.heap.objs.size) (o:=.dT []) (t':=s.toks) (fun _ _ q=>Zu _ q) (Z4 _) (RT s.heap I.big),rfl,h _ (I.hok.fresh (Z4 _))⟩
end
def IZ (kvs more:List (Bg × V)):List (Bg × V):=more.foldl (fun acc kv=>BK acc kv.1 kv.2) kvs
structure M2 (X:Cx) (o:Expr) (m:Str) (apos:Pos) (e f:Expr) (DU:Pos):Prop where
 base:attributeBase o m X.env (eval o X.env)=eval o X.env
 few:((backTo DU (starEach [e,f] X.env)).all (fun x=>!x.1) && (backToKw DU (keywordEach [] X.env)).all (fun x=>x.1.isSome)
  && decide (([e,f]:List Expr).length + ([]:List Keyword).length + (if ([]:List Keyword).isEmpty then 0 else 1) < 30))=true
 line:(apos.endLine == DU.line)=true
 trees:backTo DU (starEach [e,f] X.env)=[(false,eval e X.env),(false,eval f X.env)]
def IsD (H:Hp) (a:Addr):Prop:=(∃ kvs,Rd H a (.dK kvs))\/∃ kvs,Rd H a (.dT kvs)
theorem Vu {X:Cx} {pins:List (Addr × Obj)} {σ:St} {H:Hp} {s:Shared} {a:Addr} (I:Av X pins σ H s) (d:IsD H a) :
  s.TypeIs (.ref a) "dict"/\(∀ b,Value.ref a=.ref b->∃ ob,s.heap.get? b=some ob/\ob.dict=none)/\(a == sysModules)=false:=by
 rcases d with ⟨kvs,e⟩ | ⟨kvs,e⟩
 ·obtain ⟨_,hd,vs,_,dd⟩:=Jp I.hok e;refine ⟨dd.typeIs,fun b q=>?_,hd⟩;cases q
  obtain ⟨ob,_,_,h1,h2,_⟩:=dd;exact ⟨ob,h1,h2.2.1⟩
 ·obtain ⟨_,hd,xs,_,dd⟩:=Jn I.hok e;refine ⟨dd.typeIs,fun b q=>?_,hd⟩;cases q
  obtain ⟨ob,_,_,h1,h2,_⟩:=dd;exact ⟨ob,h1,h2.2.1⟩
section
variable {X:Cx} {pins:List (Addr × Obj)} {σ:St} {H:Hp} {s:Shared} {a:Addr} {y d:V} {u r:Value} {o:Option V} {A:Around} {E:Value->Shared->Prop}
theorem VB {Q:Value->Shared->Prop} (hu:A.units + 1 < cLine) (I:Av X pins σ H s) (g:Cn H a y o) (ry:AF y u) (rd:AF d r) (h:∀ w' s',Av X pins σ H s'->AF (o.getD d) w'->Q w' s') :
  wpAny (model X.prog X.w) A (call (.builtin "dict.get") [.ref a,u,r]) Q E s:=by
 rcases g with ⟨kvs,k,e,ey,l⟩ | ⟨kvs,k,b,e,ey,eb,l⟩
 ·subst ey;obtain ⟨z,hd,vs,rel,dd⟩:=Jp I.hok e;refine call_meetsIn PySem.F.slot_dict_get dd.typeIs PySem.F.entry_dict_get (PySem.F.args_dict_get_3 _ _ _) (meets_dict_get_default (AS X.prog X.w) a (HA ry) hd r) ⟨_,dd.mapOf,h _ _ (I.tok _) ?_⟩;rw [l];exact (rel.val k).getD rd
 ·subst ey;cases (show u=Value.ref b from ry)
  obtain ⟨z,hd,xs,rel,dd⟩:=Jn I.hok e;refine call_meetsIn PySem.F.slot_dict_get dd.typeIs PySem.F.entry_dict_get (PySem.F.args_dict_get_3 _ _ _) (meetsH_dict_get_default (tupleKind (AS X.prog X.w)) a b hd r) ⟨tupleKind_room_in1 hu,k,xs,G5 I.hok eb,dd,h _ _ (I.tok _) ?_⟩;rw [l];exact (rel.val k).getD rd
end
def UG (td ty tx:TE):TE:=fun σ H Q=>td σ H fun x H1=>∃ a,x=.ref a/\IsD H1 a/\ty σ H1 fun y H2=>tx σ H2 fun z H3=>∃ o,Cn H3 a y o/\Q (o.getD z) H3
section
variable {X:Cx} {o e f:Expr} {apos DU:Pos} {td ty tx:TE}
theorem Ro (hu:X.A.units + 1 < cLine) (ho:PE X o td) (he:PE X e ty) (hf:PE X f tx) (m:M2 X o "get" apos e f DU):PE X (.Call (.Attribute o "get" apos) [e,f] [] DU) (UG td ty tx):=by
 intro pins s σ H Q I h;refine wpAny_Call_method m.base m.few m.line PySem.F.plainAttrs_dict PySem.F.slot_dict_get PySem.F.type_dict_get (By (ho (pins:=pins) s σ H _ I h) fun u s1 ⟨x,H1,I1,rx,a,ex,d,q1⟩=>?_);subst ex;obtain rfl:u=Value.ref a:=rx;obtain ⟨t1,t2,_⟩:=Vu I1 d;exists t1,t2;rw [m.trees];refine Calls.callWith_builtin rfl (Calls.evalArgs_plain (Calls.spliced_cons (By (he (pins:=pins) s1 σ H1 _ I1 q1) fun iv s2 ⟨y,H2,I2,ry,q2⟩=>
  Calls.spliced_cons (By (hf (pins:=pins) s2 σ H2 _ I2 q2) fun fv s3 ⟨z,H3,I3,rz,ov,g,q3⟩=>Calls.spliced_nil ?_))))
 exact VB hu I3 g ry rz fun w' s4 I4 Ph=>⟨_,H3,I4,Ph,q3⟩
end
section
variable {X:Cx} {pins:List (Addr × Obj)} {σ:St} {H:Hp} {s:Shared} {a:Addr} {kvs:List (Bg × V)} {A:Around} {E:Value->Shared->Prop}
end
section
variable {X:Cx} {pins:List (Addr × Obj)} {σ:St} {H:Hp} {s:Shared} {a:Addr} {y:V} {u:Value} {A:Around} {E:Value->Shared->Prop}
end
end L2
namespace Att
open PySem PySem.W PySem.Calls PyProof.Rows
theorem HQ {P:Params} {h:Heap}:∀ (ns:List Int) (vs:List Value),WellAll P h vs (ns.map WData.int)->IntsAre vs ns:=by
 intro ns;induction ns with
 | nil=>
  intro vs w;rw [cu] at w;cases w
  exact .nil
 | cons n ns ih=>
  intro vs w;rw [ZI] at w;cases w with
  | cons a b=>
   cases a
   exact .cons _ _ (ih _ b)
theorem Pg {l:OpenLaw} {n:Nat} (hn:l.most=some n) {P:Params} {h:Heap} {args:List WData} {vals:List Value}
  (hpre:l.row.toRowW.claim.pre args=true) (hwl:WellAll P h vals args) :
  ∃ a vs ns,vals=[Value.ref a]/\args=[WData.list (ns.map WData.int)]/\h.get? a=some { cls:=.type "list",data:=.seq vs.toArray }/\IntsAre vs ns/\ns.length<=n:=by
 have hsh:WShape.hasAll [] args [.list .int]=true:=(pre_splitW hpre).1;have hc:l.pre.holds [] { args:=args } = true:=(pre_splitW hpre).2;obtain ⟨d,r,rfl,h1,h2⟩:=hasAllW_cons hsh;obtain rfl:=hasAllW_nil h2;obtain ⟨xs,rfl,h3⟩:=hasW_list h1;obtain ⟨ns,rfl⟩:=items_int h3;have hlen:ns.length<=n:=by
  unfold OpenLaw.pre at hc;have h4:(WTm.not (.lt (.lit (.int (n:Int))) (.len (.arg 0)))).holds [] { args:=[.list (ns.map .int)] } = true:=by
   have h4:=(holds_andW hc).1;rw [hn] at h4;exact h4
  have h5:=condW_of h4 (w_not (w_lt w_lit (w_len_list (w_arg rfl))));rw [Zv] at h5;refine Nat.le_of_not_lt fun q=>?_
  have q':(n:Int) < ((ns.length:Nat):Int):=by lia
  first
   | (rw [decide_eq_true q'] at h5; exact absurd h5 (by decide))
   | (simp at h5; lia)
 cases hwl with
 | cons w1 w2=>
  cases w2
  cases w1 with
  | list ho hall=>exact ⟨_,_,ns,rfl,rfl,ho,HQ ns _ hall,hlen⟩
theorem Pp (l:OpenLaw) (args:List WData):l.row.toRowW.claim.post args (.bool true) args=true:=
 postW_of (r:=l.row.toRowW) (X:=(true == true))
  (show WShape.has [] (.bool true) .bool=true by first | rfl | decide | simp [WShape.has,WShape.arms,WShape.armsAll])
  (show (WTm.eq .res (.lit (.bool true))).value [] { args:=args,res:=some (.bool true),after:=args } = some (.bool (true == true)) from w_eq_bool (w_res rfl) w_lit) rfl
theorem attach_call {l:OpenLaw} {n:Nat} {q:Program} {loose:List Str} {XP:(Str->Option Value)->Heap->Prop} {YP:World->Heap->Prop} {d:DefRec}
  (hn:l.most=some n) (hdf:d.params.defaults=[])
  (call:∀ (w:World) (s₀ AR:Shared) (mg mb:Str->Option Value) (fa:Addr) (o:Obj) (pm cd doc:Value) (a:Addr) (vs:List Value) (ns:List Int),
   Ground q loose [] XP w s₀ mg mb AR.heap->YP w AR.heap ->
   AR.heap.get? fa=some o->o.data=.func (docDef d.name d.params d.body d.scope pm cd doc)->AR.heap.CodeRec cd d.name->mg d.name=some (.ref fa) ->
   AR.heap.get? a=some { cls:=.type "list",data:=.seq vs.toArray }->IntsAre vs ns->ns.length<=n->AR.gens=#[] ->
   codeAny (model l.prog w) callerA (.call (.ref fa) ⟨[.ref a],[]⟩) (fun r s'=>r=.ok (.ret (.bool true))/\OldK AR.heap s'.heap/\s'.os=AR.os/\AllBare s'.gens) AR) :
  WalkO q loose XP YP l.row.toRowW d [] (fun f vs=>PySem.call f vs):=by
 intro w s₀ AR mg mb G Y fa o pm cd doc dV kV ho hd hcd hD hmg hg args vals as hpre hlay hrd hwl hlo;obtain rfl:dV=.none:=Dflts.none hD hdf;obtain rfl:kV=.none:=Dflts.noKw hD;obtain ⟨a,vs,ns,rfl,rfl,hobj,hints,hlen⟩:=Pg hn hpre hwl;refine enter_call (codeAny_mono (call w s₀ AR mg mb fa o pm cd doc a vs ns G Y ho (fd_plain hd) hcd hmg hobj hints hlen hg) fun r s' hq=>?_);obtain ⟨rfl,h2,h3,h4⟩:=hq;exact ⟨.inl ⟨.bool true,.bool true,[],rfl,fun _=>rfl,.bool true,Pp l _,fun _=>⟨List.Pairwise.nil,fun _ hm=>(nomatch hm)⟩⟩,h2,h3,h4⟩
section
variable {prog:Program} {w:World} {A:Around} {E:Value->Shared->Prop} {s:Shared} {K:Frag}
end
end Att
namespace L2
open PySem PySem.Spec PyProof.Rows
theorem JV:∀ {vs:List Value} {ns:List Int},IntsAre vs ns->A9 (ns.map V.int) vs
 | _,_,.nil=>.nil
 | _,_,.cons n t h=>.cons ⟨t,rfl⟩ (JV h)
def Tw (H:Hp):Prop:=∀ b,H b=none\/∃ o xs,H b=some (.frz o (.lst xs))
theorem R4 {P:Program} {w:World} {K:Zw} {mg mb:Str->Option Value} {CX:Sj} {k:Nat} {fa a:Addr} {fd:FuncData} {x:Str} {sp:Sp} {AR:Shared} {vs:List Value} {ns:List Int}
  (KX:K.In AR.heap) (hns:AR.heap.Ns mainGlobals mg) (hb:AR.heap.Ns builtinsNs mb) (hbb:∀ x:Str,x ≠ "__name__"->mb x=bootBuiltins x) (hlim:AR.heap.NoLimit) (hg:AR.gens=#[])
  (ha:AR.heap.get? a=some { cls:=.type "list",data:=.seq vs.toArray }) (hi:IntsAre vs ns) (hl:ns.length<=sizeLine) (hr:DX k callerA)
  (F:∀ base:Heap,K.In base->base.Ns mainGlobals mg->A7 P w K mg base CX k fa fd [x] sp) (hbind:∀ (s:Shared) (u:Value),BindsTo s fd ⟨[u],[]⟩ [(x,u)])
  (hsp:∀ H:Hp,Tw H->AX K H a (ns.map V.int)->sp [.ref a] H (fun v _=>v=.bl true) fun _ _ _=>False)
  (hCX:∀ H e s',CX [] H AR (fun _ _ _=>False) e s'->False) :
  codeAny (model P w) callerA (.call (.ref fa) ⟨[.ref a],[]⟩) (fun r s'=>r=.ok (.ret (.bool true))/\OldK AR.heap s'.heap/\s'.os=AR.os/\AllBare s'.gens) AR:=by
 have rv:=JV hi;have lenV:=hi.length;have core:∀ H:Hp,Tw H->AX K H a (ns.map V.int)->FJ P w H AR.heap->(∀ b,H b ≠ none->b=a)->(H a ≠ none->K.lookup a=none) ->
   codeAny (model P w) callerA (.call (.ref fa) ⟨[.ref a],[]⟩) (fun r s'=>r=.ok (.ret (.bool true))/\OldK AR.heap s'.heap/\s'.os=AR.os/\AllBare s'.gens) AR:=by
  intro H hO hS hok hA hK;have base_of:∀ {b:Addr} {o:Obj},AR.heap.get? b=some o->H b=none->(Lh AR.heap H).get? b=some o:=fun e n=>RI e n
  have noA:∀ {b:Addr} {o:Obj} {es:Array DictEntry} {ep:Nat},AR.heap.get? b=some o->o.data=.dict es ep->H b=none:=fun {b o es ep} e d=>by
   cases q:H b with
   | none=>rfl
   | some u=>
    have e':b=a:=hA b (by rw [q]; simp);subst e';rw [ha] at e; cases e;have d':Data.seq vs.toArray _=Data.dict es ep:=d;cases d'
  have nsK:∀ {b:Addr} {m:Str->Option Value},AR.heap.Ns b m->(Lh AR.heap H).Ns b m:=fun {b m} ⟨o,es,ep,e,d,r⟩=>⟨o,es,ep,base_of e (noA e d),d,r⟩
  have hKb:K.In (Lh AR.heap H):=fun b o e=>base_of (KX b o e) (by
   cases q:H b with
   | none=>rfl
   | some u=>
    have e':b=a:=hA b (by rw [q]; simp);subst e';rw [hK (by rw [q]; simp)] at e; cases e)
  have hM:Mod K mg (Lh AR.heap H):=⟨hKb,nsK hns,⟨mb,nsK hb,hbb⟩,let ⟨mc,h1,h2⟩:=hlim; ⟨mc,nsK h1,h2⟩⟩
  have e0:T5 P w K mg (Lh AR.heap H) callerA [] AR H:=⟨rfl,hM,fun b o e=>SQ e,Nat.le_of_eq (Qa _ _),trivial,fun b hb=>absurd (show b ∈ ([]:List Addr) from hb) (by simp),hok,.of_eq hg⟩
  refine codeAny_mono ((F _ hKb (nsK hns)).run callerA [] AR H ⟨[.ref a],[]⟩ [.ref a] [.ref a] _ _ hr e0 (hbind AR (.ref a)) (.cons rfl .nil) (hsp H hO hS)) fun r s' h=>?_
  cases r with
  | error e=>exact (hCX H e s' h).elim
  | ok fl=>
   cases fl with
   | next=>exact False.elim h
   | brk=>exact False.elim h
   | cont=>exact False.elim h
   | ret u=>
    obtain ⟨v,H',os,bare,un,YW,r',q⟩:=h;have q':v=.bl true:=q;subst q';obtain rfl:u=Value.bool true:=r';refine ⟨rfl,OldK.of_keep fun b o e=>?_,os,bare⟩;cases q:H b with
    | none=>exact un.keep b o e q (by intro z; exact absurd (show b ∈ ([]:List Addr) from z) (by simp)) (by simp)
    | some u=>
     rcases hO b with z | ⟨ob,xs,z⟩
     ·rw [q] at z; cases z
     ·have z2:=un.frzs b ob _ z;obtain ⟨e1,_⟩:=hok b _ z;obtain ⟨e2,_⟩:=YW b _ z2;rw [e] at e1; cases e1;exact e2
 cases hk:K.lookup a with
 | some o=>
  have e:=KX a o hk;rw [ha] at e;cases e
  refine core (fun _=>none) (fun _=>.inl rfl) (.inr ⟨_,vs.toArray,_,hk,rfl,rfl,rfl,by rw [ZA,lenV]; exact hl,by simpa using rv⟩) (fun b u z=>by have z':(none:Option HO)=some u:=z; cases z') (fun b z=>absurd rfl z) fun z=>absurd rfl z
 | none=>
  refine core (fun b=>if b=a then some (.frz { cls:=.type "list",data:=.seq vs.toArray } (.lst (ns.map V.int))) else none) (fun b=>?_) (.inl (.inr ⟨{ cls:=.type "list",data:=.seq vs.toArray },if_pos rfl⟩)) (fun b u z=>?_) (fun b z=>?_) fun _=>hk
  ·by_cases hb:b=a
   ·exact .inr ⟨_,_,if_pos hb⟩
   ·exact .inl (if_neg hb)
  ·by_cases hb:b=a
   ·have z':=(if_pos hb).symm.trans z;cases z'
    subst hb;exact ⟨ha,by rw [Zv]; exact hl,vs,_,rv,ha⟩
   ·have z':=(if_neg hb).symm.trans z;cases z'
  ·by_cases hb:b=a
   ·exact hb
   ·exact absurd (if_neg hb) z
theorem walk_of {l:cz} {n k:Nat} {q:Program} {loose:List Str} {XP:(Str->Option Value)->Heap->Prop} {YP:World->Heap->Prop} {d:DefRec} {K:Params->Zw} {CX:World->Sj} {sp:World->Sp} {x:Str}
  (hn:l.most=some n) (YY:n<=sizeLine) (hdf:d.params.defaults=[]) (hr:DX k callerA)
  (hY:∀ (w:World) (h:Heap),YP w h->(K w.params).In h)
  (F:∀ (w:World) (mg:Str->Option Value) (fa:Addr) (h:Heap),(K w.params).In h->h.Ns mainGlobals mg->mg d.name=some (.ref fa) ->
   ∃ fd:FuncData,(∀ (s:Shared) (u:Value),BindsTo s fd ⟨[u],[]⟩ [(x,u)]) /\
    ∀ base:Heap,(K w.params).In base->base.Ns mainGlobals mg->A7 l.prog w (K w.params) mg base (CX w) k fa fd [x] (sp w))
  (hsp:∀ (w:World) (H:Hp) (a:Addr) (ns:List Int),ns.length<=n->Tw H->AX (K w.params) H a (ns.map V.int)->sp w [.ref a] H (fun v _=>v=.bl true) fun _ _ _=>False)
  (hCX:∀ (w:World) (H:Hp) (s:Shared) (e:Value) (s':Shared),CX w [] H s (fun _ _ _=>False) e s'->False) :
  dP q loose XP YP l.row.toRowW d [] (fun f vs=>PySem.call f vs):=by
 refine Att.attach_call hn hdf fun w s₀ AR mg mb fa o pm cd doc a vs ns G Y ho hd hcd hmg hobj hints hlen hg=>?_
 have KX:=hY w _ Y;obtain ⟨fd,hb,hF⟩:=F w mg fa _ KX G.T.g hmg;exact R4 KX G.T.g G.T.b G.T.builtins G.T.nolimit hg hobj hints (ZS hlen YY) hr hF hb (fun H hO hS=>hsp w H a ns hlen hO hS) fun H e s'=>hCX w H AR e s'
def E9 (s:Stmt):Arguments:=match s with
 | .FunctionDef _ a _ _ _ _ _ _ _ _=>a
 | _=>{ posonlyargs:=[],args:=[],vararg:=none,kwonlyargs:=[],kw_defaults:=[],kwarg:=none,defaults:=[] }
def Cu (s:Stmt):List Stmt:=match s with
 | .FunctionDef _ _ b _ _ _ _ _ _ _=>b
 | _=>[]
def An (s:Stmt):Scope:=match s with
 | .FunctionDef _ _ _ _ _ _ sc _ _ _=>sc
 | _=>{ kind:=.function,names:=[],isGenerator:=false,isCoroutine:=false }
abbrev Bw:Sj:=fun _ _ _ _ _ _=>False
abbrev E0:XK:=fun _ _ _=>False
theorem Az {X:Cx}:NO Bw X E0:=fun _ _ _ _ _ _ _ h=>h.elim
structure DQ (K:Zw) (x qual:Str) (st:Stmt) (f:Addr) (fd:FuncData):Prop where
 ex:∃ (oc:Value) (od:Option Addr) (kV doc pm:Value) (an:Option Addr) (cdv ct:Value) (osl:Array (Option Value)),
  fd=aO x qual (E9 st) (Cu st) (An st) .none kV doc pm an cdv ct/\K.lookup f=some ⟨oc,od,.func fd,osl⟩/\bN K cdv qual=true
 kp:bL K (.ref f)=true
section
variable {P:Program} {w:World} {K:Zw} {mg:Str->Option Value} {base:Heap}
theorem DQ.ok {x qual:Str} {st:Stmt} {f:Addr} {fd:FuncData} {N ps:List Str} {k:Nat} {sp:Sp} (F:DQ K x qual st f fd) (S:A6 N ps (An st)) (len:∀ vs H Q E,sp vs H Q E->vs.length=ps.length)
  (hbody:∀ (cdv:Value) (A:Around) (outer:List Env) (s:Shared) (H:Hp) (vs:List V) (Q:VK) (E:XK),DX k (A.deeper (envOfC qual (An st) s.heap.objs.size f cdv))->sp vs H Q E ->
   ∃ t,MP (Lo Bw P w K mg base N qual (An st) f cdv A outer s H E).nox (Cu st) t/\t { nx:=fun _ H'=>Q .non H',rt:=Q } (start N vs) H):A7 P w K mg base Bw (k + 1) f fd ps sp:=by
 obtain ⟨oc,od,kV,doc,pm,an,cdv,ct,osl,rfl,lk,hcd⟩:=F.ex;refine fn_of lk hcd S len fun A outer s H vs Q E hr hsp=>?_
 obtain ⟨t,h,q⟩:=hbody cdv A outer s H vs Q E hr hsp;exact ⟨t,h.nox,q⟩
theorem DQ.binds {x qual:Str} {st:Stmt} {f:Addr} {fd:FuncData} {ps:List Str} (F:DQ K x qual st f fd)
  (h:∀ (kV doc pm:Value) (an:Option Addr) (cdv ct:Value) (us:List Value),us.length=ps.length->bindArgs (aO x qual (E9 st) (Cu st) (An st) .none kV doc pm an cdv ct) ⟨us,[]⟩=pure (ps.zip us)):HI K fd ps []:=by
 obtain ⟨oc,od,kV,doc,pm,an,cdv,ct,osl,rfl,lk,hcd⟩:=F.ex;exact .all (h kV doc pm an cdv ct)
theorem V4 {x qual:Str} {st:Stmt} {f:Addr} {oc:Value} {od an:Option Addr} {osl:Array (Option Value)} {kV doc pm cdv ct:Value} (l:K.lookup f=some ⟨oc,od,.func (aO x qual (E9 st) (Cu st) (An st) .none kV doc pm an cdv ct),osl⟩)
  (c:bN K cdv qual=true) (k:bL K (.ref f)=true):DQ K x qual st f (aO x qual (E9 st) (Cu st) (An st) .none kV doc pm an cdv ct):=⟨⟨oc,od,kV,doc,pm,an,cdv,ct,osl,rfl,l,c⟩,k⟩
end
theorem CO {A:Around} {k:Nat} (hr:DX k A):A.units + 1 < cLine:=Nat.lt_of_le_of_lt (Nat.add_le_add_left (by decide:1<=64) _) hr.units
section
variable {X:Cx}
theorem pv (i:Nat) {x:Str} {pos:Pos} (hN:X.N[i]? = some x:=by rfl) (hv:Vis X.env.scope x:=by first | exact Or.inl rfl | exact Or.inr (Or.inl rfl) | exact Or.inr (Or.inr rfl)) (hd:(x == ("__debug__":Str))=false:=by decide)
  (hcd:(x == ("__classdict__":Str))=false:=by decide):PE X (.Name x pos) (QD i):=Vc hN hv hd hcd
end
theorem BO {A B:Prop} (h:B):if false=true then A else B:=by
 rw [if_neg ZD];exact h
theorem CK {A B:Prop} (h:A):if true=true then A else B:=by
 rw [if_pos rfl];exact h
theorem DT {c A B:Prop} [Decidable c] (h1:c->A) (h2:¬ c->B):if c then A else B:=by
 by_cases h:c
 ·rw [if_pos h];exact h1 h
 ·rw [if_neg h];exact h2 h
def Ao (H H':Hp):Prop:=∀ b o,H b=some o->H' b=some o
theorem Ao.refl (H:Hp):Ao H H:=fun _ _ h=>h
theorem Ao.trans {H H1 H2:Hp} (a:Ao H H1) (b:Ao H1 H2):Ao H H2:=fun c o h=>b c o (a c o h)
theorem Ao.free {H H':Hp} (e:Ao H H') {l:Addr} (h:H' l=cT):H l=cT:=by
 cases q:H l with
 | none=>rfl
 | some o=>
  rw [e l o q] at h;cases h
section
variable {κ:Type} [DecidableEq κ]
theorem QB {kvs:List (κ × V)} {k:κ} (h:B8 kvs k=none):¬ k ∈ kvs.map (·.1):=by
 intro m;obtain ⟨p,hp,e⟩:=Z6.mp m;have q:(kvs.any fun kv=>decide (kv.1=k))=true:=bp.mpr ⟨p,hp,decide_eq_true e⟩;rw [Co,h] at q;exact absurd q (by simp)
end
abbrev A1 (X:Cx) (scope:Scope) (cl:List (Str × Addr)) (N:List Str) (s2:Shared) (H:Hp) (C:Addr) (fp:List Addr):Cx where
 prog:=X.prog
 w:=X.w
 K:=X.K
 mg:=X.mg
 base:=X.base
 A:=X.A
 N:=N
 s₀:=s2
 H₀:=H
 env:=compEnvC scope cl C X.env
 outer:=X.stack
 stack:=X.stack
 ex:=fp
 fn:=fun _=>false
 calm:=X.calm
 pn:=[]
 xe:=fun _ _=>False
structure AI (X:Cx) (scope:Scope) (cl:List (Str × Addr)):Prop where
 clos:closureFor scope X.env=pure cl
 cell:∀ y ∈ scope.names,y.2 ≠ .cell
 kind:scope.kind=.function
 names:∀ y ∈ scope.names,y.2=.local->scope.names.lookup y.1=some .local
 sub:∀ x c,cl.lookup x=some c->X.env.cells.lookup x=some c
 has:∀ x,((relabel scope X.env).names.lookup x=some .cell\/(relabel scope X.env).names.lookup x=some .free)->∃ c,cl.lookup x=some c
def Bd (X:Cx) (cl:List (Str × Addr)) (scope:Scope) (N:List Str) (σ Ay:St):Prop:=
 Ay.length=N.length/\∀ (i:Nat) (x:Str) (v:V),N[i]? = some x->Ay[i]? = some (some v) ->
  (∃ j:Nat,X.N[j]? = some x/\σ[j]? = some (some v))/\(X.env.kindOf x=some .cell\/X.env.kindOf x=some .free) /\
   ((relabel scope X.env).names.lookup x=some .cell\/(relabel scope X.env).names.lookup x=some .free)
theorem Bd.none (X:Cx) (cl:List (Str × Addr)) (scope:Scope) (N:List Str) (σ:St):Bd X cl scope N σ (N.map fun _=>cT):=by
 refine ⟨by simp,fun i x v h1 h2=>?_⟩;rw [Z0,h1] at h2;cases h2
section
variable {X:Cx} {pins:List (Addr × Obj)} {σ Ay:St} {H H':Hp} {s2 s':Shared} {scope:Scope} {cl:List (Str × Addr)} {N:List Str} {fp:List Addr} {C D:Addr} {B4 h':Heap} {t':Nat}
theorem Ju (I:Av X pins σ H s2) (hf:∀ b ∈ fp,Fh X pins H b) (hfo:∀ b ∈ fp,∃ o,s2.heap.get? b=some o) (co:AI X scope cl) (hσ:Bd X cl scope N σ Ay)
  (k:∀ b o,s2.heap.get? b=some o->B4.get? b=some o) (hD:s2.heap.objs.size<=D) (hC:s2.heap.objs.size<=C) (hDC:C ≠ D)
  (new:B4.get? D=some { cls:=.type "list",data:=.seq ([]:List Value).toArray 0 }\/∃ n,B4.get? D=some { cls:=.type "list",data:=.seq ([]:List Value).toArray n }) {m:Str->Option Value} (hn:B4.Ns C m) :
  Av (A1 X scope cl N s2 H C fp) [] Ay (upd H D (.lst [])) { s2 with heap:=B4,toks:=t' }:=by
 have fD:H D=none:=I.hok.fresh hD;have fC:H C=none:=I.hok.fresh hC;have newO:AO X.prog X.w (upd H D (.lst [])) B4 D (.lst []):=by
  exists ZQ _,[]
  rcases new with e | ⟨n,e⟩
  ·exact ⟨0,.nil,e⟩
  ·exact ⟨n,.nil,e⟩
 have lts:∀ b ∈ fp,b < s2.heap.objs.size:=fun b hb=>let ⟨_,e⟩:=hfo b hb; Z1 e
 have cells_lt:∀ x c,cl.lookup x=some c->c < s2.heap.objs.size:=fun x c e=>by
  obtain ⟨v,q⟩:=I.cell x c (co.sub x c e);exact q.lt
 have ok:Cx.Ok (A1 X scope cl N s2 H C fp):=by
  refine ⟨I.ok.mod,?_,I.ok.glob,I.ok.blt,hC,?_,?_,?_,I.ok.hd,I.ok.frames,.inl rfl,?_,I.bs,ZS I.ok.bsz I.sz,?_,?_,I.stack,I.stkFree⟩
  ·exact co.kind
  ·exact fun x y c e1 e2=>I.ok.inj x y c (co.sub x c e1) (co.sub y c e2)
  ·exact fun x h=>co.has x h
  ·exact fun x c h _=>by cases h
  ·intro b hb;refine ⟨fun e=>?_,fun x c e=>(hf b hb).2.2.2.2.1 x c (co.sub x c e)⟩;have z:=lts b hb;exact absurd (ZF z hC) (by rw [show b=C from e]; exact au _)
  ·intro b o e hb;have Io:b ∈ fp:=hb;rcases (hf b Io).2.2.2.1 with z | z
   ·exact I.ok.noex b o e z
   ·exact absurd (ZF (Z1 e) (ZS I.ok.bsz z)) (au _)
  ·intro b hb hz;have Io:b ∈ fp:=hb;obtain ⟨_,f1,f2,_⟩:=hf b Io;rcases Zz.mp (I.stkSub b hz) with e | e
   ·exact f1 e
   ·exact f2 e
 refine ⟨ok,rfl,I.bare,Un.laid k hD fD,?_,?_,?_,?_,?_,I.hok.laid k hD newO,hσ.1⟩
 ·refine ⟨m,hn,fun i x v e1 e2 _=>?_⟩;obtain ⟨⟨j,j1,j2⟩,kk,kr⟩:=hσ.2 i x v e1 e2;obtain ⟨mo,_,hl⟩:=I.loc;obtain ⟨u,r,l⟩:=hl j x v j1 j2 (by
   rcases kk with z | z
   ·exact .inr (.inl z)
   ·exact .inr (.inr z))
  refine ⟨u,r,.inr ⟨kr,?_⟩⟩;obtain ⟨c,hc⟩:=co.has x kr;rcases l with ⟨z,_⟩ | ⟨_,c',MK,hcell⟩
  ·rcases kk with q | q
   ·rw [z] at q; cases q
   ·rw [z] at q; cases q
  ·have e3:=co.sub x c hc;rw [MK] at e3;have e4:c'=c:=ZJ.inj e3;subst e4;obtain ⟨o,ho,hd⟩:=hcell;exact ⟨c',hc,o,k _ o ho,hd⟩
 ·intro x c e;obtain ⟨v,o,ho,hd⟩:=I.cell x c (co.sub x c e);exact ⟨v,o,k _ o ho,hd⟩
 ·show upd H D (.lst []) C=none
  rw [Ae hDC];exact fC
 ·intro x c e;rw [Ae (Z8 (ZF (cells_lt x c e) hD))];exact I.freeC x c (co.sub x c e)
 ·intro p hp;cases hp
theorem Gg {pl:List (Addr × Obj)} (I:Av X pins σ H s2) (hf:∀ b ∈ fp,Fh X pins H b) (hC:s2.heap.objs.size<=C) (I2:Av (A1 X scope cl N s2 H C fp) pl Ay H' s')
  (hs:Heap.SameBut C s'.heap h'):Av X pins σ H' { s' with heap:=h' }:=by
 have nC:∀ b o,s2.heap.get? b=some o->b ≠ C:=fun b o e=>Z8 (ZF (Z1 e) hC)
 have u:=I2.base;refine I.call' (s':={ s' with heap:=h' }) (ch:=fp) I2.os ⟨?_,?_,u.free,?_,u.tups,u.frzs,u.tbls⟩ ?_ I2.bare fun b hb=>?_
 ·exact fun b o e n h1 h2=>(hs.2 b (nC b o e)).trans (u.keep b o e n h1 h2)
 ·intro b o e n h1 h2;obtain ⟨sl,q⟩:=u.slot b o e n h1 h2;exact ⟨sl,(hs.2 b (nC b o e)).trans q⟩
 ·intro b o e h2;obtain ⟨o',q⟩:=u.there b o e h2;exact ⟨o',(hs.2 b (nC b o e)).trans q⟩
 ·intro b ob e;have hfree:H' C=none:=I2.free;refine (I2.hok b ob e).stay (fun c w' hc q=>(hs.2 c ?_).trans q) (fun _ q=>q) fun _ _ q=>q
  rintro rfl;rcases hc with rfl | hc
  ·rw [hfree] at e; cases e
  ·rw [hfree] at hc; cases hc
 ·obtain ⟨_,f1,_,f3,f4,f5⟩:=hf b hb;exact ⟨f3,f1,f4,f5⟩
end
section
variable {prog:Program} {w:World} {A:Around} {R:Result->Shared->Prop} {s:Shared}
theorem CD {elt target iter:Expr} {ifs:List Expr} {scope:Scope} {pos:Pos} {it acc:Value} {env:Env} (I:Nat->Shared->Prop)
  (turn:∀ n s,I n s->wpAny (model prog w) A (pyNext it) (fun r AR=>match r with
   | none=>R (.ok .next) AR
   | some v=>wpAny (model prog w) A (letOwnedTupleGo target it v) (fun _ LF=>wpAny (model prog w) A (assign target env v) (fun _ EI=>
     wpAny (model prog w) A (forIn ifs true fun c r=>if r=true then do let ok <- isTrue c env (eval c env); pure (ForInStep.yield ok) else pure (ForInStep.yield r)) (fun ok C8=>
      if ok=true then wpAny (model prog w) A (eval elt env) (fun x QI=>
       wpAny (model prog w) A (call (.builtin "list.append") [acc,x]) (fun _ QH=>∃ m,m < n/\I m QH) (notedBy (model prog w) A env fun e s'=>R (.error e) s') QI) (notedBy (model prog w) A env fun e s'=>R (.error e) s') C8
      else ∃ m,m < n/\I m C8) (notedBy (model prog w) A env fun e s'=>R (.error e) s') EI) (notedBy (model prog w) A env fun e s'=>R (.error e) s') LF) (notedBy (model prog w) A env fun e s'=>R (.error e) s') AR) (notedBy (model prog w) A env fun e s'=>R (.error e) s') s)
  (n:Nat) (h:I n s) :
  codeAny (model prog w) A (.compLoop (.ListComp elt [⟨target,iter,ifs,0⟩] scope pos) 0 it acc env) R s:=by
 refine codeAny_loop rfl I (fun n s hI=>?_) n h;show wpAny _ A ((compTurn (.ListComp elt [⟨target,iter,ifs,0⟩] scope pos) 0 it acc env).onRaise (fun x=>do noteFrame x env; theTreesLotGoes x)) _ _ s
 refine wpAny_noted ?_;rw [compTurn_list];refine wpAny_bind (wpAny_standAt (wpAny_bind (wpAny_mono (turn n s hI) (fun r AR B4=>?_) fun _ _ h'=>h')));cases r with
 | none=>exact wpAny_pure B4
 | some v=>
  refine wpAny_bind (wpAny_mono B4 (fun _ LF RB=>?_) fun _ _ h'=>h');refine wpAny_bind (wpAny_mono RB (fun _ EI G6=>wpAny_bind (wpAny_mono G6 (fun ok C8 HR=>?_) fun _ _ h'=>h')) fun _ _ h'=>h');cases ok with
  | false=>exact wpAny_pure ⟨rfl,HR⟩
  | true=>
   exact wpAny_bind (wpAny_bind (wpAny_mono HR (fun x QI N2=>wpAny_bind (wpAny_mono N2 (fun _ QH Dc=>wpAny_pure (wpAny_pure ⟨rfl,Dc⟩)) fun _ _ h'=>h')) fun _ _ h'=>h'))
end
def PTs (X:Cx) (ifs:List Expr) (t:TT):Prop:=
 ∀ ⦃pins:List (Addr × Obj)⦄ (s:Shared) (σ:St) (H:Hp) (Q:Bool->Hp->Prop),Av X pins σ H s->t σ H Q ->
  wpAny (model X.prog X.w) X.A (forIn ifs true fun c r=>if r=true then do let ok <- isTrue c X.env (eval c X.env); pure (ForInStep.yield ok) else pure (ForInStep.yield r)) (TP X pins σ Q) X.xe s
def JC:TT:=fun _ H Q=>Q true H
theorem AK {X:Cx}:PTs X [] JC:=fun _ _ _ H _ I h=>wpAny_tests_nil ⟨H,I,h⟩
def QG (wi:TI) (g:TG) (tt:TT) (te:TE) (σ0:St->St):TE:=fun σ H Q=>wi σ H fun J H1=>∀ D,H1 D=none->∃ W:Nat->Nat->St->Hp->Prop,(∃ m,W 0 m (σ0 σ) (upd H1 D (.lst []))) /\
 ∀ i m Ay H',W i m Ay H'->(J.stop i H'/\Q (.ref D) H')\/(J.go i H'/\∀ x H2,J.yld i H' x H2->g x Ay H2 fun AG H3=>tt AG H3 fun b H4=>
  if b=true then te AG H4 (fun v H5=>∃ acc,H5 D=some (.lst acc)/\acc.length < sizeLine/\∃ m',m' < m/\W (i + 1) m' AG (upd H5 D (.lst (acc ++ [v])))) else ∃ m',m' < m/\W (i + 1) m' AG H4)
theorem Bb {X:Cx} {tg iter elt:Expr} {ifs:List Expr} {scope:Scope} {cl:List (Str × Addr)} {N:List Str} {pos:Pos} {wi:TI} {g:TG} {tt:TT} {te:TE} {σ0:St->St} (hc:X.calm=true) (co:AI X scope cl)
  (hσ:∀ σ,σ.length=X.N.length->Bd X cl scope N σ (σ0 σ)) (hi:PI X tg iter wi)
  (hb:∀ s2 H C fp,PG (A1 X scope cl N s2 H C fp) tg g/\PTs (A1 X scope cl N s2 H C fp) ifs tt/\PE (A1 X scope cl N s2 H C fp) elt te)
  (hs:∀ x,foldedSetIterable iter X.env x=pure x:=by intro _; rfl):PE X (.ListComp elt [⟨tg,iter,ifs,0⟩] scope pos) (QG wi g tt te σ0):=by
 intro pins s σ H Q I h;rw [eval_ListComp];refine wpAny_comprehension_free (use:=none) rfl hs co.clos co.kind co.names (wpAny_mono (hi (pins:=pins) s σ H _ I h) (fun xv s1 h1=>wpAny_mono h1 (fun itv s2 h2=>?_) fun _ _ e=>e) fun _ _ e=>e);obtain ⟨it,fp,tn,J,H2,rfl,I2,T,HK,f2,hW⟩:=h2;refine wpAny_newObj_type (wpAny_newFunctionEnv co.cell (by intro y hy; cases hy) (fun B4 Ck BG=>?_) co.kind);dsimp only at Ck BG ⊢;generalize NC:s2.heap.push { cls:=.type "list",dict:=none,data:=.seq ([]:List Value).toArray } = HH at Ck BG ⊢;have C3:HH.objs.size=s2.heap.objs.size + 1:=by rw [<-NC,ae]
 have old:∀ b o,s2.heap.get? b=some o->B4.get? b=some o:=fun b o e=>
  BG.extBut b o (Z8 (by rw [C3]; exact ZY (Z1 e))) (Zu _ (NC ▸ Zu _ e))
 have newD:∃ n,B4.get? s2.heap.objs.size=some { cls:=.type "list",data:=.seq ([]:List Value).toArray n }:=
  ⟨_,BG.extBut _ _ (Z8 (by rw [C3]; exact ai _)) (Zu _ (NC ▸ Z5 _ rfl))⟩
 obtain ⟨W,⟨m0,w0⟩,turn⟩:=hW s2.heap.objs.size I2.fresh;have hfo:∀ b ∈ fp,∃ o,s2.heap.get? b=some o:=fun b hb=>let ⟨o,e,_⟩:=T.obj _ _ HK b hb; ⟨o,e⟩
 have I3:Av (A1 X scope cl N s2 H2 HH.objs.size fp) [] (σ0 σ) (upd H2 s2.heap.objs.size (.lst [])) { s2 with heap:=B4,toks:=s2.toks + ([]:List (Str × Value)).length }:=
  Ju I2 f2 hfo co (hσ σ I.len) old (Z4 _) (by rw [C3]; exact ZX _) (aA (by rw [C3]; exact ai _)) (.inr newD) Ck
 have fC:s2.heap.objs.size<=HH.objs.size:=by rw [C3]; exact ZX _
 obtain ⟨hg,ht,he⟩:=hb s2 H2 HH.objs.size fp;have loop:∀ C8:Shared,C8 = { s2 with heap:=B4,toks:=s2.toks + ([]:List (Str × Value)).length } ->
   codeAny (model X.prog X.w) X.A (.compLoop (.ListComp elt [⟨tg,iter,ifs,0⟩] scope pos) 0 (.ref it) (.ref s2.heap.objs.size) (compEnvC scope cl HH.objs.size X.env))
    (compPost (model X.prog X.w) X.A X.xe none (EP X pins σ Q) (.ref s2.heap.objs.size) HH.objs.size) C8:=by
  rintro C8 rfl;have stat:∀ {H':Hp} ,(∀ b ∈ fp,H' b=none)->∀ b ∈ fp,Fh (A1 X scope cl N s2 H2 HH.objs.size fp) [] H' b:=fun hn b hb=>by
   refine ⟨hn b hb,?_,?_,.inl hb,?_,fun p hp=>by cases hp⟩
   ·obtain ⟨o,e⟩:=hfo b hb;exact Z8 (show b < HH.objs.size by rw [C3]; exact ZY (Z1 e))
   ·intro hz;obtain ⟨_,q1,q2,_⟩:=f2 b hb;rcases Zz.mp (I2.stkSub b hz) with e | e
    ·exact q1 e
    ·exact q2 e
   ·exact fun x c e=>(f2 b hb).2.2.2.2.1 x c (co.sub x c e)
  refine CD (fun n s'=>∃ i Ay H',Av (A1 X scope cl N s2 H2 HH.objs.size fp) [] Ay H' s'/\tn i s'.heap/\(∀ b ∈ fp,H' b=none)/\W i n Ay H') ?_ m0
   ⟨0,σ0 σ,_,I3,T.keep _ _ _ HK fun b hb o e=>old b o e,fun b hb=>?_,w0⟩
  ·rintro n s4 ⟨i,K4,H4,I4,MJ,RO,w4⟩;rcases turn i n K4 H4 w4 with ⟨stop,qn⟩ | ⟨go,step⟩
   ·refine wpAny_mono (T.done (A1 X scope cl N s2 H2 HH.objs.size fp) rfl rfl rfl hc i [] s4 K4 H4 (fun _ _=>False) I4 (stat RO) MJ stop) (fun r s5 ⟨hr,I5⟩=>?_) fun _ _ z=>z.elim
    subst hr;obtain ⟨m5,Vw,_⟩:=id I5.loc;exact ⟨m5,Vw,fun h' Vv=>⟨.ref _,H4,Gg I2 f2 fC I5 Vv,rfl,qn⟩⟩
   ·refine wpAny_mono (T.item (A1 X scope cl N s2 H2 HH.objs.size fp) rfl rfl rfl hc i [] s4 K4 H4 (fun _ _=>False) I4 (stat RO) MJ go) (fun r s5 ⟨u,hr,h5⟩=>?_) fun _ _ z=>z.elim
    subst hr;refine wpAny_mono h5 (fun _ s6 ⟨x,H6,I6,r6,y6,MZ,V5⟩=>?_) fun _ _ z=>z.elim
    have VL:=I6.pinned (stat V5) (T.obj _ _ MZ);refine wpAny_mono (hg s6 K4 H6 x u _ VL r6 (step x H6 y6)) (fun _ s7 ⟨FK,H7,I7,q7⟩=>?_) fun _ _ z=>z.elim
    refine wpAny_mono (ht s7 FK H7 _ I7 q7) (fun ok s8 ⟨H8,I8,q8⟩=>?_) fun _ _ z=>z.elim
    have again:∀ {s9:Shared} {K3:St} {H9:Hp} ,Av (A1 X scope cl N s2 H2 HH.objs.size fp) ([] ++ EV fp s6.heap) K3 H9 s9->(∃ m',m' < n/\W (i + 1) m' K3 H9)->∃ m,m < n/\∃ i Ay H',Av (A1 X scope cl N s2 H2 HH.objs.size fp) [] Ay H' s9/\tn i s9.heap/\(∀ b ∈ fp,H' b=none)/\W i m Ay H':=fun {s9 K3 H9} I9 n9=>by
     obtain ⟨m',hm,w9⟩:=n9;refine ⟨m',hm,i + 1,K3,H9,I9.unpinned,T.keep _ _ _ MZ fun b hb o e=>(I9.pin (b,o) (ZC _ (ZC _ (B6 hb e)))).1,fun b hb=>?_,w9⟩;obtain ⟨o,e,d⟩:=T.obj _ _ MZ b hb;exact (I9.pin (b,o) (ZC _ (ZC _ (B6 hb e)))).2.1
    cases ok with
    | false=>
     rw [if_neg ZD] at q8 ⊢;exact again I8 q8
    | true=>
     rw [if_pos rfl] at q8 ⊢;refine wpAny_mono (he s8 FK H8 _ I8 q8) (fun y s9 ⟨v,H9,I9,r9,acc,hacc,hsz,q9⟩=>?_) fun _ _ z=>z.elim
     refine wpAny_mono (Dn (X:=A1 X scope cl N s2 H2 HH.objs.size fp) s9 FK H9 (.ref s2.heap.objs.size) [v] (.ref s2.heap.objs.size) [y] (fun _ Su=>∃ m',m' < n/\W (i + 1) m' FK Su) I9 rfl (.cons r9 .nil) ⟨_,acc,v,rfl,rfl,hacc,hsz,q9⟩) (fun _ Y1 ⟨_,Su,VM,_,UX⟩=>?_) fun _ _ z=>z.elim
     exact again VM UX
  ·have z:=(f2 b hb).1;obtain ⟨o,e⟩:=hfo b hb;rw [Ae (Z8 (Z1 e))];exact z
 exact codeAny_compStart_list (loop _ rfl) (T.self _ 0 _ _ _ (T.keep _ _ _ HK fun b hb o e=>old b o e) (loop _ rfl))
def Its (x:Str):It:=⟨fun i _=>i < x.cps.size,fun i H v H'=>H'=H/\∃ c,x.cps[i]? = some c/\v=.str ⟨#[c]⟩,fun i _=>x.cps.size<=i⟩
theorem OQ {P:Program} {w:World} {K:Zw} {tg:Expr} (it:Addr) (x:Str) (t:Tok):MG P w K tg (Its x) [it] it (fun i h=>h.IsStrIter it "str_ascii_iterator" x t i) where
 mem:=by simp
 obj:=fun i h st b hb=>by
  have e:b=it:=by simpa using hb
  subst e;obtain ⟨o,e,c,d⟩:=st;exact ⟨o,e,fun v z=>by rw [d] at z; cases z⟩
 keep:=fun i h h' st k=>let ⟨o,e,r⟩:=st; ⟨o,k it (by simp) o e,r⟩
 item:=by
  intro X hP hw hK hc i pins s σ H E I hf st hg;subst hP hw hK;obtain ⟨f0,f1,f2,f3,f4,f5⟩:=hf it (by simp);have Te:i < x.cps.size:=hg;refine wpAny_pyNext_ascii_item st (c:=x.cps[i]) (by simp [Te]) fun h' Bh sb=>?_
  have I1:Av X pins σ H { s with heap:=h',toks:=s.toks + 1 }:=I.turned (fun b o hb e=>(sb.2 b hb).trans e) f0 f1 f3 f4 f5;obtain ⟨o,e,c,d⟩:=id Bh;exact ⟨_,rfl,Kq (s:={ s with heap:=h',toks:=s.toks + 1 }) e c d (by decide) ⟨.str ⟨#[x.cps[i]]⟩,H,I1,⟨_,rfl⟩,⟨rfl,_,by simp [Te],rfl⟩,Bh,fun b hb=>(hf b hb).1⟩⟩
 done:=by
  intro X hP hw hK hc i pins s σ H E I hf st hg;subst hP hw hK;obtain ⟨f0,f1,f2,f3,f4,f5⟩:=hf it (by simp);have Te:x.cps.size<=i:=hg;exact wpAny_pyNext_ascii_end (I.ok.hd hc) st (by simp [Te]) fun h' eb=>⟨rfl,I.turned (t':=s.toks) (fun b o hb e=>eb b o hb e) f0 f1 f3 f4 f5⟩
 self:=fun _ _ _ _ _ st h=>wpAny_pyIter_striter_ascii st h
theorem OP {P:Program} {w:World} {K:Zw} {tg:Expr} (it:Addr) (x:Str) (t:Tok):MG P w K tg (Its x) [it] it (fun i h=>h.IsStrIter it "str_iterator" x t i) where
 mem:=by simp
 obj:=fun i h st b hb=>by
  have e:b=it:=by simpa using hb
  subst e;obtain ⟨o,e,c,d⟩:=st;exact ⟨o,e,fun v z=>by rw [d] at z; cases z⟩
 keep:=fun i h h' st k=>let ⟨o,e,r⟩:=st; ⟨o,k it (by simp) o e,r⟩
 item:=by
  intro X hP hw hK hc i pins s σ H E I hf st hg;subst hP hw hK;obtain ⟨f0,f1,f2,f3,f4,f5⟩:=hf it (by simp);have Te:i < x.cps.size:=hg;refine wpAny_pyNext_wide_item st (c:=x.cps[i]) (by simp [Te]) fun h' Bh sb=>?_
  have I1:Av X pins σ H { s with heap:=h',toks:=s.toks + 1 }:=I.turned (fun b o hb e=>(sb.2 b hb).trans e) f0 f1 f3 f4 f5;obtain ⟨o,e,c,d⟩:=id Bh;exact ⟨_,rfl,Kq (s:={ s with heap:=h',toks:=s.toks + 1 }) e c d (by decide) ⟨.str ⟨#[x.cps[i]]⟩,H,I1,⟨_,rfl⟩,⟨rfl,_,by simp [Te],rfl⟩,Bh,fun b hb=>(hf b hb).1⟩⟩
 done:=by
  intro X hP hw hK hc i pins s σ H E I hf st hg;subst hP hw hK;obtain ⟨f0,f1,f2,f3,f4,f5⟩:=hf it (by simp);have Te:x.cps.size<=i:=hg;exact wpAny_pyNext_wide_end (I.ok.hd hc) st (by simp [Te]) fun h' eb=>⟨rfl,I.turned (t':=s.toks) (fun b o hb e=>eb b o hb e) f0 f1 f3 f4 f5⟩
 self:=fun _ _ _ _ _ st h=>wpAny_pyIter_striter_wide st h
def iStr (tl:TE):TI:=fun σ H R=>tl σ H fun x H1=>∃ z,x=.str z/\R (Its z) H1
theorem UY {X:Cx} {tg l:Expr} {tl:TE} (hl:PE X l tl):PI X tg l (iStr tl):=by
 intro pins s σ H R I h;refine By (hl (pins:=pins) s σ H _ I h) fun v s1 ⟨x,H1,I1,r1,q1⟩=>?_
 obtain ⟨z,rfl,q⟩:=q1;obtain ⟨t,rfl⟩:=r1;have fin:∀ b ∈ [s1.heap.objs.size],Fh X pins H1 b:=fun b hb=>by
  have e:b=s1.heap.objs.size:=by simpa using hb
  subst e;exact I1.fpOk (Z4 _) (I1.hok.fresh (Z4 _))
 cases ha:z.cps.all (· < 128)
 ·exact wpAny_pyIter_wide ha ⟨s1.heap.objs.size,[s1.heap.objs.size],_,_,H1,rfl,I1.kept (t':=s1.toks) fun b o e=>Zu _ e,OP _ z t,⟨_,Z5 _ rfl,rfl,rfl⟩,fin,q⟩
 ·exact wpAny_pyIter_ascii ha ⟨s1.heap.objs.size,[s1.heap.objs.size],_,_,H1,rfl,I1.kept (t':=s1.toks) fun b o e=>Zu _ e,OQ _ z t,⟨_,Z5 _ rfl,rfl,rfl⟩,fin,q⟩
theorem BR {X:Cx} (hc:X.calm=true):Bz X (.builtin "all") (fun xs H Q=>∃ (p:Addr) (bs:List Bool),xs=[.ref p]/\AX X.K H p (bs.map V.bl)/\Q (.bl (bs.all id)) H):=by
 intro pins s σ H xs us Q I r h;obtain ⟨p,bs,rfl,hq,q⟩:=h;obtain ⟨u,rfl,ru⟩:=Ce r;cases ru
 obtain ⟨Ax,rv,pl,hz⟩:=I.list hq;have hlen:Ax.length=bs.length:=by rw [<-rv.length,Zv]
 refine call_all_walk (wpAny_pyIter_list pl.isList ?_);have hne:p ≠ s.heap.objs.size:=by
  obtain ⟨o,n,e,_⟩:=pl;exact Z8 (Z1 e)
 exists s.heap.objs.size,_,_,_,_,_,fun i=>bs.getD i true,rfl,Walks.list (A:=X.A.in1) (I.ok.hd hc) s.heap.objs.size p hne Ax.toArray,⟨⟨_,Z5 _ rfl,rfl,rfl⟩,?_⟩,?_
 ·exact pl.isList.at fun o e=>Zu _ e
 ·intro i v s1 Q1 E1 hv hQ;have hv':Ax[i]? = some v:=by simpa using hv
  have hb:∃ b,bs[i]? = some b:=by
   cases e:bs[i]? with
   | some b=>exact ⟨b,rfl⟩
   | none=>
    have:=List.getElem?_eq_none_iff.mp e;have:=(Z2.mp hv').1;lia
  obtain ⟨b,hb⟩:=hb;obtain ⟨u,hu,ru⟩:=rv.get (i:=i) (x:=V.bl b) (by rw [Z0,hb]; rfl);rw [hv'] at hu;cases hu
  cases ru
  have e:bs.getD i true=b:=by rw [ZG,hb]; rfl
  have hQ':Q1 (bs.getD i true) s1:=hQ;rw [e] at hQ';exact wpAny_truthy_bool hQ'
 ·intro h' tk hk;have e:(ZW Ax.toArray.size).all (fun i=>bs.getD i true)=bs.all id:=by
   rw [ZA,hlen];apply aE.mpr;simp only [ZZ,aH,id];constructor
   ·intro h b hb;obtain ⟨i,hi,e⟩:=ZM hb;have:=h i hi;rw [ZG,Zt hi] at this;simpa [e] using this
   ·intro h i hi;rw [ZG,Zt hi];exact h _ (ar hi)
  rw [e];refine ⟨.bl _,H,?_,rfl,q⟩;have I1:Av X pins σ H { s with heap:=s.heap.push { cls:=.type "list_iterator",data:=.fields #[.ref p,.int 0 0] } }:=I.kept (t':=s.toks) fun b o e=>Zu _ e
  have F:=I.fpOk (Z4 _) (I.hok.fresh (Z4 _));obtain ⟨f0,f1,f2,f3,f4,f5⟩:=F;exact I1.turned (it:=s.heap.objs.size) (fun b o hb e=>hk b o (by simpa using hb) e) f0 f1 f3 f4 f5
theorem BQ {X:Cx}:Bz X (.builtin "isinstance") (fun xs H Q=>∃ x c t b,xs=[x,.ty c]/\DV X.K H x t/\b8 X.K t (.type c)=some b/\Q (.bl b) H):=by
 intro pins s σ H xs us Q I r h;obtain ⟨x,c,t,b,rfl,ty,e,q⟩:=h;obtain ⟨u,v,rfl,rx,rc⟩:=NX r;cases rc
 exact PY I rx ty e fun tk=>⟨.bl b,H,I.tok tk,rfl,q⟩
theorem Kk {X:Cx}:Ft X (compareOp .LtE) (fun x y H Q=>∃ i j,x=.str i/\y=.str j/\Q (.bl (!(decide (j.cps.toList < i.cps.toList)))) H):=by
 intro pins s σ H x y v u Q I rx ry h;obtain ⟨i,j,rfl,rfl,q⟩:=h;obtain ⟨t,rfl⟩:=rx;obtain ⟨t',rfl⟩:=ry;exact PySem.P.le_str ⟨.bl _,H,I,rfl,q⟩
def tSlS (te:TE) (tl th:TO):TE:=fun σ H Q=>te σ H fun x H1=>tl σ H1 fun l H2=>th σ H2 fun u H3=>∃ z,x=.str z/\z.length<=sizeLine/\Q (.str (Txt.slice z l u)) H3
theorem Ga {X:Cx} {e:Expr} {te:TE} {lo hi:Option Expr} {tl th:TO} {pos p2:Pos} (he:PE X e te) (hl:PO X lo tl) (hu:PO X hi th):PE X (.Subscript e (.Slice lo hi none p2) pos) (tSlS te tl th):=by
 intro pins s σ H Q I h;refine Subscript_ (By (he (pins:=pins) s σ H _ I h) fun v s1 ⟨x,H1,I1,r1,q1⟩=>?_);refine wpAny_Slice (By (hl (pins:=pins) s1 σ H1 _ I1 q1) fun vl s2 ⟨l,H2,I2,pl,q2⟩=>By (hu (pins:=pins) s2 σ H2 _ I2 q2) fun vu s3 ⟨u,H3,I3,pu,q3⟩=>?_);rw [evalPart_none];refine wpAny_pure ?_;obtain ⟨z,rfl,hz,q⟩:=q3;obtain ⟨t,rfl⟩:=r1;show wpAny (model X.prog X.w) X.A (subscriptTail e (.Slice lo hi none p2) (.str z t) (.ref s3.heap.objs.size)) (EP X pins σ Q) X.xe { s3 with heap:=s3.heap.push { cls:=.type "slice",data:=.fields #[vl,vu,.none] } }
 have kk:KeptH (fun h=>∀ b o,s3.heap.get? b=some o->h.get? b=some o):=fun h ob hh b o e=>Zu _ (hh b o e)
 have fin:ItemOn (model X.prog X.w) X.A X.xe (.str z t) (.ref s3.heap.objs.size) (EP X pins σ Q) { s3 with heap:=s3.heap.push { cls:=.type "slice",data:=.fields #[vl,vu,.none] } }:=by
  cases pl with
  | none=>
   cases pu with
   | none=>exact SBH.sliceItem_nn kk (fun _ _ e=>e) (fun h' t' k kp=>⟨.str _,H3,I3.kept kp,⟨_,rfl⟩,q⟩) hz
   | int j uj=>exact SBH.sliceItem_ns kk (fun _ _ e=>e) (fun h' t' k kp=>⟨.str _,H3,I3.kept kp,⟨_,rfl⟩,q⟩) hz
  | int i ui=>
   cases pu with
   | none=>exact SBH.sliceItem_sn kk (fun _ _ e=>e) (fun h' t' k kp=>⟨.str _,H3,I3.kept kp,⟨_,rfl⟩,q⟩) hz
   | int j uj=>exact SBH.sliceItem_ss kk (fun _ _ e=>e) (fun h' t' k kp=>⟨.str _,H3,I3.kept kp,⟨_,rfl⟩,q⟩) hz
 obtain ⟨T,id,hT,ht,hg⟩:=fin;exact tail_any (ops:=[.ref s3.heap.objs.size,.str z t]) ht hT hg (by with_unfolding_all rfl)
theorem E6 {α:Type}:∀ {l:List (Str × α)} {x:Str} {k:α},l.lookup x=some k->(x,k) ∈ l
 | [],_,_,h=>by cases h
 | (n,v) :: r,x,k,h=>by
  rw [List.lookup_cons] at h;by_cases e:x=n
  ·subst e;simp at h;subst h;exact ZP
  ·have:(x == n)=false:=beq_eq_false_iff_ne.mpr e;rw [this] at h;exact ZK _ (E6 h)
theorem AI.plain {X:Cx} {scope:Scope} (hfree:∀ x ∈ scope.names,x.2 ≠ .free) (hcell:∀ y ∈ scope.names,y.2 ≠ .cell) (hkind:scope.kind=.function)
  (hnames:∀ y ∈ scope.names,y.2=.local->scope.names.lookup y.1=some .local):AI X scope []:=by
 refine ⟨closureFor_none hfree,hcell,hkind,hnames,fun x c h=>(by cases h),fun x h=>?_⟩;have key:∀ k,(relabel scope X.env).names.lookup x=some k->∃ y ∈ scope.names,y.2=k:=by
  intro k e;have m:=E6 e;obtain ⟨⟨n,k'⟩,hm,e'⟩:=Z6.mp m;have hf:=hfree _ hm;have:(k' == NameKind.free)=false:=by
   cases k' <;> first | rfl | exact absurd rfl hf
  dsimp only at e';rw [this] at e';simp at e';exact ⟨_,hm,e'.2⟩
 rcases h with h | h
 ·obtain ⟨y,hy,e⟩:=key _ h;exact absurd e (hcell y hy)
 ·obtain ⟨y,hy,e⟩:=key _ h;exact absurd e (hfree y hy)
def G3 (c:Nat):Bool:=decide (97<=c) && decide (c<=122)
theorem lt1 (a b:Nat):decide (([a]:List Nat) < [b])=decide (a < b):=by
 apply decide_eq_decide.mpr;rw [List.cons_lt_cons_iff];constructor
 ·rintro (h | ⟨_,h⟩)
  ·exact h
  ·exact absurd h (by simp)
 ·exact fun h=>.inl h
theorem leA (c:Nat):(!(decide ((⟨#[c]⟩:Str).cps.toList < (Str.ofString "a").cps.toList)))=decide (97<=c):=by
 show (!(decide (([c]:List Nat) < [97])))=_
 rw [lt1,<-decide_not];exact decide_eq_decide.mpr (by lia)
theorem leZ (c:Nat):(!(decide ((Str.ofString "z").cps.toList < (⟨#[c]⟩:Str).cps.toList)))=decide (c<=122):=by
 show (!(decide (([122]:List Nat) < [c])))=_
 rw [lt1,<-decide_not];exact decide_eq_decide.mpr (by lia)
def AL (t:Str):Bool:=decide (1<=t.length) && decide (t.length<=6) && t.cps.toList.all G3
def Fg (K:Zw) (H:Hp) (x:V):Prop:=∃ ty,DV K H x ty/\b8 K ty (.type "str")=some false
def K7 (K:Zw):Sp:=fun vs H Q _=>∃ x,vs=[x]/\((∃ t,x=.str t/\t.length<=1000/\∀ H',Ao H H'->Q (.bl (AL t)) H')\/(Fg K H x/\Q (.bl false) H))
theorem Ac {H:Hp} {p:Addr} {o:HO} (h:H p=none):Ao H (upd H p o):=fun b u e=>by
 rw [Ae (Ah e h)];exact e
theorem JB {α β:Type} (f:α->β) (l:List α) (i:Nat) (c:α) (h:l[i]? = some c):(l.take (i + 1)).map f=(l.take i).map f ++ [f c]:=by
 rw [List.take_succ,h,Z7];rfl
mutual
inductive Fj (H:Hp):V->PyData->Prop
 | non:Fj H .non .none
 | bl (b:Bool):Fj H (.bl b) (.bool b)
 | int (i:Int):Fj H (.int i) (.int i)
 | str (x:Str):Fj H (.str x) (.str x)
 | tup {a:Addr} {vs:List V} {ds:List PyData}:H a=some (.tup vs)->AB H vs ds->Fj H (.ref a) (.tuple ds)
 | lst {a:Addr} {vs:List V} {ds:List PyData}:H a=some (.lst vs)->AB H vs ds->Fj H (.ref a) (.list ds)
inductive AB (H:Hp):List V->List PyData->Prop
 | nil:AB H [] []
 | cons {v:V} {vs:List V} {d:PyData} {ds:List PyData}:Fj H v d->AB H vs ds->AB H (v :: vs) (d :: ds)
end
mutual
theorem Fj.mono {H H':Hp} (s:∀ a o,H a=some o->(∃ vs,o=.tup vs\/o=.lst vs)->H' a=some o):∀ {v:V} {d:PyData},Fj H v d->Fj H' v d
 | _,_,.non=>.non
 | _,_,.bl b=>.bl b
 | _,_,.int i=>.int i
 | _,_,.str x=>.str x
 | _,_,.tup e r=>.tup (s _ _ e ⟨_,.inl rfl⟩) (AB.mono s r)
 | _,_,.lst e r=>.lst (s _ _ e ⟨_,.inr rfl⟩) (AB.mono s r)
theorem AB.mono {H H':Hp} (s:∀ a o,H a=some o->(∃ vs,o=.tup vs\/o=.lst vs)->H' a=some o):∀ {vs:List V} {ds:List PyData},AB H vs ds->AB H' vs ds
 | _,_,.nil=>.nil
 | _,_,.cons x r=>.cons (Fj.mono s x) (AB.mono s r)
end
theorem Fj.same {H H':Hp} {v:V} {d:PyData} (h:Fj H v d) (s:Ao H H'):Fj H' v d:=h.mono fun a o e _=>s a o e
mutual
theorem Fj.reads {X:Cx} {pins:List (Addr × Obj)} {σ:St} {H:Hp} {s:Shared} (I:Av X pins σ H s):∀ {v:V} {d:PyData} {u:Value},Fj H v d->AF v u->∃ as,Reads s.heap u d as
 | _,_,_,.non,r=>by cases r; exact ⟨_,.none⟩
 | _,_,_,.bl b,r=>by cases r; exact ⟨_,.bool b⟩
 | _,_,_,.int i,r=>by obtain ⟨t,rfl⟩:=r; exact ⟨_,.int i t⟩
 | _,_,_,.str x,r=>by obtain ⟨t,rfl⟩:=r; exact ⟨_,.str x t⟩
 | _,_,_,.tup (a:=a) e m,r=>by
  cases r
  obtain ⟨_,Ax,rv,⟨o,ho,hc,n,hd⟩,_⟩:=(show AO X.prog X.w H s.heap a (.tup _) from I.hok a _ e)
  obtain ⟨as,q⟩:=AB.reads I m rv;exact ⟨_,.tuple ho hc hd (by simpa using q)⟩
 | _,_,_,.lst (a:=a) e m,r=>by
  cases r
  obtain ⟨_,Ax,n,rv,ho⟩:=(show AO X.prog X.w H s.heap a (.lst _) from I.hok a _ e)
  obtain ⟨as,q⟩:=AB.reads I m rv;exact ⟨_,.list ho rfl rfl (by simpa using q)⟩
theorem AB.reads {X:Cx} {pins:List (Addr × Obj)} {σ:St} {H:Hp} {s:Shared} (I:Av X pins σ H s):∀ {vs:List V} {ds:List PyData} {us:List Value},AB H vs ds->A9 vs us->∃ as,ReadsAll s.heap us ds as
 | _,_,_,.nil,r=>by cases r; exact ⟨_,.nil⟩
 | _,_,_,.cons x m,r=>by
  cases r with
  | cons r1 r2=>
   obtain ⟨as,q1⟩:=Fj.reads I x r1;obtain ⟨bs,q2⟩:=AB.reads I m r2;exact ⟨_,.cons q1 q2⟩
end
theorem Pz {X:Cx} (hu:X.A.units + 64 < cLine):Ft X (compareOp .Eq) (fun x y H Q=>∃ d e,Fj H x d/\Fj H y e/\d.canLay0=true/\e.canLay0=true/\d.depth<=60/\Q (.bl (PyData.eqv d e)) H):=by
 intro pins s σ H x y v u Q I rx ry h;obtain ⟨d,e,h1,h2,c1,c2,hd,q⟩:=h;obtain ⟨as,r1⟩:=h1.reads I rx;obtain ⟨bs,r2⟩:=h2.reads I ry;exact SeqAt.compareEq_reads r1 r2 c1 c2 (by have:=Nat.min_le_left d.depth e.depth; lia) ⟨.bl _,H,I,rfl,q⟩
theorem R8 (z:Str) (xs:List Str):inV (.str z) (xs.map V.str)=decide (z ∈ xs):=by
 unfold inV;induction xs with
 | nil=>simp
 | cons x xs ih=>
  rw [ZI,bq,ih];have e:Tj (.str x) (.str z)=decide (z=x):=by
   show (x == z)=_
   by_cases h:z=x
   ·subst h; simp
   ·have h':¬ x=z:=fun q=>h q.symm
    rw [decide_eq_false h];exact beq_eq_false_iff_ne.mpr h'
  rw [e];by_cases h:z=x
  ·simp [h]
  ·by_cases h2:z ∈ xs <;> simp [h,h2]
theorem Qe (xs:List Str):(xs.map V.str).all Gf=true:=by
 rw [aF];exact ZZ.mpr fun _ _=>rfl
def AA (p:Addr) (H H':Hp):Prop:=∀ b o,b ≠ p->H b=some o->H' b=some o
theorem AA.trans {p:Addr} {H H1 H2:Hp} (a:AA p H H1) (b:AA p H1 H2):AA p H H2:=fun c o n e=>b c o n (a c o n e)
theorem AA.of_same {p:Addr} {H H':Hp} (s:Ao H H'):AA p H H':=fun b o _ e=>s b o e
theorem AA.upd {p:Addr} {H:Hp} {o:HO}:AA p H (L2.upd H p o):=fun b u n e=>by rw [Ae n]; exact e
def Tt (K:Zw) (H:Hp) (a:Addr) (xs:List V):Prop:=(∃ ob,H a=some (.frz ob (.lst xs)))\/∃ o Ax n,List.lookup a K=some o/\o.cls=Value.type "list"/\o.dict=none/\o.data=Data.seq Ax n/\Ax.size<=sizeLine/\A9 xs Ax.toList
theorem Tt.sq {K:Zw} {H:Hp} {a:Addr} {xs:List V} (h:Tt K H a xs):AX K H a xs:=by
 rcases h with ⟨ob,h⟩ | h
 ·exact .inl (.inr ⟨ob,h⟩)
 ·exact .inr h
theorem Tt.same {K:Zw} {H H':Hp} {a:Addr} {xs:List V} (h:Tt K H a xs) (s:Ao H H'):Tt K H' a xs:=by
 rcases h with ⟨ob,h⟩ | h
 ·exact .inl ⟨ob,s _ _ h⟩
 ·exact .inr h
theorem RZ {ns:List Int} {i:Int} (h0:0<=i) (h1:i < ns.length):∃ c,Gn (ns.map V.int) i=some (V.int c):=by
 obtain ⟨n,rfl⟩:∃ n:Nat,i=(n:Int):=⟨i.toNat,by lia⟩
 have hn:n < ns.length:=by lia
 exact ⟨ns[n],Cw (by rw [Z0,Zt hn]; rfl)⟩
theorem Lr {α:Type} {l:List α} {i:Int} {c:α} (h:Gn l i=some c):c ∈ l:=by
 obtain ⟨j,_,h2,_⟩:=Iq h;exact Zx h2
abbrev Ge:Str:="abcdefghijklmnopqrstuvwxyz"
theorem Hz:∀ c ∈ Ge.cps.toList,G3 c=true:=by decide +kernel
def Tx (z:Str):Prop:=∀ c ∈ z.cps.toList,G3 c=true
theorem Rx {z:Str} (h1:1<=z.length) (h2:z.length<=6) (h:Tx z):AL z=true:=by
 unfold AL;rw [decide_eq_true h1,decide_eq_true h2,ZZ.mpr h];rfl
theorem R3 {z:Str} (h:AL z=true):1<=z.length/\z.length<=6/\Tx z:=by
 unfold AL at h;rw [aj,aj,decide_eq_true_eq,decide_eq_true_eq,ZZ] at h;exact ⟨h.1.1,h.1.2,h.2⟩
theorem Cf {α:Type} [BEq α] [LawfulBEq α]:∀ {l xs:List α},l.Nodup->(∀ x ∈ l,x ∈ xs)->l.length<=xs.length
 | [],_,_,_=>ZQ _
 | a :: l,xs,hn,hs=>by
  have ha:=hs a ZP;have X9:=aq.mp hn;have:=Cf (l:=l) (xs:=xs.erase a) X9.2 fun x hx=>(dc (show x ≠ a from fun e=>X9.1 (by rw [<-e]; exact hx))).mpr (hs x (ZK _ hx))
  rw [List.length_erase_of_mem ha] at this;have:0 < xs.length:=List.length_pos_of_mem ha;rw [ak];lia
theorem BE (H:Hp):∀ xs:List Str,AB H (xs.map V.str) (xs.map .str)
 | []=>.nil
 | x :: xs=>.cons (.str x) (BE H xs)
theorem EY:∀ {xs:List Str},(∀ x ∈ xs,AL x=true)->PyData.canLayAll0 (xs.map .str)=true
 | [],_=>rfl
 | x :: xs,h=>by
  show (PyData.strOk x && PyData.canLayAll0 (xs.map .str))=true
  rw [EY fun y hy=>h y (ZK _ hy),eD];obtain ⟨_,_,lo⟩:=R3 (h x ZP);unfold PyData.strOk;rw [Array.all_eq_true_iff_forall_mem];intro c hc;have:=lo c (by simpa using hc);unfold G3 at this;rw [aj,decide_eq_true_eq,decide_eq_true_eq] at this;rw [decide_eq_true_eq];lia
theorem FD:∀ xs:List Str,PyData.depthAll (xs.map .str)=0
 | []=>rfl
 | x :: xs=>by
  show max 0 (PyData.depthAll (xs.map .str))=0
  rw [FD xs];rfl
def OB:Stmt->List Stmt
 | .For _ _ b _ _=>b
 | _=>[]
theorem AI.caught {X:Cx} {scope:Scope} {cl:List (Str × Addr)} (clos:closureFor scope X.env=pure cl) (hcell:∀ y ∈ scope.names,y.2 ≠ .cell) (hkind:scope.kind=.function)
  (hnames:∀ y ∈ scope.names,y.2=.local->scope.names.lookup y.1=some .local) (hcl:∀ y ∈ cl,X.env.cells.lookup y.1=some y.2)
  (hfr:∀ y ∈ scope.names,y.2=.free->∃ c,cl.lookup y.1=some c):AI X scope cl:=by
 refine ⟨clos,hcell,hkind,hnames,fun x c h=>hcl _ (E6 h),fun x h=>?_⟩;have key:∀ k,(relabel scope X.env).names.lookup x=some k->k=.cell\/k=.free->∃ c,cl.lookup x=some c:=by
  intro k e hk;have m:=E6 e;obtain ⟨⟨n,k'⟩,hm,e'⟩:=Z6.mp m;dsimp only at e';by_cases hf:k'=.free
  ·subst hf;have en:n=x:=by
    by_cases hc:(NameKind.free == NameKind.free && X.env.scope.kind == .function && X.env.kindOf n == some .cell)=true
    ·rw [if_pos hc] at e';injection e'
    ·rw [if_neg hc] at e';injection e'
   subst en;exact hfr _ hm rfl
  ·have:(k' == NameKind.free)=false:=by
    cases k' <;> first | rfl | exact absurd rfl hf
   rw [this] at e';simp at e';rcases hk with hk | hk
   ·exact absurd (e'.2.trans hk) (hcell _ hm)
   ·exact absurd (e'.2.trans hk) hf
 rcases h with h | h
 ·exact key _ h (.inl rfl)
 ·exact key _ h (.inr rfl)
theorem Bd.of {X:Cx} {cl:List (Str × Addr)} {scope:Scope} {N:List Str} {σ:St} (js:List (Option Nat)) (hl:js.length=N.length)
  (h:∀ (i j:Nat) (x:Str),N[i]? = some x->js[i]? = some (some j)->X.N[j]? = some x/\(X.env.kindOf x=some .cell\/X.env.kindOf x=some .free)/\((relabel scope X.env).names.lookup x=some .cell\/(relabel scope X.env).names.lookup x=some .free)) :
  Bd X cl scope N σ (js.map fun j=>j.bind fun j=>(σ[j]?).join):=by
 refine ⟨by rw [Zv,hl],fun i x v h1 h2=>?_⟩;rw [Z0] at h2;cases e:js[i]? with
 | none=>rw [e] at h2; cases h2
 | some o=>
  rw [e] at h2;cases o with
  | none=>cases h2
  | some j=>
   obtain ⟨a,b,c⟩:=h i j x h1 e;refine ⟨⟨j,a,?_⟩,b,c⟩;have h3:(σ[j]?).join=some v:=ZJ.inj h2;cases e2:σ[j]? with
   | none=>rw [e2] at h3; cases h3
   | some o=>
    rw [e2] at h3;have:o=some v:=h3;rw [this]
theorem Qo {X:Cx}:Bz X (.type "range") (fun xs H Q=>∃ j:Int,xs=[.int j]/\∀ q,H q=none->Q (.ref q) (upd H q (.rng 0 j))):=by
 intro pins s σ H xs us Q I r h;obtain ⟨j,rfl,q⟩:=h;obtain ⟨u,rfl,⟨t,rfl⟩⟩:=Ce r;refine call_range_1 ⟨.ref s.heap.objs.size,_,I.laid (o:=.rng 0 j) (fun b o e=>Zu _ e) (Z4 _) ⟨_,_,_,Z5 _ rfl⟩,rfl,q _ I.fresh⟩
theorem MT {f:Nat->V}:∀ {n:Nat} {acc:Array Value},acc.size=n->(∀ (i:Nat) (v:Value),acc[i]? = some v->AF (f i) v)->A9 ((ZW n).map f) acc.toList:=by
 intro n acc hs h;have go:∀ (l:List Value) (k:Nat),(∀ (i:Nat) (v:Value),l[i]? = some v->AF (f (k + i)) v)->A9 ((ZW l.length).map fun i=>f (k + i)) l:=by
  intro l;induction l with
  | nil=>intro k _; exact .nil
  | cons v l ih=>
   intro k hh;rw [ak,List.range_succ_eq_map,ZI,ax];refine .cons (by simpa using hh 0 v rfl) ?_;have:=ih (k + 1) fun i u e=>by
    have:=hh (i + 1) u (by simpa using e);rw [show k + 1 + i=k + (i + 1) by lia];exact this
   have e2:(fun i=>f (k + 1 + i))=((fun i=>f (k + i)) ∘ eT):=by
    funext i;show f (k + 1 + i)=f (k + (i + 1))
    rw [show k + 1 + i=k + (i + 1) by lia]
   rw [e2] at this;exact this
 have:=go acc.toList 0 fun i v e=>by
  rw [aV];exact h i v (by simpa using e)
 simp only [aV,ZO,hs] at this;exact this
theorem JP {X:Cx} (hc:X.calm=true):Bz X (.type "list") (fun xs H Q=>∃ (r:Addr) (n:Nat),xs=[.ref r]/\H r=some (.rng 0 n)/\n<=100000/\∀ l,H l=none->Q (.ref l) (upd H l (.lst ((ZW n).map fun (i:Nat)=>V.int (i:Int))))):=by
 intro pins s σ H xs us Q I r h;obtain ⟨r0,n,rfl,hr,hn,q⟩:=h;obtain ⟨u,rfl,rx⟩:=Ce r;cases rx
 obtain ⟨t,u,v,e⟩:=(show AO X.prog X.w H s.heap r0 (.rng 0 n) from I.hok r0 _ hr)
 refine call_list_range (n:=n) (I.ok.hd hc) (show IsRange s.heap r0 0 n 1 t u v from e) (small_one (by decide) (by decide) (by lia) (by lia)) (by rw [rangeSize_one]; split <;> lia) (by lia) fun h' tk GH c' kp hS hacc=>?_
 refine ⟨.ref s.heap.objs.size,_,I.laid (o:=.lst ((ZW n).map fun (i:Nat)=>V.int (i:Int))) kp (Z4 _) ⟨?_,GH.toList,c',?_,by simpa using hS⟩,rfl,q _ I.fresh⟩
 ·rw [Zv,af];have:100000 < sizeLine:=by decide
  lia
 ·refine MT hacc.1 fun i v e=>?_
  obtain ⟨t,rfl⟩:=hacc.2 i v e;exact ⟨t,by simp⟩
abbrev AH:=Str × Str × Int
def EM (u:AH):PyData:=.tuple [.str u.1,.str u.2.1,.int u.2.2]
def J2 (u v:AH):Prop:=(u.1=v.1/\u.2.1=v.2.1)\/(u.1=v.2.1/\u.2.1=v.1)
structure Lv (xs:List Str) (k:Nat) (ws:List AH):Prop where
 of:∀ u ∈ ws,∃ i j:Nat,i < j/\j < k/\xs[i]? = some u.1/\xs[j]? = some u.2.1/\1<=u.2.2
 sep:ws.Pairwise fun u v=>¬ J2 u v
 to:∀ j,0 < j->j < k->∃ u ∈ ws,∃ i:Nat,i < j/\xs[i]? = some u.1/\xs[j]? = some u.2.1
 len:2 * ws.length<=k * (k - 1)
structure VH (xs:List Str) (ws:List AH):Prop where
 of:∀ u ∈ ws,u.1 ∈ xs/\u.2.1 ∈ xs/\u.1 ≠ u.2.1/\1<=u.2.2
 sep:ws.Pairwise fun u v=>¬ J2 u v
 to:∀ j,0 < j->j < xs.length->∃ u ∈ ws,∃ i:Nat,i < j/\xs[i]? = some u.1/\xs[j]? = some u.2.1
 len:2 * ws.length<=xs.length * (xs.length - 1) + 10
theorem IV {xs:List Str} (h:xs.Nodup) {i j:Nat} {x:Str} (a:xs[i]? = some x) (b:xs[j]? = some x):i=j:=IU h a b
theorem Lv.nil (xs:List Str):Lv xs 1 []:=⟨(fun _ h=>nomatch h),List.Pairwise.nil,(fun j h1 h2=>by lia),(by decide)⟩
theorem Lv.more {xs:List Str} {k:Nat} {ws us:List AH} (hn:xs.Nodup) (h:Lv xs k ws) (hk:k < xs.length) (js:List Nat) (hj:js.Nodup) (BL:∀ j ∈ js,j < k) (h0:js ≠ [])
  (hl:us.length=js.length) (hu:∀ (q:Nat) (u:AH) (j:Nat),us[q]? = some u->js[q]? = some j->xs[j]? = some u.1/\xs[k]? = some u.2.1/\1<=u.2.2):Lv xs (k + 1) (ws ++ us):=by
 have at_:∀ u ∈ us,∃ (q j:Nat),us[q]? = some u/\js[q]? = some j/\j < k/\xs[j]? = some u.1/\xs[k]? = some u.2.1/\1<=u.2.2:=by
  intro u hm;obtain ⟨q,hq,e⟩:=ZM hm;have e1:us[q]? = some u:=by rw [Zt hq,e]
  have e2:js[q]? = some js[q]:=Zt (by lia);obtain ⟨a,b,c⟩:=hu q u _ e1 e2;exact ⟨q,_,e1,e2,BL _ (ar _),a,b,c⟩
 exists ?_,?_,?_
 ·intro u hm;rcases Z9.mp hm with hm | hm
  ·obtain ⟨i,j,a,b,c⟩:=h.of u hm;exact ⟨i,j,a,by lia,c⟩
  ·obtain ⟨q,j,_,_,a,b,c,d⟩:=at_ u hm;exact ⟨j,k,a,by lia,b,c,d⟩
 ·rw [df];exists h.sep,?_
  ·rw [aG];intro q r hq hr hqr al;have a1:=hu q us[q] js[q] (Zt hq) (Zt (by lia));have a2:=hu r us[r] js[r] (Zt hr) (Zt (by lia));have l1:=BL js[q] (ar _);have l2:=BL js[r] (ar _);rcases al with ⟨e1,_⟩ | ⟨e1,_⟩
   ·have a3:=a1.1;rw [e1] at a3;have ej:=IV hn a3 a2.1;exact absurd ((dN hj).mp ej) (by lia)
   ·have a3:=a1.1;rw [e1] at a3;have ej:=IV hn a3 a2.2.1;lia
  ·intro u X7 v hv al;obtain ⟨i,j,hij,hjk,e1,e2,_⟩:=h.of u X7;obtain ⟨q,m,_,_,hm,e3,e4,_⟩:=at_ v hv;rcases al with ⟨_,z⟩ | ⟨z,_⟩
   ·rw [z] at e2;have:=IV hn e2 e4;lia
   ·rw [z] at e1;have:=IV hn e1 e4;lia
 ·intro j h1 h2;by_cases e:j=k
  ·subst e;cases us with
   | nil=>
    cases js with
    | nil=>exact absurd rfl h0
    | cons _ _=>cases hl
   | cons u us=>
    obtain ⟨q,m,_,_,hm,e3,e4,_⟩:=at_ u ZP;exact ⟨u,ZC _ ZP,m,hm,e3,e4⟩
  ·obtain ⟨u,hm,i,a,b⟩:=h.to j h1 (by lia);exact ⟨u,ay _ hm,i,a,b⟩
 ·have:=h.len;have hjl:js.length<=k:=by
   have:=Cf (l:=js) (xs:=ZW k) hj fun j hm=>aH.mpr (BL j hm)
   rwa [af] at this
  rw [Zy,hl];show 2 * (ws.length + js.length)<=(k + 1) * (k + 1 - 1)
  rw [dG];have e:(k + 1) * k=k * (k - 1) + 2 * k:=by
   cases k with
   | zero=>rfl
   | succ k=>
    rw [dG];simp only [Nat.succ_mul,Nat.mul_succ,Nat.add_mul,Nat.mul_add];lia
  lia
theorem Lv.ways {xs:List Str} {ws:List AH} (hn:xs.Nodup) (h:Lv xs xs.length ws):VH xs ws:=by
 refine ⟨fun u hm=>?_,h.sep,h.to,by have:=h.len; lia⟩;obtain ⟨i,j,a,b,c,d,e⟩:=h.of u hm;refine ⟨Zx c,Zx d,fun z=>?_,e⟩;rw [z] at c;have:=IV hn c d;lia
def D6 (xs:List Str) (ws:List AH):Prop:=(∀ u ∈ ws,u.1 ∈ xs/\u.2.1 ∈ xs/\u.1 ≠ u.2.1/\1<=u.2.2)/\(ws.Pairwise fun u v=>¬ J2 u v) /\
 ∀ j,0 < j->j < xs.length->∃ u ∈ ws,∃ i:Nat,i < j/\xs[i]? = some u.1/\xs[j]? = some u.2.1
theorem VH.c {xs:List Str} {ws:List AH} (h:VH xs ws):D6 xs ws:=⟨h.of,h.sep,h.to⟩
theorem D6.snoc {xs:List Str} {ws:List AH} {x y:Str} {n:Int} (h:D6 xs ws) (hx:x ∈ xs) (hy:y ∈ xs) (ne:x ≠ y) (hn:1<=n) (no:∀ u ∈ ws,¬ ((x=u.1\/x=u.2.1)/\(y=u.1\/y=u.2.1))):D6 xs (ws ++ [(x,y,n)]):=by
 refine ⟨fun u hu=>?_,?_,fun j h1 h2=>?_⟩
 ·rcases Z9.mp hu with hu | hu
  ·exact h.1 u hu
  ·rw [ZH.mp hu]; exact ⟨hx,hy,ne,hn⟩
 ·rw [df];refine ⟨h.2.1,cP _ _,fun u hu v hv al=>?_⟩;rw [ZH.mp hv] at al;refine no u hu ?_;rcases al with ⟨e1,e2⟩ | ⟨e1,e2⟩
  ·exact ⟨.inl e1.symm,.inr e2.symm⟩
  ·exact ⟨.inr e2.symm,.inl e1.symm⟩
 ·obtain ⟨u,hu,r⟩:=h.2.2 j h1 h2;exact ⟨u,ay _ hu,r⟩
theorem Js {H:Hp}:∀ {vs:List V} {ds:List PyData},AB H vs ds->vs.length=ds.length
 | _,_,.nil=>rfl
 | _,_,.cons _ r=>by rw [ak,ak,Js r]
theorem Fc {H:Hp}:∀ {vs:List V} {ws:List AH} {i:Nat} {x:V},AB H vs (ws.map EM)->vs[i]? = some x->∃ u t,ws[i]? = some u/\x=.ref t/\H t=some (.tup [.str u.1,.str u.2.1,.int u.2.2])
 | _,[],i,x,.nil,e=>by cases e
 | _,u :: ws,0,x,.cons (v:=v) h _,e=>by
  have e':v=x:=by simpa using e
  subst e';cases h with
  | tup ha hd=>
   exists u,_,rfl,rfl;cases hd with
   | cons h1 r1=>
    cases r1 with
    | cons h2 r2=>
     cases r2 with
     | cons h3 r3=>
      cases r3
      cases h1
      cases h2
      cases h3
      exact ha
 | _,u :: ws,i + 1,x,.cons _ r,e=>by
  obtain ⟨u',t,a,b⟩:=Fc (i:=i) (x:=x) r (by simpa using e);exact ⟨u',t,by simpa using a,b⟩
theorem BP {H:Hp}:∀ {vs us:List V} {ds es:List PyData},AB H vs ds->AB H us es->AB H (vs ++ us) (ds ++ es)
 | _,_,_,_,.nil,h=>h
 | _,_,_,_,.cons a r,h=>.cons a (BP r h)
theorem Mz (K:Zw) {X:Cx} (h:X.K=K):Wn X (rIxL K):=by subst h; exact Bc
theorem AU (K:Zw) {X:Cx} (h:X.K=K):Wn X (rIxT K):=by subst h; exact FC
theorem Vh (K:Zw) {X:Cx} (h:X.K=K):Ft X (compareOp .In) (rIn K false):=by subst h; exact Py
theorem Ba (K:Zw) {X:Cx} (h:X.K=K) {es:List Expr} {k:Nat} {t:Uw} {n:Nat} {pos:Pos} (hc:X.calm=true) (ht:PGs X es t)
  (hn:(assignEach es X.env).length=n:=by rfl) (hst:(assignEach es X.env).findIdx? (·.1)=none:=by rfl):PG X (.Tuple es k pos) (gTup K n t):=by subst h; exact Va hc ht hn hst
end L2
namespace L2
open PySem PySem.W PyProof.Rows
section
variable {n:Nat} (hn:0 < n)
include hn
end
end L2
namespace L2
open PySem PySem.Spec PyProof.Rows PySem.W
theorem AO.there {P:Program} {w:World} {H:Hp} {h:Heap} {a:Addr} {o:HO} (x:AO P w H h a o):∃ ob,h.get? a=some ob:=by
 cases o with
 | lst xs=>obtain ⟨_,_,_,_,e⟩:=x; exact ⟨_,e⟩
 | tup xs=>obtain ⟨_,_,_,⟨ob,e,_⟩,_⟩:=x; exact ⟨ob,e⟩
 | dK kvs=>obtain ⟨_,_,_,_,o,_,_,e,_⟩:=x; exact ⟨o,e⟩
 | dT kvs=>obtain ⟨_,_,_,_,o,_,_,e,_⟩:=x; exact ⟨o,e⟩
 | set S n=>obtain ⟨o,_,_,_,e,_⟩:=x; exact ⟨o,e⟩
 | ins C dx fs=>obtain ⟨_,_,_,e,_⟩:=x; exact ⟨_,e⟩
 | own y=>exact x
 | xd fs=>obtain ⟨_,⟨_,_,_,e,_⟩,_⟩:=x; exact ⟨_,e⟩
 | rng lo hi=>obtain ⟨_,_,_,e⟩:=x; exact ⟨_,e⟩
 | frz ob u=>obtain ⟨e,_⟩:=x; exact ⟨_,e⟩
 | tbl ps=>exact ⟨_,(show h.get? a=some _ from x)⟩
 | met f y=>exact ⟨_,(show h.get? a=some _ from x)⟩
 | ext φ=>obtain ⟨_,⟨_,e⟩,_⟩:=x; exact ⟨_,e⟩
theorem Av.laidF {X:Cx} {pins:List (Addr × Obj)} {σ:St} {H:Hp} {s:Shared} {h2:Heap} {D:Addr} {o:HO} {m:Str->Option Value} (I:Av X pins σ H s)
  (hl:s.heap.Ns X.env.locals m/\∀ (i:Nat) (x:Str) (v:V),X.N[i]? = some x->σ[i]? = some (some v)->Vis X.env.scope x->∃ u,AF v u/\Look X.env s.heap m x u) (hn:h2.Ns X.env.locals m)
  (kp:∀ b ob,b ≠ X.env.locals->s.heap.get? b=some ob->h2.get? b=some ob) (hD:s.heap.get? D=none) (hDL:D ≠ X.env.locals) (new:AO X.prog X.w (upd H D o) h2 D o):Av X pins σ (upd H D o) { s with heap:=h2 }:=by
 have fD:H D=none:=by
  cases z:H D with
  | none=>rfl
  | some u=>
   obtain ⟨ob,e⟩:=AO.there (I.hok D u z);rw [hD] at e;cases e
 have neL:∀ b ob,X.s₀.heap.get? b=some ob->b ≠ X.env.locals:=fun b ob e=>Z8 (ZF (Z1 e) I.ok.above)
 have neD:∀ b ob,s.heap.get? b=some ob->b ≠ D:=fun b ob e z=>by rw [z,hD] at e; cases e
 have cellK:∀ x c,X.env.cells.lookup x=some c->∀ v,s.heap.IsCell c v->h2.IsCell c v:=fun x c e v ⟨ob,ho,hd⟩=>⟨ob,kp c ob (I.cne x c e) ho,hd⟩
 refine ⟨I.ok,I.os,I.bare,⟨?_,?_,?_,?_,?_,?_,?_⟩,⟨m,hn,?_⟩,?_,?_,?_,?_,?_,I.len⟩
 ·exact fun b ob e n hb hx=>kp b ob (neL b ob e) (I.base.keep b ob e n hb hx)
 ·intro b ob e n hb hx;obtain ⟨sl,q⟩:=I.base.slot b ob e n hb hx;exact ⟨sl,kp b _ (neL b ob e) q⟩
 ·intro b ob e n hx;obtain ⟨X0,q⟩:=I.base.there b ob e hx;rw [Ae (neD b X0 q)];exact I.base.free b ob e n hx
 ·intro b ob e hx;obtain ⟨X0,q⟩:=I.base.there b ob e hx;exact ⟨X0,kp b X0 (neL b ob e) q⟩
 ·intro b xs e;have q:=I.base.tups b xs e;rw [Ae (Ah q fD)];exact q
 ·intro b ob u e;have q:=I.base.frzs b ob u e;rw [Ae (Ah q fD)];exact q
 ·intro b ps e;obtain ⟨more,q⟩:=I.base.tbls b ps e;exact ⟨more,by rw [Ae (Ah q fD)]; exact q⟩
 ·intro i x v e1 e2 e3;obtain ⟨u,r,l⟩:=hl.2 i x v e1 e2 e3;exists u,r;rcases l with l | ⟨k,c,e,z⟩
  ·exact .inl l
  ·exact .inr ⟨k,c,e,cellK x c e _ z⟩
 ·intro x c e;obtain ⟨v,z⟩:=I.cell x c e;exact ⟨v,cellK x c e v z⟩
 ·rw [Ae (Ne.symm hDL)];exact I.free
 ·intro x c e;obtain ⟨v,ob,ho,_⟩:=I.cell x c e;rw [Ae (neD c ob ho)];exact I.freeC x c e
 ·intro p hp;obtain ⟨e,n,ne,nf,d⟩:=I.pin p hp;exact ⟨kp _ _ ne e,by rw [Ae (neD _ _ e)]; exact n,ne,nf,d⟩
 ·intro b u e;by_cases hb:b=D
  ·subst hb;rw [Ab] at e;cases e
   exact new
  ·rw [Ae hb] at e;refine (I.hok b u e).stay (fun c v hc q=>kp c v ?_ q) (fun c q=>by rw [Ae (Ah q fD)]; exact q) fun c xs q=>by rw [Ae (Ah q fD)]; exact q
   rintro rfl;rcases hc with rfl | hc
   ·rw [I.free] at e; cases e
   ·rw [I.free] at hc; cases hc
end L2
namespace L2
open PySem PySem.Spec PyProof.Rows
section
variable {prog:Program} {w:World} {A:Around} {E:Value->Shared->Prop} {s:Shared}
end
def Cc (a b:Str):Str:=if b.cps.toList < a.cps.toList then b else a
def Cd (a b:Str):Str:=if a.cps.toList < b.cps.toList then b else a
theorem Oa {ss:List Str}:∀ {us:List Value},A9 (ss.map V.str) us->StrsAre us ss:=by
 induction ss with
 | nil=>intro us r; cases r; exact .nil
 | cons x ss ih=>
  intro us r;cases r with
  | cons r1 r2=>
   obtain ⟨t,rfl⟩:=r1;exact .cons x t (ih r2)
theorem Ij:∀ {us:List Value} {ss:List Str},StrsAre us ss->A9 (ss.map V.str) us
 | _,_,.nil=>.nil
 | _,_,.cons x t r=>.cons ⟨t,rfl⟩ (Ij r)
theorem En {X:Cx}:Bz X (.builtin "sorted") (fun xs H Q=>∃ (a:Addr) (ss:List Str),xs=[.ref a]/\AX X.K H a (ss.map V.str)/\ss.length < 64 /\
  ∀ (l:Addr) (Ea:List Str),H l=none->Ea.Perm ss->sortedS Ea=true->Q (.ref l) (upd H l (.lst (Ea.map V.str)))):=by
 intro pins s σ H xs us Q I r h;obtain ⟨a,ss,rfl,ha,Lm,q⟩:=h;obtain ⟨u,rfl,ru⟩:=Ce r;cases ru
 obtain ⟨Ax,rv,pl,hz⟩:=I.list ha;have hl:Ax.length=ss.length:=by rw [<-rv.length,Zv]
 refine sorted_strs pl.isList (Oa rv) (by lia) fun out Ea h1 h2 h3=>?_
 obtain ⟨e,he⟩:=sortedAll_at s.heap Ax out;refine ⟨.ref (s.heap.objs.size + 1),_,I.laid (o:=.lst (Ea.map V.str)) (t':=s.toks) (fun b o z=>sortedAll_old z) (ZX _) ⟨?_,out.toList,e,Ij h1,by simpa using he⟩,rfl,q _ Ea (I.hok.fresh (ZX _)) h2 h3⟩;rw [Zv,h2.length_eq];have:100 < sizeLine:=by decide
 lia
end L2
namespace L2
open PySem PySem.Spec PySem.W PyProof.Rows
theorem Kj {vs:List Value} {p:Keyed} (h:p ∈ (pairsOf vs).toList):p=(p.2,p.2)/\p.2 ∈ vs:=by
 rw [pairsOf_toList] at h;obtain ⟨e,m⟩:=mem_zip_self h;refine ⟨?_,e ▸ m⟩;obtain ⟨x,y⟩:=p;exact Prod.ext e rfl
theorem Pu (vs:List Value):(pairsOf vs).toList.map (·.2)=vs:=by
 rw [pairsOf_toList];induction vs with
 | nil=>rfl
 | cons v vs ih=>rw [dz,ZI,ih]
theorem Rq {vs:List Value} {xs:Array Keyed} (h:xs.Perm (pairsOf vs)):(xs.toList.map (·.2)).Perm vs:=by
 have q:=(Array.perm_iff_toList_perm.mp h).map (·.2);rw [Pu] at q;exact q
section
variable {prog:Program} {w:World} {A:Around} {E:Value->Shared->Prop} {s:Shared} {lt:Keyed->Keyed->Bool}
def Cmpd (prog:Program) (w:World) (s:Shared) (lt:Keyed->Keyed->Bool) (vs:List Value):Prop:=
 2<=vs.length->∀ (A:Around) (h':Heap),(∀ b o,s.heap.get? b=some o->h'.get? b=some o) ->
  ∃ κ,(∀ (Q:SortKind->Shared->Prop) (E:Value->Shared->Prop),Q κ { s with heap:=h' }->wpAny (model prog w) A (keyKind' vs.toArray) Q E { s with heap:=h' })/\VQ prog w A { s with heap:=h' } κ lt (pairsOf vs)
end
inductive OK where
 | i (n:Int)
 | s (x:Str)
 deriving DecidableEq
def Uu:OK->OK->Bool
 | .i a,.i b=>decide (a < b)
 | .s a,.s b=>decide (a.cps.toList < b.cps.toList)
 | .i _,.s _=>true
 | .s _,.i _=>false
def Kl:List OK->List OK->Bool
 | [],[]=>false
 | [],_ :: _=>true
 | _ :: _,[]=>false
 | x :: xs,y :: ys=>if x=y then Kl xs ys else Uu x y
def BZ:Value->OK
 | .int n _=>.i n
 | .str x _=>.s x
 | _=>.i 0
def LD:V->OK
 | .int n=>.i n
 | .str x=>.s x
 | _=>.i 0
def EF (h:Heap):Value->List OK
 | .ref a=>match h.get? a with
  | some o=>(match o.data with
   | .seq xs _=>xs.toList.map BZ
   | _=>[])
  | none=>[]
 | v=>[BZ v]
def PR (H:Hp):V->List OK
 | .ref a=>match H a with
  | some (.tup ys)=>ys.map LD
  | _=>[]
 | v=>[LD v]
def K2 (k:Bool) (v:V):Prop:=if k=true then ∃ x,v=.str x else ∃ n,v=.int n
def CH (k:Bool) (v:Value):Prop:=if k=true then ∃ x t,v=.str x t else ∃ n t,v=.int n t
theorem Tb {k:Bool} {v:V} {u:Value} (r:AF v u) (h:K2 k v):CH k u/\BZ u=LD v:=by
 unfold K2 at h;unfold CH;cases k with
 | true=>
  simp only [if_true] at h ⊢;obtain ⟨x,rfl⟩:=h;obtain ⟨t,rfl⟩:=r;exact ⟨⟨x,t,rfl⟩,rfl⟩
 | false=>
  simp only [ab,if_false] at h ⊢;obtain ⟨x,rfl⟩:=h;obtain ⟨t,rfl⟩:=r;exact ⟨⟨x,t,rfl⟩,rfl⟩
def NL (H:Hp) (kd:Nat->Bool) (v:V):Prop:=∃ t ys,v=.ref t/\H t=some (.tup ys)/\ys ≠ []/\∀ i y,ys[i]? = some y->K2 (kd i) y
def NJ (h:Heap) (kd:Nat->Bool) (v:Value):Prop:=∃ t o xs n,v=.ref t/\h.get? t=some o/\o.cls=.type "tuple"/\o.data=.seq xs n/\0 < xs.size/\∀ (i:Nat) x,xs.toList[i]? = some x->CH (kd i) x
theorem U5 {X:Cx} {pins:List (Addr × Obj)} {σ:St} {H:Hp} {s:Shared} (I:Av X pins σ H s) {kd:Nat->Bool} {v:V} {u:Value} (r:AF v u) (h:NL H kd v):NJ s.heap kd u/\EF s.heap u=PR H v:=by
 obtain ⟨t,ys,rfl,ht,ne,hy⟩:=h;cases r
 obtain ⟨_,Ax,rv,⟨o,ho,hc,n,hd⟩,_⟩:=(show AO X.prog X.w H s.heap t (.tup _) from I.hok t _ ht)
 have e:PR H (.ref t)=ys.map LD:=by
  show (match H t with | some (.tup ys)=>ys.map LD | _=>[])=_
  rw [ht]
 have e2:EF s.heap (.ref t)=Ax.map BZ:=by
  show (match s.heap.get? t with | some o=>(match o.data with | .seq xs _=>xs.toList.map BZ | _=>[]) | none=>[])=_
  rw [ho];dsimp only;rw [hd]
 have all:∀ {ys:List V} {Ax:List Value} (k:Nat),A9 ys Ax->(∀ i y,ys[i]? = some y->K2 (kd (k + i)) y)->(∀ (i:Nat) x,Ax[i]? = some x->CH (kd (k + i)) x)/\Ax.map BZ=ys.map LD:=by
  intro ys;induction ys with
  | nil=>intro Ax k rv _; cases rv; exact ⟨fun i x e=>by simp at e,rfl⟩
  | cons y ys ih=>
   intro Ax k rv hy;cases rv with
   | cons r1 r2=>
    obtain ⟨a1,a2⟩:=Tb r1 (hy 0 y rfl);obtain ⟨b1,b2⟩:=ih (k + 1) r2 fun i z e=>by
     have:=hy (i + 1) z (by simpa using e);rw [show k + 1 + i=k + (i + 1) by lia];exact this
    refine ⟨fun i x e=>?_,by rw [ZI,ZI,a2,b2]⟩;cases i with
    | zero=>
     rw [ao] at e;cases e
     exact a1
    | succ i=>
     have:=b1 i x (by simpa using e);rw [show k + 1 + i=k + (i + 1) by lia] at this;exact this
 obtain ⟨a1,a2⟩:=all 0 rv fun i y e=>by rw [aV]; exact hy i y e
 refine ⟨⟨t,o,Ax.toArray,n,rfl,ho,hc,hd,?_,fun i x e=>?_⟩,by rw [e,e2,a2]⟩
 ·have:=rv.length;have:0 < ys.length:=b9.mpr ne;simp;lia
 ·have:=a1 i x (by simpa using e);rw [aV] at this;exact this
section
variable {prog:Program} {w:World} {A:Around} {E:Value->Shared->Prop} {s:Shared} {Q:Bool->Shared->Prop}
theorem SM {k b:Bool} {u v:Value} (hu:CH k u) (hv:CH k v) (h:Q (Uu (BZ u) (BZ v)) s):wpAny (model prog w) A (oneLt' b u v) Q E s:=by
 unfold CH at hu hv;cases k with
 | true=>
  simp only [if_true] at hu hv;obtain ⟨x,t,rfl⟩:=hu;obtain ⟨y,t',rfl⟩:=hv;cases b with
  | true=>exact oneLt_str h
  | false=>exact kat_one _ _ (PySem.P.lt_str h)
 | false=>
  simp only [ab,if_false] at hu hv;obtain ⟨x,t,rfl⟩:=hu;obtain ⟨y,t',rfl⟩:=hv;cases b with
  | true=>exact oneLt_int h
  | false=>exact kat_one _ _ (lt_int h)
theorem V8 {k:Bool} {u v:Value} (hu:CH k u) (hv:CH k v):SeqAt.EqAt A s u v (decide (BZ u=BZ v)):=by
 unfold CH at hu hv;cases k with
 | true=>
  simp only [if_true] at hu hv;obtain ⟨x,t,rfl⟩:=hu;obtain ⟨y,t',rfl⟩:=hv;have e:decide (BZ (.str x t)=BZ (.str y t'))=(x == y):=by
   show decide (OK.s x=OK.s y)=_
   rw [aE];simp
  rw [e];exact SeqAt.EqAt.str_str x t y t'
 | false=>
  simp only [ab,if_false] at hu hv;obtain ⟨x,t,rfl⟩:=hu;obtain ⟨y,t',rfl⟩:=hv;have e:decide (BZ (.int x t)=BZ (.int y t'))=(x == y):=by
   show decide (OK.i x=OK.i y)=_
   rw [aE];simp
  rw [e];exact SeqAt.EqAt.int_int x t y t'
theorem Kn {b:Bool} {kd:Nat->Bool}:∀ (xs ys:List Value) (i:Nat),(∀ (j:Nat) x,xs[j]? = some x->CH (kd (i + j)) x)->(∀ (j:Nat) x,ys[j]? = some x->CH (kd (i + j)) x) ->
  Q (Kl (xs.map BZ) (ys.map BZ)) s->KatLex prog w A b (decide (xs.length < ys.length)) Q (xs.zip ys) i s
 | [],[],i,_,_,h=>h
 | [],y :: ys,i,_,_,h=>h
 | x :: xs,[],i,_,_,h=>h
 | x :: xs,y :: ys,i,hx,hy,h=>by
  have kx:CH (kd i) x:=hx 0 x rfl;have ky:CH (kd i) y:=hy 0 y rfl;rw [ZI,ZI] at h;unfold Kl at h;refine kat_cons (V8 kx ky _ _ _ _ ?_);refine kat_go (fun e=>kat_yes ?_) (fun e=>kat_no (SM kx ky ?_))
  ·have e':=of_decide_eq_true e;rw [if_pos e'] at h;have r:=Kn (b:=b) (kd:=kd) xs ys (i + 1) (fun j z e=>by rw [show i + 1 + j=i + (j + 1) by lia]; exact hx (j + 1) z (by simpa using e)) (fun j z e=>by rw [show i + 1 + j=i + (j + 1) by lia]; exact hy (j + 1) z (by simpa using e)) h;have e2:decide ((x :: xs).length < (y :: ys).length)=decide (xs.length < ys.length):=by simp
   rw [e2];exact r
  ·have e':=of_decide_eq_false e;rw [if_neg e'] at h;exact h
theorem U6 {kd:Nat->Bool} {u v:Value} (hu:NJ s.heap kd u) (hv:NJ s.heap kd v) (h:Q (Kl (EF s.heap u) (EF s.heap v)) s):wpAny (model prog w) A (keyLt' (tuples' true) u v) Q E s:=by
 obtain ⟨t,o,xs,n,rfl,ho,hc,hd,p,hx⟩:=hu;obtain ⟨t',o',Xq,n',rfl,Im,MK,Li,p',M3⟩:=hv;have e1:EF s.heap (.ref t)=xs.toList.map BZ:=by
  show (match s.heap.get? t with | some o=>(match o.data with | .seq xs _=>xs.toList.map BZ | _=>[]) | none=>[])=_
  rw [ho];dsimp only;rw [hd]
 have e2:EF s.heap (.ref t')=Xq.toList.map BZ:=by
  show (match s.heap.get? t' with | some o=>(match o.data with | .seq xs _=>xs.toList.map BZ | _=>[]) | none=>[])=_
  rw [Im];dsimp only;rw [Li]
 rw [e1,e2] at h;refine kat_lt ho hd Im Li ?_;have e3:decide (xs.size < Xq.size)=decide (xs.toList.length < Xq.toList.length):=by simp
 rw [e3];exact Kn (kd:=kd) _ _ 0 (fun j x e=>by rw [aV]; exact hx j x e) (fun j x e=>by rw [aV]; exact M3 j x e) h
theorem OS {kd:Nat->Bool} {vs:List Value} (h:∀ v ∈ vs,NJ s.heap kd v):Cmpd prog w s (fun x y=>Kl (EF s.heap x.1) (EF s.heap y.1)) vs:=by
 intro h2 A h' kp;have h1:∀ v ∈ vs,NJ h' kd v/\EF h' v=EF s.heap v:=fun v hv=>by
  obtain ⟨t,o,xs,n,rfl,ho,hc,hd,p,hx⟩:=h v hv;exists ⟨t,o,xs,n,rfl,kp t o ho,hc,hd,p,hx⟩;show (match h'.get? t with | some o=>(match o.data with | .seq xs _=>xs.toList.map BZ | _=>[]) | none=>[])=(match s.heap.get? t with | some o=>(match o.data with | .seq xs _=>xs.toList.map BZ | _=>[]) | none=>[])
  rw [ho,kp t o ho]
 exists tuples' true,?_
 ·intro Q E hq;have tups:∀ l:List Value,(∀ v ∈ l,NJ h' kd v)->∃ fs:List Value,KatTups h' l fs/\fs.length=l.length/\∀ f ∈ fs,CH (kd 0) f:=by
   intro l;induction l with
   | nil=>intro _; exact ⟨[],KatTups.nil,rfl,fun f hf=>nomatch hf⟩
   | cons v l ih=>
    intro hl;obtain ⟨fs,k1,k2,k3⟩:=ih fun v hv=>hl v (ZK _ hv)
    obtain ⟨t,o,xs,n,rfl,ho,hc,hd,p,hx⟩:=hl v ZP;have g:xs[0]? = some xs[0]:=cI p;refine ⟨xs[0] :: fs,KatTups.cons ho hc hd g k1,by rw [ak,ak,k2],fun f hf=>?_⟩;rcases Zz.mp hf with rfl | hf
    ·exact hx 0 _ (by rw [bo]; exact g)
    ·exact k3 f hf
  obtain ⟨fs,k1,k2,k3⟩:=tups vs fun v hv=>(h1 v hv).1
  cases ek:kd 0 with
  | true=>
   refine kat_kind (T:=.type "str") k1 (by lia) (fun v hv=>?_) rfl hq;have q:=k3 v hv;unfold CH at q;rw [ek] at q;simp only [if_true] at q;obtain ⟨x,t,rfl⟩:=q;exact Looks.now
  | false=>
   refine kat_kind (T:=.type "int") k1 (by lia) (fun v hv=>?_) rfl hq;have q:=k3 v hv;unfold CH at q;rw [ek] at q;simp only [ab,if_false] at q;obtain ⟨x,t,rfl⟩:=q;exact Looks.now
 ·intro x y hx hy Q E hq;obtain ⟨ex,mx⟩:=Kj (vs:=vs) (p:=x) (by simpa using hx);obtain ⟨ey,my⟩:=Kj (vs:=vs) (p:=y) (by simpa using hy);rw [ex,ey] at hq ⊢;dsimp only at hq ⊢;refine U6 (h1 _ mx).1 (h1 _ my).1 ?_;show Q (Kl (EF h' x.2) (EF h' y.2)) _
  rw [(h1 _ mx).2,(h1 _ my).2];exact hq
end
theorem OM {us Qt:List Value} (p:Qt.Perm us):∀ {vs:List V},A9 vs us->∃ FI,A9 FI Qt/\FI.Perm vs:=by
 induction p with
 | nil=>intro vs h; exact ⟨vs,h,.refl _⟩
 | cons x p ih=>
  intro vs h;cases h with
  | cons h1 h2=>
   obtain ⟨FI,a,b⟩:=ih h2;exact ⟨_ :: FI,.cons h1 a,b.cons _⟩
 | swap x y l=>
  intro vs h;cases h with
  | cons h1 h2=>
   cases h2 with
   | cons h3 h4=>exact ⟨_ :: _ :: _,.cons h3 (.cons h1 h4),.swap _ _ _⟩
 | trans p1 p2 WA W9=>
  intro vs h;obtain ⟨vs1,a1,b1⟩:=W9 h;obtain ⟨vs2,a2,b2⟩:=WA a1;exact ⟨vs2,a2,b2.trans b1⟩
end L2
namespace L2
open PySem PySem.Spec PyProof.Rows
section
variable {prog:Program} {w:World} {A:Around} {E:Value->Shared->Prop} {s:Shared}
end
def E5 (u:AH):AH:=(Cc u.1 u.2.1,Cd u.1 u.2.1,u.2.2)
theorem Qi {H:Hp} {vs FI:List V} (p:FI.Perm vs):∀ {ws:List AH},AB H vs (ws.map EM)->∃ GQ:List AH,AB H FI (GQ.map EM)/\GQ.Perm ws:=by
 induction p with
 | nil=>intro ws h; exact ⟨ws,h,.refl _⟩
 | cons x p ih=>
  intro ws h;cases ws with
  | nil=>cases h
  | cons u ws=>
   cases h with
   | cons h1 h2=>
    obtain ⟨GQ,a,b⟩:=ih h2;exact ⟨u :: GQ,.cons h1 a,b.cons u⟩
 | swap x y l=>
  intro ws h;cases ws with
  | nil=>cases h
  | cons u ws=>
   cases h with
   | cons h1 h2=>
    cases ws with
    | nil=>cases h2
    | cons v ws=>
     cases h2 with
     | cons h3 h4=>exact ⟨v :: u :: ws,.cons h3 (.cons h1 h4),.swap u v ws⟩
 | trans p1 p2 WA W9=>
  intro ws h;obtain ⟨ws1,a1,b1⟩:=W9 h;obtain ⟨Xr,a2,b2⟩:=WA a1;exact ⟨Xr,a2,b2.trans b1⟩
theorem Ou {X:Cx} {ix:Nat} {x:Str} {px spos:Pos} {tg iter elt:Expr} {ifs:List Expr} {scope:Scope} {cl:List (Str × Addr)} {N:List Str} {pos:Pos} {wi:TI} {g:TG} {tt:TT} {te:TE} {σ0:St->St} (hN:X.N.Nodup) (hix:X.N[ix]? = some x) (hlx:Wm X.env.scope x) (hc:X.calm=true) (co:AI X scope cl)
  (hσ:∀ σ,σ.length=X.N.length->Bd X cl scope N σ (σ0 σ)) (hi:PI X tg iter wi)
  (hb:∀ s2 H C fp,PG (A1 X scope cl N s2 H C fp) tg g/\PTs (A1 X scope cl N s2 H C fp) ifs tt/\PE (A1 X scope cl N s2 H C fp) elt te)
  (hsw:swapsWith (.ListComp elt [⟨tg,iter,ifs,0⟩] scope pos) (some (.Name x px)) spos.line X.env=pure true:=by rfl)
  (hs:∀ x,foldedSetIterable iter X.env x=pure x:=by intro _; rfl) (hf:X.fn x=true\/X.env.scope.names.lookup x=some .local:=by first | exact .inl rfl | exact .inr rfl | assumption) :
  PS X (.Assign [.Name x px] (.ListComp elt [⟨tg,iter,ifs,0⟩] scope pos) spos) (S2 (QG wi g tt te σ0) (M5 ix)):=by
 intro pins s σ H DD I h;rw [exec_Assign_Name_used _ _ _ _ hsw];refine wpAny_bind (wpAny_standAt (wpAny_bind ?_));show wpAny _ X.A (do let _ <- comprehension (.ListComp elt [⟨tg,iter,ifs,0⟩] scope pos) scope X.env _ (newList []) false (eval iter X.env) (some (assign (.Name x px) X.env))) _ _ s
 refine wpAny_bind (wpAny_mono (wpAny_comprehension_free (use:=some (assign (.Name x px) X.env)) (Q:=fun _ s'=>SP X pins DD .next s') rfl hs co.clos co.kind co.names
  (wpAny_mono (hi (pins:=pins) s σ H _ I h) (fun xv s1 h1=>wpAny_mono h1 (fun itv s2 h2=>?_) fun _ _ e=>e) fun _ _ e=>e)) (fun _ s' hq=>wpAny_pure (wpAny_pure hq)) fun _ _ e=>e)
 obtain ⟨it,fp,tn,J,H2,rfl,I2,T,HK,f2,hW⟩:=h2;refine wpAny_newObj_type (wpAny_newFunctionEnv co.cell (by intro y hy; cases hy) (fun B4 Ck BG=>?_) co.kind);dsimp only at Ck BG ⊢;generalize NC:s2.heap.push { cls:=.type "list",dict:=none,data:=.seq ([]:List Value).toArray } = HH at Ck BG ⊢;have C3:HH.objs.size=s2.heap.objs.size + 1:=by rw [<-NC,ae]
 have old:∀ b o,s2.heap.get? b=some o->B4.get? b=some o:=fun b o e=>
  BG.extBut b o (Z8 (by rw [C3]; exact ZY (Z1 e))) (Zu _ (NC ▸ Zu _ e))
 have newD:∃ n,B4.get? s2.heap.objs.size=some { cls:=.type "list",data:=.seq ([]:List Value).toArray n }:=
  ⟨_,BG.extBut _ _ (Z8 (by rw [C3]; exact ai _)) (Zu _ (NC ▸ Z5 _ rfl))⟩
 obtain ⟨W,⟨m0,w0⟩,turn⟩:=hW s2.heap.objs.size I2.fresh;have hfo:∀ b ∈ fp,∃ o,s2.heap.get? b=some o:=fun b hb=>let ⟨o,e,_⟩:=T.obj _ _ HK b hb; ⟨o,e⟩
 have I3:Av (A1 X scope cl N s2 H2 HH.objs.size fp) [] (σ0 σ) (upd H2 s2.heap.objs.size (.lst [])) { s2 with heap:=B4,toks:=s2.toks + ([]:List (Str × Value)).length }:=
  Ju I2 f2 hfo co (hσ σ I.len) old (Z4 _) (by rw [C3]; exact ZX _) (aA (by rw [C3]; exact ai _)) (.inr newD) Ck
 have fC:s2.heap.objs.size<=HH.objs.size:=by rw [C3]; exact ZX _
 obtain ⟨hg,ht,he⟩:=hb s2 H2 HH.objs.size fp;have loop:∀ C8:Shared,C8 = { s2 with heap:=B4,toks:=s2.toks + ([]:List (Str × Value)).length } ->
   codeAny (model X.prog X.w) X.A (.compLoop (.ListComp elt [⟨tg,iter,ifs,0⟩] scope pos) 0 (.ref it) (.ref s2.heap.objs.size) (compEnvC scope cl HH.objs.size X.env))
    (compPost (model X.prog X.w) X.A X.xe (some (assign (.Name x px) X.env)) (fun _ s'=>SP X pins DD .next s') (.ref s2.heap.objs.size) HH.objs.size) C8:=by
  rintro C8 rfl;have stat:∀ {H':Hp} ,(∀ b ∈ fp,H' b=none)->∀ b ∈ fp,Fh (A1 X scope cl N s2 H2 HH.objs.size fp) [] H' b:=fun hn b hb=>by
   refine ⟨hn b hb,?_,?_,.inl hb,?_,fun p hp=>by cases hp⟩
   ·obtain ⟨o,e⟩:=hfo b hb;exact Z8 (show b < HH.objs.size by rw [C3]; exact ZY (Z1 e))
   ·intro hz;obtain ⟨_,q1,q2,_⟩:=f2 b hb;rcases Zz.mp (I2.stkSub b hz) with e | e
    ·exact q1 e
    ·exact q2 e
   ·exact fun x c e=>(f2 b hb).2.2.2.2.1 x c (co.sub x c e)
  refine CD (fun n s'=>∃ i Ay H',Av (A1 X scope cl N s2 H2 HH.objs.size fp) [] Ay H' s'/\tn i s'.heap/\(∀ b ∈ fp,H' b=none)/\W i n Ay H') ?_ m0
   ⟨0,σ0 σ,_,I3,T.keep _ _ _ HK fun b hb o e=>old b o e,fun b hb=>?_,w0⟩
  ·rintro n s4 ⟨i,K4,H4,I4,MJ,RO,w4⟩;rcases turn i n K4 H4 w4 with ⟨stop,qn⟩ | ⟨go,step⟩
   ·refine wpAny_mono (T.done (A1 X scope cl N s2 H2 HH.objs.size fp) rfl rfl rfl hc i [] s4 K4 H4 (fun _ _=>False) I4 (stat RO) MJ stop) (fun r s5 ⟨hr,I5⟩=>?_) fun _ _ z=>z.elim
    subst hr;obtain ⟨m5,Vw,_⟩:=id I5.loc;have I6:Av X pins σ H4 s5:=Gg (h':=s5.heap) I2 f2 fC I5 (Heap.SameBut.refl _ _);have cC:∀ y c,X.env.cells.lookup y=some c->c ≠ HH.objs.size:=fun y c e=>by
     obtain ⟨v,q⟩:=I2.cell y c e;exact Z8 (ZF q.lt fC)
    have lC:X.env.locals ≠ HH.objs.size:=Z8 (ZF I2.lt fC);show wpAny _ X.A (assign (.Name x px) X.env (.ref s2.heap.objs.size)) _ X.xe s5
    refine wpAny_assign_Name (Gp I6 hN hix hlx (v:=.ref s2.heap.objs.size) rfl (fun s7 I7 ⟨a,sb,ha⟩=>?_) hf);have aC:a ≠ HH.objs.size:=by
     rcases ha with rfl | ha
     ·exact lC
     ·exact cC _ _ ha
    refine ⟨m5,Vw.sameBut sb (Ne.symm aC),fun h' Vv=>⟨_,H4,?_,qn⟩⟩;exact I7.turned (t':=s7.toks) (it:=HH.objs.size) (fun b o hb e=>(Vv.2 b hb).trans e) I5.free (Ne.symm lC) (.inr (ZS I2.sz fC)) cC fun p hp z=>by
     have e:=(I2.pin p hp).1;exact absurd (ZF (Z1 e) fC) (by rw [z]; exact au _)
   ·refine wpAny_mono (T.item (A1 X scope cl N s2 H2 HH.objs.size fp) rfl rfl rfl hc i [] s4 K4 H4 (fun _ _=>False) I4 (stat RO) MJ go) (fun r s5 ⟨u,hr,h5⟩=>?_) fun _ _ z=>z.elim
    subst hr;refine wpAny_mono h5 (fun _ s6 ⟨x,H6,I6,r6,y6,MZ,V5⟩=>?_) fun _ _ z=>z.elim
    have VL:=I6.pinned (stat V5) (T.obj _ _ MZ);refine wpAny_mono (hg s6 K4 H6 x u _ VL r6 (step x H6 y6)) (fun _ s7 ⟨FK,H7,I7,q7⟩=>?_) fun _ _ z=>z.elim
    refine wpAny_mono (ht s7 FK H7 _ I7 q7) (fun ok s8 ⟨H8,I8,q8⟩=>?_) fun _ _ z=>z.elim
    have again:∀ {s9:Shared} {K3:St} {H9:Hp} ,Av (A1 X scope cl N s2 H2 HH.objs.size fp) ([] ++ EV fp s6.heap) K3 H9 s9->(∃ m',m' < n/\W (i + 1) m' K3 H9)->∃ m,m < n/\∃ i Ay H',Av (A1 X scope cl N s2 H2 HH.objs.size fp) [] Ay H' s9/\tn i s9.heap/\(∀ b ∈ fp,H' b=none)/\W i m Ay H':=fun {s9 K3 H9} I9 n9=>by
     obtain ⟨m',hm,w9⟩:=n9;refine ⟨m',hm,i + 1,K3,H9,I9.unpinned,T.keep _ _ _ MZ fun b hb o e=>(I9.pin (b,o) (ZC _ (ZC _ (B6 hb e)))).1,fun b hb=>?_,w9⟩;obtain ⟨o,e,d⟩:=T.obj _ _ MZ b hb;exact (I9.pin (b,o) (ZC _ (ZC _ (B6 hb e)))).2.1
    cases ok with
    | false=>
     rw [if_neg ZD] at q8 ⊢;exact again I8 q8
    | true=>
     rw [if_pos rfl] at q8 ⊢;refine wpAny_mono (he s8 FK H8 _ I8 q8) (fun y s9 ⟨v,H9,I9,r9,acc,hacc,hsz,q9⟩=>?_) fun _ _ z=>z.elim
     refine wpAny_mono (Dn (X:=A1 X scope cl N s2 H2 HH.objs.size fp) s9 FK H9 (.ref s2.heap.objs.size) [v] (.ref s2.heap.objs.size) [y] (fun _ Su=>∃ m',m' < n/\W (i + 1) m' FK Su) I9 rfl (.cons r9 .nil) ⟨_,acc,v,rfl,rfl,hacc,hsz,q9⟩) (fun _ Y1 ⟨_,Su,VM,_,UX⟩=>?_) fun _ _ z=>z.elim
     exact again VM UX
  ·have z:=(f2 b hb).1;obtain ⟨o,e⟩:=hfo b hb;rw [Ae (Z8 (Z1 e))];exact z
 exact codeAny_compStart_list (loop _ rfl) (T.self _ 0 _ _ _ (T.keep _ _ _ HK fun b hb o e=>old b o e) (loop _ rfl))
theorem Paired.at {α β:Type} {F:α->β->Prop}:∀ {R1:List α} {Rz:List β},Paired F R1 Rz->∀ {i:Nat} {a:α},R1[i]? = some a->∃ b,Rz[i]? = some b/\F a b
 | _,_,.nil,i,a,h=>by simp at h
 | _,_,.cons r t,0,a,h=>by
  simp only [ao,ZJ.injEq] at h;subst h;exact ⟨_,rfl,r⟩
 | _,_,.cons r t,i + 1,a,h=>by
  simp only [ba] at h;obtain ⟨b,h1,h2⟩:=Paired.at t h;exact ⟨b,by simpa using h1,h2⟩
theorem Pl {P:Program} {w:World} {k:Bg} {u:Value} (h:(AS P w).is k u=true):AF (kV k) u:=by
 rcases Bs (show Jc k u=true from h) with ⟨i,t,rfl,rfl⟩ | ⟨x,t,rfl,rfl⟩
 ·exact ⟨t,rfl⟩
 ·exact ⟨t,rfl⟩
def U0 (a:Addr) (kvs:List (Bg × V)) (o:Obj):It:=
 ⟨fun i H=>H a=some (.frz o (.dK kvs))/\i < kvs.length,fun i H x H'=>H'=H/\∃ k v,kvs[i]? = some (k,v)/\x=kV k,fun i H=>H a=some (.frz o (.dK kvs))/\kvs.length<=i⟩
theorem NF {X:Cx} {pins:List (Addr × Obj)} {σ:St} {H:Hp} {s:Shared} {a:Addr} {o:Obj} {kvs:List (Bg × V)} {es:Array DictEntry} {ep:Nat} (I:Av X pins σ H s) (e:H a=some (.frz o (.dK kvs))) (he:o.data=.dict es ep) :
  (a == sysModules)=false/\∃ vs,KV kvs vs/\s.heap.DictAt (AS X.prog X.w) a vs ep:=by
 obtain ⟨ho,z,hd,vs,rel,o',Yd,Ut,h1,h2,h3,h4⟩:=(show AO X.prog X.w H s.heap a (.frz o (.dK kvs)) from I.hok a _ e)
 rw [ho] at h1;cases h1
 rw [he] at h3;injection h3 with h5 h6;subst h5 h6;exact ⟨hd,vs,rel,o,es,ho,h2,he,h4⟩
theorem OR {P:Program} {w:World} {K:Zw} {tg:Expr} (a it:Addr) {kvs:List (Bg × V)} {o:Obj} {es:Array DictEntry} {ep:Nat} (he:o.data=.dict es ep) :
  MG P w K tg (U0 a kvs o) [it] it (fun i h=>h.IsKeyIter it a i kvs.length ep) where
 mem:=by simp
 obj:=fun i h st b hb=>by
  have e:b=it:=by simpa using hb
  subst e;obtain ⟨o,e,c,d⟩:=st;exact ⟨o,e,fun v z=>by rw [d] at z; cases z⟩
 keep:=fun i h h' st k=>st.at fun o e=>k it (by simp) o e
 item:=by
  intro X hP hw hK hc i pins s σ H E I hf st hg;subst hP hw hK;obtain ⟨hq,BL⟩:=hg;obtain ⟨hd,vs,rel,da⟩:=NF I hq he;have hx:kvs[i]? = some kvs[i]:=by simp [BL]
  obtain ⟨⟨k,v⟩,hv,e1,e2⟩:=Paired.at rel hx;have hl:kvs.length=vs.length:=rel.length;obtain ⟨f0,f1,f2,f3,f4,f5⟩:=hf it (by simp);rw [hl] at st;refine wpAny_pyNext_dict_item st da hv fun key h' hkey Bh sb=>?_
  have I1:Av X pins σ H { s with heap:=h' }:=I.turned (t':=s.toks) (fun b o hb e=>(sb.2 b hb).trans e) f0 f1 f3 f4 f5;rw [<-hl] at Bh;obtain ⟨o',e,c,d⟩:=id Bh;refine ⟨key,rfl,Kq (s:={ s with heap:=h' }) e c d (by decide) ⟨kV k,H,I1,Pl hkey,⟨rfl,k,kvs[i].2,?_,rfl⟩,Bh,fun b hb=>(hf b hb).1⟩⟩;have VA:kvs[i].1=k:=e1;rw [hx,<-VA]
 done:=by
  intro X hP hw hK hc i pins s σ H E I hf st hg;subst hP hw hK;obtain ⟨hq,hle⟩:=hg;obtain ⟨hd,vs,rel,da⟩:=NF I hq he;have hl:kvs.length=vs.length:=rel.length;obtain ⟨f0,f1,f2,f3,f4,f5⟩:=hf it (by simp);rw [hl] at st;exact wpAny_pyNext_dict_end (I.ok.hd hc) st da (by simp; lia) fun h' eb=>⟨rfl,I.turned (t':=s.toks) (fun b o hb e=>eb b o hb e) f0 f1 f3 f4 f5⟩
 self:=fun _ _ _ _ _ st h=>wpAny_pyIter_keyiter st h
def ED (H:Hp) (a:Addr) (kvs:List (Bg × V)) (o:Obj) (H':Hp):Prop:=(H a=some (.dK kvs)/\H'=upd H a (.frz o (.dK kvs)))\/(H a=some (.frz o (.dK kvs))/\H'=H)
theorem ED.at {H H':Hp} {a:Addr} {kvs:List (Bg × V)} {o:Obj} (f:ED H a kvs o H'):H' a=some (.frz o (.dK kvs)):=by
 rcases f with ⟨_,rfl⟩ | ⟨e,rfl⟩
 ·exact Ab
 ·exact e
theorem ED.ne {H H':Hp} {a b:Addr} {kvs:List (Bg × V)} {o:Obj} (f:ED H a kvs o H') (h:b ≠ a):H' b=H b:=by
 rcases f with ⟨_,rfl⟩ | ⟨e,rfl⟩
 ·exact Ae h
 ·rfl
theorem Av.freeze {X:Cx} {pins:List (Addr × Obj)} {σ:St} {H:Hp} {s:Shared} {a:Addr} {kvs:List (Bg × V)} (I:Av X pins σ H s) (e:Rd H a (.dK kvs)) :
  ∃ o es ep H',o.data=.dict es ep/\ED H a kvs o H'/\Av X pins σ H' s:=by
 rcases e with e | ⟨o,e⟩
 ·obtain ⟨z,hd,vs,rel,o,es,ep,h1,h2,h3,h4⟩:=(show AO X.prog X.w H s.heap a (.dK kvs) from I.hok a _ e)
  exists o,es,ep,upd H a (.frz o (.dK kvs)),h3,.inl ⟨e,rfl⟩;exact I.write (x:=a) (e:=a) (h':=s.heap) (t':=s.toks) (by rw [e]; exact True.intro) (.inl rfl) (fun b u _ q=>q) ⟨o,h1⟩ ⟨h1,z,hd,vs,rel,o,es,ep,h1,h2,h3,h4⟩
 ·obtain ⟨ho,z,hd,vs,rel,o',es,ep,h1,h2,h3,h4⟩:=(show AO X.prog X.w H s.heap a (.frz o (.dK kvs)) from I.hok a _ e)
  rw [ho] at h1;cases h1
  exact ⟨o,es,ep,H,h3,.inr ⟨e,rfl⟩,I⟩
def iDict (tl:TE):TI:=fun σ H R=>tl σ H fun x H1=>∃ a kvs,x=.ref a/\Rd H1 a (.dK kvs)/\∀ o H2,ED H1 a kvs o H2->R (U0 a kvs o) H2
theorem Ow {X:Cx} {tg l:Expr} {tl:TE} (hl:PE X l tl):PI X tg l (iDict tl):=by
 intro pins s σ H R I h;refine By (hl (pins:=pins) s σ H _ I h) fun v s1 ⟨x,H1,I1,r1,q1⟩=>?_
 obtain ⟨a,kvs,e,hr,q⟩:=q1;subst e;cases r1
 obtain ⟨o,es,ep,H2,he,fz,I2⟩:=I1.freeze hr;obtain ⟨hd,vs,rel,da⟩:=NF I2 fz.at he;refine wpAny_pyIter_dict hd da ?_;refine ⟨s1.heap.objs.size,[s1.heap.objs.size],_,_,H2,rfl,I2.kept (t':=s1.toks) fun b o e=>Zu _ e,OR a _ he,⟨_,Z5 _ rfl,rfl,?_⟩,fun b hb=>?_,q o H2 fz⟩
 ·rw [rel.length]; rfl
 ·have e:b=s1.heap.objs.size:=by simpa using hb
  subst e;exact I2.fpOk (Z4 _) (I2.hok.fresh (Z4 _))
theorem RR {a:Addr} {kvs:List (Bg × V)} {o:Obj} {g:TG} {tb:TS} {D:Fi} {σ:St} {H:Hp} (Pv:Nat->St->Hp->Prop) (h0:Pv 0 σ H) (hl:∀ i σ H,i<=kvs.length->Pv i σ H->H a=some (.frz o (.dK kvs)))
  (hs:∀ i k v σ H,kvs[i]? = some (k,v)->Pv i σ H->g (kV k) σ H fun AG H2=>tb { D with nx:=Pv (i + 1),ct:=Pv (i + 1),bk:=D.nx } AG H2) (hd:∀ σ H,Pv kvs.length σ H->D.nx σ H) :
  ∃ W:Nat->Nat->St->Hp->Prop,(∃ m,W 0 m σ H)/\∀ i m σ H,W i m σ H ->
   ((U0 a kvs o).stop i H/\D.nx σ H)\/((U0 a kvs o).go i H/\∃ N:St->Hp->Prop,(∀ Ay H',N Ay H'->∃ m',m' < m/\W (i + 1) m' Ay H')/\∀ x H',(U0 a kvs o).yld i H x H'->g x σ H' fun AG H2=>tb { D with nx:=N,ct:=N,bk:=D.nx } AG H2):=by
 exists fun i m σ H=>m=kvs.length - i/\i<=kvs.length/\Pv i σ H,⟨kvs.length,by simp,ZQ _,h0⟩
 rintro i m σ H ⟨rfl,hi,p⟩;have q:=hl i σ H hi p;by_cases BL:i < kvs.length
 ·refine .inr ⟨⟨q,BL⟩,Pv (i + 1),fun Ay H' p'=>⟨kvs.length - (i + 1),by lia,rfl,BL,p'⟩,fun x H' y=>?_⟩;obtain ⟨e,k,v,e1,e2⟩:=y;subst e e2;exact hs i k v σ _ e1 p
 ·have e:i=kvs.length:=by lia
  subst e;exact .inl ⟨⟨q,Z4 _⟩,hd σ H p⟩
section
variable {prog:Program} {w:World} {A:Around} {E:Value->Shared->Prop} {s:Shared}
end
theorem G2 (a:List Nat):¬ a < a:=bR a
section
variable {X:Cx} {pins:List (Addr × Obj)} {σ Ay:St} {H H':Hp} {s2 s':Shared} {scope:Scope} {cl:List (Str × Addr)} {N:List Str} {fp:List Addr} {C D:Addr} {B4 h':Heap} {t':Nat}
theorem HG {ob:HO} (I:Av X pins σ H s2) (hf:∀ b ∈ fp,Fh X pins H b) (hfo:∀ b ∈ fp,∃ o,s2.heap.get? b=some o) (co:AI X scope cl) (hσ:Bd X cl scope N σ Ay)
  (k:∀ b o,s2.heap.get? b=some o->B4.get? b=some o) (hD:s2.heap.objs.size<=D) (hC:s2.heap.objs.size<=C) (hDC:C ≠ D)
  (newO:AO X.prog X.w (upd H D ob) B4 D ob) {m:Str->Option Value} (hn:B4.Ns C m) :
  Av (A1 X scope cl N s2 H C fp) [] Ay (upd H D ob) { s2 with heap:=B4,toks:=t' }:=by
 have fD:H D=none:=I.hok.fresh hD;have fC:H C=none:=I.hok.fresh hC;have lts:∀ b ∈ fp,b < s2.heap.objs.size:=fun b hb=>let ⟨_,e⟩:=hfo b hb; Z1 e
 have cells_lt:∀ x c,cl.lookup x=some c->c < s2.heap.objs.size:=fun x c e=>by
  obtain ⟨v,q⟩:=I.cell x c (co.sub x c e);exact q.lt
 have ok:Cx.Ok (A1 X scope cl N s2 H C fp):=by
  refine ⟨I.ok.mod,?_,I.ok.glob,I.ok.blt,hC,?_,?_,?_,I.ok.hd,I.ok.frames,.inl rfl,?_,I.bs,ZS I.ok.bsz I.sz,?_,?_,I.stack,I.stkFree⟩
  ·exact co.kind
  ·exact fun x y c e1 e2=>I.ok.inj x y c (co.sub x c e1) (co.sub y c e2)
  ·exact fun x h=>co.has x h
  ·exact fun x c h _=>by cases h
  ·intro b hb;refine ⟨fun e=>?_,fun x c e=>(hf b hb).2.2.2.2.1 x c (co.sub x c e)⟩;have z:=lts b hb;exact absurd (ZF z hC) (by rw [show b=C from e]; exact au _)
  ·intro b o e hb;have Io:b ∈ fp:=hb;rcases (hf b Io).2.2.2.1 with z | z
   ·exact I.ok.noex b o e z
   ·exact absurd (ZF (Z1 e) (ZS I.ok.bsz z)) (au _)
  ·intro b hb hz;have Io:b ∈ fp:=hb;obtain ⟨_,f1,f2,_⟩:=hf b Io;rcases Zz.mp (I.stkSub b hz) with e | e
   ·exact f1 e
   ·exact f2 e
 refine ⟨ok,rfl,I.bare,Un.laid k hD fD,?_,?_,?_,?_,?_,I.hok.laid k hD newO,hσ.1⟩
 ·refine ⟨m,hn,fun i x v e1 e2 _=>?_⟩;obtain ⟨⟨j,j1,j2⟩,kk,kr⟩:=hσ.2 i x v e1 e2;obtain ⟨mo,_,hl⟩:=I.loc;obtain ⟨u,r,l⟩:=hl j x v j1 j2 (by
   rcases kk with z | z
   ·exact .inr (.inl z)
   ·exact .inr (.inr z))
  refine ⟨u,r,.inr ⟨kr,?_⟩⟩;obtain ⟨c,hc⟩:=co.has x kr;rcases l with ⟨z,_⟩ | ⟨_,c',MK,hcell⟩
  ·rcases kk with q | q
   ·rw [z] at q; cases q
   ·rw [z] at q; cases q
  ·have e3:=co.sub x c hc;rw [MK] at e3;have e4:c'=c:=ZJ.inj e3;subst e4;obtain ⟨o,ho,hd⟩:=hcell;exact ⟨c',hc,o,k _ o ho,hd⟩
 ·intro x c e;obtain ⟨v,o,ho,hd⟩:=I.cell x c (co.sub x c e);exact ⟨v,o,k _ o ho,hd⟩
 ·show upd H D ob C=none
  rw [Ae hDC];exact fC
 ·intro x c e;rw [Ae (Z8 (ZF (cells_lt x c e) hD))];exact I.freeC x c (co.sub x c e)
 ·intro p hp;cases hp
end
section
variable {prog:Program} {w:World} {A:Around} {R:Result->Shared->Prop} {s:Shared}
theorem Cz {kx vx target iter:Expr} {ifs:List Expr} {scope:Scope} {pos:Pos} {it:Value} {D:Addr} {env:Env} (I:Nat->Shared->Prop)
  (turn:∀ n s,I n s->wpAny (model prog w) A (pyNext it) (fun r AR=>match r with
   | none=>R (.ok .next) AR
   | some v=>wpAny (model prog w) A (letOwnedTupleGo target it v) (fun _ LF=>wpAny (model prog w) A (assign target env v) (fun _ EI=>
     wpAny (model prog w) A (forIn ifs true fun c r=>if r=true then do let ok <- isTrue c env (eval c env); pure (ForInStep.yield ok) else pure (ForInStep.yield r)) (fun ok C8=>
      if ok=true then wpAny (model prog w) A (eval kx env) (fun kv QI=>wpAny (model prog w) A (eval vx env) (fun vv QH=>
       wpAny (model prog w) A (dictSet D kv vv) (fun _ Wr=>∃ m,m < n/\I m Wr) (notedBy (model prog w) A env fun e s'=>R (.error e) s') QH) (notedBy (model prog w) A env fun e s'=>R (.error e) s') QI) (notedBy (model prog w) A env fun e s'=>R (.error e) s') C8
      else ∃ m,m < n/\I m C8) (notedBy (model prog w) A env fun e s'=>R (.error e) s') EI) (notedBy (model prog w) A env fun e s'=>R (.error e) s') LF) (notedBy (model prog w) A env fun e s'=>R (.error e) s') AR) (notedBy (model prog w) A env fun e s'=>R (.error e) s') s)
  (n:Nat) (h:I n s) :
  codeAny (model prog w) A (.compLoop (.DictComp kx vx [⟨target,iter,ifs,0⟩] scope pos) 0 it (.ref D) env) R s:=by
 refine codeAny_loop rfl I (fun n s hI=>?_) n h;show wpAny _ A ((compTurn (.DictComp kx vx [⟨target,iter,ifs,0⟩] scope pos) 0 it (.ref D) env).onRaise (fun x=>do noteFrame x env; theTreesLotGoes x)) _ _ s
 refine wpAny_noted ?_;rw [compTurn_dict];refine wpAny_bind (wpAny_standAt (wpAny_bind (wpAny_mono (turn n s hI) (fun r AR B4=>?_) fun _ _ h'=>h')));cases r with
 | none=>exact wpAny_pure B4
 | some v=>
  refine wpAny_bind (wpAny_mono B4 (fun _ LF RB=>?_) fun _ _ h'=>h');refine wpAny_bind (wpAny_mono RB (fun _ EI G6=>wpAny_bind (wpAny_mono G6 (fun ok C8 HR=>?_) fun _ _ h'=>h')) fun _ _ h'=>h');cases ok with
  | false=>exact wpAny_pure ⟨rfl,HR⟩
  | true=>
   exact wpAny_bind (wpAny_bind (wpAny_mono HR (fun kv QI N2=>wpAny_bind (wpAny_holding (wpAny_mono N2 (fun vv QH Dc=>wpAny_bind (wpAny_standAt (wpAny_holding (wpAny_mono Dc (fun _ Wr YN=>wpAny_pure ⟨rfl,YN⟩) fun _ _ h'=>h')))) fun _ _ h'=>h'))) fun _ _ h'=>h'))
end
theorem Kv {X:Cx} {pins:List (Addr × Obj)} {σ:St} {H:Hp} {s:Shared} {a:Addr} {k:Bg} {v:V} {u r:Value} {kvs:List (Bg × V)} {A:Around} {E:Value->Shared->Prop} {Q:Unit->Shared->Prop} (I:Av X pins σ H s) (e:H a=some (.dK kvs)) (l:kvs.length < sizeLine) (ry:AF (kV k) u) (rv:AF v r)
  (h:∀ s',Av X pins σ (upd H a (.dK (BK kvs k v))) s'->Q () s'):wpAny (model X.prog X.w) A (dictSet a u r) Q E s:=by
 obtain ⟨z,hd,vs,rel,dd⟩:=RV I.hok e;have hz:vs.length<=sizeLine:=by rw [<-rel.length]; exact z
 have hl:(BK kvs k v).length<=sizeLine:=by have:=CA kvs k v; lia
 refine wpAny_dictSet_pairs (hsz:=hz) (HA ry) dd fun h' MN hs=>h _ ?_
 have he:∃ q,h'.get? a=some q:=let ⟨q,_,_,hq,_⟩:=MN; ⟨q,hq⟩;exact Ip I (by rw [e]; exact True.intro) hs he (Ln hl hd (rel.put k rv) MN)
def QF (wi:TI) (g:TG) (tt:TT) (tk tv:TE) (σ0:St->St):TE:=fun σ H Q=>wi σ H fun J H1=>∀ D,H1 D=none->∃ W:Nat->Nat->St->Hp->Prop,(∃ m,W 0 m (σ0 σ) (upd H1 D (.dK []))) /\
 ∀ i m Ay H',W i m Ay H'->(J.stop i H'/\Q (.ref D) H')\/(J.go i H'/\∀ x H2,J.yld i H' x H2->g x Ay H2 fun AG H3=>tt AG H3 fun b H4=>
  if b=true then tk AG H4 (fun y H5=>tv AG H5 fun v H6=>∃ kvs k,y=kV k/\H6 D=some (.dK kvs)/\kvs.length < sizeLine/\∃ m',m' < m/\W (i + 1) m' AG (upd H6 D (.dK (BK kvs k v)))) else ∃ m',m' < m/\W (i + 1) m' AG H4)
theorem IM {X:Cx} {tg iter kx vx:Expr} {ifs:List Expr} {scope:Scope} {cl:List (Str × Addr)} {N:List Str} {pos:Pos} {wi:TI} {g:TG} {tt:TT} {tk tv:TE} {σ0:St->St} (hc:X.calm=true) (co:AI X scope cl)
  (hσ:∀ σ,σ.length=X.N.length->Bd X cl scope N σ (σ0 σ)) (hi:PI X tg iter wi)
  (hb:∀ s2 H C fp,PG (A1 X scope cl N s2 H C fp) tg g/\PTs (A1 X scope cl N s2 H C fp) ifs tt/\PE (A1 X scope cl N s2 H C fp) kx tk/\PE (A1 X scope cl N s2 H C fp) vx tv)
  (hs:∀ x,foldedSetIterable iter X.env x=pure x:=by intro _; rfl):PE X (.DictComp kx vx [⟨tg,iter,ifs,0⟩] scope pos) (QF wi g tt tk tv σ0):=by
 intro pins s σ H Q I h;rw [arm_eval_DictComp];refine wpAny_comprehension_free (use:=none) rfl hs co.clos co.kind co.names (wpAny_mono (hi (pins:=pins) s σ H _ I h) (fun xv s1 h1=>wpAny_mono h1 (fun itv s2 h2=>?_) fun _ _ e=>e) fun _ _ e=>e);obtain ⟨it,fp,tn,J,H2,rfl,I2,T,HK,f2,hW⟩:=h2;refine wpAny_newObj_type (wpAny_newFunctionEnv co.cell (by intro y hy; cases hy) (fun B4 Ck BG=>?_) co.kind);dsimp only at Ck BG ⊢;generalize NC:s2.heap.push { cls:=.type "dict",dict:=none,data:=.dict #[] } = HH at Ck BG ⊢;have C3:HH.objs.size=s2.heap.objs.size + 1:=by rw [<-NC,ae]
 have old:∀ b o,s2.heap.get? b=some o->B4.get? b=some o:=fun b o e=>
  BG.extBut b o (Z8 (by rw [C3]; exact ZY (Z1 e))) (Zu _ (NC ▸ Zu _ e))
 have newD:AO X.prog X.w (upd H2 s2.heap.objs.size (.dK [])) B4 s2.heap.objs.size (.dK []):=
  let ⟨z,hd,vs,rel,o,es,ep,ho,r⟩:=Jq (P:=X.prog) (w:=X.w) (H:=upd H2 s2.heap.objs.size (.dK [])) s2.heap I2.big
  ⟨z,hd,vs,rel,o,es,ep,BG.extBut _ _ (Z8 (by rw [C3]; exact ai _)) (Zu _ (NC ▸ ho)),r⟩
 obtain ⟨W,⟨m0,w0⟩,turn⟩:=hW s2.heap.objs.size I2.fresh;have hfo:∀ b ∈ fp,∃ o,s2.heap.get? b=some o:=fun b hb=>let ⟨o,e,_⟩:=T.obj _ _ HK b hb; ⟨o,e⟩
 have I3:Av (A1 X scope cl N s2 H2 HH.objs.size fp) [] (σ0 σ) (upd H2 s2.heap.objs.size (.dK [])) { s2 with heap:=B4,toks:=s2.toks + ([]:List (Str × Value)).length }:=
  HG I2 f2 hfo co (hσ σ I.len) old (Z4 _) (by rw [C3]; exact ZX _) (aA (by rw [C3]; exact ai _)) newD Ck
 have fC:s2.heap.objs.size<=HH.objs.size:=by rw [C3]; exact ZX _
 obtain ⟨hg,ht,hk,hv⟩:=hb s2 H2 HH.objs.size fp;have loop:∀ C8:Shared,C8 = { s2 with heap:=B4,toks:=s2.toks + ([]:List (Str × Value)).length } ->
   codeAny (model X.prog X.w) X.A (.compLoop (.DictComp kx vx [⟨tg,iter,ifs,0⟩] scope pos) 0 (.ref it) (.ref s2.heap.objs.size) (compEnvC scope cl HH.objs.size X.env))
    (compPost (model X.prog X.w) X.A X.xe none (EP X pins σ Q) (.ref s2.heap.objs.size) HH.objs.size) C8:=by
  rintro C8 rfl;have stat:∀ {H':Hp} ,(∀ b ∈ fp,H' b=none)->∀ b ∈ fp,Fh (A1 X scope cl N s2 H2 HH.objs.size fp) [] H' b:=fun hn b hb=>by
   refine ⟨hn b hb,?_,?_,.inl hb,?_,fun p hp=>by cases hp⟩
   ·obtain ⟨o,e⟩:=hfo b hb;exact Z8 (show b < HH.objs.size by rw [C3]; exact ZY (Z1 e))
   ·intro hz;obtain ⟨_,q1,q2,_⟩:=f2 b hb;rcases Zz.mp (I2.stkSub b hz) with e | e
    ·exact q1 e
    ·exact q2 e
   ·exact fun x c e=>(f2 b hb).2.2.2.2.1 x c (co.sub x c e)
  refine Cz (fun n s'=>∃ i Ay H',Av (A1 X scope cl N s2 H2 HH.objs.size fp) [] Ay H' s'/\tn i s'.heap/\(∀ b ∈ fp,H' b=none)/\W i n Ay H') ?_ m0
   ⟨0,σ0 σ,_,I3,T.keep _ _ _ HK fun b hb o e=>old b o e,fun b hb=>?_,w0⟩
  ·rintro n s4 ⟨i,K4,H4,I4,MJ,RO,w4⟩;rcases turn i n K4 H4 w4 with ⟨stop,qn⟩ | ⟨go,step⟩
   ·refine wpAny_mono (T.done (A1 X scope cl N s2 H2 HH.objs.size fp) rfl rfl rfl hc i [] s4 K4 H4 (fun _ _=>False) I4 (stat RO) MJ stop) (fun r s5 ⟨hr,I5⟩=>?_) fun _ _ z=>z.elim
    subst hr;obtain ⟨m5,Vw,_⟩:=id I5.loc;exact ⟨m5,Vw,fun h' Vv=>⟨.ref _,H4,Gg I2 f2 fC I5 Vv,rfl,qn⟩⟩
   ·refine wpAny_mono (T.item (A1 X scope cl N s2 H2 HH.objs.size fp) rfl rfl rfl hc i [] s4 K4 H4 (fun _ _=>False) I4 (stat RO) MJ go) (fun r s5 ⟨u,hr,h5⟩=>?_) fun _ _ z=>z.elim
    subst hr;refine wpAny_mono h5 (fun _ s6 ⟨x,H6,I6,r6,y6,MZ,V5⟩=>?_) fun _ _ z=>z.elim
    have VL:=I6.pinned (stat V5) (T.obj _ _ MZ);refine wpAny_mono (hg s6 K4 H6 x u _ VL r6 (step x H6 y6)) (fun _ s7 ⟨FK,H7,I7,q7⟩=>?_) fun _ _ z=>z.elim
    refine wpAny_mono (ht s7 FK H7 _ I7 q7) (fun ok s8 ⟨H8,I8,q8⟩=>?_) fun _ _ z=>z.elim
    have again:∀ {s9:Shared} {K3:St} {H9:Hp} ,Av (A1 X scope cl N s2 H2 HH.objs.size fp) ([] ++ EV fp s6.heap) K3 H9 s9->(∃ m',m' < n/\W (i + 1) m' K3 H9)->∃ m,m < n/\∃ i Ay H',Av (A1 X scope cl N s2 H2 HH.objs.size fp) [] Ay H' s9/\tn i s9.heap/\(∀ b ∈ fp,H' b=none)/\W i m Ay H':=fun {s9 K3 H9} I9 n9=>by
     obtain ⟨m',hm,w9⟩:=n9;refine ⟨m',hm,i + 1,K3,H9,I9.unpinned,T.keep _ _ _ MZ fun b hb o e=>(I9.pin (b,o) (ZC _ (ZC _ (B6 hb e)))).1,fun b hb=>?_,w9⟩;obtain ⟨o,e,d⟩:=T.obj _ _ MZ b hb;exact (I9.pin (b,o) (ZC _ (ZC _ (B6 hb e)))).2.1
    cases ok with
    | false=>
     rw [if_neg ZD] at q8 ⊢;exact again I8 q8
    | true=>
     rw [if_pos rfl] at q8 ⊢;refine wpAny_mono (hk s8 FK H8 _ I8 q8) (fun yk s9 ⟨k,H9,I9,r9,q9⟩=>?_) fun _ _ z=>z.elim
     refine wpAny_mono (hv s9 FK H9 _ I9 q9) (fun yv Y1 ⟨v,Su,VM,Y7,kvs,key,ek,hacc,hsz,UX⟩=>?_) fun _ _ z=>z.elim
     subst ek;exact Kv (X:=A1 X scope cl N s2 H2 HH.objs.size fp) VM hacc hsz r9 Y7 fun s11 Zs=>again Zs UX
  ·have z:=(f2 b hb).1;obtain ⟨o,e⟩:=hfo b hb;rw [Ae (Z8 (Z1 e))];exact z
 exact codeAny_compStart_dict (loop _ rfl) (T.self _ 0 _ _ _ (T.keep _ _ _ HK fun b hb o e=>old b o e) (loop _ rfl))
theorem Rj {X:Cx} {ix:Nat} {x:Str} {px spos:Pos} {tg iter kx vx:Expr} {ifs:List Expr} {scope:Scope} {cl:List (Str × Addr)} {N:List Str} {pos:Pos} {wi:TI} {g:TG} {tt:TT} {tk tv:TE} {σ0:St->St} (hN:X.N.Nodup) (hix:X.N[ix]? = some x) (hlx:Wm X.env.scope x) (hc:X.calm=true) (co:AI X scope cl)
  (hσ:∀ σ,σ.length=X.N.length->Bd X cl scope N σ (σ0 σ)) (hi:PI X tg iter wi)
  (hb:∀ s2 H C fp,PG (A1 X scope cl N s2 H C fp) tg g/\PTs (A1 X scope cl N s2 H C fp) ifs tt/\PE (A1 X scope cl N s2 H C fp) kx tk/\PE (A1 X scope cl N s2 H C fp) vx tv)
  (hsw:swapsWith (.DictComp kx vx [⟨tg,iter,ifs,0⟩] scope pos) (some (.Name x px)) spos.line X.env=pure true:=by rfl)
  (hs:∀ x,foldedSetIterable iter X.env x=pure x:=by intro _; rfl) (hf:X.fn x=true\/X.env.scope.names.lookup x=some .local:=by first | exact .inl rfl | exact .inr rfl | assumption) :
  PS X (.Assign [.Name x px] (.DictComp kx vx [⟨tg,iter,ifs,0⟩] scope pos) spos) (S2 (QF wi g tt tk tv σ0) (M5 ix)):=by
 intro pins s σ H DD I h;rw [exec_Assign_Name_used _ _ _ _ hsw];refine wpAny_bind (wpAny_standAt (wpAny_bind ?_));show wpAny _ X.A (do let _ <- comprehension (.DictComp kx vx [⟨tg,iter,ifs,0⟩] scope pos) scope X.env _ newDict false (eval iter X.env) (some (assign (.Name x px) X.env))) _ _ s
 refine wpAny_bind (wpAny_mono (wpAny_comprehension_free (use:=some (assign (.Name x px) X.env)) (Q:=fun _ s'=>SP X pins DD .next s') rfl hs co.clos co.kind co.names
  (wpAny_mono (hi (pins:=pins) s σ H _ I h) (fun xv s1 h1=>wpAny_mono h1 (fun itv s2 h2=>?_) fun _ _ e=>e) fun _ _ e=>e)) (fun _ s' hq=>wpAny_pure (wpAny_pure hq)) fun _ _ e=>e)
 obtain ⟨it,fp,tn,J,H2,rfl,I2,T,HK,f2,hW⟩:=h2;refine wpAny_newObj_type (wpAny_newFunctionEnv co.cell (by intro y hy; cases hy) (fun B4 Ck BG=>?_) co.kind);dsimp only at Ck BG ⊢;generalize NC:s2.heap.push { cls:=.type "dict",dict:=none,data:=.dict #[] } = HH at Ck BG ⊢;have C3:HH.objs.size=s2.heap.objs.size + 1:=by rw [<-NC,ae]
 have old:∀ b o,s2.heap.get? b=some o->B4.get? b=some o:=fun b o e=>
  BG.extBut b o (Z8 (by rw [C3]; exact ZY (Z1 e))) (Zu _ (NC ▸ Zu _ e))
 have newD:AO X.prog X.w (upd H2 s2.heap.objs.size (.dK [])) B4 s2.heap.objs.size (.dK []):=
  let ⟨z,hd,vs,rel,o,es,ep,ho,r⟩:=Jq (P:=X.prog) (w:=X.w) (H:=upd H2 s2.heap.objs.size (.dK [])) s2.heap I2.big
  ⟨z,hd,vs,rel,o,es,ep,BG.extBut _ _ (Z8 (by rw [C3]; exact ai _)) (Zu _ (NC ▸ ho)),r⟩
 obtain ⟨W,⟨m0,w0⟩,turn⟩:=hW s2.heap.objs.size I2.fresh;have hfo:∀ b ∈ fp,∃ o,s2.heap.get? b=some o:=fun b hb=>let ⟨o,e,_⟩:=T.obj _ _ HK b hb; ⟨o,e⟩
 have I3:Av (A1 X scope cl N s2 H2 HH.objs.size fp) [] (σ0 σ) (upd H2 s2.heap.objs.size (.dK [])) { s2 with heap:=B4,toks:=s2.toks + ([]:List (Str × Value)).length }:=
  HG I2 f2 hfo co (hσ σ I.len) old (Z4 _) (by rw [C3]; exact ZX _) (aA (by rw [C3]; exact ai _)) newD Ck
 have fC:s2.heap.objs.size<=HH.objs.size:=by rw [C3]; exact ZX _
 obtain ⟨hg,ht,hk,hv⟩:=hb s2 H2 HH.objs.size fp;have loop:∀ C8:Shared,C8 = { s2 with heap:=B4,toks:=s2.toks + ([]:List (Str × Value)).length } ->
   codeAny (model X.prog X.w) X.A (.compLoop (.DictComp kx vx [⟨tg,iter,ifs,0⟩] scope pos) 0 (.ref it) (.ref s2.heap.objs.size) (compEnvC scope cl HH.objs.size X.env))
    (compPost (model X.prog X.w) X.A X.xe (some (assign (.Name x px) X.env)) (fun _ s'=>SP X pins DD .next s') (.ref s2.heap.objs.size) HH.objs.size) C8:=by
  rintro C8 rfl;have stat:∀ {H':Hp} ,(∀ b ∈ fp,H' b=none)->∀ b ∈ fp,Fh (A1 X scope cl N s2 H2 HH.objs.size fp) [] H' b:=fun hn b hb=>by
   refine ⟨hn b hb,?_,?_,.inl hb,?_,fun p hp=>by cases hp⟩
   ·obtain ⟨o,e⟩:=hfo b hb;exact Z8 (show b < HH.objs.size by rw [C3]; exact ZY (Z1 e))
   ·intro hz;obtain ⟨_,q1,q2,_⟩:=f2 b hb;rcases Zz.mp (I2.stkSub b hz) with e | e
    ·exact q1 e
    ·exact q2 e
   ·exact fun x c e=>(f2 b hb).2.2.2.2.1 x c (co.sub x c e)
  refine Cz (fun n s'=>∃ i Ay H',Av (A1 X scope cl N s2 H2 HH.objs.size fp) [] Ay H' s'/\tn i s'.heap/\(∀ b ∈ fp,H' b=none)/\W i n Ay H') ?_ m0
   ⟨0,σ0 σ,_,I3,T.keep _ _ _ HK fun b hb o e=>old b o e,fun b hb=>?_,w0⟩
  ·rintro n s4 ⟨i,K4,H4,I4,MJ,RO,w4⟩;rcases turn i n K4 H4 w4 with ⟨stop,qn⟩ | ⟨go,step⟩
   ·refine wpAny_mono (T.done (A1 X scope cl N s2 H2 HH.objs.size fp) rfl rfl rfl hc i [] s4 K4 H4 (fun _ _=>False) I4 (stat RO) MJ stop) (fun r s5 ⟨hr,I5⟩=>?_) fun _ _ z=>z.elim
    subst hr;obtain ⟨m5,Vw,_⟩:=id I5.loc;have I6:Av X pins σ H4 s5:=Gg (h':=s5.heap) I2 f2 fC I5 (Heap.SameBut.refl _ _);have cC:∀ y c,X.env.cells.lookup y=some c->c ≠ HH.objs.size:=fun y c e=>by
     obtain ⟨v,q⟩:=I2.cell y c e;exact Z8 (ZF q.lt fC)
    have lC:X.env.locals ≠ HH.objs.size:=Z8 (ZF I2.lt fC);show wpAny _ X.A (assign (.Name x px) X.env (.ref s2.heap.objs.size)) _ X.xe s5
    refine wpAny_assign_Name (Gp I6 hN hix hlx (v:=.ref s2.heap.objs.size) rfl (fun s7 I7 ⟨a,sb,ha⟩=>?_) hf);have aC:a ≠ HH.objs.size:=by
     rcases ha with rfl | ha
     ·exact lC
     ·exact cC _ _ ha
    refine ⟨m5,Vw.sameBut sb (Ne.symm aC),fun h' Vv=>⟨_,H4,?_,qn⟩⟩;exact I7.turned (t':=s7.toks) (it:=HH.objs.size) (fun b o hb e=>(Vv.2 b hb).trans e) I5.free (Ne.symm lC) (.inr (ZS I2.sz fC)) cC fun p hp z=>by
     have e:=(I2.pin p hp).1;exact absurd (ZF (Z1 e) fC) (by rw [z]; exact au _)
   ·refine wpAny_mono (T.item (A1 X scope cl N s2 H2 HH.objs.size fp) rfl rfl rfl hc i [] s4 K4 H4 (fun _ _=>False) I4 (stat RO) MJ go) (fun r s5 ⟨u,hr,h5⟩=>?_) fun _ _ z=>z.elim
    subst hr;refine wpAny_mono h5 (fun _ s6 ⟨x,H6,I6,r6,y6,MZ,V5⟩=>?_) fun _ _ z=>z.elim
    have VL:=I6.pinned (stat V5) (T.obj _ _ MZ);refine wpAny_mono (hg s6 K4 H6 x u _ VL r6 (step x H6 y6)) (fun _ s7 ⟨FK,H7,I7,q7⟩=>?_) fun _ _ z=>z.elim
    refine wpAny_mono (ht s7 FK H7 _ I7 q7) (fun ok s8 ⟨H8,I8,q8⟩=>?_) fun _ _ z=>z.elim
    have again:∀ {s9:Shared} {K3:St} {H9:Hp} ,Av (A1 X scope cl N s2 H2 HH.objs.size fp) ([] ++ EV fp s6.heap) K3 H9 s9->(∃ m',m' < n/\W (i + 1) m' K3 H9)->∃ m,m < n/\∃ i Ay H',Av (A1 X scope cl N s2 H2 HH.objs.size fp) [] Ay H' s9/\tn i s9.heap/\(∀ b ∈ fp,H' b=none)/\W i m Ay H':=fun {s9 K3 H9} I9 n9=>by
     obtain ⟨m',hm,w9⟩:=n9;refine ⟨m',hm,i + 1,K3,H9,I9.unpinned,T.keep _ _ _ MZ fun b hb o e=>(I9.pin (b,o) (ZC _ (ZC _ (B6 hb e)))).1,fun b hb=>?_,w9⟩;obtain ⟨o,e,d⟩:=T.obj _ _ MZ b hb;exact (I9.pin (b,o) (ZC _ (ZC _ (B6 hb e)))).2.1
    cases ok with
    | false=>
     rw [if_neg ZD] at q8 ⊢;exact again I8 q8
    | true=>
     rw [if_pos rfl] at q8 ⊢;refine wpAny_mono (hk s8 FK H8 _ I8 q8) (fun yk s9 ⟨k,H9,I9,r9,q9⟩=>?_) fun _ _ z=>z.elim
     refine wpAny_mono (hv s9 FK H9 _ I9 q9) (fun yv Y1 ⟨v,Su,VM,Y7,kvs,key,ek,hacc,hsz,UX⟩=>?_) fun _ _ z=>z.elim
     subst ek;exact Kv (X:=A1 X scope cl N s2 H2 HH.objs.size fp) VM hacc hsz r9 Y7 fun s11 Zs=>again Zs UX
  ·have z:=(f2 b hb).1;obtain ⟨o,e⟩:=hfo b hb;rw [Ae (Z8 (Z1 e))];exact z
 exact codeAny_compStart_dict (loop _ rfl) (T.self _ 0 _ _ _ (T.keep _ _ _ HK fun b hb o e=>old b o e) (loop _ rfl))
theorem KJ (p x:Str) (r:List Str):risingS p (x :: r)=(!ltCps x.cps.toList p.cps.toList && risingS x r):=rfl
theorem Kg:∀ (p:Str) (l:List Str),risingS p l=true->(p :: l).Pairwise fun a b=>¬ b.cps.toList < a.cps.toList
 | p,[],_=>cP _ _
 | p,x :: r,h=>by
  rw [KJ,aj,ltCps_eq] at h;have h1:¬ x.cps.toList < p.cps.toList:=by simpa using h.1
  have h2:=Kg x r h.2;refine aX.mpr ⟨fun y hy=>?_,h2⟩;rcases Zz.mp hy with rfl | hy
  ·exact h1
  ·have h3:=(aX.mp h2).1 y hy;have a:p.cps.toList<=x.cps.toList:=bg.mp h1;have b:x.cps.toList<=y.cps.toList:=bg.mp h3;exact bg.mpr (eE a b)
theorem Fm {l:List Str} (h:sortedS l=true):l.Pairwise fun a b=>¬ b.cps.toList < a.cps.toList:=by
 cases l with
 | nil=>exact .nil
 | cons p l=>exact Kg p l h
theorem Dq {a b:Str} (h1:¬ b.cps.toList < a.cps.toList) (h2:¬ a.cps.toList < b.cps.toList):a=b:=by
 have e:a.cps.toList=b.cps.toList:=List.le_antisymm (bg.mp h1) (bg.mp h2);cases a; cases b
 simp only [Str.mk.injEq];exact dI.mp e
theorem Kb {l m:List Str} (hl:l.Pairwise fun a b=>¬ b.cps.toList < a.cps.toList) (hm:m.Pairwise fun a b=>¬ b.cps.toList < a.cps.toList) (p:l.Perm m):l=m:=
 List.Perm.eq_of_pairwise (fun a b _ _ h1 h2=>Dq h1 h2) hl hm p
theorem Me {l m:List Str} (hl:l.Nodup) (hm:m.Nodup) (h:∀ x,x ∈ l ↔ x ∈ m):l.Perm m:=(List.perm_ext_iff_of_nodup hl hm).mpr h
def L6 (ws:List AH) (x y:Str):Prop:=∃ u ∈ ws,(u.1=x/\u.2.1=y)\/(u.1=y/\u.2.1=x)
theorem L6.symm {ws:List AH} {x y:Str} (h:L6 ws x y):L6 ws y x:=let ⟨u,hu,h⟩:=h; ⟨u,hu,h.symm⟩
theorem C2 (u:AH):(E5 u).1=u.1/\(E5 u).2.1=u.2.1\/(E5 u).1=u.2.1/\(E5 u).2.1=u.1:=by
 unfold E5 Cc Cd;by_cases h:u.2.1.cps.toList < u.1.cps.toList
 ·have h':¬ u.1.cps.toList < u.2.1.cps.toList:=bJ h;rw [if_pos h,if_neg h'];exact .inr ⟨rfl,rfl⟩
 ·rw [if_neg h];by_cases h':u.1.cps.toList < u.2.1.cps.toList
  ·rw [if_pos h']; exact .inl ⟨rfl,rfl⟩
  ·rw [if_neg h'];have e:u.1=u.2.1:=Dq h h';exact .inl ⟨rfl,e⟩
theorem Se {ws GQ:List AH} (p:GQ.Perm (ws.map E5)) (x y:Str):L6 GQ x y ↔ L6 ws x y:=by
 constructor
 ·rintro ⟨u,hu,h⟩;obtain ⟨v,hv,rfl⟩:=Z6.mp (p.mem_iff.mp hu);exists v,hv;rcases C2 v with ⟨e1,e2⟩ | ⟨e1,e2⟩
  ·rw [e1,e2] at h; exact h
  ·rw [e1,e2] at h;rcases h with ⟨a,b⟩ | ⟨a,b⟩
   ·exact .inr ⟨b,a⟩
   ·exact .inl ⟨b,a⟩
 ·rintro ⟨v,hv,h⟩;exists E5 v,p.mem_iff.mpr (Z6.mpr ⟨v,hv,rfl⟩);rcases C2 v with ⟨e1,e2⟩ | ⟨e1,e2⟩
  ·rw [e1,e2]; exact h
  ·rw [e1,e2];rcases h with ⟨a,b⟩ | ⟨a,b⟩
   ·exact .inr ⟨b,a⟩
   ·exact .inl ⟨b,a⟩
theorem Qf {xs:List Str} {ws GQ:List AH} (p:GQ.Perm (ws.map E5)) (h:∀ u ∈ ws,u.1 ∈ xs/\u.2.1 ∈ xs):∀ u ∈ GQ,u.1 ∈ xs/\u.2.1 ∈ xs:=fun u hu=>by
 obtain ⟨v,hv,rfl⟩:=Z6.mp (p.mem_iff.mp hu);obtain ⟨a,b⟩:=h v hv;rcases C2 v with ⟨e1,e2⟩ | ⟨e1,e2⟩ <;> rw [e1,e2]
 ·exact ⟨a,b⟩
 ·exact ⟨b,a⟩
def Lx (xs:List Str) (ws:List AH):Prop:=∀ j,0 < j->j < xs.length->∃ u ∈ ws,∃ i:Nat,i < j/\xs[i]? = some u.1/\xs[j]? = some u.2.1
theorem Lx.all {xs:List Str} {ws:List AH} (h:Lx xs ws) (S:Str->Prop) (cl:∀ x y,L6 ws x y->S x->S y) {r:Str} (hr:r ∈ xs) (sr:S r):∀ x ∈ xs,S x:=by
 have down:∀ n (i:Nat),i<=n->∀ x,xs[i]? = some x->S x->∀ x0,xs[0]? = some x0->S x0:=by
  intro n;induction n with
  | zero=>
   intro i hi x e s x0 e0;have:i=0:=by lia
   subst this;rw [e] at e0; cases e0; exact s
  | succ n ih=>
   intro i hi x e s x0 e0;by_cases hz:i=0
   ·subst hz;rw [e] at e0; cases e0; exact s
   ·obtain ⟨u,hu,k,hk,e1,e2⟩:=h i (by lia) (Z2.mp e).1;rw [e] at e2; cases e2;exact ih k (by lia) u.1 e1 (cl _ _ ⟨u,hu,.inr ⟨rfl,rfl⟩⟩ s) x0 e0
 have up:∀ x0,xs[0]? = some x0->S x0->∀ n (i:Nat),i<=n->∀ x,xs[i]? = some x->S x:=by
  intro x0 e0 s0 n;induction n with
  | zero=>
   intro i hi x e;have:i=0:=by lia
   subst this;rw [e0] at e; cases e; exact s0
  | succ n ih=>
   intro i hi x e;by_cases hz:i=0
   ·subst hz;rw [e0] at e; cases e; exact s0
   ·obtain ⟨u,hu,k,hk,e1,e2⟩:=h i (by lia) (Z2.mp e).1;rw [e] at e2; cases e2;exact cl _ _ ⟨u,hu,.inl ⟨rfl,rfl⟩⟩ (ih k (by lia) u.1 e1)
 intro x hx;obtain ⟨i,hi,e⟩:=ZM hr;obtain ⟨j,hj,e'⟩:=ZM hx;have h0:xs[0]? = some xs[0]:=Zt (by lia);have s0:S xs[0]:=down i i (Z4 _) r (by rw [Zt hi,e]) sr _ h0;exact up _ h0 s0 j j (Z4 _) x (by rw [Zt hj,e'])
section
variable {ws:List AH} {r:Str} {bs cs:List (Str × Option Str)}
theorem Q9 {α β:Type} {l:List (α × β)} (h:(l.map (·.1)).Nodup) {x:α} {a b:β} (ha:(x,a) ∈ l) (hb:(x,b) ∈ l):a=b:=by
 induction l with
 | nil=>cases ha
 | cons p l ih=>
  rw [ZI] at h;obtain ⟨h1,h2⟩:=aq.mp h;have key:∀ c,(x,c) ∈ l->p.1 ≠ x:=fun c hc z=>h1 (by rw [z]; exact Z6.mpr ⟨(x,c),hc,rfl⟩)
  rcases Zz.mp ha with e | Zf
  ·rcases Zz.mp hb with e' | WO
   ·rw [<-e] at e'; cases e'; rfl
   ·exact absurd (by rw [<-e]) (key b WO)
  ·rcases Zz.mp hb with e' | WO
   ·exact absurd (by rw [<-e']) (key a Zf)
   ·exact ih h2 Zf WO
end
section
variable {ws:List AH} {r:Str} {wk:List (Str × List Str)}
end
theorem Dp {H2 H3:Hp} {vs:List V} {ws:List AH} (h:AB H2 vs (ws.map EM)) (ht:∀ b xs,H2 b=some (.tup xs)->H3 b=some (.tup xs)):AB H3 vs (ws.map EM):=by
 induction ws generalizing vs with
 | nil=>cases h; exact .nil
 | cons u ws ih=>
  cases h with
  | cons h1 r=>
   refine .cons ?_ (ih r);cases h1 with
   | tup ha hd=>
    refine .tup (ht _ _ ha) ?_;cases hd with
    | cons h1 r1=>
     cases r1 with
     | cons h2 r2=>
      cases r2 with
      | cons h3 r3=>
       cases r3
       cases h1
       cases h2
       cases h3
       exact .cons (.str _) (.cons (.str _) (.cons (.int _) .nil))
theorem Hw {α:Type} {l:List α} (h:l.Nodup) {i j:Nat} {x:α} (a:l[i]? = some x) (b:l[j]? = some x):i=j:=
 (List.getElem?_inj (Z2.mp a).1 h).mp (a.trans b.symm)
def sK (nv:List (Str × V)):List (Bg × V):=nv.map fun q=>(Sum.inr q.1,q.2)
theorem CJ (nv:List (Str × V)):(sK nv).length=nv.length:=Zv ..
theorem KH (nv:List (Str × V)):(sK nv).map (·.1)=(nv.map (·.1)).map Sum.inr:=by unfold sK; rw [ax,ax]; rfl
theorem UJ (a b:List (Str × V)):sK (a ++ b)=sK a ++ sK b:=Z7 ..
theorem KG:∀ {nv:List (Str × V)} {y:Str},y ∉ nv.map (·.1)->B8 (sK nv) (Sum.inr y:Bg)=none
 | [],y,_=>rfl
 | q :: nv,y,h=>by
  rw [ZI,Zz,not_or] at h;show B8 ((Sum.inr q.1,q.2) :: sK nv) (Sum.inr y:Bg)=none
  rw [BB (fun z=>h.1 (Sum.inr.inj z).symm)];exact KG h.2
theorem DJ:∀ {nv:List (Str × V)} {y:Str} {v:V},(nv.map (·.1)).Nodup->(y,v) ∈ nv->B8 (sK nv) (Sum.inr y:Bg)=some v
 | [],y,v,_,h=>nomatch h
 | q :: nv,y,v,hn,h=>by
  rw [ZI] at hn;obtain ⟨h1,h2⟩:=aq.mp hn;show B8 ((Sum.inr q.1,q.2) :: sK nv) (Sum.inr y:Bg)=some v
  rcases Zz.mp h with e | h'
  ·subst e;exact BH rfl
  ·rw [BB (fun z=>h1 (by rw [Sum.inr.inj z]; exact Z6.mpr ⟨(y,v),h',rfl⟩))];exact DJ h2 h'
theorem Hq {nv:List (Str × V)} {y:Str}:(B8 (sK nv) (Sum.inr y:Bg)).isSome=decide (y ∈ nv.map (·.1)):=by
 by_cases h:y ∈ nv.map (·.1)
 ·rw [decide_eq_true h];cases e:B8 (sK nv) (Sum.inr y:Bg) with
  | some v=>rfl
  | none=>
   have:=QB e;rw [KH] at this;exact absurd (Z6.mpr ⟨y,h,rfl⟩) this
 ·rw [decide_eq_false h,KG h]; rfl
theorem DR {nv:List (Str × V)} {y:Str} {v:V} (h:y ∉ nv.map (·.1)):BK (sK nv) (Sum.inr y:Bg) v=sK (nv ++ [(y,v)]):=by
 rw [Rg v (KG h),UJ]; rfl
theorem Nd (nv:List (Str × V)) (y:Str) (v:V):∃ Ej,BK (sK nv) (Sum.inr y:Bg) v=sK Ej/\Ej.length<=nv.length + 1/\∀ z,z ∈ Ej.map (·.1) ↔ z ∈ nv.map (·.1)\/z=y:=by
 by_cases h:y ∈ nv.map (·.1)
 ·refine ⟨nv.map fun q=>if q.1=y then (q.1,v) else q,?_,by rw [Zv]; lia,fun z=>?_⟩
  ·unfold BK;have:((sK nv).any fun kv=>decide (kv.1=(Sum.inr y:Bg)))=true:=by
    rw [Co,Hq,decide_eq_true h]
   rw [if_pos this];unfold sK;rw [ax,ax];refine bA fun q _=>?_
   by_cases e:q.1=y
   ·simp [e]
   ·have e':¬ (Sum.inr q.1:Bg)=Sum.inr y:=fun z=>e (Sum.inr.inj z)
    simp [e,e']
  ·have e:(nv.map fun q=>if q.1=y then (q.1,v) else q).map (·.1)=nv.map (·.1):=by
    rw [ax];refine bA fun q _=>?_
    by_cases e:q.1=y <;> simp [e]
   rw [e];constructor
   ·exact .inl
   ·rintro (q | rfl)
    ·exact q
    ·exact h
 ·refine ⟨nv ++ [(y,v)],DR h,by simp,fun z=>by simp⟩
theorem TK {nv:List (Str × V)} {i:Nat} {k:Bg} {v:V} (h:(sK nv)[i]? = some (k,v)):∃ y,nv[i]? = some (y,v)/\k=.inr y:=by
 unfold sK at h;rw [Z0] at h;cases e:nv[i]? with
 | none=>rw [e] at h; cases h
 | some q=>
  rw [e] at h;simp only [aW,ZJ.injEq,Prod.mk.injEq] at h;exact ⟨q.1,by rw [<-h.2],h.1.symm⟩
structure Web (H:Hp) (q:Addr) (ps:List Str) (ws:List AH):Prop where
 ex:∃ tp tw us,H q=some (.tup [.ref tp,.ref tw])/\H tp=some (.tup (ps.map V.str))/\H tw=some (.tup us)/\AB H us (ws.map EM)
theorem Web.same {H H':Hp} {q:Addr} {ps:List Str} {ws:List AH} (h:Web H q ps ws) (s:∀ b xs,H b=some (.tup xs)->H' b=some (.tup xs)):Web H' q ps ws:=by
 obtain ⟨tp,tw,us,h1,h2,h3,h4⟩:=h.ex;exact ⟨tp,tw,us,s _ _ h1,s _ _ h2,s _ _ h3,Dp h4 s⟩
def Oz (ps:List Str) (ds:List Addr):List (Str × V):=(ps.zip ds).map fun q=>(q.1,V.ref q.2)
theorem IW {ps:List Str} {ds:List Addr} (h:ps.length<=ds.length):(Oz ps ds).map (·.1)=ps:=by
 unfold Oz;rw [ax];have:((fun (x:Str × V)=>x.1) ∘ fun (q:Str × Addr)=>(q.1,V.ref q.2))=Prod.fst:=rfl;rw [this,List.map_fst_zip h]
theorem Oy {ps:List Str} {ds:List Addr} {i:Nat} {p:Str} {d:Addr} (h1:ps[i]? = some p) (h2:ds[i]? = some d):(p,V.ref d) ∈ Oz ps ds:=by
 unfold Oz;refine Z6.mpr ⟨(p,d),Zx (i:=i) ?_,rfl⟩;rw [aL];exact ⟨h1,h2⟩
structure NB (H:Hp) (B:Addr) (ps:List Str) (ds:List Addr) (P:Str->Str->Prop) (n:Nat):Prop where
 top:H B=some (.dK (sK (Oz ps ds)))
 len:ds.length=ps.length
 nd:ds.Nodup
 nB:B ∉ ds
 inner:∀ (i:Nat) (p:Str) (d:Addr),ps[i]? = some p->ds[i]? = some d->∃ nv:List (Str × V),H d=some (.dK (sK nv))/\nv.length<=n/\∀ y,y ∈ nv.map (·.1) ↔ P p y
theorem NB.get {H:Hp} {B:Addr} {ps:List Str} {ds:List Addr} {P:Str->Str->Prop} {n:Nat} (h:NB H B ps ds P n) (hn:ps.Nodup) {p:Str} (hp:p ∈ ps) :
  ∃ (i:Nat) (d:Addr) (nv:List (Str × V)),ps[i]? = some p/\ds[i]? = some d/\B8 (sK (Oz ps ds)) (Sum.inr p:Bg)=some (.ref d)/\H d=some (.dK (sK nv))/\nv.length<=n/\∀ y,y ∈ nv.map (·.1) ↔ P p y:=by
 obtain ⟨i,hi,e⟩:=ZM hp;have e1:ps[i]? = some p:=by rw [Zt hi,e]
 have EL:i < ds.length:=by rw [h.len]; exact hi
 have e2:ds[i]? = some ds[i]:=Zt EL;obtain ⟨nv,a1,a2,a3⟩:=h.inner i p _ e1 e2;refine ⟨i,_,nv,e1,e2,DJ ?_ (Oy e1 e2),a1,a2,a3⟩;rw [IW (by rw [h.len]; exact Z4 _)];exact hn
theorem NB.put {H:Hp} {B:Addr} {ps:List Str} {ds:List Addr} {P:Str->Str->Prop} {n:Nat} (h:NB H B ps ds P n) {i:Nat} {p y:Str} {d:Addr} (hn:ps.Nodup) (e1:ps[i]? = some p) (e2:ds[i]? = some d) {nv Ej:List (Str × V)} (hd:H d=some (.dK (sK nv)))
  (hl:Ej.length<=nv.length + 1) (hk:∀ z,z ∈ Ej.map (·.1) ↔ z ∈ nv.map (·.1)\/z=y) (hP:∀ z,z ∈ nv.map (·.1) ↔ P p z) (hln:nv.length<=n):NB (upd H d (.dK (sK Ej))) B ps ds (fun a b=>P a b\/(a=p/\b=y)) (n + 1):=by
 have dm:d ∈ ds:=Zx e2;refine ⟨by rw [Ae (fun z=>h.nB (by rw [z]; exact dm))]; exact h.top,h.len,h.nd,h.nB,fun j q c f1 f2=>?_⟩;by_cases z:c=d
 ·subst z;have ij:i=j:=Hw h.nd e2 f2;subst ij;rw [e1] at f1; cases f1;refine ⟨Ej,Ab,by lia,fun z=>?_⟩;rw [hk,hP];simp
 ·obtain ⟨nw,b1,b2,b3⟩:=h.inner j q c f1 f2;refine ⟨nw,by rw [Ae z]; exact b1,by lia,fun y'=>?_⟩;rw [b3];have:q ≠ p:=by
   rintro rfl;have ij:=Hw hn e1 f1;subst ij;rw [e2] at f2; cases f2;exact z rfl
  simp [this]
theorem NB.mono {H:Hp} {B:Addr} {ps:List Str} {ds:List Addr} {P P':Str->Str->Prop} {n m:Nat} (h:NB H B ps ds P n) (hP:∀ a b,P a b ↔ P' a b) (hn:n<=m):NB H B ps ds P' m:=
 ⟨h.top,h.len,h.nd,h.nB,fun i p d e1 e2=>let ⟨nv,a1,a2,a3⟩:=h.inner i p d e1 e2; ⟨nv,a1,by lia,fun y=>(a3 y).trans (hP p y)⟩⟩
structure Jy (H:Hp) (q:Addr) (ps:List Str) (ws:List AH) (r:Str):Prop where
 web:Web H q ps ws
 nd:ps.Nodup
 l30:ps.length<=30
 l64:ws.length < 64
 ends:∀ u ∈ ws,u.1 ∈ ps/\u.2.1 ∈ ps
 first:ps[0]? = some r
 con:∀ S:Str->Prop,S r->(∀ x y,L6 ws x y->S x->S y)->∀ x ∈ ps,S x
theorem Jy.same {H H':Hp} {q:Addr} {ps:List Str} {ws:List AH} {r:Str} (h:Jy H q ps ws r) (s:Ao H H'):Jy H' q ps ws r:=
 ⟨h.web.same fun b xs z=>s _ _ z,h.nd,h.l30,h.l64,h.ends,h.first,h.con⟩
theorem Sd {ws:List AH} {i:Nat} {u:AH} (h:ws[i]? = some u) (a b:Str):L6 (ws.take (i + 1)) a b ↔ (L6 (ws.take i) a b\/(a=u.1/\b=u.2.1))\/(a=u.2.1/\b=u.1):=by
 rw [ZL,h];constructor
 ·rintro ⟨v,hv,e⟩;rcases Z9.mp hv with hv | hv
  ·exact .inl (.inl ⟨v,hv,e⟩)
  ·have:v=u:=by simpa using hv
   subst this;rcases e with ⟨e1,e2⟩ | ⟨e1,e2⟩
   ·exact .inl (.inr ⟨e1.symm,e2.symm⟩)
   ·exact .inr ⟨e2.symm,e1.symm⟩
 ·rintro ((⟨v,hv,e⟩ | ⟨rfl,rfl⟩) | ⟨rfl,rfl⟩)
  ·exact ⟨v,ay _ hv,e⟩
  ·exact ⟨u,ZC _ (by simp),.inl ⟨rfl,rfl⟩⟩
  ·exact ⟨u,ZC _ (by simp),.inr ⟨rfl,rfl⟩⟩
structure NR (H:Hp) (B:Addr) (ps:List Str) (ds:List Addr) (P:Str->Str->Prop):Prop where
 top:H B=some (.dK (sK (Oz ps ds)))
 len:ds.length=ps.length
 nd:ds.Nodup
 nB:B ∉ ds
 inner:∀ (i:Nat) (p:Str) (d:Addr),ps[i]? = some p->ds[i]? = some d->∃ nv:List (Str × V),Rd H d (.dK (sK nv))/\∀ y,y ∈ nv.map (·.1) ↔ P p y
theorem NB.r {H:Hp} {B:Addr} {ps:List Str} {ds:List Addr} {P:Str->Str->Prop} {n:Nat} (h:NB H B ps ds P n):NR H B ps ds P:=
 ⟨h.top,h.len,h.nd,h.nB,fun i p d e1 e2=>let ⟨nv,a1,_,a3⟩:=h.inner i p d e1 e2; ⟨nv,.inl a1,a3⟩⟩
theorem NR.get {H:Hp} {B:Addr} {ps:List Str} {ds:List Addr} {P:Str->Str->Prop} (h:NR H B ps ds P) (hn:ps.Nodup) {p:Str} (hp:p ∈ ps) :
  ∃ (i:Nat) (d:Addr) (nv:List (Str × V)),ps[i]? = some p/\ds[i]? = some d/\B8 (sK (Oz ps ds)) (Sum.inr p:Bg)=some (.ref d)/\Rd H d (.dK (sK nv))/\∀ y,y ∈ nv.map (·.1) ↔ P p y:=by
 obtain ⟨i,hi,e⟩:=ZM hp;have e1:ps[i]? = some p:=by rw [Zt hi,e]
 have EL:i < ds.length:=by rw [h.len]; exact hi
 have e2:ds[i]? = some ds[i]:=Zt EL;obtain ⟨nv,a1,a3⟩:=h.inner i p _ e1 e2;refine ⟨i,_,nv,e1,e2,DJ ?_ (Oy e1 e2),a1,a3⟩;rw [IW (by rw [h.len]; exact Z4 _)];exact hn
theorem Rd.ne {H:Hp} {a b:Addr} {u o:HO} (h:Rd H a u) (hb:a ≠ b):Rd (upd H b o) a u:=by
 rcases h with h | ⟨ob,h⟩
 ·exact .inl (by rw [Ae hb]; exact h)
 ·exact .inr ⟨ob,by rw [Ae hb]; exact h⟩
theorem Rd.fz {H H':Hp} {a b:Addr} {u:HO} {kvs:List (Bg × V)} {o:Obj} (h:Rd H a u) (f:ED H b kvs o H') (hb:a ≠ b):Rd H' a u:=by
 rcases h with h | ⟨ob,h⟩
 ·exact .inl (by rw [f.ne hb]; exact h)
 ·exact .inr ⟨ob,by rw [f.ne hb]; exact h⟩
theorem NR.other {H:Hp} {B a:Addr} {ps:List Str} {ds:List Addr} {P:Str->Str->Prop} {o:HO} (h:NR H B ps ds P) (ha:a ∉ ds) (hB:a ≠ B):NR (upd H a o) B ps ds P:=
 ⟨by rw [Ae (Ne.symm hB)]; exact h.top,h.len,h.nd,h.nB,fun i p d e1 e2=>let ⟨nv,a1,a3⟩:=h.inner i p d e1 e2
  ⟨nv,a1.ne (fun z=>ha (by rw [<-z]; exact Zx e2)),a3⟩⟩
theorem NR.freeze {H H':Hp} {B:Addr} {ps:List Str} {ds:List Addr} {P:Str->Str->Prop} (h:NR H B ps ds P) {i:Nat} {p:Str} {d:Addr} (e1:ps[i]? = some p) (e2:ds[i]? = some d) {nv:List (Str × V)} {o:Obj} (f:ED H d (sK nv) o H') (hP:∀ y,y ∈ nv.map (·.1) ↔ P p y):NR H' B ps ds P:=by
 have dm:d ∈ ds:=Zx e2;refine ⟨by rw [f.ne (fun z=>h.nB (by rw [z]; exact dm))]; exact h.top,h.len,h.nd,h.nB,fun j q c f1 f2=>?_⟩;by_cases z:c=d
 ·subst z;have ij:i=j:=Hw h.nd e2 f2;subst ij;rw [e1] at f1; cases f1;exact ⟨nv,.inr ⟨o,f.at⟩,hP⟩
 ·obtain ⟨nw,b1,b3⟩:=h.inner j q c f1 f2;exact ⟨nw,b1.fz f z,b3⟩
theorem S7 {nv Ej:List (Str × V)} {y:Str} {v:V} (e:BK (sK nv) (Sum.inr y:Bg) v=sK Ej) (hn:(nv.map (·.1)).Nodup):(Ej.map (·.1)).Nodup:=by
 have inj:∀ {a b:List (Str × V)},(sK a).map (·.1)=(sK b).map (·.1)->a.map (·.1)=b.map (·.1):=fun {a b} h=>by
  rw [KH,KH] at h;exact dA (fun x y z=>Sum.inr.inj z) |>.mp h
 by_cases h:y ∈ nv.map (·.1)
 ·have e2:(BK (sK nv) (Sum.inr y:Bg) v).map (·.1)=(sK nv).map (·.1):=by
   unfold BK;have:((sK nv).any fun kv=>decide (kv.1=(Sum.inr y:Bg)))=true:=by rw [Co,Hq,decide_eq_true h]
   rw [if_pos this,ax];refine bA fun q _=>?_
   by_cases e:q.1=(Sum.inr y:Bg) <;> simp [e]
  rw [e] at e2;rw [inj e2];exact hn
 ·rw [DR h] at e;have e2:(nv ++ [(y,v)]).map (·.1)=Ej.map (·.1):=inj (by rw [e]);rw [<-e2,Z7];refine aI.mpr ⟨hn,aq.mpr ⟨by simp,.nil⟩,fun a ha b hb=>?_⟩;have e3:b=y:=by simpa using hb
  subst e3;rintro rfl;exact h ha
section
variable {ws:List AH} {r:Str} {bs:List (Str × Option Str)} {wk:List (Str × List Str)} {ps:List Str}
end
theorem Gw {α:Type} {l:List (Str × α)} (h:(l.map (·.1)).Nodup) (f:Str × α->Bool):((l.filter f).map (·.1)).Nodup:=by
 have s:List.Sublist ((l.filter f).map (·.1)) (l.map (·.1)):=List.Sublist.map _ List.filter_sublist;exact s.nodup h
theorem Av.thaw {X:Cx} {pins:List (Addr × Obj)} {σ:St} {H:Hp} {s:Shared} {a:Addr} {o:Obj} {u:HO} (I:Av X pins σ H s) (e:H a=some (.frz o u)) (h0:∀ ob w,X.H₀ a ≠ some (.frz ob w)) (hu:u ≠ .own a/\∀ xs,u ≠ .tup xs):Av X pins σ (upd H a u) s:=by
 obtain ⟨ho,hok⟩:=(show AO X.prog X.w H s.heap a (.frz o u) from I.hok a _ e)
 have nn:∀ b,H b=none->b ≠ a:=fun b hb z=>by rw [z,e] at hb; cases hb
 have own:∀ b y,H b=some (.own y)->b ≠ a:=fun b y hb z=>by rw [z,e] at hb; cases hb
 have tup:∀ b xs,H b=some (.tup xs)->b ≠ a:=fun b xs hb z=>by rw [z,e] at hb; cases hb
 refine ⟨I.ok,I.os,I.bare,⟨I.base.keep,I.base.slot,fun b ob q n hx=>?_,I.base.there,fun b xs q=>?_,fun b ob w q=>?_,fun b ps q=>?_⟩,I.loc,I.cell,?_,fun x c q=>?_,fun p hp=>?_,fun b w q=>?_,I.len⟩
 ·have z:=I.base.free b ob q n hx;rw [Ae (nn b z)]; exact z
 ·have z:=I.base.tups b xs q;rw [Ae (tup b xs z)]; exact z
 ·have z:=I.base.frzs b ob w q;by_cases hb:b=a
  ·subst hb; exact absurd q (h0 ob w)
  ·rw [Ae hb]; exact z
 ·obtain ⟨more,z⟩:=I.base.tbls b ps q;exists more;rw [Ae (fun hb=>by rw [hb,e] at z; cases z)]; exact z
 ·rw [Ae (nn _ I.free)]; exact I.free
 ·rw [Ae (nn _ (I.freeC x c q))]; exact I.freeC x c q
 ·obtain ⟨z1,z2,z3⟩:=I.pin p hp;exact ⟨z1,by rw [Ae (nn _ z2)]; exact z2,z3⟩
 ·by_cases hb:b=a
  ·subst hb;rw [Ab] at q;cases q
   exact hok.stay (fun c v _ z=>z) (fun c z=>by rw [Ae (own c _ z)]; exact z) fun c xs z=>by rw [Ae (tup c xs z)]; exact z
  ·rw [Ae hb] at q;exact (I.hok b w q).stay (fun c v _ z=>z) (fun c z=>by rw [Ae (own c _ z)]; exact z) fun c xs z=>by rw [Ae (tup c xs z)]; exact z
theorem SH {X:Cx} {e:Expr} {t:TE} (h:PE X e t):PE X e (fun σ H Q=>t σ H fun x H1=>∃ a o kvs,H1 a=some (.frz o (.dK kvs))/\(∀ ob w,X.H₀ a ≠ some (.frz ob w))/\Q x (upd H1 a (.dK kvs))):=by
 intro pins s σ H Q I q;refine By (h (pins:=pins) s σ H _ I q) fun v s1 ⟨x,H1,I1,r1,a,o,kvs,e1,h0,q1⟩=>?_
 exact ⟨x,_,I1.thaw e1 h0 ⟨(by intro z; cases z),(by intro xs z; cases z)⟩,r1,q1⟩
def EJ (A:Around) (s:Shared) (x y:Value) (b:Bool):Prop:=∀ (prog:Program) (w:World) (E Q:Value->Shared->Prop),Q (.bool b) s->wpAny (model prog w) A (richCompare .Lt x y) Q E s
theorem EJ.int (A:Around) (s:Shared) (a:Int) (t:Tok) (c:Int) (u:Tok):EJ A s (.int a t) (.int c u) (decide (a < c)):=fun prog w E Q h=>
 (PyProof.Rows.lt_int h:wpAny (model prog w) A (compareOp .Lt (.int a t) (.int c u)) Q E s)
theorem EJ.str (A:Around) (s:Shared) (a:Str) (t:Tok) (c:Str) (u:Tok):EJ A s (.str a t) (.str c u) (decide (a.cps.toList < c.cps.toList)):=fun prog w E Q h=>
 (PySem.P.lt_str h:wpAny (model prog w) A (compareOp .Lt (.str a t) (.str c u)) Q E s)
section
open PySem.SeqAt
open PySem.AutoSeq1 (wpAny_loadPart')
open PySem.MeetsSeq PySem.MeetsSeq2 PySem.MeetsSeq3
theorem OT (l b:Addr) (x1 x2 y1 y2:Value) (n n2:Nat) (dd Sn:Option Addr) (sl TJ:Array (Option Value)) (e1 b1 e2 b2:Bool) :
  Meets (Builtin.«tuple.__lt__» ⟨[.ref l,.ref b],[]⟩)
   (fun A R s=>s.heap.get? l=some { cls:=.type "tuple",dict:=dd,data:=.seq #[x1,x2] n,slots:=sl }/\s.heap.get? b=some { cls:=.type "tuple",dict:=Sn,data:=.seq #[y1,y2] n2,slots:=TJ } /\
    EqAt A.in1 s x1 y1 e1/\(e1=false->EJ A.in1 s x1 y1 b1)/\(e1=true->EqAt A.in1 s x2 y2 e2/\(e2=false->EJ A.in1 s x2 y2 b2)) /\
    R (.ok (.ret (.bool (if e1=true then (if e2=true then false else b2) else b1)))) s):=
 .of_wp fun prog w A R s h=>by
  obtain ⟨hp,g,d,tk,os⟩:=s; obtain ⟨hl,hb,Wf,HS,h2,h⟩:=h;have f2:=AutoSeq1.sub_tuple_tuple;wp_walk using wpAny_loadPart' hl,wpAny_loadPart' hb,wpAny_forIn_list _ (fun rest b s'=>b.1=none/\s'=⟨hp,g,d,tk,os⟩/\(rest=[(x1,y1),(x2,y2)]\/(rest=[(x2,y2)]/\e1=true)\/(rest=[]/\e1=true/\e2=true))) _
  case turn=>
   rintro ⟨y,x⟩ rest b s' ⟨Io,rfl,hz | ⟨hz,h1⟩ | ⟨hz,_⟩⟩
   ·cases hz
    refine wpAny_bind (Wf prog w _ _ ?_);cases ee:e1 with
    | true=>
     wp_walk
     exact ⟨rfl,rfl,.inr (.inl ⟨rfl,rfl⟩)⟩
    | false=>
     rw [ee,if_neg ZD] at h;have hri:=HS ee prog w;wp_walk using hri;exact ⟨_,rfl,by simpa using h⟩
   ·cases hz
    obtain ⟨Ze,HF⟩:=h2 h1;rw [if_pos h1] at h;refine wpAny_bind (Ze prog w _ _ ?_);cases ee:e2 with
    | true=>
     wp_walk
     exact ⟨rfl,rfl,.inr (.inr ⟨rfl,h1,rfl⟩)⟩
    | false=>
     rw [ee,if_neg ZD] at h;have hri:=HF ee prog w;wp_walk using hri;exact ⟨_,rfl,by simpa using h⟩
   ·cases hz
  case fin=>
   rintro ⟨Tr,b2'⟩ s' ⟨Io,rfl,hz | ⟨hz,h1⟩ | ⟨hz,h1,Zk⟩⟩
   ·cases hz
   ·cases hz
   ·simp only at Io;subst Io;rw [if_pos h1,if_pos Zk] at h;wp_walk;exact ⟨_,rfl,by simpa [Builtin.Tuple.tupleCompareSizes] using h⟩
  case h=>
   exact ⟨rfl,rfl,.inl rfl⟩
end
theorem EJ.tup2 {A:Around} {s:Shared} {l b:Addr} {x1 x2 y1 y2:Value} {e1 b1 e2 b2:Bool} (hl:IsTup s.heap l #[x1,x2]) (hb:IsTup s.heap b #[y1,y2]) (hu:A.units < cLine) (h1:SeqAt.EqAt A.in1 s x1 y1 e1) (l1:e1=false->EJ A.in1 s x1 y1 b1)
  (h2:e1=true->SeqAt.EqAt A.in1 s x2 y2 e2/\(e2=false->EJ A.in1 s x2 y2 b2)):EJ A s (.ref l) (.ref b) (if e1=true then (if e2=true then false else b2) else b1):=fun prog w E Q h=>by
 obtain ⟨⟨cls,dd,data,sl⟩,ho,hc,n,hd⟩:=id hl;obtain ⟨⟨Xi,Sn,data2,TJ⟩,Sl,Sm,n2,hd2⟩:=id hb;simp only at hc hd Sm hd2;subst hc hd Sm hd2;exact richCompare_meets_room (op:=.Lt) ⟨_,ho,rfl⟩ ⟨_,Sl,rfl⟩ PySem.F.slot_tuple_lt PySem.F.entry_tuple_lt (PySem.F.args_tuple_lt_2 _ _) (OT l b x1 x2 y1 y2 n n2 dd Sn sl TJ e1 b1 e2 b2)
  ⟨ho,Sl,h1,l1,h2,show Value.bool _ ≠ Value.notImplemented/\Q (.bool _) s from ⟨(fun x=>nomatch x),h⟩⟩ hu
def PN (p q:Int × Str):Bool:=if (p.1 == q.1)=true then (if (p.2 == q.2)=true then false else decide (p.2.cps.toList < q.2.cps.toList)) else decide (p.1 < q.1)
def D7 (h:Heap) (v:Value) (p:Int × Str):Prop:=∃ a t u,v=.ref a/\IsTup h a #[.int p.1 t,.str p.2 u]
theorem D7.keep {h h':Heap} {v:Value} {p:Int × Str} (x:D7 h v p) (k:∀ b o,h.get? b=some o->h'.get? b=some o):D7 h' v p:=by
 obtain ⟨a,t,u,rfl,o,ho,r⟩:=x;exact ⟨a,t,u,rfl,o,k _ _ ho,r⟩
theorem Lc {A:Around} {s:Shared} {v w:Value} {p q:Int × Str} (hv:D7 s.heap v p) (hw:D7 s.heap w q) (hu:A.units < cLine):EJ A s v w (PN p q):=by
 obtain ⟨a,t,u,rfl,hl⟩:=hv;obtain ⟨b,t',u',rfl,hb⟩:=hw;exact EJ.tup2 hl hb hu (SeqAt.EqAt.int_int _ _ _ _) (fun _=>EJ.int _ _ _ _ _ _) fun _=>⟨SeqAt.EqAt.str_str _ _ _ _,fun _=>EJ.str _ _ _ _ _ _⟩
theorem Ti {A:Around} {s:Shared} {v w:Value} {p q:Int × Str} (hv:D7 s.heap v p) (hw:D7 s.heap w q) (hu:A.units < cLine):SeqAt.EqAt A s v w (decide (p=q)):=by
 obtain ⟨a,t,u,rfl,hl⟩:=hv;obtain ⟨b,t',u',rfl,hb⟩:=hw;by_cases hab:a=b
 ·subst hab;have e:p=q:=by
   obtain ⟨o,ho,hc,n,hd⟩:=hl;obtain ⟨o',Im,MK,n',Li⟩:=hb;rw [ho] at Im;cases Im
   rw [hd] at Li;injection Li with e1 e2;have e3:=congrArg bK e1;simp only [bU.injEq,Value.int.injEq,Value.str.injEq] at e3;exact Prod.ext e3.1.1 e3.2.1.1
  rw [decide_eq_true e];intro prog w E Q h;unfold eqBool;refine wpAny_holding ?_;exact wpAny_ite_split (fun _=>wpAny_bind (wpAny_rule (wpAny_pure h))) (fun hn=>absurd (by simp) hn)
 ·have key:=SeqAt.RcAt.tuples (A:=A) (s:=s) (e:=fun j=>if j=0 then p.1 == q.1 else p.2 == q.2) (show s.heap.IsTuple a #[.int p.1 t,.str p.2 u] from hl) (show s.heap.IsTuple b #[.int q.1 t',.str q.2 u'] from hb) hu (fun j h1 h2=>by
   match j,h1,h2 with
   | 0,_,_=>exact SeqAt.EqAt.int_int _ _ _ _
   | 1,_,_=>exact SeqAt.EqAt.str_str _ _ _ _
   | j + 2,h1,_=>exact absurd (show j + 2 < 2 from h1) (by lia))
  have e:((ZW (min (#[Value.int p.1 t,.str p.2 u]:Array Value).size (#[Value.int q.1 t',.str q.2 u']:Array Value).size)).all (fun j=>if j=0 then p.1 == q.1 else p.2 == q.2) && (#[Value.int p.1 t,.str p.2 u]:Array Value).size == (#[Value.int q.1 t',.str q.2 u']:Array Value).size)=decide (p=q):=by
   show ((ZW 2).all (fun j=>if j=0 then p.1 == q.1 else p.2 == q.2) && (2 == 2))=decide (p=q)
   have:(ZW 2)=[0,1]:=rfl;rw [this];simp only [bZ,List.all_nil,eD,beq_self_eq_true];rw [aE];simp [Prod.ext_iff]
  rw [e] at key;exact SeqAt.EqAt.of_refs hab key
def J1 (h:Heap) (v:Value) (k:(Int × Str) × Str):Prop:=∃ a l u,v=.ref a/\IsTup h a #[.ref l,.str k.2 u]/\D7 h (.ref l) k.1
theorem J1.keep {h h':Heap} {v:Value} {p:(Int × Str) × Str} (x:J1 h v p) (k:∀ b o,h.get? b=some o->h'.get? b=some o):J1 h' v p:=by
 obtain ⟨a,l,u,rfl,⟨o,ho,r⟩,z⟩:=x;exact ⟨a,l,u,rfl,⟨o,k _ _ ho,r⟩,z.keep k⟩
def Ub (p q:(Int × Str) × Str):Bool:=if decide (p.1=q.1)=true then (if (p.2 == q.2)=true then false else decide (p.2.cps.toList < q.2.cps.toList)) else PN p.1 q.1
theorem Vm {A:Around} {s:Shared} {v w:Value} {p q:(Int × Str) × Str} (hv:J1 s.heap v p) (hw:J1 s.heap w q) (hu:A.units + 1 < cLine):EJ A s v w (Ub p q):=by
 obtain ⟨a,l,u,rfl,hl,hp⟩:=hv;obtain ⟨b,l',u',rfl,hb,hq⟩:=hw;exact EJ.tup2 hl hb (by lia) (Ti hp hq (by rw [PySem.Around.in1_units]; exact hu)) (fun _=>Lc hp hq (by rw [PySem.Around.in1_units]; exact hu)) fun _=>⟨SeqAt.EqAt.str_str _ _ _ _,fun _=>EJ.str _ _ _ _ _ _⟩
def T9 (prog:Program) (w:World) (A:Around) (g0:Heap) (P:Nat->Value->Prop) (bt:Nat->Nat->Bool):Prop:=
 ∀ i j vi vj (s:Shared) (Q:Value->Shared->Prop) (E:Value->Shared->Prop),(∀ b o,g0.get? b=some o->s.heap.get? b=some o)->P i vi->P j vj->Q (.bool (bt i j)) s->wpAny (model prog w) A (richCompare .Lt vi vj) Q E s
section
variable {prog:Program} {w:World} {A:Around} {R:Result->Shared->Prop} {I:Addr} {fp wr:List Addr} {n:Nat} {P:Nat->Value->Prop} {St:Nat->Heap->Prop} {g0:Heap}
theorem PJ (W:Walks prog w A.in1 I fp wr n P St) (bt:Nat->Nat->Bool) (cm:T9 prog w A.in1 g0 P bt) (S:Addr) (nS:S ∉ fp) (gw:∀ b o,g0.get? b=some o->b ∉ wr/\b ≠ S) :
  ∀ (m j:Nat) (s:Shared) (bv:Value) (c:Nat),n - (j + 1)=m->j + 1<=n->St (j + 1) s.heap->P (argBest bt j) bv->(∀ b o,g0.get? b=some o->s.heap.get? b=some o) ->
  s.heap.get? S=some { cls:=.type "list",dict:=none,data:=.seq #[bv,bv] c,slots:=#[] } ->
  (∀ v h2 tk,P (argBest bt (n - 1)) v->(∀ b o,b ∉ wr->b ≠ S->s.heap.get? b=some o->h2.get? b=some o)->R (.ok (.ret v)) { s with heap:=h2,toks:=tk }) ->
  codeAny (model prog w) A (.builtin "min.loop" ⟨[.ref I,.none,.ref S],[]⟩) R s:=by
 have Sw:S ∉ wr:=fun z=>nS (W.sub _ z)
 have nm:(toString "min" ++ toString ".loop":String)="min.loop":=by decide
 intro m;induction m with
 | zero=>
  intro j s bv c hm hj st pb g1 aS r;have jn:j + 1=n:=by lia
  refine codeAny_builtin F.entry_min_loop ?_;rw [Around.under_plainId F.plain_min_loop _];refine wpAny_bind (m:=seqItems? (.ref S)) (wpAny_seqItems aS rfl ?_);refine wpAny_bind (wpAny_tryCatch (W.done s _ _ (jn ▸ st) fun h2 tk k2=>?_));have Uv:=k2 S _ Sw aS;refine wpAny_bind (m:=updateSeq S (fun _=>#[])) ?_;refine wpAny_updateSeq Uv rfl (wpAny_bind (wpAny_letGo (wpAny_pure ?_)));exact r bv _ tk (by rw [<-jn]; exact pb) fun b o bw bS e=>(aa _ _ (Ne.symm bS)).trans (k2 b o bw e)
 | succ m ih=>
  intro j s bv c hm hj st pb g1 aS r;have lt:j + 1 < n:=by lia
  refine codeAny_builtin F.entry_min_loop ?_;rw [Around.under_plainId F.plain_min_loop _];refine wpAny_bind (m:=seqItems? (.ref S)) (wpAny_seqItems aS rfl ?_);refine wpAny_bind (wpAny_tryCatch (W.item (j + 1) s _ _ lt st fun v h2 tk pv HK k2=>?_));have Uv:=k2 S _ Sw aS;have g2:∀ b o,g0.get? b=some o->h2.get? b=some o:=fun b o e=>k2 b o (gw b o e).1 (g1 b o e)
  show wpAny _ A.in1 (tryCatch (holding [v,v] (richCompare .Lt v bv >>= _)) _ >>= _) _ _ _
  refine wpAny_bind (wpAny_tryCatch (wpAny_holding (wpAny_bind (cm (j + 1) (argBest bt j) v bv _ _ _ g2 pv pb ?_))));refine wpAny_bind (wpAny_holding (wpAny_truthy_bool ?_));refine wpAny_bind (wpAny_letGo (wpAny_pure ?_));cases hb:bt (j + 1) (argBest bt j) with
  | true=>
   simp only [if_true];refine wpAny_bind ?_;refine wpAny_updateSeq Uv rfl (wpAny_bind (wpAny_letGo ?_));rw [nm];refine wpAny_pure ⟨plainId_quiet F.plain_min_loop _,ih (j + 1) _ v _ (by lia) lt (W.frame _ _ _ HK fun b bf o e=>?_) (by simp only [argBest,hb,if_true]; exact pv) (fun b o e=>?_) (ah _ Uv rfl) fun v' h3 UA Wx k3=>?_⟩
   ·exact (aa _ _ (fun z:S=b=>nS (by rw [z]; exact bf))).trans e
   ·exact (aa _ _ (Ne.symm (gw b o e).2)).trans (g2 b o e)
   ·exact r v' h3 UA Wx fun b o bw bS e=>k3 b o bw bS ((aa _ _ (Ne.symm bS)).trans (k2 b o bw e))
  | false=>
   simp only [ab,if_false];refine wpAny_bind (wpAny_letGo ?_);rw [nm];refine wpAny_pure ⟨plainId_quiet F.plain_min_loop _,ih (j + 1) _ bv c (by lia) lt HK (by simp only [argBest,hb,ab,if_false]; exact pb) g2 Uv fun v' h3 UA Wx k3=>?_⟩;exact r v' h3 UA Wx fun b o bw bS e=>k3 b o bw bS (k2 b o bw e)
theorem IX (W:Walks prog w A.in1 I fp wr n P St) (bt:Nat->Nat->Bool) (cm:T9 prog w A.in1 g0 P bt) (S:Addr) (nS:S ∉ fp) (gw:∀ b o,g0.get? b=some o->b ∉ wr/\b ≠ S) (hn:0 < n) {s:Shared} {c:Nat} (st:St 0 s.heap)
  (g1:∀ b o,g0.get? b=some o->s.heap.get? b=some o) (aS:s.heap.get? S=some { cls:=.type "list",dict:=none,data:=.seq #[] c,slots:=#[] })
  (r:∀ v h2 tk,P (argBest bt (n - 1)) v->(∀ b o,b ∉ wr->b ≠ S->s.heap.get? b=some o->h2.get? b=some o)->R (.ok (.ret v)) { s with heap:=h2,toks:=tk }) :
  codeAny (model prog w) A (.builtin "min.loop" ⟨[.ref I,.none,.ref S],[]⟩) R s:=by
 have Sw:S ∉ wr:=fun z=>nS (W.sub _ z)
 have nm:(toString "min" ++ toString ".loop":String)="min.loop":=by decide
 refine codeAny_builtin F.entry_min_loop ?_;rw [Around.under_plainId F.plain_min_loop _];refine wpAny_bind (m:=seqItems? (.ref S)) (wpAny_seqItems aS rfl ?_);refine wpAny_bind (wpAny_tryCatch (W.item 0 s _ _ hn st fun v h2 tk pv HK k2=>?_));have Uv:=k2 S _ Sw aS;refine wpAny_bind (m:=updateSeq S (fun _=>#[v,v])) ?_;refine wpAny_updateSeq Uv rfl ?_;rw [nm];refine wpAny_pure ⟨plainId_quiet F.plain_min_loop _,PJ W bt cm S nS gw _ 0 _ v _ rfl hn (W.frame _ _ _ HK fun b bf o e=>?_) pv (fun b o e=>?_) (ah _ Uv rfl) fun v' h3 UA Wx k3=>?_⟩
 ·exact (aa _ _ (fun z:S=b=>nS (by rw [z]; exact bf))).trans e
 ·exact (aa _ _ (Ne.symm (gw b o e).2)).trans (k2 b o (gw b o e).1 (g1 b o e))
 ·exact r v' h3 UA Wx fun b o bw bS e=>k3 b o bw bS ((aa _ _ (Ne.symm bS)).trans (k2 b o bw e))
end
section
variable {prog:Program} {w:World} {A:Around} {E:Value->Shared->Prop} {s:Shared}
theorem Gy {l:Addr} {vs:List Value} {bt:Nat->Nat->Bool} {Q:Value->Shared->Prop} (hh:A.handled=none) (hl:s.heap.IsList l vs.toArray) (hn:0 < vs.length) (cm:T9 prog w A.in1 s.heap (fun i v=>vs[i]? = some v) bt)
  (h:∀ v h2 tk,vs[argBest bt (vs.length - 1)]? = some v->(∀ b o,s.heap.get? b=some o->h2.get? b=some o)->Q v { s with heap:=h2,toks:=tk }):wpAny (model prog w) A (call (.builtin "min") [.ref l]) Q E s:=by
 have nm:(toString "min" ++ toString ".loop":String)="min.loop":=by decide
 have BL:l < s.heap.objs.size:=by obtain ⟨o,ho,_⟩:=id hl; exact Z1 ho
 refine call_function_tree F.kind_min F.plain_min F.entry_min (F.args_min1 _) ?_;refine wpAny_bind (wpAny_of_eq (show Builtin.Builtins.bindParams "min" ["key","default"] 0 ⟨[],[]⟩=pure [none,none] from rfl) ?_);refine wpAny_bind (wpAny_pure ?_);refine wpAny_bind (wpAny_pyIter_list hl ?_);refine wpAny_bind (wpAny_newObj_type ?_);rw [nm];have sz:(s.heap.push { cls:=.type "list_iterator",data:=.fields #[.ref l,.int 0 0] }).objs.size=s.heap.objs.size + 1:=ae ..;have W:=(Walks.list (prog:=prog) (w:=w) (A:=A.in1) hh s.heap.objs.size l (Z8 BL) vs.toArray).weaken (P':=fun i v=>vs[i]? = some v) (fun i v e=>by simpa using e);refine wpAny_pure ⟨plainId_quiet F.plain_min_loop _,IX (g0:=s.heap) W bt cm (s.heap.push { cls:=.type "list_iterator",data:=.fields #[.ref l,.int 0 0] }).objs.size (fun hm=>?_) (fun b o e=>⟨fun hm=>?_,fun z=>?_⟩) (by simpa using hn) ?_ (fun b o e=>Zu _ (Zu _ e)) (Z5 _ rfl) fun v h2 tk pv k2=>?_⟩
 ·rw [sz] at hm;rcases Zz.mp hm with z | hm
  ·exact absurd z (Nat.succ_ne_self _)
  ·rcases Zz.mp hm with z | hm
   ·exact absurd z (aA (ZY BL))
   ·cases hm
 ·have:=Z1 e;rw [ZH.mp hm] at this;exact absurd this (au _)
 ·have:=Z1 e;rw [z,sz] at this;exact absurd this (bO.mpr (ZX _))
 ·exact ⟨⟨_,Zu _ (Z5 _ rfl),rfl,rfl⟩,(hl.push _).push _⟩
 ·refine h v h2 tk (by simpa using pv) fun b o e=>k2 b o (fun hm=>?_) (fun z=>?_) (Zu _ (Zu _ e))
  ·have:=Z1 e;rw [ZH.mp hm] at this;exact absurd this (au _)
  ·have:=Z1 e;rw [z,sz] at this;exact absurd this (bO.mpr (ZX _))
end
section
variable {prog:Program} {w:World} {A:Around} {E:Value->Shared->Prop} {s:Shared}
theorem Ry {a b:Value} {bt:Nat->Nat->Bool} {Q:Value->Shared->Prop} (hh:A.handled=none) (cm:T9 prog w A.in1 s.heap (fun i v=>[a,b][i]? = some v) bt)
  (h:∀ v h2 tk,[a,b][argBest bt 1]? = some v->(∀ c o,s.heap.get? c=some o->h2.get? c=some o)->Q v { s with heap:=h2,toks:=tk }):wpAny (model prog w) A (call (.builtin "min") [a,b]) Q E s:=by
 have nm:(toString "min" ++ toString ".loop":String)="min.loop":=by decide
 have hT:(s.heap.push { cls:=.type "tuple",data:=.seq #[a,b] }).IsTuple s.heap.objs.size #[a,b]:=⟨_,Z5 _ rfl,rfl,0,rfl⟩
 refine call_function_tree F.kind_min F.plain_min F.entry_min (F.args_min2 _ _) ?_;refine wpAny_bind (wpAny_of_eq (show Builtin.Builtins.bindParams "min" ["key","default"] 0 ⟨[],[]⟩=pure [none,none] from rfl) ?_);show wpAny _ A.in1 (newTuple [a,b] >>= _) _ _ s
 refine wpAny_bind (wpAny_newObj_type ?_);refine wpAny_bind (wpAny_pyIter_tuple hT ?_);refine wpAny_bind (wpAny_newObj_type ?_);rw [nm];have s1:(s.heap.push { cls:=.type "tuple",data:=.seq #[a,b] }).objs.size=s.heap.objs.size + 1:=ae ..;have s2:((s.heap.push { cls:=.type "tuple",data:=.seq #[a,b] }).push { cls:=.type "tuple_iterator",data:=.fields #[.ref s.heap.objs.size,.int 0 0] }).objs.size=s.heap.objs.size + 2:=by rw [ae,s1]
 have W:=(Walks.tuple (prog:=prog) (w:=w) (A:=A.in1) hh (s.heap.push { cls:=.type "tuple",data:=.seq #[a,b] }).objs.size s.heap.objs.size (by rw [s1]; exact Z8 (ai _)) #[a,b]).weaken (P':=fun i v=>[a,b][i]? = some v) (fun i v e=>by simpa using e);refine wpAny_pure ⟨plainId_quiet F.plain_min_loop _,IX (g0:=s.heap) W bt cm ((s.heap.push { cls:=.type "tuple",data:=.seq #[a,b] }).push { cls:=.type "tuple_iterator",data:=.fields #[.ref s.heap.objs.size,.int 0 0] }).objs.size (fun hm=>?_) (fun b o e=>⟨fun hm=>?_,fun z=>?_⟩) (by simp) ?_ (fun b o e=>Zu _ (Zu _ (Zu _ e))) (Z5 _ rfl) fun v h2 tk pv k2=>?_⟩
 ·rw [s2] at hm;rcases Zz.mp hm with z | hm
  ·rw [s1] at z; exact absurd z (aA (ai _))
  ·rcases Zz.mp hm with z | hm
   ·exact absurd z (aA (ZY (ai _)))
   ·cases hm
 ·have:=Z1 e;rw [ZH.mp hm,s1] at this;exact absurd this (bO.mpr (ZX _))
 ·have:=Z1 e;rw [z,s2] at this;exact absurd this (bO.mpr (ZS (ZX _) (ZX _)))
 ·exact ⟨⟨_,Zu _ (Z5 _ rfl),rfl,rfl⟩,(hT.push _).push _⟩
 ·refine h v h2 tk (by simpa using pv) fun b o e=>k2 b o (fun hm=>?_) (fun z=>?_) (Zu _ (Zu _ (Zu _ e)))
  ·have:=Z1 e;rw [ZH.mp hm,s1] at this;exact absurd this (bO.mpr (ZX _))
  ·have:=Z1 e;rw [z,s2] at this;exact absurd this (bO.mpr (ZS (ZX _) (ZX _)))
end
theorem Jx (bt:Nat->Nat->Bool) (num:Nat->Int) (h1:∀ i j,bt i j=true->num i<=num j) (h2:∀ i j,bt i j=false->num j<=num i):∀ k,argBest bt k<=k/\∀ j,j<=k->num (argBest bt k)<=num j
 | 0=>⟨Z4 _,fun j hj=>by
  have:j=0:=by lia
  subst this; exact az _⟩
 | k + 1=>by
  obtain ⟨a1,a2⟩:=Jx bt num h1 h2 k;simp only [argBest];cases hc:bt (k + 1) (argBest bt k) with
  | true=>
   simp only [if_true];refine ⟨Z4 _,fun j hj=>?_⟩;have:=h1 _ _ hc;by_cases O5:j<=k
   ·have:=a2 j O5; lia
   ·have:j=k + 1:=by lia
    subst this; exact az _
  | false=>
   simp only [ab,if_false];refine ⟨dQ a1,fun j hj=>?_⟩;by_cases O5:j<=k
   ·exact a2 j O5
   ·have:j=k + 1:=by lia
    subst this; exact h2 _ _ hc
def J0 (H:Hp) (v:V) (p:Int × Str):Prop:=∃ t,v=.ref t/\H t=some (.tup [.int p.1,.str p.2])
def Uz (H:Hp) (v:V) (k:(Int × Str) × Str):Prop:=∃ t t2,v=.ref t/\H t=some (.tup [.ref t2,.str k.2])/\J0 H (.ref t2) k.1
theorem J0.same {H H':Hp} {v:V} {p:Int × Str} (h:J0 H v p) (s:∀ b xs,H b=some (.tup xs)->H' b=some (.tup xs)):J0 H' v p:=let ⟨t,e,z⟩:=h; ⟨t,e,s _ _ z⟩
theorem Uz.same {H H':Hp} {v:V} {p:(Int × Str) × Str} (h:Uz H v p) (s:∀ b xs,H b=some (.tup xs)->H' b=some (.tup xs)):Uz H' v p:=let ⟨t,t2,e,z,q⟩:=h; ⟨t,t2,e,s _ _ z,q.same s⟩
theorem J0.at {X:Cx} {pins:List (Addr × Obj)} {σ:St} {H:Hp} {s:Shared} {v:V} {u:Value} {p:Int × Str} (I:Av X pins σ H s) (r:AF v u) (h:J0 H v p):D7 s.heap u p:=by
 obtain ⟨t,rfl,ht⟩:=h;cases r
 obtain ⟨Ax,rv,pl,hz⟩:=I.tuple (A4.of ht);cases rv with
 | cons a1 b1=>
  cases b1 with
  | cons a2 b2=>
   cases b2
   obtain ⟨t1,rfl⟩:=a1;obtain ⟨t2,rfl⟩:=a2;exact ⟨t,t1,t2,rfl,pl⟩
theorem Uz.at {X:Cx} {pins:List (Addr × Obj)} {σ:St} {H:Hp} {s:Shared} {v:V} {u:Value} {k:(Int × Str) × Str} (I:Av X pins σ H s) (r:AF v u) (h:Uz H v k):J1 s.heap u k:=by
 obtain ⟨t,l,rfl,ht,hp⟩:=h;cases r
 obtain ⟨Ax,rv,pl,hz⟩:=I.tuple (A4.of ht);cases rv with
 | cons a1 b1=>
  cases b1 with
  | cons a2 b2=>
   cases b2
   cases a1
   obtain ⟨t2,rfl⟩:=a2;exact ⟨t,l,t2,rfl,pl,hp.at I (show AF (V.ref l) (Value.ref l) from rfl)⟩
def D9 (p q:Int × Str):Prop:=p.1 < q.1\/(p.1=q.1/\¬ q.2.cps.toList < p.2.cps.toList)
theorem D9.refl (p:Int × Str):D9 p p:=.inr ⟨rfl,bR _⟩
theorem D9.trans {p q r:Int × Str} (h1:D9 p q) (h2:D9 q r):D9 p r:=by
 rcases h1 with a | ⟨a,b⟩ <;> rcases h2 with c | ⟨c,d⟩
 ·exact .inl (by lia)
 ·exact .inl (by lia)
 ·exact .inl (by lia)
 ·exact .inr ⟨by lia,bg.mpr (eE (bg.mp b) (bg.mp d))⟩
theorem D9.add {d d' l:Int} {s s':Str} (h:D9 (d,s) (d',s')):D9 (d + l,s) (d' + l,s'):=by
 rcases h with a | ⟨a,b⟩
 ·have a':d < d':=a;exact .inl (show d + l < d' + l by lia)
 ·have a':d=d':=a;exact .inr ⟨show d + l=d' + l by lia,b⟩
theorem D9.up {d d':Int} {s:Str} (h:d<=d'):D9 (d,s) (d',s):=by
 by_cases e:d=d'
 ·exact .inr ⟨e,bR _⟩
 ·exact .inl (show d < d' by lia)
theorem D9.fst {p q:Int × Str} (h:D9 p q):p.1<=q.1:=by
 rcases h with a | ⟨a,_⟩ <;> lia
theorem Ld {p q:Int × Str} (h:PN p q=true):D9 p q:=by
 unfold PN at h;by_cases e:(p.1 == q.1)=true
 ·have e':p.1=q.1:=by simpa using e
  rw [if_pos e] at h;by_cases e2:(p.2 == q.2)=true
  ·rw [if_pos e2] at h; cases h
  ·rw [if_neg e2] at h;exact .inr ⟨e',bJ (by simpa using h)⟩
 ·rw [if_neg e] at h;exact .inl (by simpa using h)
theorem Le {p q:Int × Str} (h:PN p q=false):D9 q p:=by
 unfold PN at h;by_cases e:(p.1 == q.1)=true
 ·have e':p.1=q.1:=by simpa using e
  rw [if_pos e] at h;by_cases e2:(p.2 == q.2)=true
  ·have Wl:p.2=q.2:=by simpa using e2
   exact .inr ⟨e'.symm,by rw [Wl]; exact bR _⟩
  ·rw [if_neg e2] at h;exact .inr ⟨e'.symm,by simpa using h⟩
 ·rw [if_neg e] at h;have e':¬ p.1=q.1:=by simpa using e
  have:¬ p.1 < q.1:=by simpa using h
  exact .inl (by lia)
theorem SW {p q:(Int × Str) × Str} (h:Ub p q=true):D9 p.1 q.1:=by
 unfold Ub at h;by_cases e:decide (p.1=q.1)=true
 ·have:p.1=q.1:=by simpa using e
  rw [this]; exact D9.refl _
 ·rw [if_neg e] at h;exact Ld h
theorem SX {p q:(Int × Str) × Str} (h:Ub p q=false):D9 q.1 p.1:=by
 unfold Ub at h;by_cases e:decide (p.1=q.1)=true
 ·have:p.1=q.1:=by simpa using e
  rw [this]; exact D9.refl _
 ·rw [if_neg e] at h;exact Le h
theorem Fd (bt:Nat->Nat->Bool) (num:Nat->Int × Str) (h1:∀ i j,bt i j=true->D9 (num i) (num j)) (h2:∀ i j,bt i j=false->D9 (num j) (num i)):∀ k,argBest bt k<=k/\∀ j,j<=k->D9 (num (argBest bt k)) (num j)
 | 0=>⟨Z4 _,fun j hj=>by
  have:j=0:=by lia
  subst this; exact D9.refl _⟩
 | k + 1=>by
  obtain ⟨a1,a2⟩:=Fd bt num h1 h2 k;simp only [argBest];cases hc:bt (k + 1) (argBest bt k) with
  | true=>
   simp only [if_true];refine ⟨Z4 _,fun j hj=>?_⟩;by_cases O5:j<=k
   ·exact (h1 _ _ hc).trans (a2 j O5)
   ·have:j=k + 1:=by lia
    subst this; exact D9.refl _
  | false=>
   simp only [ab,if_false];refine ⟨dQ a1,fun j hj=>?_⟩;by_cases O5:j<=k
   ·exact a2 j O5
   ·have:j=k + 1:=by lia
    subst this; exact h2 _ _ hc
theorem Jv {X:Cx} (hc:X.calm=true) (hu:X.A.units + 64 < cLine):Bz X (.builtin "min") (fun xs H Q=>∃ (a:Addr) (vs:List V) (ks:List ((Int × Str) × Str)),xs=[.ref a]/\H a=some (.lst vs)/\vs.length=ks.length/\ks ≠ []/\(∀ (i:Nat) v k,vs[i]? = some v->ks[i]? = some k->Uz H v k) /\
  ∀ v k,k ∈ ks->Uz H v k->(∀ k' ∈ ks,D9 k.1 k'.1)->Q v H):=by
 intro pins s σ H xs us Q I r h;obtain ⟨a,vs,ks,rfl,ha,hl,hne,hk,q⟩:=h;obtain ⟨u,rfl,ru⟩:=Ce r;cases ru
 obtain ⟨Ax,rv,pl,hz⟩:=I.list (AX.of ha);have il:Ax.length=ks.length:=by rw [<-rv.length,hl]
 have pos:0 < ks.length:=b9.mpr hne;have kat:∀ (i:Nat) (v:Value),Ax[i]? = some v->∃ k,ks[i]? = some k/\J1 s.heap v k/\∃ x,vs[i]? = some x/\AF x v:=fun i v e=>by
  have hi:i < Ax.length:=(Z2.mp e).1;have e1:vs[i]? = some vs[i]:=Zt (by lia);have e2:ks[i]? = some ks[i]:=Zt (by lia);obtain ⟨v',e3,r3⟩:=rv.get e1;rw [e] at e3;cases e3
  exact ⟨_,e2,(hk i _ _ e1 e2).at I r3,_,e1,r3⟩
 refine Gy (bt:=fun i j=>Ub (ks.getD i default) (ks.getD j default)) (I.ok.hd hc) pl.isList (by lia) (fun i j vi vj s' Q' E' g hi hj hQ=>?_) fun v h2 tk hv k2=>?_
 ·obtain ⟨ki,e1,a1,_⟩:=kat i vi hi;obtain ⟨kj,e2,a2,_⟩:=kat j vj hj;have d1:ks.getD i default=ki:=by rw [ZG,e1]; rfl
  have d2:ks.getD j default=kj:=by rw [ZG,e2]; rfl
  dsimp only at hQ;rw [d1,d2] at hQ;exact Vm (a1.keep g) (a2.keep g) (by rw [PySem.Around.in1_units]; lia) _ _ _ _ hQ
 ·obtain ⟨k,e1,a1,x,e3,r3⟩:=kat _ v hv;obtain ⟨b1,b2⟩:=Fd (fun i j=>Ub (ks.getD i default) (ks.getD j default)) (fun i=>(ks.getD i default).1) (fun _ _=>SW) (fun _ _=>SX) (Ax.length - 1);refine ⟨x,H,I.kept k2,r3,q x k (Zx e1) (hk _ x k e3 e1) fun k' Uj=>?_⟩;obtain ⟨j,hj,ej⟩:=ZM Uj;have:=b2 j (by lia);have d1:ks.getD (argBest (fun i j=>Ub (ks.getD i default) (ks.getD j default)) (Ax.length - 1)) default=k:=by rw [ZG,e1]; rfl
  have d2:ks.getD j default=k':=by rw [ZG,Zt hj,ej]; rfl
  rw [d1,d2] at this;exact this
theorem JM {X:Cx} (hc:X.calm=true) (hu:X.A.units + 64 < cLine):Bz X (.builtin "min") (fun xs H Q=>∃ (x y:V) (p q:Int × Str),xs=[x,y]/\J0 H x p/\J0 H y q/\((D9 q p->Q y H)/\(D9 p q->Q x H))):=by
 intro pins s σ H xs us Q I r h;obtain ⟨x,y,p,q,rfl,hx,hy,q1,q2⟩:=h;obtain ⟨u,v,rfl,ru,rv⟩:=NX r;have pu:=hx.at I ru;have pv:=hy.at I rv;refine Ry (bt:=fun i j=>PN ([p,q].getD i default) ([p,q].getD j default)) (I.ok.hd hc) (fun i j vi vj s' Q' E' g hi hj hQ=>?_) fun z h2 tk hz k2=>?_
 ·have at':∀ (i:Nat) (vi:Value),[u,v][i]? = some vi->D7 s.heap vi ([p,q].getD i default):=fun i vi e=>by
   match i,e with
   | 0,e=>cases e; exact pu
   | 1,e=>cases e; exact pv
   | i + 2,e=>cases e
  exact Lc ((at' i vi hi).keep g) ((at' j vj hj).keep g) (by rw [PySem.Around.in1_units]; lia) _ _ _ _ hQ
 ·have e:argBest (fun i j=>PN ([p,q].getD i default) ([p,q].getD j default)) 1=if PN q p=true then 1 else 0:=rfl
  rw [e] at hz;cases hl:PN q p with
  | true=>
   rw [hl,if_pos rfl] at hz;cases hz
   exact ⟨y,H,I.kept k2,rv,q1 (Ld hl)⟩
  | false=>
   rw [hl,if_neg ZD] at hz;cases hz
   exact ⟨x,H,I.kept k2,ru,q2 (Le hl)⟩
def BS (ws:List AH) (x y:Str) (l:Int):Prop:=∃ u ∈ ws,((u.1=x/\u.2.1=y)\/(u.1=y/\u.2.1=x))/\u.2.2=l
theorem BS.adj {ws:List AH} {x y:Str} {l:Int} (h:BS ws x y l):L6 ws x y:=let ⟨u,hu,e,_⟩:=h; ⟨u,hu,e⟩
theorem BS.symm {ws:List AH} {x y:Str} {l:Int} (h:BS ws x y l):BS ws y x l:=let ⟨u,hu,e,z⟩:=h; ⟨u,hu,e.symm,z⟩
inductive Br (ws:List AH):Str->Str->Int->Prop
 | nil (x:Str):Br ws x x 0
 | cons {x y z:Str} {l m:Int}:BS ws x y l->Br ws y z m->Br ws x z (l + m)
theorem Br.app {ws:List AH} {x y z:Str} {m n:Int} (h:Br ws x y m) (g:Br ws y z n):Br ws x z (m + n):=by
 induction h with
 | nil x=>rw [c0]; exact g
 | cons e _ ih=>rw [cQ]; exact .cons e (ih g)
theorem Br.snoc {ws:List AH} {x y z:Str} {m l:Int} (h:Br ws x y m) (e:BS ws y z l):Br ws x z (m + l):=by
 have:=h.app (.cons e (.nil z));rwa [cW] at this
theorem Br.symm {ws:List AH} {x y:Str} {m:Int} (h:Br ws x y m):Br ws y x m:=by
 induction h with
 | nil x=>exact .nil x
 | @cons x y z l m e _ ih=>rw [Int.add_comm]; exact ih.snoc e.symm
theorem Br.pos {ws:List AH} (hp:∀ u ∈ ws,1<=u.2.2) {x y:Str} {m:Int} (h:Br ws x y m):0<=m:=by
 induction h with
 | nil x=>exact az _
 | cons e _ ih=>
  obtain ⟨u,hu,_,rfl⟩:=e;have:=hp u hu;lia
def NP (ws:List AH) (ss:List Str) (y:Str) (p:Int × Str):Prop:=(p.2 ∈ ss/\Br ws p.2 y p.1)/\∀ s ∈ ss,∀ m,Br ws s y m->D9 p (m,s)
structure T6 (ws:List AH) (ss:List Str) (S R:Str->Int × Str->Prop):Prop where
 near:∀ y p,S y p->NP ws ss y p
 reach:∀ y p,R y p->p.2 ∈ ss/\Br ws p.2 y p.1
 relax:∀ x p y l,S x p->BS ws x y l->(∃ q,S y q)\/∃ q,R y q/\D9 q (p.1 + l,p.2)
 start:∀ s ∈ ss,(∃ q,S s q)\/∃ q,R s q/\D9 q (0,s)
theorem T6.out {ws:List AH} {ss:List Str} {S R:Str->Int × Str->Prop} (h:T6 ws ss S R) (hp:∀ u ∈ ws,1<=u.2.2) {x z:Str} {m:Int} (g:Br ws x z m) (hz:∀ q,¬ S z q):∀ p,S x p->∃ y q,R y q/\D9 q (p.1 + m,p.2):=by
 induction g with
 | nil x=>intro p YU; exact absurd YU (hz p)
 | @cons x y z l m e g ih=>
  intro p hx;rcases h.relax x p y l hx e with ⟨q,hq⟩ | ⟨q,hq,le⟩
  ·obtain ⟨y',q',h1,h2⟩:=ih hz q hq;refine ⟨y',q',h1,h2.trans ?_⟩;have n1:=(h.near y q hq).2 p.2 (h.near x p hx).1.1 (p.1 + l) ((h.near x p hx).1.2.snoc e);have:=n1.add (l:=m);rw [cQ] at this;exact this
  ·exact ⟨y,q,hq,le.trans (D9.up (by have:=g.pos hp; lia))⟩
theorem T6.pick {ws:List AH} {ss:List Str} {S R:Str->Int × Str->Prop} (h:T6 ws ss S R) (hp:∀ u ∈ ws,1<=u.2.2) {y:Str} {p:Int × Str} (hy:R y p) (ny:∀ q,¬ S y q) (least:∀ z q,R z q->D9 p q):NP ws ss y p:=by
 refine ⟨h.reach y p hy,fun s hs m g=>?_⟩;rcases h.start s hs with ⟨q,hq⟩ | ⟨q,hq,le⟩
 ·obtain ⟨z,q',h1,h2⟩:=h.out hp g ny q hq;refine (least z q' h1).trans (h2.trans ?_);have n1:=(h.near s q hq).2 s hs 0 (.nil s);have:=(show D9 (q.1,q.2) (0,s) from n1).add (l:=m);rw [c0] at this;exact this
 ·exact (least s q hq).trans (le.trans (D9.up (g.pos hp)))
theorem T6.done {ws:List AH} {ss:List Str} {S R:Str->Int × Str->Prop} (h:T6 ws ss S R) (hR:∀ y p,¬ R y p) {r:Str} (hss:ss ≠ []) {ps:List Str} (con:∀ T:Str->Prop,T r->(∀ x y,L6 ws x y->T x->T y)->∀ x ∈ ps,T x)
  (Zq:∀ T:Str->Prop,∀ x ∈ ps,T x->(∀ x y,L6 ws x y->T x->T y)->T r) (sub:∀ s ∈ ss,s ∈ ps):∀ x ∈ ps,∃ q,S x q:=by
 have cl:∀ x y,L6 ws x y->(∃ q,S x q)->∃ q,S y q:=fun x y ⟨u,hu,e⟩ ⟨q,hq⟩=>by
  rcases h.relax x q y u.2.2 hq ⟨u,hu,e,rfl⟩ with z | ⟨q',hq',_⟩
  ·exact z
  ·exact absurd hq' (hR _ _)
 obtain ⟨s,hs⟩:=List.exists_mem_of_ne_nil ss hss;have s0:∃ q,S s q:=by
  rcases h.start s hs with z | ⟨q,hq,_⟩
  ·exact z
  ·exact absurd hq (hR _ _)
 exact con (fun x=>∃ q,S x q) (Zq (fun x=>∃ q,S x q) s (sub s hs) s0 cl) cl
theorem KI {a b:List (Str × V)} (h:sK a=sK b):a=b:=by
 unfold sK at h;exact dA (fun x y z=>by
  simp only [Prod.mk.injEq,Sum.inr.injEq] at z;exact Prod.ext z.1 z.2) |>.mp h
theorem Ib {nv Ej:List (Str × V)} {y:Str} {v:V} (e:BK (sK nv) (Sum.inr y:Bg) v=sK Ej):∀ z x,(z,x) ∈ Ej ↔ (z=y/\x=v)\/(z ≠ y/\(z,x) ∈ nv):=by
 intro z x;by_cases h:y ∈ nv.map (·.1)
 ·have e2:BK (sK nv) (Sum.inr y:Bg) v=sK (nv.map fun q=>if q.1=y then (q.1,v) else q):=by
   unfold BK;have:((sK nv).any fun kv=>decide (kv.1=(Sum.inr y:Bg)))=true:=by rw [Co,Hq,decide_eq_true h]
   rw [if_pos this];unfold sK;rw [ax,ax];refine bA fun q _=>?_
   by_cases e:q.1=y
   ·simp [e]
   ·have e':¬ (Sum.inr q.1:Bg)=Sum.inr y:=fun z=>e (Sum.inr.inj z)
    simp [e,e']
  rw [e2] at e;rw [<-KI e,Z6];constructor
  ·rintro ⟨q,hq,e⟩;by_cases eq:q.1=y
   ·rw [if_pos eq] at e;have e1:q.1=z:=congrArg Prod.fst e;have e3:v=x:=congrArg Prod.snd e;exact .inl ⟨by rw [<-e1,eq],e3.symm⟩
   ·rw [if_neg eq] at e;refine .inr ⟨?_,by rw [<-e]; exact hq⟩;rw [show z=q.1 from (congrArg Prod.fst e).symm]; exact eq
  ·rintro (⟨rfl,rfl⟩ | ⟨h1,h2⟩)
   ·obtain ⟨q,hq,e1⟩:=Z6.mp h;have VA:q.1=z:=e1;exact ⟨q,hq,by rw [if_pos VA,VA]⟩
   ·exact ⟨(z,x),h2,by rw [if_neg h1]⟩
 ·rw [DR h] at e;rw [<-KI e,Z9];constructor
  ·rintro (h1 | h1)
   ·refine .inr ⟨?_,h1⟩;rintro rfl;exact h (Z6.mpr ⟨_,h1,rfl⟩)
   ·simp only [ZH,Prod.mk.injEq] at h1;exact .inl h1
  ·rintro (⟨rfl,rfl⟩ | ⟨_,h2⟩)
   ·exact .inr (by simp)
   ·exact .inl h2
theorem S8 (nv:List (Str × V)) (y:Str):Jo (sK nv) (Sum.inr y:Bg)=sK (nv.filter fun q=>decide (q.1 ≠ y)):=by
 unfold Jo sK;rw [List.filter_map];congr 1;refine List.filter_congr fun q _=>?_
 by_cases e:q.1=y
 ·simp [e]
 ·have e':¬ (Sum.inr q.1:Bg)=Sum.inr y:=fun z=>e (Sum.inr.inj z)
  simp [e,e']
def So (H:Hp) (ps:List Str) (ds:List Addr) (Ed:Str->Str->Int->Prop):Prop:=∀ (i:Nat) (p:Str) (d:Addr) (nv:List (Str × V)),ps[i]? = some p->ds[i]? = some d->Rd H d (.dK (sK nv))->∀ y v,(y,v) ∈ nv->∃ l,v=.int l/\Ed p y l
theorem Rd.inj {H:Hp} {d:Addr} {a b:List (Str × V)} (h:Rd H d (.dK (sK a))) (g:Rd H d (.dK (sK b))):a=b:=by
 rcases h with h | ⟨o,h⟩ <;> rcases g with g | ⟨o',g⟩ <;> have e:=ZJ.inj (h.symm.trans g)
 ·injection e with e; exact KI e
 ·exact nomatch e
 ·exact nomatch e
 ·injection e with _ e;injection e with e; exact KI e
theorem So.put {H:Hp} {ps:List Str} {ds:List Addr} {Ed Ed':Str->Str->Int->Prop} (h:So H ps ds Ed) (hn:ps.Nodup) (dn:ds.Nodup) {i:Nat} {p y:Str} {d:Addr} {l:Int} (e1:ps[i]? = some p) (e2:ds[i]? = some d) {nv Ej:List (Str × V)} (hd:H d=some (.dK (sK nv)))
  (ep:BK (sK nv) (Sum.inr y:Bg) (.int l)=sK Ej) (mono:∀ a b m,Ed a b m->Ed' a b m) (new:Ed' p y l):So (upd H d (.dK (sK Ej))) ps ds Ed':=by
 intro j q c nw f1 f2 hr z v hz;by_cases hc:c=d
 ·subst hc;have ij:i=j:=Hw dn e2 f2;subst ij;rw [e1] at f1; cases f1;have:nw=Ej:=Rd.inj hr (.inl Ab);subst this;rcases (Ib ep z v).mp hz with ⟨rfl,rfl⟩ | ⟨_,Wa⟩
  ·exact ⟨l,rfl,new⟩
  ·obtain ⟨l',e,ed⟩:=h i _ c nv e1 e2 (.inl hd) z v Wa;exact ⟨l',e,mono _ _ _ ed⟩
 ·have NA:Rd H c (.dK (sK nw)):=by
   rcases hr with g | ⟨o,g⟩
   ·exact .inl (by rw [Ae hc] at g; exact g)
   ·exact .inr ⟨o,by rw [Ae hc] at g; exact g⟩
  obtain ⟨l',e,ed⟩:=h j q c nw f1 f2 NA z v hz;exact ⟨l',e,mono _ _ _ ed⟩
def QN (K:Zw):Sp:=fun vs H Q _=>∃ (q:Addr) (ps:List Str) (ws:List AH) (r:Str),vs=[.ref q]/\Jy H q ps ws r /\
 ∀ (H':Hp) (B:Addr) (ds:List Addr),Ao H H'->NB H' B ps ds (L6 ws) 128->So H' ps ds (BS ws)->H B=none->(∀ d ∈ ds,H d=none)->Q (.ref B) H'
theorem PI.or {X:Cx} {tg l:Expr} {w1 w2:TI} (h1:PI X tg l w1) (h2:PI X tg l w2):PI X tg l (fun σ H R=>w1 σ H R\/w2 σ H R):=by
 intro pins s σ H R I h;rcases h with h | h
 ·exact h1 (pins:=pins) s σ H R I h
 ·exact h2 (pins:=pins) s σ H R I h
def NM (H:Hp) (nv:List (Str × V)) (S:Str->Int × Str->Prop):Prop:=(nv.map (·.1)).Nodup/\(∀ y v,(y,v) ∈ nv->∃ p,J0 H v p/\S y p)/\∀ y p,S y p->∃ v,(y,v) ∈ nv/\J0 H v p
def QM (K:Zw):Sp:=fun vs H Q _=>∃ (q st:Addr) (ps ss:List Str) (ws:List AH) (r:Str),vs=[.ref q,.ref st]/\Jy H q ps ws r/\(∀ u ∈ ws,1<=u.2.2)/\(∀ x y l l',BS ws x y l->BS ws x y l'->l=l')/\(H st=some (.lst (ss.map V.str))\/H st=some (.tup (ss.map V.str)))/\ss ≠ []/\ss.Nodup/\(∀ s ∈ ss,s ∈ ps) /\
 ∀ (H':Hp) (B:Addr) (nv:List (Str × V)),Ao H H'->H B=none->H' B=some (.dK (sK nv))->(nv.map (·.1)).Nodup->(∀ x,x ∈ nv.map (·.1) ↔ x ∈ ps)->(∀ y v,(y,v) ∈ nv->∃ p,J0 H' v p/\NP ws ss y p)->Q (.ref B) H'
theorem Ke {nv:List (Str × V)} {y:Str} {v:V} (h:B8 (sK nv) (Sum.inr y:Bg)=some v):(y,v) ∈ nv:=by
 unfold B8 at h;cases e:(sK nv).find? (fun kv=>decide (kv.1=(Sum.inr y:Bg))) with
 | none=>rw [e] at h; cases h
 | some kv=>
  rw [e] at h;have h1:=List.find?_some e;have h2:=List.mem_of_find?_eq_some e;obtain ⟨q,hq,rfl⟩:=Z6.mp h2;have e1:q.1=y:=by
   have:(Sum.inr q.1:Bg)=Sum.inr y:=by simpa using h1
   exact Sum.inr.inj this
  have e2:q.2=v:=ZJ.inj h;rw [<-e1,<-e2];exact hq
theorem Qh {ws:List AH} {i:Nat} {a b:Str} {m:Int} (h:BS (ws.take i) a b m):BS (ws.take (i + 1)) a b m:=by
 obtain ⟨u,hu,e⟩:=h;rw [ZL];exact ⟨u,ay _ hu,e⟩
theorem M8 {ws:List AH} {i:Nat} {u:AH} (h:ws[i]? = some u):BS (ws.take (i + 1)) u.1 u.2.1 u.2.2:=by
 rw [ZL,h];exact ⟨u,ZC _ (by simp),.inl ⟨rfl,rfl⟩,rfl⟩
theorem J0.fn {H:Hp} {v:V} {p q:Int × Str} (h:J0 H v p) (g:J0 H v q):p=q:=by
 obtain ⟨t,rfl,e⟩:=h;obtain ⟨t',e',g⟩:=g;have:t=t':=by injection e'
 subst this;have z:=ZJ.inj (e.symm.trans g);injection z with z;simp only [bU.injEq,V.int.injEq,V.str.injEq] at z;exact Prod.ext z.1 z.2.1
theorem NR.same {H H':Hp} {B:Addr} {ps:List Str} {ds:List Addr} {P:Str->Str->Prop} (h:NR H B ps ds P) (s:Ao H H'):NR H' B ps ds P:=
 ⟨s _ _ h.top,h.len,h.nd,h.nB,fun i p d e1 e2=>let ⟨nv,a1,a3⟩:=h.inner i p d e1 e2
  ⟨nv,(by rcases a1 with a | ⟨o,a⟩; exact .inl (s _ _ a); exact .inr ⟨o,s _ _ a⟩),a3⟩⟩
theorem So.of {H H':Hp} {B:Addr} {ps:List Str} {ds:List Addr} {P:Str->Str->Prop} {Ed:Str->Str->Int->Prop} (h:So H ps ds Ed) (nr:NR H B ps ds P) (k:∀ d ∈ ds,∀ nv:List (Str × V),Rd H d (.dK (sK nv))->Rd H' d (.dK (sK nv))):So H' ps ds Ed:=by
 intro i p d nv e1 e2 hr y v hy;obtain ⟨nw,a1,_⟩:=nr.inner i p d e1 e2;have:=Rd.inj hr (k d (Zx e2) nw a1);subst this;exact h i p d nv e1 e2 a1 y v hy
theorem NM.same {H H':Hp} {nv:List (Str × V)} {S:Str->Int × Str->Prop} (h:NM H nv S) (s:∀ b xs,H b=some (.tup xs)->H' b=some (.tup xs)):NM H' nv S:=
 ⟨h.1,fun y v hv=>let ⟨p,a,b⟩:=h.2.1 y v hv; ⟨p,a.same s,b⟩,fun y p hp=>let ⟨v,a,b⟩:=h.2.2 y p hp; ⟨v,a,b.same s⟩⟩
theorem NM.fn {H:Hp} {nv:List (Str × V)} {S:Str->Int × Str->Prop} (h:NM H nv S) {y:Str} {p q:Int × Str} (hp:S y p) (hq:S y q):p=q:=by
 obtain ⟨v,a,b⟩:=h.2.2 y p hp;obtain ⟨w,c,d⟩:=h.2.2 y q hq;have:=Q9 h.1 a c;subst this;exact b.fn d
theorem NM.put {H:Hp} {nv Ej:List (Str × V)} {S:Str->Int × Str->Prop} {y:Str} {v:V} {p:Int × Str} (h:NM H nv S) (e:BK (sK nv) (Sum.inr y:Bg) v=sK Ej) (hv:J0 H v p):NM H Ej (fun z q=>(z=y/\q=p)\/(z ≠ y/\S z q)):=by
 refine ⟨S7 e h.1,fun z x hz=>?_,fun z q hq=>?_⟩
 ·rcases (Ib e z x).mp hz with ⟨rfl,rfl⟩ | ⟨n,Wa⟩
  ·exact ⟨p,hv,.inl ⟨rfl,rfl⟩⟩
  ·obtain ⟨q,a,b⟩:=h.2.1 z x Wa;exact ⟨q,a,.inr ⟨n,b⟩⟩
 ·rcases hq with ⟨rfl,rfl⟩ | ⟨n,hq⟩
  ·exact ⟨v,(Ib e _ _).mpr (.inl ⟨rfl,rfl⟩),hv⟩
  ·obtain ⟨x,a,b⟩:=h.2.2 z q hq;exact ⟨x,(Ib e _ _).mpr (.inr ⟨n,a⟩),b⟩
theorem NM.drop {H:Hp} {nv:List (Str × V)} {S:Str->Int × Str->Prop} (h:NM H nv S) (y:Str):NM H (nv.filter fun q=>decide (q.1 ≠ y)) (fun z q=>z ≠ y/\S z q):=by
 refine ⟨Gw h.1 _,fun z x hz=>?_,fun z q hq=>?_⟩
 ·obtain ⟨a,b⟩:=bu.mp hz;obtain ⟨q,c,d⟩:=h.2.1 z x a;exact ⟨q,c,by simpa using b,d⟩
 ·obtain ⟨n,hq⟩:=hq;obtain ⟨x,a,b⟩:=h.2.2 z q hq;exact ⟨x,bu.mpr ⟨a,by simpa using n⟩,b⟩
structure NI (H H2:Hp) (ps:List Str) (ws:List AH) (B RA SA:Addr) (ds:List Addr) (nvR nvS:List (Str × V)) (S R:Str->Int × Str->Prop):Prop where
 same:Ao H H2
 nr:NR H2 B ps ds (L6 ws)
 nbv:So H2 ps ds (BS ws)
 dR:H2 RA=some (.dK (sK nvR))
 dS:H2 SA=some (.dK (sK nvS))
 pR:NM H2 nvR R
 pS:NM H2 nvS S
 subR:∀ y ∈ nvR.map (·.1),y ∈ ps
 subS:∀ y ∈ nvS.map (·.1),y ∈ ps
section
variable {H H2 H3:Hp} {ps:List Str} {ws:List AH} {B RA SA:Addr} {ds:List Addr} {nvR nvS:List (Str × V)} {S R:Str->Int × Str->Prop}
theorem NI.grow (h:NI H H2 ps ws B RA SA ds nvR nvS S R) (s:Ao H2 H3):NI H H3 ps ws B RA SA ds nvR nvS S R:=
 ⟨h.same.trans s,h.nr.same s,h.nbv.of h.nr fun d _ nv z=>by rcases z with a | ⟨o,a⟩; exact .inl (s _ _ a); exact .inr ⟨o,s _ _ a⟩,s _ _ h.dR,s _ _ h.dS,h.pR.same fun b xs z=>s _ _ z,h.pS.same fun b xs z=>s _ _ z,h.subR,h.subS⟩
theorem NI.lenS (h:NI H H2 ps ws B RA SA ds nvR nvS S R):nvS.length<=ps.length:=by
 have:=Cf h.pS.1 h.subS;rwa [Zv] at this
theorem NI.lenR (h:NI H H2 ps ws B RA SA ds nvR nvS S R):nvR.length<=ps.length:=by
 have:=Cf h.pR.1 h.subR;rwa [Zv] at this
theorem NI.inS (h:NI H H2 ps ws B RA SA ds nvR nvS S R) {y:Str}:y ∈ nvS.map (·.1) ↔ ∃ q,S y q:=by
 constructor
 ·intro hy;obtain ⟨⟨z,v⟩,a,b⟩:=Z6.mp hy;have b':z=y:=b;subst b';obtain ⟨p,_,c⟩:=h.pS.2.1 z v a;exact ⟨p,c⟩
 ·rintro ⟨q,hq⟩;obtain ⟨v,a,_⟩:=h.pS.2.2 y q hq;exact Z6.mpr ⟨_,a,rfl⟩
theorem NI.inR (h:NI H H2 ps ws B RA SA ds nvR nvS S R) {y:Str}:y ∈ nvR.map (·.1) ↔ ∃ q,R y q:=by
 constructor
 ·intro hy;obtain ⟨⟨z,v⟩,a,b⟩:=Z6.mp hy;have b':z=y:=b;subst b';obtain ⟨p,_,c⟩:=h.pR.2.1 z v a;exact ⟨p,c⟩
 ·rintro ⟨q,hq⟩;obtain ⟨v,a,_⟩:=h.pR.2.2 y q hq;exact Z6.mpr ⟨_,a,rfl⟩
theorem NI.setR (h:NI H H2 ps ws B RA SA ds nvR nvS S R) (aR:RA ∉ ds/\RA ≠ B/\RA ≠ SA/\H RA=none) {Ej:List (Str × V)} {R':Str->Int × Str->Prop} (p':NM H2 Ej R') (sub:∀ y ∈ Ej.map (·.1),y ∈ ps):NI H (upd H2 RA (.dK (sK Ej))) ps ws B RA SA ds Ej nvS S R':=by
 have tu:∀ b xs,H2 b=some (.tup xs)->(upd H2 RA (.dK (sK Ej))) b=some (.tup xs):=fun b xs z=>by
  rw [Ae (CN z h.dR (by intro z; cases z))]; exact z
 exact ⟨fun b o z=>by rw [Ae (Ah z aR.2.2.2)]; exact h.same _ _ z,h.nr.other aR.1 aR.2.1,h.nbv.of h.nr fun d hd nv z=>z.ne (fun e=>aR.1 (by rw [<-e]; exact hd)),Ab,by rw [Ae (Ne.symm aR.2.2.1)]; exact h.dS,p'.same tu,h.pS.same tu,sub,h.subS⟩
theorem NI.setS (h:NI H H2 ps ws B RA SA ds nvR nvS S R) (aS:SA ∉ ds/\SA ≠ B/\SA ≠ RA/\H SA=none) {Ej:List (Str × V)} {S':Str->Int × Str->Prop} (p':NM H2 Ej S') (sub:∀ y ∈ Ej.map (·.1),y ∈ ps):NI H (upd H2 SA (.dK (sK Ej))) ps ws B RA SA ds nvR Ej S' R:=by
 have tu:∀ b xs,H2 b=some (.tup xs)->(upd H2 SA (.dK (sK Ej))) b=some (.tup xs):=fun b xs z=>by
  rw [Ae (CN z h.dS (by intro z; cases z))]; exact z
 exact ⟨fun b o z=>by rw [Ae (Ah z aS.2.2.2)]; exact h.same _ _ z,h.nr.other aS.1 aS.2.1,h.nbv.of h.nr fun d hd nv z=>z.ne (fun e=>aS.1 (by rw [<-e]; exact hd)),by rw [Ae (Ne.symm aS.2.2.1)]; exact h.dR,Ab,h.pR.same tu,p'.same tu,h.subR,sub⟩
theorem NI.frz (h:NI H H2 ps ws B RA SA ds nvR nvS S R) (aR:RA ∉ ds) (aS:SA ∉ ds) (fr:∀ d ∈ ds,H d=none) {i:Nat} {p:Str} {d:Addr} (e1:ps[i]? = some p) (e2:ds[i]? = some d) {nv:List (Str × V)} {o:Obj} (f:ED H2 d (sK nv) o H3) (hP:∀ y,y ∈ nv.map (·.1) ↔ L6 ws p y):NI H H3 ps ws B RA SA ds nvR nvS S R:=by
 have dm:d ∈ ds:=Zx e2;have tu:∀ b xs,H2 b=some (.tup xs)->H3 b=some (.tup xs):=fun b xs z=>by
  rw [f.ne (by
   rintro rfl;rcases f with ⟨g,_⟩ | ⟨g,_⟩ <;> (rw [z] at g; cases g))]
  exact z
 refine ⟨fun b u z=>by rw [f.ne (Ah z (fr d dm))]; exact h.same _ _ z,h.nr.freeze e1 e2 f hP,h.nbv.of h.nr fun c hc nw z=>?_,by rw [f.ne (fun z=>aR (by rw [z]; exact dm))]; exact h.dR,by rw [f.ne (fun z=>aS (by rw [z]; exact dm))]; exact h.dS,h.pR.same tu,h.pS.same tu,h.subR,h.subS⟩;by_cases hcd:c=d
 ·subst hcd;rcases f with ⟨g,e⟩ | ⟨g,e⟩
  ·have:=Rd.inj z (.inl g);subst this;exact .inr ⟨o,by rw [e]; exact Ab⟩
  ·rw [e]; exact z
 ·exact z.fz f hcd
end
theorem Fb:entryFor table "dict.update.loop"=some Builtin.«dict.update.loop»:=entryFor_of_tree (by kernel_rfl)
theorem Cr:plainId "dict.update.loop"=true:=by decide +kernel
def Uy (g0:Heap) (v:Value) (p:Str × V):Prop:=∃ a t u,v=.ref a/\IsTup g0 a #[.str p.1 t,u]/\AF p.2 u
section
variable {prog:Program} {w:World} {A:Around} {R:Result->Shared->Prop} {g0:Heap} {D it l:Addr} {vs:List Value} {ps:List (Str × V)}
end
section
variable {prog:Program} {w:World} {A:Around} {E:Value->Shared->Prop} {s:Shared}
end
theorem Mx:∀ (b a:List (Str × V)),((a ++ b).map (·.1)).Nodup->IZ (sK a) (sK b)=sK (a ++ b)
 | [],a,_=>by rw [cG]; rfl
 | q :: b,a,hn=>by
  have nq:q.1 ∉ a.map (·.1):=by
   rw [Z7,ZI] at hn;intro hm;exact (aI.mp hn).2.2 q.1 hm q.1 ZP rfl
  show IZ (BK (sK a) (Sum.inr q.1) q.2) (sK b)=_
  rw [DR nq];have:=Mx b (a ++ [(q.1,q.2)]) (by rw [aM]; exact hn);rw [this,aM];rfl
theorem QY:∀ {ws:List AH},(ws.Pairwise fun u v=>¬ J2 u v)->∀ {u v:AH},u ∈ ws->v ∈ ws->J2 u v->u=v
 | [],_,u,v,hu,_,_=>nomatch hu
 | a :: ws,h,u,v,hu,hv,al=>by
  obtain ⟨h1,h2⟩:=aX.mp h;rcases Zz.mp hu with e1 | X7
  ·rcases Zz.mp hv with e2 | YO
   ·rw [e1,e2]
   ·exact absurd (by rw [<-e1]; exact al) (h1 v YO)
  ·rcases Zz.mp hv with e2 | YO
   ·refine absurd ?_ (h1 u X7);rw [<-e2];rcases al with ⟨a1,a2⟩ | ⟨a1,a2⟩
    ·exact .inl ⟨a1.symm,a2.symm⟩
    ·exact .inr ⟨a2.symm,a1.symm⟩
   ·exact QY h2 X7 YO al
theorem Qg {ws:List AH} (h:ws.Pairwise fun u v=>¬ J2 u v) {x y:Str} {l l':Int} (e:BS ws x y l) (e':BS ws x y l'):l=l':=by
 obtain ⟨u,hu,a,rfl⟩:=e;obtain ⟨v,hv,b,rfl⟩:=e';have:u=v:=QY h hu hv (by
  rcases a with ⟨a1,a2⟩ | ⟨a1,a2⟩ <;> rcases b with ⟨b1,b2⟩ | ⟨b1,b2⟩
  ·exact .inl ⟨a1.trans b1.symm,a2.trans b2.symm⟩
  ·exact .inr ⟨a1.trans b2.symm,a2.trans b1.symm⟩
  ·exact .inr ⟨a1.trans b2.symm,a2.trans b1.symm⟩
  ·exact .inl ⟨a1.trans b1.symm,a2.trans b2.symm⟩)
 rw [this]
theorem Kt {ws GQ:List AH} (p:GQ.Perm (ws.map E5)) (x y:Str) (l:Int):BS GQ x y l ↔ BS ws x y l:=by
 constructor
 ·rintro ⟨u,hu,h,e⟩;obtain ⟨v,hv,rfl⟩:=Z6.mp (p.mem_iff.mp hu);refine ⟨v,hv,?_,e⟩;rcases C2 v with ⟨e1,e2⟩ | ⟨e1,e2⟩
  ·rw [e1,e2] at h; exact h
  ·rw [e1,e2] at h;rcases h with ⟨a,b⟩ | ⟨a,b⟩
   ·exact .inr ⟨b,a⟩
   ·exact .inl ⟨b,a⟩
 ·rintro ⟨v,hv,h,e⟩;refine ⟨E5 v,p.mem_iff.mpr (Z6.mpr ⟨v,hv,rfl⟩),?_,e⟩;rcases C2 v with ⟨e1,e2⟩ | ⟨e1,e2⟩
  ·rw [e1,e2]; exact h
  ·rw [e1,e2];rcases h with ⟨a,b⟩ | ⟨a,b⟩
   ·exact .inr ⟨b,a⟩
   ·exact .inl ⟨b,a⟩
theorem Q5 {ws GQ:List AH} (h:∀ x y l,BS GQ x y l ↔ BS ws x y l) {x y:Str} {m:Int}:Br GQ x y m ↔ Br ws x y m:=by
 constructor
 ·intro g;induction g with
  | nil x=>exact .nil x
  | cons e _ ih=>exact .cons ((h _ _ _).mp e) ih
 ·intro g;induction g with
  | nil x=>exact .nil x
  | cons e _ ih=>exact .cons ((h _ _ _).mpr e) ih
def Lz (ws:List AH) (x y:Str) (n:Int):Prop:=Br ws x y n/\∀ m,Br ws x y m->n<=m
theorem NP.dst {ws:List AH} {x y:Str} {p:Int × Str} (h:NP ws [x] y p):p.2=x/\Lz ws x y p.1:=by
 have e:p.2=x:=by simpa using h.1.1
 refine ⟨e,by rw [<-e]; exact h.1.2,fun m g=>(h.2 x (by simp) m g).fst⟩
theorem Lz.uniq {ws:List AH} {x y:Str} {n m:Int} (h:Lz ws x y n) (g:Lz ws x y m):n=m:=Int.le_antisymm (h.2 m g.1) (g.2 n h.1)
theorem Lz.symm {ws:List AH} {x y:Str} {n:Int} (h:Lz ws x y n):Lz ws y x n:=⟨h.1.symm,fun m g=>h.2 m g.symm⟩
inductive WI (ws:List AH) (I:Str->Prop):Str->Str->Int->Prop
 | edge {x y:Str} {l:Int}:BS ws x y l->WI ws I x y l
 | cons {x y z:Str} {l m:Int}:BS ws x y l->I y->WI ws I y z m->WI ws I x z (l + m)
theorem WI.pos {ws:List AH} (hp:∀ u ∈ ws,1<=u.2.2) {I:Str->Prop} {x y:Str} {m:Int} (h:WI ws I x y m):0<=m:=by
 induction h with
 | edge e=>obtain ⟨u,hu,_,rfl⟩:=e; have:=hp u hu; lia
 | cons e _ _ ih=>obtain ⟨u,hu,_,rfl⟩:=e; have:=hp u hu; lia
theorem WI.ends {ws:List AH} {xs:List Str} (he:∀ u ∈ ws,u.1 ∈ xs/\u.2.1 ∈ xs) {x y:Str} {l:Int} (e:BS ws x y l):x ∈ xs/\y ∈ xs:=by
 obtain ⟨u,hu,h,_⟩:=e;obtain ⟨a,b⟩:=he u hu;rcases h with ⟨rfl,rfl⟩ | ⟨rfl,rfl⟩
 ·exact ⟨a,b⟩
 ·exact ⟨b,a⟩
theorem WI.split {ws:List AH} (hp:∀ u ∈ ws,1<=u.2.2) {I J:Str->Prop} {k:Str} (hJ:∀ z,J z->I z\/z=k) {x y:Str} {m:Int} (h:WI ws J x y m):WI ws I x y m\/∃ m1 m2,WI ws I x k m1/\WI ws I k y m2/\m1 + m2<=m:=by
 induction h with
 | edge e=>exact .inl (.edge e)
 | @cons x a y l m e ha g ih=>
  by_cases hk:a=k
  ·subst hk;rcases ih with h | ⟨m1,m2,h1,h2,h3⟩
   ·exact .inr ⟨l,m,.edge e,h,az _⟩
   ·have:=h1.pos hp;exact .inr ⟨l,m2,.edge e,h2,by lia⟩
  ·have hI:I a:=(hJ a ha).resolve_right hk;rcases ih with h | ⟨m1,m2,h1,h2,h3⟩
   ·exact .inl (.cons e hI h)
   ·exact .inr ⟨l + m1,m2,.cons e hI h1,h2,by lia⟩
theorem Br.wi {ws:List AH} {xs:List Str} (he:∀ u ∈ ws,u.1 ∈ xs/\u.2.1 ∈ xs) {x y:Str} {m:Int} (h:Br ws x y m):(x=y/\m=0)\/WI ws (· ∈ xs) x y m:=by
 induction h with
 | nil x=>exact .inl ⟨rfl,rfl⟩
 | @cons x a y l m e g ih=>
  rcases ih with ⟨rfl,rfl⟩ | h
  ·exact .inr (by rw [cW]; exact .edge e)
  ·exact .inr (.cons e (WI.ends he e).2 h)
structure FW (ws:List AH) (xs:List Str) (t:Nat) (M:Str->Str->Option Int):Prop where
 sound:∀ x y n,M x y=some n->Br ws x y n
 comp:∀ x y m,WI ws (· ∈ xs.take t) x y m->∃ n,M x y=some n/\n<=m
 diag:∀ x ∈ xs,∃ n,M x x=some n/\n<=0
def Gj (M0 M:Str->Str->Option Int):Prop:=∀ x y n,M0 x y=some n->∃ n',M x y=some n'/\n'<=n
theorem Gj.refl (M:Str->Str->Option Int):Gj M M:=fun _ _ n h=>⟨n,h,az _⟩
theorem Gj.trans {M0 M1 M2:Str->Str->Option Int} (h:Gj M0 M1) (g:Gj M1 M2):Gj M0 M2:=fun x y n e=>by
 obtain ⟨n1,e1,l1⟩:=h x y n e;obtain ⟨n2,e2,l2⟩:=g x y n1 e1;exact ⟨n2,e2,by lia⟩
theorem FW.next {ws:List AH} (hp:∀ u ∈ ws,1<=u.2.2) {xs:List Str} (he:∀ u ∈ ws,u.1 ∈ xs/\u.2.1 ∈ xs) {t:Nat} {k:Str} (hk:xs[t]? = some k) {M0 M:Str->Str->Option Int} (h:FW ws xs t M0) (mo:Gj M0 M) (so:∀ x y n,M x y=some n->Br ws x y n)
  (via:∀ x ∈ xs,∀ y ∈ xs,∀ n1 n2,M0 x k=some n1->M0 k y=some n2->∃ n,M x y=some n/\n<=n1 + n2):FW ws xs (t + 1) M:=by
 refine ⟨so,fun x y m g=>?_,fun x hx=>?_⟩
 ·have ex:x ∈ xs/\y ∈ xs:=by
   clear mo so via h;induction g with
   | edge e=>exact WI.ends he e
   | cons e _ _ ih=>exact ⟨(WI.ends he e).1,ih.2⟩
  rcases g.split hp (I:=(· ∈ xs.take t)) (k:=k) (fun z hz=>by
   rw [ZL,hk] at hz;rcases Z9.mp hz with hz | hz
   ·exact .inl hz
   ·exact .inr (by simpa using hz)) with g | ⟨m1,m2,g1,g2,le⟩
  ·obtain ⟨n,e,l⟩:=h.comp x y m g;obtain ⟨n',e',l'⟩:=mo x y n e;exact ⟨n',e',by lia⟩
  ·obtain ⟨n1,e1,l1⟩:=h.comp x k m1 g1;obtain ⟨n2,e2,l2⟩:=h.comp k y m2 g2;obtain ⟨n,e,l⟩:=via x ex.1 y ex.2 n1 n2 e1 e2;exact ⟨n,e,by lia⟩
 ·obtain ⟨n,e,l⟩:=h.diag x hx;obtain ⟨n',e',l'⟩:=mo x x n e;exact ⟨n',e',by lia⟩
def MD (H:Hp) (A:Addr) (M:Str->Str->Option Int) (c:Nat):Prop:=∃ kvs:List (List Bg × V),H A=some (.dT kvs)/\kvs.length<=c/\∀ x y,B8 kvs [Sum.inr x,Sum.inr y]=(M x y).map V.int
theorem MD.same {H H':Hp} {A:Addr} {M:Str->Str->Option Int} {c:Nat} (h:MD H A M c) (s:Ao H H'):MD H' A M c:=let ⟨kvs,a,b,d⟩:=h; ⟨kvs,s _ _ a,b,d⟩
theorem MD.get {H:Hp} {A t:Addr} {M:Str->Str->Option Int} {c:Nat} (h:MD H A M c) {x y:Str} (ht:H t=some (.tup [.str x,.str y])):Cn H A (.ref t) ((M x y).map V.int):=by
 obtain ⟨kvs,a,_,d⟩:=h;rw [<-d x y];exact Cn.t (k:=[Sum.inr x,Sum.inr y]) a ht
def KA (M:Str->Str->Option Int) (x y:Str) (n:Int):Str->Str->Option Int:=fun a b=>if a=x/\b=y then some n else M a b
def QP (K:Zw):Sp:=fun vs H Q _=>∃ (q:Addr) (ps:List Str) (ws:List AH) (r x:Str),vs=[.ref q,.str x]/\Jy H q ps ws r/\(∀ u ∈ ws,1<=u.2.2)/\(∀ x y l l',BS ws x y l->BS ws x y l'->l=l')/\x ∈ ps /\
 ∀ (H':Hp) (B:Addr) (nv:List (Str × V)),Ao H H'->H B=none->H' B=some (.dK (sK nv))->nv.map (·.1)=ps->(∀ y v,(y,v) ∈ nv->∃ n,v=.int n/\Lz ws x y n)->Q (.ref B) H'
end L2
namespace L2
open PySem PySem.Spec PySem.W PyProof.Rows
def wk (u:AH):List OK:=[.s u.1,.s u.2.1,.i u.2.2]
theorem Q7 {H:Hp} {v:V} {u:AH} (h:Fj H v (EM u)):NL H (fun i=>decide (i < 2)) v/\PR H v=wk u:=by
 obtain ⟨w,t,e1,rfl,ht⟩:=Fc (i:=0) (ws:=[u]) (AB.cons h .nil) rfl;cases e1
 exists ⟨t,_,rfl,ht,by simp,fun i y e=>?_⟩
 ·unfold K2;match i,e with
  | 0,e=>cases e; simp
  | 1,e=>cases e; simp
  | 2,e=>cases e; simp
  | n + 3,e=>simp at e
 ·show (match H t with | some (.tup ys)=>ys.map LD | _=>[])=_
  rw [ht];rfl
theorem JS {H:Hp}:∀ {vs:List V} {ws:List AH},AB H vs (ws.map EM)->(∀ v ∈ vs,NL H (fun i=>decide (i < 2)) v)/\vs.map (PR H)=ws.map wk
 | _,[],.nil=>⟨(fun v hv=>nomatch hv),rfl⟩
 | _,u :: ws,.cons h r=>by
  obtain ⟨a1,a2⟩:=Q7 h;obtain ⟨b1,b2⟩:=JS r;refine ⟨fun v hv=>?_,by rw [ZI,ZI,a2,b2]⟩;rcases Zz.mp hv with rfl | hv
  ·exact a1
  ·exact b1 v hv
theorem Il:∀ {ns:List Int} {us:List Value},A9 (ns.map V.int) us->∀ (i:Nat) (v:Value),us[i]? = some v->∃ n t,ns[i]? = some n/\v=Value.int n t
 | [],_,.nil,i,v,e=>by simp at e
 | n :: ns,_,.cons r1 r2,0,v,e=>by
  obtain ⟨t,rfl⟩:=r1;simp only [ao,ZJ.injEq] at e;exact ⟨n,t,rfl,e.symm⟩
 | n :: ns,_,.cons r1 r2,i + 1,v,e=>by simpa using Il r2 i v (by simpa using e)
end L2
namespace L2
open PySem PySem.Spec PyProof.Rows
def A2 (a b c:Int):List V:=[.int a,.int b,.int c]
theorem KN (a b c:Int):Gn (A2 a b c) 0=some (.int a):=rfl
theorem Vb (a b c:Int):Gn (A2 a b c) 1=some (.int b):=rfl
theorem Nk (a b c:Int):Gn (A2 a b c) 2=some (.int c):=rfl
def A5 (H:Hp) (p:Addr):Prop:=∃ a b c:Int,H p=some (.lst (A2 a b c))
theorem A5.set {H:Hp} {p:Addr} (a b c:Int):A5 (upd H p (.lst (A2 a b c))) p:=⟨a,b,c,Ab⟩
theorem A5.other {H:Hp} {p D:Addr} {o:HO} (h:A5 H p) (ne:D ≠ p):A5 (upd H D o) p:=by
 obtain ⟨a,b,c,e⟩:=h;exact ⟨a,b,c,by rw [Ae ne.symm]; exact e⟩
theorem A5.ne {H:Hp} {p q:Addr} (h:A5 H p) (e:H q=none):q ≠ p:=by
 obtain ⟨a,b,c,h⟩:=h;intro z; subst z; rw [h] at e; cases e
theorem EG {α:Type}:∀ {ys:List α} {k:Nat} {y:α},ys[k]? = some y->(y :: ys.eraseIdx k).Perm ys
 | [],k,y,e=>by simp at e
 | x :: ys,0,y,e=>by
  simp at e;subst e;exact List.Perm.refl _
 | x :: ys,k + 1,y,e=>by
  simp at e;exact (List.Perm.swap x y _).trans ((EG e).cons x)
theorem Gz {α β:Type} (f:α->β):∀ (ys:List α) (k:Nat),(ys.map f).eraseIdx k=(ys.eraseIdx k).map f
 | [],k=>by simp
 | x :: ys,0=>rfl
 | x :: ys,k + 1=>by
  show f x :: (ys.map f).eraseIdx k=f x :: (ys.eraseIdx k).map f
  rw [Gz f ys k]
theorem LG:∀ {ss:List Str} {us:List Value},A9 (ss.map V.str) us->StrsAre us ss
 | [],_,.nil=>.nil
 | _ :: _,_,.cons r q=>by
  obtain ⟨t,rfl⟩:=r;exact .cons _ t (LG q)
theorem SU {X:Cx}:MtM X "str.join" (fun x vs H Q=>∃ (z:Str) (a:Addr) (ss:List Str),x=.str z/\vs=[.ref a]/\H a=some (.lst (ss.map V.str))/\z.length<=16/\(ss.map (·.length)).sum + ss.length<=1048576/\Q (.str (Txt.join z ss)) H):=by
 intro pins s σ H x vs v us Q I rx rv h;obtain ⟨z,a,ss,rfl,rfl,hH,hz,hw,q⟩:=h;obtain ⟨t,rfl⟩:=rx;obtain ⟨u,rfl,ru⟩:=rv.one;cases ru
 obtain ⟨_,Ax,n,r,_,e⟩:=I.lstM hH;refine join_listW (ys:=ss) ⟨_,e,rfl,n,rfl⟩ (by rw [List.toList_toArray]; exact LG r) hz hw fun t' k=>?_
 exact ⟨.str (Txt.join z ss),H,I.tok k,⟨t',rfl⟩,q⟩
theorem My (ss:List Str):(Txt.join (Str.ofString "") ss).cps.toList=(ss.map fun s=>s.cps.toList).flatten:=by
 unfold Txt.join;rw [PySem.StrLaws.glued_eq_join];induction ss with
 | nil=>rfl
 | cons x r ih=>
  cases r with
  | nil=>
   show x.cps.toList=_
   simp
  | cons y r=>
   have e:Str.join (Str.ofString "") (x :: y :: r)=x ++ Str.ofString "" ++ Str.join (Str.ofString "") (y :: r):=rfl;rw [e,ZI,dJ,<-ih];show ((x.cps ++ #[]) ++ (Str.join (Str.ofString "") (y :: r)).cps).toList=_
   simp
theorem R6 {ss:List Str} (h:∀ s ∈ ss,s.length=1/\Tx s):Tx (Txt.join (Str.ofString "") ss)/\(Txt.join (Str.ofString "") ss).length=ss.length/\(ss.map (·.length)).sum=ss.length:=by
 have e:∀ l:List Str,(∀ s ∈ l,s.length=1/\Tx s)->((l.map fun s=>s.cps.toList).flatten).length=l.length/\(l.map (·.length)).sum=l.length:=by
  intro l;induction l with
  | nil=>intro _; exact ⟨rfl,rfl⟩
  | cons x r ih=>
   intro h;obtain ⟨i1,i2⟩:=ih fun s hs=>h s (ZK _ hs)
   have hx:x.cps.size=1:=(h x (ZP ..)).1;constructor
   ·rw [ZI,dJ,Zy,i1,ZO,hx,ak];lia
   ·rw [ZI,cM,i2,ak];show x.cps.size + r.length=r.length + 1
    lia
 refine ⟨fun c hc=>?_,?_,(e ss h).2⟩
 ·rw [My] at hc;obtain ⟨l,hl,hcl⟩:=List.mem_flatten.mp hc;obtain ⟨s,hs,rfl⟩:=Z6.mp hl;exact (h s hs).2 c hcl
 ·show (Txt.join (Str.ofString "") ss).cps.size=_
  rw [<-ZO,My];exact (e ss h).1
theorem Mt {xs:List Str} {hd:List Nat} {f:Nat->List Nat} (h:∀ i x,xs[i]? = some x->∃ tl,x.cps.toList=hd ++ (f i ++ tl)) (hf:∀ i j,i < j->j < xs.length->∀ tl U9,f i ++ tl ≠ f j ++ U9):xs.Nodup:=by
 refine aG.mpr fun i j hi hj hij e=>?_
 obtain ⟨tl,h1⟩:=h i _ (Zt hi);obtain ⟨U9,h2⟩:=h j _ (Zt hj);rw [e,h2] at h1;exact hf i j hij hj tl U9 (List.append_cancel_left h1).symm
def Pw (n:Nat) (st sp:Int) (k:Nat):List Nat:=if 26 < n then [97 + ((st + sp * k) % 26).toNat,97 + k / 26] else [97 + ((st + sp * k) % 26).toNat]
theorem Vg {n:Nat} {st sp:Int} (hn:n<=52) (hs:sp ∈ ([1,3,5,7,9,11,15,17]:List Int)) {i j:Nat} (hij:i < j) (hj:j < n) (tl U9:List Nat):Pw n st sp i ++ tl ≠ Pw n st sp j ++ U9:=by
 have key:((st + sp * i) % 26).toNat=((st + sp * j) % 26).toNat->(j - i) % 26=0:=by
  intro e;have e2:(st + sp * i) % 26=(st + sp * j) % 26:=by
   have a1:=aY (st + sp * i) (show (26:Int) ≠ 0 by decide);have a2:=aY (st + sp * j) (show (26:Int) ≠ 0 by decide);lia
  have g:Int.gcd 26 sp=1:=by
   simp only [Zz,Z3,or_false] at hs;rcases hs with rfl | rfl | rfl | rfl | rfl | rfl | rfl | rfl <;> rfl
  have d:(26:Int) ∣ sp * ((j:Int) - i):=by
   refine Int.dvd_of_emod_eq_zero ?_;have e3:sp * ((j:Int) - i)=(st + sp * j) - (st + sp * i):=by rw [Int.mul_sub]; lia
   rw [e3,Int.sub_emod,e2,Int.sub_self];rfl
  have d2:(26:Int) ∣ (j:Int) - i:=by
   rw [Int.mul_comm] at d;have e4:Nat.gcd 26 sp.natAbs=1:=g;have e5:(26:Nat) ∣ ((j:Int) - i).natAbs * sp.natAbs:=by rw [<-Int.natAbs_mul]; exact dh.mpr d
   exact dh.mp (Nat.Coprime.dvd_of_dvd_mul_right e4 e5)
  lia
 intro e;unfold Pw at e;by_cases h:26 < n
 ·rw [if_pos h,if_pos h] at e;simp only [cB,dZ,bU.injEq] at e;have:=key (by lia);lia
 ·rw [if_neg h,if_neg h] at e;simp only [cB,dZ,bU.injEq] at e;have:=key (by lia);lia
theorem E7 {i:Int} (h0:0<=i) (h1:i < 26):Gn Ge.cps.toList i=some (97 + i.toNat):=by
 obtain ⟨n,rfl⟩:∃ n:Nat,i=(n:Int):=⟨i.toNat,by lia⟩
 have:∀ m:Fin 26,Gn Ge.cps.toList (m.val:Int)=some (97 + ((m.val:Int)).toNat):=by decide +kernel
 exact this ⟨n,by lia⟩
theorem len1 {α:Type} {l:List α} (h:l.length=1):∃ a,l=[a]:=List.length_eq_one_iff.mp h
theorem lenS {α:Type} {n:Nat} {l:List α} (h:l.length=n + 1):∃ a r,l=a :: r/\r.length=n:=by
 cases l with
 | nil=>cases h
 | cons a r=>exact ⟨a,r,rfl,eT.inj h⟩
theorem len2 {α:Type} {l:List α} (h:l.length=2):∃ a b,l=[a,b]:=by
 obtain ⟨a,r,rfl,hr⟩:=lenS h;obtain ⟨b,rfl⟩:=len1 hr;exact ⟨a,b,rfl⟩
theorem Vp {α:Type} {l:List α} (h:l.length=3):∃ a b c,l=[a,b,c]:=by
 obtain ⟨a,r,rfl,hr⟩:=lenS h;obtain ⟨b,c,rfl⟩:=len2 hr;exact ⟨a,b,c,rfl⟩
theorem len4 {α:Type} {l:List α} (h:l.length=4):∃ a b c d,l=[a,b,c,d]:=by
 obtain ⟨a,r,rfl,hr⟩:=lenS h;obtain ⟨b,c,d,rfl⟩:=Vp hr;exact ⟨a,b,c,d,rfl⟩
theorem len5 {α:Type} {l:List α} (h:l.length=5):∃ a b c d e,l=[a,b,c,d,e]:=by
 obtain ⟨a,r,rfl,hr⟩:=lenS h;obtain ⟨b,c,d,e,rfl⟩:=len4 hr;exact ⟨a,b,c,d,e,rfl⟩
section
variable {K:Type} [DecidableEq K] [BEq K] [LawfulBEq K]
def met (val:Nat->K) (i:Nat):List K:=((ZW i).map val).foldl step_dedup []
theorem IY (val:Nat->K) (i:Nat):met val (i + 1)=step_dedup (met val i) (val i):=by
 unfold met; rw [List.range_succ,Z7,List.foldl_append]; rfl
theorem OW (σ:List K) (v k:K):(step_dedup σ v).any (· == k)=(σ.any (· == k) || decide (k=v)):=by
 unfold step_dedup;by_cases h:σ.any (· == v)=true
 ·rw [if_pos h];by_cases e:k=v
  ·subst e; rw [h]; simp
  ·simp [e]
 ·rw [if_neg h,List.any_append];by_cases e:k=v
  ·subst e; simp
  ·have hb:(v == k)=false:=by simpa [beq_iff_eq] using (fun h':v=k=>e h'.symm)
   simp [hb,e]
theorem FP (σ:List K) (v:K):(step_dedup σ v).length=if σ.any (· == v) then σ.length else σ.length + 1:=by
 unfold step_dedup; split <;> simp
theorem DS (val:Nat->K):∀ i,(met val i).length<=i
 | 0=>Z4 _
 | i + 1=>by
  rw [IY,FP];have ih:=DS val i;split <;> lia
end
section
variable {prog:Program} {w:World} {A:Around} {R:Result->Shared->Prop} {I:Addr} {fp wr:List Addr} {G:Array GenState->Array GenState->Prop} {n:Nat} {P:Nat->Value->Prop} {St:Nat->Shared->Prop}
variable {K:Type} [DecidableEq K] [BEq K] [LawfulBEq K] {knd:KeyKind prog w K}
end
section
variable {prog:Program} {w:World} {A:Around} {E:Value->Shared->Prop} {s:Shared}
variable {K:Type} [DecidableEq K] [BEq K] [LawfulBEq K] {knd:KeyKind prog w K}
open PySem.F in
end
theorem Mw (ss:List Str):met (fun i=>ss.getD i (Str.ofString "")) ss.length=ss.foldl step_dedup []:=by
 unfold met;congr 1;refine cD (by simp) fun i h1 h2=>?_
 simp [ZG,Zt h2]
theorem R5 {mask finger moves:Nat} {led plain:Bool} {hs:Array Int} {t:SetTable} {o:Array Nat} (h:SetTable.laid mask finger moves led plain hs=some (t,o)):t.led=led/\t.plain=plain:=by
 unfold SetTable.laid at h;cases e:SetTable.layClean mask hs with
 | none=>rw [e] at h; cases h
 | some ow=>
  rw [e] at h;injection h with h;injection h with h1 h2;subst h1;exact ⟨rfl,rfl⟩
theorem Pk (t:SetTable) (es:Array (Int × Value)) (wanted:Nat):(relayAll t es wanted).2.1.led=t.led/\(t.plain=false->(relayAll t es wanted).2.1.plain=false):=by
 unfold relayAll;split
 ·rename_i t' order e
  have:=R5 e;dsimp only;split
  ·exact ⟨this.1,fun z=>this.2.trans z⟩
  ·exact ⟨rfl,fun _=>rfl⟩
 ·exact ⟨rfl,fun _=>rfl⟩
theorem SY (t:SetTable) (es:Array (Int × Value)) (h:Int) (x:Value):(layNew t es h x).2.1.led=t.led:=by
 unfold layNew;split
 ·dsimp only;unfold SetTable.orStandIn;split <;> rfl
 ·rfl
section
variable {prog:Program} {w:World} {A:Around} {E:Value->Shared->Prop} {s:Shared}
def Tab (w:World) (es:Array (Int × Value)) (t:SetTable):Prop:=t.led=(!w.params.followText "set-order")/\(0 < es.size->t.plain=false)
def DB (prog:Program) (w:World) (h:Heap) (a:Addr) (S:Str->Bool) (n:Nat):Prop:=
 ∃ o es ep t,h.get? a=some o/\o.ExactSet/\o.data=.set es ep t/\ElemsOf (PySem.strKind prog w) es.toList/\(∀ k,S k=true ↔ ∃ e ∈ es.toList,(PySem.strKind prog w).is k e.2=true) /\
  es.size < scanBound/\t.fits es.size=true/\es.size=n/\Tab w es t
theorem QX {a:Addr} {S:Str->Bool} {n:Nat} {k:Str} {tk:Tok} {Q:Bool->Shared->Prop} (hS:DB prog w s.heap a S n) (room:n + 1 < scanBound)
  (h:∀ h',Heap.SameBut a s.heap h'->DB prog w h' a (fun k'=>S k' || decide (k'=k)) (if S k then n else n + 1)->Q (!S k) { s with heap:=h' }) :
  wpAny (model prog w) A (setAddHashed a (.str k tk) ((PySem.strKind prog w).hash k)) Q E s:=by
 obtain ⟨o,es,ep,t,ho,ex,hd,el,mem,few,fit,hn,tab⟩:=hS;have is:(PySem.strKind prog w).is k (.str k tk)=true:=by simp [PySem.strKind,Value.isStrOf]
 have sc:(Value.str k tk).scannable=true:=rfl;have V7:es.size + 1 < scanBound:=by lia
 unfold setAddHashed setAddHashedIn;refine wpAny_holding (wpAny_bind (wpAny_setState_of ho hd fit ?_));dsimp only;rw [if_pos (byScan_of sc few el)];unfold setAddByScan;refine wpAny_bind (wpAny_bind (wpAny_rule (wpAny_bind (wpAny_setScan_of is ho hd fit el ?_))));cases hr:List.findIdx? (fun e=>(PySem.strKind prog w).is k e.2) es.toList with
 | some j=>
  obtain ⟨hj,pj,_⟩:=List.findIdx?_eq_some_iff_getElem.mp hr;have there:S k=true:=(mem k).mpr ⟨es.toList[j],ar hj,pj⟩;refine wpAny_pure (wpAny_pure ?_);have q:=h s.heap (Heap.SameBut.refl a s.heap) ⟨o,es,ep,t,ho,ex,hd,el,fun k'=>?_,few,fit,by rw [there]; exact hn,tab⟩
  ·rw [there] at q; exact q
  ·rw [Bool.or_eq_true,decide_eq_true_eq,<-mem k'];exact ⟨fun z=>z.elim id fun e=>e ▸ there,.inl⟩
 | none=>
  have gone:S k=false:=by
   cases z:S k with
   | false=>rfl
   | true=>
    obtain ⟨e,he,hp⟩:=(mem k).mp z;have:=List.findIdx?_eq_none_iff.mp hr e he;rw [hp] at this;cases this
  dsimp only;have pm:=layNew_perm t es ((PySem.strKind prog w).hash k) (.str k tk);have ft:=layNew_fits t es ((PySem.strKind prog w).hash k) (.str k tk);have ld:=SY t es ((PySem.strKind prog w).hash k) (.str k tk);generalize layNew t es ((PySem.strKind prog w).hash k) (.str k tk)=L at pm ft ld ⊢;obtain ⟨J5,t1,dum,gv⟩:=L;dsimp only at pm ft ld ⊢;rw [dB] at pm;have el1:=(el.push is sc).perm pm;have W3:=mem_push_iff is mem pm;have z1:J5.size=n + 1:=by rw [<-ZO,pm.length_eq,Zy,ZO,hn]; rfl
  have V6:J5.size < scanBound:=by lia
  have fin:∀ (Qv:Array (Int × Value)) (t2:SetTable) (h':Heap) (o':Obj) (Ut:Nat),Heap.SameBut a s.heap h'->h'.get? a=some o'->o'.ExactSet->o'.data=.set Qv Ut t2->Qv.toList.Perm J5.toList->t2.fits Qv.size=true->t2.led=t.led->t2.plain=false->Q true { s with heap:=h' }:=by
   intro Qv t2 h' o' Ut sb g x d p f l pl;have z2:Qv.size=n + 1:=by rw [<-z1,<-ZO,p.length_eq,ZO]
   have q:=h h' sb ⟨o',Qv,Ut,t2,g,x,d,el1.perm p,fun k'=>(W3 k').trans ⟨fun ⟨e,he,r⟩=>⟨e,p.mem_iff.mpr he,r⟩,fun ⟨e,he,r⟩=>⟨e,p.mem_iff.mp he,r⟩⟩,by lia,f,by rw [gone]; exact z2,l.trans tab.1,fun _=>pl⟩;rw [gone] at q;exact q
  have gw:∀ (b:Bool) {AR:Shared} {R:Unit->Shared->Prop},R () AR->wpAny (model prog w) A (match b with | true=>rule "set.scan.the-table-gave-way" | false=>pure ()) R E AR:=fun b AR R q=>by cases b <;> first | exact wpAny_pure q | exact wpAny_rule q
  refine wpAny_bind (gw gv ?_);have main:∀ t2:SetTable,t2.fits J5.size=true->t2.led=t.led->t2.plain=false->wpAny (model prog w) A (do
    storeSet a J5 t2
    if (!dum && t2.tooFull)=true then do
      (match (relayAll t2 J5 (SetTable.grown J5.size)).2.2 with | true=>rule "set.scan.the-table-gave-way" | false=>pure ())
      storeSet a (relayAll t2 J5 (SetTable.grown J5.size)).1 (relayAll t2 J5 (SetTable.grown J5.size)).2.1
      pure (some true)
     else pure (some true)) (fun r s'=>r=some true/\Q true s') E s:=by
   intro t2 f2 l2 p2;refine wpAny_bind (wpAny_storeSet_of ho hd ?_ (fits_of_scanBound V6));obtain ⟨g1,_⟩:=SetOf_store (knd:=PySem.strKind prog w) ho ex hd el1 W3 V6 f2;have sb1:=Heap.SameBut.update s.heap a (Obj.putSet J5 t2);split
   ·have pr:=relayAll_perm t2 J5 (SetTable.grown J5.size);have fr:=relayAll_fits t2 J5 (SetTable.grown J5.size);have lr:=Pk t2 J5 (SetTable.grown J5.size);generalize relayAll t2 J5 (SetTable.grown J5.size)=R at pr fr lr ⊢;obtain ⟨Qv,t3,gv2⟩:=R;dsimp only at pr fr lr ⊢;have z2:Qv.size=J5.size:=by rw [<-ZO,pr.length_eq,ZO]
    refine wpAny_bind (gw gv2 ?_);refine wpAny_bind (wpAny_storeSet_of g1 rfl ?_ (fits_of_scanBound (by rw [z2]; exact V6)));have g2:=ah (Obj.putSet Qv t3) g1 (by rw [putSet_of Qv t3 rfl]; rfl);rw [putSet_of Qv t3 rfl] at g2;exact wpAny_pure ⟨rfl,fin Qv t3 _ _ _ (sb1.trans (Heap.SameBut.update _ a _)) g2 ex rfl pr fr (lr.1.trans l2) (lr.2 p2)⟩
   ·exact wpAny_pure ⟨rfl,fin J5 t2 _ _ _ sb1 g1 ex rfl (.refl _) f2 l2 p2⟩
  by_cases pl:t1.plain=true
  ·rw [if_pos pl];refine wpAny_bind ?_;rw [hashByValue_scannable 8 sc];refine wpAny_pure ?_;refine wpAny_mono (main { t1 with plain:=false } (SetTable.fits_plain_off ft) ld rfl) (fun r s' z=>?_) fun _ _ z=>z
   obtain ⟨rfl,z⟩:=z;exact wpAny_pure z
  ·rw [if_neg pl];refine wpAny_bind (wpAny_pure ?_);refine wpAny_mono (main t1 ft ld (by simpa using pl)) (fun r s' z=>?_) fun _ _ z=>z
   obtain ⟨rfl,z⟩:=z;exact wpAny_pure z
end
section
variable {prog:Program} {w:World} {A:Around} {R:Result->Shared->Prop} {I:Addr} {fp wr:List Addr} {G:Array GenState->Array GenState->Prop} {n:Nat} {P:Nat->Value->Prop} {St:Nat->Shared->Prop}
theorem DB.kept {h h':Heap} {a:Addr} {S:Str->Bool} {n:Nat} (hS:DB prog w h a S n) (k:∀ o,h.get? a=some o->h'.get? a=some o):DB prog w h' a S n:=by
 obtain ⟨o,es,ep,t,ho,r⟩:=hS;exact ⟨o,es,ep,t,k _ ho,r⟩
theorem DB.as {h:Heap} {a:Addr} {S S':Str->Bool} {n n':Nat} (hS:DB prog w h a S n) (e:∀ k,S' k=S k) (en:n'=n):DB prog w h a S' n':=by
 subst en;have:S'=S:=funext e;rw [this];exact hS
theorem Pe (W:WalksS prog w A.in1 I fp wr G n P St) (D:Addr) (hD:D ∉ fp) (val:Nat->Str) (hv:∀ i v,P i v->∃ tk,v=.str (val i) tk) (few:n + 1 < scanBound) :
  ∀ (k i:Nat) (s:Shared),n - i=k->i<=n->St i s->DB prog w s.heap D (fun k'=>(met val i).any (· == k')) (met val i).length ->
   (∀ s',Moved (D :: wr) G s s'->DB prog w s'.heap D (fun k'=>(met val n).any (· == k')) (met val n).length->R (.ok (.ret .none)) s') ->
   codeAny (model prog w) A (.builtin "set.update.loop" ⟨[.ref D,.ref I],[]⟩) R s:=by
 have hw:D ∉ wr:=fun z=>hD (W.sub _ z)
 have up:∀ b ∈ wr,b ∈ D :: wr:=fun b z=>ZK _ z
 intro k;induction k with
 | zero=>
  intro i s hk hi st hS q;have e:i=n:=by lia
  subst e;refine codeAny_builtin F.entry_set_update_loop ?_;rw [Around.under_plainId F.plain_set_update_loop _];refine wpAny_bind (W.done s _ _ st fun s' m=>?_);exact wpAny_pure (q s' (m.mono up) (hS.kept fun o e=>m.heap D _ hw e))
 | succ k ih=>
  intro i s hk hi st hS q;have lt:i < n:=by lia
  refine codeAny_builtin F.entry_set_update_loop ?_;rw [Around.under_plainId F.plain_set_update_loop _];refine wpAny_bind (W.item i s _ _ lt st fun v s' pv Bh m=>?_);obtain ⟨tk,rfl⟩:=hv i v pv;have O7:=hS.kept (h':=s'.heap) fun o e=>m.heap D _ hw e
  refine wpAny_bind (wpAny_holding ?_);unfold setAdd;refine wpAny_holding ?_;refine wpAny_bind ((PySem.strKind prog w).pyHash (k:=val i) (by simp [PySem.strKind,Value.isStrOf]) ?_);refine QX (s:={ s' with toks:=s'.toks + 1 }) O7 (by have:=DS val i; lia) fun h' sb hS2=>?_
  have nx:DB prog w h' D (fun k'=>(met val (i + 1)).any (· == k')) (met val (i + 1)).length:=
   hS2.as (fun k'=>by rw [IY,OW]) (by rw [IY,FP])
  refine wpAny_pure ⟨plainId_quiet F.plain_set_update_loop _,ih (i + 1) _ (by lia) lt (W.frame _ s' _ _ Bh (ZX _) fun b z o e=>?_) nx fun UN m2 hS3=>?_⟩
  ·rw [sb.2 b fun y:b=D=>hD (y ▸ z)];exact e
  ·refine q UN (Moved.trans W.gtrans ((m.mono up).then_heap (ZX _) fun b o z e=>?_) m2) hS3;rw [sb.2 b fun y:b=D=>z (y ▸ ZP)];exact e
end
section
variable {prog:Program} {w:World} {A:Around} {E:Value->Shared->Prop} {s:Shared}
theorem QW (a:Value) {Q₁:Value->Shared->Prop}
  (h:Q₁ (.ref s.heap.objs.size) { s with heap:=s.heap.push { cls:=.type "set",dict:=none,data:=.set #[] 0 (.fresh 0 0 (!w.params.followText "set-order")) } }) :
  codeAny (model prog w) A (.call (.builtin "set.__new__") ⟨[.type "set",a],[]⟩) (wants Q₁ E) s:=by
 refine codeAny_of_tree ?_;show wpAny _ A.in1 (checkBuiltinCall "set.__new__" ⟨[.type "set",a],[]⟩ >>= fun _=>again (.builtin "set.__new__" ⟨[.type "set",a],[]⟩)) _ _ s
 refine wpAny_bind (wpAny_of_eq (F.newCall_set_1 a) (wpAny_pure ⟨plainId_quiet F.plain_set_new _,codeAny_builtin F.entry_set_new ?_⟩));rw [Around.under_plainId F.plain_set_new _];unfold Builtin.«set.__new__» Builtin.Frozenset.newClass;have hsub:=sub_set_self;obtain ⟨hp,g,d,tk,os⟩:=s;dsimp only;wp_walk;refine wpAny_askSetting (wpAny_pure ?_);dsimp only;simp only [newObj];refine wpAny_bind (wpAny_alloc (wpAny_pure ?_));exact wpAny_pure h
theorem Om {a:Addr} {T:String} {o:Obj} {oI:Obj} {items:Array Value} {val:Nat->Str} {St:Addr->Nat->Heap->Prop} {Q:Value->Shared->Prop} (hh:A.handled=none)
  (ho:s.heap.get? a=some o) (hc:o.cls=.type T) (hnd:(Value.type T == Value.type "dict")=false) (hs1:isSubtype (.type T) (.type "set")=pure false) (Wc:isSubtype (.type T) (.type "frozenset")=pure false)
  (hit:∀ (B:Around) (E':Value->Shared->Prop) (s1:Shared) (Q':Value->Shared->Prop),(∀ b o,s.heap.get? b=some o->s1.heap.get? b=some o)->Q' (.ref s1.heap.objs.size) { s1 with heap:=s1.heap.push oI }->wpAny (model prog w) B (pyIter (.ref a)) Q' E' s1)
  (hW:∀ (B:Around) (I:Addr),B.handled=none->a ≠ I->Walks prog w B I [I,a] [I] items.size (fun i v=>items[i]? = some v) (St I))
  (hst:∀ h:Heap,(∀ b o,s.heap.get? b=some o->h.get? b=some o)->St h.objs.size 0 (h.push oI))
  (hi:∀ (i:Nat) v,items[i]? = some v->∃ tk,v=.str (val i) tk) (few:items.size + 1 < scanBound)
  (h:∀ (h':Heap) (tk:Nat),DB prog w h' s.heap.objs.size (fun k'=>(met val items.size).any (· == k')) (met val items.size).length ->
   (∀ b o,s.heap.get? b=some o->h'.get? b=some o)->Q (.ref s.heap.objs.size) { s with heap:=h',toks:=tk }) :
  wpAny (model prog w) A (call (.type "set") [.ref a]) Q E s:=by
 obtain ⟨c,tl,hmro⟩:=F.called_set.mro;have hmade:=F.called_set.made;have hsub:=F.called_set.sub;refine wpAny_call (codeAny_of_tree ?_);show wpAny _ _ (callAny (.type "set") _) _ _ _
 refine wpAny_pure ⟨Code.quiet_builtin _ (by decide +kernel),codeAny_builtin F.entry_type_call ?_⟩;rw [Around.under_plain (weight_type_call_type "set" [.ref a] []) rfl];have h1:=F.called_set.notType;have h2:=F.called_set.canCreate;have hct:=F.typeCall_set_1 (.ref a);repeat (any_goals (first | assumption | wp_step))
 obtain ⟨fr,efr⟩:∃ fr:Obj,fr = { cls:=.type "set",dict:=none,data:=.set #[] 0 (.fresh 0 0 (!w.params.followText "set-order")) }:=⟨_,rfl⟩
 refine codeAny_mono (QW (.ref a) (E:=E) (Q₁:=fun obj AR=>obj=.ref s.heap.objs.size/\AR = { s with heap:=s.heap.push fr }) ⟨rfl,by rw [efr]⟩) fun r AR hr=>?_
 have gS:(s.heap.push fr).get? s.heap.objs.size=some fr:=Z5 _ (by rw [efr]; rfl);have cf:fr.cls=.type "set":=by rw [efr]
 have new:∀ h5:Heap,h5.get? s.heap.objs.size=some fr->DB prog w h5 s.heap.objs.size (fun k'=>(met val 0).any (· == k')) (met val 0).length:=fun h5 g=>
  ⟨fr,#[],0,.fresh 0 0 (!w.params.followText "set-order"),g,by rw [efr]; exact ⟨rfl,rfl,rfl⟩,by rw [efr],fun e he=>by simp at he,fun k=>by simp [met],by decide,rfl,rfl,rfl,fun z=>by simp at z⟩
 cases r with
 | error e=>exact hr
 | ok fl=>
  cases fl with
  | ret obj=>
   obtain ⟨rfl,rfl⟩:=hr;have hT:Shared.TypeIs { s with heap:=s.heap.push fr } (.ref s.heap.objs.size) "set":=⟨_,gS,cf⟩
   have hli:=F.called_set.init.lookup;have hbi:=F.called_set.init.bind (.ref s.heap.objs.size);repeat (any_goals (first | assumption | wp_step))
   refine codeAny_mono (codeAny_call_builtin (R:=wants (fun r EI=>r=.none/\∃ h' tk,EI = { s with heap:=h',toks:=tk } /\
     DB prog w h' s.heap.objs.size (fun k'=>(met val items.size).any (· == k')) (met val items.size).length /\
     (∀ b o,s.heap.get? b=some o->h'.get? b=some o)) E) F.called_set.init.plain F.entry_set_init (check_set_init_1 hT ?_)) fun Y2 EI RF=>?_
   ·obtain ⟨ocls,odict,odata,oslots⟩:=o;simp only at hc;subst hc;have lt:a < s.heap.objs.size:=Z1 ho;have Im:(s.heap.push fr).get? a=some { cls:=.type T,dict:=odict,data:=odata,slots:=oslots }:=Zu _ ho;subst efr;unfold Builtin.«set.__init__» noKeywords Builtin.Frozenset.updateFrom;generalize hPI:pyIter=PI;wp_walk;subst hPI;refine hit _ _ _ _ (fun b o e=>Zu _ e) ?_;refine wpAny_bind (wpAny_runValue ?_);have ne:a ≠ (s.heap.push { cls:=.type "set",dict:=none,data:=.set #[] 0 (.fresh 0 0 (!w.params.followText "set-order")) }).objs.size:=by
     rw [ae]; exact Z8 (ZY lt)
    have nS:s.heap.objs.size ∉ [(s.heap.push { cls:=.type "set",dict:=none,data:=.set #[] 0 (.fresh 0 0 (!w.params.followText "set-order")) }).objs.size,a]:=by
     rw [ae]; simp only [Zz,Z3,or_false,not_or];exact ⟨Z8 (ai _),aA lt⟩
    refine Pe ((hW _ _ (by simp [hh]) ne).toS) s.heap.objs.size nS val hi few (items.size - 0) 0 _ (by lia) (ZQ _) (hst _ fun b o e=>Zu _ e) (new _ (Zu _ gS)) ?_;intro s' hm O7;obtain ⟨h',g',d',VT,YB⟩:=s';have eg:g'=s.gens:=hm.gens;have ed:d'=s.drawn:=hm.drawn;have eo:YB=s.os:=hm.os;subst eg ed eo;refine wpAny_pure ?_;refine wpAny_pure ⟨rfl,h',VT,rfl,O7,fun b o e=>?_⟩;have hb:=Z1 e;have WO:b ≠ s.heap.objs.size:=Z8 hb;have hb2:b ≠ (s.heap.push { cls:=.type "set",dict:=none,data:=.set #[] 0 (.fresh 0 0 (!w.params.followText "set-order")) }).objs.size:=by
     rw [ae]; exact Z8 (ZY hb)
    exact hm.heap b o (by simp only [Zz,Z3,or_false,not_or]; exact ⟨WO,hb2⟩) (Zu _ (Zu _ e))
   ·cases Y2 with
    | error e=>exact RF
    | ok Xg=>
     cases Xg with
     | ret r=>
      obtain ⟨rfl,h',tk,rfl,O7,Uj⟩:=RF;repeat (any_goals (first | assumption | wp_step))
      exact h _ _ O7 Uj
     | _=>exact RF.elim
  | _=>exact hr.elim
end
theorem Jm:entryFor table "set.__iter__"=some Builtin.«frozenset.__iter__»:=
 entryFor_alias (id':="frozenset.__iter__") (by kernel_rfl) rfl (by decide +kernel) (by kernel_rfl)
theorem Cg:entryFor table "set_iterator.__next__"=some Builtin.«set_iterator.__next__»:=entryFor_of_tree (by kernel_rfl)
theorem AM:Slot "set_iterator" "__next__" "set_iterator.__next__":=
 .of (owner:="set_iterator") (n:="__next__") (by rw [typeLookup_type,builtinLookup_eq_fast]; kernel_rfl) (by decide +kernel) (by decide +kernel) (by decide +kernel)
  (by first | exact .inl (by decide +kernel) | exact .inr (by decide +kernel)) (by rw [isSubtype_type]; kernel_rfl)
theorem EN:Slot "set_iterator" "__iter__" "set_iterator.__iter__":=
 .of (owner:="set_iterator") (n:="__iter__") (by rw [typeLookup_type,builtinLookup_eq_fast]; kernel_rfl) (by decide +kernel) (by decide +kernel) (by decide +kernel)
  (by first | exact .inl (by decide +kernel) | exact .inr (by decide +kernel)) (by rw [isSubtype_type]; kernel_rfl)
theorem Cy (a:Value):argsOk "set_iterator.__next__" ⟨[a],[]⟩:=by unfold argsOk; kernel_rfl
theorem Jw (a:Value):argsOk "set_iterator.__iter__" ⟨[a],[]⟩:=by unfold argsOk; kernel_rfl
theorem HU:entryFor table "set_iterator.__iter__"=some Builtin.«dict_keyiterator.__iter__»:=
 entryFor_alias (id':="dict_keyiterator.__iter__") (by kernel_rfl) (by first | rfl | decide +kernel | (unfold String.splitOn; simp +decide [String.splitOnAux])) (by decide +kernel) (by kernel_rfl)
section
variable {prog:Program} {w:World} {A:Around} {E:Value->Shared->Prop} {s:Shared}
def DC (x:Value) (i:Int) (a:Addr) (n ep:Nat):Obj:={ cls:=.type "set_iterator",data:=.fields #[x,.int i 0,.ref a,.int n 0,.int ep 0] }
theorem Kd {r a:Addr} {x:Value} {i:Int} {n ep:Nat} {Q:Value->Shared->Prop} (hr:s.heap.get? r=some (DC x i a n ep)) (h:Q (.ref r) s):wpAny (model prog w) A (pyIter (.ref r)) Q E s:=by
 have hT:s.TypeIs (.ref r) "set_iterator":=⟨_,hr,rfl⟩
 refine wpAny_pyIter_slot hT EN (wpAny_call_entry EN hT HU ?_ (Jw _));show wpAny _ _ (ret (.ref r)) _ _ s
 exact wpAny_pure ⟨_,rfl,"set_iterator",_,hT,AM.lookup,h⟩
def CI (w:World) (a:Addr) (es:Array (Int × Value)) (ep:Nat) (t:SetTable) (slot given:Nat):Option (Value × Nat):=
 if w.params.followText "set-order"=true then ((pickOrder (w.params.setOrder a ep) es)[given]?).map fun e=>(e.2,slot) else
 match es[SetTable.below t.place slot]?,t.place[SetTable.below t.place slot]? with
  | some (_,x),some j=>some (x,j + 1)
  | _,_=>none
theorem LS {a:Addr} {o:Obj} {es:Array (Int × Value)} {ep:Nat} {t:SetTable} {slot given:Nat} {Q:Option (Value × Nat)->Shared->Prop} (ho:s.heap.get? a=some o) (hd:o.data=.set es ep t) (fit:t.fits es.size=true) (tab:Tab w es t)
  (few:w.params.followText "set-order"=false->es.size<=1) (h:Q (CI w a es ep t slot given) s):wpAny (model prog w) A (setNext a slot given ep) Q E s:=by
 unfold setNext;refine wpAny_bind (wpAny_setState_of ho hd fit ?_);dsimp only;unfold setsByText;refine wpAny_bind (wpAny_bind (wpAny_askSetting (wpAny_pure ?_)));unfold CI at h;show wpAny _ _ (if w.params.followText "set-order"=true then _ else _) _ _ _
 by_cases z:w.params.followText "set-order"=true
 ·rw [if_pos z] at h;rw [if_pos z,if_neg (by simp)];unfold setWalk;refine wpAny_bind (wpAny_bind (wpAny_setState_of ho hd fit ?_));dsimp only;unfold setsByText;refine wpAny_bind (wpAny_bind (wpAny_askSetting (wpAny_pure ?_)));show wpAny _ _ (if w.params.followText "set-order"=true then _ else _) _ _ _
  rw [if_pos z];refine wpAny_bind (wpAny_askSetting (wpAny_pure ?_));exact wpAny_pure h
 ·rw [if_neg z] at h;rw [if_neg z];have z':w.params.followText "set-order"=false:=by simpa using z
  have sm:=few z';show wpAny _ _ (if (!t.plain && decide (es.size > 1))=true then _ else _) _ _ _
  rw [if_neg (by simp; lia)];refine wpAny_bind ?_;show wpAny _ _ (if (!t.led && !es.isEmpty)=true then _ else _) _ _ _
  rw [if_neg (by rw [tab.1,z']; simp)];exact wpAny_pure (wpAny_pure h)
theorem OY {r a:Addr} {slot i:Nat} {o:Obj} {es:Array (Int × Value)} {ep:Nat} {t:SetTable} {x:Value} {nx:Nat} {Q:Option Value->Shared->Prop}
  (hr:s.heap.get? r=some (DC (.int slot 0) i a es.size ep)) (ho:s.heap.get? a=some o) (hd:o.data=.set es ep t) (fit:t.fits es.size=true) (tab:Tab w es t) (few:w.params.followText "set-order"=false->es.size<=1)
  (hx:CI w a es ep t slot i=some (x,nx))
  (hQ:∀ h',h'.get? r=some (DC (.int nx 0) (i + 1) a es.size ep)->Heap.SameBut r s.heap h'->Q (some x) { s with heap:=h' }) :
  wpAny (model prog w) A (pyNext (.ref r)) Q E s:=by
 have hT:s.TypeIs (.ref r) "set_iterator":=⟨_,hr,rfl⟩
 obtain ⟨hp,g,d,tk,os⟩:=s;unfold pyNext;refine wpAny_bind (wpAny_attempt (wpAny_callSpecial?_slot (name:=Str.ofString "__next__") hT AM
  (wpAny_call_entry AM hT Cg ?_ (Cy _))))
 unfold Builtin.«set_iterator.__next__»;unfold DC at hr;repeat (any_goals (first | assumption | (refine wpAny_setEntries_of ho hd fit ?_) | (refine LS (given:=i) (slot:=slot) ho hd fit tab few ?_) | wp_step))
 rw [show ((ep:Nat):Int).toNat=ep by simp,hx];repeat (any_goals (first | assumption | wp_step))
 refine ⟨_,rfl,wpAny_pure (hQ _ ?_ ((Heap.SameBut.update ..).trans (Heap.SameBut.update ..)))⟩;have e1:=ah (Obj.mapFields fun fs=>fs.setIfInBounds 0 (rawInt nx)) hr rfl;have e2:=ah (Obj.mapFields fun fs=>fs.setIfInBounds 1 (rawInt (i + 1))) e1 rfl;exact e2
theorem QT {r a:Addr} {slot i:Nat} {o:Obj} {es:Array (Int × Value)} {ep:Nat} {t:SetTable} {Q:Option Value->Shared->Prop} (hh:A.handled=none)
  (hr:s.heap.get? r=some (DC (.int slot 0) i a es.size ep)) (ho:s.heap.get? a=some o) (hd:o.data=.set es ep t) (fit:t.fits es.size=true) (tab:Tab w es t) (few:w.params.followText "set-order"=false->es.size<=1)
  (hx:CI w a es ep t slot i=none)
  (hQ:∀ h',Heap.ExtBut r s.heap h'->Q none { s with heap:=h' }) :
  wpAny (model prog w) A (pyNext (.ref r)) Q E s:=by
 have hT:s.TypeIs (.ref r) "set_iterator":=⟨_,hr,rfl⟩
 obtain ⟨hp,g,d,tk,os⟩:=s;unfold pyNext;refine wpAny_bind (wpAny_attempt (wpAny_callSpecial?_slot (name:=Str.ofString "__next__") hT AM
  (wpAny_call_entry AM hT Cg ?_ (Cy _))))
 unfold Builtin.«set_iterator.__next__»;unfold DC at hr;repeat (any_goals (first | assumption | (refine wpAny_setEntries_of ho hd fit ?_) | (refine LS (given:=i) (slot:=slot) ho hd fit tab few ?_) | wp_step))
 rw [show ((ep:Nat):Int).toNat=ep by simp,hx];repeat (any_goals (first | assumption | wp_step))
 simp only [raiseNew];refine wpAny_bind (wpAny_handled ?_);rw [show A.in1.handled=none from hh];refine wpAny_bind (wpAny_pure (wpAny_throw ?_));refine wpAny_bind (wpAny_isInstance (T:="StopIteration") (b:=true) ⟨_,Z5 _ rfl,rfl⟩ isSubtype_stop ?_);exact wpAny_pure (hQ _ fun b o hb e=>Zu _ (Zu _ ((Heap.SameBut.update ..).extBut b o hb e)))
end
section
variable {prog:Program} {w:World} {A:Around} {E:Value->Shared->Prop} {s:Shared}
def Px (is:List Nat) (c:Nat):Obj:={ cls:=.type "tuple",data:=.seq (is.map fun (i:Nat)=>rawInt i).toArray c }
theorem OZ {a:Addr} {o:Obj} {es:Array (Int × Value)} {ep:Nat} {t:SetTable} {j:Nat} {h:Int} {x:Value} {Q:Value->Shared->Prop} (ho:s.heap.get? a=some o) (hd:o.data=.set es ep t) (fit:t.fits es.size=true)
  (hx:es[j]? = some (h,x)) (q:Q x s):wpAny (model prog w) A (setNextDrawn a j ep) Q E s:=by
 unfold setNextDrawn;refine wpAny_bind (wpAny_setState_of ho hd fit ?_);dsimp only;rw [if_neg (by simp),hx];exact wpAny_pure q
theorem Pc {r a p:Addr} {i c:Nat} {o:Obj} {es:Array (Int × Value)} {ep:Nat} {t:SetTable} {is:List Nat} {j:Nat} {h:Int} {x:Value} {Q:Option Value->Shared->Prop}
  (hr:s.heap.get? r=some (DC (.ref p) i a es.size ep)) (hp:s.heap.get? p=some (Px is c)) (ho:s.heap.get? a=some o) (hd:o.data=.set es ep t) (fit:t.fits es.size=true)
  (hj:is[i]? = some j) (hx:es[j]? = some (h,x))
  (hQ:∀ h',h'.get? r=some (DC (.ref p) (i + 1) a es.size ep)->Heap.SameBut r s.heap h'->Q (some x) { s with heap:=h' }) :
  wpAny (model prog w) A (pyNext (.ref r)) Q E s:=by
 have hT:s.TypeIs (.ref r) "set_iterator":=⟨_,hr,rfl⟩
 have O5:((is.map fun (i:Nat)=>rawInt i).toArray)[i]? = some (.int j 0):=by simp [hj,rawInt]
 obtain ⟨hp,g,d,tk,os⟩:=s;unfold pyNext;refine wpAny_bind (wpAny_attempt (wpAny_callSpecial?_slot (name:=Str.ofString "__next__") hT AM
  (wpAny_call_entry AM hT Cg ?_ (Cy _))))
 unfold Builtin.«set_iterator.__next__»;unfold DC at hr;unfold Px at hp;repeat (any_goals (first | assumption | (refine wpAny_setEntries_of ho hd fit ?_) | wp_step))
 rw [show ((i:Nat):Int).toNat=i by simp,O5];dsimp only;refine wpAny_bind (OZ (h:=h) (x:=x) ho hd fit (by simpa using hx) ?_);repeat (any_goals (first | assumption | wp_step))
 refine ⟨_,rfl,wpAny_pure (hQ _ ?_ (Heap.SameBut.update ..))⟩;exact ah (Obj.mapFields fun fs=>fs.setIfInBounds 1 (rawInt (i + 1))) hr rfl
theorem QU {r a p:Addr} {i c:Nat} {o:Obj} {es:Array (Int × Value)} {ep:Nat} {t:SetTable} {is:List Nat} {Q:Option Value->Shared->Prop} (hh:A.handled=none)
  (hr:s.heap.get? r=some (DC (.ref p) i a es.size ep)) (hp:s.heap.get? p=some (Px is c)) (ho:s.heap.get? a=some o) (hd:o.data=.set es ep t) (fit:t.fits es.size=true)
  (hj:is[i]? = none) (hQ:∀ h',Heap.ExtBut r s.heap h'->Q none { s with heap:=h' }) :
  wpAny (model prog w) A (pyNext (.ref r)) Q E s:=by
 have hT:s.TypeIs (.ref r) "set_iterator":=⟨_,hr,rfl⟩
 have O5:((is.map fun (i:Nat)=>rawInt i).toArray)[i]? = none:=by simpa using hj
 obtain ⟨hp,g,d,tk,os⟩:=s;unfold pyNext;refine wpAny_bind (wpAny_attempt (wpAny_callSpecial?_slot (name:=Str.ofString "__next__") hT AM
  (wpAny_call_entry AM hT Cg ?_ (Cy _))))
 unfold Builtin.«set_iterator.__next__»;unfold DC at hr;unfold Px at hp;repeat (any_goals (first | assumption | (refine wpAny_setEntries_of ho hd fit ?_) | wp_step))
 rw [show ((i:Nat):Int).toNat=i by simp,O5];repeat (any_goals (first | assumption | wp_step))
 simp only [raiseNew];refine wpAny_bind (wpAny_handled ?_);rw [show A.in1.handled=none from hh];refine wpAny_bind (wpAny_pure (wpAny_throw ?_));refine wpAny_bind (wpAny_isInstance (T:="StopIteration") (b:=true) ⟨_,Z5 _ rfl,rfl⟩ isSubtype_stop ?_);exact wpAny_pure (hQ _ fun b o hb e=>Zu _ (Zu _ ((Heap.SameBut.update ..).extBut b o hb ((Heap.SameBut.update ..).extBut b o hb e))))
theorem MR (hh:A.handled=none) (I a:Addr) (ne:a ≠ I) {o:Obj} {es:Array (Int × Value)} {ep:Nat} {t:SetTable} (hd:o.data=.set es ep t) (fit:t.fits es.size=true) (tab:Tab w es t) (few:w.params.followText "set-order"=false->es.size<=1)
  (vs:List Value) (sl:Nat->Nat) (hs:∀ (i:Nat) (v:Value),vs[i]? = some v->CI w a es ep t (sl i) i=some (v,sl (i + 1))) (he:CI w a es ep t (sl vs.length) vs.length=none) :
  Walks prog w A I [I,a] [I] vs.length (fun i v=>vs[i]? = some v) (fun i h=>h.get? I=some (DC (.int (sl i:Nat) 0) i a es.size ep)/\h.get? a=some o) where
 sub:=fun b hb=>by simp at hb; simp [hb]
 frame:=fun i h h' st k=>⟨k I (by simp) _ st.1,k a (by simp) _ st.2⟩
 item:=fun i s Q E hi st q=>by
  have e:vs[i]? = some vs[i]:=by simp [hi]
  refine OY st.1 st.2 hd fit tab few (hs i _ e) fun h' hr sb=>q _ h' s.toks e ⟨hr,?_⟩ fun b o hb z=>?_
  ·rw [sb.2 a ne]; exact st.2
  ·rw [sb.2 b (by simpa using hb)]; exact z
 done:=fun s Q E st q=>QT hh st.1 st.2 hd fit tab few he fun h' eb=>q h' s.toks fun b o hb z=>eb b o (by simpa using hb) z
 self:=fun i s Q E st q=>Kd st.1 q
theorem MS (hh:A.handled=none) (I a p:Addr) (ne:a ≠ I) (np:p ≠ I) {o:Obj} {es:Array (Int × Value)} {ep c:Nat} {t:SetTable} (hd:o.data=.set es ep t) (fit:t.fits es.size=true)
  (is:List Nat) (vs:List Value) (hl:is.length=vs.length) (hs:∀ (i:Nat) (v:Value),vs[i]? = some v->∃ j h,is[i]? = some j/\es[j]? = some (h,v)) :
  Walks prog w A I [I,a,p] [I] vs.length (fun i v=>vs[i]? = some v) (fun i h=>h.get? I=some (DC (.ref p) i a es.size ep)/\h.get? a=some o/\h.get? p=some (Px is c)) where
 sub:=fun b hb=>by simp at hb; simp [hb]
 frame:=fun i h h' st k=>⟨k I (by simp) _ st.1,k a (by simp) _ st.2.1,k p (by simp) _ st.2.2⟩
 item:=fun i s Q E hi st q=>by
  have e:vs[i]? = some vs[i]:=by simp [hi]
  obtain ⟨j,h,e1,e2⟩:=hs i _ e;refine Pc st.1 st.2.2 st.2.1 hd fit e1 e2 fun h' hr sb=>q _ h' s.toks e ⟨hr,?_,?_⟩ fun b o hb z=>?_
  ·rw [sb.2 a ne]; exact st.2.1
  ·rw [sb.2 p np]; exact st.2.2
  ·rw [sb.2 b (by simpa using hb)]; exact z
 done:=fun s Q E st q=>QU hh st.1 st.2.2 st.2.1 hd fit (by simp [hl]) fun h' eb=>q h' s.toks fun b o hb z=>eb b o (by simpa using hb) z
 self:=fun i s Q E st q=>Kd st.1 q
theorem Jl {α:Type} {xs:List α} {i:Nat} {x:α} (h:xs[i]? = some x):(x :: xs.eraseIdx i).Perm xs:=by
 induction xs generalizing i with
 | nil=>simp at h
 | cons y ys ih=>
  cases i with
  | zero=>simp at h; subst h; exact .refl _
  | succ i=>
   simp only [ba] at h;exact (List.Perm.swap _ _ _).trans ((ih h).cons _)
theorem NG {α:Type} (n:Nat):∀ (xs:List α) (s:Shared) (Q:List α->Shared->Prop),n=xs.length->(∀ ys dr,ys.Perm xs->Q ys { s with drawn:=dr })->wpAny (model prog w) A (drawOrder n xs) Q E s:=by
 induction n with
 | zero=>
  intro xs s Q hn h;cases xs with
  | nil=>exact wpAny_pure (h [] s.drawn (.refl _))
  | cons x xs=>simp at hn
 | succ n ih=>
  intro xs s Q hn h;cases xs with
  | nil=>simp at hn
  | cons x xs=>
   unfold drawOrder;refine wpAny_bind ?_;intro Γ p hΓ;exists by simp
   have lt:w.draws .order (s.drawn.get .order) % (x :: xs).length < (x :: xs).length:=eR _ (by simp);show wpAny (model prog w) A (match (x :: xs)[w.draws .order (s.drawn.get .order) % (x :: xs).length]? with
    | some y=>drawOrder n ((x :: xs).eraseIdx (w.draws .order (s.drawn.get .order) % (x :: xs).length)) >>= fun r=>pure (y :: r)
    | none=>unsupported "internal:drawOrder") Q E { s with drawn:=s.drawn.bump .order }
   generalize w.draws .order (s.drawn.get .order) % (x :: xs).length=i at lt;have e:(x :: xs)[i]? = some (x :: xs)[i]:=by simp
   rw [e];refine wpAny_bind (ih _ _ _ (by rw [bT]; simp only [lt,if_true]; lia) fun ys dr pm=>?_);exact wpAny_pure (h _ dr ((pm.cons _).trans (Jl e)))
theorem Ov {α:Type} (next:Nat->Nat):∀ (fuel k:Nat) (left:List α) (out:Array α),fuel=left.length->(pickOrder.go next fuel k left out).toList.Perm (out.toList ++ left)
 | 0,k,[],out,_=>by unfold pickOrder.go; simp
 | fuel + 1,k,x :: xs,out,h=>by
  unfold pickOrder.go;have lt:next k % (x :: xs).length < (x :: xs).length:=eR _ (by simp);generalize next k % (x :: xs).length=i at lt;have e:(x :: xs)[i]? = some (x :: xs)[i]:=by simp
  rw [e];refine (Ov next fuel (k + 1) _ _ (by rw [bT]; simp only [lt,if_true]; simp at h ⊢; lia)).trans ?_;rw [dB,aM];exact (Jl e).append_left _
theorem Pq {α:Type} (next:Nat->Nat) (xs:Array α):(pickOrder next xs).toList.Perm xs.toList:=by
 unfold pickOrder;simpa using Ov next xs.size 0 xs.toList #[] (by simp)
end
theorem LH:∀ {vs:List Value},(∀ v ∈ vs,∃ x t,v=Value.str x t)->∃ ks,StrsAre vs ks
 | [],_=>⟨[],.nil⟩
 | v :: vs,h=>by
  obtain ⟨x,t,rfl⟩:=h v (by simp);obtain ⟨ks,r⟩:=LH fun u hu=>h u (ZK _ hu)
  exact ⟨x :: ks,.cons x t r⟩
theorem QJ {P:Program} {w:World} {vs:List Value} {ks:List Str} (h:StrsAre vs ks) (k:Str):k ∈ ks ↔ ∃ v ∈ vs,(PySem.strKind P w).is k v=true:=by
 induction h with
 | nil=>simp
 | cons x t r ih=>
  rw [Zz,ih];constructor
  ·rintro (rfl | ⟨v,hv,e⟩)
   ·exact ⟨_,ZP,by simp [PySem.strKind,Value.isStrOf]⟩
   ·exact ⟨v,ZK _ hv,e⟩
  ·rintro ⟨v,hv,e⟩;rcases Zz.mp hv with rfl | hv
   ·refine .inl ?_;have e':Value.isStrOf k (.str x t)=true:=e;first | exact (eq_of_beq e').symm | exact eq_of_beq e' | exact of_decide_eq_true e' | exact (of_decide_eq_true e').symm
   ·exact .inr ⟨v,hv,e⟩
section
variable {prog:Program} {w:World} {A:Around} {E:Value->Shared->Prop} {s:Shared}
theorem Pd {a:Addr} {o:Obj} {es:Array (Int × Value)} {ep:Nat} {t:SetTable} {Q:Bool->Shared->Prop} (ho:s.heap.get? a=some o) (hd:o.data=.set es ep t) (fit:t.fits es.size=true)
  (h:Q (!w.params.followText "set-order" && (!t.plain && decide (es.size > 1))) s):wpAny (model prog w) A (setDrawn a) Q E s:=by
 unfold setDrawn;refine wpAny_bind (wpAny_setState_of ho hd fit ?_);dsimp only;unfold setsByText;exact wpAny_bind (wpAny_bind (wpAny_askSetting (wpAny_pure (wpAny_pure h))))
theorem Pf {a:Addr} {S:Str->Bool} {n:Nat} {Q:Value->Shared->Prop} (hS:DB prog w s.heap a S n)
  (h:∀ (h':Heap) (dr:Drawn) (I:Addr) (fp:List Addr) (vs:List Value) (ks:List Str) (St:Nat->Heap->Prop),(∀ b o,s.heap.get? b=some o->h'.get? b=some o)->s.heap.objs.size<=I->(∀ b ∈ fp,b=a\/s.heap.objs.size<=b) ->
   StrsAre vs ks->(∀ k,S k=true ↔ k ∈ ks)->ks.length=n->(∀ B:Around,B.handled=none->Walks prog w B I fp [I] vs.length (fun i v=>vs[i]? = some v) St)->St 0 h'->Q (.ref I) { s with heap:=h',drawn:=dr }) :
  wpAny (model prog w) A (pyIter (.ref a)) Q E s:=by
 obtain ⟨o,es,ep,t,ho,ex,hd,el,mem,few,fit,hn,tab⟩:=hS;have lt:a < s.heap.objs.size:=Z1 ho;have strE:∀ e ∈ es.toList,∃ x tk,e.2=Value.str x tk:=fun e he=>by
  obtain ⟨⟨k,hk,_⟩,_⟩:=el e he;have Uj:Value.isStrOf k e.2=true:=hk;cases z:e.2 <;> rw [z] at Uj <;> first | exact ⟨_,_,rfl⟩ | (simp [Value.isStrOf] at Uj)
 have tx:∀ vs:List Value,vs.Perm (es.toList.map (·.2))->∃ ks,StrsAre vs ks/\(∀ k,S k=true ↔ k ∈ ks)/\ks.length=n:=fun vs pm=>by
  obtain ⟨ks,r⟩:=LH (vs:=vs) fun v hv=>by
   obtain ⟨e,he,rfl⟩:=Z6.mp (pm.mem_iff.mp hv);exact strE e he
  refine ⟨ks,r,fun k=>?_,by rw [<-r.length,pm.length_eq,Zv,ZO]; exact hn⟩;rw [mem,QJ (P:=prog) (w:=w) r];constructor
  ·rintro ⟨e,he,z⟩;exact ⟨e.2,pm.mem_iff.mpr (Z6.mpr ⟨e,he,rfl⟩),z⟩
  ·rintro ⟨v,hv,z⟩;obtain ⟨e,he,rfl⟩:=Z6.mp (pm.mem_iff.mp hv);exact ⟨e,he,z⟩
 have hT:s.TypeIs (.ref a) "set":=⟨o,ho,ex.1⟩
 refine wpAny_pyIter_slot hT F.slot_set_iter (wpAny_call_entry F.slot_set_iter hT Jm ?_ (F.args_set_iter_1 _));unfold Builtin.«frozenset.__iter__» Builtin.Frozenset.slot0 slotArgs;simp only [List.isEmpty_nil,eF,ab,↓reduceIte,bind_assoc,dY,bne_self_eq_false];unfold Builtin.Frozenset.addrOf Builtin.Frozenset.sizeOf;refine wpAny_bind (wpAny_pure ?_);try dsimp only
 refine wpAny_bind (wpAny_pure ?_);refine wpAny_bind (wpAny_bind (wpAny_setEntries_of ho hd fit (wpAny_pure ?_)));refine wpAny_bind (Pd ho hd fit ?_);by_cases z:(!w.params.followText "set-order" && (!t.plain && decide (es.size > 1)))=true
 ·rw [if_pos z];refine wpAny_bind (NG es.size (ZW es.size) _ _ (by rw [af]) fun is dr pm=>?_);refine wpAny_bind (wpAny_newTuple ?_ (by rw [Zv,pm.length_eq,af]; exact fits_of_scanBound few));refine wpAny_bind (wpAny_setEpoch_of (Zu _ ho) hd fit ?_);refine wpAny_bind (wpAny_newObj_type (wpAny_pure ⟨_,rfl,"set_iterator",_,⟨_,Z5 _ rfl,rfl⟩,AM.lookup,?_⟩));have rng:∀ j ∈ is,j < es.size:=fun j hj=>aH.mp (pm.mem_iff.mp hj)
  have pv:(is.map fun j=>((es[j]?).map (·.2)).getD Value.none).Perm (es.toList.map (·.2)):=by
   refine (pm.map _).trans ?_;refine List.Perm.of_eq (cD (by simp) fun i h1 h2=>?_);have:i < es.size:=by simpa using h2
   simp [this]
  obtain ⟨ks,r1,r2,r3⟩:=tx _ pv;refine h _ dr _ [(s.heap.push (Px is 0)).objs.size,a,s.heap.objs.size] _ ks _ (fun b o e=>Zu _ (Zu _ e)) (by rw [size_push']; exact ZX _) (fun b hb=>?_) r1 r2 r3
   (fun B hB=>MS hB _ a s.heap.objs.size (by rw [size_push']; exact Z8 (ZY lt)) (by rw [size_push']; exact Z8 (ai _)) hd fit is _ (by simp) fun i v e=>?_)
   ⟨Z5 _ rfl,Zu _ (Zu _ ho),Zu _ (Z5 _ rfl)⟩
  ·simp only [Zz,Z3,or_false] at hb;rcases hb with rfl | rfl | rfl
   ·exact .inr (by rw [size_push']; exact ZX _)
   ·exact .inl rfl
   ·exact .inr (Z4 _)
  ·rw [Z0] at e;cases ej:is[i]? with
   | none=>rw [ej] at e; cases e
   | some j=>
    rw [ej] at e;have hj:=rng j (Zx ej);have e5:es[j]? = some es[j]:=by simp [hj]
    simp only [aW,e5,Option.getD_some,ZJ.injEq] at e;exact ⟨j,es[j].1,rfl,by rw [e5,<-e]⟩
 ·rw [if_neg z];refine wpAny_bind (wpAny_pure ?_);refine wpAny_bind (wpAny_setEpoch_of ho hd fit ?_);refine wpAny_bind (wpAny_newObj_type (wpAny_pure ⟨_,rfl,"set_iterator",_,⟨_,Z5 _ rfl,rfl⟩,AM.lookup,?_⟩));have V7:w.params.followText "set-order"=false->es.size<=1:=fun q=>by
   rcases eL 1 es.size with y | y
   ·rw [q,tab.2 (by lia)] at z;simp [y] at z
   ·exact y
  have go:∀ (vs:List Value) (sl:Nat->Nat),sl 0=0->vs.Perm (es.toList.map (·.2))->(∀ (i:Nat) (v:Value),vs[i]? = some v->CI w a es ep t (sl i) i=some (v,sl (i + 1)))->CI w a es ep t (sl vs.length) vs.length=none ->
    Q (.ref s.heap.objs.size) { s with heap:=s.heap.push (DC (rawInt 0) 0 a es.size ep) }:=fun vs sl s0 pm h1 h2=>by
   obtain ⟨ks,r1,r2,r3⟩:=tx _ pm;refine h _ s.drawn _ [s.heap.objs.size,a] vs ks _ (fun b o e=>Zu _ e) (Z4 _) (fun b hb=>?_) r1 r2 r3 (fun B hB=>MR hB _ a (Z8 lt) hd fit tab V7 vs sl h1 h2) ⟨?_,Zu _ ho⟩
   ·simp only [Zz,Z3,or_false] at hb;rcases hb with rfl | rfl
    ·exact .inr (Z4 _)
    ·exact .inl rfl
   ·rw [s0]; exact Z5 _ rfl
  by_cases ft:w.params.followText "set-order"=true
  ·refine go ((pickOrder (w.params.setOrder a ep) es).toList.map (·.2)) (fun _=>0) rfl ((Pq _ es).map _) (fun i v e=>?_) ?_
   ·unfold CI;rw [if_pos ft];rw [Z0,bo] at e;cases y:(pickOrder (w.params.setOrder a ep) es)[i]? with
    | none=>rw [y] at e; cases e
    | some x=>rw [y] at e; cases e; rfl
   ·unfold CI;rw [if_pos ft];simp
  ·have sm:=V7 (by simpa using ft);refine go (es.toList.map (·.2)) (fun i=>if i=0 then 0 else t.place.getD 0 0 + 1) rfl (.refl _) (fun i v e=>?_) ?_
   ·unfold CI;rw [if_neg ft];have i0:i < es.size:=by
     have:=(Z2.mp e).1;simpa using this
    have z1:es.size=1:=by lia
    have i1:i=0:=by lia
    subst i1;obtain ⟨x,rfl⟩:∃ x,es=#[x]:=⟨es[0],cN (by simpa using z1) fun j a1 a2=>by
     have:j=0:=by lia
     subst this; rfl⟩
    have pz:t.place.size=1:=by
     simp only [SetTable.fits,aj,beq_iff_eq] at fit;exact fit.1
    obtain ⟨y,ey⟩:∃ y,t.place=#[y]:=⟨t.place[0],cN (by simpa using pz) fun j a1 a2=>by
     have:j=0:=by lia
     subst this; rfl⟩
    rw [ey];simp at e;subst e;rfl
   ·unfold CI;rw [if_neg ft];rcases Nat.eq_zero_or_pos es.size with z0 | z0
    ·have:es=#[]:=Array.eq_empty_of_size_eq_zero z0;subst this;rfl
    ·have z1:es.size=1:=by lia
     obtain ⟨x,rfl⟩:∃ x,es=#[x]:=⟨es[0],cN (by simpa using z1) fun j a1 a2=>by
      have:j=0:=by lia
      subst this; rfl⟩
     have pz:t.place.size=1:=by
      simp only [SetTable.fits,aj,beq_iff_eq] at fit;exact fit.1
     obtain ⟨y,ey⟩:∃ y,t.place=#[y]:=⟨t.place[0],cN (by simpa using pz) fun j a1 a2=>by
      have:j=0:=by lia
      subst this; rfl⟩
     rw [ey];simp [SetTable.below,SetTable.below.go]
end
section
variable {prog:Program} {w:World} {A:Around} {E:Value->Shared->Prop} {s:Shared}
theorem QV {r:Addr} {Q:Bool->Shared->Prop} (hT:s.TypeIs (.ref r) "set") (h:∀ b,Q b s):wpAny (model prog w) A (Builtin.List.listLengthHint (.ref r)) Q E s:=by
 unfold Builtin.List.listLengthHint;refine wpAny_bind (wpAny_specialOf hT PySem.F.slot_set_len.lookup ?_);generalize hid:("set.__len__":String)=id0;wp_delta;rw [show splitId id0=some ("set","__len__") from by subst hid; decide +kernel];subst hid;refine wpAny_bind (wpAny_isInstance (T:="set") (b:=true) hT (by rw [isSubtype_type]; kernel_rfl) ?_);refine wpAny_ite_split (fun z=>absurd z (by decide)) (fun _=>?_);refine wpAny_ite_split (fun _=>?_) (fun z=>absurd (by decide +kernel) z);refine wpAny_bind (wpAny_typeOf hT ?_);exact wpAny_pure (h _)
theorem K9 {a:Addr} {S:Str->Bool} {n:Nat} {R:List Value->Shared->Prop} (hh:A.handled=none) (hS:DB prog w s.heap a S n)
  (h:∀ (h':Heap) (tk:Nat) (dr:Drawn) (vs:List Value) (ks:List Str),(∀ b o,s.heap.get? b=some o->h'.get? b=some o)->StrsAre vs ks->(∀ k,S k=true ↔ k ∈ ks)->ks.length=n->R vs { s with heap:=h',toks:=tk,drawn:=dr }) :
  wpAny (model prog w) A (collect (.ref a)) R E s:=by
 have hn:n < scanBound:=by obtain ⟨o,es,ep,t,ho,ex,hd,el,mem,few,fit,hn,tab⟩:=hS; lia
 have YY:n<=sizeLine:=fits_of_scanBound hn;have lt:a < s.heap.objs.size:=by obtain ⟨o,es,ep,t,ho,r⟩:=hS; exact Z1 ho
 unfold collect;refine wpAny_bind (wpAny_runValue (codeAny_builtin entry_proto_collect' ?_));rw [Around.under_plainId PySem.F.plain_proto_collect _];show wpAny _ A.in1 (newList [] >>= fun l=>again (.builtin "list.__iadd__" ⟨[l,.ref a],[]⟩)) _ _ s
 refine wpAny_bind (wpAny_newObj_type ?_);refine wpAny_pure ⟨plainId_quiet PySem.F.plain_list_iadd _,codeAny_builtin entry_list_iadd' ?_⟩;rw [Around.under_plainId PySem.F.plain_list_iadd _];have e1:(s.heap.push { cls:=.type "list",data:=.seq ([]:List Value).toArray }).get? s.heap.objs.size=some { cls:=.type "list",data:=.seq #[] }:=Z5 _ rfl;show wpAny _ A.in1 (Builtin.List.listExtendWith (.ref s.heap.objs.size) (.ref a) (.ref s.heap.objs.size)) _ _ _
 have WX:DB prog w (s.heap.push { cls:=.type "list",data:=.seq ([]:List Value).toArray }) a S n:=hS.kept fun o e=>Zu _ e
 unfold Builtin.List.listExtendWith;have hT:Shared.TypeIs { s with heap:=s.heap.push { cls:=.type "list",data:=.seq ([]:List Value).toArray } } (.ref a) "set":=by
  obtain ⟨o,es,ep,t,ho,ex,r⟩:=WX;exact ⟨o,ho,ex.1⟩
 refine wpAny_bind (wpAny_typeOf hT ?_);have e2:Builtin.List.listSameRef (.ref s.heap.objs.size) (.ref a)=false:=by simp [Builtin.List.listSameRef,aA lt]
 have e3:(Value.type "set" == Value.type "list")=false:=by decide
 have e4:(Value.type "set" == Value.type "tuple")=false:=by decide
 simp only [e2,e3,e4,eC,ab,if_false];refine wpAny_bind (Pf WX fun h1 dr I fp vs ks St kk hI hfp sv mem len hW st=>?_);have k1:∀ b o,s.heap.get? b=some o->h1.get? b=some o:=fun b o e=>kk b o (Zu _ e)
 have eS:=kk _ _ e1;have Vz:Shared.TypeIs { s with heap:=h1,drawn:=dr } (.ref a) "set":=by
  obtain ⟨o,es,ep,t,ho,ex,r⟩:=hS;exact ⟨o,k1 _ _ ho,ex.1⟩
 have szI:(s.heap.push { cls:=.type "list",data:=.seq ([]:List Value).toArray }).objs.size=s.heap.objs.size + 1:=size_push' ..;have nf:s.heap.objs.size ∉ fp:=fun z=>by
  rcases hfp _ z with e | e
  ·exact absurd e (aA lt)
  ·rw [szI] at e; exact absurd e (Nat.not_le_of_lt (ai _))
 have vl:vs.length=n:=by rw [sv.length]; exact len
 have key:∀ (h2:Heap) (c tk:Nat),St 0 h2->(∀ b o,b ≠ s.heap.objs.size->h1.get? b=some o->h2.get? b=some o)->h2.get? s.heap.objs.size=some { cls:=.type "list",data:=.seq #[] c } ->
   codeAny (model prog w) A (.builtin "list.extend.loop" ⟨[.ref s.heap.objs.size,.ref I,.ref s.heap.objs.size],[]⟩) (fun (q:Result) (s':Shared)=>∃ (h':Heap) (tk:Nat) (acc:Array Value) (c':Nat),q=.ok (.ret (.ref s.heap.objs.size))/\s' = { s with heap:=h',toks:=tk,drawn:=dr } /\
    (∀ b o,s.heap.get? b=some o->h'.get? b=some o)/\h'.get? s.heap.objs.size=some { cls:=.type "list",dict:=none,data:=.seq acc c',slots:=#[] }/\ItemsOf (fun i v=>vs[i]? = some v) acc vs.length) { s with heap:=h2,toks:=tk,drawn:=dr }:=by
  intro h2 c tk HK k2 g2;refine codeAny_extend_loopS (hW _ (by simp [hh])).toS (by rw [vl]; exact YY) s.heap.objs.size nf (.ref s.heap.objs.size) vs.length 0 _ #[] c rfl (ZQ _) HK g2 (ItemsOf.nil _) fun s' acc c' m g' ia=>?_
  refine ⟨s'.heap,s'.toks,acc,c',rfl,?_,fun b o e=>?_,g',ia⟩
  ·rw [Moved.eq_with m]
  ·have lb:=Z1 e;refine m.heap b o (fun z=>?_) (k2 b o (Z8 lb) (k1 b o e));rcases Zz.mp z with y | y
   ·exact Z8 lb y
   ·rw [ZH.mp y] at lb;rw [szI] at hI;exact absurd lb (Nat.not_lt_of_le (Nat.le_of_succ_le hI))
 refine wpAny_mono (Q:=fun fin s'=>match fin with | .done f=>False | .again c'=>c'.quiet=true/\codeAny (model prog w) A c' (fun (q:Result) (s':Shared)=>∃ (h':Heap) (tk:Nat) (acc:Array Value) (c':Nat),q=.ok (.ret (.ref s.heap.objs.size))/\s' = { s with heap:=h',toks:=tk,drawn:=dr } /\
    (∀ b o,s.heap.get? b=some o->h'.get? b=some o)/\h'.get? s.heap.objs.size=some { cls:=.type "list",dict:=none,data:=.seq acc c',slots:=#[] }/\ItemsOf (fun i v=>vs[i]? = some v) acc vs.length) s') (E:=fun _ _=>False) ?_ (fun fin s' x=>?_) fun e s' x=>x.elim
 ·refine wpAny_bind (wpAny_holding (QV Vz fun b=>?_));refine wpAny_ite_split (fun _=>?_) (fun _=>wpAny_pure ⟨plainId_quiet PySem.F.plain_extend_loop _,key _ _ _ st (fun b o _ e=>e) eS⟩);refine wpAny_bind (wpAny_rule ?_);refine wpAny_bind ?_;show wpAny _ _ (updateSeq s.heap.objs.size (·.push .none) >>= fun _=>updateSeq s.heap.objs.size (·.pop)) _ _ _
  refine wpAny_bind (wpAny_updateSeq eS rfl ?_);have eS2:=ah (Obj.mapSeq (·.push Value.none)) eS rfl;refine wpAny_updateSeq (hz:=by seq_fits) eS2 rfl ?_;have eS3:=ah (Obj.mapSeq (·.pop)) eS2 rfl;have oth:∀ b o,b ≠ s.heap.objs.size->h1.get? b=some o->((h1.update s.heap.objs.size (Obj.mapSeq (·.push Value.none))).update s.heap.objs.size (Obj.mapSeq (·.pop))).get? b=some o:=fun b o hb e=>
   (aa _ _ (Ne.symm hb)).trans ((aa _ _ (Ne.symm hb)).trans e)
  refine wpAny_pure ⟨plainId_quiet PySem.F.plain_extend_loop _,key _ _ _ ?_ oth eS3⟩;exact (hW A (by simp [hh])).frame 0 _ _ st fun b hb o e=>oth b o (fun z=>nf (z ▸ hb)) e
 ·cases fin with
  | done f=>exact x.elim
  | again c₁=>
   refine ⟨x.1,codeAny_mono x.2 fun q EI y=>?_⟩;obtain ⟨h',tk,acc,c',rfl,rfl,hk,O7,ia⟩:=y;show wpAny _ A (load s.heap.objs.size >>= _) _ _ _
   refine wpAny_bind (wpAny_load O7 ?_);have:acc.toList=vs:=cD (by rw [ZO]; exact ia.1) fun i h1 h2=>by
    have h3:i < acc.size:=by simpa using h1
    have this:vs[i]? = some acc[i]:=ia.2 i acc[i] (by simp [h3]);rw [Zt h2] at this;simpa using (ZJ.inj this).symm
   refine wpAny_pure ?_;have q:=h h' tk dr vs ks hk sv mem len;rw [<-this] at q;exact q
theorem LR {a:Addr} {S:Str->Bool} {n:Nat} {Q:Value->Shared->Prop} (hh:A.handled=none) (hS:DB prog w s.heap a S n) (Lm:n < 64)
  (h:∀ (h':Heap) (tk:Nat) (dr:Drawn) (l:Addr) (us:List Value) (e:Nat) (ss ks:List Str),(∀ b o,s.heap.get? b=some o->h'.get? b=some o)->s.heap.get? l=none->h'.get? l=some (seqObj "list" us.toArray e)->StrsAre us ss->ss.Perm ks->sortedS ss=true ->
   (∀ k,S k=true ↔ k ∈ ks)->ks.length=n->Q (.ref l) { s with heap:=h',toks:=tk,drawn:=dr }) :
  wpAny (model prog w) A (call (.builtin "sorted") [.ref a]) Q E s:=by
 refine Calls.call_function_entry kind_sorted plain_sorted entry_sorted (args_sorted1 _) ?_;unfold Builtin.«sorted»;refine wpAny_bind (m:=checkCount "sorted" 1 1 _) (wpAny_pure ?_);refine wpAny_bind (K9 (A:=A.in1) hh hS fun h' tk dr vs ks hk sv mem len=>?_);have hl:vs.length=n:=by rw [sv.length]; exact len
 refine wpAny_bind (wpAny_newList ?_ (ZS (show vs.length<=64 by lia) (by decide)));have g:(h'.push (seqObj "list" vs.toArray 0)).get? h'.objs.size=some (seqObj "list" vs.toArray 0):=Z5 _ rfl;show wpAny _ _ _ _ _ { s with heap:=h'.push (seqObj "list" vs.toArray 0),toks:=tk,drawn:=dr }
 refine wpAny_bind (wpAny_holding (wpAny_call_entry slot_list_sort ⟨_,g,rfl⟩ entry_list_sort (list_sort_treeK strKind_oneLt (s:={ s with heap:=h'.push (seqObj "list" vs.toArray 0),toks:=tk,drawn:=dr }) g sv.keysOf (fun Yl Yk rest e=>keyKind_strs (by rw [<-e]; exact sv)) (by rw [hl]; exact Lm) fun Bh a1 a2=>⟨_,rfl,?_⟩) (args_list_sort _)));refine wpAny_pure ⟨_,rfl,?_⟩;obtain ⟨ss,b1,b2,b3⟩:=sorted_out_str sv a1 a2;obtain ⟨e,he⟩:=sortedHeap_at (out:=(arrOf Bh).map (·.2)) g;refine h _ tk dr h'.objs.size ((arrOf Bh).map (·.2)).toList e ss ks (fun b o q=>?_) ?_ (by rw [Array.toArray_toList]; exact he) b1 b2 b3 mem len
 ·have q':=hk b o q;have lt:=Z1 q';rw [sortedHeap_old (Z8 lt) (by rw [size_push']; exact ZY lt)];exact Zu _ q'
 ·cases z:s.heap.get? h'.objs.size with
  | none=>rfl
  | some o=>exact absurd (Z1 (hk _ _ z)) (au _)
end
def SetW (P:Program) (w:World) (a:Addr) (S:Str->Bool) (n:Nat):HO:=.ext fun h=>DB P w h a S n
theorem JD:isSubtype (.type "tuple") (.type "set")=pure false:=by rw [isSubtype_type]; kernel_rfl
theorem Fv:isSubtype (.type "tuple") (.type "frozenset")=pure false:=by rw [isSubtype_type]; kernel_rfl
def setS (P:Program) (w:World) (a:Addr) (ss:List Str):HO:=SetW P w a (fun k=>(ss.foldl step_dedup []).any (· == k)) (ss.foldl step_dedup []).length
theorem S6 {X:Cx} {pins:List (Addr × Obj)} {σ:St} {H:Hp} {s:Shared} (I:Av X pins σ H s) {h':Heap} {tk:Nat} {ss:List Str} (hS:DB X.prog X.w h' s.heap.objs.size (fun k=>(ss.foldl step_dedup []).any (· == k)) (ss.foldl step_dedup []).length)
  (kk:∀ b o,s.heap.get? b=some o->h'.get? b=some o):Av X pins σ (upd H s.heap.objs.size (setS X.prog X.w s.heap.objs.size ss)) { s with heap:=h',toks:=tk }:=by
 obtain ⟨oS,e1,e2,e3,hoS,rest⟩:=id hS;refine I.laid (a:=s.heap.objs.size) (o:=setS X.prog X.w s.heap.objs.size ss) (t':=tk) kk (Z4 _) ⟨hS,⟨_,hoS⟩,fun h1 h2 z st=>?_⟩;exact z.kept fun o e=>st _ e
theorem ME (K:Zw) {X:Cx} (hK:X.K=K) (hc:X.calm=true):Bz X (.type "set") (fun xs H Q=>∃ (a:Addr) (ss:List Str),xs=[.ref a]/\(AX K H a (ss.map V.str)\/A4 K H a (ss.map V.str))/\ss.length<=1000 /\
  ∀ D,H D=none->Q (.ref D) (upd H D (setS X.prog X.w D ss))):=by
 subst hK;intro pins s σ H xs us Q I r h;obtain ⟨a,ss,rfl,ha,hl,q⟩:=h;obtain ⟨u,rfl,ru⟩:=Ce r;cases ru
 have txt:∀ Ax:List Value,A9 (ss.map V.str) Ax->∀ (i:Nat) v,Ax.toArray[i]? = some v->∃ tk,v=.str (ss.getD i (Str.ofString "")) tk:=fun Ax rv i v e=>by
  have il:Ax.length=ss.length:=by rw [<-rv.length,Zv]
  have e':Ax[i]? = some v:=by simpa using e
  have hi:i < Ax.length:=(Z2.mp e').1;have e3:(ss.map V.str)[i]? = some (.str ss[i]):=by rw [Z0,Zt (by lia)]; rfl
  obtain ⟨v',e4,r4⟩:=rv.get e3;rw [e'] at e4;cases e4
  obtain ⟨t,rfl⟩:=r4;exact ⟨t,by simp [ZG,Zt (show i < ss.length by lia)]⟩
 have fin:∀ Ax:List Value,A9 (ss.map V.str) Ax->∀ (h':Heap) (tk:Nat),DB X.prog X.w h' s.heap.objs.size (fun k'=>(met (fun i=>ss.getD i (Str.ofString "")) Ax.toArray.size).any (· == k')) (met (fun i=>ss.getD i (Str.ofString "")) Ax.toArray.size).length ->
   (∀ b o,s.heap.get? b=some o->h'.get? b=some o)->∃ v H',Av X pins σ H' { s with heap:=h',toks:=tk }/\AF v (.ref s.heap.objs.size)/\Q v H':=fun Ax rv h' tk hS kk=>by
  have es:Ax.toArray.size=ss.length:=by rw [ZA,<-rv.length,Zv]
  rw [es,Mw] at hS;exact ⟨.ref s.heap.objs.size,_,S6 I hS kk,rfl,q _ (I.hok.fresh (Z4 _))⟩
 have bnd:∀ Ax:List Value,A9 (ss.map V.str) Ax->Ax.toArray.size + 1 < scanBound:=fun Ax rv=>by
  rw [ZA,<-rv.length,Zv];unfold scanBound;lia
 rcases ha with ha | ha
 ·obtain ⟨Ax,rv,pl,hz⟩:=I.list ha;have il:=pl.isList;obtain ⟨o,ho,hcl,n,hdat⟩:=id il;refine Om (items:=Ax.toArray) (val:=fun i=>ss.getD i (Str.ofString "")) (St:=fun I' i h=>h.IsListIter I' a i/\h.IsList a Ax.toArray) (I.ok.hd hc) ho hcl (by decide) F.sub_list_set F.sub_list_frozenset
   (fun B E' s1 Q' k q'=>wpAny_pyIter_list ⟨o,k _ _ ho,hcl,n,hdat⟩ q') (fun B I' hB ne=>Walks.list hB I' a ne Ax.toArray) (fun h k=>⟨⟨_,Z5 _ rfl,rfl,rfl⟩,⟨o,Zu _ (k _ _ ho),hcl,n,hdat⟩⟩) (txt Ax rv) (bnd Ax rv) fun h' tk hS kk=>?_
  exact fin Ax rv h' tk hS kk
 ·obtain ⟨Ax,rv,pl,hz⟩:=I.tuple ha;obtain ⟨o,ho,hcl,n,hdat⟩:=id pl;refine Om (items:=Ax.toArray) (val:=fun i=>ss.getD i (Str.ofString "")) (St:=fun I' i h=>h.IsTupleIter I' a i/\h.IsTuple a Ax.toArray) (I.ok.hd hc) ho hcl (by decide) JD Fv
   (fun B E' s1 Q' k q'=>wpAny_pyIter_tuple ⟨o,k _ _ ho,hcl,n,hdat⟩ q') (fun B I' hB ne=>Walks.tuple hB I' a ne Ax.toArray) (fun h k=>⟨⟨_,Z5 _ rfl,rfl,rfl⟩,⟨o,Zu _ (k _ _ ho),hcl,n,hdat⟩⟩) (txt Ax rv) (bnd Ax rv) fun h' tk hS kk=>?_
  exact fin Ax rv h' tk hS kk
theorem FE (k:Str):∀ (ss σ:List Str),k ∈ ss.foldl step_dedup σ ↔ k ∈ σ\/k ∈ ss
 | [],σ=>by simp
 | x :: xs,σ=>by
  rw [ef,FE k xs];have:k ∈ step_dedup σ x ↔ k ∈ σ\/k=x:=by
   unfold step_dedup;split
   ·rename_i h
    rw [bp] at h;obtain ⟨y,hy,e⟩:=h;have e:=eq_of_beq e;subst e;exact ⟨.inl,fun z=>z.elim id fun e=>e ▸ hy⟩
   ·simp
  rw [this,Zz];exact or_assoc
theorem EA:∀ (ss σ:List Str),σ.Nodup->(ss.foldl step_dedup σ).Nodup
 | [],σ,h=>h
 | x :: xs,σ,h=>by
  rw [ef];refine EA xs _ ?_;unfold step_dedup;split
  ·exact h
  ·rename_i hn
   refine aI.mpr ⟨h,by simp,fun a ha b hb e=>hn ?_⟩;rw [ZH] at hb;subst hb e;exact bp.mpr ⟨_,ha,by simp⟩
theorem Mc:∀ {l m:List Str},l.Nodup->(∀ x ∈ l,x ∈ m)->∃ r,m.Perm (l ++ r)
 | [],m,_,_=>⟨m,.refl _⟩
 | x :: l,m,nd,h=>by
  rw [aq] at nd;have p:=List.perm_cons_erase (h x (by simp));obtain ⟨r,pr⟩:=Mc (m:=m.erase x) nd.2 fun y hy=>(dc (fun e:y=x=>nd.1 (e ▸ hy))).mpr (h y (ZK _ hy))
  exact ⟨r,p.trans (pr.cons _)⟩
theorem Rl {l m:List Str} (nd:l.Nodup) (h:∀ x ∈ l,x ∈ m) (e:m.length=l.length):m.Perm l:=by
 obtain ⟨r,p⟩:=Mc nd h;have:=p.length_eq;rw [Zy] at this;have:r=[]:=aJ.mp (by lia);subst this;simpa using p
theorem Av.drew {X:Cx} {pins:List (Addr × Obj)} {σ:St} {H:Hp} {s:Shared} (I:Av X pins σ H s) (dr:Drawn):Av X pins σ H { s with drawn:=dr }:=
 ⟨I.ok,I.os,I.bare,I.base,I.loc,I.cell,I.free,I.freeC,I.pin,I.hok,I.len⟩
theorem HW {X:Cx} (hc:X.calm=true):Bz X (.builtin "sorted") (fun xs H Q=>∃ (a:Addr) (ss:List Str),xs=[.ref a]/\H a=some (setS X.prog X.w a ss)/\ss.length < 64 /\
  ∀ (l:Addr) (Ea:List Str),H l=none->Ea.Nodup->(∀ k,k ∈ Ea ↔ k ∈ ss)->sortedS Ea=true->Q (.ref l) (upd H l (.lst (Ea.map V.str)))):=by
 intro pins s σ H xs us Q I r h;obtain ⟨a,ss,rfl,ha,Lm,q⟩:=h;obtain ⟨u,rfl,ru⟩:=Ce r;cases ru
 have hS:DB X.prog X.w s.heap a (fun k=>(ss.foldl step_dedup []).any (· == k)) (ss.foldl step_dedup []).length:=(I.hok a _ ha).1;have few:(ss.foldl step_dedup []).length<=ss.length:=by rw [<-Mw]; exact DS _ _
 refine LR (I.ok.hd hc) hS (by lia) fun h' tk dr l us e Ea ks k1 k2 k3 k4 k5 k6 k7 k8=>?_
 obtain ⟨m,hlm⟩:=id I.loc;obtain ⟨oL,esL,epL,hoL,rL⟩:=id hlm.1;have fl:H l=none:=by
  cases z:H l with
  | none=>rfl
  | some u=>
   obtain ⟨ob,e⟩:=AO.there (I.hok l u z);rw [k2] at e;cases e
 have mk:∀ k,k ∈ ks ↔ k ∈ ss:=fun k=>by
  rw [<-k7,bp];have:=FE k ss [];constructor
  ·rintro ⟨x,hx,e⟩;have e:=eq_of_beq e;subst e;exact (this.mp hx).resolve_left (by simp)
  ·intro z;exact ⟨k,this.mpr (.inr z),by simp⟩
 have pm:ks.Perm (ss.foldl step_dedup []):=Rl (EA ss [] cH) (fun x hx=>(mk x).mpr (((FE x ss []).mp hx).resolve_left (by simp))) k8;have I2:=I.laidF (h2:=h') (D:=l) (o:=.lst (Ea.map V.str)) hlm ⟨oL,esL,epL,k1 _ _ hoL,rL⟩ (fun b ob _ q=>k1 b ob q) k2 (fun z=>by rw [z,hoL] at k2; cases k2)
  ⟨by rw [Zv,k5.length_eq,k8,sizeLine_eq]; lia,us,e,Ij k4,k3⟩
 exact ⟨.ref l,_,(I2.kept (t':=tk) fun b u q=>q).drew dr,rfl,q l Ea fl (k5.nodup_iff.mpr (pm.nodup_iff.mpr (EA ss [] cH))) (fun k=>k5.mem_iff.trans (mk k)) k6⟩
end L2
namespace L2
open PySem PySem.W PyProof.Rows
section
variable {prog:Program} {w:World} {A:Around} {E:Value->Shared->Prop} {s:Shared} {κ:SortKind} {lt:Keyed->Keyed->Bool} {a0:Array Keyed}
theorem L8 {ρ:Type} {body:Nat->Option ρ × Nat × Nat->StateT SortSt Sem (ForInStep (Option ρ × Nat × Nat))} {n lo hi:Nat} {st:SortSt}
  (hs:∀ x l (R:ForInStep (Option ρ × Nat × Nat)->SortSt->Prop),R (.done (none,l,l)) st->wpS (model prog w) A E s (body x (none,l,l)) R st)
  (hg:∀ x l r (R:ForInStep (Option ρ × Nat × Nat)->SortSt->Prop),l < r->r<=n ->
   (R (.yield (none,l + (r - l) / 2 + 1,r)) st)->(R (.yield (none,l,l + (r - l) / 2)) st)->wpS (model prog w) A E s (body x (none,l,r)) R st)
  (hl:lo<=hi) (hn:hi<=n) :
  wpS (model prog w) A E s (forIn [0:n] (none,lo,hi) body) (fun c Bh=>Bh=st/\∃ r,c=(none,r,r)/\r<=n) st:=by
 refine wpS_forRange (I:=fun x c Bh=>Bh=st/\∃ l r,c=(none,l,r)/\l<=r/\r<=n/\r - l<=n - x) ?_ ?_ ⟨rfl,lo,hi,rfl,hl,hn,by lia⟩
 ·rintro x c Bh _ hx ⟨rfl,l,r,rfl,q1,q2,q3⟩;by_cases hlr:l < r
  ·exact hg _ _ _ _ hlr q2 ⟨rfl,_,r,rfl,by lia,by lia,by lia⟩ ⟨rfl,l,_,rfl,by lia,by lia,by lia⟩
  ·have:l=r:=by lia
   subst this;exact hs _ _ _ ⟨rfl,l,rfl,q2⟩
 ·rintro c Bh ⟨rfl,l,r,rfl,q1,q2,q3⟩;have:l=r:=by lia
  subst this;exact ⟨rfl,l,rfl,q2⟩
theorem J9 {lo nrem:Nat} {Q:Option Nat->SortSt->Prop} {st:SortSt} (an:VQ prog w A s κ lt a0) (hk:kindOf st=κ) (hp:(arrOf st).Perm a0) (hn:lo + nrem<=a0.size) (h1:1<=nrem)
  (h:∀ m ys,Kp (arrOf st) ys lo->1<=m->m<=nrem->Q (some m) (setArr st ys)):wpS (model prog w) A E s (countRun' lo nrem) Q st:=by
 have hz:=hp.size_eq;refine wpS_bind (wpS_mono (NW (f:=fun n=>lt (Fs (arrOf st) (lo + n)) (Fs (arrOf st) (lo + n - 1))) h1 ?_) ?_)
 ·intro x n R n1 n2 y1 y2;dsimp only;refine wpS_bind (De an hk hp (by lia) (by lia) ?_);dsimp only;cases e:lt (Fs (arrOf st) (lo + n)) (Fs (arrOf st) (lo + n - 1))
  ·exact wpS_pure (y2 e)
  ·exact wpS_pure (y1 e)
 rintro c Bh ⟨rfl,n,rfl,n1,n2,q,hor⟩;dsimp only;by_cases hnn:n=nrem
 ·rw [if_pos (by simpa using hnn)];exact wpS_pure (h n _ (Kp.refl _ _) n1 n2)
 rw [if_neg (by simpa using hnn)];by_cases hgt:n > 1
 case' pos=>
  rw [if_pos hgt];refine wpS_bind (De an hk hp (by lia) (by lia) ?_);dsimp only;cases hrose:lt (Fs (arrOf Bh) lo) (Fs (arrOf Bh) (lo + n - 1))
  case' true=>
   simp only [if_true];exact wpS_pure (h n _ (Kp.refl _ _) n1 n2)
  case' false=>
   simp only [ab,if_false];refine wpS_bind (FL ?_);have kp:Kp (arrOf Bh) (mirror (arrOf Bh) lo (lo + n) ((lo + n - lo) / 2)) lo:=(Kp.refl _ _).mirror (by lia) (Z4 _);obtain ⟨ys,ey⟩:∃ ys,ys=mirror (arrOf Bh) lo (lo + n) ((lo + n - lo) / 2):=⟨_,rfl⟩
   rw [<-ey] at kp;show wpS (model prog w) A E s _ Q (setArr Bh (mirror (arrOf Bh) lo (lo + n) ((lo + n - lo) / 2)))
   rw [<-ey]
 case' neg=>
  rw [if_neg hgt];obtain ⟨ys,ey⟩:∃ ys,ys=arrOf Bh:=⟨_,rfl⟩
  have kp:Kp (arrOf Bh) ys lo:=by rw [ey]; exact Kp.refl _ _
  show wpS (model prog w) A E s _ Q (setArr Bh (arrOf Bh))
  rw [<-ey]
 all_goals
  refine wpS_bind (wpS_lift (wpAny_rule ⟨rfl,?_⟩));refine wpS_bind (wpS_mono (wpS_forRange (I:=fun x c HL=>∃ neq ys,c=(none,x,neq)/\HL=setArr Bh ys/\Kp (arrOf Bh) ys lo/\neq + 1<=x)
   (Q:=fun c HL=>∃ m neq ys,c=(none,m,neq)/\HL=setArr Bh ys/\Kp (arrOf Bh) ys lo/\n + 1<=m/\m<=nrem/\neq + 1<=m) ?dstep ?dfin ?dinit) ?dpost)
  case dinit=>exact ⟨0,ys,rfl,rfl,kp,by lia⟩
  case dfin=>
   rintro c HL ⟨neq,ys,rfl,rfl,kp,a1⟩;have e:max (n + 1) nrem=nrem:=by lia
   rw [e] at a1 ⊢;exact ⟨nrem,neq,ys,rfl,rfl,kp,by lia,Z4 _,a1⟩
  case dstep=>
   rintro x c HL x1 x2 ⟨neq,ys,rfl,rfl,kp,a1⟩;dsimp only;have hzy:=kp.size;have hpy:(arrOf (setArr Bh ys)).Perm a0:=kp.1.trans hp;refine wpS_bind (De (st:=setArr Bh ys) an hk hpy (by lia) (by lia) ?_);dsimp only;cases hless:lt (Fs ys (lo + x)) (Fs ys (lo + x - 1))
   ·simp only [ab,if_false];refine wpS_bind (De (st:=setArr Bh ys) an hk hpy (by lia) (by lia) ?_);dsimp only;cases hlarger:lt (Fs ys (lo + x - 1)) (Fs ys (lo + x))
    ·simp only [ab,if_false];exact wpS_pure ⟨neq + 1,ys,rfl,rfl,kp,by lia⟩
    ·simp only [if_true];exact wpS_pure ⟨x,neq,ys,rfl,rfl,kp,x1,by lia,a1⟩
   ·simp only [if_true];by_cases hq:neq > 0
    ·rw [if_pos hq];exact wpS_bind (FL (wpS_pure ⟨0,_,rfl,rfl,kp.mirror (by lia) (by lia),by lia⟩))
    ·rw [if_neg hq];exact wpS_pure ⟨0,ys,rfl,rfl,kp,by lia⟩
  case dpost=>
   rintro c HL ⟨m,neq,zs,rfl,rfl,kz,m1,m2,a1⟩;dsimp only;have hzz:=kz.size;have last:∀ us,Kp (arrOf Bh) us lo->∀ (vs:Array Keyed),Kp (arrOf Bh) vs lo->∀ n',m<=n'->n'<=nrem->Q (some n') (setArr Bh vs):=fun us ku vs kv n' b1 b2=>h n' vs kv (by lia) b2
   by_cases hq:neq > 0
   case' pos=>
    rw [if_pos hq];refine wpS_bind (FL ?_);have W4:Kp (arrOf Bh) (mirror zs (lo + m - (neq + 1)) (lo + m) ((lo + m - (lo + m - (neq + 1))) / 2)) lo:=kz.mirror (by lia) (by lia);obtain ⟨us,eu⟩:∃ us,us=mirror zs (lo + m - (neq + 1)) (lo + m) ((lo + m - (lo + m - (neq + 1))) / 2):=⟨_,rfl⟩
    rw [<-eu] at W4;show wpS (model prog w) A E s _ Q (setArr Bh (mirror zs (lo + m - (neq + 1)) (lo + m) ((lo + m - (lo + m - (neq + 1))) / 2)))
    rw [<-eu]
   case' neg=>
    rw [if_neg hq];obtain ⟨us,eu⟩:∃ us,us=zs:=⟨_,rfl⟩
    have W4:Kp (arrOf Bh) us lo:=by rw [eu]; exact kz
    rw [<-eu]
   all_goals
    have hzu:=W4.size;refine wpS_bind (FL ?_);show wpS (model prog w) A E s _ Q (setArr Bh (mirror us lo (lo + m) ((lo + m - lo) / 2)))
    have kv:Kp (arrOf Bh) (mirror us lo (lo + m) ((lo + m - lo) / 2)) lo:=W4.mirror (by lia) (Z4 _);obtain ⟨vs,ev⟩:∃ vs,vs=mirror us lo (lo + m) ((lo + m - lo) / 2):=⟨_,rfl⟩
    rw [<-ev] at kv;rw [<-ev];have hzv:=kv.size;refine wpS_bind (wpS_mono (NW (f:=fun n=>lt (Fs vs (lo + n)) (Fs vs (lo + n - 1))) m2 ?_) ?_)
    ·intro x n R n1 n2 y1 y2;dsimp only;refine wpS_bind (De (st:=setArr Bh vs) an hk (kv.1.trans hp) (by lia) (by lia) ?_);dsimp only;cases e:lt (Fs vs (lo + n)) (Fs vs (lo + n - 1))
     ·exact wpS_pure (y2 e)
     ·exact wpS_pure (y1 e)
    rintro c Yt ⟨rfl,n',rfl,b1,b2,b3,_⟩;exact wpS_pure (last us W4 vs kv n' b1 b2)
theorem HJ {lo n ok:Nat} {Q:Bool->SortSt->Prop} {st:SortSt} (an:VQ prog w A s κ lt a0) (hk:kindOf st=κ) (hp:(arrOf st).Perm a0) (hn:lo + n<=a0.size) (h1:1<=ok) (hok:ok<=n)
  (h:∀ ys,Kp (arrOf st) ys lo->Q true (setArr st ys)):wpS (model prog w) A E s (binarySort' lo n ok) Q st:=by
 have hz:=hp.size_eq;refine wpS_bind (wpS_mono (wpS_forRange (I:=fun k c Bh=>c=(none,())/\∃ ys,Bh=setArr st ys/\Kp (arrOf st) ys lo)
  (Q:=fun c Bh=>c=(none,())/\∃ ys,Bh=setArr st ys/\Kp (arrOf st) ys lo) ?step ?fin ?init) ?post)
 case init=>exact ⟨rfl,arrOf st,rfl,Kp.refl _ _⟩
 case fin=>
  rintro c Bh ⟨rfl,ys,rfl,kp⟩;exact ⟨rfl,ys,rfl,kp⟩
 case post=>
  rintro c Bh ⟨rfl,ys,rfl,kp⟩;exact wpS_pure (h ys kp)
 case step=>
  rintro k c Bh k1 k2 ⟨rfl,ys,rfl,kp⟩;dsimp only;have hzy:=kp.size;have hpy:(arrOf (setArr st ys)).Perm a0:=kp.1.trans hp;refine wpS_bind (wpS_mono (L8 (n:=k) ?_ ?_ (ZQ _) (Z4 _)) ?_)
  ·intro x l R hR;dsimp only;rw [if_pos (Z4 _)];exact wpS_pure hR
  ·intro x l r R hlr hrk y1 y2;dsimp only;rw [if_neg (by lia),show (l + r) / 2=l + (r - l) / 2 by lia];refine wpS_bind (De (st:=setArr st ys) an hk hpy (by lia) (by lia) ?_);dsimp only;cases e:lt (Fs ys (lo + k)) (Fs ys (lo + (l + (r - l) / 2)))
   ·exact wpS_pure y1
   ·exact wpS_pure y2
  ·rintro c HK ⟨rfl,r,rfl,r1⟩;refine wpS_bind ?_;rw [show (sortPriv% PySem.Builtin.moveDown)=moveDown' from rfl,moveDown'_eq];exact wpS_modify (wpS_pure ⟨rfl,bubble ys (lo + k) (lo + k - (lo + r)),rfl,kp.bubble (by lia) (by lia)⟩)
end
end L2
namespace L2
open PySem PySem.Spec PyProof.Rows
section
variable {prog:Program} {w:World} {A:Around} {E:Value->Shared->Prop} {s:Shared}
end
structure Fn (K:Zw) (mg:Str->Option Value) (nm:Str) (st:Stmt) (ps:List Str) (f:Addr) (fd:FuncData):Prop where
 F:DQ K nm nm st f fd
 mg:mg nm=some (.ref f)
 b:HI K fd ps []
structure OJ (H:Hp) (m:Addr) (n:Nat) (xs:List Str) (ws:List AH):Prop where
 ex:∃ t1 t2:Addr,∃ vs:List V,H m=some (.tup [.ref t1,.ref t2])/\H t1=some (.tup (xs.map V.str))/\H t2=some (.tup vs)/\AB H vs (ws.map EM)
 len:xs.length=n
 nd:xs.Nodup
 nm:∀ x ∈ xs,AL x=true
 wl:ws.length<=100
 wn:∀ u ∈ ws,AL u.1=true/\AL u.2.1=true/\1<=u.2.2/\u.2.2 < 10 ^ 30
def iSeq (K:Zw) (tl:TE):TI:=fun σ H R=>tl σ H fun x H1=>∃ a,x=.ref a/\(((∃ xs,AX K H1 a xs)/\R (Ss K a) H1)\/((∃ xs,A4 K H1 a xs)/\R (Qr K a) H1))
theorem UZ {X:Cx} {tg l:Expr} {tl:TE} (hl:PE X l tl):PI X tg l (iSeq X.K tl):=by
 intro pins s σ H R I h;refine By (hl (pins:=pins) s σ H _ I h) fun v s1 ⟨x,H1,I1,r1,q1⟩=>?_
 obtain ⟨a,e,q1⟩:=q1;subst e;cases r1
 have fp:∀ b ∈ [s1.heap.objs.size],Fh X pins H1 b:=fun b hb=>by
  have e:b=s1.heap.objs.size:=by simpa using hb
  subst e;exact I1.fpOk (Z4 _) (I1.hok.fresh (Z4 _))
 rcases q1 with ⟨⟨xs,hq⟩,q⟩ | ⟨⟨xs,hq⟩,q⟩
 ·obtain ⟨Ax,rv,p,hz⟩:=I1.list hq;refine wpAny_pyIter_list p.isList ?_;exact ⟨s1.heap.objs.size,[s1.heap.objs.size],_,_,H1,rfl,I1.kept (t':=s1.toks) fun b o e=>Zu _ e,JX a _,⟨_,Z5 _ rfl,rfl,rfl⟩,fp,q⟩
 ·obtain ⟨Ax,rv,p,hz⟩:=I1.tuple hq;refine wpAny_pyIter_tuple (show s1.heap.IsTuple a Ax.toArray from p) ?_;exact ⟨s1.heap.objs.size,[s1.heap.objs.size],_,_,H1,rfl,I1.kept (t':=s1.toks) fun b o e=>Zu _ e,Iz a _,⟨_,Z5 _ rfl,rfl,rfl⟩,fp,q⟩
structure Tv (J:It) (xs:List V) (S:Hp->Prop):Prop where
 go:∀ i H,S H->i < xs.length->J.go i H
 yld:∀ i H x H',S H->J.yld i H x H'->H'=H/\xs[i]? = some x
 stop:∀ H,S H->J.stop xs.length H
theorem BW {K:Zw} {a:Addr} {xs:List V}:Tv (Ss K a) xs (fun H=>AX K H a xs):=
 ⟨fun i H q BL=>⟨xs,xs[i],q,by simp [BL]⟩,fun i H x H' q y=>⟨y.1,y.2 xs q⟩,fun H q=>⟨xs,q,Z4 _⟩⟩
theorem BD {K:Zw} {a:Addr} {xs:List V}:Tv (Qr K a) xs (fun H=>A4 K H a xs):=
 ⟨fun i H q BL=>⟨xs,xs[i],q,by simp [BL]⟩,fun i H x H' q y=>⟨y.1,y.2 xs q⟩,fun H q=>⟨xs,q,Z4 _⟩⟩
theorem AQ {J:It} {xs:List V} {S:Hp->Prop} {g:TG} {te:TE} {H:Hp} {σ0:St} {R:Addr->Hp->Prop} (ov:Tv J xs S) (I:Addr->Nat->St->Hp->List V->Prop) (big:xs.length < sizeLine)
  (h0:∀ D,H D=none->I D 0 σ0 (upd H D (.lst [])) [])
  (hs:∀ D i σ H' acc,H D=none->I D i σ H' acc->S H'/\H' D=some (.lst acc)/\acc.length=i)
  (turn:∀ D i σ H' acc x (B:St->V->Hp->Prop),H D=none->xs[i]? = some x->I D i σ H' acc->(∀ AG v H5,H5 D=some (.lst acc)->I D (i + 1) AG (upd H5 D (.lst (acc ++ [v]))) (acc ++ [v])->B AG v H5)->g x σ H' fun AG H3=>te AG H3 (B AG))
  (fin:∀ D σ H' acc,H D=none->I D xs.length σ H' acc->R D H') :
  ∀ D,H D=none->∃ W:Nat->Nat->St->Hp->Prop,(∃ m,W 0 m σ0 (upd H D (.lst []))) /\
   ∀ i m Ay H',W i m Ay H'->(J.stop i H'/\R D H')\/(J.go i H'/\∀ x H2,J.yld i H' x H2->g x Ay H2 fun AG H3=>JC AG H3 fun b H4=>
    if b=true then te AG H4 (fun v H5=>∃ acc,H5 D=some (.lst acc)/\acc.length < sizeLine/\∃ m',m' < m/\W (i + 1) m' AG (upd H5 D (.lst (acc ++ [v])))) else ∃ m',m' < m/\W (i + 1) m' AG H4):=by
 intro D hD;exists fun i m σ H'=>m=xs.length - i/\i<=xs.length/\∃ acc,I D i σ H' acc,⟨xs.length,rfl,ZQ _,[],h0 D hD⟩
 rintro i m σ H' ⟨rfl,hi,acc,p⟩;obtain ⟨s1,s2,s3⟩:=hs D i σ H' acc hD p;by_cases BL:i < xs.length
 ·refine .inr ⟨ov.go i H' s1 BL,fun x H2 y=>?_⟩;obtain ⟨rfl,ex⟩:=ov.yld i H' x H2 s1 y;have e:∀ (F:St->V->Hp->Prop) (G:St->Hp->Prop),(fun (AG:St) (H3:Hp)=>JC AG H3 fun b H4=>if b=true then te AG H4 (F AG) else G AG H4)=fun AG H3=>te AG H3 (F AG):=by
   intro F G;funext AG H3;show (if true=true then te AG H3 (F AG) else G AG H3)=_
   rw [if_pos rfl]
  rw [e (fun AG v H5=>∃ acc,H5 D=some (.lst acc)/\acc.length < sizeLine/\∃ m',m' < xs.length - i/\(m'=xs.length - (i + 1)/\i + 1<=xs.length/\∃ GH,I D (i + 1) AG (upd H5 D (.lst (acc ++ [v]))) GH)) (fun AG H4=>∃ m',m' < xs.length - i/\(m'=xs.length - (i + 1)/\i + 1<=xs.length/\∃ GH,I D (i + 1) AG H4 GH))];refine turn D i σ H2 acc x _ hD ex p fun AG v H5 d5 p5=>?_
  exact ⟨acc,d5,by lia,xs.length - (i + 1),by lia,rfl,BL,_,p5⟩
 ·have e:i=xs.length:=by lia
  subst e;exact .inl ⟨ov.stop H' s1,fin D σ H' acc hD p⟩
abbrev AV:=Str × Int
def Cq (u:AV):PyData:=.tuple [.str u.1,.int u.2]
structure DW (xs:List Str) (lo:Int) (rs:List AV):Prop where
 sub:∀ r ∈ rs,r.1 ∈ xs
 nd:(rs.map (·.1)).Nodup
 lo:∀ r ∈ rs,lo<=r.2/\r.2 < 10 ^ 30
 one:1<=rs.length
def rk (u:AV):List OK:=[.s u.1,.i u.2]
theorem Nf {H:Hp} {v:V} {u:AV} (h:Fj H v (Cq u)):∃ t,v=.ref t/\H t=some (.tup [.str u.1,.int u.2]):=by
 unfold Cq at h;cases h with
 | tup ha hd=>
  cases hd with
  | cons h1 r1=>
   cases r1 with
   | cons h2 r2=>
    cases r2
    cases h1
    cases h2
    exact ⟨_,rfl,ha⟩
theorem FY {H:Hp} {t:Addr} {u:AV} (h:H t=some (.tup [.str u.1,.int u.2])):Fj H (.ref t) (Cq u):=.tup h (.cons (.str _) (.cons (.int _) .nil))
theorem AW {H2 H3:Hp} {vs:List V} {rs:List AV} (h:AB H2 vs (rs.map Cq)) (ht:∀ b xs,H2 b=some (.tup xs)->H3 b=some (.tup xs)):AB H3 vs (rs.map Cq):=by
 induction rs generalizing vs with
 | nil=>cases h; exact .nil
 | cons u rs ih=>
  cases h with
  | cons h1 r=>
   obtain ⟨t,rfl,e⟩:=Nf h1;exact .cons (FY (ht _ _ e)) (ih r)
theorem Bv {H:Hp}:∀ {vs:List V} {rs:List AV} {i:Nat} {x:V},AB H vs (rs.map Cq)->vs[i]? = some x->∃ u t,rs[i]? = some u/\x=.ref t/\H t=some (.tup [.str u.1,.int u.2])
 | _,[],i,x,.nil,e=>by simp at e
 | _,u :: rs,0,x,.cons h r,e=>by
  simp only [ao,ZJ.injEq] at e;subst e;obtain ⟨t,rfl,q⟩:=Nf h;exact ⟨u,t,rfl,rfl,q⟩
 | _,u :: rs,i + 1,x,.cons h r,e=>by
  obtain ⟨u',t,a,b,c⟩:=Bv r (by simpa using e);exact ⟨u',t,by simpa using a,b,c⟩
theorem AJ {H:Hp}:∀ {vs:List V} {rs:List AV},AB H vs (rs.map Cq)->vs.length=rs.length
 | _,[],.nil=>rfl
 | _,u :: rs,.cons h r=>by rw [ak,ak,AJ r]
theorem Pj {H:Hp} {vs FI:List V} (p:FI.Perm vs):∀ {rs:List AV},AB H vs (rs.map Cq)->∃ LV:List AV,AB H FI (LV.map Cq)/\LV.Perm rs:=by
 induction p with
 | nil=>intro rs h; exact ⟨rs,h,.refl _⟩
 | cons x p ih=>
  intro rs h;cases rs with
  | nil=>cases h
  | cons u rs=>
   cases h with
   | cons h1 h2=>
    obtain ⟨LV,a,b⟩:=ih h2;exact ⟨u :: LV,.cons h1 a,b.cons u⟩
 | swap x y l=>
  intro rs h;cases rs with
  | nil=>cases h
  | cons u rs=>
   cases h with
   | cons h1 h2=>
    cases rs with
    | nil=>cases h2
    | cons v rs=>
     cases h2 with
     | cons h3 h4=>exact ⟨v :: u :: rs,.cons h3 (.cons h1 h4),.swap u v rs⟩
 | trans p1 p2 WA W9=>
  intro rs h;obtain ⟨Aw,a1,b1⟩:=W9 h;obtain ⟨Au,a2,b2⟩:=WA a1;exact ⟨Au,a2,b2.trans b1⟩
theorem Ra {H:Hp} {v:V} {u:AV} (h:Fj H v (Cq u)):NL H (fun i=>decide (i < 1)) v/\PR H v=rk u:=by
 obtain ⟨t,rfl,ht⟩:=Nf h;exists ⟨t,_,rfl,ht,by simp,fun i y e=>?_⟩
 ·unfold K2;match i,e with
  | 0,e=>cases e; simp
  | 1,e=>cases e; simp
  | n + 2,e=>simp at e
 ·show (match H t with | some (.tup ys)=>ys.map LD | _=>[])=_
  rw [ht];rfl
theorem Kf {H:Hp}:∀ {vs:List V} {rs:List AV},AB H vs (rs.map Cq)->(∀ v ∈ vs,NL H (fun i=>decide (i < 1)) v)/\vs.map (PR H)=rs.map rk
 | _,[],.nil=>⟨(fun v hv=>nomatch hv),rfl⟩
 | _,u :: rs,.cons h r=>by
  obtain ⟨a1,a2⟩:=Ra h;obtain ⟨b1,b2⟩:=Kf r;refine ⟨fun v hv=>?_,by rw [ZI,ZI,a2,b2]⟩;rcases Zz.mp hv with rfl | hv
  ·exact a1
  ·exact b1 v hv
theorem DW.perm {xs:List Str} {lo:Int} {rs LV:List AV} (h:DW xs lo rs) (p:LV.Perm rs):DW xs lo LV:=
 ⟨fun r hr=>h.sub r (p.mem_iff.mp hr),(p.map (·.1)).nodup_iff.mpr h.nd,fun r hr=>h.lo r (p.mem_iff.mp hr),by rw [p.length_eq]; exact h.one⟩
def Lim (x:V) (d:PyData):Prop:=(x=.non/\d=.none)\/∃ i:Int,x=.int i/\d=.int i/\1<=i/\i < 10 ^ 30
end L2
namespace L2
open PySem PySem.Spec PySem.W PyProof.Rows
theorem NY {X:Cx} {pins:List (Addr × Obj)} {σ:St} {H:Hp} {s:Shared} (I:Av X pins σ H s) {kd:Nat->Bool}:∀ {vs:List V} {Ax:List Value},A9 vs Ax->(∀ v ∈ vs,NL H kd v)->∀ u ∈ Ax,NJ s.heap kd u
 | _,_,.nil,_,_,hu=>nomatch hu
 | _,_,.cons r1 r2,hk,u,hu=>by
  rcases Zz.mp hu with rfl | hu
  ·exact (U5 I r1 (hk _ ZP)).1
  ·exact NY I r2 (fun v hv=>hk v (ZK _ hv)) u hu
end L2
namespace L2
open PySem PySem.Spec PyProof.Rows
theorem JA {H H':Hp} {p:Addr} (hP:A5 H p) (k:AA p H H'):∀ b ys,H b=some (.tup ys)->H' b=some (.tup ys):=fun b ys z=>k b _ (by
 obtain ⟨_,_,_,q⟩:=hP;exact CN z q (fun y=>by cases y)) z
theorem OJ.keepT {H H':Hp} {m:Addr} {n:Nat} {xs:List Str} {ws:List AH} (h:OJ H m n xs ws) (t:∀ b ys,H b=some (.tup ys)->H' b=some (.tup ys)):OJ H' m n xs ws:=by
 obtain ⟨ta,tb,vs,a,b,c,e⟩:=h.ex;exact ⟨⟨ta,tb,vs,t _ _ a,t _ _ b,t _ _ c,Dp e t⟩,h.len,h.nd,h.nm,h.wl,h.wn⟩
theorem MU {x y x' y':Str} (p:[x',y'].Perm [x,y]) (h:sortedS [x',y']=true):x'=Cc x y/\y'=Cd x y:=by
 have h1:=Fm h;have h2:[Cc x y,Cd x y].Pairwise fun a b=>¬ b.cps.toList < a.cps.toList:=by
  refine List.pairwise_pair.mpr ?_;unfold Cc Cd;by_cases a:y.cps.toList < x.cps.toList
  ·rw [if_pos a,if_neg (fun z=>G2 _ (cg a z))];exact fun z=>G2 _ (cg a z)
  ·rw [if_neg a];by_cases b:x.cps.toList < y.cps.toList
   ·rw [if_pos b];exact a
   ·rw [if_neg b];exact G2 _
 have p2:[Cc x y,Cd x y].Perm [x,y]:=by
  unfold Cc Cd;by_cases a:y.cps.toList < x.cps.toList
  ·rw [if_pos a,if_neg (fun z=>G2 _ (cg a z))];exact .swap _ _ _
  ·rw [if_neg a];by_cases b:x.cps.toList < y.cps.toList
   ·rw [if_pos b]
   ·rw [if_neg b];have e:x=y:=Dq a b;rw [e]
 have e:=Kb h1 h2 (p.trans p2.symm);simp only [bU.injEq,and_true] at e;exact e
structure Gk (H:Hp) (m:Addr) (n:Nat) (ps:List Str) (ws:List AH):Prop where
 at':OJ H m n ps ws
 dr:∃ (xs:List Str) (Gm:List AH),ps.Perm xs/\ws.Perm (Gm.map E5)/\D6 xs Gm
 so:sortedS ps=true
 l64:ws.length < 64
theorem Gk.web {H:Hp} {m:Addr} {n:Nat} {ps:List Str} {ws:List AH} (h:Gk H m n ps ws) (n1:1<=n) (n30:n<=30) :
  ∃ r,Jy H m ps ws r/\(∀ u ∈ ws,1<=u.2.2)/\(∀ x y l l',BS ws x y l->BS ws x y l'->l=l'):=by
 obtain ⟨xs,Gm,pp,wp,wof,sep,jn⟩:=h.dr;have pl:0 < ps.length:=by rw [h.at'.len]; lia
 have hr0:ps[0] ∈ xs:=pp.mem_iff.mp (ar pl);have en:=fun x y l=>Kt wp x y l
 refine ⟨ps[0],⟨⟨h.at'.ex⟩,h.at'.nd,by rw [h.at'.len]; lia,h.l64,fun u hu=>?_,Zt pl,fun Sp hs hcl z hz=>?_⟩,fun u hu=>(h.at'.wn u hu).2.2.1,fun x y l l' e1 e2=>Qg sep ((en x y l).mp e1) ((en x y l').mp e2)⟩
 ·obtain ⟨q1,q2⟩:=Qf wp (fun u hu=>⟨(wof u hu).1,(wof u hu).2.1⟩) u hu;exact ⟨pp.mem_iff.mpr q1,pp.mem_iff.mpr q2⟩
 ·exact Lx.all jn Sp (fun b c hbc=>hcl b c ((Se wp b c).mpr hbc)) hr0 hs z (pp.mem_iff.mp hz)
theorem Jf:∀ {ns:List Int} {us:List Value},A9 (ns.map V.int) us->∃ ts:List (Int × Tok),us=ts.map (fun p=>Value.int p.1 p.2)/\ts.map (·.1)=ns
 | [],_,.nil=>⟨[],rfl,rfl⟩
 | n :: ns,_,.cons r q=>by
  obtain ⟨t,rfl⟩:=r;obtain ⟨ts,rfl,e⟩:=Jf q;exact ⟨(n,t) :: ts,rfl,by rw [ZI,e]⟩
theorem JL {X:Cx} (hc:X.calm=true):Bz X (.builtin "sum") (fun xs H Q=>∃ (a:Addr) (ns:List Int),xs=[.ref a]/\AX X.K H a (ns.map V.int)/\Q (.int ns.sum) H):=by
 intro pins s σ H xs us Q I r h;obtain ⟨a,ns,rfl,ha,q⟩:=h;obtain ⟨u,rfl,ru⟩:=Ce r;cases ru
 obtain ⟨Ax,rv,pl,hz⟩:=I.list ha;obtain ⟨ts,rfl,e⟩:=Jf rv;have hl:s.heap.IsList a (intItems ts.toArray):=by
  have:=pl.isList;unfold intItems;simpa using this
 refine sum_intListG (I.ok.hd hc) hl fun h' tk t' kk=>?_
 refine ⟨.int ns.sum,H,I.kept (t':=tk) kk,⟨t',?_⟩,q⟩;have:preSum (numAt ts.toArray) ts.toArray.size=ns.sum:=by
  rw [preSum_eq,bh (by simp),<-e]
 rw [this]
theorem JK:typeLookup (.type "tuple") "keys"=pure none:=by rw [typeLookup_type,builtinLookup_eq_fast]; kernel_rfl
theorem OU {prog:Program} {w:World} {A:Around} {E:Value->Shared->Prop} {s:Shared} {a:Addr} {o:Obj} {xs:Array Value} {k:Nat} {Q:Option Value->Shared->Prop}
  (hx:s.heap.get? a=some o) (hc:o.cls=.type "tuple") (hdat:o.data=.seq xs k) (hd:o.dict=none) (hA:A.handled=none)
  (h:∀ h' tk,(∀ b ob,s.heap.get? b=some ob->h'.get? b=some ob)->Q none { s with heap:=h',toks:=tk }):wpAny (model prog w) A (getAttr? (.ref a) "keys") Q E s:=by
 obtain ⟨c,dct,dat,sl⟩:=o;simp only at hc hdat hd;subst hc hdat hd;obtain ⟨hp,g,d,tk,os⟩:=s;have hT:∀ VT,(⟨hp,g,d,VT,os⟩:Shared).TypeIs (.ref a) "tuple":=fun _=>⟨_,hx,rfl⟩
 have f1:=sub_AttributeError;have f3:=F.slot_tuple_getattribute.lookup;have f4:=F.slot_tuple_getattribute.bind (.ref a);have f5:=am_tuple_getattr_none;unfold getAttr? getAttrBy? getAttrBy;repeat (any_goals (first | assumption | exact hT _ | ((with_reducible show wpAny _ _ (call (Value.builtin "tuple.__getattribute__") _ _) _ _ _); refine call_meets F.slot_tuple_getattribute (hT _) am_entry_tuple_getattribute (F.args_tuple_getattribute_2 _ _) (meets_getattribute_miss_tuple a xs k sl "keys" _ JK (by decide +kernel) (by decide +kernel)) ⟨hx,hA,fun h' VT e M3=>?_⟩) | wp_step))
 obtain ⟨t',u',he⟩:=M3.there;show wpAny _ _ (getattributeRaised _ _ _ _ _ _ _) _ _ _
 unfold getattributeRaised;have hE:∀ VT,(⟨h',g,d,VT,os⟩:Shared).TypeIs (.ref e) "AttributeError":=fun _=>⟨_,he,rfl⟩
 repeat (any_goals (first | assumption | exact hE _ | wp_step))
 exact h _ _ M3.keeps
section
variable {prog:Program} {w:World} {A:Around} {R:Result->Shared->Prop} {g0:Heap} {D it l:Addr} {vs:List Value} {ps:List (Str × V)}
theorem ON (hh:A.handled=none) (nI:it ≠ D) (nl:l ≠ it/\l ≠ D) (g1:∀ b o,g0.get? b=some o->b ≠ it/\b ≠ D) (hl:vs.length=ps.length) (rows:∀ (i:Nat) v p,vs[i]? = some v->ps[i]? = some p->Uy g0 v p) (hsz:ps.length < sizeLine) :
  ∀ (m i:Nat) (s:Shared) (kvs:List (Bg × V)) (us:List (Bg × Value)),ps.length - i=m->i<=ps.length->s.heap.IsTupleIter it l i->s.heap.IsTuple l vs.toArray->KV kvs us->kvs.length<=i->s.heap.DictOf (AS prog w) D us->(∀ b o,g0.get? b=some o->s.heap.get? b=some o) ->
   (∀ h' tk Qt,KV (IZ kvs (sK (ps.drop i))) Qt->h'.DictOf (AS prog w) D Qt->(∀ b o,b ≠ it->b ≠ D->s.heap.get? b=some o->h'.get? b=some o)->R (.ok (.ret .none)) { s with heap:=h',toks:=tk }) ->
   codeAny (model prog w) A (.builtin "dict.update.loop" ⟨[.ref D,.ref it,.int (i:Int) 0,.none],[]⟩) R s:=by
 intro m;induction m with
 | zero=>
  intro i s kvs us hm hi st hL kv kl dd gk r;have e:i=ps.length:=by lia
  refine codeAny_builtin Fb ?_;rw [Around.under_plainId Cr _];unfold Builtin.«dict.update.loop»;refine wpAny_bind (wpAny_pyNext_tuple_end hh st hL (by simp; lia) fun h' eb=>?_);refine wpAny_bind (wpAny_pure (wpAny_pure ?_));have MN:h'.DictOf (AS prog w) D us:=dd.at fun o q=>eb D o (Ne.symm nI) q
  refine r h' s.toks us ?_ MN fun b o b1 b2 q=>eb b o b1 q
  rw [e,List.drop_length];exact kv
 | succ m ih=>
  intro i s kvs us hm hi st hL kv kl dd gk r;have BL:i < ps.length:=by lia
  have ev:vs[i]? = some (vs[i]'(by lia)):=Zt (by lia);have ep:ps[i]? = some ps[i]:=Zt BL;obtain ⟨a,t,u,e1,ht,ru⟩:=rows i _ _ ev ep;rw [e1] at ev;refine codeAny_builtin Fb ?_;rw [Around.under_plainId Cr _];unfold Builtin.«dict.update.loop»;refine wpAny_bind (wpAny_pyNext_tuple_item st hL (x:=.ref a) (by simpa using ev) fun h' Bh sb=>?_);obtain ⟨o,ho,hc,n,hd⟩:=id ht;have ha:=(sb.2 a (g1 a o ho).1).trans (gk a o ho);have MN:h'.DictOf (AS prog w) D us:=dd.at fun o q=>(sb.2 D (Ne.symm nI)).trans q
  have L':h'.IsTuple l vs.toArray:=by
   obtain ⟨ol,hol,rl⟩:=hL;exact ⟨ol,(sb.2 l nl.1).trans hol,rl⟩
  refine wpAny_bind (wpAny_holding ?_);refine wpAny_bind (wpAny_tryCatch ?_);unfold Builtin.Dict.pairItems;refine wpAny_bind (wpAny_typeOf (T:="tuple") ⟨o,ha,hc⟩ ?_);rw [if_pos (by decide)];refine wpAny_bind (wpAny_seqItems ha hd (wpAny_pure ?_));show wpAny _ A.in1 (holding [Value.str ps[i].1 t,u] (dictSet D (Value.str ps[i].1 t) u)) _ _ _
  have Ym:us.length<=sizeLine:=by rw [<-kv.length]; lia
  refine wpAny_holding (wpAny_dictSet_pairs (k:=Sum.inr ps[i].1) (hsz:=Ym) (Hy prog w _ t) MN fun h2 Sn Xw=>?_);have ki:((i:Int) + 1)=((i + 1:Nat):Int):=by lia
  refine wpAny_pure ⟨plainId_quiet Cr _,?_⟩;show codeAny (model prog w) A (.builtin "dict.update.loop" ⟨[.ref D,.ref it,.int ((i:Int) + 1) 0,.none],[]⟩) R _
  rw [ki];have kl2:=CA kvs (Sum.inr ps[i].1:Bg) ps[i].2;have it2:h2.IsTupleIter it l (i + 1):=by
   obtain ⟨oi,hoi,ri⟩:=Bh;exact ⟨oi,(Xw.2 it nI).trans hoi,ri⟩
  refine ih (i + 1) _ (BK kvs (Sum.inr ps[i].1) ps[i].2) _ (by lia) BL it2 ?_ (kv.put (Sum.inr ps[i].1) ru) (by lia) Sn (fun b ob q=>(Xw.2 b (g1 b ob q).2).trans ((sb.2 b (g1 b ob q).1).trans (gk b ob q))) fun h3 UA us3 kv3 dd3 k3=>?_
  ·obtain ⟨ol,hol,rl⟩:=L';exact ⟨ol,(Xw.2 l nl.2).trans hol,rl⟩
  ·refine r h3 UA us3 ?_ dd3 fun b ob b1 b2 q=>k3 b ob b1 b2 ((Xw.2 b b2).trans ((sb.2 b b1).trans q))
   have ed:ps.drop i=ps[i] :: ps.drop (i + 1):=(bF BL)
   rw [ed];exact kv3
end
section
variable {prog:Program} {w:World} {A:Around} {E:Value->Shared->Prop} {s:Shared}
theorem HX {l:Addr} {vs:List Value} {ps:List (Str × V)} {Q:Value->Shared->Prop} (hh:A.handled=none) {ol:Obj} {nl:Nat} (hl:s.heap.get? l=some ol) (hc:ol.cls=.type "tuple") (hd:ol.data=.seq vs.toArray nl) (hdc:ol.dict=none)
  (hlen:vs.length=ps.length) (rows:∀ (i:Nat) v p,vs[i]? = some v->ps[i]? = some p->Uy s.heap v p) (hsz:ps.length < sizeLine)
  (h:∀ h' tk us,KV (IZ [] (sK ps)) us->h'.DictOf (AS prog w) s.heap.objs.size us->(∀ b o,s.heap.get? b=some o->h'.get? b=some o)->Q (.ref s.heap.objs.size) { s with heap:=h',toks:=tk }):wpAny (model prog w) A (call (.type "dict") [.ref l]) Q E s:=by
 refine callType_codes (Q₁:=fun obj AR=>obj=.ref s.heap.objs.size/\AR = { s with heap:=s.heap.push { cls:=.type "dict",data:=.dict #[] } }) F.kt_called_dict (F.kt_typeCall_dict_1 _) F.entry_dict_init (kt_code_dict_new _ ⟨rfl,rfl⟩) ?_;rintro obj AR ⟨rfl,rfl⟩;have hnew:(s.heap.push { cls:=.type "dict",data:=.dict #[] }).DictOf (AS prog w) s.heap.objs.size []:=Heap.DictOf.new s.heap;have HS:(s.heap.push { cls:=.type "dict",data:=.dict #[] }).get? l=some ol:=Zu _ hl;exists hnew.typeIs,F.args_dict_init_2 _ _;unfold Builtin.«dict.__init__»;refine wpAny_bind ?_;unfold Builtin.Dict.selfAndRest;refine wpAny_bind (wpAny_notOrdered_dict hnew.typeIs ?_);show wpAny _ _ (pure (s.heap.objs.size,[Value.ref l])) _ _ _
 refine wpAny_pure ?_;show wpAny _ _ (Builtin.Dict.updateFrom "dict.__init__" s.heap.objs.size (.ref l) [] .none) _ _ _
 unfold Builtin.Dict.updateFrom;refine wpAny_bind (wpAny_typeOf (T:="tuple") ⟨ol,HS,hc⟩ ?_);rw [if_pos (by decide)];refine wpAny_bind (OU HS hc hd hdc hh fun h1 tk1 k1=>?_);simp only [Option.isNone_none,if_true];refine wpAny_bind (wpAny_rule ?_);have HF:h1.IsTuple l vs.toArray:=⟨ol,k1 _ _ HS,hc,nl,hd⟩
 refine wpAny_bind (wpAny_pyIter_tuple HF ?_);have old:∀ b o,s.heap.get? b=some o->h1.get? b=some o:=fun b o q=>k1 b o (Zu _ q)
 obtain ⟨od,esd,epd,hod,rd⟩:=id hnew;have Yc:=k1 _ _ hod;have ltD:=Z1 Yc;have ltl:=Z1 (k1 _ _ HS);refine wpAny_pure ⟨plainId_quiet Cr _,?_⟩;refine ON (A:=A.in1) (g0:=s.heap) (D:=s.heap.objs.size) (it:=h1.objs.size) (l:=l) (vs:=vs) (ps:=ps) hh (aA ltD) ⟨Z8 ltl,Z8 (Z1 hl)⟩ (fun b o q=>⟨Z8 (Z1 (old b o q)),Z8 (Z1 q)⟩) hlen rows hsz _ 0 { s with heap:=h1.push { cls:=.type "tuple_iterator",data:=.fields #[.ref l,.int 0 0] },toks:=tk1 } [] [] rfl (ZQ _)
  ⟨_,Z5 _ rfl,rfl,rfl⟩ (HF.push _) .nil (Z4 _) ⟨od,esd,epd,Zu _ Yc,rd⟩ (fun b o q=>Zu _ (old b o q)) fun h' tk us kv dd kk=>?_
 rw [bj] at kv;exact ⟨rfl,h h' tk us kv dd fun b o q=>kk b o (Z8 (Z1 (old b o q))) (Z8 (Z1 q)) (Zu _ (old b o q))⟩
end
theorem BX {X:Cx} (hc:X.calm=true):Bz X (.type "dict") (fun xs H Q=>∃ (a:Addr) (vs:List V) (ps:List (Str × V)),xs=[.ref a]/\H a=some (.tup vs)/\vs.length=ps.length/\(∀ (i:Nat) v p,vs[i]? = some v->ps[i]? = some p->∃ t,v=.ref t/\H t=some (.tup [.str p.1,p.2]))/\(ps.map (·.1)).Nodup/\ps.length < 1000 /\
  ∀ D,H D=none->Q (.ref D) (upd H D (.dK (sK ps)))):=by
 intro pins s σ H xs us Q I r h;obtain ⟨a,vs,ps,rfl,ha,hl,hk,hn,h1000,q⟩:=h;obtain ⟨u,rfl,ru⟩:=Ce r;cases ru
 obtain ⟨hz,Ax,rv,⟨o,ho,MK,n,hdat⟩,dn⟩:=(show AO X.prog X.w H s.heap a (.tup vs) from I.hok a _ ha)
 have Li:=dn o ho;have il:Ax.length=ps.length:=by rw [<-rv.length,hl]
 have big:1000 < sizeLine:=by decide
 refine HX (I.ok.hd hc) (ps:=ps) ho MK hdat Li il (fun i v p e1 e2=>?_) (by lia) fun h' tk us kv dd kk=>?_
 ·have hi:i < Ax.length:=(Z2.mp e1).1;have e3:vs[i]? = some vs[i]:=Zt (by lia);obtain ⟨v',e4,r4⟩:=rv.get e3;rw [e1] at e4;cases e4
  obtain ⟨t,e5,ht⟩:=hk i _ p e3 e2;rw [e5] at r4;cases r4
  obtain ⟨Lf,VX,pl2,_⟩:=I.tuple (A4.of ht);cases VX with
  | cons x1 y1=>
   cases y1 with
   | cons x2 y2=>
    cases y2
    obtain ⟨t1,rfl⟩:=x1;exact ⟨t,t1,_,rfl,pl2,x2⟩
 ·have em:IZ [] (sK ps)=sK ps:=Mx ps [] (by simpa using hn);rw [em] at kv;refine ⟨.ref s.heap.objs.size,_,I.laid (a:=s.heap.objs.size) (o:=.dK (sK ps)) (t':=tk) kk (Z4 _) (Ln (by rw [CJ]; lia) (beq_eq_false_iff_ne.mpr (Ne.symm (Z8 I.big))) kv dd),rfl,q _ (I.hok.fresh (Z4 _))⟩
structure Cm (H:Hp) (c m:Addr) (n:Nat) (xs:List Str) (ws:List AH) (Aw Au:List AV) (x:V) (d:PyData):Prop where
 ex:∃ (t1 t2:Addr) (FN HY:List V),H c=some (.tup [.ref m,.ref t1,.ref t2,x])/\H t1=some (.tup FN)/\AB H FN (Aw.map Cq)/\H t2=some (.tup HY)/\AB H HY (Au.map Cq)
 map:Gk H m n xs ws
 n1:1<=n
 n30:n<=30
 ok1:DW xs 0 Aw
 ok2:DW xs 1 Au
 l1:Aw.length<=10
 l2:Au.length<=30
 lim:Lim x d
theorem Gk.keepT {H H':Hp} {m:Addr} {n:Nat} {xs:List Str} {ws:List AH} (h:Gk H m n xs ws) (t:∀ b ys,H b=some (.tup ys)->H' b=some (.tup ys)):Gk H' m n xs ws:=⟨h.at'.keepT t,h.dr,h.so,h.l64⟩
theorem Cm.keepT {H H':Hp} {c m:Addr} {n:Nat} {xs:List Str} {ws:List AH} {Aw Au:List AV} {x:V} {d:PyData} (h:Cm H c m n xs ws Aw Au x d) (t:∀ b ys,H b=some (.tup ys)->H' b=some (.tup ys)):Cm H' c m n xs ws Aw Au x d:=by
 obtain ⟨t1,t2,FN,HY,a,b,e,f,g⟩:=h.ex;exact ⟨⟨t1,t2,FN,HY,t _ _ a,t _ _ b,AW e t,t _ _ f,AW g t⟩,h.map.keepT t,h.n1,h.n30,h.ok1,h.ok2,h.l1,h.l2,h.lim⟩
theorem Cm.same {H H':Hp} {c m:Addr} {n:Nat} {xs:List Str} {ws:List AH} {Aw Au:List AV} {x:V} {d:PyData} (h:Cm H c m n xs ws Aw Au x d) (s:Ao H H'):Cm H' c m n xs ws Aw Au x d:=h.keepT fun b ys z=>s _ _ z
def G7 (rs:List AV) (h:Str):Int:=((rs.find? fun r=>decide (r.1=h)).map (·.2)).getD 0
theorem EB {rs:List AV} (h:(rs.map (·.1)).Nodup) {r:AV} (hr:r ∈ rs):G7 rs r.1=r.2:=by
 induction rs with
 | nil=>exact nomatch hr
 | cons q rs ih=>
  rw [ZI,aq] at h;unfold G7;rw [aQ];by_cases e:q.1=r.1
  ·rw [decide_eq_true e];rcases Zz.mp hr with z | z
   ·rw [z]; rfl
   ·exact absurd (Z6.mpr ⟨_,z,e.symm⟩) h.1
  ·rw [decide_eq_false e];rcases Zz.mp hr with z | z
   ·rw [z] at e; exact absurd rfl e
   ·exact ih h.2 z
def BU (rs:List AV):List (Str × V):=rs.map fun r=>(r.1,.int r.2)
theorem Dl (rs:List AV):(BU rs).map (·.1)=rs.map (·.1):=by unfold BU; rw [ax]; rfl
theorem Ic {H:Hp} {us:List V} {rs:List AV} (h:AB H us (rs.map Cq)):∀ (i:Nat) v p,us[i]? = some v->(BU rs)[i]? = some p->∃ t,v=.ref t/\H t=some (.tup [.str p.1,p.2]):=fun i v p e1 e2=>by
 obtain ⟨u,t,eu,rfl,ht⟩:=Bv h e1;unfold BU at e2;rw [Z0,eu] at e2;cases e2
 exact ⟨t,rfl,ht⟩
theorem IJ {H:Hp} {B:Addr} {rs:List AV} (h:H B=some (.dK (sK (BU rs)))) (nd:(rs.map (·.1)).Nodup) {y:Str} (hy:y ∈ rs.map (·.1)):Cn H B (.str y) (some (.int (G7 rs y))):=by
 obtain ⟨r,hr,rfl⟩:=Z6.mp hy;rw [EB nd hr];exact .inl ⟨_,Sum.inr r.1,.inl h,rfl,(DJ (nv:=BU rs) (by rw [Dl]; exact nd) (Z6.mpr ⟨r,hr,rfl⟩)).symm⟩
theorem D8 {h h':Heap} {a t:Addr} {i:Nat} (x:h.IsTupleIter a t i) (e:∀ o,h.get? a=some o->h'.get? a=some o):h'.IsTupleIter a t i:=let ⟨o,ho,r⟩:=x; ⟨o,e _ ho,r⟩
section
variable {prog:Program} {w:World} {A:Around} {E:Value->Shared->Prop} {s:Shared}
theorem Ct {it l:Addr} {i:Nat} {items} {x:Value} {Q:Value->Shared->Prop} (hit:s.heap.IsTupleIter it l i)
  (hl:s.heap.IsTuple l items) (hx:items[i]? = some x)
  (hQ:∀ h',h'.IsTupleIter it l (i + 1)->Heap.SameBut it s.heap h'->Q x { s with heap:=h' }) :
  wpAny (model prog w) A (Builtin.SmallTypes.nextOf (.ref it)) Q E s:=by
 obtain ⟨o,ho,hc,hd⟩:=id hit;obtain ⟨ol,hol,_,nl,hdl⟩:=hl;unfold Builtin.SmallTypes.nextOf;refine wpAny_bind (wpAny_callSpecial?_slot (name:=Str.ofString "__next__") hit.typeIs F.slot_tuple_iterator_next
  (wpAny_call_entry F.slot_tuple_iterator_next hit.typeIs F.entry_tuple_iterator_next ?_ (F.args_tuple_iterator_next_1 _)))
 show wpAny _ _ (field (.ref it) 0 >>= _) _ _ s
 refine wpAny_bind (wpAny_field ho hd (x:=.ref l) rfl ?_);show wpAny _ _ (if (Value.ref l == Value.none)=true then _ else _) _ _ s
 rw [if_neg (show ¬ ((Value.ref l == Value.none)=true) from ZD)];show wpAny _ _ (field (.ref it) 1 >>= _) _ _ s
 refine wpAny_bind (wpAny_field ho hd (x:=.int i 0) rfl ?_);show wpAny _ _ (seqItems? (.ref l) >>= _) _ _ s
 refine wpAny_bind (wpAny_seqItems hol hdl ?_);simp only [bI,hx];refine wpAny_bind (wpAny_setField ho hd (by simp) (wpAny_pure ⟨x,rfl,wpAny_pure (hQ _ ?_ (Heap.SameBut.update ..))⟩));exact ⟨_,ah _ ho (Obj.isFreed_of_fields (Obj.data_mapFields hd _)),(Obj.cls_mapFields ..).trans hc,by
  rw [Obj.data_mapFields hd]; simp [rawInt]⟩
theorem Ek {it l:Addr} {i:Nat} {items} {Q:Value->Shared->Prop} (hh:A.handled=none)
  (hit:s.heap.IsTupleIter it l i) (hl:s.heap.IsTuple l items) (hx:items[i]? = none)
  (hE:∀ h' e,Heap.ExtBut it s.heap h'->(∃ o,h'.get? e=some o/\o.cls=.type "StopIteration")->E (.ref e) { s with heap:=h' }) :
  wpAny (model prog w) A (Builtin.SmallTypes.nextOf (.ref it)) Q E s:=by
 obtain ⟨o,ho,hc,hd⟩:=id hit;obtain ⟨ol,hol,_,nl,hdl⟩:=hl;unfold Builtin.SmallTypes.nextOf;refine wpAny_bind (wpAny_callSpecial?_slot (name:=Str.ofString "__next__") hit.typeIs F.slot_tuple_iterator_next
  (wpAny_call_entry F.slot_tuple_iterator_next hit.typeIs F.entry_tuple_iterator_next ?_ (F.args_tuple_iterator_next_1 _)))
 show wpAny _ _ (field (.ref it) 0 >>= _) _ _ s
 refine wpAny_bind (wpAny_field ho hd (x:=.ref l) rfl ?_);show wpAny _ _ (if (Value.ref l == Value.none)=true then _ else _) _ _ s
 rw [if_neg (show ¬ ((Value.ref l == Value.none)=true) from ZD)];show wpAny _ _ (field (.ref it) 1 >>= _) _ _ s
 refine wpAny_bind (wpAny_field ho hd (x:=.int i 0) rfl ?_);show wpAny _ _ (seqItems? (.ref l) >>= _) _ _ s
 refine wpAny_bind (wpAny_seqItems hol hdl ?_);simp only [bI,hx];refine wpAny_bind (wpAny_rule (wpAny_bind (wpAny_setField ho hd (by simp) ?_)));show wpAny _ _ (newExc (.type "StopIteration") [] >>= _) _ _ _
 refine wpAny_bind ?_;simp only [newExc,newTuple];refine wpAny_bind (wpAny_newObj_type ?_ (by size_fits));refine wpAny_bind (m:=firstArgMember _ _) (wpAny_of_eq (a:=Value.none) (by first | rfl | (simp only [firstArgMember]; rfl)) ?_);refine wpAny_newObj_type ?_ (by size_fits);simp only [raiseNew];refine wpAny_bind (wpAny_handled ?_);first | rw [show A.in1.handled=none from hh] | rw [hh]
 refine wpAny_bind (wpAny_pure (wpAny_throw ?_));exact hE _ _ (((Heap.SameBut.update ..).extBut.push _).push _) ⟨_,Z5 _ rfl,rfl⟩
end
section
variable {prog:Program} {w:World} {A:Around} {E:Value->Shared->Prop} {s:Shared}
end
theorem Av.turnedT {X:Cx} {pins:List (Addr × Obj)} {σ:St} {H:Hp} {s:Shared} {h':Heap} {t':Nat} {fp:List Addr} {xs:List V} (I:Av X pins σ H s) (hf:∀ b ∈ fp,Fh X pins H b)
  (k:∀ b o,b ∉ fp->s.heap.get? b=some o->h'.get? b=some o) (new:AO X.prog X.w (upd H s.heap.objs.size (.tup xs)) h' s.heap.objs.size (.tup xs)) :
  Av X pins σ (upd H s.heap.objs.size (.tup xs)) { s with heap:=h',toks:=t' }:=by
 have hT:H s.heap.objs.size=none:=I.hok.fresh (Z4 _);have fT:=I.fpOk (Z4 _) hT;have nT:∀ b o,s.heap.get? b=some o->b ≠ s.heap.objs.size:=fun b o e z=>absurd (Z1 e) (by rw [z]; exact au _)
 have nH:∀ b u,H b=some u->b ∉ fp:=fun b u e z=>by rw [(hf b z).1] at e; cases e
 refine I.step (g':=s.gens) (d':=s.drawn) (ch:=s.heap.objs.size :: fp) (fun b hb=>?_) (fun b o _ _ hc e _=>k b o (fun z=>hc (ZK _ z)) e) (fun b o _ _ hc e _=>⟨o.slots,k b o (fun z=>hc (ZK _ z)) e⟩)
  (fun b o hc e n=>by rw [Ae (nT b o e)]; exact n) (fun b o hc e=>⟨o,k b o (fun z=>hc (ZK _ z)) e⟩)
  (fun b xs e=>by rw [Ae (Ah e hT)]; exact e) (fun b o u e=>by rw [Ae (Ah e hT)]; exact e) (fun b ps e=>⟨#[],by rw [Ae (Ah e hT),e]; simp⟩) (fun m hm=>?_) (fun b u e=>?_) I.bare
 ·rcases Zz.mp hb with rfl | hb
  ·obtain ⟨_,f1,_,f3,f4,f5⟩:=fT;exact ⟨f3,f1,f4,f5⟩
  ·obtain ⟨_,f1,_,f3,f4,f5⟩:=hf b hb;exact ⟨f3,f1,f4,f5⟩
 ·obtain ⟨o,es,ep,ho,r⟩:=hm;exact ⟨o,es,ep,k _ o (fun z=>(hf _ z).2.1 rfl) ho,r⟩
 ·by_cases z:b=s.heap.objs.size
  ·subst z;rw [Ab] at e;cases e
   exact new
  ·rw [Ae z] at e;refine (I.hok b u e).stay (fun c v hc q=>k c v ?_ q) (fun c q=>by rw [Ae (Ah q hT)]; exact q) fun c xs q=>by rw [Ae (Ah q hT)]; exact q
   rcases hc with z | z
   ·rw [z]; exact nH b u e
   ·exact nH c _ z
theorem Av.turnedL {X:Cx} {pins:List (Addr × Obj)} {σ:St} {H:Hp} {s:Shared} {h':Heap} {t':Nat} {fp:List Addr} (I:Av X pins σ H s) (hf:∀ b ∈ fp,Fh X pins H b)
  (k:∀ b o,b ∉ fp->s.heap.get? b=some o->h'.get? b=some o):Av X pins σ H { s with heap:=h',toks:=t' }:=by
 have nH:∀ b u,H b=some u->b ∉ fp:=fun b u e z=>by rw [(hf b z).1] at e; cases e
 refine I.step (g':=s.gens) (d':=s.drawn) (ch:=fp) (fun b hb=>?_) (fun b o _ _ hc e _=>k b o hc e) (fun b o _ _ hc e _=>⟨o.slots,k b o hc e⟩) (fun _ _ _ _ n=>n)
  (fun b o hc e=>⟨o,k b o hc e⟩) (fun _ _ e=>e) (fun _ _ _ e=>e) (fun b ps e=>⟨#[],by rw [e]; simp⟩) (fun m hm=>?_) (fun b u e=>?_) I.bare
 ·obtain ⟨_,f1,_,f3,f4,f5⟩:=hf b hb;exact ⟨f3,f1,f4,f5⟩
 ·obtain ⟨o,es,ep,ho,r⟩:=hm;exact ⟨o,es,ep,k _ o (fun z=>(hf _ z).2.1 rfl) ho,r⟩
 ·refine (I.hok b u e).stay (fun c v hc q=>k c v ?_ q) (fun _ q=>q) fun _ _ q=>q
  rcases hc with z | z
  ·rw [z]; exact nH b u e
  ·exact nH c _ z
theorem JN {X:Cx} (hc:X.calm=true) (hu:X.A.units + 64 < cLine):Bz X (.builtin "min") (fun xs H Q=>∃ (a:Addr) (vs:List V) (ks:List (Int × Str)),xs=[.ref a]/\H a=some (.lst vs)/\vs.length=ks.length/\ks ≠ []/\(∀ (i:Nat) v k,vs[i]? = some v->ks[i]? = some k->J0 H v k) /\
  ∀ v k,k ∈ ks->J0 H v k->(∀ k' ∈ ks,D9 k k')->Q v H):=by
 intro pins s σ H xs us Q I r h;obtain ⟨a,vs,ks,rfl,ha,hl,hne,hk,q⟩:=h;obtain ⟨u,rfl,ru⟩:=Ce r;cases ru
 obtain ⟨Ax,rv,pl,hz⟩:=I.list (AX.of ha);have il:Ax.length=ks.length:=by rw [<-rv.length,hl]
 have pos:0 < ks.length:=b9.mpr hne;have kat:∀ (i:Nat) (v:Value),Ax[i]? = some v->∃ k,ks[i]? = some k/\D7 s.heap v k/\∃ x,vs[i]? = some x/\AF x v:=fun i v e=>by
  have hi:i < Ax.length:=(Z2.mp e).1;have e1:vs[i]? = some vs[i]:=Zt (by lia);have e2:ks[i]? = some ks[i]:=Zt (by lia);obtain ⟨v',e3,r3⟩:=rv.get e1;rw [e] at e3;cases e3
  exact ⟨_,e2,(hk i _ _ e1 e2).at I r3,_,e1,r3⟩
 refine Gy (bt:=fun i j=>PN (ks.getD i default) (ks.getD j default)) (I.ok.hd hc) pl.isList (by lia) (fun i j vi vj s' Q' E' g hi hj hQ=>?_) fun v h2 tk hv k2=>?_
 ·obtain ⟨ki,e1,a1,_⟩:=kat i vi hi;obtain ⟨kj,e2,a2,_⟩:=kat j vj hj;have d1:ks.getD i default=ki:=by rw [ZG,e1]; rfl
  have d2:ks.getD j default=kj:=by rw [ZG,e2]; rfl
  dsimp only at hQ;rw [d1,d2] at hQ;exact Lc (a1.keep g) (a2.keep g) (by rw [PySem.Around.in1_units]; lia) _ _ _ _ hQ
 ·obtain ⟨k,e1,a1,x,e3,r3⟩:=kat _ v hv;obtain ⟨b1,b2⟩:=Fd (fun i j=>PN (ks.getD i default) (ks.getD j default)) (fun i=>ks.getD i default) (fun _ _=>Ld) (fun _ _=>Le) (Ax.length - 1);refine ⟨x,H,I.kept k2,r3,q x k (Zx e1) (hk _ x k e3 e1) fun k' Uj=>?_⟩;obtain ⟨j,hj,ej⟩:=ZM Uj;have:=b2 j (by lia);have d1:ks.getD (argBest (fun i j=>PN (ks.getD i default) (ks.getD j default)) (Ax.length - 1)) default=k:=by rw [ZG,e1]; rfl
  have d2:ks.getD j default=k':=by rw [ZG,Zt hj,ej]; rfl
  rw [d1,d2] at this;exact this
def C0 (H:Hp) (A:Addr) (xs:List Str) (ws:List AH):Prop:=∃ (M:Str->Str->Option Int) (c:Nat),MD H A M c/\∀ x ∈ xs,∀ y ∈ xs,∃ n,M x y=some n/\Lz ws x y n/\0<=n/\n < 2 ^ 300
theorem C0.same {H H':Hp} {A:Addr} {xs:List Str} {ws:List AH} (h:C0 H A xs ws) (s:Ao H H'):C0 H' A xs ws:=let ⟨M,c,a,b⟩:=h; ⟨M,c,a.same s,b⟩
theorem Br.app' {ws:List AH} {x y z:Str} {m n:Int} (h:Br ws x y m) (g:Br ws y z n):Br ws x z (m + n):=by
 induction h with
 | nil x=>rw [c0]; exact g
 | cons e _ ih=>rw [cQ]; exact .cons e (ih g)
theorem Nx {xs:List Str} {ws:List AH} (jn:Lx xs ws) {L:Int} (L0:0<=L) (hL:∀ u ∈ ws,u.2.2<=L) (hp:∀ u ∈ ws,1<=u.2.2) {r:Str} (hr:xs[0]? = some r):∀ (j:Nat) x,xs[j]? = some x->∃ m,Br ws x r m/\0<=m/\m<=j * L:=by
 intro j;induction j using Nat.strongRecOn with
 | ind j ih=>
  intro x hx;by_cases z:j=0
  ·subst z;rw [hr] at hx;cases hx
   exact ⟨0,.nil _,az _,by simp⟩
  ·obtain ⟨u,hu,i,hij,e1,e2⟩:=jn j (by lia) (Z2.mp hx).1;rw [hx] at e2;cases e2
   obtain ⟨m,w,m0,ml⟩:=ih i hij _ e1;have hl:=hL u hu;have hq:=hp u hu;exists u.2.2 + m,.cons ⟨u,hu,.inr ⟨rfl,rfl⟩,rfl⟩ w,by lia
   have:((i:Int) + 1) * L<=j * L:=br (by lia) L0;rw [Int.add_mul,Int.one_mul] at this;lia
theorem Gk.sums {H:Hp} {m:Addr} {n:Nat} {ps:List Str} {ws:List AH} (h:Gk H m n ps ws) (n1:1<=n) (n30:n<=30):∀ x ∈ ps,∀ y ∈ ps,∃ k,Br ws x y k/\0<=k/\k < 2 ^ 300:=by
 obtain ⟨xs,Gm,pp,wp,wof,sep,jn⟩:=h.dr;have en:=fun x y l=>Kt wp x y l
 have xl:xs.length=n:=by rw [<-pp.length_eq]; exact h.at'.len
 have hr:xs[0]? = some (xs[0]'(by lia)):=Zt _;have hL:∀ u ∈ Gm,u.2.2<=10 ^ 30:=fun u hu=>by
  have:=(h.at'.wn (E5 u) (wp.mem_iff.mpr (Z6.mpr ⟨u,hu,rfl⟩))).2.2.2;have e:(E5 u).2.2=u.2.2:=rfl;lia
 have one:∀ x ∈ ps,∃ k,Br Gm x (xs[0]'(by lia)) k/\0<=k/\k<=30 * 10 ^ 30:=fun x hx=>by
  obtain ⟨j,hj,ej⟩:=ZM (pp.mem_iff.mp hx);obtain ⟨k,a,b,c⟩:=Nx jn (by decide) hL (fun u hu=>(wof u hu).2.2.2) hr j x (by rw [Zt hj,ej]);refine ⟨k,a,b,eM c (br (by lia) (by decide))⟩
 intro x hx y hy;obtain ⟨k1,a1,b1,c1⟩:=one x hx;obtain ⟨k2,a2,b2,c2⟩:=one y hy;have a3:=(Q5 en).mpr (Br.app' a1 a2.symm);exact ⟨k1 + k2,a3,by lia,by lia⟩
theorem Br.pos' {ws:List AH} (hp:∀ u ∈ ws,1<=u.2.2) {x y:Str} {m:Int} (h:Br ws x y m):0<=m:=by
 induction h with
 | nil=>exact az _
 | cons e _ ih=>obtain ⟨u,hu,_,rfl⟩:=e; have:=hp u hu; lia
theorem Gk.bound {H:Hp} {m:Addr} {n:Nat} {ps:List Str} {ws:List AH} (h:Gk H m n ps ws) (n1:1<=n) (n30:n<=30) {x y:Str} (hx:x ∈ ps) (hy:y ∈ ps) {k:Int} (d:Lz ws x y k):0<=k/\k < 2 ^ 300:=by
 obtain ⟨k',a,_,c⟩:=h.sums n1 n30 x hx y hy;exact ⟨d.1.pos' fun u hu=>(h.at'.wn u hu).2.2.1,bC (d.2 k' a) c⟩
theorem FW.doneW {ws:List AH} {xs:List Str} (he:∀ u ∈ ws,u.1 ∈ xs/\u.2.1 ∈ xs) (ex:∀ x ∈ xs,∀ y ∈ xs,∃ m,Br ws x y m) {M:Str->Str->Option Int} (h:FW ws xs xs.length M):∀ x ∈ xs,∀ y ∈ xs,∃ n,M x y=some n/\Lz ws x y n:=by
 intro x hx y hy;obtain ⟨m,hm⟩:=ex x hx y hy;have low:∀ m,Br ws x y m->∃ n,M x y=some n/\n<=m:=fun m g=>by
  rcases g.wi he with ⟨rfl,rfl⟩ | g
  ·exact h.diag x hx
  ·refine h.comp x y m ?_;rw [ZN];exact g
 obtain ⟨n,e,_⟩:=low m hm;refine ⟨n,e,h.sound x y n e,fun m' g=>?_⟩;obtain ⟨n',e',l⟩:=low m' g;rw [e] at e';cases e'
 exact l
theorem Gk.apart {H:Hp} {m:Addr} {n:Nat} {ps:List Str} {ws:List AH} (h:Gk H m n ps ws) {u:AH} (hu:u ∈ ws):u.1 ≠ u.2.1:=by
 obtain ⟨xs,Gm,pp,wp,wof,_⟩:=h.dr;obtain ⟨v,hv,rfl⟩:=Z6.mp (wp.mem_iff.mp hu);have ne:=(wof v hv).2.2.1;show Cc v.1 v.2.1 ≠ Cd v.1 v.2.1
 unfold Cc Cd;by_cases a:v.2.1.cps.toList < v.1.cps.toList
 ·rw [if_pos a,if_neg (fun z=>G2 _ (cg a z))];exact fun z=>ne z.symm
 ·rw [if_neg a];by_cases b:v.1.cps.toList < v.2.1.cps.toList
  ·rw [if_pos b]; exact ne
  ·exact absurd (Dq a b) ne
end L2
namespace L2
open PySem
theorem RP {K:Zw} {a:Addr} {xs:List V} {g:TG} {tb:TS} {D:Fi} {σ:St} {H:Hp} (Pv:Nat->St->Hp->Prop) (h0:Pv 0 σ H) (hl:∀ i σ H,i<=xs.length->Pv i σ H->A4 K H a xs)
  (hs:∀ i x σ H,xs[i]? = some x->Pv i σ H->∀ (rt:VK) (bk:St->Hp->Prop),g x σ H fun AG H2=>tb ⟨Pv (i + 1),rt,bk,Pv (i + 1)⟩ AG H2) (hd:∀ σ H,Pv xs.length σ H->D.nx σ H) :
  ∃ W:Nat->Nat->St->Hp->Prop,(∃ m,W 0 m σ H)/\∀ i m σ H,W i m σ H ->
   ((Qr K a).stop i H/\D.nx σ H)\/((Qr K a).go i H/\∃ N:St->Hp->Prop,(∀ Ay H',N Ay H'->∃ m',m' < m/\W (i + 1) m' Ay H')/\∀ x H',(Qr K a).yld i H x H'->g x σ H' fun AG H2=>tb { D with nx:=N,ct:=N,bk:=D.nx } AG H2):=
 OA Pv h0 hl (fun i x σ H hx hp=>hs i x σ H hx hp D.rt D.nx) hd
theorem Qd {a:Addr} {kvs:List (Bg × V)} {o:Obj} {g:TG} {tb:TS} {D:Fi} {σ:St} {H:Hp} (Pv:Nat->St->Hp->Prop) (h0:Pv 0 σ H) (hl:∀ i σ H,i<=kvs.length->Pv i σ H->H a=some (.frz o (.dK kvs)))
  (hs:∀ i k v σ H,kvs[i]? = some (k,v)->Pv i σ H->∀ (rt:VK) (bk:St->Hp->Prop),g (kV k) σ H fun AG H2=>tb ⟨Pv (i + 1),rt,bk,Pv (i + 1)⟩ AG H2) (hd:∀ σ H,Pv kvs.length σ H->D.nx σ H) :
  ∃ W:Nat->Nat->St->Hp->Prop,(∃ m,W 0 m σ H)/\∀ i m σ H,W i m σ H ->
   ((U0 a kvs o).stop i H/\D.nx σ H)\/((U0 a kvs o).go i H/\∃ N:St->Hp->Prop,(∀ Ay H',N Ay H'->∃ m',m' < m/\W (i + 1) m' Ay H')/\∀ x H',(U0 a kvs o).yld i H x H'->g x σ H' fun AG H2=>tb { D with nx:=N,ct:=N,bk:=D.nx } AG H2):=
 RR Pv h0 hl (fun i k v σ H hx hp=>hs i k v σ H hx hp D.rt D.nx) hd
theorem CC {K:Zw} {a:Addr} {xs:List V} {g:TG} {tb:TS} {D:Fi} {σ:St} {H:Hp} (Pv:Nat->St->Hp->Prop) (h0:Pv 0 σ H) (hl:∀ i σ H,i<=xs.length->Pv i σ H->A4 K H a xs)
  (hs:∀ i x σ H,xs[i]? = some x->Pv i σ H->∀ (rt:VK) (bk N:St->Hp->Prop),(∀ σ H,Pv (i + 1) σ H->N σ H)->g x σ H fun AG H2=>tb ⟨N,rt,bk,N⟩ AG H2) (hd:∀ σ H,Pv xs.length σ H->D.nx σ H) :
  ∃ W:Nat->Nat->St->Hp->Prop,(∃ m,W 0 m σ H)/\∀ i m σ H,W i m σ H ->
   ((Qr K a).stop i H/\D.nx σ H)\/((Qr K a).go i H/\∃ N:St->Hp->Prop,(∀ Ay H',N Ay H'->∃ m',m' < m/\W (i + 1) m' Ay H')/\∀ x H',(Qr K a).yld i H x H'->g x σ H' fun AG H2=>tb { D with nx:=N,ct:=N,bk:=D.nx } AG H2):=
 OA Pv h0 hl (fun i x σ H hx hp=>hs i x σ H hx hp D.rt D.nx _ fun _ _ z=>z) hd
theorem Qc {K:Zw} {a:Addr} {xs:List V} {g:TG} {tb:TS} {D:Fi} {σ:St} {H:Hp} (Pv:Nat->St->Hp->Prop) (h0:Pv 0 σ H) (hl:∀ i σ H,i<=xs.length->Pv i σ H->AX K H a xs)
  (hs:∀ i x σ H,xs[i]? = some x->Pv i σ H->∀ (rt:VK) (bk N:St->Hp->Prop),(∀ σ H,Pv (i + 1) σ H->N σ H)->g x σ H fun AG H2=>tb ⟨N,rt,bk,N⟩ AG H2) (hd:∀ σ H,Pv xs.length σ H->D.nx σ H) :
  ∃ W:Nat->Nat->St->Hp->Prop,(∃ m,W 0 m σ H)/\∀ i m σ H,W i m σ H ->
   ((Ss K a).stop i H/\D.nx σ H)\/((Ss K a).go i H/\∃ N:St->Hp->Prop,(∀ Ay H',N Ay H'->∃ m',m' < m/\W (i + 1) m' Ay H')/\∀ x H',(Ss K a).yld i H x H'->g x σ H' fun AG H2=>tb { D with nx:=N,ct:=N,bk:=D.nx } AG H2):=
 RQ Pv h0 hl (fun i x σ H hx hp=>hs i x σ H hx hp D.rt D.nx _ fun _ _ z=>z) hd
end L2
namespace L2
open PySem PySem.Spec PyProof.Rows
section
variable {X:Cx} {pins:List (Addr × Obj)} {σ Ay:St} {H H':Hp} {s2 s':Shared} {scope:Scope} {cl:List (Str × Addr)} {N:List Str} {fp:List Addr} {C D:Addr} {B4 h':Heap} {t':Nat}
end
end L2
namespace L2
open PySem PySem.Spec PySem.W PyProof.Rows
end L2
namespace L2
open PySem PySem.Spec PyProof.Rows
theorem BM (K:Zw) {X:Cx} (h:X.K=K):Bz X (.builtin "len") (fun xs H Q=>∃ p vs,xs=[V.ref p]/\(AX K H p vs\/A4 K H p vs)/\Q (.int vs.length) H):=by subst h; exact AE
theorem Dt (K:Zw) {X:Cx} {tg l:Expr} {tl:TE} (h:X.K=K) (hl:PE X l tl):PI X tg l (Ud K tl):=by subst h; exact Ig hl
theorem Bq (K:Zw) {X:Cx} {tg l:Expr} {tl:TE} (h:X.K=K) (hl:PE X l tl):PI X tg l (iTup K tl):=by subst h; exact Gv hl
def JQ (h:Heap) (v:Value) (ss:List Str):Prop:=∃ a us,v=.ref a/\IsTup h a us.toArray/\A9 (ss.map V.str) us
theorem JU {us vs:List Value} {xs:List Str} (r1:A9 (xs.map V.str) us) (j:Nat) (hj:j < us.length):∃ t x,xs[j]? = some x/\us[j]=.str x t:=by
 have l1:=r1.length;rw [Zv] at l1;have e:(xs.map V.str)[j]? = some (V.str (xs[j]'(by lia))):=by rw [Z0,Zt (by lia)]; rfl
 obtain ⟨u,e1,r⟩:=r1.get e;obtain ⟨t,rfl⟩:=r;rw [Zt hj] at e1;exact ⟨t,_,Zt (by lia),ZJ.inj e1⟩
theorem JT {us:List Value}:∀ {xs ys:List Str},A9 (xs.map V.str) us->A9 (ys.map V.str) us->xs=ys:=by
 induction us with
 | nil=>
  intro xs ys r1 r2;cases xs with
  | nil=>cases ys with | nil=>rfl | cons _ _=>cases r2
  | cons _ _=>cases r1
 | cons u us ih=>
  intro xs ys r1 r2;cases xs with
  | nil=>cases r1
  | cons x xs=>
   cases ys with
   | nil=>cases r2
   | cons y ys=>
    cases r1 with
    | cons a1 b1=>
     cases r2 with
     | cons a2 b2=>
      obtain ⟨t,e⟩:=a1;obtain ⟨t',e'⟩:=a2;rw [e] at e';cases e'
      rw [ih b1 b2]
theorem Th {A:Around} {s:Shared} {v w:Value} {xs ys:List Str} (hv:JQ s.heap v xs) (hw:JQ s.heap w ys) (hu:A.units < cLine):SeqAt.EqAt A s v w (decide (xs=ys)):=by
 obtain ⟨a,us,rfl,ha,r1⟩:=hv;obtain ⟨b,vs,rfl,hb,r2⟩:=hw;by_cases hab:a=b
 ·subst hab;have e:xs=ys:=by
   obtain ⟨o,ho,hc,n,hd⟩:=ha;obtain ⟨o',Im,MK,n',Li⟩:=hb;rw [ho] at Im;cases Im
   rw [hd] at Li;injection Li with e1 e2;have e3:=congrArg bK e1;simp only at e3;subst e3;exact JT r1 r2
  rw [decide_eq_true e];intro prog w E Q h;unfold eqBool;refine wpAny_holding ?_;exact wpAny_ite_split (fun _=>wpAny_bind (wpAny_rule (wpAny_pure h))) (fun hn=>absurd (by simp) hn)
 ·have l1:=r1.length;have l2:=r2.length;rw [Zv] at l1 l2;have key:=SeqAt.RcAt.tuples (A:=A) (s:=s) (e:=fun j=>xs[j]? == ys[j]?) (show s.heap.IsTuple a us.toArray from ha) (show s.heap.IsTuple b vs.toArray from hb) hu (fun j h1 h2=>by
   obtain ⟨t,x,e1,e2⟩:=JU (vs:=us) r1 j (by simpa using h1);obtain ⟨t',y,e3,e4⟩:=JU (vs:=vs) r2 j (by simpa using h2);rw [di,di,e2,e4,e1,e3];have:=SeqAt.EqAt.str_str x t y t' (A:=A.in1) (s:=s);exact this)
  have e:((ZW (min us.toArray.size vs.toArray.size)).all (fun j=>xs[j]? == ys[j]?) && us.toArray.size == vs.toArray.size)=decide (xs=ys):=by
   rw [aE,aj,ZZ,decide_eq_true_iff];simp only [aH,ZA,beq_iff_eq];constructor
   ·rintro ⟨h1,h2⟩;refine cv fun j=>?_
    by_cases hj:j < us.length
    ·exact h1 j (by lia)
    ·rw [av (by lia),av (by lia)]
   ·rintro rfl;exact ⟨fun j _=>rfl,by lia⟩
  rw [e] at key;exact SeqAt.EqAt.of_refs hab key
section
open PySem.SeqAt
open PySem.AutoSeq1 (wpAny_loadPart')
open PySem.MeetsSeq PySem.MeetsSeq2 PySem.MeetsSeq3
end
section
open PySem.SeqAt
open PySem.AutoSeq1 (wpAny_loadPart')
open PySem.MeetsSeq PySem.MeetsSeq2 PySem.MeetsSeq3
end
section
variable {prog:Program} {w:World} {A:Around} {R:Result->Shared->Prop} {I:Addr} {fp wr:List Addr} {n:Nat} {P:Nat->Value->Prop} {St:Nat->Heap->Prop} {g0:Heap}
end
section
variable {prog:Program} {w:World} {A:Around} {E:Value->Shared->Prop} {s:Shared}
end
theorem TB {X:Cx} {pins:List (Addr × Obj)} {σ:St} {H:Hp} {s:Shared} {l:Addr} {ss:List Str} (I:Av X pins σ H s) (h:H l=some (.tup (ss.map V.str))):JQ s.heap (.ref l) ss:=by
 obtain ⟨Ax,rv,pl,hz⟩:=I.tuple (A4.of h);exact ⟨l,Ax,rfl,pl,rv⟩
section
variable {X:Cx} {pins:List (Addr × Obj)} {σ:St} {H:Hp} {s:Shared}
end
theorem Ml (K:Zw) {X:Cx} (h:X.K=K):Ft X (binaryOp .Add) (TR K):=by subst h; exact SJ
inductive DA (H:Hp):List V->List (List Str)->Prop
 | nil:DA H [] []
 | cons {t:Addr} {us:List V} {f:List Str} {fs:List (List Str)}:H t=some (.tup (f.map V.str))->DA H us fs->DA H (.ref t :: us) (f :: fs)
theorem DA.len {H:Hp} {us:List V} {fs:List (List Str)} (h:DA H us fs):us.length=fs.length:=by
 induction h with
 | nil=>rfl
 | cons _ _ ih=>rw [ak,ak,ih]
theorem DA.keep {H H':Hp} {us:List V} {fs:List (List Str)} (h:DA H us fs) (s:∀ b xs,H b=some (.tup xs)->H' b=some (.tup xs)):DA H' us fs:=by
 induction h with
 | nil=>exact .nil
 | cons a _ ih=>exact .cons (s _ _ a) ih
theorem DA.app {H:Hp} {us vs:List V} {fs gs:List (List Str)} (h:DA H us fs) (h':DA H vs gs):DA H (us ++ vs) (fs ++ gs):=by
 induction h with
 | nil=>exact h'
 | cons a _ ih=>exact .cons a ih
theorem DA.get {H:Hp} {us:List V} {fs:List (List Str)} (h:DA H us fs):∀ {i:Nat} {u:V},us[i]? = some u->∃ t f,u=.ref t/\fs[i]? = some f/\H t=some (.tup (f.map V.str)):=by
 induction h with
 | nil=>intro i u e; simp at e
 | cons a _ ih=>
  intro i u e;cases i with
  | zero=>simp at e; subst e; exact ⟨_,_,rfl,rfl,a⟩
  | succ i=>exact ih (by simpa using e)
def Nw:V->Nat->Bool
 | .int i,k=>decide ((k:Int)<=i)
 | _,_=>true
def Si (H:Hp) (c:Addr) (sites:List Str) (x:V) (d:PyData):Prop:=
 ∃ (m t2:V) (t1:Addr) (FN:List V) (Aw:List AV),H c=some (.tup [m,.ref t1,t2,x])/\H t1=some (.tup FN)/\AB H FN (Aw.map Cq)/\Aw.map (·.1)=sites/\sites.Nodup/\sites.length<=10/\Lim x d
theorem Cm.sites {H:Hp} {c m:Addr} {n:Nat} {xs:List Str} {ws:List AH} {Aw Au:List AV} {x:V} {d:PyData} (h:Cm H c m n xs ws Aw Au x d):Si H c (Aw.map (·.1)) x d:=by
 obtain ⟨t1,t2,FN,HY,a,b,e,f,g⟩:=h.ex;exact ⟨_,_,t1,FN,Aw,a,b,e,rfl,h.ok1.nd,by rw [Zv]; exact h.l1,h.lim⟩
def Rc (K:Zw):R2:=fun x y H Q=>∃ a b xs ys,x=.ref a/\y=.ref b/\A4 K H a xs/\A4 K H b ys/\xs.length + ys.length<=sizeLine /\
 (xs=[]->Q (.ref b) H)/\(xs ≠ []->ys=[]->Q (.ref a) H)/\(xs ≠ []->ys ≠ []->∀ p,H p=none->Q (.ref p) (upd H p (.tup (xs ++ ys))))
theorem Bn (K:Zw) {X:Cx} (hK:X.K=K):Ft X (binaryOp .Add) (Rc K):=by
 subst hK;intro pins s σ H x y v u Q I rx ry h;obtain ⟨a,b,xs,ys,rfl,rfl,ha,hb,hz,q0,q1,q2⟩:=h;cases rx
 cases ry
 obtain ⟨Ax,r1,p1,_⟩:=I.tuple ha;obtain ⟨Lf,r2,p2,_⟩:=I.tuple hb;by_cases hx:xs=[]
 ·obtain ⟨⟨cls,dd,data,sl⟩,ho,hc,n,hd⟩:=id p1;obtain ⟨⟨Xi,Sn,data2,TJ⟩,Sl,Sm,n2,hd2⟩:=id p2;simp only at hc hd Sm hd2;subst hc hd Sm hd2;exact concat_meets ⟨_,ho,rfl⟩ ⟨_,Sl,rfl⟩ noFill_tuple_add seq_tuple_add PySem.F.slot_tuple_add PySem.F.entry_tuple_add (PySem.F.args_tuple_add_2 _ _)
   (tuple_addW0 a b Ax.toArray Lf.toArray n n2 dd Sn sl TJ (by simp [r1.nil_iff.mpr hx])) ⟨ho,Sl,⟨.ref b,H,I,rfl,q0 hx⟩⟩
 ·refine HT.cat_tup p1 p2 (fun z=>hx (r1.nil_iff.mp z)) (fun z=>⟨.ref a,H,I,rfl,q1 hx (r2.nil_iff.mp z)⟩) (fun z=>?_) (by rw [<-r1.length,<-r2.length]; exact hz);refine ⟨.ref s.heap.objs.size,_,I.laid (t':=s.toks) (o:=.tup (xs ++ ys)) (fun b ob q=>Zu _ q) (Z4 _) ?_,rfl,q2 hx (fun w=>z (r2.nil_iff.mpr w)) _ (I.hok.fresh (Z4 _))⟩;exact ⟨by rw [Zy]; exact hz,_,r1.append r2,IsTup.new _ _,Lu.new rfl rfl⟩
theorem JO {X:Cx} (hc:X.calm=true):Bz X (.builtin "min") (fun xs H Q=>∃ (a:Addr) (ns:List Int),xs=[.ref a]/\H a=some (.lst (ns.map V.int))/\ns ≠ [] /\
  ∀ m,m ∈ ns->(∀ x ∈ ns,m<=x)->Q (.int m) H):=by
 intro pins s σ H xs us Q I r h;obtain ⟨a,ns,rfl,ha,hne,q⟩:=h;obtain ⟨u,rfl,ru⟩:=Ce r;cases ru
 obtain ⟨Ax,rv,pl,hz⟩:=I.list (AX.of ha);have il:Ax.length=ns.length:=by rw [<-rv.length,Zv]
 have pos:0 < ns.length:=b9.mpr hne;refine Gy (bt:=fun i j=>decide (ns.getD i 0 < ns.getD j 0)) (I.ok.hd hc) pl.isList (by lia) (fun i j vi vj s' Q' E' g hi hj hQ=>?_) fun v h2 tk hv k2=>?_
 ·obtain ⟨x,t,e1,rfl⟩:=Il rv i vi hi;obtain ⟨y,u,e2,rfl⟩:=Il rv j vj hj;dsimp only at hQ;rw [ZG,ZG,e1,e2] at hQ;exact EJ.int _ _ _ _ _ _ _ _ _ _ hQ
 ·obtain ⟨x,t,e1,rfl⟩:=Il rv _ v hv;obtain ⟨b1,b2⟩:=Jx (fun i j=>decide (ns.getD i 0 < ns.getD j 0)) (fun i=>ns.getD i 0) (fun i j h=>by have:=of_decide_eq_true h; lia) (fun i j h=>by have:=of_decide_eq_false h; lia) (Ax.length - 1);refine ⟨.int x,H,I.kept k2,⟨t,rfl⟩,q x (Zx e1) fun y hy=>?_⟩;obtain ⟨j,hj,rfl⟩:=ZM hy;have:=b2 j (by lia);have e2:ns.getD j 0=ns[j]:=by simp [hj]
  have e3:ns.getD (argBest (fun i j=>decide (ns.getD i 0 < ns.getD j 0)) (Ax.length - 1)) 0=x:=by
   rw [ZG,e1]; rfl
  rw [e2,e3] at this;exact this
def DZ (H:Hp) (v:V) (xs:List Str) (ws:List AH) (s:Str):Prop:=∃ (B:Addr) (nb:List (Str × V)),v=.ref B/\H B=some (.dK (sK nb))/\nb.map (·.1)=xs/\∀ y u,(y,u) ∈ nb->∃ n,u=.int n/\Lz ws s y n
theorem DZ.same {H H':Hp} {v:V} {xs:List Str} {ws:List AH} {s:Str} (h:DZ H v xs ws s) (sm:Ao H H'):DZ H' v xs ws s:=let ⟨B,nb,a,b,c⟩:=h; ⟨B,nb,a,sm _ _ b,c⟩
def IA:Sp:=fun vs H Q _=>∃ (c m:Addr) (n:Nat) (xs:List Str) (ws:List AH) (Aw Au:List AV) (x:V) (d:PyData),vs=[.ref c]/\Cm H c m n xs ws Aw Au x d /\
 ∀ (H':Hp) (D:Addr) (nv:List (Str × V)),Ao H H'->H D=none->H' D=some (.dK (sK nv))->nv.map (·.1)=Aw.map (·.1)->(∀ s v,(s,v) ∈ nv->DZ H' v xs ws s)->Q (.ref D) H'
def QO:Sp:=fun vs H Q _=>∃ (c:Addr) (sites:List Str) (x:V) (d:PyData),vs=[.ref c]/\Si H c sites x d /\
 ∀ mo:Int,0<=mo->(∀ k:Nat,k<=sites.length->((k:Int)<=mo ↔ Nw x k=true))->Q (.int mo) H
theorem Pn {J:It} {xs:List V} {S:Hp->Prop} {g:TG} {tk tv:TE} {H:Hp} {σ0:St} {R:Addr->Hp->Prop} (ov:Tv J xs S) (ks:List Str) (hk:ks.length=xs.length) (nd:ks.Nodup) (I:Addr->Nat->St->Hp->List (Str × V)->Prop) (big:xs.length < sizeLine)
  (h0:∀ D,H D=none->I D 0 σ0 (upd H D (.dK (sK []))) [])
  (hs:∀ D i σ H' nv,H D=none->I D i σ H' nv->S H'/\H' D=some (.dK (sK nv))/\nv.map (·.1)=ks.take i)
  (turn:∀ D i σ H' nv x k (B:St->V->V->Hp->Prop),H D=none->xs[i]? = some x->ks[i]? = some k->I D i σ H' nv->(∀ AG v H6,H6 D=some (.dK (sK nv))->I D (i + 1) AG (upd H6 D (.dK (sK (nv ++ [(k,v)])))) (nv ++ [(k,v)])->B AG (.str k) v H6) ->
   g x σ H' fun AG H3=>tk AG H3 fun y H5=>tv AG H5 fun v H6=>B AG y v H6)
  (fin:∀ D σ H' nv,H D=none->I D xs.length σ H' nv->R D H') :
  ∀ D,H D=none->∃ W:Nat->Nat->St->Hp->Prop,(∃ m,W 0 m σ0 (upd H D (.dK []))) /\
   ∀ i m Ay H',W i m Ay H'->(J.stop i H'/\R D H')\/(J.go i H'/\∀ x H2,J.yld i H' x H2->g x Ay H2 fun AG H3=>JC AG H3 fun b H4=>
    if b=true then tk AG H4 (fun y H5=>tv AG H5 fun v H6=>∃ kvs k,y=kV k/\H6 D=some (.dK kvs)/\kvs.length < sizeLine/\∃ m',m' < m/\W (i + 1) m' AG (upd H6 D (.dK (BK kvs k v)))) else ∃ m',m' < m/\W (i + 1) m' AG H4):=by
 intro D hD;exists fun i m σ H'=>m=xs.length - i/\i<=xs.length/\∃ nv,I D i σ H' nv,⟨xs.length,rfl,ZQ _,[],h0 D hD⟩
 rintro i m σ H' ⟨rfl,hi,nv,p⟩;obtain ⟨s1,s2,s3⟩:=hs D i σ H' nv hD p;by_cases BL:i < xs.length
 ·refine .inr ⟨ov.go i H' s1 BL,fun x H2 y=>?_⟩;obtain ⟨rfl,ex⟩:=ov.yld i H' x H2 s1 y;have hki:i < ks.length:=by lia
  have ek:ks[i]? = some ks[i]:=Zt hki;have nin:ks[i] ∉ nv.map (·.1):=by
   rw [s3];intro Vx;obtain ⟨j,hj,e⟩:=ZM Vx;rw [ZE] at hj;rw [bG] at e;have:=Hw nd (Zt (show j < ks.length by lia)) (by rw [ek,e]);lia
  have nl:nv.length=i:=by
   have:=congrArg aP s3;rw [Zv,ZE] at this;lia
  have e:∀ (F:St->V->V->Hp->Prop) (G:St->Hp->Prop),(fun (AG:St) (H3:Hp)=>JC AG H3 fun b H4=>if b=true then tk AG H4 (fun y H5=>tv AG H5 fun v H6=>F AG y v H6) else G AG H4)=fun AG H3=>tk AG H3 (fun y H5=>tv AG H5 fun v H6=>F AG y v H6):=by
   intro F G;funext AG H3;show (if true=true then tk AG H3 (fun y H5=>tv AG H5 fun v H6=>F AG y v H6) else G AG H3)=_
   rw [if_pos rfl]
  rw [e (fun AG y v H6=>∃ kvs k,y=kV k/\H6 D=some (.dK kvs)/\kvs.length < sizeLine/\∃ m',m' < xs.length - i/\(m'=xs.length - (i + 1)/\i + 1<=xs.length/\∃ Ej,I D (i + 1) AG (upd H6 D (.dK (BK kvs k v))) Ej)) (fun AG H4=>∃ m',m' < xs.length - i/\(m'=xs.length - (i + 1)/\i + 1<=xs.length/\∃ Ej,I D (i + 1) AG H4 Ej))];refine turn D i σ H2 nv x ks[i] _ hD ex ek p fun AG v H6 d6 p6=>?_
  exact ⟨_,Sum.inr ks[i],rfl,d6,by rw [CJ]; lia,xs.length - (i + 1),by lia,rfl,BL,nv ++ [(ks[i],v)],by rw [DR nin]; exact p6⟩
 ·have e:i=xs.length:=by lia
  subst e;exact .inl ⟨ov.stop H' s1,fin D σ H' nv hD p⟩
theorem L7 {α β:Type} {b:β}:∀ {as:List α} {bs:List β} {a:α},as[bs.length]? = some a->as.zip (bs ++ [b])=as.zip bs ++ [(a,b)]
 | [],bs,a,h=>by simp at h
 | x :: as,[],a,h=>by simp at h; subst h; simp
 | x :: as,y :: bs,a,h=>by
  have:=L7 (as:=as) (bs:=bs) (b:=b) (a:=a) (by simpa using h);simp [this]
theorem LX {n:Nat} {g:TG} {te:TE} {H:Hp} {σ0:St} {R:Addr->Hp->Prop} (I:Addr->Nat->St->Hp->List V->Prop) (big:n < sizeLine)
  (h0:∀ D,H D=none->I D 0 σ0 (upd H D (.lst [])) [])
  (hs:∀ D i σ H' acc,H D=none->I D i σ H' acc->H' D=some (.lst acc)/\acc.length=i)
  (turn:∀ D i σ H' acc (B:St->V->Hp->Prop),H D=none->i < n->I D i σ H' acc->(∀ AG v H5,H5 D=some (.lst acc)->I D (i + 1) AG (upd H5 D (.lst (acc ++ [v]))) (acc ++ [v])->B AG v H5)->g (.int (0 + (i:Int))) σ H' fun AG H3=>te AG H3 (B AG))
  (fin:∀ D σ H' acc,H D=none->I D n σ H' acc->R D H') :
  ∀ D,H D=none->∃ W:Nat->Nat->St->Hp->Prop,(∃ m,W 0 m σ0 (upd H D (.lst []))) /\
   ∀ i m Ay H',W i m Ay H'->((Sr 0 n).stop i H'/\R D H')\/((Sr 0 n).go i H'/\∀ x H2,(Sr 0 n).yld i H' x H2->g x Ay H2 fun AG H3=>JC AG H3 fun b H4=>
    if b=true then te AG H4 (fun v H5=>∃ acc,H5 D=some (.lst acc)/\acc.length < sizeLine/\∃ m',m' < m/\W (i + 1) m' AG (upd H5 D (.lst (acc ++ [v])))) else ∃ m',m' < m/\W (i + 1) m' AG H4):=by
 intro D hD;exists fun i m σ H'=>m=n - i/\i<=n/\∃ acc,I D i σ H' acc,⟨n,rfl,ZQ _,[],h0 D hD⟩
 rintro i m σ H' ⟨rfl,hi,acc,p⟩;obtain ⟨s2,s3⟩:=hs D i σ H' acc hD p;by_cases BL:i < n
 ·refine .inr ⟨BL,fun x H2 ⟨e1,e2⟩=>?_⟩;subst e1 e2;have e:∀ (F:St->V->Hp->Prop) (G:St->Hp->Prop),(fun (AG:St) (H3:Hp)=>JC AG H3 fun b H4=>if b=true then te AG H4 (F AG) else G AG H4)=fun AG H3=>te AG H3 (F AG):=by
   intro F G;funext AG H3;show (if true=true then te AG H3 (F AG) else G AG H3)=_
   rw [if_pos rfl]
  rw [e (fun AG v H5=>∃ acc,H5 D=some (.lst acc)/\acc.length < sizeLine/\∃ m',m' < n - i/\(m'=n - (i + 1)/\i + 1<=n/\∃ GH,I D (i + 1) AG (upd H5 D (.lst (acc ++ [v]))) GH)) (fun AG H4=>∃ m',m' < n - i/\(m'=n - (i + 1)/\i + 1<=n/\∃ GH,I D (i + 1) AG H4 GH))];refine turn D i σ H2 acc _ hD BL p fun AG v H5 d5 p5=>?_
  exact ⟨acc,d5,by lia,n - (i + 1),by lia,rfl,BL,_,p5⟩
 ·have e:i=n:=by lia
  subst e;exact .inl ⟨Z4 _,fin D σ H' acc hD p⟩
theorem Kc {z:Str} (l u:Option Int) (h:Tx z):Tx (Txt.slice z l u):=by
 unfold Txt.slice;split
 ·exact h
 ·intro c hc;have MK:c ∈ (Builtin.Str.strSliceIndices l u 1 z.length).filterMap (z.cps[·]?):=by simpa using hc
  obtain ⟨i,_,e⟩:=cj.mp MK;exact h c (by rw [cV]; exact cR e)
theorem QR {z:Str} {a:Int} (h0:0<=a) (h1:a<=z.length):(Txt.slice z none (some a)).length<=a.toNat:=by
 have e:(Builtin.Str.strSliceIndices none (some a) 1 z.length).length=a.toNat:=by
  unfold Builtin.Str.strSliceIndices sliceRange;simp only [show (1:Int) > 0 by decide,if_true,Zv,af];(split <;> (try split) <;> (try split) <;> (try simp only [cy]) <;> lia)
 unfold Txt.slice;split
 ·rename_i q
  rw [e] at q;have:a.toNat=z.length:=by simpa using q
  lia
 ·show (e7 _ (Builtin.Str.strSliceIndices none (some a) 1 z.length)).toArray.size<=_
  rw [ZA,<-e];exact cO _ _
theorem Na {z:Str} {a:Int} (h0:0<=a) (h1:a<=z.length):(Txt.slice z (some a) none).length<=z.length - a.toNat:=by
 have e:(Builtin.Str.strSliceIndices (some a) none 1 z.length).length=z.length - a.toNat:=by
  unfold Builtin.Str.strSliceIndices sliceRange;simp only [show (1:Int) > 0 by decide,if_true,Zv,af];(split <;> (try split) <;> (try split) <;> (try simp only [cy]) <;> lia)
 unfold Txt.slice;split
 ·rename_i q
  rw [e] at q;have:z.length - a.toNat=z.length:=by simpa using q
  lia
 ·show (e7 _ (Builtin.Str.strSliceIndices (some a) none 1 z.length)).toArray.size<=_
  rw [ZA,<-e];exact cO _ _
theorem Mj {X:Cx}:Ft X (binaryOp .FloorDiv) (rI (fun _ j=>0 < j/\j < 2 ^ 600) fun i j=>.int (i / j)):=opI fun i j _ _ _ _ _ hc q=>by
 have h1:(0:Int) < j:=hc.1;have h2:j < 2 ^ 600:=hc.2;refine floordiv_int (by lia) (by rw [Int.fdiv_eq_ediv_of_nonneg i (by lia)]; exact q) (.inl (PyProof.noPylong_of_log2 ?_));have hn:j.natAbs < 2 ^ 600:=by lia
 have:j.natAbs.log2 < 600:=(eP (by lia)).mpr hn;lia
theorem Rr {X:Cx}:Ft X (binaryOp .Mult) (fun x y H Q=>∃ z n,x=.str z/\y=.int n/\(n=0\/n=1)/\Q (.str (if n=1 then z else Str.empty)) H):=by
 intro pins s σ H x y v u Q I rx ry h;obtain ⟨z,n,rfl,rfl,hn,q⟩:=h;obtain ⟨t,rfl⟩:=rx;obtain ⟨t',rfl⟩:=ry;rcases hn with rfl | rfl
 ·exact PySem.P.mul_str_none (by decide) (by decide) ⟨.str Str.empty,H,I.tok _,⟨_,rfl⟩,q⟩
 ·refine PySem.P.mul_str (by decide) (fun _ z=>by simp at z) (fun _ z=>by simp at z) ?_;rw [if_neg (by decide),if_pos (by simp)];exact ⟨.str z,H,I,⟨_,rfl⟩,q⟩
theorem B9 (K:Zw) {X:Cx} (h:X.K=K):SlR X (S9 K):=by subst h; exact QS
theorem F5 {X:Cx} (hu:X.A.units + 64 < cLine):Ft X (compareOp .NotIn) (fun x y H Q=>∃ (t p:Addr) (ss:List Str) (us:List V) (fs:List (List Str)),x=.ref t/\y=.ref p/\H t=some (.tup (ss.map V.str))/\H p=some (.lst us)/\DA H us fs/\Q (.bl (!(decide (ss ∈ fs)))) H):=by
 intro pins s σ H x y v u Q I rx ry h;obtain ⟨t,p,ss,us,fs,rfl,rfl,ht,hp,tU,q⟩:=h;cases rx
 cases ry
 obtain ⟨Ax,r,pl,hz⟩:=I.list (AX.of hp);have tx:=TB I ht;have ats:∀ {us:List V} {Ax:List Value} {fs:List (List Str)},A9 us Ax->DA H us fs->(∀ w ∈ Ax,∃ f,f ∈ fs/\JQ s.heap w f)/\∀ f ∈ fs,∃ w ∈ Ax,JQ s.heap w f:=by
  intro us;induction us with
  | nil=>intro Ax fs r tU; cases r; cases tU; exact ⟨(fun w hw=>nomatch hw),fun f hf=>nomatch hf⟩
  | cons v us ih=>
   intro Ax fs r tU;cases r with
   | cons r1 r2=>
    cases tU with
    | cons a b=>
     cases r1
     obtain ⟨i1,i2⟩:=ih r2 b;have t1:=TB I a;refine ⟨fun w hw=>?_,fun f hf=>?_⟩
     ·rcases Zz.mp hw with rfl | hw
      ·exact ⟨_,ZP,t1⟩
      ·obtain ⟨f,h1,h2⟩:=i1 w hw;exact ⟨f,ZK _ h1,h2⟩
     ·rcases Zz.mp hf with rfl | hf
      ·exact ⟨_,ZP,t1⟩
      ·obtain ⟨w,h1,h2⟩:=i2 f hf;exact ⟨w,ZK _ h1,h2⟩
 have one:∀ {w:Value} {f g:List Str},JQ s.heap w f->JQ s.heap w g->f=g:=fun {w f g} h1 h2=>by
  obtain ⟨a,FN,e1,⟨o,ho,hc,n,hd⟩,r1⟩:=h1;obtain ⟨b,HY,e2,⟨o',Im,MK,n',Li⟩,r2⟩:=h2;rw [e1] at e2;cases e2
  rw [ho] at Im;cases Im
  rw [hd] at Li;injection Li with e3 e4;have e5:=congrArg bK e3;simp only at e5;subst e5;exact JT r1 r2
 classical
 obtain ⟨a1,a2⟩:=ats r tU;refine SeqAt.notIn_listAt (fun w=>decide (JQ s.heap w ss)) pl.isList (fun w hw=>?_) ⟨.bl _,H,I,rfl,?_⟩
 ·obtain ⟨f,hf,tf⟩:=a1 w (by simpa using hw);have:=Th (A:=X.A.in1) (s:=s) tf tx (by rw [PySem.Around.in1_units]; lia);have e:decide (f=ss)=decide (JQ s.heap w ss):=by
   rw [aE];simp only [decide_eq_true_eq];exact ⟨fun e=>e ▸ tf,fun h=>one tf h⟩
  rw [<-e];exact this
 ·have e:Ax.toArray.any (fun w=>decide (JQ s.heap w ss))=decide (ss ∈ fs):=by
   rw [aE];simp only [List.any_toArray,bp,decide_eq_true_eq];constructor
   ·rintro ⟨w,hw,h⟩;obtain ⟨f,hf,tf⟩:=a1 w hw;rw [one h tf];exact hf
   ·exact fun h=>a2 ss h
  rw [e];exact q
section
variable {prog:Program} {w:World} {A:Around} {E:Value->Shared->Prop} {s:Shared}
theorem ND {l:Addr} {vs:List Value} {Q:List Value->Shared->Prop} (hl:s.heap.IsTuple l vs.toArray) (few:vs.toArray.size<=sizeLine)
  (h:∀ h1:Heap,s.heap.objs.size<=h1.objs.size->(∀ b o,s.heap.get? b=some o->h1.get? b=some o)->Q vs { s with heap:=h1 }):wpAny (model prog w) A (collect (.ref l)) Q E s:=by
 obtain ⟨o,ho,hc,n,hd⟩:=hl;obtain ⟨g,eg⟩:∃ g,g=(s.heap.push { cls:=.type "list",data:=.seq ([]:List Value).toArray }).update s.heap.objs.size (Obj.mapSeq (· ++ vs.toArray)):=⟨_,rfl⟩
 have gS:=ah (Obj.mapSeq (· ++ vs.toArray)) (Z5 s.heap (o:={ cls:=.type "list",data:=.seq ([]:List Value).toArray }) rfl) rfl;rw [<-eg] at gS;have last:=h g (by rw [eg,dU,ae]; exact ZX _) fun b o' hb=>by
  rw [eg];exact (aa _ _ (aA (Z1 hb))).trans (Zu _ hb)
 unfold collect;refine wpAny_bind (wpAny_runValue (codeAny_builtin PySem.F.entry_proto_collect ?_));rw [Around.under_plainId PySem.F.plain_proto_collect _];refine wpAny_bind (wpAny_newObj_type (wpAny_pure ⟨plainId_quiet PySem.F.plain_list_iadd _,codeAny_builtin PySem.F.entry_list_iadd ?_⟩));rw [Around.under_plainId PySem.F.plain_list_iadd _];have fin:∀ s':Shared,s' = { s with heap:=g }->wpAny (model prog w) A (match Value.ref s.heap.objs.size with
   | Value.ref a=>do
    match (<- load a).data with
     | Data.seq xs _=>pure xs.toList
     | _=>unsupported "internal:collect"
   | _=>unsupported "internal:collect") Q E s':=by
  rintro s' rfl;refine wpAny_bind (wpAny_load gS (wpAny_pure ?_));simpa using last
 refine wpAny_mono (wpAny_extend_seq (hsz:=few) (A:=A) (R:=fun r s'=>r=.ok (.ret (.ref s.heap.objs.size))/\s' = { s with heap:=g }) (s:={ s with heap:=s.heap.push { cls:=.type "list",data:=.seq ([]:List Value).toArray } }) _ l _ 0 (.inr rfl) (Z5 _ rfl) (Zu _ ho) hc hd ⟨rfl,by rw [eg]⟩) (fun r s' q=>?_) (fun e s' q=>absurd q.1 (by simp));cases r with
 | done f=>
  obtain ⟨e,q⟩:=q;cases e
  exact fin s' q
 | again c=>exact ⟨q.1,codeAny_mono q.2 fun r UN z=>by obtain ⟨rfl,z⟩:=z; exact fin UN z⟩
theorem LQ {l:Addr} {vs:List Value} {ss:List Str} {Q:Value->Shared->Prop} (hl:s.heap.IsTuple l vs.toArray) (hS:StrsAre vs ss) (Lm:vs.length < 64)
  (h:∀ (h':Heap) (a:Addr) (out:Array Value) (Ea:List Str) (e:Nat),s.heap.objs.size<=a->(∀ b o,s.heap.get? b=some o->h'.get? b=some o)->h'.get? a=some (seqObj "list" out e)->StrsAre out.toList Ea->Ea.Perm ss->sortedS Ea=true->Q (.ref a) { s with heap:=h' }) :
  wpAny (model prog w) A (call (.builtin "sorted") [.ref l]) Q E s:=by
 have few:vs.toArray.size<=sizeLine:=by rw [ZA,sizeLine_eq]; lia
 refine Calls.call_function_entry kind_sorted plain_sorted entry_sorted (args_sorted1 _) ?_;unfold Builtin.«sorted»;refine wpAny_bind (m:=checkCount "sorted" 1 1 _) (wpAny_pure (wpAny_bind (ND hl few fun h1 sz k1=>?_)));refine wpAny_bind (wpAny_newList ?_ (by simpa using few));have lies:(h1.push (seqObj "list" vs.toArray 0)).get? h1.objs.size=some (seqObj "list" vs.toArray 0):=Z5 _ rfl;refine wpAny_bind (wpAny_holding (wpAny_call_entry slot_list_sort ⟨_,lies,rfl⟩ entry_list_sort (list_sort_treeK (s:={ s with heap:=h1.push (seqObj "list" vs.toArray 0) }) strKind_oneLt lies hS.keysOf (fun Yl Yk rest e=>keyKind_strs (by rw [<-e]; exact hS)) Lm fun Bh hp hs=>⟨_,rfl,wpAny_pure ⟨_,rfl,?_⟩⟩) (args_list_sort _)));obtain ⟨Ea,q1,q2,q3⟩:=sorted_out_str hS hp hs;obtain ⟨e,he⟩:=sortedHeap_at (out:=(arrOf Bh).map (·.2)) lies;refine h _ h1.objs.size _ Ea e sz (fun b o z=>?_) he q1 q2 q3;have hb:=k1 b o z;rw [sortedHeap_old (Z8 (Z1 hb)) (by rw [ae]; exact ZY (Z1 hb))];exact Zu _ hb
end
theorem HV {X:Cx}:Bz X (.builtin "sorted") (fun xs H Q=>∃ (t:Addr) (x y:Str),xs=[.ref t]/\H t=some (.tup [.str x,.str y])/\∀ l,H l=none->Q (.ref l) (upd H l (.lst [.str (Cc x y),.str (Cd x y)]))):=by
 intro pins s σ H xs us Q I r h;obtain ⟨t,x,y,rfl,ht,q⟩:=h;obtain ⟨u,rfl,ru⟩:=Ce r;cases ru
 obtain ⟨Ax,rv,pl,hz⟩:=I.tuple (A4.of (show H t=some (.tup ([x,y].map V.str)) from ht));have hl:Ax.length=2:=by rw [<-rv.length]; rfl
 refine LQ pl (Oa rv) (by lia) fun h' a out Ea e ha kp he h1 h2 h3=>?_
 have e2:Ea=[Cc x y,Cd x y]:=by
  obtain ⟨x',y',rfl⟩:∃ x' y',Ea=[x',y']:=by
   have:=h2.length_eq;match Ea,this with
   | [a,b],_=>exact ⟨a,b,rfl⟩
  obtain ⟨e1,e2⟩:=MU h2 h3;rw [e1,e2]
 subst e2;refine ⟨.ref a,_,I.laid (o:=.lst [.str (Cc x y),.str (Cd x y)]) (t':=s.toks) kp ha ⟨by show 2<=sizeLine; decide,out.toList,e,Ij h1,by simpa using he⟩,rfl,q a (I.hok.fresh ha)⟩
def QL (K:Zw):Sp:=fun vs H Q _=>∃ (a:Addr) (ns:List Int) (k:Int),vs=[.ref a,.int k]/\Tt K H a (ns.map V.int)/\0<=k/\∀ (p:Addr) (x y z:Int),H p=none->Q (.ref p) (upd H p (.lst (A2 x y z)))
def CQ:Sp:=fun vs H Q _=>∃ (p:Addr) (m:Int),vs=[.ref p,.int m]/\A5 H p/\0 < m/\m < 2 ^ 600/\∀ (d a b c:Int),0<=d->d < m->Q (.int d) (upd H p (.lst (A2 a b c)))
def K6:Sp:=fun vs H Q _=>∃ (p e:Addr) (xs:List Str) (most:Int),vs=[.ref p,.ref e,.int most]/\A5 H p/\H e=some (.lst (xs.map V.str))/\e ≠ p/\1<=xs.length/\xs.length<=30/\1<=most/\most<=30 /\
 ∀ (H':Hp) (D:Addr) (ys zs:List Str),A5 H' p->AA p H H'->H D=none->H' D=some (.lst (ys.map V.str))->(ys ++ zs).Perm xs->1<=ys.length->(ys.length:Int)<=most->Q (.ref D) H'
theorem Ve (K:Zw) {X:Cx} (hK:X.K=K) {o e:Expr} {es:List Expr} {to:TE} {t:TA} {name:Str} {apos DU:Pos} {T id:String} {r:V->List V->Hp->VK->Prop} (pa:PlainAttrs T) (slot:Slot T name id) (hty:typeOf (.builtin id)=pure (.type "method_descriptor")) (hm:MtR X id r) (ho:PE X o to) (ha:PA X (e :: es) t)
  (hbase:attributeBase o name X.env (eval o X.env)=eval o X.env:=by rfl)
  (hfew:((backTo DU (starEach (e :: es) X.env)).all (fun x=>!x.1) && (backToKw DU (keywordEach [] X.env)).all (fun x=>x.1.isSome)
   && decide ((e :: es).length + ([]:List Keyword).length + (if ([]:List Keyword).isEmpty then 0 else 1) < 30))=true:=by rfl)
  (hline:(apos.endLine == DU.line)=true:=by rfl) (hs:starEach (e :: es) X.env=(false,eval e X.env) :: starEach es X.env:=by rfl) (hplain:(backTo DU (starEach es X.env)).any (·.1)=false:=by rfl) :
  PE X (.Call (.Attribute o name apos) (e :: es) [] DU) (tBM K T r to t):=by subst hK; exact IP pa slot hty hm ho ha hbase hfew hline hs hplain
theorem D6.lens {xs:List Str} {ws GQ:List AH} (h:D6 xs ws) (hl:GQ.length=ws.length) (he:∀ (i:Nat) u u',ws[i]? = some u->GQ[i]? = some u'->u'.1=u.1/\u'.2.1=u.2.1/\1<=u'.2.2):D6 xs GQ:=by
 have at':∀ u' ∈ GQ,∃ (i:Nat) (u:AH),ws[i]? = some u/\GQ[i]? = some u'/\u'.1=u.1/\u'.2.1=u.2.1/\1<=u'.2.2:=fun u' hu=>by
  obtain ⟨i,hi⟩:=dj hu;have EL:=(Z2.mp hi).1;have e:ws[i]? = some (ws[i]'(by lia)):=Zt _;exact ⟨i,_,e,hi,he i _ _ e hi⟩
 refine ⟨fun u' hu=>?_,?_,fun j h1 h2=>?_⟩
 ·obtain ⟨i,u,e1,e2,a,b,c⟩:=at' u' hu;obtain ⟨z1,z2,z3,_⟩:=h.1 u (Zx e1);rw [a,b];exact ⟨z1,z2,z3,c⟩
 ·refine aG.mpr fun i j hi hj hij al=>?_
  have e1:ws[i]? = some (ws[i]'(by lia)):=Zt _;have e2:ws[j]? = some (ws[j]'(by lia)):=Zt _;obtain ⟨a1,b1,_⟩:=he i _ _ e1 (Zt hi);obtain ⟨a2,b2,_⟩:=he j _ _ e2 (Zt hj);refine aG.mp h.2.1 i j (by lia) (by lia) hij ?_;unfold J2 at al ⊢;rw [a1,b1,a2,b2] at al;exact al
 ·obtain ⟨u,hu,i,hij,e1,e2⟩:=h.2.2 j h1 h2;obtain ⟨q,hq⟩:=dj hu;have hq':=(Z2.mp hq).1;have e:GQ[q]? = some (GQ[q]'(by lia)):=Zt _;obtain ⟨a,b,_⟩:=he q _ _ hq e;exact ⟨_,Zx e,i,hij,by rw [a]; exact e1,by rw [b]; exact e2⟩
theorem PH (a b:Str):Cc a b=Cc b a:=by
 unfold Cc;split
 ·rename_i h
  rw [if_neg (fun z=>bJ h z)]
 ·rename_i h
  split
  ·rfl
  ·rename_i h'
   exact Dq h h'
theorem PK (a b:Str):Cd a b=Cd b a:=by
 unfold Cd;split
 ·rename_i h
  rw [if_neg (fun z=>bJ h z)]
 ·rename_i h
  split
  ·rfl
  ·rename_i h'
   exact (Dq h h').symm
def Mh (q:Str × Str):AH:=(q.2,q.1,1)
def Eg (q:Str × Str):List Str:=[q.1,q.2]
def Ob:Sp:=fun vs H Q _=>∃ (p e:Addr) (xs:List Str) (kd:Int),vs=[.ref p,.ref e,.int kd]/\A5 H p/\H e=some (.lst (xs.map V.str))/\e ≠ p/\xs.Nodup/\(∀ x ∈ xs,AL x=true)/\1<=xs.length/\xs.length<=26 /\
 ∀ (H':Hp) (T:Addr) (us:List V) (ws Gm:List AH),A5 H' p->AA p H H'->H' T=some (.tup us)->AB H' us (ws.map EM)->ws.Perm (Gm.map E5)->D6 xs Gm->(∀ u ∈ Gm,u.2.2<=9)->Gm.length<=30->Q (.ref T) H'
theorem D3 (K:Zw) {X:Cx} (h:X.K=K):Bz X (.type "tuple") (fun xs H Q=>∃ p ys,xs=[.ref p]/\((AX K H p ys/\∀ l,H l=none->Q (.ref l) (upd H l (.tup ys)))\/(A4 K H p ys/\Q (.ref p) H))):=by subst h; exact B7
end L2
namespace L2
open PySem PySem.Spec PySem.W PyProof.Rows
end L2
namespace L2
open PySem PySem.Spec PyProof.Rows
def DY (l:List Str):Prop:=l.Pairwise fun a b=>a.cps.toList < b.cps.toList
theorem DY.nodup {l:List Str} (h:DY l):l.Nodup:=List.Pairwise.imp (fun {a b} z e=>by subst e; exact G2 _ z) h
theorem DY.pw {l:List Str} (h:DY l):l.Pairwise fun a b=>¬ b.cps.toList < a.cps.toList:=List.Pairwise.imp (fun {a b} z=>bJ z) h
theorem Kh {l:List Str} (h:l.Pairwise fun a b=>¬ b.cps.toList < a.cps.toList) (nd:l.Nodup):DY l:=by
 induction l with
 | nil=>exact .nil
 | cons x l ih=>
  rw [aX] at h;rw [aq] at nd;refine aX.mpr ⟨fun y hy=>?_,ih h.2 nd.2⟩;by_cases z:x.cps.toList < y.cps.toList
  ·exact z
  ·exact absurd (Dq (h.1 y hy) z) (fun e=>nd.1 (e ▸ hy))
theorem E2 {ss Ea:List Str} (nd:Ea.Nodup) (mem:∀ k,k ∈ Ea ↔ k ∈ ss) (srt:sortedS Ea=true):Ea=ss ↔ DY ss:=
 ⟨fun e=>e ▸ Kh (Fm srt) nd,fun h=>Kb (Fm srt) h.pw (Me nd h.nodup mem)⟩
def tyD:PyData->String
 | .none=>"NoneType"
 | .bool _=>"bool"
 | .int _=>"int"
 | .str _=>"str"
 | .list _=>"list"
 | .tuple _=>"tuple"
 | .dict _=>"dict"
theorem Fj.ty {K:Zw} {H:Hp} {v:V} {d:PyData} (h:Fj H v d):DV K H v (.type (tyD d)):=by
 cases h with
 | non=>exact .non
 | bl b=>exact .bl b
 | int i=>exact .int i
 | str x=>exact .str x
 | tup e _=>exact .tup e
 | lst e _=>exact .lst e
theorem Fj.notStr {K:Zw} {H:Hp} {v:V} {d:PyData} (h:Fj H v d) (n:∀ s,d ≠ .str s):Fg K H v:=by
 exists _,h.ty;cases d with
 | str s=>exact absurd rfl (n s)
 | _=>rfl
theorem DV.same {K:Zw} {H H':Hp} {x:V} {t:Value} (h:DV K H x t) (s:Ao H H'):DV K H' x t:=by
 cases h with
 | non=>exact .non
 | bl x=>exact .bl x
 | int i=>exact .int i
 | str x=>exact .str x
 | flt x=>exact .flt x
 | lst e=>exact .lst (s _ _ e)
 | frz e=>exact .frz (s _ _ e)
 | tup e=>exact .tup (s _ _ e)
 | dK e=>exact .dK (s _ _ e)
 | dT e=>exact .dT (s _ _ e)
 | ins e c h1 h2 h3 h4=>exact .ins (s _ _ e) c h1 h2 h3 h4
def DP (K:Zw) (H:Hp) (v:V):Prop:=∃ ty,DV K H v ty/\b8 K ty (.type "tuple")=some false
theorem Fj.noTup {K:Zw} {H:Hp} {v:V} {d:PyData} (h:Fj H v d) (n:∀ s,d ≠ .tuple s):DP K H v:=by
 exists _,h.ty;cases d with
 | tuple s=>exact absurd rfl (n s)
 | _=>rfl
theorem F9 {K:Zw} {H:Hp} {a:Addr} {kvs:List (Bg × V)} (h:H a=some (.dK kvs)):DP K H (.ref a):=⟨_,.dK h,rfl⟩
theorem M6:∀ (ss:List Str) (ds:List PyData),PyData.eqvAll (ss.map PyData.str) ds=true ↔ ds=ss.map PyData.str
 | [],[]=>by simp [PyData.eqvAll]
 | [],d :: ds=>by simp [PyData.eqvAll]
 | x :: ss,[]=>by simp [PyData.eqvAll]
 | x :: ss,d :: ds=>by
  rw [ZI,PyData.eqvAll,aj,M6 ss ds];constructor
  ·rintro ⟨h,rfl⟩;cases d with
   | str y=>
    rw [PyData.eqv] at h;rw [eq_of_beq h]
   | _=>rw [PyData.eqv] at h; cases h
  ·intro e;injection e with e1 e2;subst e1;refine ⟨?_,e2⟩;rw [PyData.eqv];simp
theorem M7 (ss:List Str) (ds:List PyData):PyData.eqv (.list (ss.map PyData.str)) (.list ds)=true ↔ ds=ss.map PyData.str:=by
 rw [PyData.eqv]; exact M6 ss ds
theorem AB.len {H:Hp}:∀ {xs:List V} {ds:List PyData},AB H xs ds->xs.length=ds.length
 | _,_,.nil=>rfl
 | _,_,.cons _ r=>congrArg (· + 1) r.len
theorem AB.at {H:Hp}:∀ {xs:List V} {ds:List PyData},AB H xs ds->∀ {i:Nat} {v:V},xs[i]? = some v->∃ d,ds[i]? = some d/\Fj H v d
 | _,_,.nil,i,v,e=>by simp at e
 | _,_,.cons h r,0,v,e=>by
  simp only [ao,ZJ.injEq] at e;subst e;exact ⟨_,rfl,h⟩
 | _,_,.cons h r,i + 1,v,e=>by
  simp only [ba] at e;obtain ⟨d,e1,e2⟩:=r.at e;exact ⟨d,by simpa using e1,e2⟩
theorem AB.txt {H:Hp}:∀ {xs:List V} {ss:List Str},AB H xs (ss.map PyData.str)->xs=ss.map V.str
 | xs,[],h=>by cases h; rfl
 | xs,x :: ss,h=>by
  cases h with
  | cons h1 h2=>
   cases h1
   rw [h2.txt];rfl
def Hx:PyData->Bool
 | .str s=>AL s
 | _=>false
theorem Gx:∀ {ds:List PyData},(ds.map Hx).all id=true->∃ ss:List Str,ds=ss.map PyData.str/\∀ s ∈ ss,AL s=true
 | [],_=>⟨[],rfl,fun s hs=>nomatch hs⟩
 | d :: ds,h=>by
  rw [ZI,bZ,aj] at h;obtain ⟨ss,rfl,hn⟩:=Gx h.2;cases d with
  | str x=>exact ⟨x :: ss,rfl,fun s hs=>(Zz.mp hs).elim (fun e=>e ▸ h.1) (hn s)⟩
  | _=>exact absurd (show false=true from h.1) (by decide)
theorem K0 {ss:List Str} (h:∀ s ∈ ss,AL s=true):((ss.map PyData.str).map Hx).all id=true:=by
 rw [ax,aF,ZZ];exact fun s hs=>h s hs
theorem Es {ss Ea:List Str} (h:ss.map PyData.str=Ea.map PyData.str):ss=Ea:=by
 induction ss generalizing Ea with
 | nil=>cases Ea with
  | nil=>rfl
  | cons _ _=>cases h
 | cons x ss ih=>cases Ea with
  | nil=>cases h
  | cons y Ea=>
   injection h with h1 h2;injection h1 with h1;rw [h1,ih h2]
def LL (K:Zw):Sp:=fun vs H Q _=>∃ (t:Addr) (xs:List V) (ds:List PyData),vs=[.ref t]/\(H t=some (.lst xs)\/H t=some (.tup xs))/\AB H xs ds/\(∀ s,PyData.str s ∈ ds->s.length<=1000)/\xs.length<=60 /\
 ∀ (b:Bool) (H':Hp),Ao H H'->(b=true ↔ ∃ ss:List Str,ds=ss.map PyData.str/\(∀ s ∈ ss,AL s=true)/\DY ss)->Q (.bl b) H'
def Fe (H:Hp) (v:V) (ds:List PyData):Prop:=∃ (t:Addr) (xs:List V),v=.ref t/\H t=some (.tup xs)/\AB H xs ds/\(∀ s,PyData.str s ∈ ds->s.length<=1000)/\xs.length<=60
end L2
namespace HT
open PySem PySem.Spec PyProof.Rows
section
variable {prog:Program} {w:World} {A:Around} {E:Value->Shared->Prop} {s:Shared}
end
end HT
namespace L2
open PySem PySem.Spec PyProof.Rows
def QE (Φ:St->Hp->Prop) (Ψ:Hp->V->Prop):TE:=fun σ H Q=>Φ σ H/\∀ v H',Ao H H'->Ψ H' v->Q v H'
def K5 (Φ:St->Hp->Prop) (Ψ:Hp->V->Prop) (n:Nat):TA:=fun σ H Q=>Φ σ H/\∀ vs H',Ao H H'->(∀ v ∈ vs,Ψ H' v)->vs.length=n->Q vs H'
def Sf (Φ:St->Hp->Prop):Prop:=∀ σ H H',Φ σ H->Ao H H'->Φ σ H'
def Jz (Ψ:Hp->V->Prop):Prop:=∀ v H H',Ψ H v->Ao H H'->Ψ H' v
theorem PE.weak {X:Cx} {e:Expr} {t t':TE} (h:PE X e t) (w:∀ σ H Q,t' σ H Q->t σ H Q):PE X e t':=fun pins s σ H Q I q=>h (pins:=pins) s σ H Q I (w σ H Q q)
theorem Dx {X:Cx} {Φ:St->Hp->Prop} {Ψ:Hp->V->Prop}:PA X [] (K5 Φ Ψ 0):=fun pos pins s σ H Q I ⟨_,k⟩=>Ad (pos:=pos) (pins:=pins) s σ H Q I (k [] H (Ao.refl _) (fun v hv=>nomatch hv) rfl)
theorem Ap {X:Cx} {e:Expr} {es:List Expr} {n:Nat} {Φ:St->Hp->Prop} {Ψ:Hp->V->Prop} (st:Sf Φ) (sv:Jz Ψ) (h:PE X e (QE Φ Ψ)) (hr:PA X es (K5 Φ Ψ n)) (hs:starEach (e :: es) X.env=(false,eval e X.env) :: starEach es X.env:=by rfl):PA X (e :: es) (K5 Φ Ψ (n + 1)):=
 fun pos pins s σ H Q I ⟨a,k⟩=>Aa h hr hs (pos:=pos) (pins:=pins) s σ H Q I ⟨a,fun v H1 s1 p1=>⟨st _ _ _ a s1,fun vs H2 s2 p2 l2=>k (v :: vs) H2 (s1.trans s2) (fun u hu=>(Zz.mp hu).elim (fun e=>e ▸ sv _ _ _ p1 s2) (p2 u)) (congrArg (· + 1) l2)⟩⟩
theorem Fe.same {H H':Hp} {v:V} {ds:List PyData} (h:Fe H v ds) (s:Ao H H'):Fe H' v ds:=by
 obtain ⟨t,xs,e,ht,dx,r⟩:=h;exact ⟨t,xs,e,s _ _ ht,dx.mono fun a o z _=>s a o z,r⟩
section
variable {X:Cx} {Φ:St->Hp->Prop} {a b:Expr} {pos:Pos} {n m:Nat}
theorem DO {e:Expr} {v:V} {d:PyData} (h:PE X e (tC v)) (hd:∀ H,Fj H v d) {Ψ:Hp->V->Prop} (w:∀ H,Fj H v d->Ψ H v):PE X e (QE Φ Ψ):=h.weak fun σ H Q ⟨_,k⟩=>k v H (Ao.refl _) (w H (hd H))
end
theorem g_var {X:Cx} {Φ:St->Hp->Prop} {Ψ:Hp->V->Prop} {i:Nat} {e:Expr} (hv:PE X e (QD i)) (h:∀ σ H,Φ σ H->∃ v,σ[i]? = some (some v)/\Ψ H v):PE X e (QE Φ Ψ):=hv.weak fun σ H Q ⟨f,k⟩=>by
 obtain ⟨v,e,p⟩:=h σ H f;exact ⟨v,e,k v H (Ao.refl _) p⟩
section
variable {Φ:St->Hp->Prop} {n:Nat}
end
theorem Hr {X:Cx}:Ft X (compareOp .IsNot) (fun x y H Q=>∃ b c,x=.bl b/\y=.bl c/\Q (.bl (!(b == c))) H):=by
 intro pins s σ H x y v u Q I rx ry h;obtain ⟨b,c,rfl,rfl,q⟩:=h;cases rx
 cases ry
 have e:EP X pins σ Q (.bool (!(b == c))) s:=⟨.bl _,H,I,rfl,q⟩
 cases b <;> cases c <;> exact wpAny_pure e
def F7 (m:Int) (u:AH):AH:=(u.1,u.2.1,u.2.2 * m)
theorem A5.same {H H':Hp} {p:Addr} (h:A5 H p) (s:Ao H H'):A5 H' p:=by obtain ⟨_,_,_,z⟩:=h; exact ⟨_,_,_,s _ _ z⟩
theorem PM {H:Hp} {m:Addr} {t1 t2:Addr} {vs:List V} {xs ps:List Str} {ws Gm:List AH} {mu:Int} (X3:1<=mu) (X2:mu<=10 ^ 20)
  (h1:H m=some (.tup [.ref t1,.ref t2])) (h2:H t1=some (.tup (ps.map V.str))) (h3:H t2=some (.tup vs)) (h4:AB H vs ((ws.map (F7 mu)).map EM)) (pp:ps.Perm xs) (so:sortedS ps=true) (xnd:xs.Nodup) (xnm:∀ x ∈ xs,AL x=true)
  (wp:ws.Perm (Gm.map E5)) (wc:D6 xs Gm) (w9:∀ u ∈ Gm,u.2.2<=9) (wl:Gm.length<=30):Gk H m ps.length ps (ws.map (F7 mu)):=by
 have l:ws.length=Gm.length:=by rw [wp.length_eq,Zv]
 refine ⟨⟨⟨t1,t2,vs,h1,h2,h3,h4⟩,rfl,pp.nodup_iff.mpr xnd,fun x hx=>xnm x (pp.mem_iff.mp hx),by rw [Zv]; lia,fun u hu=>?_⟩,⟨xs,Gm.map (F7 mu),pp,?_,?_⟩,so,by rw [Zv]; lia⟩
 ·obtain ⟨v,hv,rfl⟩:=Z6.mp hu;obtain ⟨u,WC,rfl⟩:=Z6.mp (wp.mem_iff.mp hv);obtain ⟨a,b,c,d⟩:=wc.1 u WC;have e9:=w9 u WC;have n1:=xnm _ a;have n2:=xnm _ b;have g1:1<=u.2.2 * mu:=by
   have:=bV d X3 (by decide) (by lia);lia
  have g2:u.2.2 * mu<=9 * 10 ^ 20:=bV e9 X2 (by lia) (by decide);exists ?_,?_,g1
  ·show AL (E5 u).1=true
   rcases C2 u with ⟨z,_⟩ | ⟨z,_⟩ <;> rw [z] <;> assumption
  ·show AL (E5 u).2.1=true
   rcases C2 u with ⟨_,z⟩ | ⟨_,z⟩ <;> rw [z] <;> assumption
  ·have:(9:Int) * 10 ^ 20 < 10 ^ 30:=by decide
   show u.2.2 * mu < 10 ^ 30
   lia
 ·have:=wp.map (F7 mu);rw [ax] at this ⊢;exact this
 ·refine wc.lens (by rw [Zv]) fun i u u' e1 e2=>?_
  rw [Z0,e1] at e2;cases e2
  exists rfl,rfl;obtain ⟨_,_,_,d⟩:=wc.1 u (Zx e1);show 1<=u.2.2 * mu
  have:=bV d X3 (by decide) (by lia);lia
theorem U2 (b:Bool):(if b=true then (1:Int) else 0)=0\/(if b=true then (1:Int) else 0)=1:=by cases b <;> simp
theorem DM {m:Int} (h:m<=1000):m < 2 ^ 600:=bC h (by decide +kernel)
theorem DW.names {xs ps:List Str} {lo:Int} {rs:List AV} (h:DW xs lo rs) (p:ps.Perm xs):DW ps lo rs:=⟨fun r hr=>p.mem_iff.mpr (h.sub r hr),h.nd,h.lo,h.one⟩
def oI:Option Int->V
 | none=>.non
 | some n=>.int n
def MV (H:Hp) (A:Addr) (G:Str->Str->Option V) (c:Nat):Prop:=∃ kvs:List (List Bg × V),H A=some (.dT kvs)/\kvs.length<=c/\∀ x y,B8 kvs [Sum.inr x,Sum.inr y]=G x y
theorem MV.same {H H':Hp} {A:Addr} {G:Str->Str->Option V} {c:Nat} (h:MV H A G c) (s:Ao H H'):MV H' A G c:=let ⟨kvs,a,b,d⟩:=h; ⟨kvs,s _ _ a,b,d⟩
theorem MV.up {H:Hp} {A:Addr} {G:Str->Str->Option V} {c c':Nat} (h:MV H A G c) (l:c<=c'):MV H A G c':=let ⟨kvs,a,b,d⟩:=h; ⟨kvs,a,ZS b l,d⟩
def Nb (G:Str->Str->Option V) (x y:Str) (v:V):Str->Str->Option V:=fun a b=>if a=x/\b=y then some v else G a b
theorem MV.get {H:Hp} {A t:Addr} {G:Str->Str->Option V} {c:Nat} (h:MV H A G c) {x y:Str} (ht:H t=some (.tup [.str x,.str y])):Cn H A (.ref t) (G x y):=by
 obtain ⟨kvs,a,_,d⟩:=h;rw [<-d x y];exact Cn.t (k:=[Sum.inr x,Sum.inr y]) a ht
theorem MV.put {H:Hp} {A t:Addr} {G:Str->Str->Option V} {c:Nat} (h:MV H A G c) (hc:c < sizeLine) {x y:Str} {v:V} (ht:H t=some (.tup [.str x,.str y])):∃ H',FH H A (.ref t) v H'/\MV H' A (Nb G x y v) (c + 1)/\∃ kvs,H'=upd H A (.dT kvs):=by
 obtain ⟨kvs,a,b,d⟩:=h;refine ⟨_,FH.t (k:=[Sum.inr x,Sum.inr y]) a ht (by lia),⟨_,Ab,?_,fun p q=>?_⟩,_,rfl⟩
 ·have:=CA kvs [Sum.inr x,Sum.inr y] v;lia
 ·rw [QA];unfold Nb;by_cases e:p=x/\q=y
  ·obtain ⟨rfl,rfl⟩:=e;simp
  ·have e':¬ ([Sum.inr p,Sum.inr q]:List Bg)=[Sum.inr x,Sum.inr y]:=fun z=>by
    simp only [bU.injEq,Sum.inr.injEq,and_true] at z;exact e z
   rw [if_neg e',if_neg e,d]
def MO (H:Hp) (A:Addr) (xs:List Str) (M:Str->Str->Option Int) (c:Nat):Prop:=∃ G,MV H A G c/\(∀ x ∈ xs,∀ y ∈ xs,G x y=some (oI (M x y)))/\∀ x y,¬ (x ∈ xs/\y ∈ xs)->G x y=none
theorem MO.same {H H':Hp} {A:Addr} {xs:List Str} {M:Str->Str->Option Int} {c:Nat} (h:MO H A xs M c) (s:Ao H H'):MO H' A xs M c:=let ⟨G,a,b⟩:=h; ⟨G,a.same s,b⟩
theorem MO.up {H:Hp} {A:Addr} {xs:List Str} {M:Str->Str->Option Int} {c c':Nat} (h:MO H A xs M c) (l:c<=c'):MO H A xs M c':=let ⟨G,a,b⟩:=h; ⟨G,a.up l,b⟩
theorem MO.get {H:Hp} {A t:Addr} {xs:List Str} {M:Str->Str->Option Int} {c:Nat} (h:MO H A xs M c) {x y:Str} (hx:x ∈ xs) (hy:y ∈ xs) (ht:H t=some (.tup [.str x,.str y])):Cn H A (.ref t) (some (oI (M x y))):=by
 obtain ⟨G,a,b,_⟩:=h;rw [<-b x hx y hy];exact a.get ht
theorem MO.put {H:Hp} {A t:Addr} {xs:List Str} {M:Str->Str->Option Int} {c:Nat} (h:MO H A xs M c) (hc:c < sizeLine) {x y:Str} (hx:x ∈ xs) (hy:y ∈ xs) {n:Int} (ht:H t=some (.tup [.str x,.str y])):∃ H',FH H A (.ref t) (.int n) H'/\MO H' A xs (KA M x y n) (c + 1)/\∃ kvs,H'=upd H A (.dT kvs):=by
 obtain ⟨G,a,b,d⟩:=h;obtain ⟨H',dp,mv,e⟩:=a.put hc (v:=.int n) ht;refine ⟨H',dp,⟨_,mv,fun p hp q hq=>?_,fun p q hn=>?_⟩,e⟩
 ·unfold Nb KA;split
  ·rfl
  ·exact b p hp q hq
 ·unfold Nb;rw [if_neg (fun z=>hn ⟨by rw [z.1]; exact hx,by rw [z.2]; exact hy⟩)];exact d p q hn
theorem MO.md {H:Hp} {A:Addr} {xs:List Str} {M:Str->Str->Option Int} {c:Nat} (h:MO H A xs M c) (full:∀ x ∈ xs,∀ y ∈ xs,∃ n,M x y=some n):MD H A (fun x y=>if x ∈ xs/\y ∈ xs then M x y else none) c:=by
 obtain ⟨G,⟨kvs,a,b,d⟩,e,f⟩:=h;refine ⟨kvs,a,b,fun x y=>?_⟩;rw [d x y];dsimp only;by_cases hxy:x ∈ xs/\y ∈ xs
 ·obtain ⟨n,hn⟩:=full x hxy.1 y hxy.2;rw [e x hxy.1 y hxy.2,if_pos hxy,hn];rfl
 ·rw [f x y hxy,if_neg hxy];rfl
def Oi:Sp:=fun vs H Q _=>∃ (c m:Addr) (n:Nat) (xs:List Str) (ws:List AH) (Aw Au:List AV) (x:V) (d:PyData),vs=[.ref c]/\Cm H c m n xs ws Aw Au x d/\∀ (H':Hp) (A:Addr),Ao H H'->H A=none->C0 H' A xs ws->Q (.ref A) H'
open Classical in
noncomputable def dst (ws:List AH) (x y:Str):Int:=if h:∃ n,Lz ws x y n then h.choose else 0
theorem Lz.dst {ws:List AH} {x y:Str} {n:Int} (h:Lz ws x y n):dst ws x y=n:=by
 unfold L2.dst;rw [dif_pos ⟨n,h⟩];exact Lz.uniq (Exists.choose_spec (⟨n,h⟩:∃ n,Lz ws x y n)) h
noncomputable def EZ (ws:List AH) (x:Str) (r:AV) (p:Int):Int:=max (p - r.2 * dst ws x r.1) 0
noncomputable def BY (ws:List AH) (x:Str) (rs qs:List AV):Int:=((rs.zip qs).map fun z=>EZ ws x z.1 z.2.2).sum
structure Lw (rs qs:List AV):Prop where
 nm:qs.map (·.1)=rs.map (·.1)
 lo:∀ q ∈ qs,0<=q.2
theorem Lw.len {rs qs:List AV} (h:Lw rs qs):qs.length=rs.length:=by
 have:=congrArg aP h.nm;rwa [Zv,Zv] at this
theorem Lw.at {rs qs:List AV} (h:Lw rs qs) {i:Nat} {q:AV} (e:qs[i]? = some q):∃ r,rs[i]? = some r/\r.1=q.1:=by
 have:=congrArg (fun l=>l[i]?) h.nm;rw [Z0,Z0,e] at this;cases z:rs[i]? with
 | none=>rw [z] at this; cases this
 | some r=>rw [z] at this; exact ⟨r,rfl,(ZJ.inj this).symm⟩
structure CP (H:Hp) (c m t:Addr) (n:Nat) (xs:List Str) (ws:List AH) (Aw Au qs:List AV) (x:V) (d:PyData):Prop where
 cw:Cm H c m n xs ws Aw Au x d
 few:∀ r ∈ Au,r.2<=4
 ex:∃ us,H t=some (.tup us)/\AB H us (qs.map Cq)
 ok:Lw Au qs
theorem CP.same {H H':Hp} {c m t:Addr} {n:Nat} {xs:List Str} {ws:List AH} {Aw Au qs:List AV} {x:V} {d:PyData} (h:CP H c m t n xs ws Aw Au qs x d) (s:Ao H H'):CP H' c m t n xs ws Aw Au qs x d:=by
 obtain ⟨us,a,b⟩:=h.ex;exact ⟨h.cw.same s,h.few,⟨us,s _ _ a,AW b fun b ys z=>s _ _ z⟩,h.ok⟩
theorem CP.names {H:Hp} {c m t:Addr} {n:Nat} {xs:List Str} {ws:List AH} {Aw Au qs:List AV} {x:V} {d:PyData} (h:CP H c m t n xs ws Aw Au qs x d):∀ q ∈ qs,q.1 ∈ xs/\AL q.1=true:=fun q hq=>by
 have h1:q.1 ∈ Au.map (·.1):=by rw [<-h.ok.nm]; exact Z6.mpr ⟨q,hq,rfl⟩
 obtain ⟨r,hr,e⟩:=Z6.mp h1;have h2:=h.cw.ok2.sub r hr;have e':r.1=q.1:=e;rw [e'] at h2;exact ⟨h2,h.cw.map.at'.nm _ h2⟩
def Sg (x:V) (lv:Int):Prop:=0<=lv/\lv<=1000/\(x=.non->lv=0)
def IC:Sp:=fun vs H Q _=>∃ (c m t:Addr) (n:Nat) (xs:List Str) (ws:List AH) (Aw Au qs:List AV) (x:V) (d:PyData) (v:V) (y:Str),vs=[.ref c,.ref t,v]/\CP H c m t n xs ws Aw Au qs x d/\DZ H v xs ws y/\∀ H',Ao H H'->Q (.int (BY ws y Au qs)) H'
theorem DZ.get {H:Hp} {v:V} {xs:List Str} {ws:List AH} {s y:Str} (h:DZ H v xs ws s) (nd:xs.Nodup) (hy:y ∈ xs):∃ B,v=.ref B/\Cn H B (.str y) (some (.int (dst ws s y))):=by
 obtain ⟨B,nb,rfl,hB,ks,hd⟩:=h;rw [<-ks] at hy;obtain ⟨⟨z,u⟩,hm,e⟩:=Z6.mp hy;have e':z=y:=e;subst e';obtain ⟨n,rfl,d⟩:=hd z u hm;rw [d.dst];exact ⟨B,rfl,.inl ⟨_,Sum.inr z,.inl hB,rfl,(DJ (nv:=nb) (by rw [ks]; exact nd) hm).symm⟩⟩
theorem Vl (i:Int):(if (0:Int) > i then 0 else i)=max i 0:=by
 rw [eQ];split <;> split <;> lia
theorem SV (i:Int):(if i > (0:Int) then i else 0)=max i 0:=by
 rw [eQ];split <;> split <;> lia
theorem Ks {ws:List AH} {y:Str} {rs qs:List AV} {i:Nat} {r q:AV} (hr:rs[i]? = some r) (hq:qs[i]? = some q):((rs.zip qs).take (i + 1)).map (fun z=>EZ ws y z.1 z.2.2)=((rs.zip qs).take i).map (fun z=>EZ ws y z.1 z.2.2) ++ [EZ ws y r q.2]:=by
 have e:(rs.zip qs)[i]? = some (r,q):=by
  rw [aL];exact ⟨hr,hq⟩
 rw [ZL,e,Z7];rfl
theorem NQ {rs qs:List AV} (h:qs.length=rs.length):(rs.zip qs).length=rs.length:=by rw [bx]; lia
noncomputable def Cp (ws:List AH) (Aw Au qs:List AV) (lv:Int):Bool:=Aw.all fun r=>decide (BY ws r.1 Au qs<=r.2 + lv)
def PF (qs:List AV) (i:Nat):AV:=qs.getD i (Str.empty,0)
def BV (qs:List AV) (i:Nat) (n:Int):List AV:=qs.take i ++ (((PF qs i).1,n) :: qs.drop (i + 1))
noncomputable def fullB (ws:List AH) (Aw Au qs:List AV) (lv:Int):Bool:=!((ZW qs.length).any fun i=>Cp ws Aw Au (BV qs i ((PF qs i).2 + 1)) lv)
theorem KY {qs:List AV} {i:Nat} {q:AV} (h:qs[i]? = some q):PF qs i=q:=by unfold PF; rw [ZG,h]; rfl
theorem LZ {qs:List AV} {i:Nat} {n:Int} (h:i < qs.length):(BV qs i n).map (·.1)=qs.map (·.1):=by
 have e:qs[i]? = some qs[i]:=Zt h;unfold BV;rw [KY e,Z7,ZI];have:qs=qs.take i ++ (qs[i] :: qs.drop (i + 1)):=by rw [<-bF h,List.take_append_drop]
 conv=>rhs; rw [this,Z7,ZI]
theorem SE {rs qs:List AV} {i:Nat} {n:Int} (h:Lw rs qs) (hi:i < qs.length) (n0:0<=n):Lw rs (BV qs i n):=by
 refine ⟨by rw [LZ hi]; exact h.nm,fun q hq=>?_⟩;unfold BV at hq;rcases Z9.mp hq with z | z
 ·exact h.lo q (aN z)
 ·rcases Zz.mp z with z | z
  ·rw [z]; exact n0
  ·exact h.lo q (aU z)
theorem RX (us:List V) (i:Nat) (h:i < us.length):Em us none (some (i:Int))=us.take i:=by
 unfold Em;have e1:HT.sIx us.length 0 none=0:=rfl;have e2:HT.sIx us.length us.length (some (i:Int))=i:=by
  unfold HT.sIx;simp only [];split <;> lia
 rw [e1,e2,bj,eN]
theorem RY (us:List V) (i:Nat) (h:i < us.length):Em us (some ((i:Int) + 1)) none=us.drop (i + 1):=by
 unfold Em;have e1:HT.sIx us.length us.length none=us.length:=rfl;have e2:HT.sIx us.length 0 (some ((i:Int) + 1))=i + 1:=by
  unfold HT.sIx;simp only [];split <;> lia
 rw [e1,e2];exact bh (by rw [ZU]; lia)
theorem EC {K:Zw} {H:Hp} {a b:Addr} {xs ys:List V} {Q:VK} (ha:H a=some (.tup xs)) (hb:H b=some (.tup ys)) (l:xs.length + ys.length<=sizeLine) (q:∀ T H',Ao H H'->H' T=some (.tup (xs ++ ys))->Q (.ref T) H'):Rc K (.ref a) (.ref b) H Q:=by
 refine ⟨a,b,xs,ys,rfl,rfl,A4.of ha,A4.of hb,l,fun e=>?_,fun _ e=>?_,fun _ _ T hT=>?_⟩
 ·refine q b H (Ao.refl _) ?_;rw [hb,e];rfl
 ·refine q a H (Ao.refl _) ?_;rw [ha,e,cG]
 ·exact q T _ (Ac hT) Ab
theorem S4 {K:Zw} {H:Hp} {t:Addr} {us:List V} {i:Nat} {Q:VK} (ht:H t=some (.tup us)) (hi:i < us.length) (q:∀ Z H',Ao H H'->H' Z=some (.tup (us.take i))->Q (.ref Z) H'):S9 K (.ref t) none (some (i:Int)) H Q:=by
 refine ⟨t,us,rfl,A4.of ht,fun z=>?_,fun p hp=>q p _ (Ac hp) (by rw [Ab,RX us i hi])⟩;have:=z.2;rw [HT.sIx_nat] at this;lia
theorem S5 {K:Zw} {H:Hp} {t:Addr} {us:List V} {i:Nat} {Q:VK} (ht:H t=some (.tup us)) (hi:i < us.length) (q:∀ Z H',Ao H H'->H' Z=some (.tup (us.drop (i + 1)))->Q (.ref Z) H'):S9 K (.ref t) (some ((i:Int) + 1)) none H Q:=by
 refine ⟨t,us,rfl,A4.of ht,fun z=>?_,fun p hp=>q p _ (Ac hp) (by rw [Ab,RY us i hi])⟩;have:=z.1;rw [show ((i:Int) + 1)=((i + 1:Nat):Int) by lia,HT.sIx_nat] at this;lia
theorem Jr {H:Hp}:∀ {us:List V} {ds:List PyData} (i:Nat),AB H us ds->AB H (us.take i) (ds.take i)
 | _,_,0,_=>by rw [eA,eA]; exact .nil
 | _,_,i + 1,.nil=>by rw [eG,eG]; exact .nil
 | _,_,i + 1,.cons h r=>by rw [dq,dq]; exact .cons h (Jr i r)
theorem Jt {H:Hp}:∀ {us:List V} {ds:List PyData} (i:Nat),AB H us ds->AB H (us.drop i) (ds.drop i)
 | _,_,0,h=>by rw [bj,bj]; exact h
 | _,_,i + 1,.nil=>by rw [eI,eI]; exact .nil
 | _,_,i + 1,.cons h r=>by rw [dt,dt]; exact Jt i r
theorem putD {H:Hp} {us:List V} {qs:List AV} {i:Nat} {n:Int} {T:Addr} (h:AB H us (qs.map Cq)) (hT:H T=some (.tup [.str (PF qs i).1,.int n])):AB H ((us.take i ++ [.ref T]) ++ us.drop (i + 1)) ((BV qs i n).map Cq):=by
 unfold BV;rw [Z7,ZI,eJ,eK,aM];exact BP (Jr i h) (.cons (FY (u:=((PF qs i).1,n)) hT) (Jt (i + 1) h))
theorem CP.put {H:Hp} {c m t T T2:Addr} {n:Nat} {xs:List Str} {ws:List AH} {Aw Au qs:List AV} {x:V} {d:PyData} {us:List V} {i:Nat} {p:Int} (h:CP H c m t n xs ws Aw Au qs x d) (du:AB H us (qs.map Cq)) (hi:i < qs.length) (p0:0<=p)
  (hT:H T=some (.tup [.str (PF qs i).1,.int p])) (h2:H T2=some (.tup ((us.take i ++ [.ref T]) ++ us.drop (i + 1)))):CP H c m T2 n xs ws Aw Au (BV qs i p) x d:=
 ⟨h.cw,h.few,⟨_,h2,putD du hT⟩,SE h.ok hi p0⟩
theorem RM (ws:List AH) (x:Str) (r:AV) (p:Int):0<=EZ ws x r p:=by unfold EZ; exact Int.le_max_right _ _
theorem NZ:∀ {l:List Int},(∀ x ∈ l,0<=x)->0<=l.sum
 | [],_=>by simp
 | a :: l,h=>by
  rw [cM];have:=h a ZP;have:=NZ (l:=l) fun x hx=>h x (ZK _ hx)
  lia
theorem Qb (ws:List AH) (x:Str) (rs qs:List AV):0<=BY ws x rs qs:=NZ fun y hy=>by
 obtain ⟨z,_,rfl⟩:=Z6.mp hy;exact RM _ _ _ _
theorem C0.get {H:Hp} {A t:Addr} {xs:List Str} {ws:List AH} {y z:Str} (h:C0 H A xs ws) (hy:y ∈ xs) (hz:z ∈ xs) (ht:H t=some (.tup [.str y,.str z])):Cn H A (.ref t) (some (.int (dst ws z y)))/\0<=dst ws z y/\dst ws z y < 2 ^ 300:=by
 obtain ⟨M,c,md,hm⟩:=h;obtain ⟨n,e,d,n0,n1⟩:=hm y hy z hz;have:=md.get ht;rw [e] at this;rw [d.symm.dst];exact ⟨this,n0,n1⟩
def Fu (H:Hp) (D:Addr) (xs:List Str) (ws:List AH) (Aw:List AV):Prop:=∃ nv:List (Str × V),H D=some (.dK (sK nv))/\nv.map (·.1)=Aw.map (·.1)/\∀ s v,(s,v) ∈ nv->DZ H v xs ws s
theorem Fu.same {H H':Hp} {D:Addr} {xs:List Str} {ws:List AH} {Aw:List AV} (h:Fu H D xs ws Aw) (s:Ao H H'):Fu H' D xs ws Aw:=let ⟨nv,a,b,c⟩:=h; ⟨nv,s _ _ a,b,fun z v hz=>(c z v hz).same s⟩
theorem Fu.get {H:Hp} {D:Addr} {xs:List Str} {ws:List AH} {Aw:List AV} (h:Fu H D xs ws Aw) (nd:(Aw.map (·.1)).Nodup) {r:AV} (hr:r ∈ Aw):∃ v,Cn H D (.str r.1) (some v)/\DZ H v xs ws r.1:=by
 obtain ⟨nv,a,b,c⟩:=h;have hy:r.1 ∈ nv.map (·.1):=by rw [b]; exact Z6.mpr ⟨r,hr,rfl⟩
 obtain ⟨⟨z,v⟩,hm,e⟩:=Z6.mp hy;have e':z=r.1:=e;subst e';exact ⟨v,.inl ⟨_,Sum.inr r.1,.inl a,rfl,(DJ (nv:=nv) (by rw [b]; exact nd) hm).symm⟩,c _ _ hm⟩
def JY:Sp:=fun vs H Q _=>∃ (c m t D:Addr) (n:Nat) (xs:List Str) (ws:List AH) (Aw Au qs:List AV) (x:V) (d:PyData) (lv:Int),vs=[.ref c,.ref D,.ref t,.int lv]/\CP H c m t n xs ws Aw Au qs x d/\Fu H D xs ws Aw/\∀ H',Ao H H'->Q (.bl (Cp ws Aw Au qs lv)) H'
def Oh:Sp:=fun vs H Q _=>∃ (c m t A:Addr) (n:Nat) (xs:List Str) (ws:List AH) (Aw Au qs:List AV) (x:V) (d:PyData) (y:Str),vs=[.ref c,.ref A,.ref t,.str y]/\CP H c m t n xs ws Aw Au qs x d/\C0 H A xs ws/\y ∈ xs/\∀ H',Ao H H'->Q (.int (BY ws y Au qs)) H'
theorem Rb {du lv g r d:Int} (h1:du < 10 ^ 30) (h2:lv<=1000) (h3:0<=g) (h4:1<=r) (h5:r<=4) (h6:0<=d) (h7:d < 2 ^ 300):du + lv - g + r * d < 2 ^ 400:=by
 have a:r * d<=4 * d:=br h5 h6;have b:(4:Int) * 2 ^ 300 + 10 ^ 30 + 2000<=2 ^ 400:=by decide +kernel
 have c:(10:Int) ^ 30=1000000000000000000000000000000:=by decide
 generalize (2:Int) ^ 300=X at *;generalize (2:Int) ^ 400=Y at *;generalize r * d=Z at *;rw [c] at *;lia
theorem CP.keepT {H H':Hp} {c m t:Addr} {n:Nat} {xs:List Str} {ws:List AH} {Aw Au qs:List AV} {x:V} {d:PyData} (h:CP H c m t n xs ws Aw Au qs x d) (s:∀ b ys,H b=some (.tup ys)->H' b=some (.tup ys)):CP H' c m t n xs ws Aw Au qs x d:=by
 obtain ⟨us,a,b⟩:=h.ex;exact ⟨h.cw.keepT s,h.few,⟨us,s _ _ a,AW b s⟩,h.ok⟩
theorem C0.keep {H H':Hp} {A p:Addr} {xs:List Str} {ws:List AH} (h:C0 H A xs ws) (hp:A5 H p) (k:AA p H H'):C0 H' A xs ws:=by
 obtain ⟨M,c,⟨kvs,a,b,e⟩,r⟩:=h;refine ⟨M,c,⟨kvs,k _ _ (fun z=>?_) a,b,e⟩,r⟩;subst z;obtain ⟨_,_,_,z⟩:=hp;rw [z] at a;cases a
theorem Vn {m:Int} (h:m < 2 ^ 400):m + 1 < 2 ^ 600:=by
 have b:(2:Int) ^ 400 + 1 < 2 ^ 600:=by decide +kernel
 generalize (2:Int) ^ 400=X at *;generalize (2:Int) ^ 600=Y at *;lia
def Fx (rs:List AV):List AV:=rs.map fun r=>(r.1,0)
theorem Q2 (rs:List AV):Lw rs (Fx rs):=by
 refine ⟨by unfold Fx; rw [ax]; rfl,fun q hq=>?_⟩;obtain ⟨r,_,rfl⟩:=Z6.mp hq;exact az _
theorem Ox {qs:List AV} {i:Nat} {p:Int} (h:i < qs.length):PF (BV qs i p) i=((PF qs i).1,p):=by
 refine KY ?_;unfold BV;rw [ZV (by rw [ZE]; lia),ZE,Nat.min_eq_left (by lia),cA];rfl
theorem Rf {qs:List AV} {i:Nat} {p:Int} (h:i < qs.length):(BV qs i p).length=qs.length:=by
 have:=congrArg aP (LZ (n:=p) h);rwa [Zv,Zv] at this
theorem D1 (ws:List AH) (x:Str) (r q:AV) (rs qs:List AV):BY ws x (r :: rs) (q :: qs)=EZ ws x r q.2 + BY ws x rs qs:=by
 unfold BY;rw [dz,ZI,cM]
theorem Jk {ws:List AH} {x:Str}:∀ {rs qs:List AV} {i:Nat} {r q:AV},rs[i]? = some r->qs[i]? = some q->∀ p:Int,BY ws x rs (BV qs i p) + EZ ws x r q.2=BY ws x rs qs + EZ ws x r p
 | [],_,_,_,_,h,_,_=>by simp at h
 | _ :: _,[],_,_,_,_,h,_=>by simp at h
 | r0 :: rs,q0 :: qs,0,r,q,h1,h2,p=>by
  simp only [ao,ZJ.injEq] at h1 h2;subst h1 h2;show BY ws x (r0 :: rs) ((q0.1,p) :: qs) + _=_
  rw [D1,D1];show EZ ws x r0 p + _ + _=_
  lia
 | r0 :: rs,q0 :: qs,i + 1,r,q,h1,h2,p=>by
  simp only [ba] at h1 h2;have ih:=Jk (ws:=ws) (x:=x) h1 h2 p;show BY ws x (r0 :: rs) (q0 :: BV qs i p) + _=_
  rw [D1,D1];lia
theorem IK:∀ {qs:List AV} {i:Nat} {p p':Int},i < qs.length->BV (BV qs i p) i p'=BV qs i p'
 | [],_,_,_,h=>by simp at h
 | q :: qs,0,p,p',_=>rfl
 | q :: qs,i + 1,p,p',h=>by
  show q :: BV (BV qs i p) i p'=q :: BV qs i p'
  rw [IK (by simpa using h)]
theorem OX {ws:List AH} {Aw Au qs:List AV} {lv:Int} {i:Nat} {r q:AV} {mn p:Int} (h:Cp ws Aw Au qs lv=true) (hr:Au[i]? = some r) (hq:qs[i]? = some q) (rq:r.1=q.1) (q0:0<=q.2) (hd:∀ s ∈ Aw,0<=r.2 * dst ws s.1 q.1)
  (hm:∀ s ∈ Aw,mn<=s.2 + lv - BY ws s.1 Au (BV qs i 0) + r.2 * dst ws s.1 q.1) (hp:p<=if mn > 0 then mn else 0):Cp ws Aw Au (BV qs i p) lv=true:=by
 unfold Cp at h ⊢;rw [ZZ] at h ⊢;intro s hs;have g:=of_decide_eq_true (h s hs);refine decide_eq_true ?_;have a:=Jk (ws:=ws) (x:=s.1) hr hq p;have b:=Jk (ws:=ws) (x:=s.1) hr hq 0;have d:=hd s hs;have m:=hm s hs;have e:∀ z,EZ ws s.1 r z=max (z - r.2 * dst ws s.1 q.1) 0:=fun z=>by unfold EZ; rw [rq]
 rw [e,e] at a b;generalize r.2 * dst ws s.1 q.1=D at *;generalize BY ws s.1 Au (BV qs i p)=X at *;generalize BY ws s.1 Au (BV qs i 0)=Y at *;generalize BY ws s.1 Au qs=Z at *;split at hp <;> lia
theorem Kr {ws:List AH} {x:Str}:∀ {rs:List AV},(∀ r ∈ rs,0<=r.2 * dst ws x r.1)->BY ws x rs (Fx rs)=0
 | [],_=>rfl
 | r :: rs,h=>by
  have ih:=Kr (ws:=ws) (x:=x) (rs:=rs) fun r' hr=>h r' (ZK _ hr)
  have d:=h r ZP;show BY ws x (r :: rs) ((r.1,0) :: Fx rs)=0
  rw [D1,ih];unfold EZ;show max (0 - _) 0 + 0=(0:Int)
  lia
theorem MQ {ws:List AH} {Aw Au:List AV} {lv:Int} (hd:∀ s ∈ Aw,∀ r ∈ Au,0<=r.2 * dst ws s.1 r.1) (h0:∀ s ∈ Aw,0<=s.2) (l0:0<=lv):Cp ws Aw Au (Fx Au) lv=true:=by
 unfold Cp;rw [ZZ];intro s hs;rw [Kr (hd s hs)];exact decide_eq_true (by have:=h0 s hs; lia)
theorem C0.lo {H:Hp} {A:Addr} {xs:List Str} {ws:List AH} {y z:Str} (h:C0 H A xs ws) (hy:y ∈ xs) (hz:z ∈ xs):0<=L2.dst ws z y:=by
 obtain ⟨M,c,md,hm⟩:=h;obtain ⟨n,e,d,n0,n1⟩:=hm y hy z hz;rw [d.symm.dst];exact n0
theorem Ot {qs:List AV} {i:Nat} {p B:Int} (h:∀ q ∈ qs,q.2 < B) (hp:p < B):∀ q ∈ BV qs i p,q.2 < B:=fun q hq=>by
 unfold BV at hq;rcases Z9.mp hq with z | z
 ·exact h q (aN z)
 ·rcases Zz.mp z with z | z
  ·rw [z]; exact hp
  ·exact h q (aU z)
theorem Q3 {rs:List AV}:∀ q ∈ Fx rs,q.2 < 2 ^ 400:=fun q hq=>by
 obtain ⟨r,_,rfl⟩:=Z6.mp hq;exact (by decide +kernel:(0:Int) < 2 ^ 400)
def JZ:Sp:=fun vs H Q _=>∃ (c m t A:Addr) (n:Nat) (xs:List Str) (ws:List AH) (Aw Au qs:List AV) (x:V) (d:PyData) (lv:Int) (i:Nat),vs=[.ref c,.ref A,.ref t,.int lv,.int i]/\CP H c m t n xs ws Aw Au qs x d/\C0 H A xs ws/\0<=lv/\lv<=1000/\i < qs.length /\
 ∀ (H':Hp) (T:Addr) (p:Int),Ao H H'->0<=p->p < 2 ^ 400->(Cp ws Aw Au qs lv=true->∀ p':Int,p'<=p->Cp ws Aw Au (BV qs i p') lv=true)->CP H' c m T n xs ws Aw Au (BV qs i p) x d->Q (.ref T) H'
def Ka:Sp:=fun vs H Q _=>∃ (p c m A:Addr) (n:Nat) (xs:List Str) (ws:List AH) (Aw Au:List AV) (x:V) (d:PyData) (lv:Int),vs=[.ref p,.ref c,.ref A,.int lv]/\A5 H p/\Cm H c m n xs ws Aw Au x d/\(∀ r ∈ Au,r.2<=4)/\C0 H A xs ws/\0<=lv/\lv<=1000 /\
 ∀ (H':Hp) (T:Addr) (qs:List AV),A5 H' p->AA p H H'->CP H' c m T n xs ws Aw Au qs x d->Cp ws Aw Au qs lv=true->(∀ q ∈ qs,q.2 < 2 ^ 400)->Q (.ref T) H'
end L2
namespace L2
open PySem PySem.Builtin.Str PySem.StrLaws
end L2
namespace L2
open PySem PySem.Spec PyProof.Rows PySem.NumText
end L2
namespace L2
open PySem PySem.Spec PyProof.Rows
theorem Dy {s:Str} (h:AL s=true):s.length<=10:=by
 obtain ⟨_,l,_⟩:=R3 h;lia
def K1 (K:Zw) (H:Hp) (v:V):Prop:=∃ ty,DV K H v ty/\b8 K ty (.type "int")=some false
def Ts (K:Zw) (H:Hp) (v:V) (b:Bool):Prop:=(∃ n:Int,v=.int n/\b=true)\/(b=false/\((∃ c,v=.bl c)\/K1 K H v))
def CG (K:Zw) (H:Hp) (v:V) (l:Int) (b:Bool):Prop:=(∃ n:Int,v=.int n/\b=decide (l<=n))\/(b=false/\((∃ c,v=.bl c)\/K1 K H v))
def Ep (K:Zw) (H:Hp) (v:V) (y:Str) (b:Bool):Prop:=(b=false/\DP K H v)\/∃ (t:Addr) (us:List V),v=.ref t/\H t=some (.tup us)/\((us.length ≠ 2/\b=false)\/∃ a p,us=[a,p]/\((Fg K H a/\b=false)\/∃ s:Str,a=.str s/\s.length<=1000/\b=(AL s && decide (s=y))))
def CL (K:Zw) (H:Hp) (v:V) (ys:List Str) (b:Bool):Prop:=(b=false/\DP K H v)\/∃ (t:Addr) (us:List V),v=.ref t/\H t=some (.tup us)/\((us.length ≠ ys.length/\b=false)\/(us.length=ys.length/\∃ bs:List Bool,bs.length=us.length/\b=bs.all id/\∀ (i:Nat) u y c,us[i]? = some u->ys[i]? = some y->bs[i]? = some c->Ep K H u y c))
def CF (K:Zw) (H:Hp) (v:V) (ys:List Str) (b:Bool):Prop:=(b=false/\CL K H v ys false)\/∃ (t:Addr) (us:List V),v=.ref t/\H t=some (.tup us)/\us.length=ys.length/\∃ bs:List Bool,bs.length=us.length/\b=bs.all id /\
 ∀ (i:Nat) u y c,us[i]? = some u->ys[i]? = some y->bs[i]? = some c->∃ (tt:Addr) (p:V),u=.ref tt/\H tt=some (.tup [.str y,p])/\CG K H p 0 c
def FG (K:Zw) (H:Hp) (x:V) (v:V) (b:Bool):Prop:=(b=false/\CG K H v 0 false)\/∃ lv:Int,v=.int lv/\0<=lv/\b=(!decide (x=.non) || decide (lv=0))
theorem K1.same {K:Zw} {H H':Hp} {v:V} (h:K1 K H v) (s:Ao H H'):K1 K H' v:=let ⟨ty,a,b⟩:=h; ⟨ty,a.same s,b⟩
theorem DP.same {K:Zw} {H H':Hp} {v:V} (h:DP K H v) (s:Ao H H'):DP K H' v:=let ⟨ty,a,b⟩:=h; ⟨ty,a.same s,b⟩
theorem Fg.same {K:Zw} {H H':Hp} {v:V} (h:Fg K H v) (s:Ao H H'):Fg K H' v:=let ⟨ty,a,b⟩:=h; ⟨ty,a.same s,b⟩
theorem CG.same {K:Zw} {H H':Hp} {v:V} {l:Int} {b:Bool} (h:CG K H v l b) (s:Ao H H'):CG K H' v l b:=by
 rcases h with h | ⟨h,h2 | h2⟩
 ·exact .inl h
 ·exact .inr ⟨h,.inl h2⟩
 ·exact .inr ⟨h,.inr (h2.same s)⟩
theorem Ep.same {K:Zw} {H H':Hp} {v:V} {y:Str} {b:Bool} (h:Ep K H v y b) (s:Ao H H'):Ep K H' v y b:=by
 rcases h with ⟨h,h2⟩ | ⟨t,us,e,ht,h | ⟨a,p,e2,⟨h,h2⟩ | h⟩⟩
 ·exact .inl ⟨h,h2.same s⟩
 ·exact .inr ⟨t,us,e,s _ _ ht,.inl h⟩
 ·exact .inr ⟨t,us,e,s _ _ ht,.inr ⟨a,p,e2,.inl ⟨h.same s,h2⟩⟩⟩
 ·exact .inr ⟨t,us,e,s _ _ ht,.inr ⟨a,p,e2,.inr h⟩⟩
theorem CL.same {K:Zw} {H H':Hp} {v:V} {ys:List Str} {b:Bool} (h:CL K H v ys b) (s:Ao H H'):CL K H' v ys b:=by
 rcases h with ⟨h,h2⟩ | ⟨t,us,e,ht,h | ⟨h,bs,bl,e2,r⟩⟩
 ·exact .inl ⟨h,h2.same s⟩
 ·exact .inr ⟨t,us,e,s _ _ ht,.inl h⟩
 ·exact .inr ⟨t,us,e,s _ _ ht,.inr ⟨h,bs,bl,e2,fun i u y c a1 a2 a3=>(r i u y c a1 a2 a3).same s⟩⟩
theorem CF.same {K:Zw} {H H':Hp} {v:V} {ys:List Str} {b:Bool} (h:CF K H v ys b) (s:Ao H H'):CF K H' v ys b:=by
 rcases h with ⟨h,h2⟩ | ⟨t,us,e,ht,h,bs,bl,e2,r⟩
 ·exact .inl ⟨h,h2.same s⟩
 ·refine .inr ⟨t,us,e,s _ _ ht,h,bs,bl,e2,fun i u y c a1 a2 a3=>?_⟩;obtain ⟨tt,p,e3,h3,n3⟩:=r i u y c a1 a2 a3;exact ⟨tt,p,e3,s _ _ h3,n3.same s⟩
theorem FG.same {K:Zw} {H H':Hp} {x v:V} {b:Bool} (h:FG K H x v b) (s:Ao H H'):FG K H' x v b:=by
 rcases h with ⟨h,h2⟩ | h
 ·exact .inl ⟨h,h2.same s⟩
 ·exact .inr h
theorem Ep.right {K:Zw} {H:Hp} {tt:Addr} {y:Str} {p:V} (n:AL y=true) (h:H tt=some (.tup [.str y,p])):Ep K H (.ref tt) y true:=
 .inr ⟨tt,_,rfl,h,.inr ⟨_,_,rfl,.inr ⟨y,rfl,ZS (Dy n) (by decide),by rw [n,decide_eq_true rfl]; rfl⟩⟩⟩
def LN:Sp:=fun vs H Q _=>∃ (p:Addr) (n:Nat),vs=[.ref p,.int n]/\A5 H p/\n<=26 /\
 ∀ (H':Hp) (D:Addr) (xs:List Str),A5 H' p->AA p H H'->H D=none->H' D=some (.lst (xs.map V.str))->xs.length=n->xs.Nodup->(∀ x ∈ xs,AL x=true)->(∀ x ∈ xs,x ≠ Str.ofString "zzzzzz")->Q (.ref D) H'
def Oj:Sp:=fun vs H Q _=>∃ (p:Addr) (kd:Int),vs=[.ref p,.int kd]/\A5 H p /\
 ∀ (H':Hp) (c m:Addr) (n:Nat) (xs:List Str) (ws:List AH) (Aw Au:List AV) (x:V) (d:PyData),A5 H' p->AA p H H'->Cm H' c m n xs ws Aw Au x d->(∀ r ∈ Au,r.2<=4)->(∀ y ∈ xs,y ≠ Str.ofString "zzzzzz")->Q (.ref c) H'
def LJ (K:Zw):Sp:=fun vs H Q _=>∃ (v:V) (b:Bool),vs=[v]/\Ts K H v b/\Q (.bl b) H
def Gq (K:Zw):Sp:=fun vs H Q _=>∃ (v:V) (l:Int) (b:Bool),vs=[v,.int l]/\CG K H v l b/\Q (.bl b) H
def QK (K:Zw):Sp:=fun vs H Q _=>∃ (v:V) (y:Str) (b:Bool),vs=[v,.str y]/\Ep K H v y b/\∀ H',Ao H H'->Q (.bl b) H'
def Oc (K:Zw):Sp:=fun vs H Q _=>∃ (v:V) (L:Addr) (ys:List Str) (b:Bool),vs=[v,.ref L]/\H L=some (.lst (ys.map V.str))/\ys.length<=100/\CL K H v ys b/\∀ H',Ao H H'->Q (.bl b) H'
def K8 (K:Zw):Sp:=fun vs H Q _=>∃ (c m:Addr) (n:Nat) (xs:List Str) (ws:List AH) (Aw Au:List AV) (x:V) (d:PyData) (v:V) (b:Bool),vs=[.ref c,v]/\Cm H c m n xs ws Aw Au x d/\CL K H v (Au.map (·.1)) b/\∀ H',Ao H H'->Q (.bl b) H'
def TF (K:Zw):Sp:=fun vs H Q _=>∃ (c m:Addr) (n:Nat) (xs:List Str) (ws:List AH) (Aw Au:List AV) (x:V) (d:PyData) (v:V) (b:Bool),vs=[.ref c,v]/\Cm H c m n xs ws Aw Au x d/\CF K H v (Au.map (·.1)) b/\∀ H',Ao H H'->Q (.bl b) H'
def Oe (K:Zw):Sp:=fun vs H Q _=>∃ (c m:Addr) (n:Nat) (xs:List Str) (ws:List AH) (Aw Au:List AV) (x:V) (d:PyData) (v:V) (b:Bool),vs=[.ref c,v]/\Cm H c m n xs ws Aw Au x d/\FG K H x v b/\Q (.bl b) H
def LK (K:Zw):Sp:=fun vs H Q _=>∃ (c m:Addr) (n:Nat) (xs:List Str) (ws:List AH) (Aw Au:List AV) (x:V) (d:PyData) (v l:V),vs=[.ref c,v,l]/\Cm H c m n xs ws Aw Au x d/\((CF K H v (Au.map (·.1)) false/\∀ H',Ao H H'->Q (.bl false) H') \/
 ∃ (t:Addr) (qs:List AV),v=.ref t/\CP H c m t n xs ws Aw Au qs x d/\((FG K H x l false/\∀ H',Ao H H'->Q (.bl false) H')\/∃ lv:Int,l=.int lv/\FG K H x l true/\∀ H',Ao H H'->Q (.bl (Cp ws Aw Au qs lv)) H'))
theorem CP.prices {K:Zw} {H:Hp} {c m t:Addr} {n:Nat} {xs:List Str} {ws:List AH} {Aw Au qs:List AV} {x:V} {d:PyData} (h:CP H c m t n xs ws Aw Au qs x d):CF K H (.ref t) (Au.map (·.1)) true:=by
 obtain ⟨us,ht,du⟩:=h.ex;have ul:=AJ du;have ql:=h.ok.len;refine .inr ⟨t,us,rfl,ht,by rw [Zv]; lia,us.map fun _=>true,by rw [Zv],by rw [aF]; exact (ZZ.mpr fun _ _=>rfl).symm,fun i u y c a1 a2 a3=>?_⟩;obtain ⟨q,tt,eq,rfl,htt⟩:=Bv du a1;rw [<-h.ok.nm,Z0,eq] at a2;cases a2
 rw [Z0,a1] at a3;cases a3
 exact ⟨tt,_,rfl,htt,.inl ⟨q.2,rfl,(decide_eq_true (h.ok.lo q (Zx eq))).symm⟩⟩
section
variable {prog:Program} {w:World} {A:Around} {E:Value->Shared->Prop} {s:Shared}
end
section
variable {prog:Program} {w:World} {A:Around} {E:Value->Shared->Prop} {s:Shared}
end
def Iy (z:Str × Str):PyData:=.tuple [.str z.1,.str z.2]
theorem Ku {H:Hp} {us:List V} {zs:List (Str × Str)} {i:Nat} {u:V} (h:AB H us (zs.map Iy)) (e:us[i]? = some u):∃ z t,zs[i]? = some z/\u=.ref t/\H t=some (.tup [.str z.1,.str z.2]):=by
 obtain ⟨d,ed,dd⟩:=h.at e;rw [Z0] at ed;cases q:zs[i]? with
 | none=>rw [q] at ed; cases ed
 | some z=>
  rw [q] at ed;cases ed
  cases dd with
  | tup ht dx=>
   have:=AB.txt (ss:=[z.1,z.2]) dx;subst this;exact ⟨z,_,rfl,rfl,ht⟩
theorem LA {H:Hp} {t:Addr} {z:Str × Str} (h:H t=some (.tup [.str z.1,.str z.2])):Fj H (.ref t) (Iy z):=.tup h (BE H [z.1,z.2])
theorem Df {H H':Hp} (ht:∀ b xs,H b=some (.tup xs)->H' b=some (.tup xs)):∀ {zs:List (Str × Str)} {us:List V},AB H us (zs.map Iy)->AB H' us (zs.map Iy)
 | [],_,h=>by cases h; exact .nil
 | z :: zs,_,h=>by
  rw [ZI] at h;cases h with
  | cons a b=>
   cases a with
   | tup e dx=>
    have:=AB.txt (ss:=[z.1,z.2]) dx;subst this;exact .cons (LA (ht _ _ e)) (Df ht b)
theorem L9 {H:Hp} {us:List V} {zs:List (Str × Str)} (h:AB H us (zs.map Iy)):us.length=zs.length:=by rw [h.len,Zv]
theorem datsS {H H':Hp} {us:List V} {ds:List PyData} (h:AB H us ds) (s:Ao H H'):AB H' us ds:=h.mono fun a o e _=>s a o e
structure J6 (H:Hp) (c m pp o t T:Addr) (n:Nat) (xs:List Str) (ws:List AH) (Aw Au:List AV) (x:V) (d:PyData) (ss:List Str) (zs:List (Str × Str)) (qs:List AV) (lv:Int):Prop where
 cp:CP H c m T n xs ws Aw Au qs x d
 pap:H pp=some (.tup [.ref o,.ref t,.ref T,.int lv])
 op:H o=some (.tup (ss.map V.str))
 ne:ss ≠ []
 ri:DY ss
 sub:∀ s ∈ ss,s ∈ Aw.map (·.1)
 lb:Nw x ss.length=true
 wk:∃ us,H t=some (.tup us)/\AB H us (zs.map Iy)
 zn:zs.map (·.1)=Au.map (·.1)
 zs':∀ z ∈ zs,z.2 ∈ ss
 lev:Sg x lv
 st:Cp ws Aw Au qs lv=true
theorem J6.same {H H':Hp} {c m pp o t T:Addr} {n:Nat} {xs:List Str} {ws:List AH} {Aw Au:List AV} {x:V} {d:PyData} {ss:List Str} {zs:List (Str × Str)} {qs:List AV} {lv:Int} (h:J6 H c m pp o t T n xs ws Aw Au x d ss zs qs lv) (s:Ao H H'):J6 H' c m pp o t T n xs ws Aw Au x d ss zs qs lv:=by
 obtain ⟨us,a,b⟩:=h.wk;exact ⟨h.cp.same s,s _ _ h.pap,s _ _ h.op,h.ne,h.ri,h.sub,h.lb,⟨us,s _ _ a,datsS b s⟩,h.zn,h.zs',h.lev,h.st⟩
theorem J6.l10 {H:Hp} {c m pp o t T:Addr} {n:Nat} {xs:List Str} {ws:List AH} {Aw Au:List AV} {x:V} {d:PyData} {ss:List Str} {zs:List (Str × Str)} {qs:List AV} {lv:Int} (h:J6 H c m pp o t T n xs ws Aw Au x d ss zs qs lv):ss.length<=Aw.length:=by
 have:=List.Nodup.length_le_of_subset h.ri.nodup h.sub;rwa [Zv] at this
theorem J6.inx {H:Hp} {c m pp o t T:Addr} {n:Nat} {xs:List Str} {ws:List AH} {Aw Au:List AV} {x:V} {d:PyData} {ss:List Str} {zs:List (Str × Str)} {qs:List AV} {lv:Int} (h:J6 H c m pp o t T n xs ws Aw Au x d ss zs qs lv):∀ s ∈ ss,s ∈ xs/\AL s=true:=fun s hs=>by
 obtain ⟨r,hr,e⟩:=Z6.mp (h.sub s hs);have e':r.1=s:=e;have:=h.cp.cw.ok1.sub r hr;rw [e'] at this;exact ⟨this,h.cp.cw.map.at'.nm _ this⟩
theorem J6.zl {H:Hp} {c m pp o t T:Addr} {n:Nat} {xs:List Str} {ws:List AH} {Aw Au:List AV} {x:V} {d:PyData} {ss:List Str} {zs:List (Str × Str)} {qs:List AV} {lv:Int} (h:J6 H c m pp o t T n xs ws Aw Au x d ss zs qs lv):zs.length=Au.length:=by
 have:=congrArg aP h.zn;rwa [Zv,Zv] at this
theorem zn_at {zs:List (Str × Str)} {rs:List AV} (h:zs.map (·.1)=rs.map (·.1)) {i:Nat} {z:Str × Str} (e:zs[i]? = some z):∃ r,rs[i]? = some r/\r.1=z.1:=by
 have:=congrArg (fun l=>l[i]?) h;rw [Z0,Z0,e] at this;cases q:rs[i]? with
 | none=>rw [q] at this; cases this
 | some r=>rw [q] at this; exact ⟨r,rfl,(ZJ.inj this).symm⟩
def LM:Sp:=fun vs H Q _=>∃ (p c m A:Addr) (n:Nat) (xs:List Str) (ws:List AH) (Aw Au:List AV) (x:V) (d:PyData),vs=[.ref p,.ref c,.ref A]/\A5 H p/\Cm H c m n xs ws Aw Au x d/\(∀ r ∈ Au,r.2<=4)/\C0 H A xs ws /\
 ∀ (H':Hp) (pp o t T:Addr) (ss:List Str) (zs:List (Str × Str)) (qs:List AV) (lv:Int),A5 H' p->AA p H H'->J6 H' c m pp o t T n xs ws Aw Au x d ss zs qs lv->Q (.ref pp) H'
end L2
namespace HT
open PySem PySem.Spec PyProof.Rows
section
variable {prog:Program} {w:World} {A:Around} {E:Value->Shared->Prop} {s:Shared}
theorem getItem_tuple_whole {t sl:Addr} {items:Array Value} {vl vu:Value} {lo hi:Option Int} {Q:Value->Shared->Prop} (ht:IsTup s.heap t items) (hs:s.heap.IsSliceOf sl vl vu .none) (pl:IsPart vl lo) (pu:IsPart vu hi)
  (hw:sIx items.size 0 lo=0/\sIx items.size items.size hi=items.size)
  (h:Q (.ref t) s)
  (hsz:items.size<=sizeLine):wpAny (model prog w) A (getItem (.ref t) (.ref sl)) Q E s:=by
 have hj:sIx items.size items.size hi<=items.size:=QZ _ _ (Z4 _) hi;obtain ⟨os,hos,hcs,hds⟩:=id hs;have hTs:s.TypeIs (.ref sl) "slice":=⟨os,hos,hcs⟩
 unfold getItem;try with_reducible refine wpAny_holding ?_
 first | refine wpAny_bind (wpAny_pure ?_) | skip
 refine wpAny_bind (wpAny_sequenceKey ht.typeIs (by decide) ?_);refine wpAny_bind (wpAny_callSpecial?_slot (name:=Str.ofString "__getitem__") ht.typeIs PyProof.Rows.slot_tuple_getitem
  (wpAny_call_entry PyProof.Rows.slot_tuple_getitem ht.typeIs entry_tuple_getitem ?_ (args_tuple_getitem _ _)))
 show wpAny _ _ (Builtin.Tuple.tupleItemsOf (.ref t) >>= _) _ _ s
 refine wpAny_bind (tupleItemsOf_ ht ?_);refine wpAny_bind (wpAny_typeOf hTs ?_);rw [if_pos (by decide)];refine wpAny_bind (Eb hs pl pu ?_);have hyes:((((sIx items.size 0 lo:Nat):Int) == 0 && (1:Int) == 1 && (sIx items.size items.size hi - sIx items.size 0 lo) == items.size)=true):=by
  rw [hw.1,hw.2];simp
 show wpAny _ _ (if (((sIx items.size 0 lo:Nat):Int) == 0 && (1:Int) == 1 && (sIx items.size items.size hi - sIx items.size 0 lo) == items.size)=true then _ else _) _ _ s
 rw [if_pos hyes];obtain ⟨o,ho,hc,n,hd⟩:=id ht;refine wpAny_bind ?_;unfold Builtin.Tuple.tupleIsExact;refine wpAny_bind (wpAny_typeOf ht.typeIs ?_);refine wpAny_pure ?_;rw [if_pos (by decide)];refine wpAny_bind (wpAny_rule ?_);exact wpAny_pure ⟨_,rfl,wpAny_pure h⟩
theorem Lq (n:Nat):Builtin.Slice.slicePlaces ((n:Int) - 1) (-1) (-1)=n:=by
 unfold Builtin.Slice.slicePlaces;have h0:¬ ((-1:Int) > 0):=by decide
 rw [if_neg h0,show (- (-1:Int))=1 by decide,cy];split <;> lia
theorem OC {α β:Type} {f:α->Option β} {g:α->β}:∀ {l:List α},(∀ a ∈ l,f a=some (g a))->l.filterMap f=l.map g
 | [],_=>rfl
 | a :: l,h=>by
  rw [bz,h a (by simp)];show g a :: _=_
  rw [OC fun b hb=>h b (ZK _ hb)];rfl
theorem Qp (items:Array Value):((ZW items.size).filterMap fun (m:Nat)=>items[(((items.size:Int) - 1) + (m:Int) * -1).toNat]?)=items.toList.reverse:=by
 rw [OC (g:=fun m=>items.toList.reverse.getD m .none) fun m hm=>?_]
 ·refine cv fun i=>?_
  rw [Z0];by_cases hi:i < items.size
  ·rw [bB hi];show some (items.toList.reverse.getD i .none)=_
   rw [ZG,Zt (l:=items.toList.reverse) (by rw [aB,ZO]; exact hi)];rfl
  ·rw [av (by rw [af]; lia),av (by rw [aB,ZO]; lia)];rfl
 ·have YZ:=aH.mp hm;have e1:(((items.size:Int) - 1) + (m:Int) * -1).toNat=items.size - 1 - m:=by lia
  rw [e1,ZG,aT (by rw [ZO]; exact YZ),ZO,bo,cI (by lia)];rfl
theorem getItem_tuple_backX {t sl:Addr} {items:Array Value} {tk:Tok} {Q:Value->Shared->Prop} (ht:IsTup s.heap t items) (hs:s.heap.IsSliceOf sl .none .none (.int (-1) tk)) (hsz:items.size<=sizeLine)
  (h:Q (.ref s.heap.objs.size) { s with heap:=s.heap.push { cls:=.type "tuple",data:=.seq items.toList.reverse.toArray } }) :
  wpAny (model prog w) A (getItem (.ref t) (.ref sl)) Q E s:=by
 obtain ⟨os,hos,hcs,hds⟩:=id hs;have hTs:s.TypeIs (.ref sl) "slice":=⟨os,hos,hcs⟩
 have app:∀ {R:Int × Int × Nat->Shared->Prop},R ((items.size:Int) - 1,-1,items.size) s->wpAny (model prog w) A.in1 (Builtin.Slice.sliceApplied (.ref sl) (pure (items.size:Int))) R E s:=by
  intro R q;unfold Builtin.Slice.sliceApplied Builtin.Slice.sliceFields;refine wpAny_bind (wpAny_bind (wpAny_field hos hds (x:=.none) rfl (wpAny_bind (wpAny_field hos hds (x:=.none) rfl (wpAny_bind (wpAny_field hos hds (x:=.int (-1) tk) rfl (wpAny_pure ?_)))))));refine wpAny_bind (slicePart_int ?_);show wpAny _ _ (if ((-1:Int) == 0)=true then _ else _) _ _ s
  rw [if_neg (by decide)];refine wpAny_bind (slicePart_none (wpAny_bind (slicePart_none (wpAny_bind (wpAny_pure ?_)))));have q':R ((items.size:Int) - 1,-1,Builtin.Slice.slicePlaces ((items.size:Int) - 1) (-1) (-1)) s:=by rw [Lq]; exact q
  exact wpAny_pure q'
 unfold getItem;try with_reducible refine wpAny_holding ?_
 first | refine wpAny_bind (wpAny_pure ?_) | skip
 refine wpAny_bind (wpAny_sequenceKey ht.typeIs (by decide) ?_);refine wpAny_bind (wpAny_callSpecial?_slot (name:=Str.ofString "__getitem__") ht.typeIs PyProof.Rows.slot_tuple_getitem
  (wpAny_call_entry PyProof.Rows.slot_tuple_getitem ht.typeIs entry_tuple_getitem ?_ (args_tuple_getitem _ _)))
 show wpAny _ _ (Builtin.Tuple.tupleItemsOf (.ref t) >>= _) _ _ s
 refine wpAny_bind (tupleItemsOf_ ht ?_);refine wpAny_bind (wpAny_typeOf hTs ?_);rw [if_pos (by decide)];refine wpAny_bind (app ?_);show wpAny _ _ (if (((items.size:Int) - 1) == 0 && (-1:Int) == 1 && items.size == items.size)=true then _ else _) _ _ s
 rw [if_neg (by simp)];have er:((ZW items.size).filterMap fun (m:Nat)=>items[(((items.size:Int) - 1) + (m:Int) * -1).toNat]?)=items.toList.reverse:=Qp items;have q:=h;rw [<-er] at q;have sz:sizeOk (.seq ((ZW items.size).filterMap fun (m:Nat)=>items[(((items.size:Int) - 1) + (m:Int) * -1).toNat]?).toArray):=by
  show ((ZW items.size).filterMap fun (m:Nat)=>items[(((items.size:Int) - 1) + (m:Int) * -1).toNat]?).toArray.size<=sizeLine
  rw [ZA,er,aB,ZO];exact hsz
 first
  | exact wpAny_bind (m:=Builtin.Tuple.tupleExact _) (wpAny_newObj_type (wpAny_pure ⟨_,rfl,wpAny_pure q⟩) sz)
  | exact wpAny_bind (m:=Builtin.Tuple.tupleExact _) (wpAny_newObj_type (wpAny_bind (wpAny_pure (wpAny_pure ⟨_,rfl,wpAny_pure q⟩))) sz)
  | exact wpAny_bind (wpAny_bind (m:=Builtin.Tuple.tupleExact _) (wpAny_newObj_type (wpAny_pure (wpAny_pure ⟨_,rfl,wpAny_pure q⟩)) sz))
  | exact wpAny_bind (wpAny_bind (m:=Builtin.Tuple.tupleExact _) (wpAny_newObj_type (wpAny_pure ⟨_,rfl,wpAny_pure q⟩) sz))
end
end HT
namespace L2
open PySem PySem.Spec PyProof.Rows
theorem LB:∀ {xs:List V} {Ax:List Value},A9 xs Ax->A9 xs.reverse Ax.reverse
 | _,_,.nil=>.nil
 | _,_,.cons a b=>by
  rw [dM,dM];exact (LB b).append (.cons a .nil)
def UH (K:Zw) (te:TE):TE:=fun σ H Q=>te σ H fun x H1=>∃ (a:Addr) (xs:List V),x=.ref a/\A4 K H1 a xs/\∀ p:Addr,H1 p=none->Q (.ref p) (upd H1 p (.tup xs.reverse))
theorem Mf {X:Cx} {e st:Expr} {te:TE} {pos p2:Pos} (he:PE X e te) (hst:PE X st (tUn (rU fun i=>.int (-i)) (tC (.int 1)))):PE X (.Subscript e (.Slice none none (some st) p2) pos) (UH X.K te):=by
 intro pins s σ H Q I h;refine Subscript_ (By (he (pins:=pins) s σ H _ I h) fun v s1 ⟨x,H1,I1,r1,q1⟩=>?_);obtain ⟨a,xs,rfl,ht,q⟩:=q1;cases r1
 refine wpAny_Slice ?_;rw [evalPart_none];refine wpAny_pure ?_;refine wpAny_pure ?_;rw [evalPart_some];refine By (hst (pins:=pins) s1 σ H1 (fun y H2=>y=.int (-1)/\H2=H1) I1 ⟨_,rfl,rfl,rfl⟩) fun u s2 ⟨y,H2,I2,r2,e2,e3⟩=>?_
 subst e2 e3;obtain ⟨tk,rfl⟩:=r2;have I3:Av X pins σ H2 { s2 with heap:=s2.heap.push { cls:=.type "slice",data:=.fields #[.none,.none,.int (-1) tk] } }:=I2.kept (t':=s2.toks) fun b ob q=>Zu _ q
 obtain ⟨Ax,r,p,hz⟩:=I3.tuple ht;have hl:Ax.toArray.size=xs.length:=by rw [ZA]; exact r.length.symm
 refine tail_any (ops:=[.ref a,.ref s2.heap.objs.size]) p.typeIs PyProof.Rows.slot_tuple_getitem.lookup ?_ (by with_unfolding_all rfl);refine HT.getItem_tuple_backX (tk:=tk) p (Heap.IsSliceOf.new ..) (by rw [hl]; exact hz) ?_;refine ⟨.ref _,_,I3.laid (t':=s2.toks) (o:=.tup xs.reverse) (fun b ob q=>Zu _ q) (Z4 _) ?_,rfl,q _ (I3.hok.fresh (Z4 _))⟩;exact ⟨by rw [aB]; lia,Ax.reverse,LB r,IsTup.new _ _,Lu.new rfl rfl⟩
def rSlTA (K:Zw):V->Option Int->Option Int->Hp->VK->Prop:=fun x lo hi H Q=>∃ a xs,x=.ref a/\A4 K H a xs /\
 ((HT.sIx xs.length 0 lo=0/\HT.sIx xs.length xs.length hi=xs.length)->Q (.ref a) H)/\(¬ (HT.sIx xs.length 0 lo=0/\HT.sIx xs.length xs.length hi=xs.length)->∀ p,H p=none->Q (.ref p) (upd H p (.tup (Em xs lo hi))))
theorem Ol (K:Zw) {X:Cx} (h:X.K=K):SlR X (rSlTA K):=by
 subst h;intro pins s σ H x v vl vu lo hi sl Q I rx hs pl pu h;obtain ⟨a,xs,e0,hx,q1,q2⟩:=h;subst e0;by_cases hw:HT.sIx xs.length 0 lo=0/\HT.sIx xs.length xs.length hi=xs.length
 ·cases rx
  obtain ⟨Ax,r,ht,hz⟩:=I.tuple hx;have hlen:Ax.toArray.size=xs.length:=by rw [ZA]; exact r.length.symm
  exists "tuple",_,PyProof.Rows.slot_tuple_getitem.lookup,ht.typeIs;exact HT.getItem_tuple_whole ht hs pl pu (by rw [hlen]; exact hw) ⟨.ref a,H,I,rfl,q1 hw⟩ (by rw [hlen]; exact hz)
 ·exact QS (pins:=pins) s σ H (.ref a) v vl vu lo hi sl Q I rx hs pl pu ⟨a,xs,rfl,hx,hw,q2 hw⟩
def UC (Φ:St->Hp->Prop) (Ψ:Hp->V->Prop) (n:Nat):TE:=fun σ H Q=>Φ σ H/\∀ (l:Addr) (us:List V) (H1:Hp),Ao H H1->H1 l=none->(∀ u ∈ us,Ψ H1 u)->us.length=n->Q (.ref l) (upd H1 l (.lst us))
theorem E8 {X:Cx} {Φ:St->Hp->Prop} {Ψ:Hp->V->Prop} {es:List Expr} {pos:Pos} {n:Nat} (hn:n<=1000) (h:PA X es (K5 Φ Ψ n)):PE X (.List es pos) (UC Φ Ψ n):=
 (Bl h).weak fun σ H Q ⟨f,k⟩=>⟨f,fun vs H1 s1 p1 l1=>⟨ZS (by lia) (show 1000<=sizeLine by decide),fun p hp=>k p vs H1 s1 hp p1 l1⟩⟩
theorem CG.stay {K:Zw} {b:Bool}:Jz fun H v=>CG K H v 0 b:=fun v H H' h s=>CG.same h s
theorem Cj {K:Zw} {H:Hp} {a:Addr} {xs:List V} (h:H a=some (.lst xs)):DP K H (.ref a):=⟨_,.lst h,rfl⟩
theorem KL {α:Type} {us:List α} {v:α} {i:Nat} (hi:i < us.length) (j:Nat):((us.take i ++ [v]) ++ us.drop (i + 1))[j]? = if j=i then some v else us[j]?:=by
 have lt:(us.take i).length=i:=by rw [ZE]; lia
 by_cases h:j=i
 ·subst h;rw [if_pos rfl,ZR (by rw [Zy,lt]; simp),ZV (by lia),lt,cA];rfl
 ·rw [if_neg h];by_cases hj:j < i
  ·rw [ZR (by rw [Zy,lt]; lia),ZR (by lia),bH hj]
  ·rw [ZV (by rw [Zy,lt]; simp; lia),Zy,lt,cn];congr 1;simp;lia
theorem Ef {α:Type} {us:List α} {v:α} {i:Nat} (hi:i < us.length):((us.take i ++ [v]) ++ us.drop (i + 1)).length=us.length:=by
 rw [Zy,Zy,ZE,ZU];simp;lia
theorem MA (us:List V) (h:1<=us.length):Em us none (some (-1))=us.take (us.length - 1):=by
 unfold Em;have e1:HT.sIx us.length 0 none=0:=rfl;have e2:HT.sIx us.length us.length (some (-1))=us.length - 1:=by
  unfold HT.sIx;simp only [];split <;> lia
 rw [e1,e2,bj,eN]
theorem Tq (us:List V) (h:1<=us.length):Em us (some 1) none=us.drop 1:=by
 have:=RY us 0 (by lia);simpa using this
theorem Qm (us:List V) (h:1 < us.length):Em us none (some 1)=us.take 1:=RX us 1 h
theorem OH (us:List V) (h:1<=us.length):Em us (some (-1)) none=us.drop (us.length - 1):=by
 unfold Em;have e1:HT.sIx us.length us.length none=us.length:=rfl;have e2:HT.sIx us.length 0 (some (-1))=us.length - 1:=by
  unfold HT.sIx;simp only [];split <;> lia
 rw [e1,e2];exact bh (by rw [ZU]; lia)
theorem OL {us:List V} (h:HT.sIx us.length 0 (some (-1))=0) (h1:1<=us.length):us=us.drop (us.length - 1):=by
 have e2:HT.sIx us.length 0 (some (-1))=us.length - 1:=by
  unfold HT.sIx;simp only [];split <;> lia
 rw [show us.length - 1=0 by lia,bj]
theorem US {α:Type} {l:List α} (nd:l.Nodup) (h:1 < l.length):l.reverse ≠ l:=fun e=>by
 have h0:l.reverse[0]? = l[l.length - 1 - 0]?:=aT (by lia);rw [e,Zt (show 0 < l.length by lia),Zt (show l.length - 1 - 0 < l.length by lia)] at h0;exact (aG.mp nd) 0 (l.length - 1 - 0) (by lia) (by lia) (by lia) (ZJ.inj h0)
theorem UR {α:Type} {l:List α} (nd:l.Nodup) (h:1 < l.length):l.drop 1 ++ l.take 1 ≠ l:=fun e=>by
 have h0:(l.drop 1 ++ l.take 1)[0]? = l[0]?:=by rw [e]
 rw [ZR (by rw [ZU]; lia),cn] at h0;rw [Zt (show 0 < l.length by lia),Zt (show 1 + 0 < l.length by lia)] at h0;exact (aG.mp nd) 0 (1 + 0) (by lia) (by lia) (by lia) (ZJ.inj h0).symm
theorem Vo {n:Int} (h0:0<=n) (h:n < 2 ^ 400):n.natAbs.log2 < 1920:=by
 by_cases z:n.natAbs=0
 ·rw [z]; decide
 ·rw [eP z];have:n.natAbs < 2 ^ 400:=by
   have e:(n.natAbs:Int)=n:=Int.natAbs_of_nonneg h0;have:(n.natAbs:Int) < ((2 ^ 400:Nat):Int):=by rw [e,Int.natCast_pow]; exact h
   exact Int.ofNat_lt.mp this
  exact ZF this (Nat.pow_le_pow_right (by decide) (by decide))
def MH (sites:List Str) (x:V) (ds:List PyData):Prop:=∃ ss:List Str,ds=ss.map PyData.str/\ss ≠ []/\DY ss/\(∀ s ∈ ss,AL s=true/\s ∈ sites)/\Nw x ss.length=true
def Og (K:Zw):Sp:=fun vs H Q _=>∃ (c:Addr) (sites:List Str) (x:V) (d:PyData) (v:V),vs=[.ref c,v]/\Si H c sites x d /\
 ((∃ ds,Fe H v ds/\∀ (b:Bool) (H':Hp),Ao H H'->(b=true ↔ MH sites x ds)->Q (.bl b) H')\/(DP K H v/\∀ H',Ao H H'->Q (.bl false) H'))
def Ir (K:Zw) (H:Hp) (p:V) (ss:List Str) (c:Bool):Prop:=(Fg K H p/\c=false)\/∃ s:Str,p=.str s/\s.length<=1000/\c=(AL s && decide (s ∈ ss))
def MI (K:Zw) (H:Hp) (v:V) (ys ss:List Str) (b:Bool):Prop:=(b=false/\CL K H v ys false)\/∃ (t:Addr) (us:List V),v=.ref t/\H t=some (.tup us)/\us.length=ys.length/\∃ bs:List Bool,bs.length=us.length/\b=bs.all id /\
 ∀ (i:Nat) u y c,us[i]? = some u->ys[i]? = some y->bs[i]? = some c->∃ (tt:Addr) (p:V),u=.ref tt/\H tt=some (.tup [.str y,p])/\Ir K H p ss c
theorem Ir.same {K:Zw} {H H':Hp} {p:V} {ss:List Str} {c:Bool} (h:Ir K H p ss c) (s:Ao H H'):Ir K H' p ss c:=by
 rcases h with ⟨h,e⟩ | h
 ·exact .inl ⟨h.same s,e⟩
 ·exact .inr h
theorem MI.same {K:Zw} {H H':Hp} {v:V} {ys ss:List Str} {b:Bool} (h:MI K H v ys ss b) (s:Ao H H'):MI K H' v ys ss b:=by
 rcases h with ⟨h,h2⟩ | ⟨t,us,e,ht,h,bs,bl,e2,r⟩
 ·exact .inl ⟨h,h2.same s⟩
 ·refine .inr ⟨t,us,e,s _ _ ht,h,bs,bl,e2,fun i u y c a1 a2 a3=>?_⟩;obtain ⟨tt,p,e3,h3,n3⟩:=r i u y c a1 a2 a3;exact ⟨tt,p,e3,s _ _ h3,n3.same s⟩
def TH (K:Zw):Sp:=fun vs H Q _=>∃ (c m o:Addr) (n:Nat) (xs:List Str) (ws:List AH) (Aw Au:List AV) (x:V) (d:PyData) (ss:List Str) (v:V) (b:Bool),vs=[.ref c,.ref o,v]/\Cm H c m n xs ws Aw Au x d/\H o=some (.tup (ss.map V.str))/\MI K H v (Au.map (·.1)) ss b/\∀ H',Ao H H'->Q (.bl b) H'
def Bx (K:Zw) (Aw Au:List AV) (x:V) (H:Hp) (v:V):Prop:=DP K H v\/∃ (t:Addr) (us:List V),v=.ref t/\H t=some (.tup us)/\(us.length ≠ 4\/∃ o wk pr lv,us=[o,wk,pr,lv] /\
 ((DP K H o\/∃ ds,Fe H o ds/\¬ MH (Aw.map (·.1)) x ds)\/∃ (oa:Addr) (ss:List Str),o=.ref oa/\H oa=some (.tup (ss.map V.str))/\MH (Aw.map (·.1)) x (ss.map PyData.str)/\ss.length<=60 /\
  (MI K H wk (Au.map (·.1)) ss false\/(MI K H wk (Au.map (·.1)) ss true/\(CF K H pr (Au.map (·.1)) false\/(FG K H x lv false/\∃ (T:Addr) (qs:List AV),pr=.ref T/\(∃ us,H T=some (.tup us)/\AB H us (qs.map Cq))/\Lw Au qs))))))
def HZ (K:Zw):Sp:=fun vs H Q _=>∃ (c m:Addr) (n:Nat) (xs:List Str) (ws:List AH) (Aw Au:List AV) (x:V) (d:PyData) (v:V),vs=[.ref c,v]/\Cm H c m n xs ws Aw Au x d/\(∀ r ∈ Au,r.2<=4)/\((Bx K Aw Au x H v/\∀ H',Ao H H'->Q (.bl false) H') \/
 ∃ (pp o t T:Addr) (ss:List Str) (zs:List (Str × Str)) (qs:List AV) (lv:Int),v=.ref pp/\J6 H c m pp o t T n xs ws Aw Au x d ss zs qs lv/\∀ H',Ao H H'->Q (.bl true) H')
theorem J6.goes {K:Zw} {H:Hp} {c m pp o t T:Addr} {n:Nat} {xs:List Str} {ws:List AH} {Aw Au:List AV} {x:V} {d:PyData} {ss:List Str} {zs:List (Str × Str)} {qs:List AV} {lv:Int} (h:J6 H c m pp o t T n xs ws Aw Au x d ss zs qs lv):MI K H (.ref t) (Au.map (·.1)) ss true:=by
 obtain ⟨us,ht,du⟩:=h.wk;have ul:=L9 du;have zl:=h.zl;refine .inr ⟨t,us,rfl,ht,by rw [Zv]; lia,us.map fun _=>true,by rw [Zv],by rw [aF]; exact (ZZ.mpr fun _ _=>rfl).symm,fun i u y c' a1 a2 a3=>?_⟩;obtain ⟨z,tt,ez,rfl,htt⟩:=Ku du a1;obtain ⟨r,er,rz⟩:=zn_at h.zn ez;rw [Z0,er] at a2;cases a2
 rw [Z0,a1] at a3;cases a3
 have zm:=h.zs' z (Zx ez);have zn:=(h.inx _ zm).2;refine ⟨tt,.str z.2,rfl,?_,.inr ⟨z.2,rfl,ZS (Dy zn) (by decide),by rw [zn,decide_eq_true zm]; rfl⟩⟩;show H tt=some (.tup [.str r.1,.str z.2])
 rw [rz];exact htt
theorem J6.isop {H:Hp} {c m pp o t T:Addr} {n:Nat} {xs:List Str} {ws:List AH} {Aw Au:List AV} {x:V} {d:PyData} {ss:List Str} {zs:List (Str × Str)} {qs:List AV} {lv:Int} (h:J6 H c m pp o t T n xs ws Aw Au x d ss zs qs lv):MH (Aw.map (·.1)) x (ss.map PyData.str):=⟨ss,rfl,h.ne,h.ri,fun s hs=>⟨(h.inx s hs).2,h.sub s hs⟩,h.lb⟩
theorem Fe.strs {H:Hp} {o:Addr} {ss:List Str} (ho:H o=some (.tup (ss.map V.str))) (l:ss.length<=60) (sh:∀ s ∈ ss,s.length<=1000):Fe H (.ref o) (ss.map PyData.str):=by
 refine ⟨o,_,rfl,ho,BE H ss,fun s hs=>?_,by rw [Zv]; exact l⟩;obtain ⟨y,hy,e⟩:=Z6.mp hs;cases e
 exact sh _ hy
def Ca (K:Zw) (sites:List Str) (x:V) (H:Hp) (v:V):Prop:=DP K H v\/∃ ds,Fe H v ds/\¬ MH sites x ds
theorem Ca.stay {K:Zw} {sites:List Str} {x:V}:Jz (Ca K sites x):=fun v H H' h s=>by
 rcases h with h | ⟨ds,h,n⟩
 ·exact .inl (h.same s)
 ·exact .inr ⟨ds,h.same s,n⟩
theorem KW {sites:List Str} {x:V} {ds:List PyData} {d:PyData} (hd:d ∈ ds) (n:∀ s,d ≠ .str s):¬ MH sites x ds:=fun ⟨ss,e,_⟩=>by
 rw [e] at hd;obtain ⟨s,_,e2⟩:=Z6.mp hd;exact n s e2.symm
theorem Rv {sites:List Str} {x:V} {ss:List Str} (h:1<=ss.length):¬ MH sites x ((ss ++ ss.drop (ss.length - 1)).map PyData.str):=fun ⟨s5,e,_,ri,_⟩=>by
 have e':=Es e;have nd:=ri.nodup;rw [<-e',aI] at nd;have hm:ss[ss.length - 1]'(by lia) ∈ ss.drop (ss.length - 1):=by
  rw [bF (by lia)];exact ZP
 exact nd.2.2 _ (ar (by lia)) _ hm rfl
theorem Rw {sites:List Str} {x:V}:¬ MH sites x []:=fun ⟨ss,e,ne,_⟩=>ne (by cases ss with | nil=>rfl | cons _ _=>cases e)
def IB (K:Zw):Sp:=fun vs H Q _=>∃ (o:Addr) (ss sites:List Str) (x:V),vs=[.ref o]/\H o=some (.tup (ss.map V.str))/\1<=ss.length/\ss.length<=30/\(∀ s ∈ ss,AL s=true) /\
 ∀ (H':Hp) (D:Addr) (ts:List V),Ao H H'->H' D=some (.lst ts)->(∀ u ∈ ts,Ca K sites x H' u)->ts.length<=30->Q (.ref D) H'
def Od:Sp:=fun vs H Q _=>∃ (A o:Addr) (y:Str) (xs:List Str) (ws:List AH) (ss:List Str),vs=[.ref A,.str y,.ref o]/\C0 H A xs ws/\y ∈ xs/\H o=some (.tup (ss.map V.str))/\ss ≠ []/\ss.length<=30/\(∀ s ∈ ss,s ∈ xs)/\∀ (H':Hp) (h:Str),Ao H H'->h ∈ ss->Q (.str h) H'
def AN (H:Hp) (us:List V) (ys:List Str) (ps:List V):Prop:=us.length=ys.length/\ps.length=ys.length/\∀ (j:Nat) u y p,us[j]? = some u->ys[j]? = some y->ps[j]? = some p->∃ tt,u=.ref tt/\H tt=some (.tup [.str y,p])
theorem AN.same {H H':Hp} {us:List V} {ys:List Str} {ps:List V} (h:AN H us ys ps) (s:Ao H H'):AN H' us ys ps:=⟨h.1,h.2.1,fun j u y p a b c=>let ⟨tt,e,z⟩:=h.2.2 j u y p a b c; ⟨tt,e,s _ _ z⟩⟩
theorem AN.get {H:Hp} {us:List V} {ys:List Str} {ps:List V} (h:AN H us ys ps) {j:Nat} {u:V} (e:us[j]? = some u):∃ tt y p,ys[j]? = some y/\ps[j]? = some p/\u=.ref tt/\H tt=some (.tup [.str y,p]):=by
 have hj:=(Z2.mp e).1;have h1:=h.1;have h2:=h.2.1;obtain ⟨tt,e1,e2⟩:=h.2.2 j u _ _ e (Zt (show j < ys.length by lia)) (Zt (show j < ps.length by lia));exact ⟨tt,_,_,Zt (by lia),Zt (by lia),e1,e2⟩
theorem AN.app {H:Hp} {us vs:List V} {ys zs:List Str} {ps qs:List V} (h:AN H us ys ps) (g:AN H vs zs qs):AN H (us ++ vs) (ys ++ zs) (ps ++ qs):=by
 refine ⟨by rw [Zy,Zy,h.1,g.1],by rw [Zy,Zy,h.2.1,g.2.1],fun j u y p a b c=>?_⟩;have h1:=h.1;have h2:=h.2.1;by_cases hj:j < us.length
 ·rw [ZR hj] at a;rw [ZR (by lia)] at b c;exact h.2.2 j u y p a b c
 ·rw [ZV (by lia)] at a b c;rw [<-h1] at b;rw [h2,<-h1] at c;exact g.2.2 _ u y p a b c
theorem AN.take {H:Hp} {us:List V} {ys:List Str} {ps:List V} (h:AN H us ys ps) (i:Nat):AN H (us.take i) (ys.take i) (ps.take i):=by
 refine ⟨by rw [ZE,ZE,h.1],by rw [ZE,ZE,h.2.1],fun j u y p a b c=>?_⟩;have hj:=(Z2.mp a).1;rw [ZE] at hj;rw [bH (by lia)] at a b c;exact h.2.2 j u y p a b c
theorem AN.drop {H:Hp} {us:List V} {ys:List Str} {ps:List V} (h:AN H us ys ps) (i:Nat):AN H (us.drop i) (ys.drop i) (ps.drop i):=by
 refine ⟨by rw [ZU,ZU,h.1],by rw [ZU,ZU,h.2.1],fun j u y p a b c=>?_⟩;rw [cn] at a b c;exact h.2.2 _ u y p a b c
theorem AN.rev {H:Hp} {us:List V} {ys:List Str} {ps:List V} (h:AN H us ys ps):AN H us.reverse ys.reverse ps.reverse:=by
 refine ⟨by rw [aB,aB,h.1],by rw [aB,aB,h.2.1],fun j u y p a b c=>?_⟩;have hj:=(Z2.mp a).1;have h1:=h.1;have h2:=h.2.1;rw [aB] at hj;rw [aT hj] at a;rw [aT (by lia),<-h1] at b;rw [aT (by lia),h2,<-h1] at c;exact h.2.2 _ u y p a b c
theorem AN.nil {H:Hp}:AN H [] [] []:=⟨rfl,rfl,fun j u y p a _ _=>by simp at a⟩
theorem AN.one {H:Hp} {t:Addr} {y:Str} {p:V} (h:H t=some (.tup [.str y,p])):AN H [.ref t] [y] [p]:=⟨rfl,rfl,fun j u y' p' a b c=>by
 cases j with
 | zero=>simp at a b c; subst a b c; exact ⟨t,rfl,h⟩
 | succ j=>simp at a⟩
theorem ET {K:Zw} {H:Hp} {t:Addr} {us:List V} {zs ys:List Str} {ps:List V} (ht:H t=some (.tup us)) (ra:AN H us zs ps) (nm:∀ z ∈ zs,AL z=true) (ne:zs ≠ ys):CL K H (.ref t) ys false:=by
 have ul:=ra.1;refine .inr ⟨t,us,rfl,ht,?_⟩;by_cases hl:us.length=ys.length
 ·refine .inr ⟨hl,(zs.zip ys).map (fun z=>AL z.1 && decide (z.1=z.2)),by rw [Zv,bx]; lia,?_,fun i u y c a1 a2 a3=>?_⟩
  ·cases hb:((zs.zip ys).map (fun z=>AL z.1 && decide (z.1=z.2))).all id with
   | false=>rfl
   | true=>
    refine absurd (cv fun i=>?_) ne;rw [aF,ZZ] at hb;by_cases hi:i < zs.length
    ·rw [Zt hi,Zt (show i < ys.length by lia)];have:=hb (zs[i],ys[i]'(by lia)) (Zx (i:=i) (by rw [aL]; exact ⟨Zt hi,Zt (by lia)⟩));have e2:decide (zs[i]=ys[i]'(by lia))=true:=(Bool.and_eq_true_iff.mp this).2;rw [of_decide_eq_true e2]
    ·rw [av (by lia),av (show ys.length<=i by lia)]
  ·obtain ⟨tt,z,p,ez,_,rfl,htt⟩:=ra.get a1;have e:(zs.zip ys)[i]? = some (z,y):=by rw [aL]; exact ⟨ez,a2⟩
   rw [Z0,e] at a3;cases a3
   exact .inr ⟨tt,_,rfl,htt,.inr ⟨_,_,rfl,.inr ⟨z,rfl,ZS (Dy (nm z (Zx ez))) (by decide),rfl⟩⟩⟩
 ·exact .inl ⟨hl,rfl⟩
theorem Nh {K:Zw} {H:Hp} {T:Addr} {us:List V} {ys:List Str} {ps:List V} {i:Nat} {y:Str} {v:V} (hT:H T=some (.tup ((us.take i ++ [v]) ++ us.drop (i + 1)))) (ra:AN H us ys ps) (nm:∀ z ∈ ys,AL z=true) (hy:ys[i]? = some y) (bad:Ep K H v y false):CL K H (.ref T) ys false:=by
 have ul:=ra.1;have hi:i < ys.length:=(Z2.mp hy).1;have EL:i < us.length:=by lia
 refine .inr ⟨T,_,rfl,hT,.inr ⟨by rw [Ef EL]; exact ul,(ZW us.length).map fun j=>!decide (j=i),by rw [Ef EL,Zv,af],?_,fun j u z c a1 a2 a3=>?_⟩⟩
 ·cases hb:((ZW us.length).map fun j=>!decide (j=i)).all id with
  | false=>rfl
  | true=>
   rw [aF,ZZ] at hb;have:=hb i (aH.mpr EL);simp at this
 ·rw [KL EL] at a1;have hc:c = !decide (j=i):=by
   rw [Z0] at a3;by_cases hj:j < us.length
   ·rw [bB hj] at a3;exact (ZJ.inj a3).symm
   ·rw [av (by rw [af]; lia)] at a3;cases a3
  rw [hc];by_cases h:j=i
  ·subst h;rw [if_pos rfl] at a1;rw [hy] at a2;cases a1
   cases a2
   rw [decide_eq_true rfl];exact bad
  ·rw [if_neg h] at a1;obtain ⟨tt,z',p,ez,_,rfl,htt⟩:=ra.get a1;rw [ez] at a2;cases a2
   rw [decide_eq_false h];exact Ep.right (nm _ (Zx ez)) htt
def Qq (K:Zw) (w:V) (H:Hp) (p:V):Prop:=p=w\/p=.bl false\/(Fg K H p/\K1 K H p)
def Be (K:Zw) (us:List V) (ys:List Str) (i:Nat) (w:V) (H:Hp) (v:V):Prop:=CL K H v ys false\/∃ (T tt:Addr) (y:Str) (p:V),v=.ref T/\H T=some (.tup ((us.take i ++ [.ref tt]) ++ us.drop (i + 1)))/\ys[i]? = some y/\H tt=some (.tup [.str y,p])/\Qq K w H p
theorem Qq.same {K:Zw} {H H':Hp} {w p:V} (h:Qq K w H p) (s:Ao H H'):Qq K w H' p:=by
 rcases h with h | h | ⟨h,h2⟩
 ·exact .inl h
 ·exact .inr (.inl h)
 ·exact .inr (.inr ⟨h.same s,h2.same s⟩)
theorem Be.stay {K:Zw} {us:List V} {ys:List Str} {i:Nat} {w:V}:Jz (Be K us ys i w):=fun v H H' h s=>by
 rcases h with h | ⟨T,tt,y,p,e,hT,ey,ht,o⟩
 ·exact .inl (h.same s)
 ·exact .inr ⟨T,tt,y,p,e,s _ _ hT,ey,s _ _ ht,o.same s⟩
def Fl (K:Zw):Sp:=fun vs H Q _=>∃ (t:Addr) (w:V) (i:Nat) (us:List V) (ys:List Str) (ps:List V),vs=[.ref t,w,.int i]/\H t=some (.tup us)/\AN H us ys ps/\i < ys.length/\ys.length<=30/\ys.Nodup/\(∀ y ∈ ys,AL y=true)/\(∀ y ∈ ys,y ≠ Str.ofString "zzzzzz") /\
 ∀ (H':Hp) (D:Addr) (ts:List V),Ao H H'->H' D=some (.lst ts)->(∀ u ∈ ts,Be K us ys i w H' u)->ts.length<=30->Q (.ref D) H'
theorem Be.goes {K:Zw} {us:List V} {ys:List Str} {ps:List V} {i:Nat} {H:Hp} {v:V} {ss:List Str} (h:Be K us ys i (.str (Str.ofString "zzzzzz")) H v) (ra:AN H us ys ps) (hp:∀ p ∈ ps,∃ s,p=.str s/\AL s=true/\s ∈ ss) (nz:Str.ofString "zzzzzz" ∉ ss):MI K H v ys ss false:=by
 rcases h with h | ⟨T,tt,y,p,rfl,hT,ey,ht,od⟩
 ·exact .inl ⟨rfl,h⟩
 have ul:=ra.1;have pl:=ra.2.1;have hi:i < ys.length:=(Z2.mp ey).1;have EL:i < us.length:=by lia
 refine .inr ⟨T,_,rfl,hT,by rw [Ef EL]; exact ul,(ZW us.length).map fun j=>!decide (j=i),by rw [Ef EL,Zv,af],?_,fun j u z c a1 a2 a3=>?_⟩
 ·cases hb:((ZW us.length).map fun j=>!decide (j=i)).all id with
  | false=>rfl
  | true=>
   rw [aF,ZZ] at hb;have:=hb i (aH.mpr EL);simp at this
 ·rw [KL EL] at a1;have hc:c = !decide (j=i):=by
   rw [Z0] at a3;by_cases hj:j < us.length
   ·rw [bB hj] at a3;exact (ZJ.inj a3).symm
   ·rw [av (by rw [af]; lia)] at a3;cases a3
  rw [hc];by_cases h:j=i
  ·subst h;rw [if_pos rfl] at a1;rw [ey] at a2;cases a1
   cases a2
   rw [decide_eq_true rfl];exists tt,p,rfl,ht;rcases od with rfl | rfl | ⟨n1,_⟩
   ·exact .inr ⟨_,rfl,by decide,by rw [decide_eq_false nz,cJ]; rfl⟩
   ·exact .inl ⟨⟨_,.bl false,rfl⟩,rfl⟩
   ·exact .inl ⟨n1,rfl⟩
  ·rw [if_neg h] at a1;obtain ⟨Yo,z',p',ez,ep,rfl,htt⟩:=ra.get a1;rw [ez] at a2;cases a2
   rw [decide_eq_false h];obtain ⟨s,rfl,n,m⟩:=hp p' (Zx ep);exact ⟨Yo,_,rfl,htt,.inr ⟨s,rfl,ZS (Dy n) (by decide),by rw [n,decide_eq_true m]; rfl⟩⟩
theorem Be.prices {K:Zw} {us:List V} {ys:List Str} {ps:List V} {i:Nat} {H:Hp} {v:V} (h:Be K us ys i (.int (-1)) H v) (ra:AN H us ys ps) (hp:∀ p ∈ ps,∃ n:Int,p=.int n/\0<=n):CF K H v ys false:=by
 rcases h with h | ⟨T,tt,y,p,rfl,hT,ey,ht,od⟩
 ·exact .inl ⟨rfl,h⟩
 have ul:=ra.1;have pl:=ra.2.1;have hi:i < ys.length:=(Z2.mp ey).1;have EL:i < us.length:=by lia
 refine .inr ⟨T,_,rfl,hT,by rw [Ef EL]; exact ul,(ZW us.length).map fun j=>!decide (j=i),by rw [Ef EL,Zv,af],?_,fun j u z c a1 a2 a3=>?_⟩
 ·cases hb:((ZW us.length).map fun j=>!decide (j=i)).all id with
  | false=>rfl
  | true=>
   rw [aF,ZZ] at hb;have:=hb i (aH.mpr EL);simp at this
 ·rw [KL EL] at a1;have hc:c = !decide (j=i):=by
   rw [Z0] at a3;by_cases hj:j < us.length
   ·rw [bB hj] at a3;exact (ZJ.inj a3).symm
   ·rw [av (by rw [af]; lia)] at a3;cases a3
  rw [hc];by_cases h:j=i
  ·subst h;rw [if_pos rfl] at a1;rw [ey] at a2;cases a1
   cases a2
   rw [decide_eq_true rfl];exists tt,p,rfl,ht;rcases od with rfl | rfl | ⟨_,n2⟩
   ·exact .inl ⟨_,rfl,rfl⟩
   ·exact .inr ⟨rfl,.inl ⟨_,rfl⟩⟩
   ·exact .inr ⟨rfl,.inr n2⟩
  ·rw [if_neg h] at a1;obtain ⟨Yo,z',p',ez,ep,rfl,htt⟩:=ra.get a1;rw [ez] at a2;cases a2
   rw [decide_eq_false h];obtain ⟨n,rfl,n0⟩:=hp p' (Zx ep);exact ⟨Yo,_,rfl,htt,.inl ⟨n,rfl,(decide_eq_true n0).symm⟩⟩
theorem Bx.stay {K:Zw} {Aw Au:List AV} {x:V}:Jz (Bx K Aw Au x):=fun v H H' h s=>by
 rcases h with h | ⟨t,us,e,ht,hl | ⟨o,wk,pr,lv,e2,bad⟩⟩
 ·exact .inl (h.same s)
 ·exact .inr ⟨t,us,e,s _ _ ht,.inl hl⟩
 ·refine .inr ⟨t,us,e,s _ _ ht,.inr ⟨o,wk,pr,lv,e2,?_⟩⟩;rcases bad with bad | ⟨oa,ss,e3,ho,op,l,bad⟩
  ·exact .inl (Ca.stay _ _ _ bad s)
  ·refine .inr ⟨oa,ss,e3,s _ _ ho,op,l,?_⟩;rcases bad with bad | ⟨go,bad | ⟨bad,T,qs,e4,⟨Qt,hT,du⟩,ok⟩⟩
   ·exact .inl (bad.same s)
   ·exact .inr ⟨go.same s,.inl (bad.same s)⟩
   ·exact .inr ⟨go.same s,.inr ⟨bad.same s,T,qs,e4,⟨Qt,s _ _ hT,AW du fun b ys z=>s _ _ z⟩,ok⟩⟩
theorem J6.keepT {H H':Hp} {c m pp o t T:Addr} {n:Nat} {xs:List Str} {ws:List AH} {Aw Au:List AV} {x:V} {d:PyData} {ss:List Str} {zs:List (Str × Str)} {qs:List AV} {lv:Int} (h:J6 H c m pp o t T n xs ws Aw Au x d ss zs qs lv) (s:∀ b ys,H b=some (.tup ys)->H' b=some (.tup ys)):J6 H' c m pp o t T n xs ws Aw Au x d ss zs qs lv:=by
 obtain ⟨us,a,b⟩:=h.wk;exact ⟨h.cp.keepT s,s _ _ h.pap,s _ _ h.op,h.ne,h.ri,h.sub,h.lb,⟨us,s _ _ a,Df s b⟩,h.zn,h.zs',h.lev,h.st⟩
theorem J6.rowsW {H:Hp} {c m pp o t T:Addr} {n:Nat} {xs:List Str} {ws:List AH} {Aw Au:List AV} {x:V} {d:PyData} {ss:List Str} {zs:List (Str × Str)} {qs:List AV} {lv:Int} (h:J6 H c m pp o t T n xs ws Aw Au x d ss zs qs lv):∃ us,H t=some (.tup us)/\AN H us (Au.map (·.1)) (zs.map fun z=>V.str z.2):=by
 obtain ⟨us,a,b⟩:=h.wk;have zl:=h.zl;refine ⟨us,a,by rw [L9 b,Zv,zl],by rw [Zv,Zv,zl],fun j u y p e1 e2 e3=>?_⟩;obtain ⟨z,tt,ez,rfl,htt⟩:=Ku b e1;rw [<-h.zn,Z0,ez] at e2;rw [Z0,ez] at e3;cases e2
 cases e3
 exact ⟨tt,rfl,htt⟩
theorem CP.rowsP {H:Hp} {c m T:Addr} {n:Nat} {xs:List Str} {ws:List AH} {Aw Au qs:List AV} {x:V} {d:PyData} (h:CP H c m T n xs ws Aw Au qs x d):∃ us,H T=some (.tup us)/\AN H us (Au.map (·.1)) (qs.map fun q=>V.int q.2):=by
 obtain ⟨us,a,b⟩:=h.ex;have ql:=h.ok.len;refine ⟨us,a,by rw [AJ b,Zv,ql],by rw [Zv,Zv,ql],fun j u y p e1 e2 e3=>?_⟩;obtain ⟨q,tt,eq,rfl,htt⟩:=Bv b e1;rw [<-h.ok.nm,Z0,eq] at e2;rw [Z0,eq] at e3;cases e2
 cases e3
 exact ⟨tt,rfl,htt⟩
def Ff (K:Zw) (H:Hp) (v:V):Prop:=DP K H v\/∃ (t:Addr) (us:List V),v=.ref t/\H t=some (.tup us)/\(us.length ≠ 4\/∃ a r,us=a :: r/\DP K H a)
theorem Ff.stay {K:Zw}:Jz (Ff K):=fun v H H' h s=>by
 rcases h with h | ⟨t,us,e,ht,hl | ⟨a,r,e2,n⟩⟩
 ·exact .inl (h.same s)
 ·exact .inr ⟨t,us,e,s _ _ ht,.inl hl⟩
 ·exact .inr ⟨t,us,e,s _ _ ht,.inr ⟨a,r,e2,n.same s⟩⟩
theorem Ff.bad {K:Zw} {Aw Au:List AV} {x:V} {H:Hp} {v:V} (h:Ff K H v):Bx K Aw Au x H v:=by
 rcases h with h | ⟨t,us,e,ht,hl | ⟨a,r,e2,n⟩⟩
 ·exact .inl h
 ·exact .inr ⟨t,us,e,ht,.inl hl⟩
 ·by_cases hl:us.length=4
  ·subst e2;obtain ⟨b,c,d,rfl⟩:=Vp (show r.length=3 by simpa using hl);exact .inr ⟨t,_,e,ht,.inr ⟨a,b,c,d,rfl,.inl (.inl n)⟩⟩
  ·exact .inr ⟨t,us,e,ht,.inl hl⟩
structure GK (mk:V->List V) (xs:List V) (H0:Hp) (D:Addr) (j:Nat) (H2:Hp) (acc:List V):Prop where
 s:Ao H0 H2
 l:H2 D=some (.lst acc)
 o:∀ u ∈ acc,∃ T r,u=.ref T/\r ∈ xs/\H2 T=some (.tup (mk r))
 n:acc.length=j
theorem GK.next {mk:V->List V} {xs:List V} {H0 H2 H3:Hp} {D T:Addr} {j:Nat} {acc:List V} {r:V} (h:GK mk xs H0 D j H2 acc) (hD:H0 D=none) (s:Ao H2 H3) (hT:H3 T=some (.tup (mk r))) (hr:r ∈ xs):H3 D=some (.lst acc)/\GK mk xs H0 D (j + 1) (upd H3 D (.lst (acc ++ [.ref T]))) (acc ++ [.ref T]):=by
 have d3:=s _ _ h.l;have tp:∀ {b:Addr} {ys:List V},H3 b=some (.tup ys)->(upd H3 D (.lst (acc ++ [.ref T]))) b=some (.tup ys):=fun {b ys} e=>by
  rw [Ae (by intro z; subst z; rw [d3] at e; cases e)];exact e
 refine ⟨d3,fun b o e=>by rw [Ae (Ah e hD)]; exact s _ _ (h.s _ _ e),Ab,fun u hu=>?_,by rw [Zy,h.n]; rfl⟩;rcases Z9.mp hu with hu | hu
 ·obtain ⟨T',r',e,NA,Ul⟩:=h.o u hu;exact ⟨T',r',e,NA,tp (s _ _ Ul)⟩
 ·rw [ZH.mp hu];exact ⟨T,r,rfl,hr,tp hT⟩
theorem GK.nil {mk:V->List V} {xs:List V} {H0:Hp} {D:Addr} (hD:H0 D=none):GK mk xs H0 D 0 (upd H0 D (.lst [])) []:=⟨Ac hD,Ab,(fun u hu=>nomatch hu),rfl⟩
end L2
namespace L2
open PySem PySem.Spec PySem.W PyProof.Rows
section
variable {prog:Program} {w:World} {A:Around} {E:Value->Shared->Prop} {s:Shared} {κ:SortKind} {lt:Keyed->Keyed->Bool} {a0:Array Keyed}
theorem Gd {n:Nat} (h1:1<=n) (Lm:n < 64):(sortPriv% PySem.Builtin.minRun) n n 0=n:=by
 obtain ⟨f,hf⟩:∃ f,n=f + 1:=⟨n - 1,by lia⟩
 have:minRun' (f + 1) n 0=n:=by rw [minRun'_succ,if_pos Lm]; rfl
 rw [<-hf] at this;exact this
theorem Iw {st:SortSt} {Q:Unit->SortSt->Prop} (an:VQ prog w A s κ lt a0) (hk:kindOf st=κ) (ha:arrOf st=a0) (hf:failedOf st=none) (hpe:pendingOf st=#[]) (h2:1<=a0.size) (Lm:a0.size < 64)
  (h:∀ Bh,(arrOf Bh).Perm a0->failedOf Bh=none->Q () Bh):wpS (model prog w) A E s sortRuns' Q st:=by
 have hp:(arrOf st).Perm a0:=by rw [ha]
 refine wpS_bind (wpS_get ?_);dsimp only;have ez:((sortPriv% PySem.Builtin.SortState.a) st).size=a0.size:=by rw [show (sortPriv% PySem.Builtin.SortState.a) st=a0 from ha]
 rw [ez];refine wpS_bind (wpS_mono (wpS_forRange (I:=fun x c Bh=>(x=0/\c=(none,0)/\Bh=st)\/(1<=x/\c=(none,a0.size)/\(arrOf Bh).Perm a0/\failedOf Bh=none/\(pendingOf Bh).size<=1 ))
  (Q:=fun c Bh=>c=(none,a0.size)/\(arrOf Bh).Perm a0/\failedOf Bh=none/\(pendingOf Bh).size<=1 ) ?step ?fin (.inl ⟨rfl,rfl,rfl⟩)) ?post)
 case fin=>
  rintro c Bh (⟨hx,_,_⟩ | ⟨_,r⟩)
  ·lia
  ·exact r
 case step=>
  rintro x c Bh _ hx (⟨rfl,rfl,rfl⟩ | ⟨_,rfl,r⟩)
  ·dsimp only;rw [if_neg (by lia)];refine wpS_bind (J9 an hk hp (by lia) (by lia) fun m ys k1 m1 m2=>?_);dsimp only;have hpd:∀ zs,(pendingOf (setArr Bh zs)).back? = none:=fun zs=>by
    show (pendingOf Bh).back? = none
    rw [hpe];rfl
   by_cases hm:m < (sortPriv% PySem.Builtin.minRun) a0.size a0.size 0
   ·rw [if_pos hm];refine wpS_bind (wpS_lift (wpAny_rule ⟨rfl,?_⟩));refine wpS_bind (HJ (st:=setArr Bh ys) an hk (k1.1.trans hp) (by lia) m1 (by lia) fun zs k2=>?_);simp only [eF,ab,if_false];refine wpS_bind (wpS_get ?_);rw [hpd];dsimp only;have emin:min (a0.size - 0) ((sortPriv% PySem.Builtin.minRun) a0.size a0.size 0)=a0.size:=by rw [Gd h2 Lm]; lia
    rw [emin];exact wpS_bind (wpS_modify (wpS_pure (.inr ⟨by lia,by rw [aV],k2.1.trans (k1.1.trans hp),hf,by show ((pendingOf Bh).push _).size<=1; rw [hpe]; exact Z4 1 ⟩)))
   ·rw [if_neg hm];rw [Gd h2 Lm] at hm;have em:m=a0.size:=by lia
    refine wpS_bind (wpS_get ?_);rw [hpd];dsimp only;rw [em];exact wpS_bind (wpS_modify (wpS_pure (.inr ⟨by lia,by rw [aV],k1.1.trans hp,hf,by show ((pendingOf Bh).push _).size<=1; rw [hpe]; exact Z4 1 ⟩)))
  ·dsimp only;rw [if_pos (Z4 _)];exact wpS_pure ⟨rfl,r⟩
 case post=>
  rintro c Bh ⟨rfl,r1,r2,r3 ⟩;dsimp only;refine wpS_bind (wpS_mono (wpS_forRange (I:=fun _ c HL=>HL=Bh/\c=(none,())) (Q:=fun c HL=>HL=Bh/\c=(none,())) ?_ (fun _ _ hh=>hh) ⟨rfl,rfl⟩) ?_)
  ·rintro x c HL _ _ ⟨rfl,rfl⟩;refine wpS_bind (wpS_get ?_);rw [if_pos r3];exact wpS_pure ⟨rfl,rfl⟩
  ·rintro c HL ⟨rfl,rfl⟩;exact wpS_pure (h _ r1 r2 )
theorem Nv {a:Addr} {vs:List Value} {n:Nat} {P:Fin->Shared->Prop} (lies:s.heap.get? a=some (seqObj "list" vs.toArray n)) (few:vs.length<=sizeLine) (Lm:vs.length < 64)
  (cm:2<=vs.length->∀ h',(∀ b o,b ≠ a->s.heap.get? b=some o->h'.get? b=some o) ->
   ∃ κ,(∀ (Q:SortKind->Shared->Prop) (E:Value->Shared->Prop),Q κ { s with heap:=h' }->wpAny (model prog w) A (keyKind' vs.toArray) Q E { s with heap:=h' })/\VQ prog w A { s with heap:=h' } κ lt (pairsOf vs))
  (k:∀ out:List Value,out.Perm vs->P (.done (.ret .none)) { s with heap:=sortedHeap s.heap a vs out.toArray }) :
  wpAny (model prog w) A (Builtin.«list.sort» ⟨[.ref a],[]⟩) P E s:=by
 have alt:=Z1 lies;rw [list_sort_plain];refine wpAny_bind (listItems_at lies rfl (wpAny_bind (listUpdate_at lies rfl ?_ (by simpa using few) (ZQ _))));obtain ⟨c,Uc⟩:∃ c,(s.heap.update a (Obj.mapSeq fun _=>#[])).get? a=some (seqObj "list" #[] c):=⟨_,get?_update_seq lies (fun _=>#[])⟩
 refine wpAny_bind (seqEpoch_at Uc rfl (wpAny_bind (wpAny_newTuple (wpAny_bind (wpAny_newList (wpAny_holding ?_) (ZQ _))) (by simpa using few))));obtain ⟨h3,Ye⟩:∃ h3,h3=((s.heap.update a (Obj.mapSeq fun _=>(#[]:Array Value))).push (seqObj "tuple" vs.toArray 0)).push (seqObj "list" #[] 0):=⟨_,rfl⟩
 have O0:h3.get? a=some (seqObj "list" #[] c):=by
  rw [Ye];exact Zu _ (Zu _ Uc)
 have W6:∀ b o,b ≠ a->s.heap.get? b=some o->h3.get? b=some o:=fun b o hb e=>by
  rw [Ye];exact Zu _ (Zu _ ((dv _ _ _ _ hb).trans e))
 show wpAny (model prog w) A _ P E { s with heap:=((s.heap.update a (Obj.mapSeq fun _=>(#[]:Array Value))).push (seqObj "tuple" vs.toArray 0)).push (seqObj "list" #[] 0) }
 rw [<-Ye];have last:∀ Bh:SortSt,(arrOf Bh).Perm (pairsOf vs)->P (.done (.ret .none)) { s with heap:=h3.update a (Obj.mapSeq fun _=>(arrOf Bh).map (·.2)) }:=fun Bh hp=>by
  have e:(arrOf Bh).map (·.2)=((arrOf Bh).toList.map (·.2)).toArray:=by apply dI.mp; simp
  have q:=k _ (Rq hp);rw [<-e] at q;rw [Ye];exact q
 have zl:∀ Bh:SortSt,(arrOf Bh).Perm (pairsOf vs)->((arrOf Bh).map (·.2)).size<=sizeLine + 1:=fun Bh hp=>by
  rw [Array.size_map,hp.size_eq,pairsOf_size];lia
 have zv:vs.toArray.size=vs.length:=rfl;dsimp only;rcases eL vs.toArray.size 2 with lo | hi
 ·rw [if_pos lo,if_pos lo];refine wpAny_bind (wpAny_pure ?_);rw [StateT.run_pure];refine wpAny_bind (wpAny_pure (wpAny_bind (seqEpoch_at O0 rfl ?_)));have p0:(arrOf (SortSt.mk' general' (vs.toArray.zip vs.toArray) #[] 7 none)).Perm (pairsOf vs):=Array.Perm.refl _;refine wpAny_bind (listUpdate_at O0 rfl ?_ (ZQ _) (zl _ p0));rw [bne_self_eq_false];exact wpAny_pure (last _ p0)
 ·rw [if_neg (by lia),if_neg (by lia)];obtain ⟨κ,k1,k2⟩:=cm (by lia) h3 W6;refine wpAny_bind (k1 _ _ ?_);refine wpAny_bind (wpAny_mono (Iw (a0:=pairsOf vs) (st:=SortSt.mk' κ (vs.toArray.zip vs.toArray) #[] 7 none)
   (Q:=fun _ Bh=>(arrOf Bh).Perm (pairsOf vs)/\failedOf Bh=none) k2 rfl rfl rfl rfl (by rw [pairsOf_size]; lia) (by rw [pairsOf_size]; lia) fun Bh a1 a2=>⟨a1,a2⟩) ?_ fun _ _ e=>e)
  rintro ⟨u,Bh⟩ s' ⟨rfl,hp,hf⟩;refine wpAny_bind (seqEpoch_at O0 rfl (wpAny_bind (listUpdate_at O0 rfl ?_ (ZQ _) (zl _ hp))));dsimp only;rw [hf,bne_self_eq_false];exact wpAny_pure (last Bh hp)
theorem QQ {l:Addr} {vs:List Value} {Q:Value->Shared->Prop} (hl:s.heap.IsList l vs.toArray) (few:vs.length<=sizeLine) (Lm:vs.length < 64) (cm:Cmpd prog w s lt vs)
  (k:∀ out:List Value,out.Perm vs->Q (.ref (s.heap.objs.size + 1)) { s with heap:=sortedAll s.heap vs out.toArray }) :
  wpAny (model prog w) A (call (.builtin "sorted") [.ref l]) Q E s:=by
 refine Calls.call_function_entry kind_sorted plain_sorted entry_sorted (args_sorted1 _) ?_;unfold Builtin.«sorted»;refine wpAny_bind (m:=checkCount "sorted" 1 1 _) (wpAny_pure (wpAny_bind (collect_list hl ?_ few)));refine wpAny_bind (wpAny_newList ?_ (by simpa using few));obtain ⟨h1,Yf⟩:∃ h1,h1=(s.heap.push (seqObj "list" #[] 0)).update s.heap.objs.size (Obj.mapSeq (· ++ vs.toArray)):=⟨_,rfl⟩
 have z1:h1.objs.size=s.heap.objs.size + 1:=by rw [Yf,dU,size_push']
 have lies:(h1.push (seqObj "list" vs.toArray 0)).get? (s.heap.objs.size + 1)=some (seqObj "list" vs.toArray 0):=by
  rw [<-z1];exact Z5 _ rfl
 have keep:∀ b o,s.heap.get? b=some o->(h1.push (seqObj "list" vs.toArray 0)).get? b=some o:=fun b o q=>by
  have hb:=Z1 q;refine Zu _ ?_;rw [Yf,dv _ _ _ _ (Z8 hb)];exact Zu _ q
 show wpAny _ _ _ _ _ { s with heap:=((s.heap.push (seqObj "list" #[] 0)).update s.heap.objs.size (Obj.mapSeq (· ++ vs.toArray))).push (seqObj "list" vs.toArray 0) }
 rw [<-Yf,z1];refine wpAny_bind (wpAny_holding (wpAny_call_entry slot_list_sort ⟨_,lies,rfl⟩ entry_list_sort (Nv (lt:=lt) (s:={ s with heap:=h1.push (seqObj "list" vs.toArray 0) }) lies few Lm ?_ fun out o1=>⟨_,rfl,wpAny_pure ⟨_,rfl,?_⟩⟩) (args_list_sort _)))
 ·intro h2 h' kp;exact cm h2 _ h' fun b o e=>kp b o (Z8 (ZY (Z1 e))) (keep b o e)
 ·have q:=k out o1;unfold sortedAll at q;rw [<-Yf] at q;exact q
end
theorem D4 {X:Cx}:Bz X (.builtin "sorted") (fun xs H Q=>∃ (a:Addr) (vs:List V) (kd:Nat->Bool),xs=[.ref a]/\AX X.K H a vs/\(∀ v ∈ vs,NL H kd v)/\vs.length < 64 /\
  ∀ (l:Addr) (FI:List V),H l=none->FI.Perm vs->Q (.ref l) (upd H l (.lst FI))):=by
 intro pins s σ H xs us Q I r h;obtain ⟨a,vs,kd,rfl,ha,hk,Lm,q⟩:=h;obtain ⟨u,rfl,ru⟩:=Ce r;cases ru
 obtain ⟨Ax,rv,pl,hz⟩:=I.list ha;refine QQ pl.isList (by rw [<-rv.length]; exact hz) (by rw [<-rv.length]; exact Lm) (OS (NY I rv hk)) fun out o1=>?_
 obtain ⟨FI,rv',pv⟩:=OM o1 rv;obtain ⟨e,he⟩:=sortedAll_at s.heap Ax out.toArray;exact ⟨.ref (s.heap.objs.size + 1),_,I.laid (o:=.lst FI) (t':=s.toks) (fun b o z=>sortedAll_old z) (ZX _) ⟨by rw [pv.length_eq]; exact hz,out,e,rv',he⟩,rfl,q _ FI (I.hok.fresh (ZX _)) pv⟩
theorem D5 (K:Zw) {X:Cx} (h:X.K=K):Bz X (.builtin "sorted") (fun xs H Q=>∃ (a:Addr) (vs:List V) (rs:List AV),xs=[.ref a]/\AX K H a vs/\AB H vs (rs.map Cq)/\vs.length < 64 /\
  ∀ (l:Addr) (FI:List V) (LV:List AV),H l=none->AB H FI (LV.map Cq)->LV.Perm rs->Q (.ref l) (upd H l (.lst FI))):=by
 subst h;intro pins s σ H xs us Q I r h;obtain ⟨a,vs,rs,rfl,ha,hd,Lm,q⟩:=h;refine D4 (pins:=pins) s σ H _ us Q I r ⟨a,vs,_,rfl,ha,(Kf hd).1,Lm,fun l FI hl pv=>?_⟩;obtain ⟨LV,d1,p1⟩:=Pj pv hd;exact q l FI LV hl d1 p1
theorem FF (K:Zw) {X:Cx} (h:X.K=K):Bz X (.builtin "sorted") (fun xs H Q=>∃ (a:Addr) (vs:List V) (rs:List AH),xs=[.ref a]/\AX K H a vs/\AB H vs (rs.map EM)/\vs.length < 64 /\
  ∀ (l:Addr) (FI:List V) (LV:List AH),H l=none->AB H FI (LV.map EM)->LV.Perm rs->Q (.ref l) (upd H l (.lst FI))):=by
 subst h;intro pins s σ H xs us Q I r h;obtain ⟨a,vs,rs,rfl,ha,hd,Lm,q⟩:=h;refine D4 (pins:=pins) s σ H _ us Q I r ⟨a,vs,_,rfl,ha,(JS hd).1,Lm,fun l FI hl pv=>?_⟩;obtain ⟨LV,d1,p1⟩:=Qi pv hd;exact q l FI LV hl d1 p1
end L2
namespace K21
open PySem L2
def top (i:Nat):Stmt:=PySem.Challenge.pw_openhouses_k21_things_that_are_no_papers.main.body.getD i (.Pass ⟨0,0,0,0⟩)
abbrev Di:Stmt:=top 2
theorem Nc:A6 ["thing"] ["thing"] (An Di):=⟨rfl,rfl,rfl,by decide +kernel,rfl,by decide +kernel,by decide +kernel⟩
abbrev CW:Stmt:=top 3
theorem F2:A6 ["things"] ["things"] (An CW):=⟨rfl,rfl,rfl,by decide +kernel,rfl,by decide +kernel,by decide +kernel⟩
abbrev Ey:Stmt:=top 5
theorem Hj:A6 ["thing"] ["thing"] (An Ey):=⟨rfl,rfl,rfl,by decide +kernel,rfl,by decide +kernel,by decide +kernel⟩
abbrev BI:Stmt:=top 6
theorem Ec:A6 ["thing","least"] ["thing","least"] (An BI):=⟨rfl,rfl,rfl,by decide +kernel,rfl,by decide +kernel,by decide +kernel⟩
abbrev CS:Stmt:=top 8
theorem Fy:A6 ["web","places","ways","beside","one","other","length"] ["web"] (An CS):=⟨rfl,rfl,rfl,by decide +kernel,rfl,by decide +kernel,by decide +kernel⟩
abbrev KD:Stmt:=top 10
theorem Oo:A6 ["web","place","told"] ["web","place"] (An KD):=⟨rfl,rfl,rfl,by decide +kernel,rfl,by decide +kernel,by decide +kernel⟩
abbrev DE:Stmt:=top 11
theorem FQ:A6 ["case"] ["case"] (An DE):=⟨rfl,rfl,rfl,by decide +kernel,rfl,by decide +kernel,by decide +kernel⟩
abbrev Fo:Stmt:=top 12
theorem IF:A6 ["web","starts","beside","reached","settled","so_far","start","here","name","by_here"] ["web","starts"] (An Fo):=⟨rfl,rfl,rfl,by decide +kernel,rfl,by decide +kernel,by decide +kernel⟩
abbrev CV:Stmt:=top 14
theorem F1:A6 ["case","thing","sites"] ["case","thing"] (An CV):=⟨rfl,rfl,rfl,by decide +kernel,rfl,by decide +kernel,by decide +kernel⟩
abbrev C5:Stmt:=top 15
theorem EO:A6 ["case","web","sites","folk","limit"] ["case"] (An C5):=⟨rfl,rfl,rfl,by decide +kernel,rfl,by decide +kernel,by decide +kernel⟩
abbrev BJ:Stmt:=top 17
theorem Ee:A6 ["case","thing"] ["case","thing"] (An BJ):=⟨rfl,rfl,rfl,by decide +kernel,rfl,by decide +kernel,by decide +kernel⟩
abbrev Ez:Stmt:=top 18
theorem Ho:A6 ["thing","places"] ["thing","places"] (An Ez):=⟨rfl,rfl,rfl,by decide +kernel,rfl,by decide +kernel,by decide +kernel⟩
abbrev DH:Stmt:=top 19
theorem FU:A6 ["row","place"] ["row","place"] (An DH):=⟨rfl,rfl,rfl,by decide +kernel,rfl,by decide +kernel,by decide +kernel⟩
abbrev DI:Stmt:=top 21
theorem FV:A6 ["case","prices","away","manys"] ["case","prices","away"] (An DI):=⟨rfl,rfl,rfl,by decide +kernel,rfl,by decide +kernel,by decide +kernel⟩
abbrev Ia:Stmt:=top 22
theorem LU:A6 ["case","prices","levy"] ["case","prices","levy"] (An Ia):=⟨rfl,rfl,rfl,by decide +kernel,rfl,by decide +kernel,by decide +kernel⟩
abbrev Et:Stmt:=top 23
theorem GU:A6 ["case","aways","prices","levy"] ["case","aways","prices","levy"] (An Et):=⟨rfl,rfl,rfl,by decide +kernel,rfl,by decide +kernel,by decide +kernel⟩
abbrev CY:Stmt:=top 24
theorem F3:A6 ["case","thing"] ["case","thing"] (An CY):=⟨rfl,rfl,rfl,by decide +kernel,rfl,by decide +kernel,by decide +kernel⟩
abbrev Fq:Stmt:=top 25
theorem II:A6 ["case","thing"] ["case","thing"] (An Fq):=⟨rfl,rfl,rfl,by decide +kernel,rfl,by decide +kernel,by decide +kernel⟩
abbrev Dh:Stmt:=top 27
theorem IG:A6 ["case","paper","opening","ways","prices","levy"] ["case","paper"] (An Dh):=⟨rfl,rfl,rfl,by decide +kernel,rfl,by decide +kernel,by decide +kernel⟩
abbrev CZ:Stmt:=top 28
theorem F4:A6 ["case","opening","thing"] ["case","opening","thing"] (An CZ):=⟨rfl,rfl,rfl,by decide +kernel,rfl,by decide +kernel,by decide +kernel⟩
abbrev Fp:Stmt:=top 30
theorem IH:A6 ["_law_script","_law_k","_law_cell"] ["_law_script","_law_k"] (An Fp):=⟨rfl,rfl,rfl,by decide +kernel,rfl,by decide +kernel,by decide +kernel⟩
abbrev Bt:Stmt:=top 31
theorem GV:A6 ["_law_pen_here","_law_many","_law_digit","_law_number"] ["_law_pen_here","_law_many"] (An Bt):=⟨rfl,rfl,rfl,by decide +kernel,rfl,by decide +kernel,by decide +kernel⟩
abbrev DG:Stmt:=top 32
theorem FT:A6 ["_law_pen_here","_law_many","_law_letters","_law_base","_law_at","_law_first","_law_step","_law_more","_law_found","_law_k","_law_sign"] ["_law_pen_here","_law_many"] (An DG):=⟨rfl,rfl,rfl,by decide +kernel,rfl,by decide +kernel,by decide +kernel⟩
abbrev Ci:Stmt:=top 33
theorem ER:A6 ["_law_pen_here","_law_names_here","_law_kind","_law_size","_law_pairs","_law_k","_law_other","_law_one"] ["_law_pen_here","_law_names_here","_law_kind"] (An Ci):=⟨rfl,rfl,rfl,by decide +kernel,rfl,by decide +kernel,by decide +kernel⟩
abbrev Dr:Stmt:=top 34
theorem GX:A6 ["_law_pen_here","_law_names_here","_law_most","_law_pool"] ["_law_pen_here","_law_names_here","_law_most"] (An Dr):=⟨rfl,rfl,rfl,by decide +kernel,rfl,by decide +kernel,by decide +kernel⟩
abbrev Ex:Stmt:=top 35
theorem He:A6 ["_law_pen_here","_law_kind","_law_wide","_law_names_here","_law_much","_law_ways_here","_law_dear","_law_sites","_law_folk","_law_limit"] ["_law_pen_here","_law_kind"] (An Ex):=⟨rfl,rfl,rfl,by decide +kernel,rfl,by decide +kernel,by decide +kernel⟩
abbrev Ew:Stmt:=top 36
theorem GZ:A6 ["_law_case_here","_law_places","_law_ways_here","_law_away","_law_one","_law_other","_law_length","_law_by","_law_both"] ["_law_case_here"] (An Ew):=⟨rfl,rfl,rfl,by decide +kernel,rfl,by decide +kernel,by decide +kernel⟩
abbrev Eu:Stmt:=top 40
theorem GY:A6 ["_law_case_here","_law_away","_law_prices_here","_law_site","_law_found","_law_place","_law_many"] ["_law_case_here","_law_away","_law_prices_here","_law_site"] (An Eu):=⟨rfl,rfl,rfl,by decide +kernel,rfl,by decide +kernel,by decide +kernel⟩
abbrev CT:Stmt:=top 43
theorem Fz:A6 ["_law_case_here","_law_away","_law_prices_here","_law_levy","_law_at","_law_place","_law_price","_law_many","_law_others","_law_some_here","_law_site","_law_dues"] ["_law_case_here","_law_away","_law_prices_here","_law_levy","_law_at"] (An CT):=⟨rfl,rfl,rfl,by decide +kernel,rfl,by decide +kernel,by decide +kernel⟩
abbrev CU:Stmt:=top 44
theorem F0:A6 ["_law_pen_here","_law_case_here","_law_away","_law_levy","_law_prices_here","_law_order","_law_k","_law_at","_law_full","_law_some_here"] ["_law_pen_here","_law_case_here","_law_away","_law_levy"] (An CU):=⟨rfl,rfl,rfl,by decide +kernel,rfl,by decide +kernel,by decide +kernel⟩
abbrev C6:Stmt:=top 48
theorem ES:A6 ["_law_away","_law_place","_law_opening"] ["_law_away","_law_place","_law_opening"] (An C6):=⟨rfl,rfl,rfl,by decide +kernel,rfl,by decide +kernel,by decide +kernel⟩
abbrev DF:Stmt:=top 49
theorem FR:A6 ["_law_pen_here","_law_case_here","_law_away","_law_sites","_law_most","_law_opening","_law_walks","_law_levy"] ["_law_pen_here","_law_case_here","_law_away"] (An DF):=⟨rfl,rfl,rfl,by decide +kernel,rfl,by decide +kernel,by decide +kernel⟩
abbrev BC:Stmt:=top 50
theorem EE:A6 ["_law_rows","_law_other","_law_at","_law_place","_law_what","_law_some_here","_law_bent"] ["_law_rows","_law_other","_law_at"] (An BC):=⟨rfl,rfl,rfl,by decide +kernel,rfl,by decide +kernel,by decide +kernel⟩
abbrev Bu:Stmt:=top 51
theorem CM:A6 ["_law_opening","_law_some_here"] ["_law_opening"] (An Bu):=⟨rfl,rfl,rfl,by decide +kernel,rfl,by decide +kernel,by decide +kernel⟩
abbrev FX:Stmt:=top 52
theorem KC:A6 ["_law_script","_law_k","_law_pen_here","_law_case_here","_law_right_here","_law_opening","_law_walks","_law_prices_here","_law_levy","_law_at","_law_some_here","_law_thing"] ["_law_script"] (An FX):=⟨rfl,rfl,rfl,by decide +kernel,rfl,by decide +kernel,by decide +kernel⟩
section
variable {P:Program} {w:World} {K:Zw} {mg:Str->Option Value} {base:Heap}
theorem Mp (h_int:mg "int"=none) {f:Addr} {fd:FuncData} (F:DQ K "_law_fars" "_law_fars" Ew f fd):A7 P w K mg base Bw 1 f fd ["_law_case_here"] Oi:=by
 refine F.ok GZ (fun vs H Q E h=>?_) (fun cdv A outer s H vs Q E hr h=>?_)
 ·obtain ⟨cc,q,n,xs,ws,Aw,Au,x,d,rfl,_⟩:=h;rfl
 ·obtain ⟨cc,q,n,xs,ws,Aw,Au,x,d,rfl,cw,k⟩:=h;have hu:=CO hr;have nd:=GZ.nd;have big:16000000 < sizeLine:=by decide
  have two:2<=sizeLine:=by decide
  have mw:=cw.map;have X1:=cw.n1;have SR:=cw.n30;obtain ⟨c1,c2,FN,HY,hcc,_⟩:=cw.ex;obtain ⟨r0,okw,pos,uni⟩:=mw.web X1 SR;obtain ⟨D,e,us,hq,hD,hE,hW⟩:=mw.at'.ex;have ends:=okw.ends;have x30:xs.length<=30:=okw.l30;have w64:=okw.l64;have wof:∀ u ∈ ws,u.1 ∈ xs/\u.2.1 ∈ xs/\u.1 ≠ u.2.1/\1<=u.2.2:=fun u hu=>⟨(ends u hu).1,(ends u hu).2,mw.apart hu,pos u hu⟩
  have hwl:us.length=ws.length:=by rw [Js hW,Zv]
  refine ⟨_,(Ag (Ds (AD (AU K rfl) (pv 0) Af (fun _ _=>rfl)) (Ba K rfl rfl (Am (Ai (i:=1) nd rfl (Or.inl rfl)) (Am (Ai (i:=2) nd rfl (Or.inl rfl)) AZ))))
  (Ag (Ar (i:=3) nd rfl (Or.inl rfl) Rn)
  (Ag (Cb PassesOwn.never rfl (Bq K rfl (pv 1)) (Ai (i:=4) nd rfl (Or.inl rfl))
  (Ak (Cb PassesOwn.never rfl (Bq K rfl (pv 1)) (Ai (i:=5) nd rfl (Or.inl rfl))
  (Ak (DK hu (pv 3) (As (Aa (pv 4) (Aa (pv 5) Ad))) (AD (Mz K rfl) (Bl (Aa E3 (Aa Af Ad))) (A3 Eo (by rfl) h_int PyProof.Rows.boot_int (Aa (C7 Hs (pv 4) (pv 5) (B5 _)) Ad)) (fun _ _=>rfl)) rfl)))))
  (Ag (Cb PassesOwn.never rfl (Bq K rfl (pv 2)) (Ba K rfl rfl (Am (Ai (i:=4) nd rfl (Or.inl rfl)) (Am (Ai (i:=5) nd rfl (Or.inl rfl)) (Am (Ai (i:=6) nd rfl (Or.inl rfl)) AZ))))
  (Ag (DK hu (pv 3) (As (Aa (pv 4) (Aa (pv 5) Ad))) (pv 6) rfl)
  (Ak (DK hu (pv 3) (As (Aa (pv 5) (Aa (pv 4) Ad))) (pv 6) rfl))))
  (Ag (Cb PassesOwn.never rfl (Bq K rfl (pv 1)) (Ai (i:=7) nd rfl (Or.inl rfl))
  (Ak (Cb PassesOwn.never rfl (Bq K rfl (pv 1)) (Ai (i:=4) nd rfl (Or.inl rfl))
  (Ak (Cb PassesOwn.never rfl (Bq K rfl (pv 1)) (Ai (i:=5) nd rfl (Or.inl rfl))
  (Ak (C9 (Ng (IL (Ih (Bm hu (pv 3) (As (Aa (pv 4) (Aa (pv 7) Ad))) (fun _ _=>rfl)))) (Oq (IL (Ih (Bm hu (pv 3) (As (Aa (pv 7) (Aa (pv 5) Ad))) (fun _ _=>rfl)))))).pt
  (Ag (Ar (i:=8) nd rfl (Or.inl rfl) (Aq Bf (Bm hu (pv 3) (As (Aa (pv 4) (Aa (pv 7) Ad))) (fun _ _=>rfl)) (Bm hu (pv 3) (As (Aa (pv 7) (Aa (pv 5) Ad))) (fun _ _=>rfl))))
  (Ak (C9 (Ki (IL (Nl (Bm hu (pv 3) (As (Aa (pv 4) (Aa (pv 5) Ad))) (fun _ _=>rfl)))) (Gs (BN TV (pv 8) (Bm hu (pv 3) (As (Aa (pv 4) (Aa (pv 5) Ad))) (fun _ _=>rfl)) (B5 _)))).pt
  (Ak (DK hu (pv 3) (As (Aa (pv 4) (Aa (pv 5) Ad))) (pv 8) rfl))
  B3)))
  B3)))))))
  (Ak (A8 (pv 3)))))))),?_⟩
  exists _,rfl,cc,_,_,_,rfl,rfl,A4.of hcc,rfl,q,_,rfl,A4.of hq,rfl,_,_,rfl,_,_,rfl,rfl;intro A hA;have V0:MV (upd H A (.dT [])) A (fun _ _=>none) 0:=⟨[],Ab,Z4 _,fun x y=>rfl⟩
  have nAD:∀ {b:Addr} {u:HO},H b=some u->b ≠ A:=fun z=>Ah z hA
  have strAt:∀ {i:Nat} {v:V},(xs.map V.str)[i]? = some v->∃ x,xs[i]? = some x/\v=.str x/\i < xs.length:=fun {i v} h=>by
   rw [Z0] at h;cases ex:xs[i]? with
   | none=>rw [ex] at h; cases h
   | some x=>rw [ex] at h; exact ⟨x,rfl,(ZJ.inj h).symm,(Z2.mp ex).1⟩
  refine ⟨_,rfl,D,rfl,⟨_,A4.of (Ac hA _ _ hD)⟩,CC (xs:=xs.map V.str) (fun i σ H2=>(∃ v4 v5 v6 v7 v8,σ=[some (.ref cc),some (.ref D),some (.ref e),some (.ref A),v4,v5,v6,v7,v8])/\Ao H H2/\∃ G,MV H2 A G (i * 30)/\(∀ x y v,G x y=some v->x ∈ xs/\y ∈ xs/\v=oI (if x=y then some 0 else none))/\∀ (a:Nat) x,a < i->xs[a]? = some x->∀ y ∈ xs,∃ v,G x y=some v)
   ⟨⟨_,_,_,_,_,rfl⟩,Ac hA,_,V0.up (ZQ _),fun x y v h=>(by cases h),fun j x hj=>absurd hj (aZ _)⟩ (fun i σ H2 _ hP=>A4.of (hP.2.1 _ _ hD)) (fun i v σ H2 hv hP rt bk N hNi=>?_) (fun σ H2 hP=>?_)⟩
  ·obtain ⟨⟨v4,v5,v6,v7,v8,rfl⟩,s2,G0,hG0,m1,m2⟩:=hP;obtain ⟨one,eone,rfl,ilt⟩:=strAt hv;refine ⟨_,rfl,D,rfl,⟨_,A4.of (s2 _ _ hD)⟩,CC (xs:=xs.map V.str) (fun j σ H3=>(∃ v5 v6 v7 v8,σ=[some (.ref cc),some (.ref D),some (.ref e),some (.ref A),some (.str one),v5,v6,v7,v8])/\Ao H H3/\∃ G,MV H3 A G (i * 30 + j)/\(∀ x y v,G x y=some v->x ∈ xs/\y ∈ xs/\v=oI (if x=y then some 0 else none))/\(∀ (a:Nat) x,a < i->xs[a]? = some x->∀ y ∈ xs,∃ v,G x y=some v)/\∀ (b:Nat) y,b < j->xs[b]? = some y->∃ v,G one y=some v)
    ⟨⟨_,_,_,_,rfl⟩,s2,G0,hG0.up (by lia),m1,m2,fun b y hb=>absurd hb (aZ _)⟩ (fun i σ H3 _ hP=>A4.of (hP.2.1 _ _ hD)) (fun j v σ H3 hv hP rt bk N hNj=>?_) (fun σ H3 hP=>?_)⟩
   ·obtain ⟨⟨v5,v6,v7,v8,rfl⟩,s3,G1,XZ,m3,m4,m5⟩:=hP;obtain ⟨oth,eoth,rfl,jlt⟩:=strAt hv;have cb:i * 30 + j < 16000000:=by
     have:i * 30<=30 * 30:=bW _ (by lia);lia
    refine ⟨(by show 2<=sizeLine; lia),fun L hL=>?_⟩;have q1:=Ac (o:=.lst [.non,.int 0]) hL;have hL':(upd H3 L (.lst [.non,.int 0])) L=some (.lst [.non,.int 0]):=Ab;generalize upd H3 L (.lst [.non,.int 0])=H4 at q1 hL' ⊢;have ix:Gn [V.non,.int 0] (if decide (V.str one=V.str oth)=true then 1 else 0)=some (oI (if one=oth then some 0 else none)):=by
     by_cases z:one=oth
     ·subst z;rw [if_pos (decide_eq_true rfl),if_pos rfl];rfl
     ·rw [if_neg (fun h=>z (by have:=of_decide_eq_true h; injection this)),if_neg z];rfl
    refine ⟨_,rfl,_,rfl,rfl,.inr ⟨_,rfl,L,_,_,_,rfl,rfl,AX.of hL',ix,?_⟩⟩;refine ⟨_,rfl,_,rfl,_,rfl,two,fun t ht=>?_⟩;have q2:=q1.trans (Ac (o:=.tup [.str one,.str oth]) ht);obtain ⟨H5,dp,hG5,kvs,e5⟩:=(XZ.same q2).put (by lia) (v:=oI (if one=oth then some 0 else none)) (t:=t) (x:=one) (y:=oth) Ab;refine ⟨A,H5,rfl,dp,hNj _ _ ⟨⟨_,_,_,_,rfl⟩,fun b u z=>?_,_,hG5.up (by lia),fun x y v h=>?_,fun a x ha ex y hy=>?_,fun b y hb ey=>?_⟩⟩
    ·rw [e5,Ae (nAD z)];exact q2 _ _ (s3 _ _ z)
    ·unfold Nb at h;split at h
     ·rename_i hc
      obtain ⟨rfl,rfl⟩:=hc;cases h
      exact ⟨Zx eone,Zx eoth,rfl⟩
     ·exact m3 x y v h
    ·unfold Nb;split
     ·exact ⟨_,rfl⟩
     ·exact m4 a x ha ex y hy
    ·unfold Nb;split
     ·exact ⟨_,rfl⟩
     ·rename_i hc
      refine m5 b y ?_ ey;have:b ≠ j:=by
       rintro rfl;rw [eoth] at ey;exact hc ⟨rfl,(ZJ.inj ey).symm⟩
      lia
   ·obtain ⟨⟨v5,v6,v7,v8,rfl⟩,s3,G1,XZ,m3,m4,m5⟩:=hP;rw [Zv] at XZ m5;refine hNi _ _ ⟨⟨_,_,_,_,_,rfl⟩,s3,G1,XZ.up (by lia),m3,fun a x ha ex y hy=>?_⟩;by_cases ea:a=i
    ·subst ea;rw [eone] at ex;cases ex
     obtain ⟨b,hb,eb⟩:=ZM hy;exact m5 b y hb (by rw [Zt hb,eb])
    ·exact m4 a x (by lia) ex y hy
  obtain ⟨⟨v4,v5,v6,v7,v8,rfl⟩,s2,G,hG,m1,m2⟩:=hP;rw [Zv] at hG m2;obtain ⟨M,hMe⟩:∃ M:Str->Str->Option Int,M=fun x y=>if x=y/\x ∈ xs then some 0 else none:=⟨_,rfl⟩
  have hM:MO H2 A xs M 1000:=by
   refine ⟨G,hG.up (by lia),fun x hx y hy=>?_,fun x y hn=>?_⟩
   ·obtain ⟨a,ha,ea⟩:=ZM hx;obtain ⟨v,hv⟩:=m2 a x ha (by rw [Zt ha,ea]) y hy;rw [hv,(m1 x y v hv).2.2,hMe];by_cases z:x=y
    ·rw [if_pos z];show _=some (oI (if x=y/\x ∈ xs then some 0 else none))
     rw [if_pos ⟨z,hx⟩]
    ·rw [if_neg z];show _=some (oI (if x=y/\x ∈ xs then some 0 else none))
     rw [if_neg (fun h=>z h.1)]
   ·cases hg:G x y with
    | none=>rfl
    | some v=>exact absurd ⟨(m1 x y v hg).1,(m1 x y v hg).2.1⟩ hn
  have m1:∀ x y n,M x y=some n->x=y/\n=0:=fun x y n h=>by
   rw [hMe] at h;dsimp only at h;split at h
   ·rename_i hc
    cases h
    exact ⟨hc.1,rfl⟩
   ·cases h
  have Xh:∀ x ∈ xs,M x x=some 0:=fun x hx=>by
   rw [hMe];exact if_pos ⟨rfl,hx⟩
  refine ⟨_,rfl,e,rfl,⟨_,A4.of (s2 _ _ hE)⟩,CC (xs:=us) (fun i σ H3=>(∃ v4 v5 v6 v7 v8,σ=[some (.ref cc),some (.ref D),some (.ref e),some (.ref A),v4,v5,v6,v7,v8])/\Ao H H3/\∃ M,MO H3 A xs M (1000 + 2 * i)/\(∀ x y n,M x y=some n->(x=y/\n=0)\/BS ws x y n)/\(∀ x ∈ xs,M x x=some 0)/\∀ x y n,BS (ws.take i) x y n->M x y=some n)
   ⟨⟨_,_,_,_,_,rfl⟩,s2,M,(hM.up (by lia)),fun x y n h=>.inl (m1 x y n h),Xh,fun x y n h=>(by obtain ⟨u,hu,_⟩:=h; exact absurd hu Z3)⟩ (fun i σ H3 _ hP=>A4.of (hP.2.1 _ _ hE)) (fun i v σ H3 hv hP rt bk N hN=>?_) (fun σ H3 hP=>?_)⟩
  ·obtain ⟨⟨v4,v5,v6,v7,v8,rfl⟩,s3,M,hM,n1,n2,n3⟩:=hP;obtain ⟨u,tt,gu,rfl,htt⟩:=Fc hW hv;have um:=Zx gu;have une:u.1 ≠ u.2.1:=(wof u um).2.2.1;have hi:i < ws.length:=(Z2.mp gu).1;exists tt,_,rfl,A4.of (s3 _ _ htt),rfl,_,_,rfl,_,_,rfl,_,_,rfl,rfl;refine ⟨_,rfl,_,rfl,_,rfl,_,rfl,two,fun t ht=>?_⟩;obtain ⟨H4,dp,hM4,kvs,e4⟩:=(hM.same (Ac (o:=.tup [.str u.1,.str u.2.1]) ht)).put (by lia) (wof u um).1 (wof u um).2.1 (n:=u.2.2) (t:=t) (x:=u.1) (y:=u.2.1) Ab;have s4:Ao H H4:=fun b o z=>by
    rw [e4,Ae (nAD z)];exact Ac ht _ _ (s3 _ _ z)
   exists A,H4,rfl,dp;refine ⟨_,rfl,_,rfl,_,rfl,_,rfl,two,fun t2 F6=>?_⟩;obtain ⟨H5,dp2,hM5,kvs2,e5⟩:=(hM4.same (Ac (o:=.tup [.str u.2.1,.str u.1]) F6)).put (by lia) (wof u um).2.1 (wof u um).1 (n:=u.2.2) (t:=t2) (x:=u.2.1) (y:=u.1) Ab;refine ⟨A,H5,rfl,dp2,hN _ _ ⟨⟨_,_,_,_,_,rfl⟩,fun b o z=>?_,_,(hM5.up (by lia)),fun a b n h=>?_,fun x hx=>?_,fun a b n h=>?_⟩⟩
   ·rw [e5,Ae (nAD z)];exact Ac F6 _ _ (s4 _ _ z)
   ·unfold KA at h;split at h
    ·rename_i hc
     cases h
     exact .inr ⟨u,um,.inr ⟨hc.2.symm,hc.1.symm⟩,rfl⟩
    ·split at h
     ·rename_i hc
      cases h
      exact .inr ⟨u,um,.inl ⟨hc.1.symm,hc.2.symm⟩,rfl⟩
     ·exact n1 a b n h
   ·unfold KA;rw [if_neg (fun z=>une (z.2.symm.trans z.1)),if_neg (fun z=>une (z.1.symm.trans z.2))];exact n2 x hx
   ·have hE':BS ws a b n:=by
     obtain ⟨v,hv,r⟩:=h;exact ⟨v,aN hv,r⟩
    unfold KA;split
    ·rename_i hc
     have:=uni _ _ _ _ hE' ⟨u,um,.inr ⟨hc.2.symm,hc.1.symm⟩,rfl⟩;rw [this]
    ·rename_i hc1
     split
     ·rename_i hc
      have:=uni _ _ _ _ hE' ⟨u,um,.inl ⟨hc.1.symm,hc.2.symm⟩,rfl⟩;rw [this]
     ·rename_i Sm
      refine n3 a b n ?_;obtain ⟨v,hv,ev,el⟩:=h;rw [ZL,gu] at hv;rcases Z9.mp hv with hv | hv
      ·exact ⟨v,hv,ev,el⟩
      ·have:v=u:=by simpa using hv
       subst this;rcases ev with ⟨x1,x2⟩ | ⟨x1,x2⟩
       ·exact absurd ⟨x1.symm,x2.symm⟩ Sm
       ·exact absurd ⟨x2.symm,x1.symm⟩ hc1
  obtain ⟨⟨v4,v5,v6,v7,v8,rfl⟩,s3,M,hM,n1,n2,n3⟩:=hP;rw [hwl,ZN] at n3;have FW0:FW ws xs 0 M:=by
   refine ⟨fun x y n h=>?_,fun x y m g=>?_,fun x hx=>⟨0,n2 x hx,az _⟩⟩
   ·rcases n1 x y n h with ⟨rfl,rfl⟩ | h
    ·exact .nil x
    ·have:=Br.cons h (.nil y);rwa [cW] at this
   ·cases g with
    | edge e=>exact ⟨m,n3 x y m e,az _⟩
    | cons _ h _=>exact absurd h Z3
  refine ⟨_,rfl,D,rfl,⟨_,A4.of (s3 _ _ hD)⟩,CC (xs:=xs.map V.str) (fun t σ H4=>(∃ v4 v5 v6 v7 v8,σ=[some (.ref cc),some (.ref D),some (.ref e),some (.ref A),v4,v5,v6,v7,v8])/\Ao H H4/\∃ M,MO H4 A xs M (2000 + t * 1000)/\FW ws xs t M)
   ⟨⟨_,_,_,_,_,rfl⟩,s3,M,(hM.up (by lia)),FW0⟩ (fun i σ H4 _ hP=>A4.of (hP.2.1 _ _ hD)) (fun t v σ H4 hv hP rt bk N hNt=>?_) (fun σ H4 hP=>?_)⟩
  ·obtain ⟨⟨v4,v5,v6,v7,v8,rfl⟩,s4,M0,hM0,fw⟩:=hP;have strAt:∀ {i:Nat} {v:V},(xs.map V.str)[i]? = some v->∃ x,xs[i]? = some x/\v=.str x/\i < xs.length:=fun {i v} h=>by
    rw [Z0] at h;cases ex:xs[i]? with
    | none=>rw [ex] at h; cases h
    | some x=>rw [ex] at h; exact ⟨x,rfl,(ZJ.inj h).symm,(Z2.mp ex).1⟩
   obtain ⟨mid,emid,rfl,tlt⟩:=strAt hv;refine ⟨_,rfl,D,rfl,⟨_,A4.of (s4 _ _ hD)⟩,CC (xs:=xs.map V.str) (fun i σ H5=>(∃ v4 v5 v6 v8,σ=[some (.ref cc),some (.ref D),some (.ref e),some (.ref A),v4,v5,v6,some (.str mid),v8])/\Ao H H5/\∃ M,MO H5 A xs M (2000 + t * 1000 + i * 30)/\Gj M0 M/\(∀ x y n,M x y=some n->Br ws x y n)/\∀ (a:Nat) x,a < i->xs[a]? = some x->∀ y ∈ xs,∀ p1 p2,M0 x mid=some p1->M0 mid y=some p2->∃ n,M x y=some n/\n<=p1 + p2)
    ⟨⟨_,_,_,_,rfl⟩,s4,M0,(hM0.up (by lia)),Gj.refl _,fw.sound,fun a x ha=>absurd ha (aZ _)⟩ (fun i σ H5 _ hP=>A4.of (hP.2.1 _ _ hD)) (fun i v σ H5 hv hP rt bk N hNi=>?_) (fun σ H5 hP=>?_)⟩
   ·obtain ⟨⟨v4,v5,v6,v8,rfl⟩,s5,M1,V1,VZ,Yv,Sx⟩:=hP;obtain ⟨one,eone,rfl,ilt⟩:=strAt hv;refine ⟨_,rfl,D,rfl,⟨_,A4.of (s5 _ _ hD)⟩,CC (xs:=xs.map V.str) (fun j σ H6=>(∃ v5 v6 v8,σ=[some (.ref cc),some (.ref D),some (.ref e),some (.ref A),some (.str one),v5,v6,some (.str mid),v8])/\Ao H H6/\∃ M,MO H6 A xs M (2000 + t * 1000 + i * 30 + j)/\Gj M1 M/\(∀ x y n,M x y=some n->Br ws x y n)/\∀ (b:Nat) y,b < j->xs[b]? = some y->∀ p1 p2,M0 one mid=some p1->M0 mid y=some p2->∃ n,M one y=some n/\n<=p1 + p2)
     ⟨⟨_,_,_,rfl⟩,s5,M1,(V1.up (by lia)),Gj.refl _,Yv,fun b y hb=>absurd hb (aZ _)⟩ (fun i σ H6 _ hP=>A4.of (hP.2.1 _ _ hD)) (fun j v σ H6 hv hP rt bk N hNj=>?_) (fun σ H6 hP=>?_)⟩
    ·obtain ⟨⟨v5,v6,v8,rfl⟩,s6,M2,RK,VY,VU,Q8⟩:=hP;obtain ⟨oth,eoth,rfl,jlt⟩:=strAt hv;have cb:2000 + t * 1000 + i * 30 + j < 16000000:=by
      have:t * 1000<=30 * 1000:=bW _ (by lia);have:i * 30<=30 * 30:=bW _ (by lia);lia
     have moAll:=VZ.trans VY;have keepM:∀ {H7:Hp} {v8':Option V},Ao H6 H7->(∀ p1 p2,M0 one mid=some p1->M0 mid oth=some p2->∃ n,M2 one oth=some n/\n<=p1 + p2) ->
       (∃ w5 w6 w8,([some (.ref cc),some (.ref D),some (.ref e),some (.ref A),some (.str one),some (.str oth),v6,some (.str mid),v8']:St)=[some (.ref cc),some (.ref D),some (.ref e),some (.ref A),some (.str one),w5,w6,some (.str mid),w8])/\Ao H H7/\∃ M,MO H7 A xs M (2000 + t * 1000 + i * 30 + (j + 1))/\Gj M1 M/\(∀ x y n,M x y=some n->Br ws x y n)/\∀ (b:Nat) y,b < j + 1->xs[b]? = some y->∀ p1 p2,M0 one mid=some p1->M0 mid y=some p2->∃ n,M one y=some n/\n<=p1 + p2:=by
      intro H7 v8' s7 hv2;refine ⟨⟨_,_,_,rfl⟩,s6.trans s7,M2,((RK.same s7).up (by lia)),VY,VU,fun b y hb ey p1 p2 q1 q2=>?_⟩;by_cases eb:b=j
      ·subst eb;rw [eoth] at ey;cases ey
       exact hv2 p1 p2 q1 q2
      ·exact Q8 b y (by lia) ey p1 p2 q1 q2
     have hone:one ∈ xs:=Zx eone;have hoth:oth ∈ xs:=Zx eoth;have hmid:mid ∈ xs:=Zx emid;refine ⟨_,rfl,_,rfl,_,rfl,two,fun t1 Jg=>?_⟩;have z1:=Ac (o:=.tup [.str one,.str mid]) Jg;exists A,_,rfl,(RK.same z1).get hone hmid Ab,_,rfl;cases eo:M2 one mid with
     | none=>
      refine BO ?_;refine BO ?_;refine hNj _ _ (keepM z1 fun p1 p2 q1 _=>?_);obtain ⟨n',e',_⟩:=moAll one mid p1 q1;rw [eo] at e';cases e'
     | some a1=>
      refine CK ?_;refine ⟨_,rfl,_,rfl,_,rfl,two,fun t2 F6=>?_⟩;have z2:=z1.trans (Ac (o:=.tup [.str mid,.str oth]) F6);exists A,_,rfl,(RK.same z2).get hmid hoth Ab,_,rfl;cases em:M2 mid oth with
      | none=>
       refine BO ?_;refine hNj _ _ (keepM z2 fun p1 p2 _ q2=>?_);obtain ⟨n',e',_⟩:=moAll mid oth p2 q2;rw [em] at e';cases e'
      | some a2=>
       refine CK ?_;refine ⟨_,rfl,_,rfl,_,rfl,two,fun t3 YT=>?_⟩;have z3:=z2.trans (Ac (o:=.tup [.str one,.str mid]) YT);have g3:=(RK.same z3).get (x:=one) (y:=mid) (t:=t3) hone hmid Ab;rw [eo] at g3;refine ⟨A,.int a1,rfl,g3,_,rfl,_,rfl,_,rfl,two,fun t4 YS=>?_⟩;have z4:=z3.trans (Ac (o:=.tup [.str mid,.str oth]) YS);have g4:=(RK.same z4).get (x:=mid) (y:=oth) (t:=t4) hmid hoth Ab;rw [em] at g4;exists A,.int a2,rfl,g4,_,_,rfl,rfl;have low:∀ p1 p2,M0 one mid=some p1->M0 mid oth=some p2->a1 + a2<=p1 + p2:=fun p1 p2 q1 q2=>by
        obtain ⟨n1',VA,l1'⟩:=moAll one mid p1 q1;obtain ⟨n2',Wl,l2'⟩:=moAll mid oth p2 q2;rw [eo] at VA;rw [em] at Wl;cases VA
        cases Wl
        lia
       have putM:∀ {H7:Hp} (nn:Int),Ao H6 H7->nn<=a1 + a2->(∀ n,M2 one oth=some n->nn<=n)->Br ws one oth nn->∀ t6,H7 t6=none->∃ a H8,V.ref A=.ref a/\FH (upd H7 t6 (.tup [.str one,.str oth])) a (.ref t6) (.int nn) H8 /\
         ((∃ w5 w6 w8,([some (.ref cc),some (.ref D),some (.ref e),some (.ref A),some (.str one),some (.str oth),v6,some (.str mid),some (.int (a1 + a2))]:St)=[some (.ref cc),some (.ref D),some (.ref e),some (.ref A),some (.str one),w5,w6,some (.str mid),w8])/\Ao H H8/\∃ M,MO H8 A xs M (2000 + t * 1000 + i * 30 + (j + 1))/\Gj M1 M/\(∀ x y n,M x y=some n->Br ws x y n)/\∀ (b:Nat) y,b < j + 1->xs[b]? = some y->∀ p1 p2,M0 one mid=some p1->M0 mid y=some p2->∃ n,M one y=some n/\n<=p1 + p2):=by
        intro H7 nn s7 Zc hle hws t6 WE;have z6:=s7.trans (Ac (o:=.tup [.str one,.str oth]) WE);obtain ⟨H8,dp,hM8,kvs,e8⟩:=(RK.same z6).put (by lia) hone hoth (n:=nn) (t:=t6) (x:=one) (y:=oth) Ab;have mo8:Gj M2 (KA M2 one oth nn):=fun x y n h=>by
         unfold KA;split
         ·rename_i hc
          obtain ⟨rfl,rfl⟩:=hc;exact ⟨_,rfl,hle n h⟩
         ·exact ⟨n,h,az _⟩
        refine ⟨A,H8,rfl,dp,⟨_,_,_,rfl⟩,fun b o z=>?_,_,hM8,VY.trans mo8,fun x y n h=>?_,fun b y hb ey p1 p2 q1 q2=>?_⟩
        ·rw [e8,Ae (nAD z)];exact z6 _ _ (s6 _ _ z)
        ·unfold KA at h;split at h
         ·rename_i hc
          obtain ⟨rfl,rfl⟩:=hc;cases h
          exact hws
         ·exact VU x y n h
        ·by_cases eb:b=j
         ·subst eb;rw [eoth] at ey;cases ey
          refine ⟨nn,?_,eM Zc (low p1 p2 q1 q2)⟩;unfold KA;rw [if_pos ⟨rfl,rfl⟩]
         ·obtain ⟨n,en,ln⟩:=Q8 b y (by lia) ey p1 p2 q1 q2;obtain ⟨n',Zl,ln'⟩:=mo8 one y n en;exact ⟨n',Zl,by lia⟩
       have w12:=(VU _ _ _ eo).app (VU _ _ _ em);refine ⟨_,rfl,_,rfl,_,rfl,two,fun t5 X8=>?_⟩;have z5:=z4.trans (Ac (o:=.tup [.str one,.str oth]) X8);exists A,_,rfl,(RK.same z5).get (x:=one) (y:=oth) (t:=t5) hone hoth Ab,_,rfl;cases ez:M2 one oth with
       | none=>
        refine CK ?_;refine CK ?_;refine ⟨_,rfl,_,rfl,_,rfl,_,rfl,two,fun t6 WE=>?_⟩;exact (putM (a1 + a2) z5 (az _) (fun n h=>by rw [ez] at h; cases h) w12 t6 WE).imp fun _ h=>h.imp fun _ h=>⟨h.1,h.2.1,hNj _ _ h.2.2⟩
       | some a3=>
        refine BO ?_;refine ⟨_,rfl,_,rfl,_,rfl,_,rfl,two,fun t6 WE=>?_⟩;have z6:=z5.trans (Ac (o:=.tup [.str one,.str oth]) WE);have g6:=(RK.same z6).get (x:=one) (y:=oth) (t:=t6) hone hoth Ab;rw [ez] at g6;exists A,.int a3,rfl,g6,_,_,rfl,rfl,_,rfl;refine DT (fun BL=>?_) (fun BL=>?_)
        ·have BL:=of_decide_eq_true BL;refine ⟨_,rfl,_,rfl,_,rfl,_,rfl,two,fun t7 ht7=>?_⟩;exact (putM (a1 + a2) z6 (az _) (fun n h=>by rw [ez] at h; cases h; lia) w12 t7 ht7).imp fun _ h=>h.imp fun _ h=>⟨h.1,h.2.1,hNj _ _ h.2.2⟩
        ·have BL:¬ a1 + a2 < a3:=fun z=>BL (decide_eq_true z)
         refine hNj _ _ (keepM z6 fun p1 p2 q1 q2=>⟨a3,ez,?_⟩);have:=low p1 p2 q1 q2;lia
    ·obtain ⟨⟨v5,v6,v8,rfl⟩,s6,M2,RK,VY,VU,Q8⟩:=hP;rw [Zv] at RK Q8;refine hNi _ _ ⟨⟨_,_,_,_,rfl⟩,s6,M2,(RK.up (by lia)),VZ.trans VY,VU,fun a x ha ex y hy p1 p2 q1 q2=>?_⟩;by_cases ea:a=i
     ·subst ea;rw [eone] at ex;cases ex
      obtain ⟨b,hb,eb⟩:=ZM hy;exact Q8 b y hb (by rw [Zt hb,eb]) p1 p2 q1 q2
     ·obtain ⟨n,en,ln⟩:=Sx a x (by lia) ex y hy p1 p2 q1 q2;obtain ⟨n',Zl,ln'⟩:=VY x y n en;exact ⟨n',Zl,by lia⟩
   ·obtain ⟨⟨v4,v5,v6,v8,rfl⟩,s5,M1,V1,VZ,Yv,Sx⟩:=hP;rw [Zv] at V1 Sx;refine hNt _ _ ⟨⟨_,_,_,_,_,rfl⟩,s5,M1,(V1.up (by lia)),fw.next pos ends emid VZ Yv fun x hx y hy p1 p2 q1 q2=>?_⟩;obtain ⟨a,ha,ea⟩:=ZM hx;exact Sx a x ha (by rw [Zt ha,ea]) y hy p1 p2 q1 q2
  ·obtain ⟨⟨v4,v5,v6,v7,v8,rfl⟩,s4,M1,V1,fw⟩:=hP;rw [Zv] at V1 fw;exact ⟨_,rfl,k H4 A s4 hA ⟨_,_,V1.md (fun x hx y hy=>let ⟨nn,e,_⟩:=fw.doneW ends (fun x hx y hy=>let ⟨kk,a,_⟩:=mw.sums X1 SR x hx y hy; ⟨kk,a⟩) x hx y hy; ⟨nn,e⟩),fun x hx y hy=>(fw.doneW ends (fun x hx y hy=>let ⟨kk,a,_⟩:=mw.sums X1 SR x hx y hy; ⟨kk,a⟩) x hx y hy).imp fun nn h=>⟨by rw [if_pos ⟨hx,hy⟩]; exact h.1,h.2,mw.bound X1 SR hx hy h.2⟩⟩⟩
end
section
variable {P:Program} {w:World} {K:Zw} {mg:Str->Option Value} {base:Heap}
theorem Nq (h_abs:mg "abs"=none) (h_len:mg "len"=none) {f:Addr} {fd:FuncData} (F:DQ K "_law_pen" "_law_pen" Fp f fd):A7 P w K mg base Bw 1 f fd ["_law_script","_law_k"] (QL K):=by
 refine F.ok IH (fun vs H Q E h=>?_) (fun cdv A outer s H vs Q E hr h=>?_)
 ·obtain ⟨a,ns,k,rfl,_⟩:=h;rfl
 ·obtain ⟨a,ns,k,rfl,hS,k0,q⟩:=h;have nd:=IH.nd;have big:100000 < sizeLine:=by decide
  refine ⟨_,(Ag (Ar (i:=2) nd rfl (Or.inl rfl) (Aq Bf (Aq Cs Af (pv 1)) Af))
  (Ag (C9 (BN TV (pv 1) (Al AE (by rfl) h_len PySem.boot_len (Aa (pv 0) Ad)) (B5 _))
  (Ak (Ar (i:=2) nd rfl (Or.inl rfl) (AD Bc (pv 0) (pv 1) (fun _ _=>rfl))))
  B3)
  (Ag (C9 (BN TY (Al MF (by rfl) h_abs PyProof.Rows.boot_abs (Aa (pv 2) Ad)) (Aq Nm Af Af) (B5 _))
  (Ak (A8 (Bl (Aa (Al MF (by rfl) h_abs PyProof.Rows.boot_abs (Aa (pv 2) Ad)) (Aa Af (Aa (pv 1) Ad))))))
  B3)
  (Ak (A8 (Bl (Aa (Aq Bf (Aq EW (pv 2) Af) (Aq Cs Af (pv 1))) (Aa Af (Aa (pv 1) Ad))))))))),?_⟩
  have WX:=hS.sq;exists _,rfl,_,_,rfl,rfl,.inl ⟨by decide,by decide⟩,_,_,rfl,rfl;exists _,rfl,_,rfl,a,_,rfl,.inl WX,_,_,rfl,rfl,_,rfl;refine DT (fun BL=>?_) (fun _=>?_)
  ·rw [decide_eq_true_eq,Zv] at BL;obtain ⟨c,hc⟩:=RZ (ns:=ns) (i:=k) k0 BL;exists _,rfl,_,rfl,a,_,_,_,rfl,rfl,WX,hc;exists _,rfl,_,rfl,_,_,rfl,rfl,⟨by decide,by decide,by decide⟩,_,_,rfl,rfl,_,rfl;refine DT (fun _=>?_) (fun _=>?_)
   ·exact ⟨_,rfl,_,rfl,_,rfl,(by show 3<=sizeLine; decide),fun p hp=>q p _ _ _ hp⟩
   ·exact ⟨_,rfl,_,_,rfl,rfl,(by show (0:Int) < 2147483629; decide),_,rfl,_,_,rfl,rfl,.inl ⟨by decide,by decide⟩,_,_,rfl,rfl,_,rfl,(by show 3<=sizeLine; decide),fun p hp=>q p _ _ _ hp⟩
  ·exists _,rfl,_,rfl,_,_,rfl,rfl,⟨by decide,by decide,by decide⟩,_,_,rfl,rfl,_,rfl;refine DT (fun _=>?_) (fun _=>?_)
   ·exact ⟨_,rfl,_,rfl,_,rfl,(by show 3<=sizeLine; decide),fun p hp=>q p _ _ _ hp⟩
   ·exact ⟨_,rfl,_,_,rfl,rfl,(by show (0:Int) < 2147483629; decide),_,rfl,_,_,rfl,rfl,.inl ⟨by decide,by decide⟩,_,_,rfl,rfl,_,rfl,(by show 3<=sizeLine; decide),fun p hp=>q p _ _ _ hp⟩
theorem BF  {f:Addr} {fd:FuncData} (F:DQ K "_law_take" "_law_take" Bt f fd):A7 P w K mg base Bw 1 f fd ["_law_pen_here","_law_many"] CQ:=by
 refine F.ok GV (fun vs H Q E h=>?_) (fun cdv A outer s H vs Q E hr h=>?_)
 ·obtain ⟨p,m,rfl,_⟩:=h;rfl
 ·obtain ⟨p,m,rfl,⟨a,b,c,hp⟩,hm,Vx,k⟩:=h;have nd:=GV.nd;have big:100000 < sizeLine:=by decide
  refine ⟨_,(Ag (C9 (BN Hs (AD Bc (pv 0) Af (fun _ _=>rfl)) Af (B5 _))
  (Ag (Ar (i:=2) nd rfl (Or.inl rfl) (Aq EW (AD Bc (pv 0) Af (fun _ _=>rfl)) (pv 1)))
  (Ag (Ds (Aq Mj (AD Bc (pv 0) Af (fun _ _=>rfl)) (pv 1)) (Nj (pv 0) Af IE))
  (Ak (A8 (pv 2)))))
  B3)
  (Ag (Ds (Aq Bf (AD Bc (pv 0) Af (fun _ _=>rfl)) Af) (Nj (pv 0) Af IE))
  (Ag (Ar (i:=3) nd rfl (Or.inl rfl) (Aq EW (Aq Bf (Aq Bf (Aq Cs (AD Bc (pv 0) Af (fun _ _=>rfl)) Af) (Aq Cs Af (AD Bc (pv 0) Af (fun _ _=>rfl)))) Af) Af))
  (Ag (Ds (Aq EW (Aq Bf (Aq Bf (Aq Cs (pv 3) (Aq Bf (Aq EW (pv 3) Af) Af)) (Aq Cs Af (AD Bc (pv 0) Af (fun _ _=>rfl)))) Af) Af) (Nj (pv 0) Af IE))
  (Ak (A8 (Aq EW (Aq Mj (AD Bc (pv 0) Af (fun _ _=>rfl)) Af) (pv 1)))))))),?_⟩
  have sq:∀ {H':Hp} {a b c:Int},H' p=some (.lst (A2 a b c))->AX K H' p (A2 a b c):=fun h=>.inl (.inl h)
  exists _,rfl,p,_,_,_,rfl,rfl,sq hp,Vb _ _ _,rfl,_,rfl;refine DT (fun _=>?_) (fun _=>?_)
  ·exists _,rfl,p,_,_,_,rfl,rfl,sq hp,KN _ _ _,_,rfl,_,_,rfl,rfl,hm;exists _,rfl,p,_,_,_,rfl,rfl,sq hp,KN _ _ _,_,rfl,_,_,rfl,rfl,⟨hm,Vx⟩,_,rfl,p,_,_,0,rfl,rfl,hp,rfl,_,rfl;exact k _ _ _ _ (aY _ (by lia)) (bD _ hm)
  ·exists _,rfl,p,_,_,_,rfl,rfl,sq hp,Nk _ _ _,_,_,rfl,rfl,_,rfl,p,_,_,2,rfl,rfl,hp,rfl;have Ui:(upd H p (.lst (A2 a b (c + 1)))) p=some (.lst (A2 a b (c + 1))):=Ab;exists _,rfl,p,_,_,_,rfl,rfl,sq Ui,KN _ _ _,_,_,rfl,rfl,.inr ⟨by decide,by decide⟩,_,rfl,p,_,_,_,rfl,rfl,sq Ui,Nk _ _ _,_,_,rfl,rfl,.inl ⟨by decide,by decide⟩,_,_,rfl,rfl,_,_,rfl,rfl,_,_,rfl,rfl,(by show (0:Int) < 2147483647; decide)
   have h0:0<=(a * 48271 + 30011 * (c + 1) + 977) % 2147483647:=aY _ (by decide);have h1:(a * 48271 + 30011 * (c + 1) + 977) % 2147483647 < 2147483647:=bD _ (by decide);exists _,rfl,_,rfl,_,_,rfl,rfl,(by show (0:Int) < 65521; decide),_,_,rfl,rfl,_,_,rfl,rfl,.inl ⟨Int.lt_of_lt_of_le (b:=0) (by decide) h0,Int.lt_trans h1 (by decide)⟩,_,rfl,p,_,_,_,rfl,rfl,sq Ui,Nk _ _ _,_,_,rfl,rfl,.inl ⟨by decide,by decide⟩,_,_,rfl,rfl,_,_,rfl,rfl,_,_,rfl,rfl,(by show (0:Int) < 2147483587; decide),_,rfl,p,_,_,0,rfl,rfl,Ui,rfl;exists _,rfl,p,_,_,_,rfl,rfl,sq Ab,KN _ _ _,_,_,rfl,rfl,⟨by decide,by decide⟩,_,rfl,_,_,rfl,rfl,hm;rw [FO];exact k _ _ _ _ (aY _ (by lia)) (bD _ hm)
end
section
variable {P:Program} {w:World} {K:Zw} {mg:Str->Option Value} {base:Heap}
theorem Ht (h_len:mg "len"=none) (h_list:mg "list"=none) (h_min:mg "min"=none) (h_range:mg "range"=none) {fT:Addr} {fdT:FuncData} (XT:Fn K mg "_law_take" Bt ["_law_pen_here","_law_many"] fT fdT) (GT:A7 P w K mg base Bw 1 fT fdT ["_law_pen_here","_law_many"] CQ) {f:Addr} {fd:FuncData} (F:DQ K "_law_some" "_law_some" Dr f fd):A7 P w K mg base Bw 2 f fd ["_law_pen_here","_law_names_here","_law_most"] K6:=by
 refine F.ok GX (fun vs H Q E h=>?_) (fun cdv A outer s H vs Q E hr h=>?_)
 ·obtain ⟨p,e,xs,most,rfl,_⟩:=h;rfl
 ·obtain ⟨p,e,xs,most,rfl,P0,he,nep,x1,x30,m1,m30,k⟩:=h;have nd:=GX.nd;have big:100000 < sizeLine:=by decide
  refine ⟨_,(Ag (Ar (i:=3) nd rfl (Or.inr rfl) (A3 Cv (by rfl) h_list PyProof.Rows.boot_list (Aa (pv 1) Ad)))
  (Ak (A8 (Bb (N:=["_law_k","_law_pen_here","_law_pool"]) (σ0:=fun σ=>[none,some 0,some 3].map fun j=>j.bind fun j=>(σ[j]?).join) rfl (AI.caught (by rfl) (by decide +kernel) rfl (by decide +kernel) (by intro y hy; simp only [Zz,Z3,or_false] at hy; rcases hy with rfl | rfl <;> rfl)
   (by intro y hy e; simp only [Zz,Z3,or_false] at hy; rcases hy with rfl | rfl | rfl | rfl | rfl | rfl <;> first | exact ⟨_,rfl⟩ | cases e)) (fun σ _=>Bd.of [none,some 0,some 3] rfl (by
   intro i j x h1 h2;match i,h1,h2 with
   | 0,_,h2=>cases h2
   | 1,h1,h2=>cases h1; cases h2; exact ⟨rfl,.inl rfl,.inl rfl⟩
   | 2,h1,h2=>cases h1; cases h2; exact ⟨rfl,.inl rfl,.inl rfl⟩
   | n + 3,h1,_=>cases h1)) (Dm (by rfl) h_range (Aa (Al (G8 rfl) (by rfl) h_min PyProof.Rows.boot_min (Aa (Al AE (by rfl) h_len PySem.boot_len (Aa (pv 1) Ad)) (Aa (Aq Bf Af (Aj GT (hr.mono (by decide)) (by rfl) XT.mg XT.F.kp XT.b .nil Az (Aa (pv 0) (Aa (pv 2) Ad)))) Ad))) Ad))
   (fun s2 H C fp=>⟨(Ai (i:=0) (show (["_law_k","_law_pen_here","_law_pool"]:List Str).Nodup by decide +kernel) rfl (Or.inl rfl)),AK,(Ve K rfl PySem.F.plainAttrs_list PySem.F.slot_list_pop PySem.F.type_list_pop Mu (pv 2) (Aa (Aj GT (hr.mono (by decide)) (by rfl) XT.mg XT.F.kp XT.b .nil Az (Aa (pv 1) (Aa (Al (BM K rfl) (by rfl) h_len PySem.boot_len (Aa (pv 2) Ad)) Ad))) Ad))⟩))))),?_⟩
  refine ⟨_,rfl,e,_,rfl,.inl (AX.of he),fun PL hPL=>?_⟩;have s0:=Ac (o:=.lst (xs.map V.str)) hPL;have nPL:PL ≠ p:=P0.ne hPL;have P1:A5 (upd H PL (.lst (xs.map V.str))) p:=P0.other nPL;have hPP:(upd H PL (.lst (xs.map V.str))) PL=some (.lst (xs.map V.str)):=Ab;generalize upd H PL (.lst (xs.map V.str))=H1 at s0 P1 hPP;refine ⟨_,rfl,e,_,rfl,.inl (AX.of (s0 _ _ he)),_,rfl,_,rfl,p,most,rfl,P1,by lia,by lia,fun d a b c d0 d1=>⟨_,_,rfl,rfl,_,_,rfl,_,rfl,?_,?_,?_⟩⟩
  ·split <;> lia
  ·split <;> lia
  rw [Zv];obtain ⟨n,en,n1,nm,nx⟩:∃ n:Nat,(if (1 + d) < (xs.length:Int) then (1 + d) else (xs.length:Int)).toNat=n/\1<=n/\(n:Int)<=most/\n<=xs.length:=by
   refine ⟨_,rfl,?_,?_,?_⟩ <;> (split <;> lia)
  rw [en];have P2:A5 (upd H1 p (.lst (A2 a b c))) p:=A5.set a b c;have XX:(upd H1 p (.lst (A2 a b c))) PL=some (.lst (xs.map V.str)):=by rw [Ae nPL]; exact hPP
  have k2:∀ b' o,b' ≠ p->b' ≠ PL->H b'=some o->(upd H1 p (.lst (A2 a b c))) b'=some o:=fun b' o hb _ z=>by rw [Ae hb]; exact s0 _ _ z
  have fr:∀ D,(upd H1 p (.lst (A2 a b c))) D=none->H D=none:=fun D hD=>by
   have nD:=P2.ne hD;rw [Ae nD] at hD;cases z:H D with
   | none=>rfl
   | some o=>rw [s0 _ _ z] at hD; cases hD
  generalize upd H1 p (.lst (A2 a b c))=H2 at P2 XX k2 fr;refine LX (n:=n) (fun D i σ H' acc=>∃ (v0:Option V) (ys left:List Str),σ=[v0,some (.ref p),some (.ref PL)]/\A5 H' p/\(∀ b o,b ≠ p->b ≠ PL->H b=some o->H' b=some o)/\H' PL=some (.lst (left.map V.str))/\H' D=some (.lst acc)/\acc=ys.map V.str/\acc.length=i/\(ys ++ left).Perm xs)
   (by lia) (fun D hD=>⟨_,[],xs,rfl,P2.other (P2.ne hD),fun b o h1 h2 z=>by rw [Ae (Ah z (fr D hD))]; exact k2 b o h1 h2 z,by rw [Ae (Ah XX hD)]; exact XX,Ab,rfl,rfl,List.Perm.refl _⟩)
   (fun D i σ H' acc hD ⟨v0,ys,left,_,_,_,_,Bj,_,al,_⟩=>⟨Bj,al⟩) ?_ ?_
  ·rintro D i σ H' acc B hD hi ⟨v0,ys,left,rfl,P3,k3,h3,Bj,ea,al,pm⟩ hB;have yl:ys.length=i:=by rw [<-al,ea,Zv]
   have ll:ys.length + left.length=xs.length:=by rw [<-Zy]; exact pm.length_eq
   have nD:=P2.ne hD;have nDP:D ≠ PL:=fun z=>by rw [z,XX] at hD; cases hD
   refine ⟨_,rfl,.inl ⟨rfl,_,AX.of h3⟩,_,rfl,_,rfl,PL,_,rfl,.inl (AX.of h3),p,_,rfl,P3,?_,?_,fun e' a1 b1 c1 Yg Wk=>?_⟩
   ·rw [Zv]; lia
   ·rw [Zv]; lia
   rw [Zv] at Wk;obtain ⟨q,rfl⟩:∃ q:Nat,e'=(q:Int):=⟨e'.toNat,by lia⟩
   have hq:q < left.length:=by lia
   have hget:left[q]? = some left[q]:=Zt hq;have h4:(upd H' p (.lst (A2 a1 b1 c1))) PL=some (.lst (left.map V.str)):=by rw [Ae nPL]; exact h3
   exists PL,_,_,q,.str left[q],rfl,rfl,h4,by lia,by lia,?_,by rw [Z0,hget]; rfl
   ·rw [Zv];exact (Ik (by show PX left.length (q:Int)=some q; unfold PX; rw [if_pos (by lia),if_pos (by lia)]; rfl)).1
   rw [Gz];refine hB _ _ _ (by rw [Ae nDP,Ae nD]; exact Bj) ⟨_,ys ++ [left[q]],left.eraseIdx q,rfl,((A5.set a1 b1 c1).other nPL).other nD,fun b' o hb Io z=>?_,?_,Ab,by rw [ea,Z7]; rfl,by rw [Zy,al]; rfl,?_⟩
   ·rw [Ae (Ah z (fr D hD)),Ae Io,Ae hb];exact k3 b' o hb Io z
   ·rw [Ae nDP.symm];exact Ab
   ·refine List.Perm.trans ?_ pm;rw [aM];exact List.Perm.append_left _ (EG hget)
  ·rintro D σ H' acc hD ⟨v0,ys,left,rfl,P3,k3,h3,Bj,ea,al,pm⟩;have yl:ys.length=n:=by rw [<-al,ea,Zv]
   exact k H' D ys left P3 (fun b' o hb z=>k3 b' o hb (Ah z hPL) z) (fr D hD) (by rw [Bj,ea]) pm (by lia) (by lia)
end
section
variable {P:Program} {w:World} {K:Zw} {mg:Str->Option Value} {base:Heap}
theorem KS (h_len:mg "len"=none) (h_range:mg "range"=none) {fT:Addr} {fdT:FuncData} (XT:Fn K mg "_law_take" Bt ["_law_pen_here","_law_many"] fT fdT) (GT:A7 P w K mg base Bw 1 fT fdT ["_law_pen_here","_law_many"] CQ) {f:Addr} {fd:FuncData} (F:DQ K "_law_names" "_law_names" DG f fd):A7 P w K mg base Bw 2 f fd ["_law_pen_here","_law_many"] LN:=by
 refine F.ok FT (fun vs H Q E h=>?_) (fun cdv A outer s H vs Q E hr h=>?_)
 ·obtain ⟨p,n,rfl,_⟩:=h;rfl
 ·obtain ⟨p,n,rfl,hP,hn,k⟩:=h;have nd:=FT.nd;have big:100000 < sizeLine:=by decide
  refine ⟨_,(Ag (Ar (i:=2) nd rfl (Or.inr rfl) Du)
  (Ag (Ar (i:=3) nd rfl (Or.inl rfl) (IP PySem.F.plainAttrs_str PySem.F.slot_str_join PySem.F.type_str_join SU Du (Aa (Bb (N:=["_law_k","_law_pen_here","_law_letters"]) (σ0:=fun σ=>[none,some 0,some 2].map fun j=>j.bind fun j=>(σ[j]?).join) rfl (AI.caught (by rfl) (by decide +kernel) rfl (by decide +kernel) (by intro y hy; simp only [Zz,Z3,or_false] at hy; rcases hy with rfl | rfl <;> rfl)
   (by intro y hy e; simp only [Zz,Z3,or_false] at hy; rcases hy with rfl | rfl | rfl | rfl | rfl <;> first | exact ⟨_,rfl⟩ | cases e)) (fun σ _=>Bd.of [none,some 0,some 2] rfl (by
   intro i j x h1 h2;match i,h1,h2 with
   | 0,_,h2=>cases h2
   | 1,h1,h2=>cases h1; cases h2; exact ⟨rfl,.inl rfl,.inl rfl⟩
   | 2,h1,h2=>cases h1; cases h2; exact ⟨rfl,.inl rfl,.inl rfl⟩
   | n + 3,h1,_=>cases h1)) (Dm (by rfl) h_range (Aa (Aj GT (hr.mono (by decide)) (by rfl) XT.mg XT.F.kp XT.b .nil Az (Aa (pv 0) (Aa Af Ad))) Ad))
   (fun s2 H C fp=>⟨(Ai (i:=0) (show (["_law_k","_law_pen_here","_law_letters"]:List Str).Nodup by decide +kernel) rfl (Or.inl rfl)),AK,(AD R7 (pv 2) (Aj GT (hr.mono (by decide)) (by rfl) XT.mg XT.F.kp XT.b .nil Az (Aa (pv 1) (Aa Af Ad))) (fun _ _=>rfl))⟩)) Ad)))
  (Ag (Ar (i:=4) nd rfl (Or.inl rfl) (Aj GT (hr.mono (by decide)) (by rfl) XT.mg XT.F.kp XT.b .nil Az (Aa (pv 0) (Aa (Aq Bf (Al Gh (by rfl) h_len PySem.boot_len (Aa (pv 3) Ad)) Af) Ad))))
  (Ag (Ar (i:=5) nd rfl (Or.inl rfl) (Aj GT (hr.mono (by decide)) (by rfl) XT.mg XT.F.kp XT.b .nil Az (Aa (pv 0) (Aa Af Ad))))
  (Ag (Ar (i:=6) nd rfl (Or.inl rfl) (AD Bc (Bl (Aa Af (Aa Af (Aa Af (Aa Af Ad))))) (Aj GT (hr.mono (by decide)) (by rfl) XT.mg XT.F.kp XT.b .nil Az (Aa (pv 0) (Aa Af Ad))) (fun _ _=>rfl)))
  (Ag (Ar (i:=7) nd rfl (Or.inl rfl) (Aj GT (hr.mono (by decide)) (by rfl) XT.mg XT.F.kp XT.b .nil Az (Aa (pv 0) (Aa Af Ad))))
  (Ag (Ar (i:=8) nd rfl (Or.inl rfl) (Bl Ad))
  (Ag (Cb PassesOwn.never rfl (Dm (by rfl) h_range (Aa (pv 1) Ad)) (Ai (i:=9) nd rfl (Or.inl rfl))
  (Ag (Ar (i:=10) nd rfl (Or.inl rfl) (AD R7 (pv 2) (Aq EW (Aq Bf (pv 5) (Aq Cs (pv 6) (pv 9))) Af) (fun _ _=>rfl)))
  (Ak (Ie (IP PySem.F.plainAttrs_list PySem.F.slot_list_append PySem.F.type_list_append Dn (pv 8) (Aa (Aq F8 (Aq F8 (Aq F8 (Ga (pv 3) Bp (Bo (pv 4))) (pv 10)) (Ga (pv 3) (Bo (pv 4)) Bp)) (Aq Rr Du (Aq Cs (pv 7) (Aq EW (pv 9) Af)))) Ad))))))
  (Ak (A8 (pv 8))))))))))),?_⟩
  refine ⟨rfl,_,rfl,p,5,rfl,hP,by decide,by decide,fun d a b c da db=>⟨_,rfl,by lia,by lia,?_⟩⟩;show ∀ D,(upd H p (.lst (A2 a b c))) D=none->_
  have P1:A5 (upd H p (.lst (A2 a b c))) p:=A5.set a b c;have q1:AA p H (upd H p (.lst (A2 a b c))):=AA.upd;generalize upd H p (.lst (A2 a b c))=H1 at P1 q1;refine LX (n:=d.toNat) (fun D i σ H' acc=>∃ (v0:Option V) (ss:List Str),σ=[v0,some (.ref p),some (.str Ge)]/\A5 H' p/\AA p H1 H'/\H' D=some (.lst acc)/\acc=ss.map V.str/\acc.length=i/\∀ s ∈ ss,s.length=1/\Tx s)
   (by lia) (fun D hD=>⟨_,[],rfl,P1.other (P1.ne hD),AA.of_same (Ac hD),Ab,rfl,rfl,fun s hs=>nomatch hs⟩) (fun D i σ H' acc hD ⟨v0,ss,_,_,_,Bj,_,al,_⟩=>⟨Bj,al⟩) ?_ ?_
  ·rintro D i σ H' acc B hD hi ⟨v0,ss,rfl,P2,q2,Bj,ea,al,lo⟩ hB;have nD:=P1.ne hD;refine ⟨_,rfl,_,rfl,p,26,rfl,P2,by decide,by decide,fun e a1 b1 c1 Yg Wk=>?_⟩;have lc:=Hz _ (Lr (E7 Yg Wk));exists _,_,_,rfl,rfl,by decide,E7 Yg Wk
   refine hB _ _ _ (by rw [Ae nD]; exact Bj) ⟨_,ss ++ [⟨#[97 + e.toNat]⟩],rfl,(A5.set a1 b1 c1).other nD,fun b' o hb z=>?_,Ab,by rw [ea,Z7]; rfl,by rw [Zy,al]; rfl,fun s hs=>?_⟩
   ·rw [Ae (Ah z hD),Ae hb];exact q2 b' o hb z
   ·rcases Z9.mp hs with hs | hs
    ·exact lo s hs
    ·rw [ZH] at hs;subst hs;refine ⟨rfl,fun c hc=>?_⟩;have:c=97 + e.toNat:=by simpa using hc
     subst this;exact lc
  rintro D0 σ0 H2 acc hD0 ⟨v0,ss,rfl,P2,q2,Bj,ea,al,lo⟩;obtain ⟨j1,j2,j3⟩:=R6 lo;have sl:ss.length=d.toNat:=by rw [<-al,ea,Zv]
  exists _,D0,ss,rfl,rfl,by rw [Bj,ea],by decide,by lia
  generalize Txt.join (Str.ofString "") ss=bs at j1 j2;have bl:bs.length<=4:=by lia
  refine ⟨_,rfl,_,rfl,bs,rfl,by lia,_,_,rfl,rfl,p,_,rfl,P2,by lia,by lia,fun at' a2 b2 c2 at0 VG=>?_⟩;refine ⟨_,rfl,p,26,rfl,A5.set a2 b2 c2,by decide,by decide,fun st a3 b3 c3 I0 st1=>?_⟩;rw [FO];refine ⟨(by show 4<=sizeLine; lia),fun T8 hT8=>?_⟩;have n8:T8 ≠ p:=(A5.set (H:=H2) (p:=p) a3 b3 c3).ne hT8;refine ⟨_,rfl,p,4,rfl,(A5.set a3 b3 c3).other n8,by decide,by decide,fun e8 a4 b4 c4 e8a e8b=>?_⟩;obtain ⟨sp,hsp⟩:=RZ (ns:=[1,5,7,11]) e8a e8b;exists T8,_,_,.int sp,rfl,rfl,AX.of (by rw [Ae n8]; exact Ab),hsp;have spm:sp ∈ ([1,3,5,7,9,11,15,17]:List Int):=by
   have:=Lr hsp;simp only [ZI,cu,Zz,V.int.injEq,Z3,or_false] at this;rcases this with rfl | rfl | rfl | rfl <;> simp
  have spb:0<=sp/\sp<=17:=by
   simp only [Zz,Z3,or_false] at spm;rcases spm with rfl | rfl | rfl | rfl | rfl | rfl | rfl | rfl <;> lia
  have P4:A5 (upd (upd (upd H2 p (.lst (A2 a3 b3 c3))) T8 (.lst [.int 1,.int 5,.int 7,.int 11])) p (.lst (A2 a4 b4 c4))) p:=A5.set _ _ _;have q4:AA p H2 (upd (upd (upd H2 p (.lst (A2 a3 b3 c3))) T8 (.lst [.int 1,.int 5,.int 7,.int 11])) p (.lst (A2 a4 b4 c4))):=(AA.upd.trans (AA.of_same (Ac hT8))).trans AA.upd;generalize upd (upd (upd H2 p (.lst (A2 a3 b3 c3))) T8 (.lst [.int 1,.int 5,.int 7,.int 11])) p (.lst (A2 a4 b4 c4))=H4 at P4 q4;refine ⟨_,rfl,p,2,rfl,P4,by decide,by decide,fun mo a5 b5 c5 mo0 VZ=>?_⟩;have P5:A5 (upd H4 p (.lst (A2 a5 b5 c5))) p:=A5.set _ _ _;have q5:AA p H (upd H4 p (.lst (A2 a5 b5 c5))):=((q1.trans q2).trans q4).trans AA.upd;generalize upd H4 p (.lst (A2 a5 b5 c5))=H5 at P5 q5;refine ⟨(by show 0<=sizeLine; lia),fun D hD=>?_⟩;have nD:D ≠ p:=P5.ne hD;have fD:H D=none:=by
   cases z:H D with
   | none=>rfl
   | some o=>rw [q5 _ _ nD z] at hD; cases hD
  exists _,rfl,n,rfl,by lia,by lia
  refine El (n:=n) (lo:=0) (fun j σ H'=>∃ (xs:List Str) (v9 v10:Option V),σ=[some (.ref p),some (.int n),some (.str Ge),some (.str bs),some (.int at'),some (.int st),some (.int sp),some (.int mo),some (.ref D),v9,v10]/\H'=upd H5 D (.lst (xs.map V.str))/\xs.length=j/\(∀ x ∈ xs,AL x=true)/\(∀ x ∈ xs,x ≠ Str.ofString "zzzzzz")/\∀ (i:Nat) x,xs[i]? = some x->∃ tl,x.cps.toList=(Txt.slice bs none (some at')).cps.toList ++ (Pw n st sp i ++ tl))
   ⟨[],_,_,rfl,rfl,rfl,(fun x hx=>nomatch hx),(fun x hx=>nomatch hx),(fun i x e=>by simp at e)⟩ ?_ ?_
  ·rintro j σ H' hj ⟨xs,v9,v10,rfl,rfl,xl,nm,nz,sh⟩;have r0:0<=(st + sp * (0 + (j:Int))) % 26:=aY _ (by decide);have r1:(st + sp * (0 + (j:Int))) % 26 < 26:=bD _ (by decide);exists _,rfl,_,rfl,_,rfl,_,rfl,_,_,rfl,rfl,.inl ⟨by lia,by lia⟩,_,_,rfl,rfl,_,_,rfl,rfl,(by show (0:Int) < 26; decide),_,_,_,rfl,rfl,by decide,E7 r0 r1
   have lc:=Hz _ (Lr (E7 r0 r1));have s1:=QR (z:=bs) at0 (by lia);have s2:=Na (z:=bs) at0 (by lia);have w1:=Kc (z:=bs) none (some at') j1;have w2:=Kc (z:=bs) (some at') none j1;have dD:(upd H5 D (.lst (xs.map V.str))) D=some (.lst (xs.map V.str)):=Ab;have m01:mo * ((0 + (j:Int)) % 2)=0\/mo * ((0 + (j:Int)) % 2)=1:=by
    have e1:mo=0\/mo=1:=by lia
    have e2:(0 + (j:Int)) % 2=0\/(0 + (j:Int)) % 2=1:=by lia
    rcases e1 with rfl | rfl <;> rcases e2 with e2 | e2 <;> rw [e2] <;> simp
   have hz:∀ z:Str,z=(if mo * ((0 + (j:Int)) % 2)=1 then Str.ofString "n" else Str.empty)->z.length<=1/\Tx z:=fun z e=>by
    subst e;split
    ·refine ⟨by decide,fun c hc=>?_⟩;have e:(Str.ofString "n").cps.toList=[110]:=by decide +kernel
     rw [e,ZH] at hc;subst hc;decide
    ·exact ⟨by decide,fun c hc=>by cases hc⟩
   obtain ⟨zz,ezz⟩:∃ zz,zz=(if mo * ((0 + (j:Int)) % 2)=1 then Str.ofString "n" else Str.empty):=⟨_,rfl⟩
   obtain ⟨z1,z2⟩:=hz zz ezz;have fin:∀ (x:Str),x=Txt.slice bs none (some at') ++ ⟨#[97 + ((st + sp * (0 + (j:Int))) % 26).toNat]⟩ ++ Txt.slice bs (some at') none ++ zz->AL x=true/\x ≠ Str.ofString "zzzzzz"/\∃ tl,x.cps.toList=(Txt.slice bs none (some at')).cps.toList ++ (Pw n st sp j ++ tl):=fun x e=>by
    have ec:x.cps.toList=(Txt.slice bs none (some at')).cps.toList ++ ([97 + ((st + sp * (0 + (j:Int))) % 26).toNat] ++ ((Txt.slice bs (some at') none).cps.toList ++ zz.cps.toList)):=by
     rw [e,Str.cps_append,Str.cps_append,Str.cps_append,bX,bX,bX,aM,aM]
    have el:x.length=(Txt.slice bs none (some at')).length + 1 + (Txt.slice bs (some at') none).length + zz.length:=by
     rw [e,Str.length_append,Str.length_append,Str.length_append];rfl
    exists Rx (by lia) (by lia) fun c hc=>?_,fun hx=>?_
    ·rw [ec,Z9,Z9,Z9,ZH] at hc;rcases hc with hc | hc | hc | hc
     ·exact w1 c hc
     ·rw [hc]; exact lc
     ·exact w2 c hc
     ·exact z2 c hc
    ·have l6:(Str.ofString "zzzzzz").length=6:=by decide +kernel
     have l0:Str.empty.length=0:=rfl;by_cases hm:mo * ((0 + (j:Int)) % 2)=1
     ·have h1:110 ∈ x.cps.toList:=by
       rw [ec,ezz,if_pos hm,show (Str.ofString "n").cps.toList=[110] by decide +kernel];simp
      rw [hx,show (Str.ofString "zzzzzz").cps.toList=[122,122,122,122,122,122] by decide +kernel] at h1;simp at h1
     ·rw [ezz,if_neg hm,hx,l6,l0] at el;lia
    ·exists (Txt.slice bs (some at') none).cps.toList ++ zz.cps.toList;rw [ec];unfold Pw;rw [if_neg (by lia),c0]
   exists _,rfl,.inl ⟨rfl,_,AX.of dD⟩,_,rfl,_,rfl,_,rfl,bs,rfl,by lia,_,rfl,_,_,rfl,rfl,?_,_,rfl,_,rfl,_,rfl,bs,rfl,by lia,_,_,rfl,rfl,?_,_,rfl,_,rfl,_,_,rfl,rfl,(by show (0:Int) < 2; decide),_,_,rfl,rfl,.inl ⟨by lia,by lia⟩,_,_,rfl,rfl,m01,_,_,rfl,rfl,?_,D,_,_,rfl,rfl,dD,(by rw [Zv]; lia)
   ·show (Txt.slice bs none (some at')).length + 1<=sizeLine
    lia
   ·rw [Str.length_append];show (Txt.slice bs none (some at')).length + 1 + _<=sizeLine
    lia
   ·rw [<-ezz,Str.length_append,Str.length_append];show (Txt.slice bs none (some at')).length + 1 + _ + _<=sizeLine
    lia
   rw [<-ezz];obtain ⟨f1,f3,f2⟩:=fin _ rfl;refine ⟨xs ++ [_],_,_,rfl,by rw [FO,Z7]; rfl,by rw [Zy,xl]; rfl,fun x hx=>?_,fun x hx=>?_,fun i x e=>?_⟩
   ·rcases Z9.mp hx with hx | hx
    ·exact nm x hx
    ·rw [ZH.mp hx];exact f1
   ·rcases Z9.mp hx with hx | hx
    ·exact nz x hx
    ·rw [ZH.mp hx];exact f3
   ·by_cases hi:i < xs.length
    ·rw [ZR hi] at e;exact sh i x e
    ·have XH:i=j:=by
      have:=(Z2.mp e).1;rw [Zy,bP] at this;lia
     subst XH;rw [ZV (by lia),xl,cA,ao] at e;rw [<-ZJ.inj e];exact f2
  ·rintro σ H' ⟨xs,v9,v10,rfl,rfl,xl,nm,nz,sh⟩;exact ⟨_,rfl,k _ D xs (P5.other nD) (fun b' o hb z=>by rw [Ae (Ah z fD)]; exact q5 _ _ hb z) fD Ab xl (Mt sh fun i j hij hj tl U9=>Vg (by lia) spm hij (by lia) tl U9) nm nz⟩
end
section
variable {P:Program} {w:World} {K:Zw} {mg:Str->Option Value} {base:Heap}
theorem Q6 (h_sorted:mg "sorted"=none) (h_tuple:mg "tuple"=none) {fT:Addr} {fdT:FuncData} (XT:Fn K mg "_law_take" Bt ["_law_pen_here","_law_many"] fT fdT) (GT:A7 P w K mg base Bw 1 fT fdT ["_law_pen_here","_law_many"] CQ)
  {f:Addr} {cdv:Value} {A:Around} {outer:List Env} {s:Shared} {H:Hp} {E:XK} (hr:DX 1 (A.deeper (PyProof.Rows.envOfC "_law_ways" (An Ci) s.heap.objs.size f cdv))) :
  ∃ t,MP (Lo Bw P w K mg base ["_law_pen_here","_law_names_here","_law_kind","_law_size","_law_pairs","_law_k","_law_other","_law_one"] "_law_ways" (An Ci) f cdv A outer s H E).nox ((Cu Ci).drop 4) t /\
   ∀ (W:Fi) (H1:Hp) (p e L:Addr) (kd sz:Int) (v5 v6 v7:Option V) (us:List V) (qs:List (Str × Str)) (xs:List Str),A5 H1 p->H1 L=some (.lst us)->L ≠ p->DA H1 us (qs.map Eg)->D6 xs (qs.map Mh)->us.length<=30->1<=sz->sz<=9 ->
    (∀ (H':Hp) (T:Addr) (Qt:List V) (ws Gm:List AH),A5 H' p->AA p H1 H'->H' T=some (.tup Qt)->AB H' Qt (ws.map EM)->ws.Perm (Gm.map E5)->D6 xs Gm->(∀ u ∈ Gm,u.2.2<=9)->Gm.length<=30->W.rt (.ref T) H') ->
    t W [some (.ref p),some (.ref e),some (.int kd),some (.int sz),some (.ref L),v5,v6,v7] H1:=by
 have nd:=ER.nd;have hu:=CO hr;have big:100000 < sizeLine:=by decide
 refine ⟨_,(Ak (A8 (A3 B7 (by rfl) h_tuple PyProof.Rows.boot_tuple (Aa (Al (FF K rfl) (by rfl) h_sorted PyProof.Rows.boot_sorted (Aa (Bb (N:=["_law_pair","_law_pen_here","_law_size"]) (σ0:=fun σ=>[none,some 0,some 3].map fun j=>j.bind fun j=>(σ[j]?).join) rfl (AI.caught (by rfl) (by decide +kernel) rfl (by decide +kernel) (by intro y hy; simp only [Zz,Z3,or_false] at hy; rcases hy with rfl | rfl <;> rfl)
   (by intro y hy e; simp only [Zz,Z3,or_false] at hy; rcases hy with rfl | rfl | rfl | rfl | rfl | rfl | rfl <;> first | exact ⟨_,rfl⟩ | cases e)) (fun σ _=>Bd.of [none,some 0,some 3] rfl (by
   intro i j x h1 h2;match i,h1,h2 with
   | 0,_,h2=>cases h2
   | 1,h1,h2=>cases h1; cases h2; exact ⟨rfl,.inl rfl,.inl rfl⟩
   | 2,h1,h2=>cases h1; cases h2; exact ⟨rfl,.inl rfl,.inl rfl⟩
   | n + 3,h1,_=>cases h1)) (Ig (pv 4))
   (fun s2 H C fp=>⟨(Ai (i:=0) (show (["_law_pair","_law_pen_here","_law_size"]:List Str).Nodup by decide +kernel) rfl (Or.inl rfl)),AK,(Aq (Ml K rfl) (A3 (D3 K rfl) (by rfl) h_tuple PyProof.Rows.boot_tuple (Aa (Al HV (by rfl) h_sorted PyProof.Rows.boot_sorted (Aa (pv 0) Ad)) Ad)) (As (Aa (Aq Bf Af (Aj GT (hr.mono (by decide)) (by rfl) XT.mg XT.F.kp XT.b .nil Az (Aa (pv 1) (Aa (pv 2) Ad)))) Ad)))⟩)) Ad)) Ad)))),?_⟩
 intro W H1 p e L kd sz v5 v6 v7 us qs xs P1 hL nL tU wc ul z1 z9 k;have ql:us.length=qs.length:=by rw [tU.len,Zv]
 exists _,rfl,L,rfl,⟨_,AX.of hL⟩
 refine AQ BW (xs:=us) (fun D j σ H' acc=>∃ (v0:Option V) (ls:List Int),σ=[v0,some (.ref p),some (.int sz)]/\A5 H' p/\AA p H1 H'/\H' D=some (.lst acc)/\acc.length=j/\ls.length=j/\(∀ l ∈ ls,1<=l/\l<=9)/\AB H' acc (((qs.zip ls).map fun c=>E5 (c.1.2,c.1.1,c.2)).map EM))
  (by lia) (fun D hD=>⟨_,[],rfl,P1.other (P1.ne hD),AA.of_same (Ac hD),Ab,rfl,rfl,(fun l hl=>nomatch hl),by rw [List.zip_nil_right]; exact .nil⟩)
  (fun D j σ H' acc hD ⟨v0,ls,_,_,kp,Bj,al,_⟩=>⟨AX.of (kp _ _ nL hL),Bj,al⟩) ?_ ?_
 ·rintro D j σ H' acc x' B hD ex ⟨v0,ls,rfl,P2,kp,Bj,al,ll,lb,dd⟩ hB;obtain ⟨t,g,rfl,eg,ht⟩:=tU.get ex;obtain ⟨q,eq,rfl⟩:∃ q,qs[j]? = some q/\g=Eg q:=by
   rw [Z0] at eg;cases z:qs[j]? with
   | none=>rw [z] at eg; cases eg
   | some q=>rw [z] at eg; exact ⟨q,rfl,(ZJ.inj eg).symm⟩
  have nD:=P1.ne hD;have tp:t ≠ p:=by intro y; subst y; obtain ⟨_,_,_,y⟩:=P1; rw [y] at ht; cases ht
  have F6:=kp _ _ tp ht;refine ⟨_,rfl,t,q.1,q.2,rfl,F6,fun l hl=>⟨l,_,rfl,.inl ⟨AX.of Ab,fun T1 Vz=>?_⟩⟩⟩;have s1:=(Ac (o:=.lst [.str (Cc q.1 q.2),.str (Cd q.1 q.2)]) hl).trans (Ac (o:=.tup [.str (Cc q.1 q.2),.str (Cd q.1 q.2)]) Vz);have Tf:(upd (upd H' l (.lst [.str (Cc q.1 q.2),.str (Cd q.1 q.2)])) T1 (.tup [.str (Cc q.1 q.2),.str (Cd q.1 q.2)])) T1=some (.tup [.str (Cc q.1 q.2),.str (Cd q.1 q.2)]):=Ab;have P3:A5 (upd (upd H' l (.lst [.str (Cc q.1 q.2),.str (Cd q.1 q.2)])) T1 (.tup [.str (Cc q.1 q.2),.str (Cd q.1 q.2)])) p:=by obtain ⟨_,_,_,z⟩:=P2; exact ⟨_,_,_,s1 _ _ z⟩
  generalize upd (upd H' l (.lst [.str (Cc q.1 q.2),.str (Cd q.1 q.2)])) T1 (.tup [.str (Cc q.1 q.2),.str (Cd q.1 q.2)])=H3 at s1 Tf P3;have n1:T1 ≠ p:=by intro y; subst y; obtain ⟨_,_,_,y⟩:=P3; rw [y] at Tf; cases Tf
  refine ⟨_,rfl,_,rfl,p,sz,rfl,P3,by lia,by lia,fun d a b c d0 d1=>⟨_,_,rfl,rfl,(by show 1<=sizeLine; lia),fun T2 Qu=>?_⟩⟩;have Zi:(upd (upd H3 p (.lst (A2 a b c))) T2 (.tup [.int (1 + d)])) T1=some (.tup [.str (Cc q.1 q.2),.str (Cd q.1 q.2)]):=Ac Qu _ _ (by rw [Ae n1]; exact Tf);refine ⟨T1,T2,_,_,rfl,rfl,A4.of Zi,A4.of Ab,by simp,by show 2 + 1<=sizeLine; lia,(fun z=>by cases z),fun _ T hT=>?_⟩;have P4:A5 (upd (upd (upd H3 p (.lst (A2 a b c))) T2 (.tup [.int (1 + d)])) T (.tup [.str (Cc q.1 q.2),.str (Cd q.1 q.2),.int (1 + d)])) p:=by
   have z:A5 (upd (upd H3 p (.lst (A2 a b c))) T2 (.tup [.int (1 + d)])) p:=(A5.set a b c).other ((A5.set (H:=H3) a b c).ne Qu);exact z.other (z.ne hT)
  have k4:∀ b' o,b' ≠ p->H' b'=some o->(upd (upd (upd H3 p (.lst (A2 a b c))) T2 (.tup [.int (1 + d)])) T (.tup [.str (Cc q.1 q.2),.str (Cd q.1 q.2),.int (1 + d)])) b'=some o:=fun b' o hb z=>Ac hT _ _ (Ac Qu _ _ (by rw [Ae hb]; exact s1 _ _ z))
  have O6:(upd (upd (upd H3 p (.lst (A2 a b c))) T2 (.tup [.int (1 + d)])) T (.tup [.str (Cc q.1 q.2),.str (Cd q.1 q.2),.int (1 + d)])) T=some (.tup [.str (Cc q.1 q.2),.str (Cd q.1 q.2),.int (1 + d)]):=Ab;show B _ _ (upd (upd (upd H3 p (.lst (A2 a b c))) T2 (.tup [.int (1 + d)])) T (.tup [.str (Cc q.1 q.2),.str (Cd q.1 q.2),.int (1 + d)]))
  generalize upd (upd (upd H3 p (.lst (A2 a b c))) T2 (.tup [.int (1 + d)])) T (.tup [.str (Cc q.1 q.2),.str (Cd q.1 q.2),.int (1 + d)])=H5 at P4 k4 O6;have hD5:=k4 _ _ nD Bj;have nT:T ≠ D:=CN O6 hD5 (fun z=>by cases z);refine hB _ _ _ hD5 ⟨_,ls ++ [1 + d],rfl,P4.other nD,fun b' o hb z=>by rw [Ae (Ah z hD)]; exact k4 _ _ hb (kp _ _ hb z),Ab,by rw [Zy,al]; rfl,by rw [Zy,ll]; rfl,fun l hl=>?_,?_⟩
  ·rcases Z9.mp hl with hl | hl
   ·exact lb l hl
   ·rw [ZH.mp hl]; lia
  ·rw [L7 (a:=q) (by rw [ll]; exact eq),Z7,Z7];refine BP (Dp dd fun b' ys z=>?_) (.cons (.tup (vs:=[.str (Cc q.1 q.2),.str (Cd q.1 q.2),.int (1 + d)]) (by rw [Ae nT]; exact O6) ?_) .nil)
   ·rw [Ae (CN z Bj (fun y=>by cases y))];exact k4 _ _ (by intro y; subst y; obtain ⟨_,_,_,y⟩:=P2; rw [y] at z; cases z) z
   ·show AB _ _ [.str (Cc q.2 q.1),.str (Cd q.2 q.1),.int (1 + d)]
    rw [PH q.2 q.1,PK q.2 q.1];exact .cons (.str _) (.cons (.str _) (.cons (.int _) .nil))
 ·rintro D σ H' acc hD ⟨v0,ls,rfl,P2,kp,Bj,al,ll,lb,dd⟩;have nD:=P1.ne hD;refine ⟨D,acc,_,rfl,AX.of Bj,dd,(by lia),fun l FI GQ hl MN pm=>⟨l,_,rfl,.inl ⟨AX.of Ab,fun T hT=>?_⟩⟩⟩;have s1:=(Ac (o:=.lst FI) hl).trans (Ac (o:=.tup FI) hT);refine k _ T FI GQ ((qs.zip ls).map fun c=>(c.1.2,c.1.1,c.2)) (by obtain ⟨_,_,_,z⟩:=P2; exact ⟨_,_,_,s1 _ _ z⟩) (kp.trans (AA.of_same s1)) Ab (Dp MN fun b ys z=>s1 _ _ z) (by rw [ax]; exact pm) (wc.lens ?_ ?_) ?_ ?_
  ·rw [Zv,bx,Zv];lia
  ·intro i u u' e1 e2;rw [Z0] at e1 e2;cases z:qs[i]? with
   | none=>rw [z] at e1; cases e1
   | some q=>
    rw [z] at e1;cases e1
    have hi:=(Z2.mp z).1;have el:ls[i]? = some (ls[i]'(by lia)):=Zt _;have ez:(qs.zip ls)[i]? = some (q,ls[i]'(by lia)):=aL.mpr ⟨z,el⟩;rw [ez] at e2;cases e2
    exact ⟨rfl,rfl,(lb _ (Zx el)).1⟩
  ·intro u hu;obtain ⟨⟨q,l⟩,hc,rfl⟩:=Z6.mp hu;exact (lb l (bM hc).2).2
  ·rw [Zv,bx];lia
theorem Mn (h_int:mg "int"=none) (h_len:mg "len"=none) (h_range:mg "range"=none) (h_sorted:mg "sorted"=none) (h_tuple:mg "tuple"=none) {fT:Addr} {fdT:FuncData} (XT:Fn K mg "_law_take" Bt ["_law_pen_here","_law_many"] fT fdT) (GT:A7 P w K mg base Bw 1 fT fdT ["_law_pen_here","_law_many"] CQ) {f:Addr} {fd:FuncData} (F:DQ K "_law_ways" "_law_ways" Ci f fd):A7 P w K mg base Bw 2 f fd ["_law_pen_here","_law_names_here","_law_kind"] Ob:=by
 refine F.ok ER (fun vs H Q E h=>?_) (fun cdv A outer s H vs Q E hr h=>?_)
 ·obtain ⟨p,e,xs,kd,rfl,_⟩:=h;rfl
 ·obtain ⟨p,e,xs,kd,rfl,P0,he,nep,xnd,xnm,x1,x26,k⟩:=h;have nd:=ER.nd;have hu:=CO hr;have Lg:=hr.units;obtain ⟨tE,hE,kE⟩:=Q6 (P:=P) (w:=w) (K:=K) (mg:=mg) (base:=base) h_sorted h_tuple XT GT (f:=f) (cdv:=cdv) (A:=A) (outer:=outer) (s:=s) (H:=H) (E:=E) hr;have big:100000 < sizeLine:=by decide
  refine ⟨_,(Ag (Ar (i:=3) nd rfl (Or.inr rfl) (AD Bc (Bl (Aa Af (Aa Af (Aa Af (Aa Af Ad))))) (Aj GT (hr.mono (by decide)) (by rfl) XT.mg XT.F.kp XT.b .nil Az (Aa (pv 0) (Aa Af Ad))) (fun _ _=>rfl)))
  (Ag (Ar (i:=4) nd rfl (Or.inl rfl) (Bl Ad))
  (Ag (Cb PassesOwn.never rfl (Pr (by rfl) h_range (Aa Af (Aa (Al AE (by rfl) h_len PySem.boot_len (Aa (pv 1) Ad)) Ad))) (Ai (i:=5) nd rfl (Or.inl rfl))
  (Ag (Ar (i:=6) nd rfl (Or.inl rfl) (AD Bc (Bl (Aa (Aq KP (pv 5) Af) (Aa (Aj GT (hr.mono (by decide)) (by rfl) XT.mg XT.F.kp XT.b .nil Az (Aa (pv 0) (Aa (pv 5) Ad))) Ad))) (A3 Eo (by rfl) h_int PyProof.Rows.boot_int (Aa (C7 TX (pv 2) Af (B5 _)) Ad)) (fun _ _=>rfl)))
  (Ak (Ie (IP PySem.F.plainAttrs_list PySem.F.slot_list_append PySem.F.type_list_append Dn (pv 4) (Aa (As (Aa (AD Bc (pv 1) (pv 5) (fun _ _=>rfl)) (Aa (AD Bc (pv 1) (pv 6) (fun _ _=>rfl)) Ad))) Ad))))))
  (Ag (C9 (BN Hs (pv 2) Af (B5 _))
  (Ak (Cb PassesOwn.never rfl (Dm (by rfl) h_range (Aa (Aj GT (hr.mono (by decide)) (by rfl) XT.mg XT.F.kp XT.b .nil Az (Aa (pv 0) (Aa Af Ad))) Ad)) (Ai (i:=5) nd rfl (Or.inl rfl))
  (Ag (Ar (i:=7) nd rfl (Or.inl rfl) (AD Bc (pv 1) (Aj GT (hr.mono (by decide)) (by rfl) XT.mg XT.F.kp XT.b .nil Az (Aa (pv 0) (Aa (Al AE (by rfl) h_len PySem.boot_len (Aa (pv 1) Ad)) Ad))) (fun _ _=>rfl)))
  (Ag (Ar (i:=6) nd rfl (Or.inl rfl) (AD Bc (pv 1) (Aj GT (hr.mono (by decide)) (by rfl) XT.mg XT.F.kp XT.b .nil Az (Aa (pv 0) (Aa (Al AE (by rfl) h_len PySem.boot_len (Aa (pv 1) Ad)) Ad))) (fun _ _=>rfl)))
  (Ak (C9 (Ng (BN Rt (pv 7) (pv 6) (B5 _)) (Ng (BN (F5 Lg) (As (Aa (pv 7) (Aa (pv 6) Ad))) (pv 4) (by rfl)) (Oq (BN (F5 Lg) (As (Aa (pv 6) (Aa (pv 7) Ad))) (pv 4) (by rfl))))).pt
  (Ak (Ie (IP PySem.F.plainAttrs_list PySem.F.slot_list_append PySem.F.type_list_append Dn (pv 4) (Aa (As (Aa (pv 7) (Aa (pv 6) Ad))) Ad))))
  B3))))))
  B3)
  hE)))),?_⟩
  refine ⟨(by show 4<=sizeLine; lia),fun T4 XQ=>?_⟩;have n4:T4 ≠ p:=P0.ne XQ;refine ⟨_,rfl,p,4,rfl,P0.other n4,by decide,by decide,fun e4 a1 b1 c1 e4a e4b=>?_⟩;obtain ⟨sz,hsz⟩:=RZ (ns:=[1,2,4,9]) e4a e4b;have szb:1<=sz/\sz<=9:=by
   have:=Lr hsz;simp only [ZI,cu,Zz,V.int.injEq,Z3,or_false] at this;rcases this with rfl | rfl | rfl | rfl <;> lia
  exists T4,_,_,.int sz,rfl,rfl,AX.of (by rw [Ae n4]; exact Ab),hsz;have P1:A5 (upd (upd H T4 (.lst [.int 1,.int 2,.int 4,.int 9])) p (.lst (A2 a1 b1 c1))) p:=A5.set _ _ _;have q1:AA p H (upd (upd H T4 (.lst [.int 1,.int 2,.int 4,.int 9])) p (.lst (A2 a1 b1 c1))):=(AA.of_same (Ac XQ)).trans AA.upd;generalize upd (upd H T4 (.lst [.int 1,.int 2,.int 4,.int 9])) p (.lst (A2 a1 b1 c1))=H1 at P1 q1;refine ⟨(by show 0<=sizeLine; lia),fun L hL=>?_⟩;have nL:L ≠ p:=P1.ne hL;have Wf:=q1 _ _ nep he;have neL:e ≠ L:=Ah Wf hL;have s2:=Ac (o:=.lst []) hL;exists _,rfl,e,_,rfl,.inl (AX.of (s2 _ _ Wf)),_,_,rfl,⟨by lia,by lia,by rw [Zv]; lia,by rw [Zv]; lia⟩
  refine El (lo:=1) (fun j σ H'=>∃ (v5 v6 v7:Option V) (us:List V) (qs:List (Str × Str)),σ=[some (.ref p),some (.ref e),some (.int kd),some (.int sz),some (.ref L),v5,v6,v7]/\A5 H' p/\(∀ b o,b ≠ p->b ≠ L->H1 b=some o->H' b=some o)/\H' L=some (.lst us)/\DA H' us (qs.map Eg)/\us.length=j/\Lv xs (j + 1) (qs.map Mh))
   ⟨_,_,_,[],[],rfl,P1.other nL,fun b o _ hb z=>s2 _ _ z,Ab,.nil,rfl,Lv.nil xs⟩ ?_ ?_
  ·rintro j σ H' hj ⟨v5,v6,v7,us,qs,rfl,P2,k2,MM,tU,ul,tr⟩;rw [Zv] at hj;have O5:j + 1 < xs.length:=by lia
   have Ze:=k2 _ _ nep neL Wf;have ql:qs.length=j:=by rw [<-ul,tU.len,Zv]
   refine ⟨_,rfl,_,_,rfl,rfl,_,rfl,_,rfl,p,_,rfl,P2,by lia,by lia,fun d a2 b2 c2 d0 d1=>⟨(by show 2<=sizeLine; lia),fun T2 Qu=>?_⟩⟩;have P3:A5 (upd (upd H' p (.lst (A2 a2 b2 c2))) T2 (.lst [.int (1 + (j:Int) - 1),.int d])) p:=(A5.set a2 b2 c2).other ((A5.set (H:=H') a2 b2 c2).ne Qu);have k3:∀ b o,b ≠ p->H' b=some o->(upd (upd H' p (.lst (A2 a2 b2 c2))) T2 (.lst [.int (1 + (j:Int) - 1),.int d])) b=some o:=fun b o hb z=>Ac Qu _ _ (by rw [Ae hb]; exact z)
   have WU:(upd (upd H' p (.lst (A2 a2 b2 c2))) T2 (.lst [.int (1 + (j:Int) - 1),.int d])) T2=some (.lst [.int (1 + (j:Int) - 1),.int d]):=Ab;generalize upd (upd H' p (.lst (A2 a2 b2 c2))) T2 (.lst [.int (1 + (j:Int) - 1),.int d])=H3 at P3 k3 WU;obtain ⟨o,hv,o0⟩:∃ o:Nat,Gn [V.int (1 + (j:Int) - 1),V.int d] (if decide ((0:Int) < kd)=true then 1 else 0)=some (.int (o:Int))/\o < j + 1:=by
    by_cases z:decide ((0:Int) < kd)=true
    ·rw [if_pos z];obtain ⟨o,rfl⟩:∃ o:Nat,d=(o:Int):=⟨d.toNat,by lia⟩
     exact ⟨o,rfl,by lia⟩
    ·rw [if_neg z,show 1 + (j:Int) - 1=((j:Nat):Int) by lia];exact ⟨j,rfl,by lia⟩
   refine ⟨_,rfl,_,_,rfl,rfl,.inr ⟨_,rfl,T2,_,_,_,rfl,rfl,AX.of WU,hv,?_⟩⟩;have We:=k3 _ _ nep Ze;have ML:=k3 _ _ nL MM;have ea:(xs.map V.str)[j + 1]? = some (.str xs[j + 1]):=by rw [Z0,Zt O5]; rfl
   have eo:(xs.map V.str)[o]? = some (.str (xs[o]'(by lia))):=by rw [Z0,Zt (by lia)]; rfl
   have e1j:(1 + (j:Int))=((j + 1:Nat):Int):=by lia
   refine ⟨_,rfl,.inl ⟨rfl,_,AX.of ML⟩,_,rfl,_,rfl,e,_,_,_,rfl,rfl,AX.of We,(by rw [e1j]; exact Cw ea),_,rfl,_,rfl,e,_,_,_,rfl,rfl,AX.of We,Cw eo,(by show 2<=sizeLine; lia),fun T hT=>⟨L,_,_,rfl,rfl,Ac hT _ _ ML,by lia,?_⟩⟩;have sT:=Ac (o:=.tup [.str xs[j + 1],.str (xs[o]'(by lia))]) hT;have nT:T ≠ L:=CN Ab (sT _ _ ML) (fun z=>by cases z);have kT:∀ b ys,H' b=some (.tup ys)->(upd (upd H3 T (.tup [.str xs[j + 1],.str (xs[o]'(by lia))])) L (.lst (us ++ [.ref T]))) b=some (.tup ys):=fun b ys z=>by
    rw [Ae (CN z MM (fun y=>by cases y))];exact sT _ _ (k3 _ _ (by intro y; subst y; obtain ⟨_,_,_,y⟩:=P2; rw [y] at z; cases z) z)
   exists _,_,_,us ++ [.ref T],qs ++ [(xs[j + 1],xs[o]'(by lia))],rfl,(P3.other (P3.ne hT)).other nL,fun b o' hb Io z=>by rw [Ae Io]; exact sT _ _ (k3 _ _ hb (k2 _ _ hb Io z)),Ab,?_,by rw [Zy,ul]; rfl
   ·rw [Z7];exact (tU.keep kT).app (.cons (by rw [Ae nT]; exact Ab) .nil)
   ·rw [Z7];exact tr.more xnd O5 [o] (by simp) (by intro y hy; rw [ZH.mp hy]; exact o0) (by simp) rfl (fun q u y e1 e2=>by
     cases q with
     | zero=>
      simp at e1 e2;subst e1 e2;exact ⟨Zt _,Zt _,az _⟩
     | succ q=>simp at e2)
  ·rintro σ H' ⟨v5,v6,v7,us,qs,rfl,P2,k2,MM,tU,ul,tr⟩;have jx:(((xs.map V.str).length:Int) - 1).toNat + 1=xs.length:=by rw [Zv]; lia
   rw [jx] at tr;have wc:=(tr.ways xnd).c;have ul':us.length<=25:=by rw [ul,Zv]; lia
   have last:∀ (H':Hp) (v5 v6 v7:Option V) (us:List V) (qs:List (Str × Str)) (D:Fi),(∀ v H',D.rt v H' ↔ Q v H')->A5 H' p->(∀ b o,b ≠ p->b ≠ L->H1 b=some o->H' b=some o)->H' L=some (.lst us)->DA H' us (qs.map Eg)->D6 xs (qs.map Mh)->us.length<=30->tE D [some (.ref p),some (.ref e),some (.int kd),some (.int sz),some (.ref L),v5,v6,v7] H':=fun H' v5 v6 v7 us qs D hD P3 k3 ML Wq VS Yn=>by
    refine kE D H' p e L kd sz v5 v6 v7 us qs xs P3 ML nL Wq VS Yn szb.1 szb.2 fun H2 T Qt ws Gm P4 k4 hT dd pm w0 l9 l30=>(hD _ _).mpr ?_
    exact k H2 T Qt ws Gm P4 (fun b o hb z=>k4 b o hb (k3 b o hb (Ah (q1 _ _ hb z) hL) (q1 _ _ hb z))) hT dd pm w0 l9 l30
   exists _,rfl,rfl,_,rfl;refine DT (fun _=>?_) (fun _=>last _ _ _ _ us qs _ (fun _ _=>Iff.rfl) P2 k2 MM tU wc (by lia));refine ⟨_,rfl,p,5,rfl,P2,by decide,by decide,fun d a2 b2 c2 d0 d1=>⟨_,rfl,by lia,by lia,?_⟩⟩;refine El (lo:=0) (fun j σ H'=>∃ (v5 v6 v7:Option V) (us:List V) (qs:List (Str × Str)),σ=[some (.ref p),some (.ref e),some (.int kd),some (.int sz),some (.ref L),v5,v6,v7]/\A5 H' p/\(∀ b o,b ≠ p->b ≠ L->H1 b=some o->H' b=some o)/\H' L=some (.lst us)/\DA H' us (qs.map Eg)/\us.length<=25 + j/\D6 xs (qs.map Mh))
    ⟨_,_,_,us,qs,rfl,A5.set _ _ _,fun b o hb Io z=>by rw [Ae hb]; exact k2 b o hb Io z,by rw [Ae nL]; exact MM,tU.keep fun b ys z=>by rw [Ae (by intro y; subst y; obtain ⟨_,_,_,y⟩:=P2; rw [y] at z; cases z)]; exact z,by lia,wc⟩ ?_ ?_
   ·rintro j σ H3 hj ⟨v5,v6,v7,us,qs,rfl,P3,k3,ML,Wq,Yn,VS⟩;have We:=k3 _ _ nep neL Wf;have xl0:(0:Int) < ((xs.map V.str).length:Int):=by rw [Zv]; lia
    have xlB:((xs.map V.str).length:Int) < 2 ^ 600:=by rw [Zv]; lia
    refine ⟨_,rfl,_,rfl,_,rfl,e,_,rfl,.inl (AX.of We),p,_,rfl,P3,xl0,xlB,fun g a3 b3 c3 g0 g1=>?_⟩;rw [Zv] at g1;obtain ⟨gn,rfl⟩:∃ n:Nat,g=n:=⟨g.toNat,by lia⟩
    have hgn:gn < xs.length:=by lia
    have eg:(xs.map V.str)[gn]? = some (.str xs[gn]):=by rw [Z0,Zt hgn]; rfl
    have P4:A5 (upd H3 p (.lst (A2 a3 b3 c3))) p:=A5.set _ _ _;have k4:∀ b o,b ≠ p->H3 b=some o->(upd H3 p (.lst (A2 a3 b3 c3))) b=some o:=fun b o hb z=>by rw [Ae hb]; exact z
    generalize upd H3 p (.lst (A2 a3 b3 c3))=H4 at P4 k4;have he4:=k4 _ _ nep We;exists e,_,_,_,rfl,rfl,AX.of he4,Cw eg;refine ⟨_,rfl,_,rfl,_,rfl,e,_,rfl,.inl (AX.of he4),p,_,rfl,P4,xl0,xlB,fun h a4 b4 c4 h0 h1=>?_⟩;rw [Zv] at h1;obtain ⟨hn,rfl⟩:∃ n:Nat,h=n:=⟨h.toNat,by lia⟩
    have hhn:hn < xs.length:=by lia
    have eh:(xs.map V.str)[hn]? = some (.str xs[hn]):=by rw [Z0,Zt hhn]; rfl
    have P5:A5 (upd H4 p (.lst (A2 a4 b4 c4))) p:=A5.set _ _ _;have k5:∀ b o,b ≠ p->H3 b=some o->(upd H4 p (.lst (A2 a4 b4 c4))) b=some o:=fun b o hb z=>by rw [Ae hb]; exact k4 _ _ hb z
    generalize upd H4 p (.lst (A2 a4 b4 c4))=H5 at P5 k5;have he5:=k5 _ _ nep We;exists e,_,_,_,rfl,rfl,AX.of he5,Cw eh;have m1:xs[gn] ∈ xs:=ar hgn;have m2:xs[hn] ∈ xs:=ar hhn;generalize xs[gn]=o1 at m1;generalize xs[hn]=o2 at m2;have Um:=k5 _ _ nL ML;have np:∀ {HH:Hp} {b:Addr} {ys:List V},A5 HH p->HH b=some (.tup ys)->b ≠ p:=fun P z y=>by subst y; obtain ⟨_,_,_,y⟩:=P; rw [y] at z; cases z
    have Xt:DA H5 us (qs.map Eg):=Wq.keep fun b ys z=>k5 _ _ (np P3 z) z
    exists _,rfl,_,rfl,rfl,_,rfl;have inv:∀ {H6:Hp} (v5 v6 v7:Option V),Ao H5 H6->∃ (v5' v6' v7':Option V) (us:List V) (qs:List (Str × Str)),[some (.ref p),some (.ref e),some (.int kd),some (.int sz),some (.ref L),v5,v6,v7]=[some (.ref p),some (.ref e),some (.int kd),some (.int sz),some (.ref L),v5',v6',v7']/\A5 H6 p/\(∀ b o,b ≠ p->b ≠ L->H1 b=some o->H6 b=some o)/\H6 L=some (.lst us)/\DA H6 us (qs.map Eg)/\us.length<=25 + (j + 1)/\D6 xs (qs.map Mh):=fun v5 v6 v7 s6=>
     ⟨_,_,_,us,qs,rfl,by obtain ⟨_,_,_,z⟩:=P5; exact ⟨_,_,_,s6 _ _ z⟩,fun b o hb Io z=>s6 _ _ (k5 _ _ hb (k3 b o hb Io z)),s6 _ _ Um,Xt.keep (fun b ys z=>s6 _ _ z),by lia,VS⟩
    refine DT (fun z1=>?_) (fun _=>BO (inv _ _ _ fun b o z=>z));have Vk:o1 ≠ o2:=by
     intro y;subst y;simp at z1
    refine ⟨_,rfl,_,rfl,(by show 2<=sizeLine; lia),fun T1 Vz=>?_⟩;have t1:=Ac (o:=.tup [.str o1,.str o2]) Vz;exists _,rfl,T1,L,[o1,o2],us,qs.map Eg,rfl,rfl,Ab,t1 _ _ Um,Xt.keep (fun b ys z=>t1 _ _ z),_,rfl;refine DT (fun z2=>?_) (fun _=>BO (inv _ _ _ t1));refine ⟨_,rfl,_,rfl,(by show 2<=sizeLine; lia),fun T2 Qu=>?_⟩;have t2:=t1.trans (Ac (o:=.tup [.str o2,.str o1]) Qu);exists _,rfl,T2,L,[o2,o1],us,qs.map Eg,rfl,rfl,Ab,t2 _ _ Um,Xt.keep (fun b ys z=>t2 _ _ z),_,rfl;refine DT (fun z3=>?_) (fun _=>inv _ _ _ t2);have y2:[o1,o2] ∉ qs.map Eg:=by simpa using z2
    have y3:[o2,o1] ∉ qs.map Eg:=by simpa using z3
    generalize upd (upd H5 T1 (.tup [.str o1,.str o2])) T2 (.tup [.str o2,.str o1])=H6 at t2;have hL6:=t2 _ _ Um;refine ⟨_,rfl,.inl ⟨rfl,_,AX.of hL6⟩,_,rfl,_,rfl,(by show 2<=sizeLine; lia),fun T hT=>⟨L,_,_,rfl,rfl,Ac hT _ _ hL6,by lia,?_⟩⟩;have sT:=t2.trans (Ac (o:=.tup [.str o1,.str o2]) hT);have nT:T ≠ L:=CN Ab (sT _ _ Um) (fun z=>by cases z);exists _,_,_,us ++ [.ref T],qs ++ [(o1,o2)],rfl,(by obtain ⟨_,_,_,z⟩:=P5; exact ⟨_,_,_,by rw [Ae nL.symm]; exact sT _ _ z⟩),fun b o hb Io z=>by rw [Ae Io]; exact sT _ _ (k5 _ _ hb (k3 b o hb Io z)),Ab,?_,by rw [Zy]; simp; lia
    ·rw [Z7];refine (Xt.keep fun b ys z=>?_).app (.cons (by rw [Ae nT]; exact Ab) .nil);rw [Ae (CN z Um (fun y=>by cases y))];exact sT _ _ z
    ·rw [Z7];refine VS.snoc (x:=o2) (y:=o1) m2 m1 (fun y=>Vk y.symm) (az _) fun u hu=>?_
     obtain ⟨q,hq,rfl⟩:=Z6.mp hu;have w1:Eg q ∈ qs.map Eg:=Z6.mpr ⟨q,hq,rfl⟩;rintro ⟨f1 | f1,f2 | f2⟩
     ·exact Vk (f2.trans f1.symm)
     ·refine y2 ?_;rw [f1,f2];exact w1
     ·refine y3 ?_;rw [f1,f2];exact w1
     ·exact Vk (f2.trans f1.symm)
   ·rintro σ H3 ⟨v5,v6,v7,us,qs,rfl,P3,k3,ML,Wq,Yn,VS⟩;exact last _ _ _ _ us qs _ (fun _ _=>Iff.rfl) P3 k3 ML Wq VS (by lia)
end
section
variable {P:Program} {w:World} {K:Zw} {mg:Str->Option Value} {base:Heap}
theorem Mq (h_int:mg "int"=none) (h_len:mg "len"=none) (h_sorted:mg "sorted"=none) (h_tuple:mg "tuple"=none) {fT fN fW fS:Addr} {fdT fdN fdW fdS:FuncData} (XT:Fn K mg "_law_take" Bt ["_law_pen_here","_law_many"] fT fdT) (GT:A7 P w K mg base Bw 1 fT fdT ["_law_pen_here","_law_many"] CQ) (XN:Fn K mg "_law_names" DG ["_law_pen_here","_law_many"] fN fdN) (GN:A7 P w K mg base Bw 2 fN fdN ["_law_pen_here","_law_many"] LN) (XW:Fn K mg "_law_ways" Ci ["_law_pen_here","_law_names_here","_law_kind"] fW fdW) (GW:A7 P w K mg base Bw 2 fW fdW ["_law_pen_here","_law_names_here","_law_kind"] Ob) (XS:Fn K mg "_law_some" Dr ["_law_pen_here","_law_names_here","_law_most"] fS fdS) (GS:A7 P w K mg base Bw 2 fS fdS ["_law_pen_here","_law_names_here","_law_most"] K6) {f:Addr} {fd:FuncData} (F:DQ K "_law_case" "_law_case" Ex f fd):A7 P w K mg base Bw 3 f fd ["_law_pen_here","_law_kind"] Oj:=by
 refine F.ok He (fun vs H Q E h=>?_) (fun cdv A outer s H vs Q E hr h=>?_)
 ·obtain ⟨p,kd,rfl,_⟩:=h;rfl
 ·obtain ⟨p,kd,rfl,hP,k⟩:=h;have nd:=He.nd;have big:100000 < sizeLine:=by decide
  refine ⟨_,(Ag (Ar (i:=2) nd rfl (Or.inl rfl) (A3 Eo (by rfl) h_int PyProof.Rows.boot_int (Aa (C7 Hs (Aj GT (hr.mono (by decide)) (by rfl) XT.mg XT.F.kp XT.b .nil Az (Aa (pv 0) (Aa Af Ad))) Af (B5 _)) Ad)))
  (Ag (Ar (i:=3) nd rfl (Or.inl rfl) (Aj GN (hr.mono (by decide)) (by rfl) XN.mg XN.F.kp XN.b .nil Az (Aa (pv 0) (Aa (AD Bc (Bl (Aa (Aq Bf Af (Aj GT (hr.mono (by decide)) (by rfl) XT.mg XT.F.kp XT.b .nil Az (Aa (pv 0) (Aa Af Ad)))) (Aa (Aq Bf Af (Aj GT (hr.mono (by decide)) (by rfl) XT.mg XT.F.kp XT.b .nil Az (Aa (pv 0) (Aa Af Ad)))) Ad))) (pv 2) (fun _ _=>rfl)) Ad))))
  (Ag (Ar (i:=4) nd rfl (Or.inr rfl) (AD Bc (Bl (Aa Af (Aa Af (Aa Af (Aa Af (Aa (Aq Nm Af Af) (Aa (Aq Nm Af Af) Ad))))))) (Aj GT (hr.mono (by decide)) (by rfl) XT.mg XT.F.kp XT.b .nil Az (Aa (pv 0) (Aa Af Ad))) (fun _ _=>rfl)))
  (Ag (Ou (ix:=5) (N:=["_law_row","_law_much"]) (σ0:=fun σ=>[none,some 4].map fun j=>j.bind fun j=>(σ[j]?).join) nd rfl (Or.inl rfl) rfl (AI.caught (by rfl) (by decide +kernel) rfl (by decide +kernel) (by intro y hy; simp only [Zz,Z3,or_false] at hy; rcases hy with rfl <;> rfl)
   (by intro y hy e; simp only [Zz,Z3,or_false] at hy; rcases hy with rfl | rfl | rfl <;> first | exact ⟨_,rfl⟩ | cases e)) (fun σ _=>Bd.of [none,some 4] rfl (by
   intro i j x h1 h2;match i,h1,h2 with
   | 0,_,h2=>cases h2
   | 1,h1,h2=>cases h1; cases h2; exact ⟨rfl,.inl rfl,.inl rfl⟩
   | n + 2,h1,_=>cases h1)) (Gv (Aj GW (hr.mono (by decide)) (by rfl) XW.mg XW.F.kp XW.b .nil Az (Aa (pv 0) (Aa (pv 3) (Aa (pv 1) Ad)))))
   (fun s2 H C fp=>⟨(Ai (i:=0) (show (["_law_row","_law_much"]:List Str).Nodup by decide +kernel) rfl (Or.inl rfl)),AK,(Aq (Ml K rfl) (Bi (B9 K rfl) (pv 0) Bp (Bo Af)) (As (Aa (Aq Cs (AD (AU K rfl) (pv 0) Af (fun _ _=>rfl)) (pv 1)) Ad)))⟩))
  (Ag (Ar (i:=6) nd rfl (Or.inr rfl) (AD Bc (Bl (Aa Af (Aa Af (Aa Af (Aa Af Ad))))) (Aj GT (hr.mono (by decide)) (by rfl) XT.mg XT.F.kp XT.b .nil Az (Aa (pv 0) (Aa Af Ad))) (fun _ _=>rfl)))
  (Ag (Ar (i:=7) nd rfl (Or.inl rfl) (Al (D5 K rfl) (by rfl) h_sorted PyProof.Rows.boot_sorted (Aa (Bb (N:=["_law_place","_law_pen_here","_law_much","_law_dear"]) (σ0:=fun σ=>[none,some 0,some 4,some 6].map fun j=>j.bind fun j=>(σ[j]?).join) rfl (AI.caught (by rfl) (by decide +kernel) rfl (by decide +kernel) (by intro y hy; simp only [Zz,Z3,or_false] at hy; rcases hy with rfl | rfl | rfl <;> rfl)
   (by intro y hy e; simp only [Zz,Z3,or_false] at hy; rcases hy with rfl | rfl | rfl | rfl | rfl | rfl <;> first | exact ⟨_,rfl⟩ | cases e)) (fun σ _=>Bd.of [none,some 0,some 4,some 6] rfl (by
   intro i j x h1 h2;match i,h1,h2 with
   | 0,_,h2=>cases h2
   | 1,h1,h2=>cases h1; cases h2; exact ⟨rfl,.inl rfl,.inl rfl⟩
   | 2,h1,h2=>cases h1; cases h2; exact ⟨rfl,.inl rfl,.inl rfl⟩
   | 3,h1,h2=>cases h1; cases h2; exact ⟨rfl,.inl rfl,.inl rfl⟩
   | n + 4,h1,_=>cases h1)) (Ig (Aj GS (hr.mono (by decide)) (by rfl) XS.mg XS.F.kp XS.b .nil Az (Aa (pv 0) (Aa (pv 3) (Aa (AD Bc (Bl (Aa Af (Aa Af Ad))) (pv 2) (fun _ _=>rfl)) Ad)))))
   (fun s2 H C fp=>⟨(Ai (i:=0) (show (["_law_place","_law_pen_here","_law_much","_law_dear"]:List Str).Nodup by decide +kernel) rfl (Or.inl rfl)),AK,(As (Aa (pv 0) (Aa (Aq Cs (pv 2) (Aj GT (hr.mono (by decide)) (by rfl) XT.mg XT.F.kp XT.b .nil Az (Aa (pv 1) (Aa (pv 3) Ad)))) Ad)))⟩)) Ad)))
  (Ag (Ar (i:=8) nd rfl (Or.inl rfl) (Al (D5 K rfl) (by rfl) h_sorted PyProof.Rows.boot_sorted (Aa (Bb (N:=["_law_place","_law_pen_here"]) (σ0:=fun σ=>[none,some 0].map fun j=>j.bind fun j=>(σ[j]?).join) rfl (AI.caught (by rfl) (by decide +kernel) rfl (by decide +kernel) (by intro y hy; simp only [Zz,Z3,or_false] at hy; rcases hy with rfl <;> rfl)
   (by intro y hy e; simp only [Zz,Z3,or_false] at hy; rcases hy with rfl | rfl | rfl | rfl <;> first | exact ⟨_,rfl⟩ | cases e)) (fun σ _=>Bd.of [none,some 0] rfl (by
   intro i j x h1 h2;match i,h1,h2 with
   | 0,_,h2=>cases h2
   | 1,h1,h2=>cases h1; cases h2; exact ⟨rfl,.inl rfl,.inl rfl⟩
   | n + 2,h1,_=>cases h1)) (Ig (Aj GS (hr.mono (by decide)) (by rfl) XS.mg XS.F.kp XS.b .nil Az (Aa (pv 0) (Aa (pv 3) (Aa (AD Bc (Bl (Aa Af (Aa Af Ad))) (pv 2) (fun _ _=>rfl)) Ad)))))
   (fun s2 H C fp=>⟨(Ai (i:=0) (show (["_law_place","_law_pen_here"]:List Str).Nodup by decide +kernel) rfl (Or.inl rfl)),AK,(As (Aa (pv 0) (Aa (Aq Bf Af (Aj GT (hr.mono (by decide)) (by rfl) XT.mg XT.F.kp XT.b .nil Az (Aa (pv 1) (Aa Af Ad)))) Ad)))⟩)) Ad)))
  (Ag (Ar (i:=9) nd rfl (Or.inl rfl) (AD Bc (Bl (Aa E3 (Aa (Aq Bf Af (Aj GT (hr.mono (by decide)) (by rfl) XT.mg XT.F.kp XT.b .nil Az (Aa (pv 0) (Aa (Aq Bf (Al AE (by rfl) h_len PySem.boot_len (Aa (pv 7) Ad)) Af) Ad)))) Ad))) (Aj GT (hr.mono (by decide)) (by rfl) XT.mg XT.F.kp XT.b .nil Az (Aa (pv 0) (Aa Af Ad))) (fun _ _=>rfl)))
  (Ak (A8 (As (Aa (As (Aa (A3 B7 (by rfl) h_tuple PyProof.Rows.boot_tuple (Aa (Al En (by rfl) h_sorted PyProof.Rows.boot_sorted (Aa (pv 3) Ad)) Ad)) (Aa (A3 B7 (by rfl) h_tuple PyProof.Rows.boot_tuple (Aa (pv 5) Ad)) Ad))) (Aa (A3 B7 (by rfl) h_tuple PyProof.Rows.boot_tuple (Aa (pv 7) Ad)) (Aa (A3 B7 (by rfl) h_tuple PyProof.Rows.boot_tuple (Aa (pv 8) Ad)) (Aa (pv 9) Ad))))))))))))))),?_⟩
  refine ⟨_,rfl,p,12,rfl,hP,by decide,DM (by decide),fun d1 a1 b1 c1 Zn Zm=>⟨rfl,.inr ⟨_,rfl,?_⟩⟩⟩;have Xs:=U2 (decide (V.int d1=V.int 11));generalize (if decide (V.int d1=V.int 11)=true then (1:Int) else 0)=wv at Xs ⊢;have P1:A5 (upd H p (.lst (A2 a1 b1 c1))) p:=A5.set _ _ _;have k1:AA p H (upd H p (.lst (A2 a1 b1 c1))):=AA.upd;generalize upd H p (.lst (A2 a1 b1 c1))=H1 at P1 k1 ⊢;refine ⟨_,rfl,_,rfl,p,8,rfl,P1,by decide,DM (by decide),fun d2 a2 b2 c2 d20 d21=>⟨_,_,rfl,rfl,?_⟩⟩;refine ⟨_,rfl,p,6,rfl,A5.set _ _ _,by decide,DM (by decide),fun d3 a3 b3 c3 d30 d31=>⟨_,_,rfl,rfl,(by show 2<=sizeLine; lia),fun L1 V3=>?_⟩⟩;have P2:A5 (upd (upd (upd H1 p (.lst (A2 a2 b2 c2))) p (.lst (A2 a3 b3 c3))) L1 (.lst [.int (1 + d2),.int (20 + d3)])) p:=(A5.set a3 b3 c3).same (Ac V3);have k2:AA p H1 (upd (upd (upd H1 p (.lst (A2 a2 b2 c2))) p (.lst (A2 a3 b3 c3))) L1 (.lst [.int (1 + d2),.int (20 + d3)])):=(AA.upd.trans AA.upd).trans (AA.of_same (Ac V3));have RL:(upd (upd (upd H1 p (.lst (A2 a2 b2 c2))) p (.lst (A2 a3 b3 c3))) L1 (.lst [.int (1 + d2),.int (20 + d3)])) L1=some (.lst [.int (1 + d2),.int (20 + d3)]):=Ab;generalize upd (upd (upd H1 p (.lst (A2 a2 b2 c2))) p (.lst (A2 a3 b3 c3))) L1 (.lst [.int (1 + d2),.int (20 + d3)])=H2 at P2 k2 RL ⊢;obtain ⟨n,hn,n1,YE⟩:∃ n:Nat,Gn [V.int (1 + d2),.int (20 + d3)] wv=some (.int (n:Int))/\1<=n/\n<=26:=by
   rcases Xs with rfl | rfl
   ·exact ⟨(1 + d2).toNat,by rw [dE (by lia)]; rfl,by lia,by lia⟩
   ·exact ⟨(20 + d3).toNat,by rw [dE (by lia)]; rfl,by lia,by lia⟩
  refine ⟨_,rfl,L1,_,_,_,rfl,rfl,AX.of RL,hn,p,n,rfl,P2,YE,fun H3 D xs P3 k3 hDn hD xl xnd xnm xnz=>?_⟩;have nDp:D ≠ p:=P2.ne hDn;refine ⟨_,_,rfl,rfl,⟨by decide,by decide,by decide⟩,_,_,rfl,rfl,⟨by decide,by decide,by decide⟩,(by show 6<=sizeLine; lia),fun L2 MM=>?_⟩;have s3:=Ac (o:=.lst [.int 1,.int 1,.int 1,.int 1,.int (10 ^ (9:Int).toNat),.int (10 ^ (20:Int).toNat)]) MM;refine ⟨_,rfl,p,6,rfl,P3.same s3,by decide,DM (by decide),fun d4 a4 b4 c4 d40 d41=>?_⟩;obtain ⟨mu,hmu,X3,X2⟩:∃ mu:Int,Gn [V.int 1,.int 1,.int 1,.int 1,.int (10 ^ (9:Int).toNat),.int (10 ^ (20:Int).toNat)] d4=some (.int mu)/\1<=mu/\mu<=10 ^ 20:=by
   have:d4=0\/d4=1\/d4=2\/d4=3\/d4=4\/d4=5:=by lia
   rcases this with rfl | rfl | rfl | rfl | rfl | rfl <;> exact ⟨_,rfl,by decide,by decide⟩
  have nL2:L2 ≠ p:=P3.ne MM;have k4:AA p H3 (upd (upd H3 L2 (.lst [.int 1,.int 1,.int 1,.int 1,.int (10 ^ (9:Int).toNat),.int (10 ^ (20:Int).toNat)])) p (.lst (A2 a4 b4 c4))):=(AA.of_same s3).trans AA.upd;have P4:A5 (upd (upd H3 L2 (.lst [.int 1,.int 1,.int 1,.int 1,.int (10 ^ (9:Int).toNat),.int (10 ^ (20:Int).toNat)])) p (.lst (A2 a4 b4 c4))) p:=A5.set _ _ _;have Jj:(upd (upd H3 L2 (.lst [.int 1,.int 1,.int 1,.int 1,.int (10 ^ (9:Int).toNat),.int (10 ^ (20:Int).toNat)])) p (.lst (A2 a4 b4 c4))) L2=some (.lst [.int 1,.int 1,.int 1,.int 1,.int (10 ^ (9:Int).toNat),.int (10 ^ (20:Int).toNat)]):=by rw [Ae nL2,Ab]
  generalize upd (upd H3 L2 (.lst [.int 1,.int 1,.int 1,.int 1,.int (10 ^ (9:Int).toNat),.int (10 ^ (20:Int).toNat)])) p (.lst (A2 a4 b4 c4))=H4 at k4 P4 Jj ⊢;exists L2,_,_,_,rfl,rfl,AX.of Jj,hmu;have hD4:=k4 _ _ nDp hD;refine ⟨_,rfl,_,rfl,_,rfl,p,D,xs,kd,rfl,P4,hD4,nDp,xnd,xnm,by lia,by lia,fun H5 T us ws Gm P5 k5 hT dus wp wc w9 wl=>?_⟩;have nTp:T ≠ p:=by intro z; subst z; obtain ⟨_,_,_,z⟩:=P5; rw [z] at hT; cases hT
  have ul:=dus.len;rw [Zv] at ul;have wlen:ws.length=Gm.length:=by rw [wp.length_eq,Zv]
  exists T,rfl,⟨_,A4.of hT⟩
  refine AQ BD (xs:=us) (fun C i σ H' acc=>∃ v:Option V,σ=[v,some (.int mu)]/\Ao H5 H'/\H' C=some (.lst acc)/\AB H' acc (((ws.take i).map (F7 mu)).map EM)/\acc.length=i)
   (by lia) (fun C hC=>⟨_,rfl,Ac hC,Ab,.nil,rfl⟩) (fun C i σ H' acc hC ⟨v,_,sa,hCC,_,al⟩=>⟨A4.of (sa _ _ hT),hCC,al⟩) ?_ ?_
  ·rintro C i σ H' acc x B hC ex ⟨v,rfl,sa,hCC,dd,al⟩ hB;obtain ⟨u,tt,eu,rfl,htt⟩:=Fc dus ex;have WD:=sa _ _ htt;refine ⟨_,rfl,_,rfl,tt,_,rfl,A4.of WD,(by show ¬ ((0:Nat)=0/\(2:Nat)=3); decide),fun Z hZ=>?_⟩;have q1:=Ac (o:=.tup (Em [.str u.1,.str u.2.1,.int u.2.2] none (some 2))) hZ;have hZ':(upd H' Z (.tup (Em [.str u.1,.str u.2.1,.int u.2.2] none (some 2)))) Z=some (.tup [.str u.1,.str u.2.1]):=Ab;generalize upd H' Z (.tup (Em [.str u.1,.str u.2.1,.int u.2.2] none (some 2)))=H6 at q1 hZ' ⊢;have ub:1<=u.2.2/\u.2.2<=9:=by
    obtain ⟨u0,WC,e⟩:=Z6.mp (wp.mem_iff.mp (Zx eu));have e2:u.2.2=u0.2.2:=by rw [<-e]; rfl
    rw [e2];exact ⟨(wc.1 u0 WC).2.2.2,w9 u0 WC⟩
   refine ⟨_,rfl,tt,_,_,_,rfl,rfl,A4.of (q1 _ _ WD),rfl,_,rfl,_,_,rfl,rfl,.inl ⟨by lia,by lia⟩,(by show 1<=sizeLine; lia),fun Y hY=>?_⟩;have q2:=Ac (o:=.tup [.int (u.2.2 * mu)]) hY;have hY':(upd H6 Y (.tup [.int (u.2.2 * mu)])) Y=some (.tup [.int (u.2.2 * mu)]):=Ab;generalize upd H6 Y (.tup [.int (u.2.2 * mu)])=H7 at q2 hY' ⊢;refine ⟨Z,Y,_,_,rfl,rfl,A4.of (q2 _ _ hZ'),A4.of hY',by simp,(by show 2 + 1<=sizeLine; lia),fun z=>absurd z (by simp),fun _ X hX=>?_⟩;have q3:=Ac (o:=.tup ([.str u.1,.str u.2.1] ++ [.int (u.2.2 * mu)])) hX;have XJ:(upd H7 X (.tup ([.str u.1,.str u.2.1] ++ [.int (u.2.2 * mu)]))) X=some (.tup [.str u.1,.str u.2.1,.int (u.2.2 * mu)]):=Ab;generalize upd H7 X (.tup ([.str u.1,.str u.2.1] ++ [.int (u.2.2 * mu)]))=H8 at q3 XJ ⊢;have q:=q1.trans (q2.trans q3);have c8:=q _ _ hCC;have nX:X ≠ C:=by intro z; subst z; rw [c8] at XJ; cases XJ
   refine hB _ _ _ c8 ⟨_,rfl,fun b o e=>by rw [Ae (Ah e hC)]; exact q _ _ (sa _ _ e),Ab,?_,by rw [Zy,al]; rfl⟩;rw [ZL,eu,Z7,Z7];refine BP (Dp dd fun b ys e=>?_) (.cons (.tup (by rw [Ae nX]; exact XJ) (.cons (.str _) (.cons (.str _) (.cons (.int _) .nil)))) .nil);rw [Ae (by intro z; subst z; rw [hCC] at e; cases e)];exact q _ _ e
  rintro W σ H6 acc hW ⟨v,rfl,Yy,hWW,dW,wal⟩;rw [ul,ZN] at dW;have nWp:W ≠ p:=P5.ne hW;have P6:=P5.same Yy;refine ⟨(by show 4<=sizeLine; lia),fun L3 ML=>?_⟩;have s6:=Ac (o:=.lst [.int 1,.int 4,.int 12,.int 40]) ML;refine ⟨_,rfl,p,4,rfl,P6.same s6,by decide,DM (by decide),fun d5 a5 b5 c5 d50 d51=>?_⟩;obtain ⟨de,hde,de1,de2⟩:∃ de:Int,Gn [V.int 1,.int 4,.int 12,.int 40] d5=some (.int de)/\1<=de/\de<=40:=by
   have:d5=0\/d5=1\/d5=2\/d5=3:=by lia
   rcases this with rfl | rfl | rfl | rfl <;> exact ⟨_,rfl,by decide,by decide⟩
  have nL3:L3 ≠ p:=P6.ne ML;have k7:AA p H6 (upd (upd H6 L3 (.lst [.int 1,.int 4,.int 12,.int 40])) p (.lst (A2 a5 b5 c5))):=(AA.of_same s6).trans AA.upd;have P7:A5 (upd (upd H6 L3 (.lst [.int 1,.int 4,.int 12,.int 40])) p (.lst (A2 a5 b5 c5))) p:=A5.set _ _ _;have Lk:(upd (upd H6 L3 (.lst [.int 1,.int 4,.int 12,.int 40])) p (.lst (A2 a5 b5 c5))) L3=some (.lst [.int 1,.int 4,.int 12,.int 40]):=by rw [Ae nL3,Ab]
  generalize upd (upd H6 L3 (.lst [.int 1,.int 4,.int 12,.int 40])) p (.lst (A2 a5 b5 c5))=H7 at k7 P7 Lk ⊢;exists L3,_,_,_,rfl,rfl,AX.of Lk,hde;have k47:AA p H4 H7:=k5.trans ((AA.of_same Yy).trans k7);have hDxa:=k47 _ _ nDp hD4;obtain ⟨moa,hmoa,YG,moa2⟩:∃ mo:Int,Gn [V.int 6,.int 3] wv=some (.int mo)/\1<=mo/\mo<=10:=by
   rcases Xs with rfl | rfl
   ·exact ⟨_,rfl,by decide,by decide⟩
   ·exact ⟨_,rfl,by decide,by decide⟩
  refine ⟨_,rfl,_,rfl,(by show 2<=sizeLine; lia),fun La hLa=>?_⟩;have sLa:=Ac (o:=.lst [V.int 6,.int 3]) hLa;have Xa:(upd H7 La (.lst [V.int 6,.int 3])) La=some (.lst [V.int 6,.int 3]):=Ab;have PLa:=P7.same sLa;have hDa:=sLa _ _ hDxa;generalize upd H7 La (.lst [V.int 6,.int 3])=HLa at sLa Xa PLa hDa;refine ⟨_,rfl,La,_,_,_,rfl,rfl,AX.of Xa,hmoa,p,D,xs,moa,rfl,PLa,hDa,nDp,by lia,by lia,YG,by lia,fun Ha Da ysa zsa Pa ka fa da pma l1a l2a=>?_⟩;have nDa:Da ≠ p:=PLa.ne fa;exists Da,rfl,⟨_,AX.of da⟩
  have ysuba:∀ y ∈ ysa,y ∈ xs:=fun y hy=>pma.mem_iff.mp (ay _ hy)
  have ynda:ysa.Nodup:=(aI.mp (pma.nodup_iff.mpr xnd)).1;refine AQ BW (xs:=ysa.map V.str) (fun D i σ H' acc=>∃ (v:Option V) (rs:List AV),σ=[v,some (.ref p),some (.int mu),some (.int de)]/\A5 H' p/\(∀ b o,b ≠ p->Ha b=some o->H' b=some o)/\H' D=some (.lst acc)/\AB H' acc (rs.map Cq)/\acc.length=i/\rs.map (·.1)=ysa.take i/\∀ r ∈ rs,0<=r.2/\r.2 < 10 ^ 30)
   (by rw [Zv]; lia) (fun D hD=>⟨_,[],rfl,Pa.other (Pa.ne hD),fun b o hb e=>Ac hD _ _ e,Ab,.nil,rfl,rfl,fun r hr=>(nomatch hr)⟩)
   (fun D i σ H' acc hD ⟨v,rs,_,_,kp,Bj,_,al,_⟩=>⟨AX.of (kp _ _ nDa da),Bj,al⟩) ?_ ?_
  ·rintro D i σ H' acc x B hD ex ⟨v,rs,rfl,P2,k2,d2,dd,al,rt,rl⟩ hB;obtain ⟨y,ey,rfl⟩:∃ y,ysa[i]? = some y/\x=.str y:=by
    rw [Z0] at ex;cases z:ysa[i]? with
    | none=>rw [z] at ex; cases ex
    | some y=>rw [z] at ex; exact ⟨y,rfl,(ZJ.inj ex).symm⟩
   have nD:D ≠ p:=Pa.ne hD;refine ⟨_,rfl,_,rfl,_,rfl,_,rfl,p,de,rfl,P2,by lia,DM (by lia),fun l' a b c la lb=>⟨_,_,rfl,rfl,.inr ⟨by lia,by lia⟩,?_⟩⟩;have hl:0<=mu * l'/\mu * l' < 10 ^ 30:=by
    have h1:0<=mu * l':=cL (by lia) la;have h2:mu * l'<=10 ^ 20 * 40:=bV X2 (by lia) la (by decide);have h3:(10:Int) ^ 20 * 40 < 10 ^ 30:=by decide
    exact ⟨h1,by lia⟩
   refine ⟨(by show 2<=sizeLine; lia),fun T hT=>?_⟩;have d3:(upd (upd H' p (.lst (A2 a b c))) T (.tup [.str y,.int (mu * l')])) D=some (.lst acc):=Ac hT _ _ (by rw [Ae nD]; exact d2);have nT:T ≠ D:=by intro z; subst z; rw [Ae nD,d2] at hT; cases hT
   have nTp:T ≠ p:=(A5.set (H:=H') (p:=p) a b c).ne hT;refine hB _ _ _ d3 ⟨_,rs ++ [(y,mu * l')],rfl,((A5.set a b c).other nTp).other nD,fun b' o hb e=>?_,Ab,?_,by rw [Zy,al]; rfl,?_,fun r hr=>?_⟩
   ·rw [Ae (Ah e hD)];exact Ac hT _ _ (by rw [Ae hb]; exact k2 b' o hb e)
   ·rw [Z7];refine BP (AW dd fun b' ys e=>?_) (.cons (FY (u:=(y,mu * l')) (by rw [Ae nT]; exact Ab)) .nil);rw [Ae (by intro z; subst z; rw [d2] at e; cases e)];exact Ac hT _ _ (by rw [Ae (by intro z; subst z; obtain ⟨_,_,_,z⟩:=P2; rw [z] at e; cases e)]; exact e)
   ·rw [Z7,rt,ZL,ey];rfl
   ·rcases Z9.mp hr with hr | hr
    ·exact rl r hr
    ·rw [ZH] at hr;subst hr;exact hl
  rintro Sa σa HSa usa hSa ⟨va,rsa,rfl,PSa,kSa,dSa,dda,ala,rta,rla⟩;have rlena:rsa.length=ysa.length:=by
   have:=congrArg aP rta;rw [Zv,ZE,Zv,eO] at this;exact this
  rw [Zv,ZN] at rta;have nSa:Sa ≠ p:=Pa.ne hSa;have qa:AA p HLa HSa:=fun b o hb e=>kSa b o hb (ka b o hb e)
  refine ⟨Sa,usa,rsa,rfl,AX.of dSa,dda,(by have:=AJ dda; lia),fun la wsa UQ hla ddda pmsa=>?_⟩;have sa:=Ac (o:=.lst wsa) hla;have hLLa:(upd HSa la (.lst wsa)) la=some (.lst wsa):=Ab;have PTa:=PSa.same sa;have dTa:AB (upd HSa la (.lst wsa)) wsa (UQ.map Cq):=AW ddda (fun b ys z=>sa _ _ z);generalize upd HSa la (.lst wsa)=HTa at sa hLLa PTa dTa;have nla:la ≠ p:=PSa.ne hla;have qTa:AA p HLa HTa:=qa.trans (AA.of_same sa);have oka:DW xs 0 rsa:=⟨fun r hr=>ysuba _ (by rw [<-rta]; exact dy hr),by rw [rta]; exact ynda,rla,by lia⟩
  have hDxb:HTa D=some (.lst (xs.map V.str)):=qTa _ _ nDp hDa;obtain ⟨mob,hmob,YF,mob2⟩:∃ mo:Int,Gn [V.int 8,.int 25] wv=some (.int mo)/\1<=mo/\mo<=30:=by
   rcases Xs with rfl | rfl
   ·exact ⟨_,rfl,by decide,by decide⟩
   ·exact ⟨_,rfl,by decide,by decide⟩
  refine ⟨_,rfl,_,rfl,(by show 2<=sizeLine; lia),fun Lb hLb=>?_⟩;have sLb:=Ac (o:=.lst [V.int 8,.int 25]) hLb;have WZ:(upd HTa Lb (.lst [V.int 8,.int 25])) Lb=some (.lst [V.int 8,.int 25]):=Ab;have PLb:=PTa.same sLb;have hDb:=sLb _ _ hDxb;generalize upd HTa Lb (.lst [V.int 8,.int 25])=HLb at sLb WZ PLb hDb;refine ⟨_,rfl,Lb,_,_,_,rfl,rfl,AX.of WZ,hmob,p,D,xs,mob,rfl,PLb,hDb,nDp,by lia,by lia,YF,by lia,fun Hb Db ysb zsb Pb kb fb db pmb l1b l2b=>?_⟩;have nDb:Db ≠ p:=PLb.ne fb;exists Db,rfl,⟨_,AX.of db⟩
  have ysubb:∀ y ∈ ysb,y ∈ xs:=fun y hy=>pmb.mem_iff.mp (ay _ hy)
  have yndb:ysb.Nodup:=(aI.mp (pmb.nodup_iff.mpr xnd)).1;refine AQ BW (xs:=ysb.map V.str) (fun D i σ H' acc=>∃ (v:Option V) (rs:List AV),σ=[v,some (.ref p)]/\A5 H' p/\(∀ b o,b ≠ p->Hb b=some o->H' b=some o)/\H' D=some (.lst acc)/\AB H' acc (rs.map Cq)/\acc.length=i/\rs.map (·.1)=ysb.take i/\∀ r ∈ rs,1<=r.2/\r.2<=4)
   (by rw [Zv]; lia) (fun D hD=>⟨_,[],rfl,Pb.other (Pb.ne hD),fun b o hb e=>Ac hD _ _ e,Ab,.nil,rfl,rfl,fun r hr=>(nomatch hr)⟩)
   (fun D i σ H' acc hD ⟨v,rs,_,_,kp,Bj,_,al,_⟩=>⟨AX.of (kp _ _ nDb db),Bj,al⟩) ?_ ?_
  ·rintro D i σ H' acc x B hD ex ⟨v,rs,rfl,P2,k2,d2,dd,al,rt,rl⟩ hB;obtain ⟨y,ey,rfl⟩:∃ y,ysb[i]? = some y/\x=.str y:=by
    rw [Z0] at ex;cases z:ysb[i]? with
    | none=>rw [z] at ex; cases ex
    | some y=>rw [z] at ex; exact ⟨y,rfl,(ZJ.inj ex).symm⟩
   have nD:D ≠ p:=Pb.ne hD;refine ⟨_,rfl,_,rfl,p,4,rfl,P2,by decide,DM (by decide),fun l' a b c la lb=>⟨_,_,rfl,rfl,?_⟩⟩;have hl:1<=1 + l'/\1 + l'<=4:=⟨by lia,by lia⟩
   refine ⟨(by show 2<=sizeLine; lia),fun T hT=>?_⟩;have d3:(upd (upd H' p (.lst (A2 a b c))) T (.tup [.str y,.int (1 + l')])) D=some (.lst acc):=Ac hT _ _ (by rw [Ae nD]; exact d2);have nT:T ≠ D:=by intro z; subst z; rw [Ae nD,d2] at hT; cases hT
   have nTp:T ≠ p:=(A5.set (H:=H') (p:=p) a b c).ne hT;refine hB _ _ _ d3 ⟨_,rs ++ [(y,1 + l')],rfl,((A5.set a b c).other nTp).other nD,fun b' o hb e=>?_,Ab,?_,by rw [Zy,al]; rfl,?_,fun r hr=>?_⟩
   ·rw [Ae (Ah e hD)];exact Ac hT _ _ (by rw [Ae hb]; exact k2 b' o hb e)
   ·rw [Z7];refine BP (AW dd fun b' ys e=>?_) (.cons (FY (u:=(y,1 + l')) (by rw [Ae nT]; exact Ab)) .nil);rw [Ae (by intro z; subst z; rw [d2] at e; cases e)];exact Ac hT _ _ (by rw [Ae (by intro z; subst z; obtain ⟨_,_,_,z⟩:=P2; rw [z] at e; cases e)]; exact e)
   ·rw [Z7,rt,ZL,ey];rfl
   ·rcases Z9.mp hr with hr | hr
    ·exact rl r hr
    ·rw [ZH] at hr;subst hr;exact hl
  rintro Sb σb HSb usb hSb ⟨vb,rsb,rfl,PSb,kSb,dSb,ddb,alb,rtb,rlb⟩;have rlenb:rsb.length=ysb.length:=by
   have:=congrArg aP rtb;rw [Zv,ZE,Zv,eO] at this;exact this
  rw [Zv,ZN] at rtb;have nSb:Sb ≠ p:=Pb.ne hSb;have qb:AA p HLb HSb:=fun b o hb e=>kSb b o hb (kb b o hb e)
  refine ⟨Sb,usb,rsb,rfl,AX.of dSb,ddb,(by have:=AJ ddb; lia),fun lb wsb UP hlb dddb pmsb=>?_⟩;have sb:=Ac (o:=.lst wsb) hlb;have hLLb:(upd HSb lb (.lst wsb)) lb=some (.lst wsb):=Ab;have PTb:=PSb.same sb;have dTb:AB (upd HSb lb (.lst wsb)) wsb (UP.map Cq):=AW dddb (fun b ys z=>sb _ _ z);generalize upd HSb lb (.lst wsb)=HTb at sb hLLb PTb dTb;have nlb:lb ≠ p:=PSb.ne hlb;have qTb:AA p HLb HTb:=qb.trans (AA.of_same sb);have ten:(4:Int) < 10 ^ 30:=by decide
  have okb:DW xs 1 rsb:=⟨fun r hr=>ysubb _ (by rw [<-rtb]; exact dy hr),by rw [rtb]; exact yndb,fun r hr=>⟨(rlb r hr).1,by have:=(rlb r hr).2; lia⟩,by lia⟩
  have Zf:=rlena;have hla:∀ b o,b ≠ p->HTa b=some o->HTb b=some o:=fun b o hb e=>qTb b o hb (sLb _ _ e)
  have wsl:wsa.length=rsa.length:=by rw [dTa.len,Zv,pmsa.length_eq]
  refine ⟨_,rfl,_,rfl,la,_,rfl,.inl (AX.of (hla _ _ nla hLLa)),_,_,rfl,rfl,p,(wsa.length:Int) + 1,rfl,PTb,by lia,DM (by lia),fun d6 a6 b6 c6 d60 d61=>⟨_,_,rfl,rfl,(by show 2<=sizeLine; lia),fun L4 Wh=>?_⟩⟩;have P8:A5 (upd (upd HTb p (.lst (A2 a6 b6 c6))) L4 (.lst [.non,.int (1 + d6)])) p:=(A5.set a6 b6 c6).same (Ac Wh);have k8:AA p HTb (upd (upd HTb p (.lst (A2 a6 b6 c6))) L4 (.lst [.non,.int (1 + d6)])):=AA.upd.trans (AA.of_same (Ac Wh));have M4:(upd (upd HTb p (.lst (A2 a6 b6 c6))) L4 (.lst [.non,.int (1 + d6)])) L4=some (.lst [.non,.int (1 + d6)]):=Ab;generalize upd (upd HTb p (.lst (A2 a6 b6 c6))) L4 (.lst [.non,.int (1 + d6)])=H8 at P8 k8 M4 ⊢;have nL4:L4 ≠ p:=by intro z; subst z; obtain ⟨_,_,_,z⟩:=P8; rw [z] at M4; cases M4
  refine ⟨_,rfl,p,2,rfl,P8,by decide,DM (by decide),fun d7 a7 b7 c7 d70 d71=>?_⟩;obtain ⟨x,dx,hx,lim⟩:∃ (x:V) (dx:PyData),Gn [V.non,.int (1 + d6)] d7=some x/\Lim x dx:=by
   have:d7=0\/d7=1:=by lia
   have ten2:(100:Int) < 10 ^ 30:=by decide
   rcases this with rfl | rfl
   ·exact ⟨_,_,rfl,.inl ⟨rfl,rfl⟩⟩
   ·exact ⟨_,_,rfl,.inr ⟨_,rfl,rfl,by lia,by lia⟩⟩
  have k9:AA p HTb (upd H8 p (.lst (A2 a7 b7 c7))):=k8.trans AA.upd;have P9:A5 (upd H8 p (.lst (A2 a7 b7 c7))) p:=A5.set _ _ _;have hL9:(upd H8 p (.lst (A2 a7 b7 c7))) L4=some (.lst [.non,.int (1 + d6)]):=by rw [Ae nL4]; exact M4
  generalize upd H8 p (.lst (A2 a7 b7 c7))=H9 at k9 P9 hL9 ⊢;exists L4,_,_,x,rfl,rfl,AX.of hL9,hx;have W7:AA p HTa H9:=fun b o hb e=>k9 _ _ hb (hla _ _ hb e)
  have X5:AA p H6 H9:=k7.trans ((AA.of_same sLa).trans (qTa.trans W7));have hD9:H9 D=some (.lst (xs.map V.str)):=W7 _ _ nDp hDxb;have hW9:H9 W=some (.lst acc):=X5 _ _ nWp hWW;have dW9:AB H9 acc ((ws.map (F7 mu)).map EM):=Dp dW (JA P6 X5);have hA9:H9 la=some (.lst wsa):=W7 _ _ nla hLLa;have dA9:AB H9 wsa (UQ.map Cq):=AW dTa (JA PTa W7);have hB9:H9 lb=some (.lst wsb):=k9 _ _ nlb hLLb;have dB9:AB H9 wsb (UP.map Cq):=AW dTb (JA PTb k9);have kp9:AA p H H9:=k1.trans (k2.trans (k3.trans (k4.trans (k5.trans ((AA.of_same Yy).trans X5)))));clear hla W7 X5 k9;refine ⟨_,rfl,D,xs,rfl,AX.of hD9,by lia,fun l1 ps HS pp so=>⟨l1,_,rfl,.inl ⟨AX.of Ab,fun T1 Vz=>?_⟩⟩⟩;have r1:=(Ac (o:=.lst (ps.map V.str)) HS).trans (Ac (o:=.tup (ps.map V.str)) Vz);have WW:(upd (upd H9 l1 (.lst (ps.map V.str))) T1 (.tup (ps.map V.str))) T1=some (.tup (ps.map V.str)):=Ab;generalize upd (upd H9 l1 (.lst (ps.map V.str))) T1 (.tup (ps.map V.str))=Su at r1 WW ⊢;refine ⟨_,rfl,W,_,rfl,.inl ⟨AX.of (r1 _ _ hW9),fun T2 Qu=>?_⟩⟩;have r2:=Ac (o:=.tup acc) Qu;have WV:(upd Su T2 (.tup acc)) T2=some (.tup acc):=Ab;generalize upd Su T2 (.tup acc)=Qz at r2 WV ⊢;refine ⟨(by show 2<=sizeLine; lia),fun M hM=>?_⟩;have r3:=Ac (o:=.tup [.ref T1,.ref T2]) hM;have hM':(upd Qz M (.tup [.ref T1,.ref T2])) M=some (.tup [.ref T1,.ref T2]):=Ab;generalize upd Qz M (.tup [.ref T1,.ref T2])=VO at r3 hM' ⊢;have Y6:=r1.trans (r2.trans r3);refine ⟨_,rfl,la,_,rfl,.inl ⟨AX.of (Y6 _ _ hA9),fun T3 Zh=>?_⟩⟩;have r4:=Ac (o:=.tup wsa) Zh;have WT:(upd VO T3 (.tup wsa)) T3=some (.tup wsa):=Ab;generalize upd VO T3 (.tup wsa)=Wo at r4 WT ⊢;refine ⟨_,rfl,lb,_,rfl,.inl ⟨AX.of (r4 _ _ (Y6 _ _ hB9)),fun T4 XQ=>?_⟩⟩;have r5:=Ac (o:=.tup wsb) XQ;have WS:(upd Wo T4 (.tup wsb)) T4=some (.tup wsb):=Ab;generalize upd Wo T4 (.tup wsb)=Xo at r5 WS ⊢;refine ⟨_,rfl,(by show 4<=sizeLine; lia),fun U hU=>?_⟩;have r6:=Ac (o:=.tup [.ref M,.ref T3,.ref T4,x]) hU;have hU':(upd Xo U (.tup [.ref M,.ref T3,.ref T4,x])) U=some (.tup [.ref M,.ref T3,.ref T4,x]):=Ab;generalize upd Xo U (.tup [.ref M,.ref T3,.ref T4,x])=Xn at r6 hU' ⊢;have Xy:=r4.trans (r5.trans r6);have Ww:=Y6.trans Xy;have pl:=pp.length_eq;have mw:Gk Xn M ps.length ps (ws.map (F7 mu)):=PM X3 X2 (Xy _ _ hM') (Xy _ _ (r3 _ _ (r2 _ _ WW))) (Xy _ _ (r3 _ _ WV)) (Dp dW9 fun b ys z=>Ww _ _ z) pp so xnd xnm wp wc w9 wl;refine k Xn U M ps.length ps _ UQ UP x dx (P9.same Ww) (kp9.trans (AA.of_same Ww)) ⟨⟨T3,T4,wsa,wsb,hU',r6 _ _ (r5 _ _ WT),AW dA9 (fun b ys z=>Ww _ _ z),r6 _ _ WS,AW dB9 (fun b ys z=>Ww _ _ z)⟩,mw,by lia,by lia,(oka.perm pmsa).names pp,(okb.perm pmsb).names pp,?_,?_,lim⟩ (fun r hr=>(rlb r (pmsb.mem_iff.mp hr)).2) fun y hy=>xnz y (pp.mem_iff.mp hy)
  ·rw [pmsa.length_eq]; lia
  ·rw [pmsb.length_eq]; lia
end
end K21
namespace L2
open PySem PySem.Spec PyProof.Rows
def Gi (bb:Bool) (h:Heap) (l:Addr) (ys:Array Value):Prop:=match bb with | true=>h.IsTuple l ys | false=>h.IsList l ys
def J7 (bb:Bool) (h:Heap) (i l:Addr) (k:Nat):Prop:=match bb with | true=>h.IsTupleIter i l k | false=>h.IsListIter i l k
def itN:Bool->String | true=>"tuple_iterator" | false=>"list_iterator"
def Ux (K:Zw) (bb:Bool) (H:Hp) (a:Addr) (xs:List V):Prop:=match bb with | true=>A4 K H a xs | false=>AX K H a xs
section
variable {bb:Bool} {h h':Heap} {a b i l:Addr} {k:Nat} {items:Array Value}
theorem Gi.extBut (x:Gi bb h a items) (hs:Heap.ExtBut b h h') (hab:a ≠ b):Gi bb h' a items:=by
 cases bb
 ·exact Heap.IsList.extBut x hs hab
 ·exact Heap.IsTuple.extBut x hs hab
theorem J7.extBut (x:J7 bb h i l k) (hs:Heap.ExtBut b h h') (hab:i ≠ b):J7 bb h' i l k:=by
 cases bb
 ·exact Heap.IsListIter.extBut x hs hab
 ·exact Heap.IsTupleIter.extBut x hs hab
theorem J7.at (x:J7 bb h i l k) (e:∀ o,h.get? i=some o->h'.get? i=some o):J7 bb h' i l k:=by
 cases bb
 ·exact Heap.IsListIter.at x e
 ·exact D8 x e
theorem J7.ex (x:J7 bb h i l k):∃ o,h.get? i=some o/\o.data=.fields #[.ref l,rawInt k]:=by
 cases bb
 ·obtain ⟨o,e,_,d⟩:=x; exact ⟨o,e,d⟩
 ·obtain ⟨o,e,_,d⟩:=x; exact ⟨o,e,d⟩
theorem J7.lt (x:J7 bb h i l k):i < h.objs.size:=let ⟨_,e,_⟩:=x.ex; Z1 e
theorem Gi.lt (x:Gi bb h a items):a < h.objs.size:=by
 cases bb
 ·obtain ⟨_,e,_⟩:=x; exact Z1 e
 ·obtain ⟨_,e,_⟩:=x; exact Z1 e
end
theorem Av.seqB {X:Cx} {pins:List (Addr × Obj)} {σ:St} {H:Hp} {s:Shared} {bb:Bool} {a:Addr} {xs:List V} (I:Av X pins σ H s) (h:Ux X.K bb H a xs):∃ Ax:List Value,A9 xs Ax/\Gi bb s.heap a Ax.toArray/\xs.length<=sizeLine:=by
 cases bb
 ·obtain ⟨Ax,r,p,z⟩:=I.list h; exact ⟨Ax,r,p.isList,z⟩
 ·obtain ⟨Ax,r,p,z⟩:=I.tuple h; exact ⟨Ax,r,p,z⟩
theorem Av.seqB_inj {X:Cx} {pins:List (Addr × Obj)} {σ:St} {H:Hp} {s:Shared} {bb:Bool} {a:Addr} {xs ys:List V} (I:Av X pins σ H s) (h:Ux X.K bb H a xs) (h':Ux X.K bb H a ys):xs=ys:=by
 cases bb
 ·exact I.list_inj h h'
 ·exact I.tuple_inj h h'
section
variable {prog:Program} {w:World} {A:Around} {E:Value->Shared->Prop} {s:Shared}
theorem KZ {bb:Bool} {it l:Addr} {i:Nat} {items} {x:Value} {Q:Value->Shared->Prop} (hit:J7 bb s.heap it l i) (hl:Gi bb s.heap l items) (hx:items[i]? = some x)
  (hQ:∀ h',J7 bb h' it l (i + 1)->Heap.SameBut it s.heap h'->Q x { s with heap:=h' }):wpAny (model prog w) A (Builtin.SmallTypes.nextOf (.ref it)) Q E s:=by
 cases bb
 ·exact wpAny_nextOf_list_item hit hl hx hQ
 ·exact Ct hit hl hx hQ
theorem Ms {bb:Bool} {it l:Addr} {i:Nat} {items} {Q:Value->Shared->Prop} (hh:A.handled=none) (hit:J7 bb s.heap it l i) (hl:Gi bb s.heap l items) (hx:items[i]? = none)
  (hE:∀ h' e,Heap.ExtBut it s.heap h'->(∃ o,h'.get? e=some o/\o.cls=.type "StopIteration")->E (.ref e) { s with heap:=h' }):wpAny (model prog w) A (Builtin.SmallTypes.nextOf (.ref it)) Q E s:=by
 cases bb
 ·exact wpAny_nextOf_list_end hh hit hl hx hE
 ·exact Ek hh hit hl hx hE
theorem Iv {bb:Bool} {z TI TO i1 i2 l1 l2:Addr} {k1 k2:Nat} {xs ys:Array Value} {x y a b:Value} {Q:Value->Shared->Prop} (D:ZipApart z TI TO i1 i2 l1 l2)
  (hz:IsZip s.heap z TI TO .none) (hTI:IsPair s.heap TI (.ref i1) (.ref i2)) (hTO:IsPair s.heap TO a b)
  (h1:s.heap.IsTupleIter i1 l1 k1) (h2:J7 bb s.heap i2 l2 k2) (HS:s.heap.IsTuple l1 xs) (HF:Gi bb s.heap l2 ys) (hx:xs[k1]? = some x) (hy:ys[k2]? = some y)
  (hQ:∀ h',IsZip h' z TI TO (rawInt s.heap.objs.size)->IsPair h' TO x y->h'.IsTupleIter i1 l1 (k1 + 1)->J7 bb h' i2 l2 (k2 + 1)->IsPair h' s.heap.objs.size x y->h'.objs.size=s.heap.objs.size + 1 ->
   (∀ c o,c ≠ z->c ≠ TO->c ≠ i1->c ≠ i2->s.heap.get? c=some o->h'.get? c=some o)->Q (.ref s.heap.objs.size) { s with heap:=h' }) :
  wpAny (model prog w) A (Builtin.«zip.__next__» ⟨[.ref z],[]⟩) (fun fin s'=>∃ v,fin=.done (.ret v)/\Q v s') E s:=by
 show wpAny _ _ (field (.ref z) 2 >>= _) _ _ _
 refine wpAny_bind (wpAny_field hz rfl (x:=.bool false) rfl ?_);show wpAny _ _ (field (.ref z) 3 >>= _) _ _ _
 refine wpAny_bind (wpAny_field hz rfl (x:=.ref TI) rfl ?_);refine wpAny_bind (wpAny_seqItems hTI rfl ?_);show wpAny _ _ (Builtin.SmallTypes.ownedTupleIsFree (.ref z) >>= _) _ _ _
 refine wpAny_bind ?_;unfold Builtin.SmallTypes.ownedTupleIsFree;refine wpAny_bind (wpAny_field hz rfl (x:=.none) rfl (wpAny_pure ?_));simp only [if_true];refine wpAny_bind (wpAny_rule ?_);refine wpAny_bind (wpAny_field hz rfl (x:=.ref TO) rfl ?_);refine wpAny_bind (wpAny_setField_rec hz (by simp) fun B4 HC CB=>?_);replace HC:IsZip B4 z TI TO .ellipsis:=HC;refine wpAny_bind ?_;simp only [dX,et,e6,eB];refine wpAny_bind (wpAny_bind (wpAny_onRaise ?_));show wpAny _ _ (Builtin.SmallTypes.nextOf (.ref i1) >>= _) _ _ _
 refine wpAny_bind (Ct (h1.extBut CB.extBut D.i1z) (HS.extBut CB.extBut D.l1z) hx fun G6 Uq Dz=>wpAny_pure ?_);have Ji:IsPair G6 TO a b:=Dz.extBut _ _ D.TOi1 (CB.extBut _ _ D.TOz hTO);refine wpAny_bind (wpAny_seqItems Ji rfl ?_);refine wpAny_bind (wpAny_updateSeq_pair Ji fun HR Lj DN=>?_);replace Lj:IsPair HR TO x b:=Lj;refine wpAny_bind (wpAny_letGo (wpAny_pure ?_));refine wpAny_bind (wpAny_bind (wpAny_onRaise ?_));show wpAny _ _ (Builtin.SmallTypes.nextOf (.ref i2) >>= _) _ _ _
 refine wpAny_bind (KZ (((h2.extBut CB.extBut D.i2z).extBut Dz.extBut D.i12.symm).extBut DN.extBut D.TOi2.symm)
  (((HF.extBut CB.extBut D.l2z).extBut Dz.extBut D.l2i1).extBut DN.extBut D.l2TO) hy fun N2 Xe HE=>wpAny_pure ?_)
 have RJ:IsPair N2 TO x b:=HE.extBut _ _ D.TOi2 Lj;refine wpAny_bind (wpAny_seqItems RJ rfl ?_);refine wpAny_bind (wpAny_updateSeq_pair RJ fun Dc Jh HD=>?_);replace Jh:IsPair Dc TO x y:=Jh;refine wpAny_bind (wpAny_letGo (wpAny_pure (wpAny_pure ?_)));refine wpAny_bind (wpAny_seqItems Jh rfl ?_);refine wpAny_bind (wpAny_newTuple ?_);have hsz:Dc.objs.size=s.heap.objs.size:=by rw [HD.1,HE.1,DN.1,Dz.1,CB.1]
 have Ue:IsZip Dc z TI TO .ellipsis:=HD.extBut _ _ D.TOz.symm (HE.extBut _ _ D.i2z.symm (DN.extBut _ _ D.TOz.symm (Dz.extBut _ _ D.i1z.symm HC)));have WM:∀ c o,c ≠ z->c ≠ TO->c ≠ i1->c ≠ i2->s.heap.get? c=some o->Dc.get? c=some o:=fun c o c1 c2 c3 c4 e=>
  HD.extBut _ _ c2 (HE.extBut _ _ c4 (DN.extBut _ _ c2 (Dz.extBut _ _ c3 (CB.extBut _ _ c1 e))))
 have Up:Dc.IsTupleIter i1 l1 (k1 + 1):=((Uq.extBut DN.extBut D.TOi1.symm).extBut HE.extBut D.i12).extBut HD.extBut D.TOi1.symm;have Uo:J7 bb Dc i2 l2 (k2 + 1):=Xe.extBut HD.extBut D.TOi2.symm;have hzlt:z < Dc.objs.size:=Z1 Ue;have hTOlt:TO < Dc.objs.size:=Z1 Jh;have hi1lt:i1 < Dc.objs.size:=by obtain ⟨_,e,_⟩:=Up; exact Z1 e
 have hi2lt:i2 < Dc.objs.size:=Uo.lt;show wpAny _ _ (Builtin.SmallTypes.ownedTupleHandOut (.ref z) (.ref Dc.objs.size) >>= _) _ _ _
 refine wpAny_bind ?_;unfold Builtin.SmallTypes.ownedTupleHandOut;have WB:IsZip (Dc.push { cls:=.type "tuple",data:=.seq #[x,y] }) z TI TO .ellipsis:=Zu _ Ue;refine wpAny_bind (wpAny_setField_rec WB (by simp) fun YM RC RE=>?_);replace RC:IsZip YM z TI TO (rawInt Dc.objs.size):=RC;refine wpAny_setField_rec RC (by simp) fun R9 O4 RD=>?_
 replace O4:IsZip R9 z TI TO (rawInt Dc.objs.size):=O4;have up:∀ c o,c ≠ z->Dc.get? c=some o->R9.get? c=some o:=fun c o c1 e=>RD.extBut _ _ c1 (RE.extBut _ _ c1 (Zu _ e))
 have Uk:IsPair R9 Dc.objs.size x y:=RD.extBut _ _ (aA hzlt) (RE.extBut _ _ (aA hzlt) (Z5 _ rfl));have hz8:R9.objs.size=Dc.objs.size + 1:=by rw [RD.1,RE.1,ae]
 rw [hsz] at O4 Uk hz8;refine wpAny_pure ⟨_,rfl,?_⟩;show Q (.ref Dc.objs.size) _
 rw [hsz];exact hQ R9 O4 (up _ _ D.TOz Jh) (Up.at fun o e=>up _ o D.i1z e) (Uo.at fun o e=>up _ o D.i2z e) Uk hz8 fun c o c1 c2 c3 c4 e=>up c o c1 (WM c o c1 c2 c3 c4 e)
theorem J8 {bb:Bool} {z TI TO i1 i2 l1 l2:Addr} {k1 k2:Nat} {xs ys:Array Value} {a b:Value} {Q:Fin->Shared->Prop} (hh:A.handled=none) (D:ZipApart z TI TO i1 i2 l1 l2)
  (hz:IsZip s.heap z TI TO .none) (hTI:IsPair s.heap TI (.ref i1) (.ref i2)) (hTO:IsPair s.heap TO a b)
  (h1:s.heap.IsTupleIter i1 l1 k1) (h2:J7 bb s.heap i2 l2 k2) (HS:s.heap.IsTuple l1 xs) (HF:Gi bb s.heap l2 ys) (hend:xs[k1]? = none\/ys[k2]? = none)
  (hE:∀ h' e,(∀ c o,c ≠ z->c ≠ TO->c ≠ i1->c ≠ i2->s.heap.get? c=some o->h'.get? c=some o)->(∃ o,h'.get? e=some o/\o.cls=.type "StopIteration")->E (.ref e) { s with heap:=h' }) :
  wpAny (model prog w) A (Builtin.«zip.__next__» ⟨[.ref z],[]⟩) Q E s:=by
 show wpAny _ _ (field (.ref z) 2 >>= _) _ _ _
 refine wpAny_bind (wpAny_field hz rfl (x:=.bool false) rfl ?_);show wpAny _ _ (field (.ref z) 3 >>= _) _ _ _
 refine wpAny_bind (wpAny_field hz rfl (x:=.ref TI) rfl ?_);refine wpAny_bind (wpAny_seqItems hTI rfl ?_);show wpAny _ _ (Builtin.SmallTypes.ownedTupleIsFree (.ref z) >>= _) _ _ _
 refine wpAny_bind ?_;unfold Builtin.SmallTypes.ownedTupleIsFree;refine wpAny_bind (wpAny_field hz rfl (x:=.none) rfl (wpAny_pure ?_));simp only [if_true];refine wpAny_bind (wpAny_rule ?_);refine wpAny_bind (wpAny_field hz rfl (x:=.ref TO) rfl ?_);refine wpAny_bind (wpAny_setField_rec hz (by simp) fun B4 HC CB=>?_);replace HC:IsZip B4 z TI TO .ellipsis:=HC;refine wpAny_bind ?_;simp only [dX,et,e6,eB];refine wpAny_bind (wpAny_bind (wpAny_onRaise ?_));show wpAny _ _ (Builtin.SmallTypes.nextOf (.ref i1) >>= _) _ _ _
 cases hx:xs[k1]? with
 | none=>
  refine wpAny_bind (Ek hh (h1.extBut CB.extBut D.i1z) (HS.extBut CB.extBut D.l1z) hx fun G6 e Dz he=>?_);obtain ⟨oe,hoe,hce⟩:=he;have Uh:IsZip G6 z TI TO .ellipsis:=Dz _ _ D.i1z.symm HC;have hez:e ≠ z:=fun x=>by subst x; rw [Uh] at hoe; cases hoe; simp at hce
  refine wpAny_setField_rec Uh (by simp) fun HR _ DN=>hE HR e (fun c o c1 _ c3 _ x=>DN.extBut _ _ c1 (Dz _ _ c3 (CB.extBut _ _ c1 x))) ⟨oe,DN.extBut _ _ hez hoe,hce⟩
 | some x=>
  have hy:ys[k2]? = none:=by rcases hend with h | h; rw [hx] at h; cases h; exact h
  refine wpAny_bind (Ct (h1.extBut CB.extBut D.i1z) (HS.extBut CB.extBut D.l1z) hx fun G6 Uq Dz=>wpAny_pure ?_);have Ji:IsPair G6 TO a b:=Dz.extBut _ _ D.TOi1 (CB.extBut _ _ D.TOz hTO);refine wpAny_bind (wpAny_seqItems Ji rfl ?_);refine wpAny_bind (wpAny_updateSeq_pair Ji fun HR Lj DN=>?_);refine wpAny_bind (wpAny_letGo (wpAny_pure ?_));refine wpAny_bind (wpAny_bind (wpAny_onRaise ?_));show wpAny _ _ (Builtin.SmallTypes.nextOf (.ref i2) >>= _) _ _ _
  refine wpAny_bind (Ms hh (((h2.extBut CB.extBut D.i2z).extBut Dz.extBut D.i12.symm).extBut DN.extBut D.TOi2.symm)
   (((HF.extBut CB.extBut D.l2z).extBut Dz.extBut D.l2i1).extBut DN.extBut D.l2TO) hy fun N2 e HE he=>?_)
  obtain ⟨oe,hoe,hce⟩:=he;have Ug:IsZip N2 z TI TO .ellipsis:=HE _ _ D.i2z.symm (DN.extBut _ _ D.TOz.symm (Dz.extBut _ _ D.i1z.symm HC));have hez:e ≠ z:=fun x=>by subst x; rw [Ug] at hoe; cases hoe; simp at hce
  refine wpAny_setField_rec Ug (by simp) fun Dc _ HD=>hE Dc e (fun c o c1 c2 c3 c4 x=>HD.extBut _ _ c1 (HE _ _ c4 (DN.extBut _ _ c2 (Dz.extBut _ _ c3 (CB.extBut _ _ c1 x))))) ⟨oe,HD.extBut _ _ hez hoe,hce⟩
theorem Gr {bb:Bool} {z TI TO i1 i2 l1 l2:Addr} {k1 k2:Nat} {xs ys:Array Value} {x y a b:Value} {Q:Option Value->Shared->Prop} (D:ZipApart z TI TO i1 i2 l1 l2)
  (hz:IsZip s.heap z TI TO .none) (hTI:IsPair s.heap TI (.ref i1) (.ref i2)) (hTO:IsPair s.heap TO a b)
  (h1:s.heap.IsTupleIter i1 l1 k1) (h2:J7 bb s.heap i2 l2 k2) (HS:s.heap.IsTuple l1 xs) (HF:Gi bb s.heap l2 ys) (hx:xs[k1]? = some x) (hy:ys[k2]? = some y)
  (hQ:∀ h',IsZip h' z TI TO (rawInt s.heap.objs.size)->IsPair h' TO x y->h'.IsTupleIter i1 l1 (k1 + 1)->J7 bb h' i2 l2 (k2 + 1)->IsPair h' s.heap.objs.size x y->h'.objs.size=s.heap.objs.size + 1 ->
   (∀ c o,c ≠ z->c ≠ TO->c ≠ i1->c ≠ i2->s.heap.get? c=some o->h'.get? c=some o)->Q (some (.ref s.heap.objs.size)) { s with heap:=h' }) :
  wpAny (model prog w) A (pyNext (.ref z)) Q E s:=by
 have hT:s.TypeIs (.ref z) "zip":=⟨_,hz,rfl⟩
 unfold pyNext;exact wpAny_bind (wpAny_attempt (wpAny_callSpecial?_slot (name:=Str.ofString "__next__") hT F.slot_zip_next
  (wpAny_call_entry F.slot_zip_next hT F.entry_zip_next
   (Iv D hz hTI hTO h1 h2 HS HF hx hy fun h' a1 a2 a3 a4 a5 a6 a7=>wpAny_pure (hQ h' a1 a2 a3 a4 a5 a6 a7)) (F.args_zip_next_1 _))))
theorem HM {bb:Bool} {z TI TO i1 i2 l1 l2:Addr} {k1 k2:Nat} {xs ys:Array Value} {a b:Value} {Q:Option Value->Shared->Prop} (hh:A.handled=none) (D:ZipApart z TI TO i1 i2 l1 l2)
  (hz:IsZip s.heap z TI TO .none) (hTI:IsPair s.heap TI (.ref i1) (.ref i2)) (hTO:IsPair s.heap TO a b)
  (h1:s.heap.IsTupleIter i1 l1 k1) (h2:J7 bb s.heap i2 l2 k2) (HS:s.heap.IsTuple l1 xs) (HF:Gi bb s.heap l2 ys) (hend:xs[k1]? = none\/ys[k2]? = none)
  (hQ:∀ h',(∀ c o,c ≠ z->c ≠ TO->c ≠ i1->c ≠ i2->s.heap.get? c=some o->h'.get? c=some o)->Q none { s with heap:=h' }):wpAny (model prog w) A (pyNext (.ref z)) Q E s:=by
 have hT:s.TypeIs (.ref z) "zip":=⟨_,hz,rfl⟩
 unfold pyNext;refine wpAny_bind (wpAny_attempt (wpAny_callSpecial?_slot (name:=Str.ofString "__next__") hT F.slot_zip_next
  (wpAny_call_entry F.slot_zip_next hT F.entry_zip_next (J8 hh D hz hTI hTO h1 h2 HS HF hend fun h' e hk he=>?_) (F.args_zip_next_1 _))))
 obtain ⟨o,ho,hc⟩:=he;refine wpAny_bind (wpAny_isInstance (T:="StopIteration") (b:=true) ⟨o,ho,hc⟩ isSubtype_stop ?_);exact wpAny_pure (hQ _ hk)
end
abbrev NV (h:Heap) (l1:Addr):Heap:=h.push { cls:=.type "tuple_iterator",data:=.fields #[.ref l1,.int 0 0] }
abbrev NU (bb:Bool) (h:Heap) (l1 l2:Addr):Heap:=(NV h l1).push { cls:=.type (itN bb),data:=.fields #[.ref l2,.int 0 0] }
abbrev NT (bb:Bool) (h:Heap) (l1 l2:Addr):Heap:=(NU bb h l1 l2).push { cls:=.type "tuple",data:=.seq #[.ref h.objs.size,.ref (NV h l1).objs.size] }
abbrev NS (bb:Bool) (h:Heap) (l1 l2:Addr):Heap:=(NT bb h l1 l2).push { cls:=.type "tuple",data:=.seq #[.none,.none] }
abbrev Iu (bb:Bool) (h:Heap) (l1 l2:Addr):Heap:=(NS bb h l1 l2).push { cls:=.type "zip",data:=.fields #[.none,.bool false,.bool false,.ref (NU bb h l1 l2).objs.size,.ref (NT bb h l1 l2).objs.size] }
theorem Jb (bb:Bool) (l1 l2:Addr) (xs ys:Array Value) :
  Meets (Builtin.«zip.__new__» ⟨[.type "zip",.ref l1,.ref l2],[]⟩) (fun _ R s=>s.heap.IsTuple l1 xs/\Gi bb s.heap l2 ys /\
   R (.ok (.ret (.ref (NS bb s.heap l1 l2).objs.size))) { s with heap:=Iu bb s.heap l1 l2 }):=
 .of_wp fun prog w A R s h=>by
  obtain ⟨hp,g,d,tk,os⟩:=s; obtain ⟨HS,HF,h⟩:=h;have hsub:=sub_zip;have V3:Heap.IsTuple (Shared.heap ⟨hp,g,d,tk,os⟩) l1 xs:=HS;cases bb
  ·have MM:Heap.IsList (Shared.heap ⟨hp.push { cls:=.type "tuple_iterator",data:=.fields #[.ref l1,.int 0 0] },g,d,tk,os⟩) l2 ys:=Heap.IsList.push HF _;wp_walk using wpAny_pyIter_tuple V3,wpAny_pyIter_list MM;exact ⟨_,rfl,h⟩
  ·have MM:Heap.IsTuple (Shared.heap ⟨hp.push { cls:=.type "tuple_iterator",data:=.fields #[.ref l1,.int 0 0] },g,d,tk,os⟩) l2 ys:=Heap.IsTuple.push HF _;wp_walk using wpAny_pyIter_tuple V3,wpAny_pyIter_tuple MM;exact ⟨_,rfl,h⟩
section
variable {prog:Program} {w:World} {A:Around} {E:Value->Shared->Prop} {s:Shared}
theorem Qn {bb:Bool} {l1 l2:Addr} {xs ys:Array Value} {Q:Value->Shared->Prop} (HS:s.heap.IsTuple l1 xs) (HF:Gi bb s.heap l2 ys)
  (h:∀ h',IsZip h' (s.heap.objs.size + 4) (s.heap.objs.size + 2) (s.heap.objs.size + 3) .none->IsPair h' (s.heap.objs.size + 2) (.ref s.heap.objs.size) (.ref (s.heap.objs.size + 1)) ->
   IsPair h' (s.heap.objs.size + 3) .none .none->h'.IsTupleIter s.heap.objs.size l1 0->J7 bb h' (s.heap.objs.size + 1) l2 0->h'.objs.size=s.heap.objs.size + 5 ->
   (∀ c o,s.heap.get? c=some o->h'.get? c=some o)->Q (.ref (s.heap.objs.size + 4)) { s with heap:=h' }) :
  wpAny (model prog w) A (call (.type "zip") [.ref l1,.ref l2]) Q E s:=by
 refine callType_new F.called_zip (by decide) (F.typeCall_zip_2 _ _) (F.newCall_zip_2 _ _) (fun obj=>F.args_object_init_3 obj _ _) F.entry_zip_new
  (Jb bb l1 l2 xs ys) ⟨HS,HF,?_⟩
 have z1:(NV s.heap l1).objs.size=s.heap.objs.size + 1:=ae ..;have z2:(NU bb s.heap l1 l2).objs.size=s.heap.objs.size + 2:=by rw [ae,z1]
 have z3:(NT bb s.heap l1 l2).objs.size=s.heap.objs.size + 3:=by rw [ae,z2]
 have z4:(NS bb s.heap l1 l2).objs.size=s.heap.objs.size + 4:=by rw [ae,z3]
 have z5:(Iu bb s.heap l1 l2).objs.size=s.heap.objs.size + 5:=by rw [ae,z4]
 have g5:(Iu bb s.heap l1 l2).get? (NS bb s.heap l1 l2).objs.size=some _:=Z5 _ rfl;have g4:(Iu bb s.heap l1 l2).get? (NT bb s.heap l1 l2).objs.size=some _:=Zu _ (Z5 _ rfl);have g3:(Iu bb s.heap l1 l2).get? (NU bb s.heap l1 l2).objs.size=some _:=Zu _ (Zu _ (Z5 _ rfl));have g2:(Iu bb s.heap l1 l2).get? (NV s.heap l1).objs.size=some _:=Zu _ (Zu _ (Zu _ (Z5 _ rfl)));have g1:(Iu bb s.heap l1 l2).get? s.heap.objs.size=some _:=Zu _ (Zu _ (Zu _ (Zu _ (Z5 _ rfl))));show _/\_
 rw [z2,z3,z4] at g5;rw [z1,z2] at g3;rw [z3] at g4;rw [z1] at g2;rw [z4];exact ⟨⟨_,g5,rfl⟩,h _ g5 g3 g4 ⟨_,g1,rfl,rfl⟩ (by cases bb <;> exact ⟨_,g2,rfl,rfl⟩) z5 fun c o x=>
  Zu _ (Zu _ (Zu _ (Zu _ (Zu _ x))))⟩
end
def Sh (K:Zw) (bb:Bool) (a b:Addr):It:=
 ⟨fun i H=>∃ xs ys x y,A4 K H a xs/\Ux K bb H b ys/\xs[i]? = some x/\ys[i]? = some y,
   fun i H v H'=>∃ T x y,H T=none/\v=.ref T/\H'=upd H T (.tup [x,y])/\(∀ xs,A4 K H a xs->xs[i]? = some x)/\(∀ ys,Ux K bb H b ys->ys[i]? = some y),
   fun i H=>∃ xs ys,A4 K H a xs/\Ux K bb H b ys/\(xs.length<=i\/ys.length<=i)⟩
theorem OO {bb:Bool} {P:Program} {w:World} {K:Zw} {es:List Expr} {x1} {pos:Pos} (a b z TI TO i1 i2:Addr) (D:ZipApart z TI TO i1 i2 a b) :
  MG P w K (.Tuple es x1 pos) (Sh K bb a b) [z,TI,TO,i1,i2] z (fun i h=>IsZip h z TI TO .none/\IsPair h TI (.ref i1) (.ref i2)/\(∃ c d,IsPair h TO c d)/\h.IsTupleIter i1 a i/\J7 bb h i2 b i) where
 mem:=by simp
 obj:=fun i h st c hc=>by
  obtain ⟨h1,h2,⟨_,_,h3⟩,⟨o4,e4,c4,d4⟩,h5⟩:=st;obtain ⟨o5,e5,d5⟩:=h5.ex;simp only [Zz,Z3,or_false] at hc;rcases hc with rfl | rfl | rfl | rfl | rfl
  ·exact ⟨_,h1,fun v q=>by cases q⟩
  ·exact ⟨_,h2,fun v q=>by cases q⟩
  ·exact ⟨_,h3,fun v q=>by cases q⟩
  ·exact ⟨_,e4,fun v q=>by rw [d4] at q; cases q⟩
  ·exact ⟨_,e5,fun v q=>by rw [d5] at q; cases q⟩
 keep:=fun i h h' st k=>by
  obtain ⟨h1,h2,⟨c,d,h3⟩,h4,h5⟩:=st;exact ⟨k _ (by simp) _ h1,k _ (by simp) _ h2,⟨c,d,k _ (by simp) _ h3⟩,D8 h4 fun o e=>k _ (by simp) _ e,h5.at fun o e=>k _ (by simp) o e⟩
 item:=by
  intro X hP hw hK hc i pins s σ H E I hf st hg;subst hP hw hK;obtain ⟨xs,ys,x,y,hq,Wd,hx,hy⟩:=hg;obtain ⟨Ax,rv,p,hz⟩:=I.tuple hq;obtain ⟨Lf,VX,p2,hz2⟩:=I.seqB Wd;obtain ⟨u,hu,ru⟩:=rv.get hx;obtain ⟨u2,X6,ru2⟩:=VX.get hy;obtain ⟨h1,h2,⟨c,d,h3⟩,h4,h5⟩:=st;refine Gr D h1 h2 h3 h4 h5 (show s.heap.IsTuple a Ax.toArray from p) p2 (x:=u) (y:=u2) (by simpa using hu) (by simpa using X6) fun h' g1 g2 g3 g4 g5 g6 g7=>?_
  have kk:∀ b' o,b' ∉ [z,TI,TO,i1,i2]->s.heap.get? b'=some o->h'.get? b'=some o:=fun b' o hb e=>by
   simp only [Zz,Z3,or_false,not_or] at hb;exact g7 b' o hb.1 hb.2.2.1 hb.2.2.2.1 hb.2.2.2.2 e
  have I1:=I.turnedT (t':=s.toks) (xs:=[x,y]) hf kk ⟨by show 2<=sizeLine; decide,[u,u2],.cons ru (.cons ru2 .nil),⟨_,g5,rfl,0,rfl⟩,fun o e=>by rw [g5] at e; cases e; rfl⟩;have hT:H s.heap.objs.size=none:=I.hok.fresh (Z4 _);have ltz:=Z1 h1;have hf1:∀ b' ∈ [z,TI,TO,i1,i2],(upd H s.heap.objs.size (.tup [x,y])) b'=none:=fun b' hb=>by
   have lt:b' < s.heap.objs.size:=by
    simp only [Zz,Z3,or_false] at hb;rcases hb with rfl | rfl | rfl | rfl | rfl
    ·exact Z1 h1
    ·exact Z1 h2
    ·exact Z1 h3
    ·obtain ⟨_,e,_⟩:=h4; exact Z1 e
    ·exact h5.lt
   rw [Ae (Z8 lt)];exact (hf b' hb).1
  refine ⟨.ref s.heap.objs.size,rfl,wpAny_letOwnedTupleGo_zip g1 fun Zk z1 sb=>?_⟩;obtain ⟨_,f1,_,f3,f4,f5⟩:=hf z (by simp);have I2:=I1.turned (t':=s.toks) (h':=Zk) (it:=z) (fun b' o hb e=>(sb.2 b' hb).trans e) (hf1 z (by simp)) f1 f3 f4 f5;have h2s:IsPair h' TI (.ref i1) (.ref i2):=g7 TI _ D.TIz D.TITO D.TIi1 D.TIi2 h2;exact ⟨.ref s.heap.objs.size,_,I2,rfl,⟨_,x,y,hT,rfl,rfl,fun Xq M3=>by rw [I.tuple_inj M3 hq]; exact hx,fun ys' hy'=>by rw [I.seqB_inj hy' Wd]; exact hy⟩,
   ⟨z1,(sb.2 _ D.TIz).trans h2s,⟨_,_,(sb.2 _ D.TOz).trans g2⟩,D8 g3 fun o e=>(sb.2 _ D.i1z).trans e,g4.at fun o e=>(sb.2 _ D.i2z).trans e⟩,hf1⟩
 done:=by
  intro X hP hw hK hc i pins s σ H E I hf st hg;subst hP hw hK;obtain ⟨xs,ys,hq,Wd,hx⟩:=hg;obtain ⟨Ax,rv,p,hz⟩:=I.tuple hq;obtain ⟨Lf,VX,p2,hz2⟩:=I.seqB Wd;obtain ⟨h1,h2,⟨c,d,h3⟩,h4,h5⟩:=st;have e1:=rv.length;have e2:=VX.length;refine HM (I.ok.hd hc) D h1 h2 h3 h4 h5 (show s.heap.IsTuple a Ax.toArray from p) p2 ?_ fun h' g7=>⟨rfl,I.turnedL (t':=s.toks) hf fun b' o hb e=>?_⟩
  ·rcases hx with hx | hx
   ·exact .inl (by simp; lia)
   ·exact .inr (by simp; lia)
  ·simp only [Zz,Z3,or_false,not_or] at hb;exact g7 b' o hb.1 hb.2.2.1 hb.2.2.2.1 hb.2.2.2.2 e
 self:=fun _ _ _ _ _ st h=>wpAny_pyIter_zip st.1 h
def iZipB (K:Zw) (bb:Bool) (ta:TA):TI:=fun σ H R=>ta σ H fun vs H1=>∃ a b,vs=[.ref a,.ref b]/\(∃ xs,A4 K H1 a xs)/\(∃ ys,Ux K bb H1 b ys)/\R (Sh K bb a b) H1
theorem SG (bb:Bool) {X:Cx} {es:List Expr} {x1} {tp:Pos} {a b:Expr} {ta:TA} {p pos:Pos} (hg:Gl X "zip") (hm:X.mg "zip"=none) (ha:PA X [a,b] ta) (hs:starEach [a,b] X.env=[(false,eval a X.env),(false,eval b X.env)]:=by rfl) (Wc:starEach [b] X.env=[(false,eval b X.env)]:=by rfl) :
  PI X (.Tuple es x1 tp) (.Call (.Name "zip" p) [a,b] [] pos) (iZipB X.K bb ta):=by
 intro pins s σ H R I h;refine Call_ (G4 I hg hm boot_zip (PyProof.Rows.callWith_type1 (By (ha (pos:=pos) (pins:=pins) s σ H _ I h) fun us s1 ⟨vs,H1,I1,r1,q1⟩=>?_) (by rw [hs,Wc]) (by rw [Wc]; rfl)));obtain ⟨a',b',e,⟨xs,hx⟩,⟨ys,hy⟩,q⟩:=q1;subst e;obtain ⟨Ax,rv,pt,hz⟩:=I1.tuple hx;obtain ⟨Lf,VX,pl,hz2⟩:=I1.seqB hy;cases r1 with
 | cons r rr=>
  cases rr with
  | cons r' rr=>
   cases rr
   cases r
   cases r'
   have lta:a' < s1.heap.objs.size:=by obtain ⟨o,e,_⟩:=pt; exact Z1 e
   have ltb:b' < s1.heap.objs.size:=by exact pl.lt
   refine Qn (show s1.heap.IsTuple a' Ax.toArray from pt) pl fun h' g1 g2 g3 g4 g5 g6 g7=>?_
   have I2:Av X pins σ H1 { s1 with heap:=h' }:=I1.kept (t':=s1.toks) g7;have D:ZipApart (s1.heap.objs.size + 4) (s1.heap.objs.size + 2) (s1.heap.objs.size + 3) s1.heap.objs.size (s1.heap.objs.size + 1) a' b':=by
    have la:@LT.lt Nat _ a' s1.heap.objs.size:=lta;have lb:@LT.lt Nat _ b' s1.heap.objs.size:=ltb;constructor <;> (intro z0; have z1:@Eq Nat _ _:=z0; lia)
   refine wpAny_pyIter_zip g1 ?_;refine ⟨_,_,_,_,H1,rfl,I2,OO a' b' _ _ _ _ _ D,⟨g1,g2,⟨_,_,g3⟩,g4,g5⟩,fun c hc=>?_,q⟩;have le:s1.heap.objs.size<=c:=by
    simp only [Zz,Z3,or_false] at hc;rcases hc with rfl | rfl | rfl | rfl | rfl <;> first | exact Nat.le_add_right _ _ | exact Z4 _
   exact I1.fpOk le (I1.hok.fresh le)
theorem Pm {bb:Bool} {K:Zw} {a b:Addr} {xs ys:List V} {g:TG} {te:TE} {H:Hp} {σ0:St} {R:Addr->Hp->Prop} (ll:xs.length=ys.length) (I:Addr->Nat->St->Hp->List V->Prop) (big:xs.length < sizeLine)
  (h0:∀ D,H D=none->I D 0 σ0 (upd H D (.lst [])) [])
  (hs:∀ D i σ H' acc,H D=none->I D i σ H' acc->A4 K H' a xs/\Ux K bb H' b ys/\H' D=some (.lst acc)/\acc.length=i)
  (turn:∀ D i σ H' acc x y T (B:St->V->Hp->Prop),H D=none->xs[i]? = some x->ys[i]? = some y->H' T=none->I D i σ H' acc->(∀ AG v H5,H5 D=some (.lst acc)->I D (i + 1) AG (upd H5 D (.lst (acc ++ [v]))) (acc ++ [v])->B AG v H5)->g (.ref T) σ (upd H' T (.tup [x,y])) fun AG H3=>te AG H3 (B AG))
  (fin:∀ D σ H' acc,H D=none->I D xs.length σ H' acc->R D H') :
  ∀ D,H D=none->∃ W:Nat->Nat->St->Hp->Prop,(∃ m,W 0 m σ0 (upd H D (.lst []))) /\
   ∀ i m Ay H',W i m Ay H'->((Sh K bb a b).stop i H'/\R D H')\/((Sh K bb a b).go i H'/\∀ x H2,(Sh K bb a b).yld i H' x H2->g x Ay H2 fun AG H3=>JC AG H3 fun b H4=>
    if b=true then te AG H4 (fun v H5=>∃ acc,H5 D=some (.lst acc)/\acc.length < sizeLine/\∃ m',m' < m/\W (i + 1) m' AG (upd H5 D (.lst (acc ++ [v])))) else ∃ m',m' < m/\W (i + 1) m' AG H4):=by
 intro D hD;exists fun i m σ H'=>m=xs.length - i/\i<=xs.length/\∃ acc,I D i σ H' acc,⟨xs.length,rfl,ZQ _,[],h0 D hD⟩
 rintro i m σ H' ⟨rfl,hi,acc,p⟩;obtain ⟨s1,VW,s2,s3⟩:=hs D i σ H' acc hD p;by_cases BL:i < xs.length
 ·refine .inr ⟨⟨xs,ys,xs[i],ys[i]'(by lia),s1,VW,Zt BL,Zt (by lia)⟩,fun x H2 y=>?_⟩;obtain ⟨T,x',y',hT,rfl,rfl,ex,ey⟩:=y;have e:∀ (F:St->V->Hp->Prop) (G:St->Hp->Prop),(fun (AG:St) (H3:Hp)=>JC AG H3 fun b H4=>if b=true then te AG H4 (F AG) else G AG H4)=fun AG H3=>te AG H3 (F AG):=by
   intro F G;funext AG H3;show (if true=true then te AG H3 (F AG) else G AG H3)=_
   rw [if_pos rfl]
  rw [e (fun AG v H5=>∃ acc,H5 D=some (.lst acc)/\acc.length < sizeLine/\∃ m',m' < xs.length - i/\(m'=xs.length - (i + 1)/\i + 1<=xs.length/\∃ GH,I D (i + 1) AG (upd H5 D (.lst (acc ++ [v]))) GH)) (fun AG H4=>∃ m',m' < xs.length - i/\(m'=xs.length - (i + 1)/\i + 1<=xs.length/\∃ GH,I D (i + 1) AG H4 GH))];refine turn D i σ H' acc x' y' T _ hD (ex xs s1) (ey ys VW) hT p fun AG v H5 d5 p5=>?_
  exact ⟨acc,d5,by lia,xs.length - (i + 1),by lia,rfl,BL,_,p5⟩
 ·have e:i=xs.length:=by lia
  subst e;exact .inl ⟨⟨xs,ys,s1,VW,.inl (Z4 _)⟩,fin D σ H' acc hD p⟩
end L2
namespace K21
open PySem L2
section
variable {P:Program} {w:World} {K:Zw} {mg:Str->Option Value} {base:Heap}
theorem IQ {f:Addr} {fd:FuncData} (F:DQ K "neighbours" "neighbours" CS f fd):A7 P w K mg base Bw 1 f fd ["web"] (QN K):=by
 refine F.ok Fy (fun vs H Q E h=>?_) (fun cdv A outer s H vs Q E hr h=>?_)
 ·obtain ⟨q,ps,ws,r,rfl,_⟩:=h;rfl
 ·obtain ⟨q,ps,ws,r,rfl,ok,k⟩:=h;obtain ⟨tp,tw,us,hq,htp,htw,hD⟩:=ok.web.ex;have nd:=Fy.nd;have hu:=CO hr;have big:1000 < sizeLine:=by decide
  have l30:=ok.l30;have l64:=ok.l64;refine ⟨_,Ag (Ds (pv 0) (Ba K rfl rfl (Am (Ai (i:=1) nd rfl (Or.inl rfl)) (Am (Ai (i:=2) nd rfl (Or.inl rfl)) AZ))))
   (Ag (Rj (ix:=3) (N:=["place"]) (σ0:=fun _=>[none]) nd rfl (Or.inl rfl) rfl (AI.plain (by decide +kernel) (by decide +kernel) rfl (by decide +kernel)) (fun σ _=>Bd.none _ _ _ ["place"] σ) (Bq K rfl (pv 1))
    (fun s2 H C fp=>⟨Ai (i:=0) (show (["place"]:List Str).Nodup by decide +kernel) rfl (Or.inl rfl),AK,pv 0,Dw⟩))
   (Ag (Cb PassesOwn.never rfl (Bq K rfl (pv 2)) (Ba K rfl rfl (Am (Ai (i:=4) nd rfl (Or.inl rfl)) (Am (Ai (i:=5) nd rfl (Or.inl rfl)) (Am (Ai (i:=6) nd rfl (Or.inl rfl)) AZ))))
    (Ag (DK hu (Bm hu (pv 3) (pv 4) (fun _ _=>rfl)) (pv 5) (pv 6) rfl) (Ak (DK hu (Bm hu (pv 3) (pv 5) (fun _ _=>rfl)) (pv 4) (pv 6) rfl))))
   (Ak (A8 (pv 3))))),?_⟩
  exists _,rfl,q,_,rfl,A4.of hq,rfl,_,_,rfl,_,_,rfl,rfl;refine ⟨_,rfl,tp,rfl,⟨_,A4.of htp⟩,fun C hC=>⟨fun i m Ay H'=>m=ps.length - i/\i<=ps.length/\(∃ v,Ay=[v])/\∃ ds:List Addr,Ao H H'/\ds.length=i/\ds.Nodup/\C ∉ ds/\(∀ d ∈ ds,H d=none/\H' d=some (.dK []))/\H' C=some (.dK (sK (Oz (ps.take i) ds))),
   ⟨_,rfl,ZQ _,⟨_,rfl⟩,[],Ac hC,rfl,.nil,by simp,by simp,Ab⟩,?_⟩⟩
  rintro i m Ay H' ⟨rfl,hi,⟨v,rfl⟩,ds,s1,dl,dn,dC,dH,O8⟩;have N3:=s1 _ _ htp;by_cases BL:i < ps.length
  ·refine .inr ⟨⟨_,V.str ps[i],A4.of N3,by rw [Z0,Zt BL]; rfl⟩,?_⟩;rintro x H6 ⟨rfl,hx⟩;have M3:=hx _ (A4.of N3);rw [Z0,Zt BL] at M3;cases M3
   have tl:(ps.take i).length=i:=by rw [ZE]; lia
   have np:ps[i] ∉ (Oz (ps.take i) ds).map (·.1):=by
    rw [IW (by lia)];intro hm;obtain ⟨j,hj,e⟩:=ZM hm;rw [bG] at e;have:=Hw ok.nd (Zt (show j < ps.length by lia)) (by rw [Zt BL,e]);lia
   refine ⟨_,rfl,fun d hd=>⟨_,Sum.inr ps[i],rfl,Ac hd _ _ O8,?_,_,by lia,rfl,BL,⟨_,rfl⟩,ds ++ [d],fun b o z=>?_,by simp [dl],?_,?_,fun c hc=>?_,?_⟩⟩
   ·rw [CJ];unfold Oz;rw [Zv,bx];lia
   ·rw [Ae (Ah z hC)];exact Ac hd _ _ (s1 _ _ z)
   ·refine aI.mpr ⟨dn,aq.mpr ⟨by simp,.nil⟩,fun a ha b hb=>?_⟩;have e:b=d:=by simpa using hb
    subst e;rintro rfl;rw [(dH _ ha).2] at hd;cases hd
   ·rw [Z9,not_or];refine ⟨dC,fun hm=>?_⟩;have e:C=d:=by simpa using hm
    rw [<-e,O8] at hd;cases hd
   ·rcases Z9.mp hc with hc | hc
    ·exists (dH c hc).1;rw [Ae (fun z=>dC (by rw [<-z]; exact hc))];exact Ac hd _ _ (dH c hc).2
    ·have e:c=d:=by simpa using hc
     subst e;exists s1.free hd;rw [Ae (fun z=>by rw [z,O8] at hd; cases hd)];exact Ab
   ·rw [Ab,DR np];have e1:ps.take (i + 1)=ps.take i ++ [ps[i]]:=by rw [ZL,Zt BL]; rfl
    have e2:Oz (ps.take (i + 1)) (ds ++ [d])=Oz (ps.take i) ds ++ [(ps[i],.ref d)]:=by
     unfold Oz;rw [e1,List.zip_append (by lia),Z7];rfl
    rw [e2]
  ·have e0:i=ps.length:=by lia
   subst e0;rw [ZN] at O8;refine .inl ⟨⟨_,A4.of N3,by rw [Zv]; exact Z4 _⟩,?_⟩;have NB0:NB H' C ps ds (L6 (ws.take 0)) 0:=⟨O8,dl,dn,dC,fun j p d e1 e2=>⟨[],(dH d (Zx e2)).2,Z4 _,fun y=>⟨fun z=>absurd z Z3,fun ⟨u,hu,_⟩=>absurd hu Z3⟩⟩⟩
   have Zr:So H' ps ds (BS (ws.take 0)):=fun j p d nv e1 e2 hr y v hy=>by
    have:nv=[]:=Rd.inj hr (.inl (dH d (Zx e2)).2);subst this;cases hy
   have hwl:us.length=ws.length:=by rw [Js hD,Zv]
   refine ⟨_,rfl,tw,rfl,⟨_,A4.of (s1 _ _ htw)⟩,RP (xs:=us) (fun i σ H2=>(∃ v4 v5 v6,σ=[some (.ref q),some (.ref tp),some (.ref tw),some (.ref C),v4,v5,v6])/\Ao H H2/\NB H2 C ps ds (L6 (ws.take i)) (2 * i)/\So H2 ps ds (BS (ws.take i))) ⟨⟨_,_,_,rfl⟩,s1,NB0,Zr⟩ (fun i σ H2 _ hP=>A4.of (hP.2.1 _ _ htw)) (fun i x σ H2 hx hP rt bk=>?_) (fun σ H2 hP=>?_)⟩
   ·obtain ⟨⟨v4,v5,v6,rfl⟩,s2,nb,nbv⟩:=hP;obtain ⟨u,t,gu,rfl,ht⟩:=Fc hD hx;have XH:i < ws.length:=(Z2.mp gu).1;have X6:=ok.ends u (Zx gu);exists t,_,rfl,A4.of (s2 _ _ ht),rfl,_,_,rfl,_,_,rfl,_,_,rfl,rfl;obtain ⟨j,d,nv,a1,a2,a3,a4,a5,a6⟩:=nb.get ok.nd X6.1;obtain ⟨Ej,b1,b2,b3⟩:=Nd nv u.2.1 (.int u.2.2);have dH1:∀ c ∈ ds,H c=none:=fun c hc=>(dH c hc).1
    exists _,rfl,_,rfl,_,rfl,C,_,rfl,?_,_,rfl,d,_,rfl,FH.k (k:=Sum.inr u.2.1) a4 (by rw [CJ]; lia)
    ·have:=Cn.k (k:=Sum.inr u.1) nb.top;rw [a3] at this;exact this
    rw [b1];have TZ:=nb.put ok.nd a1 a2 a4 b2 b3 a6 a5;have W2:=nbv.put ok.nd nb.nd a1 a2 a4 b1 (fun _ _ _=>Qh) (M8 gu);have s3:Ao H (upd H2 d (.dK (sK Ej))):=fun b o z=>by
     rw [Ae (Ah z (dH1 d (Zx a2)))];exact s2 _ _ z
    generalize upd H2 d (.dK (sK Ej))=H3 at TZ W2 s3 ⊢;obtain ⟨j',d',mv,c1,c2,c3,c4,c5,c6⟩:=TZ.get ok.nd X6.2;obtain ⟨mv',e1,e2,e3⟩:=Nd mv u.1 (.int u.2.2);exists _,rfl,_,rfl,_,rfl,C,_,rfl,?_,_,rfl,d',_,rfl,FH.k (k:=Sum.inr u.1) c4 (by rw [CJ]; lia)
    ·have:=Cn.k (k:=Sum.inr u.2.1) TZ.top;rw [c3] at this;exact this
    rw [e1];have nb3:=TZ.put ok.nd c1 c2 c4 e2 e3 c6 c5;have YD:=W2.put (Ed':=BS (ws.take (i + 1))) ok.nd TZ.nd c1 c2 c4 e1 (fun _ _ _ h=>h) (M8 gu).symm;refine ⟨⟨_,_,_,rfl⟩,fun b o z=>?_,nb3.mono (fun a b=>(Sd gu a b).symm) (by lia),YD⟩;rw [Ae (Ah z (dH1 d' (Zx c2)))];exact s3 _ _ z
   ·obtain ⟨⟨v4,v5,v6,rfl⟩,s2,nb,nbv⟩:=hP;rw [hwl,ZN] at nb nbv;exact ⟨_,rfl,k H2 C ds s2 (nb.mono (fun _ _=>Iff.rfl) (by lia)) nbv hC fun d hd=>(dH d hd).1⟩
end
section
variable {P:Program} {w:World} {K:Zw} {mg:Str->Option Value} {base:Heap}
structure NbF (K:Zw) (mg:Str->Option Value) (f:Addr) (fd:FuncData):Prop where
 F:DQ K "neighbours" "neighbours" CS f fd
 mg:mg "neighbours"=some (.ref f)
 b:HI K fd ["web"] []
theorem Nn {f fN:Addr} {fd fdN:FuncData} (NK:NbF K mg fN fdN) (hmi:mg "min"=none) (F:DQ K "nearest" "nearest" Fo f fd):A7 P w K mg base Bw 2 f fd ["web","starts"] (QM K):=by
 have GN:A7 P w K mg base Bw 1 fN fdN ["web"] (QN K):=IQ NK.F;refine F.ok IF (fun vs H Q E h=>?_) (fun cdv A outer s H vs Q E hr h=>?_)
 ·obtain ⟨q,st,ps,ss,ws,r,rfl,_⟩:=h;rfl
 ·obtain ⟨q,st,ps,ss,ws,r,rfl,ok,pos,uniq,hst,ssne,ssn,sssub,k⟩:=h;have nd:=IF.nd;have hu:=CO hr;have Lg:=hr.units;have big:1000 < sizeLine:=by decide
  have l30:=ok.l30;have ssl:ss.length<=30:=by
   have:=Cf ssn sssub;lia
  refine ⟨_,Ag (Ar (i:=2) nd rfl (Or.inl rfl) (Aj GN hr (by rfl) NK.mg NK.F.kp NK.b .nil Az (Aa (pv 0) Ad)))
   (Ag (Ar (i:=3) nd rfl (Or.inr rfl) (IM (N:=["start"]) (σ0:=fun _=>[none]) rfl (AI.plain (by decide +kernel) (by decide +kernel) rfl (by decide +kernel)) (fun σ _=>Bd.none _ _ _ ["start"] σ) (PI.or (Dt K rfl (pv 1)) (Bq K rfl (pv 1)))
    (fun s2 H C fp=>⟨Ai (i:=0) (show (["start"]:List Str).Nodup by decide +kernel) rfl (Or.inl rfl),AK,pv 0,As (Aa Af (Aa (pv 0) Ad))⟩)))
   (Ag (Ar (i:=4) nd rfl (Or.inl rfl) Dw)
   (Ag (Ri PassesOwn.never (Rh (pv 3) (fun _=>rfl))
    (Ag (Ds (SH (Al (Jv rfl Lg) (by rfl) hmi PyProof.Rows.boot_min (Aa
      (Bb (N:=["name","reached"]) (σ0:=fun σ=>[none,some 3].map fun j=>j.bind fun j=>(σ[j]?).join) rfl
       (AI.caught (by rfl) (by decide +kernel) rfl (by decide +kernel) (by intro y hy; simp only [Zz,Z3,or_false] at hy; rcases hy with rfl <;> rfl)
        (by intro y hy e; simp only [Zz,Z3,or_false] at hy; rcases hy with rfl | rfl | rfl <;> first | exact ⟨_,rfl⟩ | cases e))
       (fun σ _=>Bd.of [none,some 3] rfl (by
        intro i j x h1 h2;match i,h1,h2 with
        | 0,_,h2=>cases h2
        | 1,h1,h2=>cases h1; cases h2; exact ⟨rfl,.inl rfl,.inl rfl⟩
        | n + 2,h1,_=>cases h1)) (Ow (pv 3))
       (fun s2 H C fp=>⟨Ai (i:=0) (show (["name","reached"]:List Str).Nodup by decide +kernel) rfl (Or.inl rfl),AK,As (Aa (Bm hu (pv 1) (pv 0) (fun _ _=>rfl)) (Aa (pv 0) Ad))⟩)) Ad)))
      (Ba K rfl rfl (Am (Ba K rfl rfl (Am (Ai (i:=5) nd rfl (Or.inl rfl)) (Am (Ai (i:=6) nd rfl (Or.inl rfl)) AZ))) (Am (Ai (i:=7) nd rfl (Or.inl rfl)) AZ))))
    (Ag (SF (pv 3) (pv 7))
    (Ag (DK hu (pv 4) (pv 7) (As (Aa (pv 5) (Aa (pv 6) Ad))) rfl)
    (Ak (Cb PassesOwn.never rfl (Ow (Bm hu (pv 2) (pv 7) (fun _ _=>rfl))) (Ai (i:=8) nd rfl (Or.inl rfl))
     (Ak (C9 (IL (Pt hu (pv 8) (pv 4)))
      (Ag (Ar (i:=9) nd rfl (Or.inl rfl) (As (Aa (Aq Bf (pv 5) (Bm hu (Bm hu (pv 2) (pv 7) (fun _ _=>rfl)) (pv 8) (fun _ _=>rfl))) (Aa (pv 6) Ad))))
      (Ak (DK hu (pv 3) (pv 8) (Al (JM rfl Lg) (by rfl) hmi PyProof.Rows.boot_min (Aa (pv 9) (Aa (Ro hu (pv 3) (pv 8) (pv 9) ⟨rfl,rfl,rfl,rfl⟩) Ad))) rfl))) B3))))))))
   (Ak (A8 (pv 4)))))),?_⟩
  refine ⟨_,rfl,q,ps,ws,r,rfl,ok,fun H1 B ds s1 nb nbv hB hds=>?_⟩;have nbAt:∀ a,a ∈ ds->∃ u,H1 a=some u:=fun a hm=>by
   obtain ⟨i,hi,e⟩:=ZM hm;have XH:i < ps.length:=by rw [<-nb.len]; exact hi
   obtain ⟨nv,a1,_⟩:=nb.inner i ps[i] a (Zt XH) (by rw [Zt hi,e]);exact ⟨_,a1⟩
  have Wi:=nb.top;rcases hst with hst | hst
  case' inl=>
   refine .inl ⟨_,rfl,st,rfl,⟨_,AX.of (s1 _ _ hst)⟩,fun RA hRA=>?_⟩
  case' inr=>
   refine .inr ⟨_,rfl,st,rfl,⟨_,A4.of (s1 _ _ hst)⟩,fun RA hRA=>?_⟩
  all_goals
   refine ⟨fun i m Ay H'=>m=ss.length - i/\i<=ss.length/\(∃ v,Ay=[v])/\∃ nv:List (Str × V),Ao H1 H'/\H' RA=some (.dK (sK nv))/\nv.map (·.1)=ss.take i/\∀ y v,(y,v) ∈ nv->J0 H' v (0,y),
    ⟨_,rfl,ZQ _,⟨_,rfl⟩,[],Ac hRA,Ab,rfl,fun y v hy=>absurd hy Z3⟩,?_⟩
   rintro i m Ay H' ⟨rfl,hi,⟨v,rfl⟩,nv,s2,O8,nk,np⟩;have N4:=s2 _ _ (s1 _ _ hst);by_cases BL:i < ss.length
   ·refine .inr ⟨⟨_,V.str ss[i],by first | exact AX.of N4 | exact A4.of N4,by rw [Z0,Zt BL]; rfl⟩,?_⟩;rintro x H6 ⟨rfl,hx⟩;have M3:=hx _ (by first | exact AX.of N4 | exact A4.of N4);rw [Z0,Zt BL] at M3;cases M3
    have nn:ss[i] ∉ nv.map (·.1):=by
     rw [nk];intro hm;obtain ⟨j,hj,e⟩:=ZM hm;rw [ZE] at hj;rw [bG] at e;have:=Hw ssn (Zt (show j < ss.length by lia)) (by rw [Zt BL,e]);lia
    have nl:nv.length=i:=by
     have:=congrArg aP nk;rw [Zv,ZE] at this;lia
    refine ⟨_,rfl,_,rfl,(by show 2<=sizeLine; lia),fun t ht=>⟨_,Sum.inr ss[i],rfl,Ac ht _ _ O8,by rw [CJ]; lia,_,by lia,rfl,BL,⟨_,rfl⟩,nv ++ [(ss[i],.ref t)],fun b o z=>?_,by rw [Ab,DR nn],?_,fun y v hy=>?_⟩⟩
    ·rw [Ae (Ah z hRA)];exact Ac ht _ _ (s2 _ _ z)
    ·rw [Z7,nk,ZL,Zt BL]; rfl
    ·have tk:∀ b xs,(upd H6 t (.tup [.int 0,.str ss[i]])) b=some (.tup xs)->(upd (upd H6 t (.tup [.int 0,.str ss[i]])) RA (.dK (BK (sK nv) (Sum.inr ss[i]:Bg) (.ref t)))) b=some (.tup xs):=fun b xs z=>by
      rw [Ae (CN z (Ac ht _ _ O8) (by intro z; cases z))]; exact z
     rcases Z9.mp hy with hy | hy
     ·exact (np y v hy).same fun b xs z=>tk b xs (Ac ht _ _ z)
     ·simp only [ZH,Prod.mk.injEq] at hy;obtain ⟨rfl,rfl⟩:=hy;exact ⟨t,rfl,tk _ _ Ab⟩
   ·have e0:i=ss.length:=by lia
    subst e0;rw [ZN] at nk;refine .inl ⟨⟨_,by first | exact AX.of N4 | exact A4.of N4,by rw [Zv]; exact Z4 _⟩,fun SA hSA=>?_⟩;have sS:=Ac (o:=.dK []) hSA;have aR:RA ∉ ds/\RA ≠ B/\RA ≠ SA/\H RA=none:=⟨(fun hm=>by obtain ⟨u,e⟩:=nbAt RA hm; rw [hRA] at e; cases e),(fun z=>by rw [z,Wi] at hRA; cases hRA),(fun z=>by rw [<-z,O8] at hSA; cases hSA),s1.free hRA⟩
    have aS:SA ∉ ds/\SA ≠ B/\SA ≠ RA/\H SA=none:=⟨(fun hm=>by obtain ⟨u,e⟩:=nbAt SA hm; rw [s2 _ _ e] at hSA; cases hSA),(fun z=>by rw [z,s2 _ _ Wi] at hSA; cases hSA),(fun z=>aR.2.2.1 z.symm),(s1.trans s2).free hSA⟩
    have s3:Ao H1 (upd H' SA (.dK [])):=s2.trans sS;have N0:NI H (upd H' SA (.dK [])) ps ws B RA SA ds nv [] (fun _ _=>False) (fun y p=>y ∈ ss/\p=(0,y)):=by
     refine ⟨s1.trans s3,nb.r.same s3,nbv.of nb.r (fun d _ nv z=>by rcases z with a | ⟨o,a⟩; exact .inl (s3 _ _ a); exact .inr ⟨o,s3 _ _ a⟩),sS _ _ O8,Ab,⟨by rw [nk]; exact ssn,fun y v hy=>⟨(0,y),(np y v hy).same fun b xs z=>sS _ _ z,by rw [<-nk]; exact Z6.mpr ⟨_,hy,rfl⟩,rfl⟩,fun y p hp=>?_⟩,⟨.nil,fun y v hy=>absurd hy Z3,fun y p hp=>hp.elim⟩,fun y hy=>sssub y (by rw [<-nk]; exact hy),fun y hy=>absurd hy Z3⟩;obtain ⟨hy,rfl⟩:=hp;rw [<-nk] at hy;obtain ⟨⟨z,v⟩,a,b⟩:=Z6.mp hy;have b':z=y:=b;subst b';exact ⟨v,a,(np z v a).same fun b xs z=>sS _ _ z⟩
    have D0:T6 ws ss (fun _ _=>False) (fun y p=>y ∈ ss/\p=(0,y)):=⟨fun _ _ h=>h.elim,fun y p ⟨h1,h2⟩=>by subst h2; exact ⟨h1,.nil y⟩,fun _ _ _ _ h=>h.elim,fun s hs=>.inr ⟨(0,s),⟨hs,rfl⟩,D9.refl _⟩⟩
    clear O8 N4 np;generalize upd H' SA (.dK [])=H5 at N0 ⊢;refine ⟨fun m σ H2=>∃ nvR nvS S R v5 v6 v7 v8 v9,m=ps.length - nvS.length/\σ=[some (.ref q),some (.ref st),some (.ref B),some (.ref RA),some (.ref SA),v5,v6,v7,v8,v9]/\NI H H2 ps ws B RA SA ds nvR nvS S R/\T6 ws ss S R/\∀ y p,R y p->∀ q,¬ S y q,
     ⟨_,nv,[],_,_,_,_,_,_,_,rfl,rfl,N0,D0,fun _ _ _ _ h=>h⟩,?_⟩
    clear N0 D0 hSA sS s3 s2 nk;rintro m σ H2 ⟨nvR,nvS,S,R,v5,v6,v7,v8,v9,rfl,rfl,N,Dj,dis⟩;exists _,rfl,_,.inr (.inr ⟨_,N.dR,rfl⟩);by_cases hne:nvR=[]
    ·subst hne;refine BO ?_;have all:∀ x ∈ ps,∃ q,S x q:=Dj.done (fun y p h=>by obtain ⟨v,a,_⟩:=N.pR.2.2 y p h; cases a) ssne ok.con (fun T x hx tx cl=>ok.con (fun z=>T z->T r) (fun h=>h) (fun a b hab h tb=>h (cl b a hab.symm tb)) x hx tx) sssub;refine ⟨_,rfl,k H2 SA nvS N.same aS.2.2.2 N.dS N.pS.1 (fun x=>⟨N.subS x,fun hx=>N.inS.mpr (all x hx)⟩) fun y v hy=>?_⟩;obtain ⟨p,h1,h2⟩:=N.pS.2.1 y v hy;exact ⟨p,h1,Dj.near y p h2⟩
    ·have YX:(!(sK nvR).isEmpty)=true:=by cases nvR with
      | nil=>exact absurd rfl hne
      | cons=>rfl
     rw [YX];refine CK ?_;obtain ⟨NN,hNN⟩:∃ NN:St->Hp->Prop,NN=fun Ay H'=>∃ m',m' < ps.length - nvS.length/\∃ nvR nvS S R v5 v6 v7 v8 v9,m'=ps.length - nvS.length/\Ay=[some (.ref q),some (.ref st),some (.ref B),some (.ref RA),some (.ref SA),v5,v6,v7,v8,v9]/\NI H H' ps ws B RA SA ds nvR nvS S R/\T6 ws ss S R/\∀ y p,R y p->∀ q,¬ S y q:=⟨_,rfl⟩
     exists NN,fun Ay H' z=>by rw [hNN] at z; exact z
     have lR:=N.lenR;have lS:=N.lenS;refine ⟨_,rfl,RA,_,rfl,.inl N.dR,fun o H3 fz C hC=>?_⟩;have fz':H3=upd H2 RA (.frz o (.dK (sK nvR))):=by
      rcases fz with ⟨_,e⟩ | ⟨e,_⟩
      ·exact e
      ·rw [N.dR] at e; cases e
     have hR3:=fz.at;have Yq:∀ b xs,H2 b=some (.tup xs)->H3 b=some (.tup xs):=fun b xs z=>by
      rw [fz.ne (CN z N.dR (by intro z; cases z))]; exact z
     refine ⟨fun i m Ay H'=>m=nvR.length - i/\i<=nvR.length/\(∃ v,Ay=[v,some (.ref RA)])/\∃ (acc:List V) (ks:List ((Int × Str) × Str)),Ao H3 H'/\H' C=some (.lst acc)/\acc.length=i/\ks.length=i/\(∀ (j:Nat) v k,acc[j]? = some v->ks[j]? = some k->Uz H' v k)/\(∀ (j:Nat) y v,j < i->nvR[j]? = some (y,v)->∃ p,J0 H3 v p/\ks[j]? = some (p,y)),
      ⟨_,rfl,ZQ _,⟨_,rfl⟩,[],[],Ac hC,Ab,rfl,rfl,fun j v k h=>(by simp at h),fun j y v hj=>absurd hj (aZ _)⟩,?_⟩
     rintro i m Ay H' ⟨rfl,hi,⟨v,rfl⟩,acc,ks,s4,O8,al,kl,hky,hks⟩;have WY:=s4 _ _ hR3;have nCR:RA ≠ C:=Ah hR3 hC;by_cases BL:i < nvR.length
     ·refine .inr ⟨⟨WY,by rw [CJ]; exact BL⟩,?_⟩;rintro z H6 ⟨rfl,key,v2,ek,rfl⟩;obtain ⟨y,ey,rfl⟩:=TK ek;have hm:=Zx ey;obtain ⟨p,hp,hRp⟩:=N.pR.2.1 y v2 hm;have hp3:=hp.same Yq;refine ⟨_,rfl,_,rfl,RA,v2,rfl,.inl ⟨_,Sum.inr y,.inr ⟨o,WY⟩,rfl,(DJ N.pR.1 hm).symm⟩,_,rfl,(by show 2<=sizeLine; lia),fun t ht=>?_⟩;have st:=Ac (o:=.tup [v2,.str y]) ht;have hC2:=st _ _ O8;have tC:∀ b xs,(upd H6 t (.tup [v2,.str y])) b=some (.tup xs)->(upd (upd H6 t (.tup [v2,.str y])) C (.lst (acc ++ [.ref t]))) b=some (.tup xs):=fun b xs z=>by
       rw [Ae (CN z hC2 (by intro z; cases z))]; exact z
      refine ⟨acc,hC2,by lia,_,by lia,rfl,BL,⟨_,rfl⟩,acc ++ [.ref t],ks ++ [(p,y)],fun b u z=>?_,Ab,by simp [al],by simp [kl],fun j v k h1 h2=>?_,fun j y' v' hj h=>?_⟩
      ·rw [Ae (Ah z hC)];exact st _ _ (s4 _ _ z)
      ·by_cases hj:j < acc.length
       ·rw [ZR hj] at h1;rw [ZR (by lia)] at h2;exact (hky j v k h1 h2).same fun b xs z=>tC b xs (st _ _ z)
       ·rw [ZV (by lia)] at h1;rw [ZV (by lia)] at h2;have j0:j - acc.length=0:=by
         have:=(Z2.mp h1).1;simp at this;lia
        have j1:j - ks.length=0:=by lia
        rw [j0] at h1;rw [j1] at h2;cases h1
        cases h2
        obtain ⟨t2,e2,g2⟩:=hp3;subst e2;exact ⟨t,t2,rfl,tC _ _ Ab,t2,rfl,tC _ _ (st _ _ (s4 _ _ g2))⟩
      ·by_cases ej:j=i
       ·subst ej;rw [ey] at h;cases h
        exact ⟨p,hp3,by rw [ZV (by lia),kl,cA]; rfl⟩
       ·obtain ⟨p',a1,a2⟩:=hks j y' v' (by lia) h;exact ⟨p',a1,by rw [ZR (by lia)]; exact a2⟩
     ·have e0:i=nvR.length:=by lia
      subst e0;have ksne:ks ≠ []:=by
       intro z;rw [z] at kl;exact hne (aJ.mp kl.symm)
      refine .inl ⟨⟨WY,by rw [CJ]; exact Z4 _⟩,C,acc,ks,rfl,O8,by lia,ksne,hky,fun v kk hk hKy hmin=>?_⟩;exists RA,o,sK nvR,WY,fun ob w z=>?_
      ·have z':H RA=some (.frz ob w):=z;rw [aR.2.2.2] at z';cases z'
      obtain ⟨⟨d0,I0⟩,here⟩:=kk;obtain ⟨t,t2,rfl,ht,t2',e2,F6⟩:=hKy;cases e2
      have t45:∀ b xs,H' b=some (.tup xs)->(upd H' RA (.dK (sK nvR))) b=some (.tup xs):=fun b xs z=>by
       rw [Ae (CN z WY (by intro z; cases z))]; exact z
      have s25:Ao H2 (upd H' RA (.dK (sK nvR))):=fun b u z=>by
       by_cases eb:b=RA
       ·subst eb;rw [N.dR] at z;cases z
        exact Ab
       ·rw [Ae eb];refine s4 _ _ ?_;rw [fz.ne eb]; exact z
      have N5:=N.grow s25;have X8:=t45 _ _ ht;have WJ:=t45 _ _ F6;have inR:∀ j y p,ks[j]? = some (p,y)->R y p:=fun j y p h=>by
       have hj:j < nvR.length:=by
        have:=(Z2.mp h).1;lia
       obtain ⟨p',a1,a2⟩:=hks j nvR[j].1 nvR[j].2 hj (Zt hj);rw [h] at a2;cases a2
       obtain ⟨p'',b1,b2⟩:=N.pR.2.1 _ _ (ar hj);rw [a1.fn (b1.same Yq)];exact b2
      have hRh:R here (d0,I0):=by
       obtain ⟨j,hj,ej⟩:=ZM hk;exact inR j here (d0,I0) (by rw [Zt hj,ej])
      have least:∀ z p,R z p->D9 (d0,I0) p:=fun z p hz=>by
       obtain ⟨v,a,b⟩:=N.pR.2.2 z p hz;obtain ⟨j,hj,ej⟩:=ZM a;obtain ⟨p',a1,a2⟩:=hks j z v hj (by rw [Zt hj,ej]);have:=a1.fn (b.same Yq);subst this;exact hmin _ (Zx a2)
      have nSh:∀ q,¬ S here q:=dis here _ hRh;have nearH:NP ws ss here (d0,I0):=Dj.pick pos hRh nSh least;exists t,_,rfl,A4.of X8,rfl,_,_,rfl,t2,_,rfl,A4.of WJ,rfl,_,_,rfl,_,_,rfl,rfl,_,_,rfl,rfl;generalize upd H' RA (.dK (sK nvR))=H5 at N5 X8 WJ s25 ⊢;have hin:here ∈ nvR.map (·.1):=N5.inR.mpr ⟨_,hRh⟩;have hps:here ∈ ps:=N5.subR here hin;exists _,rfl,_,rfl,RA,_,Sum.inr here,rfl,N5.dR,rfl,by rw [Hq,decide_eq_true hin]
      rw [S8];have N6:=N5.setR aR (N5.pR.drop here) (fun y hy=>by
       obtain ⟨e,he,ee⟩:=Z6.mp hy;exact N5.subR y (Z6.mpr ⟨e,(bu.mp he).1,ee⟩))
      generalize upd H5 RA (.dK (sK (nvR.filter fun q=>decide (q.1 ≠ here))))=H6 at N6 ⊢;have nhS:here ∉ nvS.map (·.1):=fun h=>by
       obtain ⟨q,hq⟩:=N6.inS.mp h;exact nSh q hq
      refine ⟨_,rfl,_,rfl,(by show 2<=sizeLine; lia),fun t3 YT=>?_⟩;have N7:=N6.grow (Ac (o:=.tup [.int d0,.str I0]) YT);have WH:(upd H6 t3 (.tup [.int d0,.str I0])) t3=some (.tup [.int d0,.str I0]):=Ab;generalize upd H6 t3 (.tup [.int d0,.str I0])=H7 at N7 WH ⊢;exists _,rfl,_,rfl,SA,_,rfl,FH.k (k:=Sum.inr here) N7.dS (by rw [CJ]; have:=N7.lenS; lia);rw [DR nhS];have N8:=N7.setS aS (N7.pS.put (DR nhS) (p:=(d0,I0)) ⟨t3,rfl,WH⟩) (fun y hy=>by
       rw [Z7] at hy;rcases Z9.mp hy with hy | hy
       ·exact N7.subS y hy
       ·have:y=here:=by simpa using hy
        rw [this]; exact hps)
      generalize upd H7 SA (.dK (sK (nvS ++ [(here,.ref t3)])))=H8 at N8 ⊢;obtain ⟨S',O7⟩:∃ S':Str->Int × Str->Prop,S'=fun z q=>(z=here/\q=(d0,I0))\/(z ≠ here/\S z q):=⟨_,rfl⟩
      obtain ⟨PD,hnvS⟩:∃ PD:List (Str × V),PD=nvS ++ [(here,.ref t3)]:=⟨_,rfl⟩
      rw [<-O7,<-hnvS] at N8;have nSl:PD.length=nvS.length + 1:=by rw [hnvS]; simp
      have nearS:∀ y q,S' y q->NP ws ss y q:=fun y q h=>by
       rw [O7] at h;rcases h with ⟨rfl,rfl⟩ | ⟨_,h⟩
       ·exact nearH
       ·exact Dj.near y q h
      have hSh:S' here (d0,I0):=by rw [O7]; exact .inl ⟨rfl,rfl⟩
      have toS:∀ y q,S y q->∃ q',S' y q':=fun y q h=>by
       by_cases e:y=here
       ·rw [e]; exact ⟨_,hSh⟩
       ·exact ⟨q,by rw [O7]; exact .inr ⟨e,h⟩⟩
      obtain ⟨i0,d,SS,a1,a2,a3,a4,a5⟩:=N8.nr.get ok.nd hps;have dm:=Zx a2;refine ⟨_,rfl,_,rfl,B,.ref d,rfl,?_,d,sK SS,rfl,a4,fun o9 H9 fz9=>?_⟩
      ·have:=Cn.k (k:=Sum.inr here) N8.nr.top;rw [a3] at this;exact this
      have N9:=N8.frz aR.1 aS.1 hds a1 a2 fz9 a5;obtain ⟨Pv,hPv⟩:∃ Pv:Nat->St->Hp->Prop,Pv=fun i σ H'=>∃ HP R' v8 v9,σ=[some (.ref q),some (.ref st),some (.ref B),some (.ref RA),some (.ref SA),some (.int d0),some (.str I0),some (.str here),v8,v9]/\NI H H' ps ws B RA SA ds HP PD S' R'/\H' d=some (.frz o9 (.dK (sK SS))) /\
        (∀ y p,R' y p->p.2 ∈ ss/\Br ws p.2 y p.1)/\(∀ s ∈ ss,(∃ q,S' s q)\/∃ q,R' s q/\D9 q (0,s)) /\
        (∀ x q y l,S' x q->BS ws x y l->(∃ q',S' y q')\/(∃ q',R' y q'/\D9 q' (q.1 + l,q.2))\/(x=here/\∀ (j:Nat) (v:V),j < i->SS[j]? ≠ some (y,v)))/\(∀ y p,R' y p->∀ q,¬ S' y q):=⟨_,rfl⟩
      refine Qd (a:=d) (o:=o9) (kvs:=sK SS) Pv ?_ (fun i σ H' _ hP=>by rw [hPv] at hP; obtain ⟨_,_,_,_,_,_,z,_⟩:=hP; exact z) (fun i key v σ H' hx hP rt bk=>?_) (fun σ H' hP=>?_)
      ·rw [hPv];refine ⟨_,_,_,_,rfl,N9,fz9.at,fun y p h=>Dj.reach y p h.2,fun s hs=>?_,fun x qq y l hx he=>?_,fun y p h qq hq=>?_⟩
       ·rcases Dj.start s hs with ⟨qq,h⟩ | ⟨qq,h,le⟩
        ·exact .inl (toS s qq h)
        ·by_cases e:s=here
         ·rw [e]; exact .inl ⟨_,hSh⟩
         ·exact .inr ⟨qq,⟨e,h⟩,le⟩
       ·by_cases ex:x=here
        ·exact .inr (.inr ⟨ex,fun j v hj=>absurd hj (aZ _)⟩)
        ·rw [O7] at hx;rcases hx with ⟨h,_⟩ | ⟨_,hx⟩
         ·exact absurd h ex
         ·rcases Dj.relax x qq y l hx he with ⟨q',h⟩ | ⟨q',h,le⟩
          ·exact .inl (toS y q' h)
          ·by_cases e:y=here
           ·rw [e]; exact .inl ⟨_,hSh⟩
           ·exact .inr (.inl ⟨q',⟨e,h⟩,le⟩)
       ·rw [O7] at hq;rcases hq with ⟨h2,_⟩ | ⟨_,h2⟩
        ·exact h.1 h2
        ·exact dis y p h.2 qq h2
      ·rw [hPv] at hP;obtain ⟨HP,R',v8,v9,rfl,Sq,hf,rch,sta,rel,To⟩:=hP;obtain ⟨y,e1,rfl⟩:=TK hx;have hym:=Zx e1;obtain ⟨w0,hw0⟩:∃ w0,B8 (sK SS) (Sum.inr y:Bg)=some w0:=by
        have:(B8 (sK SS) (Sum.inr y:Bg)).isSome=true:=by rw [Hq,decide_eq_true (Z6.mpr ⟨_,hym,rfl⟩)]
        exact bE.mp this
       obtain ⟨l,rfl,ed⟩:=Sq.nbv i0 here d SS a1 a2 (.inr ⟨o9,hf⟩) y w0 (Ke hw0);have hyp:y ∈ ps:=by
        obtain ⟨u,hu,e⟩:=ed.adj;obtain ⟨q1,q2⟩:=ok.ends u hu;rcases e with ⟨_,e⟩ | ⟨e,_⟩
        ·rw [<-e]; exact q2
        ·rw [<-e]; exact q1
       exists _,rfl,_,rfl,SA,_,rfl,Cn.k (k:=Sum.inr y) Sq.dS,_,rfl;rw [Hq];have step:∀ {z:Str},(∀ (j:Nat) (v:V),j < i->SS[j]? ≠ some (z,v))->z ≠ y->∀ (j:Nat) (v:V),j < i + 1->SS[j]? ≠ some (z,v):=fun h2 hz j v hj e=>by
        by_cases ej:j=i
        ·subst ej;rw [e1] at e;cases e
         exact hz rfl
        ·exact h2 j v (by lia) e
       by_cases hy:y ∈ PD.map (·.1)
       ·rw [decide_eq_true hy];refine BO ?_;show Pv (i + 1) _ _
        rw [hPv];refine ⟨HP,R',_,_,rfl,Sq,hf,rch,sta,fun x qq z l' M3 he=>?_,To⟩;rcases rel x qq z l' M3 he with h | h | ⟨h1,h2⟩
        ·exact .inl h
        ·exact .inr (.inl h)
        ·by_cases ez:z=y
         ·rw [ez]; exact .inl (Sq.inS.mp hy)
         ·exact .inr (.inr ⟨h1,step h2 ez⟩)
       ·rw [decide_eq_false hy];refine CK ?_;have nSy:∀ qq,¬ S' y qq:=fun qq h=>hy (Sq.inS.mpr ⟨qq,h⟩)
        have dgT:Cn H' B (.str here) (some (.ref d)):=by
         have:=Cn.k (k:=Sum.inr here) Sq.nr.top;rw [a3] at this;exact this
        refine ⟨_,rfl,_,rfl,_,rfl,B,.ref d,rfl,dgT,_,rfl,d,.int l,rfl,.inl ⟨_,Sum.inr y,.inr ⟨o9,hf⟩,rfl,hw0.symm⟩,_,_,rfl,rfl,_,rfl,(by show 2<=sizeLine; lia),fun t4 YS=>?_⟩;have UL:=Ac (o:=.tup [.int (d0 + l),.str I0]) YS;have Qy:=Sq.grow UL;have WN:=UL _ _ hf;have WG:(upd H' t4 (.tup [.int (d0 + l),.str I0])) t4=some (.tup [.int (d0 + l),.str I0]):=Ab;generalize upd H' t4 (.tup [.int (d0 + l),.str I0])=Qz at Qy WN WG ⊢;have cand:J0 Qz (.ref t4) (d0 + l,I0):=⟨t4,rfl,WG⟩
        have candW:I0 ∈ ss/\Br ws I0 y (d0 + l):=⟨nearH.1.1,nearH.1.2.snoc ed⟩
        have lR':=Qy.lenR;have fin:∀ (x:V) (pn:Int × Str),J0 Qz x pn->D9 pn (d0 + l,I0)->(∀ old,R' y old->D9 pn old)->(pn.2 ∈ ss/\Br ws pn.2 y pn.1) ->
          Pv (i + 1) [some (.ref q),some (.ref st),some (.ref B),some (.ref RA),some (.ref SA),some (.int d0),some (.str I0),some (.str here),some (.str y),some (.ref t4)] (upd Qz RA (.dK (BK (sK HP) (Sum.inr y:Bg) x))):=by
         intro x pn hx1 hle hold hW;obtain ⟨nv2,p1,p2,p3⟩:=Nd HP y x;rw [p1,hPv];have N12:=Qy.setR aR (Qy.pR.put p1 hx1) (fun z hz=>by
          rcases (p3 z).mp hz with hz | rfl
          ·exact Qy.subR z hz
          ·exact hyp)
         refine ⟨nv2,_,_,_,rfl,N12,?_,fun z p hz=>?_,fun s hs=>?_,fun x' qq z l' M3 he=>?_,fun z p hz qq hq=>?_⟩
         ·rw [Ae (fun z=>aR.1 (by rw [<-z]; exact dm))]; exact WN
         ·rcases hz with ⟨rfl,rfl⟩ | ⟨_,hz⟩
          ·exact hW
          ·exact rch z p hz
         ·rcases sta s hs with h | ⟨qq,h,le⟩
          ·exact .inl h
          ·by_cases e:s=y
           ·subst e;exact .inr ⟨pn,.inl ⟨rfl,rfl⟩,(hold qq h).trans le⟩
           ·exact .inr ⟨qq,.inr ⟨e,h⟩,le⟩
         ·rcases rel x' qq z l' M3 he with h | ⟨q',h,le⟩ | ⟨h1,h2⟩
          ·exact .inl h
          ·by_cases e:z=y
           ·subst e;exact .inr (.inl ⟨pn,.inl ⟨rfl,rfl⟩,(hold q' h).trans le⟩)
           ·exact .inr (.inl ⟨q',.inr ⟨e,h⟩,le⟩)
          ·by_cases e:z=y
           ·subst e;subst h1;have e2:=uniq _ _ _ _ he ed;subst e2;have e3:=Qy.pS.fn M3 hSh;subst e3;exact .inr (.inl ⟨pn,.inl ⟨rfl,rfl⟩,hle⟩)
           ·exact .inr (.inr ⟨h1,step h2 e⟩)
         ·rcases hz with ⟨rfl,rfl⟩ | ⟨_,hz⟩
          ·exact nSy qq hq
          ·exact To z p hz qq hq
        have put:∀ {x:V},FH Qz RA (.str y) x (upd Qz RA (.dK (BK (sK HP) (Sum.inr y:Bg) x))):=fun {x}=>FH.k (k:=Sum.inr y) Qy.dR (by rw [CJ]; lia)
        obtain ⟨w1,pq,ew,hw1,hold,hWq⟩:∃ w1 pq,(B8 (sK HP) (Sum.inr y:Bg)).getD (.ref t4)=w1/\J0 Qz w1 pq/\(∀ old,R' y old->D9 pq old)/\(pq.2 ∈ ss/\Br ws pq.2 y pq.1):=by
         cases hv:B8 (sK HP) (Sum.inr y:Bg) with
         | none=>
          refine ⟨_,_,rfl,cand,fun old h=>?_,candW⟩;have h1:y ∈ HP.map (·.1):=Qy.inR.mpr ⟨old,h⟩;have h2:(B8 (sK HP) (Sum.inr y:Bg)).isSome=true:=by rw [Hq,decide_eq_true h1]
          rw [hv] at h2;cases h2
         | some w1=>
          obtain ⟨pq,h1,h2⟩:=Qy.pR.2.1 y w1 (Ke hv);exact ⟨w1,pq,rfl,h1,fun old h=>by rw [Qy.pR.fn h2 h]; exact D9.refl _,rch y pq h2⟩
        refine ⟨_,rfl,_,rfl,RA,rfl,.inl ⟨_,.inl Qy.dR⟩,_,rfl,_,rfl,_,Cn.k (k:=Sum.inr y) Qy.dR,_,_,(d0 + l,I0),pq,rfl,cand,(by rw [ew]; exact hw1),fun le=>⟨_,rfl,_,rfl,RA,_,rfl,put,?_⟩,fun le=>⟨_,rfl,_,rfl,RA,_,rfl,put,?_⟩⟩
        ·rw [ew];exact fin w1 pq hw1 le hold hWq
        ·exact fin (.ref t4) _ cand (D9.refl _) (fun old h=>le.trans (hold old h)) candW
      ·rw [hPv] at hP;obtain ⟨HP,R',v8,v9,rfl,Sq,hf,rch,sta,rel,To⟩:=hP;show NN _ _
       rw [hNN];refine ⟨_,?_,HP,PD,S',R',_,_,_,_,_,rfl,rfl,Sq,⟨nearS,rch,fun x qq y l hx he=>?_,sta⟩,To⟩
       ·have:=Sq.lenS;lia
       ·rcases rel x qq y l hx he with h | h | ⟨rfl,h2⟩
        ·exact .inl h
        ·exact .inr h
        ·exfalso
         obtain ⟨⟨z,v⟩,Vx,e⟩:=Z6.mp ((a5 y).mpr he.adj);have e':z=y:=e;subst e';obtain ⟨j,hj,e2⟩:=ZM Vx;exact h2 j v (by rw [CJ]; exact hj) (by rw [Zt hj,e2])
end
section
variable {P:Program} {w:World} {K:Zw} {mg:Str->Option Value} {base:Heap}
structure NeF (K:Zw) (mg:Str->Option Value) (fN:Addr) (fdN:FuncData) (f:Addr) (fd:FuncData):Prop where
 N:NbF K mg fN fdN
 mi:mg "min"=none
 F:DQ K "nearest" "nearest" Fo f fd
 mg:mg "nearest"=some (.ref f)
 b:HI K fd ["web","starts"] []
theorem SN {f fN fE:Addr} {fd fdN fdE:FuncData} (EK:NeF K mg fN fdN fE fdE) (F:DQ K "fars" "fars" KD f fd):A7 P w K mg base Bw 3 f fd ["web","place"] (QP K):=by
 have GE:A7 P w K mg base Bw 2 fE fdE ["web","starts"] (QM K):=Nn EK.N EK.mi EK.F;refine F.ok Oo (fun vs H Q E h=>?_) (fun cdv A outer s H vs Q E hr h=>?_)
 ·obtain ⟨q,ps,ws,r,x,rfl,_⟩:=h;rfl
 ·obtain ⟨q,ps,ws,r,x,rfl,ok,pos,uniq,hx,k⟩:=h;have hu:=CO hr;have nd:=Oo.nd;have big:1000 < sizeLine:=by decide
  have l30:=ok.l30;refine ⟨_,Ag (Ar (i:=2) nd rfl (Or.inr rfl) (Aj GE hr (by rfl) EK.mg EK.F.kp EK.b .nil Az (Aa (pv 0) (Aa (Bl (Aa (pv 1) Ad)) Ad))))
   (Ak (A8 (IM (N:=["name","told"]) (σ0:=fun σ=>[none,some 2].map fun j=>j.bind fun j=>(σ[j]?).join) rfl
      (AI.caught (by rfl) (by decide +kernel) rfl (by decide +kernel) (by intro y hy; simp only [Zz,Z3,or_false] at hy; rcases hy with rfl <;> rfl)
       (by intro y hy e; simp only [Zz,Z3,or_false] at hy; rcases hy with rfl | rfl | rfl <;> first | exact ⟨_,rfl⟩ | cases e))
      (fun σ _=>Bd.of [none,some 2] rfl (by
       intro i j x h1 h2;match i,h1,h2 with
       | 0,_,h2=>cases h2
       | 1,h1,h2=>cases h1; cases h2; exact ⟨rfl,.inl rfl,.inl rfl⟩
       | n + 2,h1,_=>cases h1)) (Bq K rfl (AD (AU K rfl) (pv 0) Af (fun _ _=>rfl)))
      (fun s2 H C fp=>⟨Ai (i:=0) (show (["name","told"]:List Str).Nodup by decide +kernel) rfl (Or.inl rfl),AK,pv 0,AD (AU K rfl) (Bm hu (pv 1) (pv 0) (fun _ _=>rfl)) Af (fun _ _=>rfl)⟩)))),?_⟩
  refine ⟨_,rfl,_,rfl,(by show 1<=sizeLine; lia),fun st hst=>?_⟩;have s0:=Ac (o:=.lst [.str x]) hst;refine ⟨q,st,ps,[x],ws,r,rfl,ok.same s0,pos,uniq,.inl Ab,by simp,aq.mpr ⟨by simp,.nil⟩,by simpa using hx,fun H1 B nv s1 hB Wi nn nk nr=>?_⟩;have Wv:=s0.trans s1;obtain ⟨tp,tw,us,hq,htp,htw,hD⟩:=ok.web.ex;refine ⟨_,rfl,q,_,0,.ref tp,rfl,rfl,A4.of (Wv _ _ hq),Cw (j:=0) rfl,tp,rfl,⟨_,A4.of (Wv _ _ htp)⟩,fun C hC=>?_⟩;exists fun i m Ay H2=>m=ps.length - i/\i<=ps.length/\(∃ v,Ay=[v,some (.ref B)])/\∃ nc:List (Str × V),H2=upd H1 C (.dK (sK nc))/\nc.map (·.1)=ps.take i/\∀ y v,(y,v) ∈ nc->∃ n,v=.int n/\Lz ws x y n,⟨_,rfl,ZQ _,⟨_,rfl⟩,[],rfl,rfl,fun y v hy=>absurd hy Z3⟩
  rintro i m Ay H2 ⟨rfl,hi,⟨v,rfl⟩,nc,rfl,ncK,ncV⟩;have sC:=Ac (o:=.dK (sK nc)) hC;have N3:=sC _ _ (Wv _ _ htp);by_cases BL:i < ps.length
  ·refine .inr ⟨⟨_,V.str ps[i],A4.of N3,by rw [Z0,Zt BL]; rfl⟩,?_⟩;rintro z H6 ⟨rfl,hz⟩;have Wa:=hz _ (A4.of N3);rw [Z0,Zt BL] at Wa;cases Wa
   obtain ⟨⟨y,v2⟩,hm,e⟩:=Z6.mp ((nk ps[i]).mpr (ar BL));have e':y=ps[i]:=e;subst e';obtain ⟨p,⟨t,e2,ht⟩,hnr⟩:=nr ps[i] v2 hm;subst e2;have Zj:=sC _ _ Wi;have F6:=sC _ _ ht;have nn':ps[i] ∉ nc.map (·.1):=by
    rw [ncK];intro Vx;obtain ⟨j,hj,e⟩:=ZM Vx;rw [ZE] at hj;rw [bG] at e;have:=Hw ok.nd (Zt (show j < ps.length by lia)) (by rw [Zt BL,e]);lia
   have ncl:nc.length=i:=by
    have:=congrArg aP ncK;rw [Zv,ZE] at this;lia
   refine ⟨_,rfl,_,rfl,_,rfl,B,.ref t,rfl,.inl ⟨_,Sum.inr ps[i],.inl Zj,rfl,(DJ nn hm).symm⟩,t,_,0,.int p.1,rfl,rfl,A4.of F6,Cw (j:=0) rfl,_,Sum.inr ps[i],rfl,Ab,by rw [CJ]; lia,_,by lia,rfl,BL,⟨_,rfl⟩,nc ++ [(ps[i],.int p.1)],by rw [FO,DR nn'],?_,fun y v hy=>?_⟩
   ·rw [Z7,ncK,ZL,Zt BL]; rfl
   ·rcases Z9.mp hy with hy | hy
    ·exact ncV y v hy
    ·simp only [ZH,Prod.mk.injEq] at hy;obtain ⟨rfl,rfl⟩:=hy;exact ⟨p.1,rfl,hnr.dst.2⟩
  ·have e0:i=ps.length:=by lia
   subst e0;rw [ZN] at ncK;exact .inl ⟨⟨_,A4.of N3,by rw [Zv]; exact Z4 _⟩,k _ C nc (Wv.trans sC) (Wv.free hC) Ab ncK ncV⟩
end
structure TxtN (K:Zw) (mg:Str->Option Value):Prop where
 len:mg "len"=none
 isin:mg "isinstance"=none
 str:mg "str"=none
 all:mg "all"=none
 most:∃ t,mg "MOST_LETTERS"=some (.int 6 t)
section
variable {P:Program} {w:World} {K:Zw} {mg:Str->Option Value} {base:Heap}
theorem Ii {f:Addr} {fd:FuncData} (T:TxtN K mg) (F:DQ K "is_name" "is_name" Di f fd):A7 P w K mg base Bw 1 f fd ["thing"] (K7 K):=by
 refine F.ok Nc (fun vs H Q E h=>?_) (fun cdv A outer s H vs Q E hr h=>?_)
 ·obtain ⟨x,rfl,_⟩:=h;rfl
 ·obtain ⟨x,rfl,h⟩:=h;obtain ⟨tk,hmost⟩:=T.most;refine ⟨_,Ag (C9 (Ki (EU (Gu (Al BQ (by rfl) T.isin PyProof.Rows.boot_isinstance (Aa (pv 0) (Aa (E4 (v:=.ty "str") (by rfl) T.str PyProof.Rows.boot_str rfl) Ad)))))
    (Gs (EU (Mb Mi Mi Af (Al Gh (by rfl) T.len PySem.boot_len (Aa (pv 0) Ad)) (SI (v:=.int 6) (by rfl) hmost ⟨_,rfl⟩))))).pt
    (Ak (A8 DL)) B3)
   (Ak (A8 (Al (BR rfl) (by rfl) T.all PyProof.Rows.boot_all (Aa
    (Bb (N:=["letter"]) (σ0:=fun _=>[none]) rfl (AI.plain (by decide +kernel) (by decide +kernel) rfl (by decide +kernel)) (fun σ _=>Bd.none _ _ _ ["letter"] σ) (UY (pv 0))
     (fun s2 H C fp=>⟨Ai (i:=0) (show (["letter"]:List Str).Nodup by decide +kernel) rfl (Or.inl rfl),AK,Rp Kk Kk Du (pv 0) Du⟩)) Ad)))),?_⟩
  rcases h with ⟨t,rfl,ht,k⟩ | ⟨⟨ty,h1,h2⟩,k⟩
  ·exists _,rfl,_,"str",_,_,rfl,DV.str t,rfl,_,rfl;refine BO ?_;exists _,rfl,t,rfl,ZS ht (by decide),_,_,rfl,rfl,_,rfl;have last:∀ (h1:1<=t.length) (h2:t.length<=6),QG (iStr (QD 0)) (M5 0) JC (MY (fun x y H Q=>∃ i j,x=.str i/\y=.str j/\Q (.bl (!(decide (j.cps.toList < i.cps.toList)))) H) (fun x y H Q=>∃ i j,x=.str i/\y=.str j/\Q (.bl (!(decide (j.cps.toList < i.cps.toList)))) H) (tC (.str "a")) (QD 0) (tC (.str "z"))) (fun _=>[none]) [some (V.str t)] H
     (fun x H1=>∃ (p:Addr) (bs:List Bool),[x]=[V.ref p]/\AX K H1 p (bs.map V.bl)/\Q (.bl (bs.all id)) H1):=by
    intro h1 h2;refine ⟨_,rfl,t,rfl,fun D hD=>⟨fun i m Ay H'=>m=t.cps.size - i/\i<=t.cps.size/\(∃ v,Ay=[v])/\H'=upd H D (.lst ((t.cps.toList.take i).map fun c=>V.bl (G3 c))),⟨_,rfl,ZQ _,⟨_,rfl⟩,rfl⟩,?_⟩⟩;rintro i m Ay H' ⟨rfl,hi,⟨v,rfl⟩,rfl⟩;by_cases BL:i < t.cps.size
    ·refine .inr ⟨BL,?_⟩;rintro x H2 ⟨rfl,c,hc,rfl⟩;have MK:t.cps.toList[i]? = some c:=by simpa using hc
     have step:∀ b,b=G3 c->∃ acc,(upd H D (.lst ((t.cps.toList.take i).map fun c=>V.bl (G3 c)))) D=some (.lst acc)/\acc.length < sizeLine/\∃ m',m' < t.cps.size - i/\(m'=t.cps.size - (i + 1)/\i + 1<=t.cps.size/\(∃ v,[some (V.str ⟨#[c]⟩)]=[v]) /\
       upd (upd H D (.lst ((t.cps.toList.take i).map fun c=>V.bl (G3 c)))) D (.lst (acc ++ [V.bl b]))=upd H D (.lst ((t.cps.toList.take (i + 1)).map fun c=>V.bl (G3 c)))):=by
      rintro b rfl;exists _,Ab,?_,_,?_,rfl,BL,⟨_,rfl⟩
      ·rw [Zv,ZE];have:t.length=t.cps.size:=rfl;have:1000 < sizeLine:=by decide
       lia
      ·lia
      ·rw [FO,JB _ _ _ _ MK]
     exists _,rfl,_,_,rfl,rfl,_,rfl;rw [leA];refine DT (fun ha=>?_) (fun ha=>?_)
     ·exists _,_,rfl,rfl;rw [leZ];exact step _ (by unfold G3; rw [ha]; rfl)
     ·exact step _ (by unfold G3; rw [Bool.not_eq_true] at ha; rw [ha]; rfl)
    ·have e:i=t.cps.size:=by lia
     subst e;refine .inl ⟨Z4 _,D,t.cps.toList.map G3,rfl,.inl (.inl ?_),?_⟩
     ·rw [Ab,bh (by simp),ax];rfl
     ·have e2:(t.cps.toList.map G3).all id=AL t:=by
       unfold AL;rw [aF,decide_eq_true h1,decide_eq_true h2];rfl
      rw [e2];exact k _ (Ac hD)
   refine DT (fun h1=>?_) (fun h1=>?_)
   ·exists _,_,rfl,rfl,_,rfl;rw [decide_eq_true_eq] at h1;refine DT (fun h2=>?_) (fun h2=>?_)
    ·have e:AL t=false:=by
      unfold AL;have:¬ t.length<=6:=by
       intro z;rw [decide_eq_true (show ((t.length:Nat):Int)<=6 by lia)] at h2;cases h2
      rw [decide_eq_false this,cJ,bQ]
     rw [<-e];exact k _ (Ao.refl _)
    ·refine last (by lia) ?_;by_cases z:t.length<=6
     ·exact z
     ·rw [decide_eq_false (show ¬ ((t.length:Nat):Int)<=6 by lia)] at h2;exact absurd rfl h2
   ·exists _,rfl;refine CK ?_;have e:AL t=false:=by
     unfold AL;rw [decide_eq_true_eq] at h1;rw [decide_eq_false (show ¬ 1<=t.length by lia),bQ,bQ]
    show Q (.bl false) H
    rw [<-e];exact k _ (Ao.refl _)
  ·exists _,rfl,_,"str",_,_,rfl,h1,h2,_,rfl;exact k
end
section
variable {P:Program} {w:World} {K:Zw} {mg:Str->Option Value} {base:Heap}
theorem KU (h_dict:mg "dict"=none) (h_max:mg "max"=none) (h_sum:mg "sum"=none) {f:Addr} {fd:FuncData} (F:DQ K "gets_from" "gets_from" DI f fd):A7 P w K mg base Bw 1 f fd ["case","prices","away"] IC:=by
 refine F.ok FV (fun vs H Q E h=>?_) (fun cdv A outer s H vs Q E hr h=>?_)
 ·obtain ⟨c,m,t,n,xs,ws,Aw,Au,qs,x,d,v,y,rfl,_⟩:=h;rfl
 ·obtain ⟨c,m,t,n,xs,ws,Aw,Au,qs,x,d,v,y,rfl,cp,fa,k⟩:=h;have nd:=FV.nd;have hu:=CO hr;have big:100000 < sizeLine:=by decide
  refine ⟨_,(Ag (Ar (i:=3) nd rfl (Or.inr rfl) (A3 (BX rfl) (by rfl) h_dict PyProof.Rows.boot_dict (Aa (AD FC (pv 0) Af (fun _ _=>rfl)) Ad)))
  (Ak (A8 (Al (JL rfl) (by rfl) h_sum PyProof.Rows.boot_sum (Aa (Bb (N:=["place","price","away","manys"]) (σ0:=fun σ=>[none,none,some 2,some 3].map fun j=>j.bind fun j=>(σ[j]?).join) rfl (AI.caught (by rfl) (by decide +kernel) rfl (by decide +kernel) (by intro y hy; simp only [Zz,Z3,or_false] at hy; rcases hy with rfl | rfl <;> rfl)
   (by intro y hy e; simp only [Zz,Z3,or_false] at hy; rcases hy with rfl | rfl | rfl | rfl | rfl | rfl <;> first | exact ⟨_,rfl⟩ | cases e)) (fun σ _=>Bd.of [none,none,some 2,some 3] rfl (by
   intro i j x h1 h2;match i,h1,h2 with
   | 0,_,h2=>cases h2
   | 1,_,h2=>cases h2
   | 2,h1,h2=>cases h1; cases h2; exact ⟨rfl,.inl rfl,.inl rfl⟩
   | 3,h1,h2=>cases h1; cases h2; exact ⟨rfl,.inl rfl,.inl rfl⟩
   | n + 4,h1,_=>cases h1)) (Gv (pv 1))
   (fun s2 H C fp=>⟨(Ba K rfl (n:=2) rfl (Am (Ai (i:=0) (show (["place","price","away","manys"]:List Str).Nodup by decide +kernel) rfl (Or.inl rfl)) (Am (Ai (i:=1) (show (["place","price","away","manys"]:List Str).Nodup by decide +kernel) rfl (Or.inl rfl)) AZ))),AK,(Al (G9 rfl) (by rfl) h_max PyProof.Rows.boot_max (Aa (Aq KP (pv 1) (Aq Cs (Bm hu (pv 3) (pv 0) (fun _ _=>rfl)) (Bm hu (pv 2) (pv 0) (fun _ _=>rfl)))) (Aa Af Ad)))⟩)) Ad))))),?_⟩
  obtain ⟨us,ht,du⟩:=cp.ex;obtain ⟨t1,t2,FN,HY,hc,Jg,J4,F6,hd2⟩:=cp.cw.ex;have ul:=AJ du;have Sy:=AJ hd2;have l2:=cp.cw.l2;have ql:=cp.ok.len;have xnd:=cp.cw.map.at'.nd;refine ⟨_,rfl,c,_,_,_,rfl,rfl,A4.of hc,rfl,t2,HY,BU Au,rfl,F6,by unfold BU; rw [Zv]; exact Sy,Ic hd2,by rw [Dl]; exact cp.cw.ok2.nd,by unfold BU; rw [Zv]; lia,fun B hB=>?_⟩;have s1:=Ac (o:=.dK (sK (BU Au))) hB;have O9:(upd H B (.dK (sK (BU Au)))) B=some (.dK (sK (BU Au))):=Ab;generalize upd H B (.dK (sK (BU Au)))=H1 at s1 O9;exists _,rfl,t,rfl,⟨_,A4.of (s1 _ _ ht)⟩
  refine AQ BD (xs:=us) (fun D i Ay H' acc=>∃ v0 v1:Option V,Ay=[v0,v1,some v,some (.ref B)]/\Ao H1 H'/\H' D=some (.lst acc)/\acc=(((Au.zip qs).take i).map fun z=>EZ ws y z.1 z.2.2).map V.int/\acc.length=i)
   (by lia) (fun D hD=>⟨_,_,rfl,Ac hD,Ab,rfl,rfl⟩) (fun D i Ay H' acc hD ⟨v0,v1,_,sa,Bj,_,al⟩=>⟨A4.of (sa _ _ (s1 _ _ ht)),Bj,al⟩) ?_ ?_
  ·rintro D i Ay H' acc x' Bk hD ex ⟨v0,v1,rfl,sa,Bj,ea,al⟩ hBk;obtain ⟨q,tt,eq,rfl,htt⟩:=Bv du ex;obtain ⟨r,er,rq⟩:=cp.ok.at eq;have rm:=Zx er;have hq1:q.1 ∈ Au.map (·.1):=Z6.mpr ⟨r,rm,rq⟩;have ec:G7 Au q.1=r.2:=by rw [<-rq]; exact EB cp.cw.ok2.nd rm
   have r4:=cp.few r rm;have r1:=(cp.cw.ok2.lo r rm).1;obtain ⟨B2,rfl,g2⟩:=((fa.same s1).same sa).get xnd (cp.names q (Zx eq)).1;have g1:=IJ (sa _ _ O9) cp.cw.ok2.nd hq1;rw [ec] at g1;exists tt,_,rfl,A4.of (sa _ _ (s1 _ _ htt)),rfl,_,_,rfl,_,_,rfl,rfl;exists _,rfl,_,rfl,_,rfl,B,_,rfl,g1,_,rfl,_,rfl,B2,_,rfl,g2,_,_,rfl,rfl,.inl ⟨by lia,by lia⟩,_,_,rfl,rfl,_,_,rfl;refine hBk _ _ _ Bj ⟨_,_,rfl,fun b o e=>by rw [Ae (Ah e hD)]; exact sa _ _ e,Ab,?_,by rw [Zy,al]; rfl⟩;rw [ea,Ks er eq,Z7,Vl];unfold EZ;rw [rq];rfl
  ·rintro D Ay H' acc hD ⟨v0,v1,rfl,sa,Bj,ea,al⟩;exists D,_,rfl,AX.of (by rw [Bj,ea]);have e:us.length=(Au.zip qs).length:=by rw [NQ ql]; lia
   rw [e,ZN];exact k _ (s1.trans sa)
end
section
variable {P:Program} {w:World} {K:Zw} {mg:Str->Option Value} {base:Heap}
theorem KQ {fF:Addr} {fdF:FuncData} (XF:Fn K mg "fars" KD ["web","place"] fF fdF) (GF:A7 P w K mg base Bw 3 fF fdF ["web","place"] (QP K)) {f:Addr} {fd:FuncData} (F:DQ K "site_fars" "site_fars" DE f fd):A7 P w K mg base Bw 4 f fd ["case"] IA:=by
 refine F.ok FQ (fun vs H Q E h=>?_) (fun cdv A outer s H vs Q E hr h=>?_)
 ·obtain ⟨c,m,n,xs,ws,Aw,Au,x,d,rfl,_⟩:=h;rfl
 ·obtain ⟨c,m,n,xs,ws,Aw,Au,x,d,rfl,cw,k⟩:=h;have nd:=FQ.nd;have big:100000 < sizeLine:=by decide
  refine ⟨_,(Ak (A8 (IM (N:=["place","price","case"]) (σ0:=fun σ=>[none,none,some 0].map fun j=>j.bind fun j=>(σ[j]?).join) rfl (AI.caught (by rfl) (by decide +kernel) rfl (by decide +kernel) (by intro y hy; simp only [Zz,Z3,or_false] at hy; rcases hy with rfl <;> rfl)
   (by intro y hy e; simp only [Zz,Z3,or_false] at hy; rcases hy with rfl | rfl | rfl | rfl | rfl <;> first | exact ⟨_,rfl⟩ | cases e)) (fun σ _=>Bd.of [none,none,some 0] rfl (by
   intro i j x h1 h2;match i,h1,h2 with
   | 0,_,h2=>cases h2
   | 1,_,h2=>cases h2
   | 2,h1,h2=>cases h1; cases h2; exact ⟨rfl,.inl rfl,.inl rfl⟩
   | n + 3,h1,_=>cases h1)) (Bq K rfl (AD (AU K rfl) (pv 0) Af (fun _ _=>rfl)))
   (fun s2 H C fp=>⟨(Ba K rfl (n:=2) rfl (Am (Ai (i:=0) (show (["place","price","case"]:List Str).Nodup by decide +kernel) rfl (Or.inl rfl)) (Am (Ai (i:=1) (show (["place","price","case"]:List Str).Nodup by decide +kernel) rfl (Or.inl rfl)) AZ))),AK,(pv 0),(Aj GF (hr.mono (by decide)) (by rfl) XF.mg XF.F.kp XF.b .nil Az (Aa (AD (AU K rfl) (pv 2) Af (fun _ _=>rfl)) (Aa (pv 0) Ad)))⟩)))),?_⟩
  obtain ⟨t1,t2,FN,HY,hc,Jg,J4,F6,hd2⟩:=cw.ex;obtain ⟨r,okw,pos,uni⟩:=cw.map.web cw.n1 cw.n30;have ul:=AJ J4;have l1:=cw.l1;exists _,rfl,c,_,_,_,rfl,rfl,A4.of hc,rfl,t1,rfl,⟨_,A4.of Jg⟩
  refine Pn BD (xs:=FN) (Aw.map (·.1)) (by rw [Zv,ul]) cw.ok1.nd (fun D i σ H' nv=>∃ (v0 v1:Option V),σ=[v0,v1,some (.ref c)]/\Ao H H'/\H' D=some (.dK (sK nv))/\nv.map (·.1)=(Aw.map (·.1)).take i/\∀ s v,(s,v) ∈ nv->DZ H' v xs ws s)
   (by lia) (fun D hD=>⟨_,_,rfl,Ac hD,Ab,rfl,fun s v hm=>nomatch hm⟩) (fun D i σ H' nv hD ⟨v0,v1,_,sa,Bj,nk,_⟩=>⟨A4.of (sa _ _ Jg),Bj,nk⟩) ?_ ?_
  ·rintro D i σ H' nv x' kk B hD ex ek ⟨v0,v1,rfl,sa,Bj,nk,nf⟩ hB;obtain ⟨u,t,eu,rfl,ht⟩:=Bv J4 ex;have e:kk=u.1:=by
    rw [Z0,eu] at ek;exact (ZJ.inj ek).symm
   subst e;exists t,_,rfl,A4.of (sa _ _ ht),rfl,_,_,rfl,_,_,rfl,rfl;refine ⟨_,rfl,_,rfl,c,_,_,_,rfl,rfl,A4.of (sa _ _ hc),rfl,_,rfl,m,xs,ws,r,u.1,rfl,okw.same sa,pos,uni,cw.ok1.sub u (Zx eu),fun H1 B1 nb s1 fB Wi nbK nbV=>?_⟩;have Yc:=s1 _ _ Bj;refine hB _ _ _ Yc ⟨_,_,rfl,fun b o' z=>by rw [Ae (Ah z hD)]; exact s1 _ _ (sa _ _ z),Ab,?_,fun s v hm=>?_⟩
   ·rw [Z7,nk,ZL,ek];rfl
   ·have nB:∀ {b:Addr} {kv:List (Bg × V)},b ≠ D->H1 b=some (.dK kv)->(upd H1 D (.dK (sK (nv ++ [(u.1,.ref B1)])))) b=some (.dK kv):=fun nb z=>by rw [Ae nb]; exact z
    rcases Z9.mp hm with hm | hm
    ·obtain ⟨B2,TZ,rfl,z1,z2,z3⟩:=nf s v hm;by_cases e:B2=D
     ·subst e;rw [Bj] at z1;have e:=HO.dK.inj (ZJ.inj z1);have YZ:((Sum.inr s:Bg),V.ref B2) ∈ sK TZ:=by rw [<-e]; exact Z6.mpr ⟨_,hm,rfl⟩
      obtain ⟨⟨y,u'⟩,h1,h2⟩:=Z6.mp YZ;cases h2
      obtain ⟨n',e',_⟩:=z3 _ _ h1;cases e'
     ·exact ⟨B2,TZ,rfl,nB e (s1 _ _ z1),z2,z3⟩
    ·simp only [ZH,Prod.mk.injEq] at hm;obtain ⟨rfl,rfl⟩:=hm;exact ⟨B1,nb,rfl,nB (fun z=>by rw [z,Bj] at fB; cases fB) Wi,nbK,nbV⟩
  ·rintro D σ H' nv hD ⟨v0,v1,rfl,sa,Bj,nk,nf⟩;rw [ul,show Aw.length=(Aw.map (·.1)).length by rw [Zv],ZN] at nk;exact k H' D nv sa hD Bj nk nf
end
section
variable {P:Program} {w:World} {K:Zw} {mg:Str->Option Value} {base:Heap}
theorem Mm (h_all:mg "all"=none) {fG:Addr} {fdG:FuncData} (XG:Fn K mg "gets_from" DI ["case","prices","away"] fG fdG) (GG:A7 P w K mg base Bw 1 fG fdG ["case","prices","away"] IC) {f:Addr} {fd:FuncData} (F:DQ K "stand_by" "stand_by" Et f fd):A7 P w K mg base Bw 2 f fd ["case","aways","prices","levy"] JY:=by
 refine F.ok GU (fun vs H Q E h=>?_) (fun cdv A outer s H vs Q E hr h=>?_)
 ·obtain ⟨c,m,t,D0,n,xs,ws,Aw,Au,qs,x,d,lv,rfl,_⟩:=h;rfl
 ·obtain ⟨c,m,t,D0,n,xs,ws,Aw,Au,qs,x,d,lv,rfl,cp,aw,k⟩:=h;have nd:=GU.nd;have hu:=CO hr;have big:100000 < sizeLine:=by decide
  refine ⟨_,(Ak (A8 (Al (BR rfl) (by rfl) h_all PyProof.Rows.boot_all (Aa (Bb (N:=["place","charge","case","aways","prices","levy"]) (σ0:=fun σ=>[none,none,some 0,some 1,some 2,some 3].map fun j=>j.bind fun j=>(σ[j]?).join) rfl (AI.caught (by rfl) (by decide +kernel) rfl (by decide +kernel) (by intro y hy; simp only [Zz,Z3,or_false] at hy; rcases hy with rfl | rfl | rfl | rfl <;> rfl)
   (by intro y hy e; simp only [Zz,Z3,or_false] at hy; rcases hy with rfl | rfl | rfl | rfl | rfl | rfl | rfl | rfl <;> first | exact ⟨_,rfl⟩ | cases e)) (fun σ _=>Bd.of [none,none,some 0,some 1,some 2,some 3] rfl (by
   intro i j x h1 h2;match i,h1,h2 with
   | 0,_,h2=>cases h2
   | 1,_,h2=>cases h2
   | 2,h1,h2=>cases h1; cases h2; exact ⟨rfl,.inl rfl,.inl rfl⟩
   | 3,h1,h2=>cases h1; cases h2; exact ⟨rfl,.inl rfl,.inl rfl⟩
   | 4,h1,h2=>cases h1; cases h2; exact ⟨rfl,.inl rfl,.inl rfl⟩
   | 5,h1,h2=>cases h1; cases h2; exact ⟨rfl,.inl rfl,.inl rfl⟩
   | n + 6,h1,_=>cases h1)) (Bq K rfl (AD (AU K rfl) (pv 0) Af (fun _ _=>rfl)))
   (fun s2 H C fp=>⟨(Ba K rfl (n:=2) rfl (Am (Ai (i:=0) (show (["place","charge","case","aways","prices","levy"]:List Str).Nodup by decide +kernel) rfl (Or.inl rfl)) (Am (Ai (i:=1) (show (["place","charge","case","aways","prices","levy"]:List Str).Nodup by decide +kernel) rfl (Or.inl rfl)) AZ))),AK,(C7 Mi (Aj GG (hr.mono (by decide)) (by rfl) XG.mg XG.F.kp XG.b .nil Az (Aa (pv 2) (Aa (pv 4) (Aa (Bm hu (pv 3) (pv 0) (fun _ _=>rfl)) Ad)))) (Aq Bf (pv 1) (pv 5)) (B5 _))⟩)) Ad)))),?_⟩
  obtain ⟨us,ht,du⟩:=cp.ex;obtain ⟨t1,t2,FN,HY,hc,Jg,J4,F6,hd2⟩:=cp.cw.ex;have ul:=AJ du;have U3:=AJ J4;have Sy:=AJ hd2;have l1:=cp.cw.l1;have l2:=cp.cw.l2;have ql:=cp.ok.len;exists _,rfl,c,_,_,_,rfl,rfl,A4.of hc,rfl,t1,rfl,⟨_,A4.of Jg⟩
  refine AQ BD (xs:=FN) (fun D i Ay H' acc=>∃ v0 v1:Option V,Ay=[v0,v1,some (.ref c),some (.ref D0),some (.ref t),some (.int lv)]/\Ao H H'/\H' D=some (.lst acc)/\acc=((Aw.take i).map fun r=>decide (BY ws r.1 Au qs<=r.2 + lv)).map V.bl/\acc.length=i)
   (by lia) (fun D hD=>⟨_,_,rfl,Ac hD,Ab,rfl,rfl⟩) (fun D i Ay H' acc hD ⟨v0,v1,_,sa,Bj,_,al⟩=>⟨A4.of (sa _ _ Jg),Bj,al⟩) ?_ ?_
  ·rintro D i Ay H' acc x' B hD Wj ⟨v0,v1,rfl,sa,Bj,ea,al⟩ hB;obtain ⟨r,tt,er,rfl,htt⟩:=Bv J4 Wj;obtain ⟨v,dg,fa⟩:=(aw.same sa).get cp.cw.ok1.nd (Zx er);exists tt,_,rfl,A4.of (sa _ _ htt),rfl,_,_,rfl,_,_,rfl,rfl;refine ⟨_,rfl,_,rfl,_,rfl,_,rfl,D0,_,rfl,dg,c,m,t,n,xs,ws,Aw,Au,qs,x,d,v,r.1,rfl,cp.same sa,fa,fun H5 s5=>?_⟩;exists _,rfl,_,rfl,_,_,rfl,rfl,_,_,rfl,rfl;refine hB _ _ _ (s5 _ _ Bj) ⟨_,_,rfl,fun b o e=>by rw [Ae (Ah e hD)]; exact s5 _ _ (sa _ _ e),Ab,?_,by rw [Zy,al]; rfl⟩;rw [ea,ZL,er,Z7,Z7];rfl
  ·rintro D Ay H' acc hD ⟨v0,v1,rfl,sa,Bj,ea,al⟩;exists D,_,rfl,AX.of (by rw [Bj,ea]);have e:(((Aw.take FN.length).map fun r=>decide (BY ws r.1 Au qs<=r.2 + lv)).all id)=Cp ws Aw Au qs lv:=by
    rw [U3,ZN,aF];rfl
   rw [e];exact k _ sa
theorem Mo (h_dict:mg "dict"=none) (h_max:mg "max"=none) {f:Addr} {fd:FuncData} (F:DQ K "_law_gets" "_law_gets" Eu f fd):A7 P w K mg base Bw 1 f fd ["_law_case_here","_law_away","_law_prices_here","_law_site"] Oh:=by
 refine F.ok GY (fun vs H Q E h=>?_) (fun cdv A outer s H vs Q E hr h=>?_)
 ·obtain ⟨c,m,t,A0,n,xs,ws,Aw,Au,qs,x,d,y,rfl,_⟩:=h;rfl
 ·obtain ⟨c,m,t,A0,n,xs,ws,Aw,Au,qs,x,d,y,rfl,cp,kn,hy,k⟩:=h;have nd:=GY.nd;have hu:=CO hr;have big:100000 < sizeLine:=by decide
  refine ⟨_,(Ag (Ar (i:=4) nd rfl (Or.inl rfl) Af)
  (Ag (Cb PassesOwn.never rfl (Bq K rfl (AD (AU K rfl) (pv 0) Af (fun _ _=>rfl))) (Ba K rfl rfl (Am (Ai (i:=5) nd rfl (Or.inl rfl)) (Am (Ai (i:=6) nd rfl (Or.inl rfl)) AZ)))
  (Ak (Ar (i:=4) nd rfl (Or.inl rfl) (Aq Bf (pv 4) (Al (G9 rfl) (by rfl) h_max PyProof.Rows.boot_max (Aa Af (Aa (Aq KP (Bm hu (A3 (BX rfl) (by rfl) h_dict PyProof.Rows.boot_dict (Aa (pv 2) Ad)) (pv 5) (fun _ _=>rfl)) (Aq Cs (pv 6) (Bm hu (pv 1) (As (Aa (pv 5) (Aa (pv 3) Ad))) (fun _ _=>rfl)))) Ad)))))))
  (Ak (A8 (pv 4))))),?_⟩
  obtain ⟨us,ht,du⟩:=cp.ex;obtain ⟨t1,t2,FN,HY,hc,Jg,J4,F6,hd2⟩:=cp.cw.ex;have ul:=AJ du;have U3:=AJ J4;have Sy:=AJ hd2;have l1:=cp.cw.l1;have l2:=cp.cw.l2;have ql:=cp.ok.len;refine ⟨_,rfl,c,_,_,_,rfl,rfl,A4.of hc,rfl,t2,rfl,⟨_,A4.of F6⟩,CC (xs:=HY) (fun i σ H'=>(∃ v5 v6,σ=[some (.ref c),some (.ref A0),some (.ref t),some (.str y),some (.int (((Au.zip qs).take i).map fun z=>EZ ws y z.1 z.2.2).sum),v5,v6])/\Ao H H') ⟨⟨_,_,rfl⟩,Ao.refl _⟩ (fun i σ H' _ hP=>A4.of (hP.2 _ _ F6)) (fun i v σ H' hv hP rt bk N hN=>?_) (fun σ H' hP=>?_)⟩
  ·obtain ⟨⟨v5,v6,rfl⟩,sa⟩:=hP;obtain ⟨r,tt,er,rfl,htt⟩:=Bv hd2 hv;have rm:=Zx er;have hi:i < qs.length:=by have:=(Z2.mp er).1; lia
   have eq:qs[i]? = some qs[i]:=Zt hi;obtain ⟨r',er',rq⟩:=cp.ok.at eq;rw [er] at er';cases er'
   have qnd:(qs.map (·.1)).Nodup:=by rw [cp.ok.nm]; exact cp.cw.ok2.nd
   exists tt,_,rfl,A4.of (sa _ _ htt),rfl,_,_,rfl,_,_,rfl,rfl;refine ⟨_,rfl,_,rfl,t,us,BU qs,rfl,sa _ _ ht,by unfold BU; rw [Zv]; exact ul,Ic (AW du fun b ys z=>sa _ _ z),by rw [Dl]; exact qnd,by unfold BU; rw [Zv]; lia,fun B hB=>?_⟩;have q1:=Ac (o:=.dK (sK (BU qs))) hB;have O9:(upd H' B (.dK (sK (BU qs)))) B=some (.dK (sK (BU qs))):=Ab;generalize upd H' B (.dK (sK (BU qs)))=H1 at q1 O9;have g1:=IJ O9 qnd (y:=r.1) (by rw [cp.ok.nm]; exact Z6.mpr ⟨r,rm,rfl⟩);have ec:G7 qs r.1=qs[i].2:=by rw [rq]; exact EB qnd (Zx eq)
   rw [ec] at g1;refine ⟨_,rfl,B,_,rfl,g1,_,rfl,_,rfl,_,rfl,_,rfl,(by show 2<=sizeLine; lia),fun T hT=>?_⟩;have q2:=Ac (o:=.tup [.str r.1,.str y]) hT;have O6:(upd H1 T (.tup [.str r.1,.str y])) T=some (.tup [.str r.1,.str y]):=Ab;generalize upd H1 T (.tup [.str r.1,.str y])=H2 at q2 O6;obtain ⟨g2,_,_⟩:=(((kn.same sa).same q1).same q2).get (cp.cw.ok2.sub r rm) hy O6;have r4:=cp.few r rm;have r1:=(cp.cw.ok2.lo r rm).1;exists A0,_,rfl,g2,_,_,rfl,rfl,.inl ⟨by lia,by lia⟩,_,_,rfl,rfl,_,_,rfl,_,_,rfl,rfl;refine hN _ _ ⟨⟨some (.str r.1),some (.int r.2),?_⟩,sa.trans (q1.trans q2)⟩;rw [Ks er eq,List.sum_append,List.sum_singleton,SV];unfold EZ;rfl
  ·obtain ⟨⟨v5,v6,rfl⟩,sa⟩:=hP;exists _,rfl;have e:HY.length=(Au.zip qs).length:=by rw [NQ ql]; lia
   rw [e,ZN];exact k _ sa
end
section
variable {P:Program} {w:World} {K:Zw} {mg:Str->Option Value} {base:Heap}
theorem JE (h_dict:mg "dict"=none) (h_max:mg "max"=none) (h_min:mg "min"=none) {fG:Addr} {fdG:FuncData} (XG:Fn K mg "_law_gets" Eu ["_law_case_here","_law_away","_law_prices_here","_law_site"] fG fdG) (GG:A7 P w K mg base Bw 1 fG fdG ["_law_case_here","_law_away","_law_prices_here","_law_site"] Oh) {f:Addr} {fd:FuncData} (F:DQ K "_law_raised" "_law_raised" CT f fd):A7 P w K mg base Bw 2 f fd ["_law_case_here","_law_away","_law_prices_here","_law_levy","_law_at"] JZ:=by
 refine F.ok Fz (fun vs H Q E h=>?_) (fun cdv A outer s H vs Q E hr h=>?_)
 ·obtain ⟨c,m,t,A0,n,xs,ws,Aw,Au,qs,x,d,lv,i,rfl,_⟩:=h;rfl
 ·obtain ⟨c,m,t,A0,n,xs,ws,Aw,Au,qs,x,d,lv,i,rfl,cp,kn,YI,YH,hi,k⟩:=h;have nd:=Fz.nd;have hu:=CO hr;have big:100000 < sizeLine:=by decide
  refine ⟨_,(Ag (Ds (AD (AU K rfl) (pv 2) (pv 4) (fun _ _=>rfl)) (Ba K rfl rfl (Am (Ai (i:=5) nd rfl (Or.inl rfl)) (Am (Ai (i:=6) nd rfl (Or.inl rfl)) AZ))))
  (Ag (Ar (i:=7) nd rfl (Or.inl rfl) (Bm hu (A3 (BX rfl) (by rfl) h_dict PyProof.Rows.boot_dict (Aa (AD (AU K rfl) (pv 0) Af (fun _ _=>rfl)) Ad)) (pv 5) (fun _ _=>rfl)))
  (Ag (Ar (i:=8) nd rfl (Or.inl rfl) (Aq (Bn K rfl) (Aq (Bn K rfl) (Bi (B9 K rfl) (pv 2) Bp (Bo (pv 4))) (As (Aa (As (Aa (pv 5) (Aa Af Ad))) Ad))) (Bi (B9 K rfl) (pv 2) (Bo (Aq Bf (pv 4) Af)) Bp)))
  (Ag (Ar (i:=9) nd rfl (Or.inl rfl) (Bl Ad))
  (Ag (Cb PassesOwn.never rfl (Bq K rfl (AD (AU K rfl) (pv 0) Af (fun _ _=>rfl))) (Ba K rfl rfl (Am (Ai (i:=10) nd rfl (Or.inl rfl)) (Am (Ai (i:=11) nd rfl (Or.inl rfl)) AZ)))
  (Ak (Ie (IP PySem.F.plainAttrs_list PySem.F.slot_list_append PySem.F.type_list_append Dn (pv 9) (Aa (Aq Bf (Aq KP (Aq Bf (pv 11) (pv 3)) (Aj GG (hr.mono (by decide)) (by rfl) XG.mg XG.F.kp XG.b .nil Az (Aa (pv 0) (Aa (pv 1) (Aa (pv 8) (Aa (pv 10) Ad)))))) (Aq Cs (pv 7) (Bm hu (pv 1) (As (Aa (pv 5) (Aa (pv 10) Ad))) (fun _ _=>rfl)))) Ad)))))
  (Ak (A8 (Aq (Bn K rfl) (Aq (Bn K rfl) (Bi (B9 K rfl) (pv 2) Bp (Bo (pv 4))) (As (Aa (As (Aa (pv 5) (Aa (Al (G9 rfl) (by rfl) h_max PyProof.Rows.boot_max (Aa Af (Aa (Al (JO rfl) (by rfl) h_min PyProof.Rows.boot_min (Aa (pv 9) Ad)) Ad))) Ad))) Ad))) (Bi (B9 K rfl) (pv 2) (Bo (Aq Bf (pv 4) Af)) Bp))))))))),?_⟩
  obtain ⟨us,ht,du⟩:=cp.ex;obtain ⟨t1,t2,FN,HY,hc,Jg,J4,F6,hd2⟩:=cp.cw.ex;have ul:=AJ du;have U3:=AJ J4;have Sy:=AJ hd2;have l1:=cp.cw.l1;have l2:=cp.cw.l2;have ql:=cp.ok.len;have EL:i < us.length:=by lia
  obtain ⟨q,tt,eq,e2,htt⟩:=Bv du (Zt EL);have en:=KY eq;have qm:=Zx eq;have VG:Gn us (i:Int)=some (.ref tt):=by rw [Cw (Zt EL),e2]
  obtain ⟨r,er,rq⟩:=cp.ok.at eq;have rm:=Zx er;exists _,rfl,_,rfl,t,_,_,_,rfl,rfl,A4.of ht,VG,tt,_,rfl,A4.of htt,rfl,_,_,rfl,_,_,rfl,rfl;refine ⟨_,rfl,c,_,_,_,rfl,rfl,A4.of hc,rfl,t2,HY,BU Au,rfl,F6,by unfold BU; rw [Zv]; exact Sy,Ic hd2,by rw [Dl]; exact cp.cw.ok2.nd,by unfold BU; rw [Zv]; lia,fun B hB=>?_⟩;have b1:=Ac (o:=.dK (sK (BU Au))) hB;have O9:(upd H B (.dK (sK (BU Au)))) B=some (.dK (sK (BU Au))):=Ab;generalize upd H B (.dK (sK (BU Au)))=HB at b1 O9 ⊢;have g1:=IJ O9 cp.cw.ok2.nd (y:=q.1) (by rw [<-rq]; exact Z6.mpr ⟨r,rm,rfl⟩);have ec:G7 Au q.1=r.2:=by rw [<-rq]; exact EB cp.cw.ok2.nd rm
  rw [ec] at g1;exists _,rfl,B,_,rfl,g1;have htB:=b1 _ _ ht;refine ⟨_,rfl,_,rfl,_,rfl,S4 htB EL fun Z1a U1 UM Xf=>?_⟩;refine ⟨_,rfl,(by show 2<=sizeLine; lia),fun T hTa=>⟨(by show 1<=sizeLine; lia),fun Ya hYa=>?_⟩⟩;have UW:=Ac (o:=.tup [.str q.1,.int 0]) hTa;have hTTa:(upd U1 T (.tup [.str q.1,.int 0])) T=some (.tup [.str q.1,.int 0]):=Ab;generalize upd U1 T (.tup [.str q.1,.int 0])=Xm at UW hTTa hYa ⊢;have Po:=Ac (o:=.tup [.ref T]) hYa;have hYYa:(upd Xm Ya (.tup [.ref T])) Ya=some (.tup [.ref T]):=Ab;generalize upd Xm Ya (.tup [.ref T])=H3a at Po hYYa ⊢;refine EC (K:=K) (Po _ _ (UW _ _ Xf)) hYYa (by rw [ZE]; show _ + 1<=sizeLine; lia) fun Z2a H4a UK Xd=>?_
  have sAa:=UM.trans (UW.trans (Po.trans UK));exists _,rfl,_,rfl,_,_,rfl,rfl,_,rfl;dsimp only [C4];refine S5 (K:=K) (sAa _ _ htB) EL fun Z3a H5a TL Xc=>?_
  refine EC (K:=K) (TL _ _ Xd) Xc (by rw [Zy,ZE,ZU]; show _ + 1 + _<=sizeLine; lia) fun Za VN Wt Xb=>?_
  have sBa:=TL.trans Wt;have salla:=sAa.trans sBa;have Vy:=sBa _ _ (UK _ _ (Po _ _ hTTa));have cpO:CP VN c m Za n xs ws Aw Au (BV qs i 0) x d:=((cp.same b1).same salla).put (AW du fun b ys z=>salla _ _ (b1 _ _ z)) hi (az _) (by rw [en]; exact Vy) Xb;have sO:=b1.trans salla;refine ⟨(by show 0<=sizeLine; lia),fun L0 XY=>?_⟩;have hyx:q.1 ∈ xs:=(cp.names q qm).1;have r4:=cp.few r rm;have r1:=(cp.cw.ok2.lo r rm).1;refine ⟨_,rfl,c,_,_,_,rfl,rfl,A4.of (Ac XY _ _ (sO _ _ hc)),rfl,t1,rfl,⟨_,A4.of (Ac XY _ _ (sO _ _ Jg))⟩,CC (xs:=FN) (fun j σ H'=>(∃ v10 v11,σ=[some (.ref c),some (.ref A0),some (.ref t),some (.int lv),some (.int i),some (.str q.1),some (.int q.2),some (.int r.2),some (.ref Za),some (.ref L0),v10,v11])/\Ao VN H'/\∃ ns:List Int,H' L0=some (.lst (ns.map V.int))/\ns.length=j/\(∀ n ∈ ns,n < 2 ^ 400)/\ns=(Aw.take j).map fun s=>s.2 + lv - BY ws s.1 Au (BV qs i 0) + r.2 * dst ws s.1 q.1)
   ⟨⟨_,_,rfl⟩,Ac XY,[],Ab,rfl,(fun n hn=>nomatch hn),rfl⟩ (fun j σ H' _ hP=>A4.of (hP.2.1 _ _ (sO _ _ Jg))) (fun j v σ H' hv hP rt bk N hN=>?_) (fun σ H' hP=>?_)⟩
  ·obtain ⟨⟨v10,v11,rfl⟩,sa,ns,hL,nl,nb,nv⟩:=hP;obtain ⟨s1,tt1,es,rfl,hts⟩:=Bv J4 hv;have sm:=Zx es;have jl:j < Aw.length:=(Z2.mp es).1;exists tt1,_,rfl,A4.of (sa _ _ (sO _ _ hts)),rfl,_,_,rfl,_,_,rfl,rfl;refine ⟨_,rfl,.inl ⟨rfl,_,AX.of hL⟩,_,rfl,_,rfl,_,_,rfl,rfl,_,rfl,_,rfl,_,rfl,_,rfl,c,m,Za,A0,n,xs,ws,Aw,Au,BV qs i 0,x,d,s1.1,rfl,cpO.same sa,(kn.same sO).same sa,cp.cw.ok1.sub s1 sm,fun H7 s7=>?_⟩;refine ⟨_,_,rfl,rfl,_,rfl,_,rfl,_,rfl,_,rfl,(by show 2<=sizeLine; lia),fun T hT=>?_⟩;have q7:=s7.trans (Ac (o:=.tup [.str q.1,.str s1.1]) hT);have O6:(upd H7 T (.tup [.str q.1,.str s1.1])) T=some (.tup [.str q.1,.str s1.1]):=Ab;generalize upd H7 T (.tup [.str q.1,.str s1.1])=H8 at q7 O6 ⊢;obtain ⟨g2,d0,d1⟩:=(((kn.same sO).same sa).same q7).get hyx (cp.cw.ok1.sub s1 sm) O6;exists A0,_,rfl,g2,_,_,rfl,rfl,.inl ⟨by lia,by lia⟩,_,_,rfl,rfl,L0,_,_,rfl,rfl,q7 _ _ hL,by rw [Zv]; lia
   refine hN _ _ ⟨⟨_,_,rfl⟩,fun b o z=>by rw [Ae (Ah z XY)]; exact q7 _ _ (sa _ _ z),ns ++ [s1.2 + lv - BY ws s1.1 Au (BV qs i 0) + r.2 * dst ws s1.1 q.1],by rw [Ab,Z7]; rfl,by rw [Zy,nl]; rfl,fun z hz=>?_,by rw [ZL,es,Z7,<-nv]; rfl⟩;rcases Z9.mp hz with hz | hz
   ·exact nb z hz
   ·rw [ZH] at hz;subst hz;exact Rb (cp.cw.ok1.lo s1 sm).2 YH (Qb _ _ _ _) r1 r4 d0 d1
  obtain ⟨⟨v10,v11,rfl⟩,sa,ns,hL,nl,nb,nv⟩:=hP;have one:=cp.cw.ok1.one;have nne:ns ≠ []:=fun z=>by rw [z] at nl; rw [<-U3] at one; simp at nl; lia
  have htE:=sa _ _ (salla _ _ htB);refine ⟨_,rfl,_,rfl,_,rfl,S4 htE EL fun Z1b H1b VW h1b=>?_⟩;refine ⟨_,rfl,_,rfl,L0,ns,rfl,VW _ _ hL,nne,fun mn hm hle=>⟨_,_,rfl,(by show 2<=sizeLine; lia),fun T hTb=>⟨(by show 1<=sizeLine; lia),fun Yb hYb=>?_⟩⟩⟩;have Y8:=Ac (o:=.tup [.str q.1,.int (if mn > 0 then mn else 0)]) hTb;have hTTb:(upd H1b T (.tup [.str q.1,.int (if mn > 0 then mn else 0)])) T=some (.tup [.str q.1,.int (if mn > 0 then mn else 0)]):=Ab;generalize upd H1b T (.tup [.str q.1,.int (if mn > 0 then mn else 0)])=H2b at Y8 hTTb hYb ⊢;have Xz:=Ac (o:=.tup [.ref T]) hYb;have hYYb:(upd H2b Yb (.tup [.ref T])) Yb=some (.tup [.ref T]):=Ab;generalize upd H2b Yb (.tup [.ref T])=H3b at Xz hYYb ⊢;refine EC (K:=K) (Xz _ _ (Y8 _ _ h1b)) hYYb (by rw [ZE]; show _ + 1<=sizeLine; lia) fun Z2b H4b s4b h4b=>?_
  have sAb:=VW.trans (Y8.trans (Xz.trans s4b));exists _,rfl,_,rfl,_,_,rfl,rfl,_,rfl;dsimp only [C4];refine S5 (K:=K) (sAb _ _ htE) EL fun Z3b H5b s5b h5b=>?_
  refine EC (K:=K) (s5b _ _ h4b) h5b (by rw [Zy,ZE,ZU]; show _ + 1 + _<=sizeLine; lia) fun Zb H6b s6b h6b=>?_
  have sBb:=s5b.trans s6b;have sallb:=sAb.trans sBb;have Zg:=sBb _ _ (s4b _ _ (Xz _ _ hTTb));have sF:=b1.trans (salla.trans (sa.trans sallb));have p0:(0:Int)<=(if mn > 0 then mn else 0):=by split <;> lia
  have p1:(if mn > 0 then mn else 0) < (2:Int) ^ 400:=by
   split
   ·exact nb mn hm
   ·exact (by decide +kernel)
  have lo:∀ s ∈ Aw,0<=r.2 * dst ws s.1 q.1:=fun s hs=>cL (by lia) (kn.lo hyx (cp.cw.ok1.sub s hs))
  have room:∀ s ∈ Aw,mn<=s.2 + lv - BY ws s.1 Au (BV qs i 0) + r.2 * dst ws s.1 q.1:=fun s hs=>hle _ (by rw [nv,U3,ZN]; exact Z6.mpr ⟨s,hs,rfl⟩)
  exact k H6b Zb _ sF p0 p1 (fun hst p' YU=>OX hst er eq rq (cp.ok.lo q qm) lo room YU) ((cp.same sF).put (AW du fun b ys z=>sF _ _ z) hi p0 (by rw [en]; exact Zg) h6b)
theorem JF (h_len:mg "len"=none) (h_list:mg "list"=none) (h_range:mg "range"=none) (h_tuple:mg "tuple"=none) {fT:Addr} {fdT:FuncData} (XT:Fn K mg "_law_take" Bt ["_law_pen_here","_law_many"] fT fdT) (GT:A7 P w K mg base Bw 1 fT fdT ["_law_pen_here","_law_many"] CQ) {fRA:Addr} {fdRA:FuncData} (XRA:Fn K mg "_law_raised" CT ["_law_case_here","_law_away","_law_prices_here","_law_levy","_law_at"] fRA fdRA) (GRA:A7 P w K mg base Bw 2 fRA fdRA ["_law_case_here","_law_away","_law_prices_here","_law_levy","_law_at"] JZ) {f:Addr} {fd:FuncData} (F:DQ K "_law_prices" "_law_prices" CU f fd):A7 P w K mg base Bw 3 f fd ["_law_pen_here","_law_case_here","_law_away","_law_levy"] Ka:=by
 refine F.ok F0 (fun vs H Q E h=>?_) (fun cdv A outer s H vs Q E hr h=>?_)
 ·obtain ⟨p,c,m,A0,n,xs,ws,Aw,Au,x,d,lv,rfl,_⟩:=h;rfl
 ·obtain ⟨p,c,m,A0,n,xs,ws,Aw,Au,x,d,lv,rfl,hP,cw,few,kn,YI,YH,k⟩:=h;have nd:=F0.nd;have big:100000 < sizeLine:=by decide
  refine ⟨_,(Ag (Ar (i:=4) nd rfl (Or.inl rfl) (A3 B7 (by rfl) h_tuple PyProof.Rows.boot_tuple (Aa (Bb (N:=["_law_place","_law_many"]) (σ0:=fun _=>[none,none]) rfl (AI.plain (by decide +kernel) (by decide +kernel) rfl (by decide +kernel)) (fun σ _=>Bd.none _ _ _ ["_law_place","_law_many"] σ) (Bq K rfl (AD (AU K rfl) (pv 1) Af (fun _ _=>rfl)))
   (fun s2 H C fp=>⟨(Ba K rfl (n:=2) rfl (Am (Ai (i:=0) (show (["_law_place","_law_many"]:List Str).Nodup by decide +kernel) rfl (Or.inl rfl)) (Am (Ai (i:=1) (show (["_law_place","_law_many"]:List Str).Nodup by decide +kernel) rfl (Or.inl rfl)) AZ))),AK,(As (Aa (pv 0) (Aa Af Ad)))⟩)) Ad)))
  (Ag (Ar (i:=5) nd rfl (Or.inl rfl) (A3 (JP rfl) (by rfl) h_list PyProof.Rows.boot_list (Aa (A3 Qo (by rfl) h_range PyProof.Rows.boot_range (Aa (Al AE (by rfl) h_len PySem.boot_len (Aa (pv 4) Ad)) Ad)) Ad)))
  (Ag (Cb PassesOwn.never rfl (Dm (by rfl) h_range (Aa (Al AE (by rfl) h_len PySem.boot_len (Aa (pv 4) Ad)) Ad)) (Ai (i:=6) nd rfl (Or.inl rfl))
  (Ag (Ar (i:=7) nd rfl (Or.inl rfl) (IP PySem.F.plainAttrs_list PySem.F.slot_list_pop PySem.F.type_list_pop Mu (pv 5) (Aa (Aj GT (hr.mono (by decide)) (by rfl) XT.mg XT.F.kp XT.b .nil Az (Aa (pv 0) (Aa (Al AE (by rfl) h_len PySem.boot_len (Aa (pv 5) Ad)) Ad))) Ad)))
  (Ag (Ar (i:=8) nd rfl (Or.inl rfl) (Aj GRA (hr.mono (by decide)) (by rfl) XRA.mg XRA.F.kp XRA.b .nil Az (Aa (pv 1) (Aa (pv 2) (Aa (pv 4) (Aa (pv 3) (Aa (pv 7) Ad)))))))
  (Ag (Ar (i:=4) nd rfl (Or.inl rfl) (pv 8))
  (Ak (C9 (BN Hs (Aj GT (hr.mono (by decide)) (by rfl) XT.mg XT.F.kp XT.b .nil Az (Aa (pv 0) (Aa Af Ad))) Af (B5 _))
  (Ag (Ar (i:=9) nd rfl (Or.inl rfl) (Aj GT (hr.mono (by decide)) (by rfl) XT.mg XT.F.kp XT.b .nil Az (Aa (pv 0) (Aa (Aq Bf (AD (AU K rfl) (AD (AU K rfl) (pv 8) (pv 7) (fun _ _=>rfl)) Af (fun _ _=>rfl)) Af) Ad))))
  (Ak (Ar (i:=4) nd rfl (Or.inl rfl) (Aq (Bn K rfl) (Aq (Bn K rfl) (Bi (B9 K rfl) (pv 8) Bp (Bo (pv 7))) (As (Aa (As (Aa (AD (AU K rfl) (AD (AU K rfl) (pv 8) (pv 7) (fun _ _=>rfl)) Af (fun _ _=>rfl)) (Aa (pv 9) Ad))) Ad))) (Bi (B9 K rfl) (pv 8) (Bo (Aq Bf (pv 7) Af)) Bp)))))
  B3))))))
  (Ak (A8 (pv 4)))))),?_⟩
  obtain ⟨t1,t2,FN,HY,hc,Jg,J4,F6,hd2⟩:=cw.ex;have Sy:=AJ hd2;have l2:=cw.l2;have one:=cw.ok2.one;exists _,rfl,c,_,_,_,rfl,rfl,A4.of hc,rfl,t2,rfl,⟨_,A4.of F6⟩
  refine AQ BD (xs:=HY) (fun D i Ay H' acc=>∃ v0 v1:Option V,Ay=[v0,v1]/\Ao H H'/\H' D=some (.lst acc)/\AB H' acc ((Fx (Au.take i)).map Cq)/\acc.length=i)
   (by lia) (fun D hD=>⟨_,_,rfl,Ac hD,Ab,.nil,rfl⟩) (fun D i Ay H' acc hD ⟨v0,v1,_,sa,Bj,_,al⟩=>⟨A4.of (sa _ _ F6),Bj,al⟩) ?_ ?_
  ·rintro D i Ay H' acc x' B hD Wj ⟨v0,v1,rfl,sa,Bj,dd,al⟩ hB;obtain ⟨r,tt,er,rfl,htt⟩:=Bv hd2 Wj;exists tt,_,rfl,A4.of (sa _ _ htt),rfl,_,_,rfl,_,_,rfl,rfl;refine ⟨_,rfl,(by show 2<=sizeLine; lia),fun T hT=>?_⟩;have q:=Ac (o:=.tup [.str r.1,.int 0]) hT;have O6:(upd H' T (.tup [.str r.1,.int 0])) T=some (.tup [.str r.1,.int 0]):=Ab;generalize upd H' T (.tup [.str r.1,.int 0])=H6 at q O6 ⊢;have d6:=q _ _ Bj;refine hB _ _ _ d6 ⟨_,_,rfl,fun b o e=>by rw [Ae (Ah e hD)]; exact q _ _ (sa _ _ e),Ab,?_,by rw [Zy,al]; rfl⟩;unfold Fx at dd ⊢;rw [ZL,er,Z7,Z7];refine BP (AW dd fun b ys e=>?_) (.cons (FY (u:=(r.1,0)) (by rw [Ae (by intro z; subst z; rw [d6] at O6; cases O6)]; exact O6)) .nil);rw [Ae (by intro z; subst z; rw [Bj] at e; cases e)];exact q _ _ e
  rintro D Ay H1 acc hD ⟨v0,v1,rfl,sa,Bj,dd,al⟩;rw [Sy,ZN] at dd;refine ⟨D,_,rfl,.inl ⟨AX.of Bj,fun T0 hT0=>?_⟩⟩;have b1:=Ac (o:=.tup acc) hT0;have Tg:(upd H1 T0 (.tup acc)) T0=some (.tup acc):=Ab;have cp0:CP (upd H1 T0 (.tup acc)) c m T0 n xs ws Aw Au (Fx Au) x d:=⟨(cw.same sa).same b1,few,⟨acc,Tg,AW dd fun b ys z=>b1 _ _ z⟩,Q2 Au⟩
  have s2:=sa.trans b1;generalize upd H1 T0 (.tup acc)=H2 at b1 Tg cp0 s2 ⊢;refine ⟨_,rfl,T0,_,rfl,.inr (A4.of Tg),(acc.length:Int),rfl,fun R hR=>⟨R,acc.length,rfl,Ab,by lia,fun O hO=>?_⟩⟩;have s3:=(Ac (o:=.rng 0 (acc.length:Int)) hR).trans (Ac (o:=.lst ((ZW acc.length).map fun (i:Nat)=>V.int (i:Int))) hO);have hOO:(upd (upd H2 R (.rng 0 (acc.length:Int))) O (.lst ((ZW acc.length).map fun (i:Nat)=>V.int (i:Int)))) O=some (.lst ((ZW acc.length).map fun (i:Nat)=>V.int (i:Int))):=Ab;have hO2:H2 O=none:=(Ac (o:=.rng 0 (acc.length:Int)) hR).free hO;generalize upd (upd H2 R (.rng 0 (acc.length:Int))) O (.lst ((ZW acc.length).map fun (i:Nat)=>V.int (i:Int)))=H3 at s3 hOO ⊢;have hOH:H O=none:=s2.free hO2;have nOp:O ≠ p:=hP.ne hOH;refine ⟨_,rfl,T0,_,rfl,.inr (A4.of (s3 _ _ Tg)),(acc.length:Int),rfl,by lia,by lia,El (n:=(acc.length:Int).toNat) (fun j σ H'=>∃ (v6 v7 v8 v9:Option V) (T:Addr) (qs:List AV) (os:List Nat),σ=[some (.ref p),some (.ref c),some (.ref A0),some (.int lv),some (.ref T),some (.ref O),v6,v7,v8,v9]/\A5 H' p/\AA p H H'/\CP H' c m T n xs ws Aw Au qs x d/\C0 H' A0 xs ws/\(Cp ws Aw Au qs lv=true/\∀ q ∈ qs,q.2 < 2 ^ 400)/\H' O=some (.lst (os.map fun (i:Nat)=>V.int (i:Int)))/\os.length + j=acc.length/\∀ o ∈ os,o < acc.length)
   ⟨_,_,_,_,T0,Fx Au,ZW acc.length,rfl,(hP.same s2).same s3,AA.of_same (s2.trans s3),cp0.same s3,(kn.same s2).same s3,⟨MQ (fun s hs r hr=>cL (by have:=(cw.ok2.lo r hr).1; lia) (kn.lo (cw.ok2.sub r hr) (cw.ok1.sub s hs))) (fun s hs=>(cw.ok1.lo s hs).1) YI,Q3⟩,hOO,by rw [af]; rfl,fun o ho=>aH.mp ho⟩ ?_ ?_⟩
  ·rintro j σ H4 hj ⟨v6,v7,v8,v9,T,qs,os,rfl,P4,k4,Yh,X4,⟨MJ,Yi⟩,Wg,ol,ob⟩;rw [bI] at hj;refine ⟨_,rfl,.inl ⟨rfl,_,AX.of Wg⟩,_,rfl,_,rfl,O,_,rfl,.inl (AX.of Wg),p,_,rfl,P4,?_,DM ?_,fun e' a1 Tr c1 Yg Wk=>?_⟩
   ·rw [Zv]; lia
   ·rw [Zv]; lia
   rw [Zv] at Wk;obtain ⟨g,rfl⟩:∃ g:Nat,e'=(g:Int):=⟨e'.toNat,by lia⟩
   have hg:g < os.length:=by lia
   have hget:os[g]? = some os[g]:=Zt hg;have h5:(upd H4 p (.lst (A2 a1 Tr c1))) O=some (.lst (os.map fun (i:Nat)=>V.int (i:Int))):=by rw [Ae nOp]; exact Wg
   exists O,_,_,g,.int (os[g]:Nat),rfl,rfl,h5,by lia,by lia,?_,by rw [Z0,hget]; rfl
   ·rw [Zv];exact (Ik (by show PX os.length (g:Int)=some g; unfold PX; rw [if_pos (by lia),if_pos (by lia)]; rfl)).1
   rw [Gz];obtain ⟨i,ei⟩:∃ i,i=os[g]:=⟨_,rfl⟩
   rw [<-ei];have hi0:i < acc.length:=by rw [ei]; exact ob _ (ar hg)
   have ql:=Yh.ok.len;have hi:i < qs.length:=by lia
   have P6:A5 (upd (upd H4 p (.lst (A2 a1 Tr c1))) O (.lst ((os.eraseIdx g).map fun (i:Nat)=>V.int (i:Int)))) p:=(A5.set a1 Tr c1).other nOp;have k6:AA p H (upd (upd H4 p (.lst (A2 a1 Tr c1))) O (.lst ((os.eraseIdx g).map fun (i:Nat)=>V.int (i:Int)))):=fun b o hb e=>by rw [Ae (Ah e hOH),Ae hb]; exact k4 b o hb e
   have tk:∀ b ys,H4 b=some (.tup ys)->(upd (upd H4 p (.lst (A2 a1 Tr c1))) O (.lst ((os.eraseIdx g).map fun (i:Nat)=>V.int (i:Int)))) b=some (.tup ys):=fun b ys e=>by
    rw [Ae (by intro z; subst z; rw [Wg] at e; cases e),Ae (by intro z; subst z; obtain ⟨_,_,_,z⟩:=P4; rw [z] at e; cases e)];exact e
   have YJ:C0 (upd (upd H4 p (.lst (A2 a1 Tr c1))) O (.lst ((os.eraseIdx g).map fun (i:Nat)=>V.int (i:Int)))) A0 xs ws:=by
    obtain ⟨M,cc,⟨kvs,a,b,e⟩,r⟩:=X4;refine ⟨M,cc,⟨kvs,?_,b,e⟩,r⟩;rw [Ae (by intro z; subst z; rw [Wg] at a; cases a),Ae (by intro z; subst z; obtain ⟨_,_,_,z⟩:=P4; rw [z] at a; cases a)];exact a
   have hO6:(upd (upd H4 p (.lst (A2 a1 Tr c1))) O (.lst ((os.eraseIdx g).map fun (i:Nat)=>V.int (i:Int)))) O=some (.lst ((os.eraseIdx g).map fun (i:Nat)=>V.int (i:Int))):=Ab;have cp6:=Yh.keepT tk;generalize upd (upd H4 p (.lst (A2 a1 Tr c1))) O (.lst ((os.eraseIdx g).map fun (i:Nat)=>V.int (i:Int)))=H6 at P6 k6 YJ hO6 cp6 ⊢;have ol6:(os.eraseIdx g).length + (j + 1)=acc.length:=by rw [bT,if_pos hg]; lia
   have ob6:∀ o ∈ os.eraseIdx g,o < acc.length:=fun o ho=>ob o (List.mem_of_mem_eraseIdx ho)
   refine ⟨_,rfl,_,rfl,_,rfl,_,rfl,_,rfl,c,m,T,A0,n,xs,ws,Aw,Au,qs,x,d,lv,i,rfl,cp6,YJ,YI,YH,hi,fun H7 T7 pr s7 pr0 Y9 st7 cp7=>⟨_,rfl,?_⟩⟩;have P7:=P6.same s7;have k7:=k6.trans (AA.of_same s7);have kn7:=YJ.same s7;have hO7:=s7 _ _ hO6;refine ⟨_,rfl,p,3,rfl,P7,by decide,DM (by decide),fun e2 a2 b2 c2 e20 e21=>⟨rfl,_,rfl,?_⟩⟩;have P8:A5 (upd H7 p (.lst (A2 a2 b2 c2))) p:=A5.set _ _ _;have W5:AA p H7 (upd H7 p (.lst (A2 a2 b2 c2))):=AA.upd;generalize upd H7 p (.lst (A2 a2 b2 c2))=H8 at P8 W5 ⊢;have k8:=k7.trans W5;have Zo:=cp7.keepT (JA P7 W5);have kn8:=kn7.keep P7 W5;have hO8:=W5 _ _ nOp hO7;refine DT (fun _=>?_) (fun _=>?_)
   ·obtain ⟨us,ht,du⟩:=Zo.ex;have ul:=AJ du;have pl:=Rf (p:=pr) hi;have EL:i < us.length:=by lia
    obtain ⟨q,tt,eq,Wl,htt⟩:=Bv du (Zt EL);have en:=KY eq;rw [Ox hi] at en;subst en;have VG:Gn us (i:Int)=some (.ref tt):=by rw [Cw (Zt EL),Wl]
    refine ⟨_,rfl,_,rfl,_,rfl,T7,_,_,_,rfl,rfl,A4.of ht,VG,tt,_,_,_,rfl,rfl,A4.of htt,rfl,_,_,rfl,rfl,p,pr + 1,rfl,P8,by lia,Vn Y9,fun e3 a3 b3 c3 e30 e31=>?_⟩;have P9:A5 (upd H8 p (.lst (A2 a3 b3 c3))) p:=A5.set _ _ _;have Ta:AA p H8 (upd H8 p (.lst (A2 a3 b3 c3))):=AA.upd;generalize upd H8 p (.lst (A2 a3 b3 c3))=H9 at P9 Ta ⊢;have t9:=JA P8 Ta;have YR:=t9 _ _ ht;have YQ:=t9 _ _ htt;refine ⟨_,rfl,_,rfl,_,rfl,S4 YR EL fun Z1a U1 UM Xf=>?_⟩;refine ⟨_,rfl,_,rfl,T7,_,_,_,rfl,rfl,A4.of (UM _ _ YR),VG,tt,_,_,_,rfl,rfl,A4.of (UM _ _ YQ),rfl,_,rfl,(by show 2<=sizeLine; lia),fun T hTa=>⟨(by show 1<=sizeLine; lia),fun Ya hYa=>?_⟩⟩;have UW:=Ac (o:=.tup [.str (PF qs i).1,.int e3]) hTa;have hTTa:(upd U1 T (.tup [.str (PF qs i).1,.int e3])) T=some (.tup [.str (PF qs i).1,.int e3]):=Ab;generalize upd U1 T (.tup [.str (PF qs i).1,.int e3])=Xm at UW hTTa hYa ⊢;have Po:=Ac (o:=.tup [.ref T]) hYa;have hYYa:(upd Xm Ya (.tup [.ref T])) Ya=some (.tup [.ref T]):=Ab;generalize upd Xm Ya (.tup [.ref T])=H3a at Po hYYa ⊢;refine EC (K:=K) (Po _ _ (UW _ _ Xf)) hYYa (by rw [ZE]; show _ + 1<=sizeLine; lia) fun Z2a H4a UK Xd=>?_
    have sAa:=UM.trans (UW.trans (Po.trans UK));exists _,rfl,_,rfl,_,_,rfl,rfl,_,rfl;dsimp only [C4];refine S5 (K:=K) (sAa _ _ YR) EL fun Z3a H5a TL Xc=>?_
    refine EC (K:=K) (TL _ _ Xd) Xc (by rw [Zy,ZE,ZU]; show _ + 1 + _<=sizeLine; lia) fun Za VN Wt Xb=>?_
    have sBa:=TL.trans Wt;have salla:=sAa.trans sBa;have Vy:=sBa _ _ (UK _ _ (Po _ _ hTTa));have cpF:CP VN c m Za n xs ws Aw Au (BV (BV qs i pr) i e3) x d:=((Zo.keepT t9).same salla).put (AW du fun b ys z=>salla _ _ (t9 _ _ z)) (by lia) e30 (by rw [Ox hi]; exact Vy) Xb;exact ⟨_,_,_,_,Za,_,os.eraseIdx g,rfl,P9.same salla,(k8.trans Ta).trans (AA.of_same salla),cpF,(kn8.keep P8 Ta).same salla,⟨by rw [IK hi]; exact st7 MJ e3 (by lia),by rw [IK hi]; exact Ot Yi (bC (by lia) Y9)⟩,salla _ _ (Ta _ _ nOp hO8),ol6,ob6⟩
   ·exact ⟨_,_,_,_,T7,_,os.eraseIdx g,rfl,P8,k8,Zo,kn8,⟨st7 MJ pr (az _),Ot Yi Y9⟩,hO8,ol6,ob6⟩
  ·rintro σ H4 ⟨v6,v7,v8,v9,T,qs,os,rfl,P4,k4,Yh,X4,⟨MJ,Yi⟩,Wg,ol,ob⟩;exact ⟨_,rfl,k H4 T qs P4 k4 Yh MJ Yi⟩
end
section
variable {P:Program} {w:World} {K:Zw} {mg:Str->Option Value} {base:Heap}
theorem Hu (h_bool:mg "bool"=none) (h_int:mg "int"=none) (h_isinstance:mg "isinstance"=none) {f:Addr} {fd:FuncData} (F:DQ K "is_whole" "is_whole" Ey f fd):A7 P w K mg base Bw 1 f fd ["thing"] (LJ K):=by
 refine F.ok Hj (fun vs H Q E h=>?_) (fun cdv A outer s H vs Q E hr h=>?_)
 ·obtain ⟨v,b,rfl,_⟩:=h;rfl
 ·obtain ⟨v,b,rfl,hb,k⟩:=h;have nd:=Hj.nd;have big:100000 < sizeLine:=by decide
  exists _,(Ak (A8 (C1 (Al BQ (by rfl) h_isinstance PyProof.Rows.boot_isinstance (Aa (pv 0) (Aa (E4 (v:=.ty "int") (by rfl) h_int PyProof.Rows.boot_int rfl) Ad))) (Dv (Vd (Al BQ (by rfl) h_isinstance PyProof.Rows.boot_isinstance (Aa (pv 0) (Aa (E4 (v:=.ty "bool") (by rfl) h_bool PyProof.Rows.boot_bool rfl) Ad))))))))
  rcases hb with ⟨n,rfl,rfl⟩ | ⟨rfl,⟨c,rfl⟩ | ⟨ty,t1,t2⟩⟩
  ·exists _,rfl,_,"int",_,_,rfl,.int _,rfl,_,rfl;refine CK ?_;exact ⟨_,rfl,_,"bool",_,_,rfl,.int _,rfl,_,rfl,k⟩
  ·exists _,rfl,_,"int",_,_,rfl,.bl _,rfl,_,rfl;refine CK ?_;exact ⟨_,rfl,_,"bool",_,_,rfl,.bl _,rfl,_,rfl,k⟩
  ·exists _,rfl,_,"int",_,_,rfl,t1,t2,_,rfl;refine BO ?_;exact k
theorem Eh  {fW:Addr} {fdW:FuncData} (XW:Fn K mg "is_whole" Ey ["thing"] fW fdW) (GW:A7 P w K mg base Bw 1 fW fdW ["thing"] (LJ K)) {f:Addr} {fd:FuncData} (F:DQ K "is_whole_from" "is_whole_from" BI f fd):A7 P w K mg base Bw 2 f fd ["thing","least"] (Gq K):=by
 refine F.ok Ec (fun vs H Q E h=>?_) (fun cdv A outer s H vs Q E hr h=>?_)
 ·obtain ⟨v,l,b,rfl,_⟩:=h;rfl
 ·obtain ⟨v,l,b,rfl,hb,k⟩:=h;have nd:=Ec.nd;have big:100000 < sizeLine:=by decide
  exists _,(Ak (A8 (C1 (Aj GW (hr.mono (by decide)) (by rfl) XW.mg XW.F.kp XW.b .nil Az (Aa (pv 0) Ad)) (Dv (C7 TY (pv 0) (pv 1) (B5 _))))))
  rcases hb with ⟨n,rfl,rfl⟩ | ⟨rfl,hb⟩
  ·exists _,rfl,.int n,true,rfl,.inl ⟨n,rfl,rfl⟩,_,rfl;refine CK ?_;exact ⟨_,rfl,_,rfl,_,_,rfl,rfl,k⟩
  ·exists _,rfl,v,false,rfl,.inr ⟨rfl,hb⟩,_,rfl;refine BO ?_;exact k
theorem Gb (h_isinstance:mg "isinstance"=none) (h_len:mg "len"=none) (h_tuple:mg "tuple"=none) {fI:Addr} {fdI:FuncData} (XI:Fn K mg "is_name" Di ["thing"] fI fdI) (GI:A7 P w K mg base Bw 1 fI fdI ["thing"] (K7 K)) {f:Addr} {fd:FuncData} (F:DQ K "is_row_of" "is_row_of" DH f fd):A7 P w K mg base Bw 2 f fd ["row","place"] (QK K):=by
 refine F.ok FU (fun vs H Q E h=>?_) (fun cdv A outer s H vs Q E hr h=>?_)
 ·obtain ⟨v,y,b,rfl,_⟩:=h;rfl
 ·obtain ⟨v,y,b,rfl,hb,k⟩:=h;have nd:=FU.nd;have big:100000 < sizeLine:=by decide
  exists _,(Ak (A8 (C1 (Al BQ (by rfl) h_isinstance PyProof.Rows.boot_isinstance (Aa (pv 0) (Aa (E4 (v:=.ty "tuple") (by rfl) h_tuple PyProof.Rows.boot_tuple rfl) Ad))) (C1 (C7 Hs (Al AE (by rfl) h_len PySem.boot_len (Aa (pv 0) Ad)) Af (B5 _)) (C1 (Aj GI (hr.mono (by decide)) (by rfl) XI.mg XI.F.kp XI.b .nil Az (Aa (AD FC (pv 0) Af (fun _ _=>rfl)) Ad)) (Dv (C7 Hs (AD FC (pv 0) Af (fun _ _=>rfl)) (pv 1) (B5 _))))))))
  rcases hb with ⟨rfl,ty,t1,t2⟩ | ⟨t,us,rfl,ht,hb⟩
  ·exists _,rfl,_,"tuple",_,_,rfl,t1,t2,_,rfl;refine BO ?_;exact k _ (Ao.refl _)
  ·exists _,rfl,_,"tuple",_,_,rfl,.tup ht,rfl,_,rfl;refine CK ?_;exists _,rfl,t,_,rfl,.inr (A4.of ht),rfl,_,rfl;rcases hb with ⟨hl,rfl⟩ | ⟨a,p,rfl,hb⟩
   ·have e:decide (V.int (us.length:Int)=V.int 2)=false:=decide_eq_false fun z=>hl (by injection z with z; lia)
    rw [e];refine BO ?_;exact k _ (Ao.refl _)
   ·refine CK ?_;rcases hb with ⟨nS,rfl⟩ | ⟨s1,rfl,l1,rfl⟩
    ·refine ⟨_,rfl,t,_,_,_,rfl,rfl,A4.of ht,rfl,_,rfl,.inr ⟨nS,⟨_,rfl,?_⟩⟩⟩;refine BO ?_;exact k _ (Ao.refl _)
    ·refine ⟨_,rfl,t,_,_,_,rfl,rfl,A4.of ht,rfl,_,rfl,.inl ⟨s1,rfl,l1,fun H1 q1=>⟨_,rfl,?_⟩⟩⟩;cases hn:AL s1 with
     | false=>
      rw [hn] at k;refine BO ?_;exact k _ q1
     | true=>
      rw [hn] at k;refine CK ?_;exists _,rfl,t,_,_,_,rfl,rfl,A4.of (q1 _ _ ht),rfl,_,rfl,rfl;have e:decide (V.str s1=V.str y)=(true && decide (s1=y)):=by
       by_cases z:s1=y
       ·subst z; simp
       ·rw [decide_eq_false z,decide_eq_false fun e=>z (by injection e)]; rfl
      rw [e];exact k _ q1
theorem Hv (h_all:mg "all"=none) (h_isinstance:mg "isinstance"=none) (h_len:mg "len"=none) (h_tuple:mg "tuple"=none) (h_zip:mg "zip"=none) {fR:Addr} {fdR:FuncData} (XR:Fn K mg "is_row_of" DH ["row","place"] fR fdR) (GR:A7 P w K mg base Bw 2 fR fdR ["row","place"] (QK K)) {f:Addr} {fd:FuncData} (F:DQ K "are_rows" "are_rows" Ez f fd):A7 P w K mg base Bw 3 f fd ["thing","places"] (Oc K):=by
 refine F.ok Ho (fun vs H Q E h=>?_) (fun cdv A outer s H vs Q E hr h=>?_)
 ·obtain ⟨v,L,ys,b,rfl,_⟩:=h;rfl
 ·obtain ⟨v,L,ys,b,rfl,hL,l100,hb,k⟩:=h;have nd:=Ho.nd;have big:100000 < sizeLine:=by decide
  refine ⟨_,(Ag (C9 (Ki (EU (Gu (Al BQ (by rfl) h_isinstance PyProof.Rows.boot_isinstance (Aa (pv 0) (Aa (E4 (v:=.ty "tuple") (by rfl) h_tuple PyProof.Rows.boot_tuple rfl) Ad))))) (Gs (BN Rt (Al AE (by rfl) h_len PySem.boot_len (Aa (pv 0) Ad)) (Al AE (by rfl) h_len PySem.boot_len (Aa (pv 1) Ad)) (B5 _)))).pt
  (Ak (A8 DL))
  B3)
  (Ak (A8 (Al (BR rfl) (by rfl) h_all PyProof.Rows.boot_all (Aa (Bb (N:=["row","place"]) (σ0:=fun _=>[none,none]) rfl (AI.plain (by decide +kernel) (by decide +kernel) rfl (by decide +kernel)) (fun σ _=>Bd.none _ _ _ ["row","place"] σ) (SG false (by rfl) h_zip (Aa (pv 0) (Aa (pv 1) Ad)))
   (fun s2 H C fp=>⟨(Ba K rfl (n:=2) rfl (Am (Ai (i:=0) (show (["row","place"]:List Str).Nodup by decide +kernel) rfl (Or.inl rfl)) (Am (Ai (i:=1) (show (["row","place"]:List Str).Nodup by decide +kernel) rfl (Or.inl rfl)) AZ))),AK,(Aj GR (hr.mono (by decide)) (by rfl) XR.mg XR.F.kp XR.b .nil Az (Aa (pv 0) (Aa (pv 1) Ad)))⟩)) Ad))))),?_⟩
  rcases hb with ⟨rfl,ty,t1,t2⟩ | ⟨t,us,rfl,ht,hb⟩
  ·exists _,rfl,_,"tuple",_,_,rfl,t1,t2,_,rfl;exact k _ (Ao.refl _)
  ·exists _,rfl,_,"tuple",_,_,rfl,.tup ht,rfl,_,rfl;refine BO ?_;exists _,rfl,t,_,rfl,.inr (A4.of ht),_,rfl,L,_,rfl,.inl (AX.of hL),rfl,_,rfl;rcases hb with ⟨hl,rfl⟩ | ⟨hl,bs,bl,rfl,hrw⟩
   ·have el:(!decide (V.int (us.length:Int)=V.int ((ys.map V.str).length:Int)))=true:=by
     rw [Zv,decide_eq_false fun z=>hl (by injection z with z; lia)];rfl
    rw [el];refine CK ?_;exact k _ (Ao.refl _)
   ·have el:(!decide (V.int (us.length:Int)=V.int ((ys.map V.str).length:Int)))=false:=by rw [Zv,hl]; simp
    rw [el];refine BO ?_;exists _,rfl,_,rfl,t,L,rfl,⟨_,A4.of ht⟩,⟨_,AX.of hL⟩
    refine Pm (bb:=false) (xs:=us) (ys:=ys.map V.str) (by rw [Zv]; exact hl) (fun D i Ay H' acc=>∃ v0 v1:Option V,Ay=[v0,v1]/\Ao H H'/\H' D=some (.lst acc)/\acc=(bs.take i).map V.bl/\acc.length=i)
     (by lia) (fun D hD=>⟨_,_,rfl,Ac hD,Ab,rfl,rfl⟩) (fun D i Ay H' acc hD ⟨v0,v1,_,sa,Bj,_,al⟩=>⟨A4.of (sa _ _ ht),AX.of (sa _ _ hL),Bj,al⟩) ?_ ?_
    ·rintro D i Ay H' acc x' y' T B hD ex ey hT ⟨v0,v1,rfl,sa,Bj,ea,al⟩ hB;have il:i < us.length:=(Z2.mp ex).1;have ec:bs[i]? = some (bs[i]'(by lia)):=Zt (by lia);have ey':ys[i]? = some (ys[i]'(by lia)):=Zt (by lia);rw [Z0,ey'] at ey;cases ey
     have q1:=Ac (o:=.tup [x',.str (ys[i]'(by lia))]) hT;have Ul:(upd H' T (.tup [x',.str (ys[i]'(by lia))])) T=some (.tup [x',.str (ys[i]'(by lia))]):=Ab;exists T,_,rfl,A4.of Ul,rfl,_,_,rfl,_,_,rfl,rfl;refine ⟨_,rfl,_,rfl,x',ys[i]'(by lia),bs[i]'(by lia),rfl,((hrw i _ _ _ ex ey' ec).same sa).same q1,fun H5 s5=>?_⟩;have q5:=q1.trans s5;refine hB _ _ _ (q5 _ _ Bj) ⟨_,_,rfl,fun b o e=>by rw [Ae (Ah e hD)]; exact q5 _ _ (sa _ _ e),Ab,?_,by rw [Zy,al]; rfl⟩;rw [ea,ZL,ec,Z7];rfl
    ·rintro D Ay H' acc hD ⟨v0,v1,rfl,sa,Bj,ea,al⟩;rw [<-bl,ZN] at ea;exact ⟨D,_,rfl,AX.of (by rw [Bj,ea]),k _ sa⟩
theorem Ei  {fA:Addr} {fdA:FuncData} (XA:Fn K mg "are_rows" Ez ["thing","places"] fA fdA) (GA:A7 P w K mg base Bw 3 fA fdA ["thing","places"] (Oc K)) {f:Addr} {fd:FuncData} (F:DQ K "are_folk_rows" "are_folk_rows" BJ f fd):A7 P w K mg base Bw 4 f fd ["case","thing"] (K8 K):=by
 refine F.ok Ee (fun vs H Q E h=>?_) (fun cdv A outer s H vs Q E hr h=>?_)
 ·obtain ⟨c,m,n,xs,ws,Aw,Au,x,d,v,b,rfl,_⟩:=h;rfl
 ·obtain ⟨c,m,n,xs,ws,Aw,Au,x,d,v,b,rfl,cw,hb,k⟩:=h;have nd:=Ee.nd;have big:100000 < sizeLine:=by decide
  refine ⟨_,(Ak (A8 (Aj GA (hr.mono (by decide)) (by rfl) XA.mg XA.F.kp XA.b .nil Az (Aa (pv 1) (Aa (Bb (N:=["place","many"]) (σ0:=fun _=>[none,none]) rfl (AI.plain (by decide +kernel) (by decide +kernel) rfl (by decide +kernel)) (fun σ _=>Bd.none _ _ _ ["place","many"] σ) (Gv (AD FC (pv 0) Af (fun _ _=>rfl)))
   (fun s2 H C fp=>⟨(Ba K rfl (n:=2) rfl (Am (Ai (i:=0) (show (["place","many"]:List Str).Nodup by decide +kernel) rfl (Or.inl rfl)) (Am (Ai (i:=1) (show (["place","many"]:List Str).Nodup by decide +kernel) rfl (Or.inl rfl)) AZ))),AK,(pv 0)⟩)) Ad))))),?_⟩
  obtain ⟨t1,t2,FN,HY,hc,Jg,J4,F6,hd2⟩:=cw.ex;have ul:=AJ hd2;have l2:=cw.l2;exists _,rfl,_,rfl,c,_,_,_,rfl,rfl,A4.of hc,rfl,t2,rfl,⟨_,A4.of F6⟩
  refine AQ BD (xs:=HY) (fun D i Ay H' acc=>∃ v0 v1:Option V,Ay=[v0,v1]/\Ao H H'/\H' D=some (.lst acc)/\acc=((Au.map (·.1)).take i).map V.str/\acc.length=i)
   (by lia) (fun D hD=>⟨_,_,rfl,Ac hD,Ab,rfl,rfl⟩) (fun D i Ay H' acc hD ⟨v0,v1,_,sa,Bj,_,al⟩=>⟨A4.of (sa _ _ F6),Bj,al⟩) ?_ ?_
  ·rintro D i Ay H' acc x' B hD ex ⟨v0,v1,rfl,sa,Bj,ea,al⟩ hB;obtain ⟨q,tt,eq,rfl,htt⟩:=Bv hd2 ex;exists tt,_,rfl,A4.of (sa _ _ htt),rfl,_,_,rfl,_,_,rfl,rfl;refine ⟨_,rfl,hB _ _ _ Bj ⟨_,_,rfl,fun b o e=>by rw [Ae (Ah e hD)]; exact sa _ _ e,Ab,?_,by rw [Zy,al]; rfl⟩⟩;rw [ea,ZL,Z0,eq,Z7];rfl
  ·rintro D Ay H' acc hD ⟨v0,v1,rfl,sa,Bj,ea,al⟩;refine ⟨v,D,Au.map (·.1),b,rfl,?_,by rw [Zv]; lia,hb.same sa,fun H2 s2=>k _ (sa.trans s2)⟩;have e:HY.length=(Au.map (·.1)).length:=by rw [Zv]; exact ul
   rw [Bj,ea,e,ZN]
theorem JI (h_all:mg "all"=none) {fO:Addr} {fdO:FuncData} (XO:Fn K mg "are_folk_rows" BJ ["case","thing"] fO fdO) (GO:A7 P w K mg base Bw 4 fO fdO ["case","thing"] (K8 K)) {fF:Addr} {fdF:FuncData} (XF:Fn K mg "is_whole_from" BI ["thing","least"] fF fdF) (GF:A7 P w K mg base Bw 2 fF fdF ["thing","least"] (Gq K)) {f:Addr} {fd:FuncData} (F:DQ K "are_prices" "are_prices" CY f fd):A7 P w K mg base Bw 5 f fd ["case","thing"] (TF K):=by
 refine F.ok F3 (fun vs H Q E h=>?_) (fun cdv A outer s H vs Q E hr h=>?_)
 ·obtain ⟨c,m,n,xs,ws,Aw,Au,x,d,v,b,rfl,_⟩:=h;rfl
 ·obtain ⟨c,m,n,xs,ws,Aw,Au,x,d,v,b,rfl,cw,hb,k⟩:=h;have nd:=F3.nd;have big:100000 < sizeLine:=by decide
  refine ⟨_,(Ak (A8 (C1 (Aj GO (hr.mono (by decide)) (by rfl) XO.mg XO.F.kp XO.b .nil Az (Aa (pv 0) (Aa (pv 1) Ad))) (Dv (Al (BR rfl) (by rfl) h_all PyProof.Rows.boot_all (Aa (Bb (N:=["place","price"]) (σ0:=fun _=>[none,none]) rfl (AI.plain (by decide +kernel) (by decide +kernel) rfl (by decide +kernel)) (fun σ _=>Bd.none _ _ _ ["place","price"] σ) (Gv (pv 1))
   (fun s2 H C fp=>⟨(Ba K rfl (n:=2) rfl (Am (Ai (i:=0) (show (["place","price"]:List Str).Nodup by decide +kernel) rfl (Or.inl rfl)) (Am (Ai (i:=1) (show (["place","price"]:List Str).Nodup by decide +kernel) rfl (Or.inl rfl)) AZ))),AK,(Aj GF (hr.mono (by decide)) (by rfl) XF.mg XF.F.kp XF.b .nil Az (Aa (pv 1) (Aa Af Ad)))⟩)) Ad)))))),?_⟩
  rcases hb with ⟨rfl,hb⟩ | ⟨t,us,rfl,ht,hl,bs,bl,rfl,hrw⟩
  ·refine ⟨_,rfl,_,rfl,c,m,n,xs,ws,Aw,Au,x,d,v,false,rfl,cw,hb,fun H1 s1=>⟨_,rfl,?_⟩⟩;refine BO ?_;exact k _ s1
  ·have l2:=cw.l2;rw [Zv] at hl;have rows:CL K H (.ref t) (Au.map (·.1)) true:=.inr ⟨t,us,rfl,ht,.inr ⟨by rw [Zv]; exact hl,us.map fun _=>true,by rw [Zv],by rw [aF]; exact (ZZ.mpr fun _ _=>rfl).symm,fun i u y c' a1 a2 a3=>by
    have il:i < us.length:=(Z2.mp a1).1;obtain ⟨tt,p,rfl,htt,_⟩:=hrw i u y (bs[i]'(by lia)) a1 a2 (Zt (by lia));rw [Z0,a1] at a3;cases a3
    rw [Z0] at a2;cases er:Au[i]? with
    | none=>rw [er] at a2; cases a2
    | some r=>
     rw [er] at a2;cases a2
     exact Ep.right (cw.map.at'.nm _ (cw.ok2.sub r (Zx er))) htt⟩⟩
   refine ⟨_,rfl,_,rfl,c,m,n,xs,ws,Aw,Au,x,d,.ref t,true,rfl,cw,rows,fun H1 s1=>⟨_,rfl,?_⟩⟩;refine CK ?_;exists _,rfl,t,rfl,⟨_,A4.of (s1 _ _ ht)⟩
   refine AQ BD (xs:=us) (fun D i Ay H' acc=>∃ v0 v1:Option V,Ay=[v0,v1]/\Ao H1 H'/\H' D=some (.lst acc)/\acc=(bs.take i).map V.bl/\acc.length=i)
    (by lia) (fun D hD=>⟨_,_,rfl,Ac hD,Ab,rfl,rfl⟩) (fun D i Ay H' acc hD ⟨v0,v1,_,sa,Bj,_,al⟩=>⟨A4.of (sa _ _ (s1 _ _ ht)),Bj,al⟩) ?_ ?_
   ·rintro D i Ay H' acc x' B hD ex ⟨v0,v1,rfl,sa,Bj,ea,al⟩ hB;have il:i < us.length:=(Z2.mp ex).1;have ec:bs[i]? = some (bs[i]'(by lia)):=Zt (by lia);obtain ⟨tt,p,rfl,htt,np⟩:=hrw i x' ((Au[i]'(by lia)).1) (bs[i]'(by lia)) ex (by rw [Z0,Zt (by lia)]; rfl) ec;exists tt,_,rfl,A4.of (sa _ _ (s1 _ _ htt)),rfl,_,_,rfl,_,_,rfl,rfl;refine ⟨_,rfl,p,0,bs[i]'(by lia),rfl,(np.same s1).same sa,hB _ _ _ Bj ⟨_,_,rfl,fun b o e=>by rw [Ae (Ah e hD)]; exact sa _ _ e,Ab,?_,by rw [Zy,al]; rfl⟩⟩;rw [ea,ZL,ec,Z7];rfl
   ·rintro D Ay H' acc hD ⟨v0,v1,rfl,sa,Bj,ea,al⟩;rw [<-bl,ZN] at ea;exact ⟨D,_,rfl,AX.of (by rw [Bj,ea]),k _ (s1.trans sa)⟩
theorem Nr  {fF:Addr} {fdF:FuncData} (XF:Fn K mg "is_whole_from" BI ["thing","least"] fF fdF) (GF:A7 P w K mg base Bw 2 fF fdF ["thing","least"] (Gq K)) {f:Addr} {fd:FuncData} (F:DQ K "is_levy" "is_levy" Fq f fd):A7 P w K mg base Bw 3 f fd ["case","thing"] (Oe K):=by
 refine F.ok II (fun vs H Q E h=>?_) (fun cdv A outer s H vs Q E hr h=>?_)
 ·obtain ⟨c,m,n,xs,ws,Aw,Au,x,d,v,b,rfl,_⟩:=h;rfl
 ·obtain ⟨c,m,n,xs,ws,Aw,Au,x,d,v,b,rfl,cw,hb,k⟩:=h;have nd:=II.nd;have big:100000 < sizeLine:=by decide
  exists _,(Ak (A8 (C1 (Aj GF (hr.mono (by decide)) (by rfl) XF.mg XF.F.kp XF.b .nil Az (Aa (pv 1) (Aa Af Ad))) (Dv (pe_or (KO (Ih (AD FC (pv 0) Af (fun _ _=>rfl)))) (Dv (C7 Hs (pv 1) Af (B5 _))))))))
  obtain ⟨t1,t2,FN,HY,hc,Jg,J4,F6,hd2⟩:=cw.ex;rcases hb with ⟨rfl,hb⟩ | ⟨lv,rfl,l0,rfl⟩
  ·exists _,rfl,v,0,false,rfl,hb,_,rfl;refine BO ?_;exact k
  ·exists _,rfl,.int lv,0,true,rfl,.inl ⟨lv,rfl,(decide_eq_true l0).symm⟩,_,rfl;refine CK ?_;exists _,rfl,c,_,_,_,rfl,rfl,A4.of hc,rfl,_,rfl;rcases cw.lim with ⟨rfl,_⟩ | ⟨j,rfl,_⟩
   ·refine BO ?_;exists _,rfl,rfl;have e:decide (V.int lv=V.int 0)=(!decide (V.non=V.non) || decide (lv=0)):=by
     rw [decide_eq_true (rfl:V.non=V.non)];by_cases z:lv=0
     ·subst z; simp
     ·rw [decide_eq_false z,decide_eq_false fun e=>z (by injection e)]; rfl
    rw [e];exact k
   ·refine CK ?_;have e:(!decide (V.int j=V.non) || decide (lv=0))=true:=by
     have ne:¬ V.int j=V.non:=by intro e; cases e
     rw [decide_eq_false ne];rfl
    rw [e] at k;exact k
theorem Ru  {fP:Addr} {fdP:FuncData} (XP:Fn K mg "are_prices" CY ["case","thing"] fP fdP) (GP:A7 P w K mg base Bw 5 fP fdP ["case","thing"] (TF K)) {fL:Addr} {fdL:FuncData} (XL:Fn K mg "is_levy" Fq ["case","thing"] fL fdL) (GL:A7 P w K mg base Bw 3 fL fdL ["case","thing"] (Oe K)) {fSF:Addr} {fdSF:FuncData} (XSF:Fn K mg "site_fars" DE ["case"] fSF fdSF) (GSF:A7 P w K mg base Bw 4 fSF fdSF ["case"] IA) {fB:Addr} {fdB:FuncData} (XB:Fn K mg "stand_by" Et ["case","aways","prices","levy"] fB fdB) (GB:A7 P w K mg base Bw 2 fB fdB ["case","aways","prices","levy"] JY) {f:Addr} {fd:FuncData} (F:DQ K "stand" "stand" Ia f fd):A7 P w K mg base Bw 6 f fd ["case","prices","levy"] (LK K):=by
 refine F.ok LU (fun vs H Q E h=>?_) (fun cdv A outer s H vs Q E hr h=>?_)
 ·obtain ⟨c,m,n,xs,ws,Aw,Au,x,d,v,l,rfl,_⟩:=h;rfl
 ·obtain ⟨c,m,n,xs,ws,Aw,Au,x,d,v,l,rfl,cw,k⟩:=h;have nd:=LU.nd;have big:100000 < sizeLine:=by decide
  refine ⟨_,(Ag (C9 (Ki (EU (Gu (Aj GP (hr.mono (by decide)) (by rfl) XP.mg XP.F.kp XP.b .nil Az (Aa (pv 0) (Aa (pv 1) Ad))))) (Gs (EU (Gu (Aj GL (hr.mono (by decide)) (by rfl) XL.mg XL.F.kp XL.b .nil Az (Aa (pv 0) (Aa (pv 2) Ad))))))).pt
  (Ak (A8 DL))
  B3)
  (Ak (A8 (Aj GB (hr.mono (by decide)) (by rfl) XB.mg XB.F.kp XB.b .nil Az (Aa (pv 0) (Aa (Aj GSF (hr.mono (by decide)) (by rfl) XSF.mg XSF.F.kp XSF.b .nil Az (Aa (pv 0) Ad)) (Aa (pv 1) (Aa (pv 2) Ad)))))))),?_⟩
  rcases k with ⟨hb,k⟩ | ⟨t,qs,rfl,cp,k⟩
  ·refine ⟨_,rfl,_,rfl,c,m,n,xs,ws,Aw,Au,x,d,v,false,rfl,cw,hb,fun H1 s1=>⟨_,rfl,?_⟩⟩;exact k _ s1
  ·refine ⟨_,rfl,_,rfl,c,m,n,xs,ws,Aw,Au,x,d,.ref t,true,rfl,cw,cp.prices,fun H1 s1=>⟨_,rfl,?_⟩⟩;refine BO ?_;rcases k with ⟨hb,k⟩ | ⟨lv,rfl,hb,k⟩
   ·exists _,rfl,_,rfl,c,m,n,xs,ws,Aw,Au,x,d,l,false,rfl,cw.same s1,hb.same s1,_,rfl;exact k _ s1
   ·exists _,rfl,_,rfl,c,m,n,xs,ws,Aw,Au,x,d,.int lv,true,rfl,cw.same s1,hb.same s1,_,rfl;refine BO ?_;refine ⟨_,rfl,_,rfl,c,m,n,xs,ws,Aw,Au,x,d,rfl,cw.same s1,fun H2 D nv s2 hD Bj ks fs=>?_⟩;have J3:=s1.trans s2;exact ⟨_,rfl,_,rfl,c,m,t,D,n,xs,ws,Aw,Au,qs,x,d,lv,rfl,cp.same J3,⟨nv,Bj,ks,fs⟩,fun H3 s3=>k _ (J3.trans s3)⟩
end
section
variable {P:Program} {w:World} {K:Zw} {mg:Str->Option Value} {base:Heap}
theorem JH (h_all:mg "all"=none) (h_list:mg "list"=none) (h_sorted:mg "sorted"=none) (h_set:mg "set"=none) {fN:Addr} {fdN:FuncData} (XN:Fn K mg "is_name" Di ["thing"] fN fdN) (GN:A7 P w K mg base Bw 1 fN fdN ["thing"] (K7 K)) {f:Addr} {fd:FuncData} (F:DQ K "are_rising" "are_rising" CW f fd):A7 P w K mg base Bw 2 f fd ["things"] (LL K):=by
 refine F.ok F2 (fun vs H Q E h=>?_) (fun cdv A outer s H vs Q E hr h=>?_)
 ·obtain ⟨t,xs,ds,rfl,_⟩:=h;rfl
 ·obtain ⟨t,xs,ds,rfl,ht,dx,short,few,k⟩:=h;have nd:=F2.nd;have Lg:=hr.units;have big:100000 < sizeLine:=by decide
  refine ⟨_,(Ak (A8 (C1 (Al (BR rfl) (by rfl) h_all PyProof.Rows.boot_all (Aa (Bb (N:=["thing"]) (σ0:=fun _=>[none]) rfl (AI.plain (by decide +kernel) (by decide +kernel) rfl (by decide +kernel)) (fun σ _=>Bd.none _ _ _ ["thing"] σ) (UZ (pv 0))
   (fun s2 H C fp=>⟨Ai (i:=0) (show (["thing"]:List Str).Nodup by decide +kernel) rfl (Or.inl rfl),AK,(Aj GN (hr.mono (by decide)) (by rfl) XN.mg XN.F.kp XN.b .nil Az (Aa (pv 0) Ad))⟩)) Ad))
   (Dv (C7 (Pz Lg) (A3 Cv (by rfl) h_list PyProof.Rows.boot_list (Aa (pv 0) Ad)) (Al (HW rfl) (by rfl) h_sorted PyProof.Rows.boot_sorted (Aa (A3 (ME K rfl rfl) (by rfl) h_set PyProof.Rows.boot_set (Aa (pv 0) Ad)) Ad)) (B5 _)))))),?_⟩
  have seq:∀ H',Ao H H'->AX K H' t xs\/A4 K H' t xs:=fun H' sa=>ht.imp (fun z=>AX.of (sa _ _ z)) (fun z=>A4.of (sa _ _ z))
  have dl:=dx.len;exists _,rfl,t,rfl;rcases ht with ht | ht
  ·refine .inl ⟨⟨_,AX.of ht⟩,AQ BW (xs:=xs) (fun D i σ H' acc=>∃ v0:Option V,σ=[v0]/\Ao H H'/\H' D=some (.lst acc)/\acc=((ds.take i).map Hx).map V.bl/\acc.length=i)
    (by lia) (fun D hD=>⟨_,rfl,Ac hD,Ab,rfl,rfl⟩) (fun D i σ H' acc hD ⟨v0,_,sa,Bj,_,al⟩=>⟨AX.of (sa _ _ ht),Bj,al⟩) ?_ ?_⟩
   ·rintro D i σ H' acc x B hD ex ⟨v0,rfl,sa,Bj,rfl,al⟩ hB;obtain ⟨d,ed,hd⟩:=dx.at ex;have Li:=hd.same sa;have step:∀ H5,Ao H' H5->B [some x] (.bl (Hx d)) H5:=fun H5 s5=>by
     refine hB _ _ _ (s5 _ _ Bj) ⟨_,rfl,fun b o e=>?_,Ab,?_,by rw [Zy,al]; rfl⟩
     ·rw [Ae (Ah e hD)];exact s5 _ _ (sa _ _ e)
     ·rw [ZL,ed,Z7,Z7];rfl
    exists _,rfl,x,rfl;cases d with
    | str y=>
     cases hd
     exact .inl ⟨y,rfl,short y (Zx ed),step⟩
    | _=>exact .inr ⟨Li.notStr (fun s=>by intro z; cases z),step _ (Ao.refl _)⟩
   ·rintro D σ H' acc hD ⟨v0,rfl,sa,Bj,rfl,al⟩;rw [dl,ZN] at Bj;exists D,ds.map Hx,rfl,AX.of Bj,_,rfl;refine DT (fun z=>?_) (fun z=>?_)
    ·obtain ⟨ss,rfl,hn⟩:=Gx z;obtain rfl:=dx.txt;rw [Zv] at few;refine ⟨_,rfl,t,_,rfl,seq _ sa,fun l hl=>?_⟩;have s1:=Ac (o:=.lst (ss.map V.str)) hl;refine ⟨_,rfl,t,ss,rfl,seq _ (sa.trans s1),by lia,fun D2 Ly=>⟨D2,ss,rfl,Ab,by lia,fun l2 Ea HF W0 Nt srt=>?_⟩⟩;have s2:=Ac (o:=setS P w D2 ss) Ly;have s3:=Ac (o:=.lst (Ea.map V.str)) HF;exists _,_,.lst (s3 _ _ (s2 _ _ Ab)) (BE _ ss),.lst Ab (BE _ Ea),by simp only [PyData.canLay0]; exact EY hn,by simp only [PyData.canLay0]; exact EY (fun s hs=>hn s ((Nt s).mp hs)),?_
     ·simp only [PyData.depth,FD];decide
     ·refine k _ _ (sa.trans (s1.trans (s2.trans s3))) ?_;rw [M7];exists fun e=>⟨ss,rfl,hn,(E2 W0 Nt srt).mp (Es e)⟩
      rintro ⟨s5,e5,_,r5⟩;obtain rfl:=Es e5;rw [(E2 W0 Nt srt).mpr r5]
    ·refine k _ _ sa ⟨fun q=>absurd q (by decide),fun ⟨ss,e,hn,_⟩=>?_⟩;rw [e] at z;exact absurd (K0 hn) z
  ·refine .inr ⟨⟨_,A4.of ht⟩,AQ BD (xs:=xs) (fun D i σ H' acc=>∃ v0:Option V,σ=[v0]/\Ao H H'/\H' D=some (.lst acc)/\acc=((ds.take i).map Hx).map V.bl/\acc.length=i)
    (by lia) (fun D hD=>⟨_,rfl,Ac hD,Ab,rfl,rfl⟩) (fun D i σ H' acc hD ⟨v0,_,sa,Bj,_,al⟩=>⟨A4.of (sa _ _ ht),Bj,al⟩) ?_ ?_⟩
   ·rintro D i σ H' acc x B hD ex ⟨v0,rfl,sa,Bj,rfl,al⟩ hB;obtain ⟨d,ed,hd⟩:=dx.at ex;have Li:=hd.same sa;have step:∀ H5,Ao H' H5->B [some x] (.bl (Hx d)) H5:=fun H5 s5=>by
     refine hB _ _ _ (s5 _ _ Bj) ⟨_,rfl,fun b o e=>?_,Ab,?_,by rw [Zy,al]; rfl⟩
     ·rw [Ae (Ah e hD)];exact s5 _ _ (sa _ _ e)
     ·rw [ZL,ed,Z7,Z7];rfl
    exists _,rfl,x,rfl;cases d with
    | str y=>
     cases hd
     exact .inl ⟨y,rfl,short y (Zx ed),step⟩
    | _=>exact .inr ⟨Li.notStr (fun s=>by intro z; cases z),step _ (Ao.refl _)⟩
   ·rintro D σ H' acc hD ⟨v0,rfl,sa,Bj,rfl,al⟩;rw [dl,ZN] at Bj;exists D,ds.map Hx,rfl,AX.of Bj,_,rfl;refine DT (fun z=>?_) (fun z=>?_)
    ·obtain ⟨ss,rfl,hn⟩:=Gx z;obtain rfl:=dx.txt;rw [Zv] at few;refine ⟨_,rfl,t,_,rfl,seq _ sa,fun l hl=>?_⟩;have s1:=Ac (o:=.lst (ss.map V.str)) hl;refine ⟨_,rfl,t,ss,rfl,seq _ (sa.trans s1),by lia,fun D2 Ly=>⟨D2,ss,rfl,Ab,by lia,fun l2 Ea HF W0 Nt srt=>?_⟩⟩;have s2:=Ac (o:=setS P w D2 ss) Ly;have s3:=Ac (o:=.lst (Ea.map V.str)) HF;exists _,_,.lst (s3 _ _ (s2 _ _ Ab)) (BE _ ss),.lst Ab (BE _ Ea),by simp only [PyData.canLay0]; exact EY hn,by simp only [PyData.canLay0]; exact EY (fun s hs=>hn s ((Nt s).mp hs)),?_
     ·simp only [PyData.depth,FD];decide
     ·refine k _ _ (sa.trans (s1.trans (s2.trans s3))) ?_;rw [M7];exists fun e=>⟨ss,rfl,hn,(E2 W0 Nt srt).mp (Es e)⟩
      rintro ⟨s5,e5,_,r5⟩;obtain rfl:=Es e5;rw [(E2 W0 Nt srt).mpr r5]
    ·refine k _ _ sa ⟨fun q=>absurd q (by decide),fun ⟨ss,e,hn,_⟩=>?_⟩;rw [e] at z;exact absurd (K0 hn) z
end
section
variable {P:Program} {w:World} {K:Zw} {mg:Str->Option Value} {base:Heap}
theorem IS (h_len:mg "len"=none) (h_min:mg "min"=none) {f:Addr} {fd:FuncData} (F:DQ K "most_houses" "most_houses" C5 f fd):A7 P w K mg base Bw 1 f fd ["case"] QO:=by
 refine F.ok EO (fun vs H Q E h=>?_) (fun cdv A outer s H vs Q E hr h=>?_)
 ·obtain ⟨c,sites,x,d,rfl,_⟩:=h;rfl
 ·obtain ⟨c,sites,x,d,rfl,cs,k⟩:=h;have nd:=EO.nd;have big:100000 < sizeLine:=by decide
  refine ⟨_,(Ag (Ds (pv 0) (Ba K rfl rfl (Am (Ai (i:=1) nd rfl (Or.inl rfl)) (Am (Ai (i:=2) nd rfl (Or.inl rfl)) (Am (Ai (i:=3) nd rfl (Or.inl rfl)) (Am (Ai (i:=4) nd rfl (Or.inl rfl)) AZ))))))
  (Ak (A8 (Rm (IL (Nl (pv 4))) (Al (BM K rfl) (by rfl) h_len PySem.boot_len (Aa (pv 2) Ad)) (Al (G8 rfl) (by rfl) h_min PyProof.Rows.boot_min (Aa (pv 4) (Aa (Al (BM K rfl) (by rfl) h_len PySem.boot_len (Aa (pv 2) Ad)) Ad))))))),?_⟩
  obtain ⟨mV,t2V,t1,FN,Aw,hc,Jg,J4,rfl,snd,sl,lim⟩:=cs;have ul:=AJ J4;exists _,rfl,c,_,rfl,A4.of hc,rfl,_,_,rfl,_,_,rfl,_,_,rfl,_,_,rfl,rfl;exists _,rfl,_,rfl;rcases lim with ⟨rfl,_⟩ | ⟨lm,rfl,_,lm1,lm2⟩
  ·refine DT (fun _=>?_) (fun z=>by simp at z);exists _,rfl,t1,_,rfl,.inr (A4.of Jg);refine k _ (by lia) fun j hj=>?_
   rw [Zv] at hj;simp only [Nw,iff_true];lia
  ·refine DT (fun z=>by simp at z) (fun _=>?_);exists _,rfl,_,rfl,t1,_,rfl,.inr (A4.of Jg),_,_,rfl;refine k _ (by split <;> lia) fun j hj=>?_
   rw [Zv] at hj;simp only [Nw,decide_eq_true_eq];split <;> lia
end
section
variable {P:Program} {w:World} {K:Zw} {mg:Str->Option Value} {base:Heap}
theorem JG (h_all:mg "all"=none) (h_dict:mg "dict"=none) (h_isinstance:mg "isinstance"=none) (h_len:mg "len"=none) (h_tuple:mg "tuple"=none) {fM fR:Addr} {fdM fdR:FuncData} (XM:Fn K mg "most_houses" C5 ["case"] fM fdM) (GM:A7 P w K mg base Bw 1 fM fdM ["case"] QO) (XR:Fn K mg "are_rising" CW ["things"] fR fdR) (GR:A7 P w K mg base Bw 2 fR fdR ["things"] (LL K)) {f:Addr} {fd:FuncData} (F:DQ K "is_opening" "is_opening" CV f fd):A7 P w K mg base Bw 3 f fd ["case","thing"] (Og K):=by
 refine F.ok F1 (fun vs H Q E h=>?_) (fun cdv A outer s H vs Q E hr h=>?_)
 ·obtain ⟨c,sites,x,d,v,rfl,_⟩:=h;rfl
 ·obtain ⟨c,sites,x,d,v,rfl,cs,k⟩:=h;have nd:=F1.nd;have hu:=CO hr;have big:1000 < sizeLine:=by decide
  refine ⟨_,(Ag (C9 (Ki (EU (Gu (Al BQ (by rfl) h_isinstance PyProof.Rows.boot_isinstance (Aa (pv 1) (Aa (E4 (v:=.ty "tuple") (by rfl) h_tuple PyProof.Rows.boot_tuple rfl) Ad))))) (Gs (EU (Mb Mi Mi Af (Al AE (by rfl) h_len PySem.boot_len (Aa (pv 1) Ad)) (Aj GM (hr.mono (by decide)) (by rfl) XM.mg XM.F.kp XM.b .nil Az (Aa (pv 0) Ad)))))).pt
  (Ak (A8 DL))
  B3)
  (Ag (Ar (i:=2) nd rfl (Or.inr rfl) (A3 (BX rfl) (by rfl) h_dict PyProof.Rows.boot_dict (Aa (AD FC (pv 0) Af (fun _ _=>rfl)) Ad)))
  (Ak (A8 (C1 (Aj GR (hr.mono (by decide)) (by rfl) XR.mg XR.F.kp XR.b .nil Az (Aa (pv 1) Ad)) (Dv (Al (BR rfl) (by rfl) h_all PyProof.Rows.boot_all (Aa (Bb (N:=["place","sites"]) (σ0:=fun σ=>[none,some 2].map fun j=>j.bind fun j=>(σ[j]?).join) rfl (AI.caught (by rfl) (by decide +kernel) rfl (by decide +kernel) (by intro y hy; simp only [Zz,Z3,or_false] at hy; rcases hy with rfl <;> rfl)
   (by intro y hy e; simp only [Zz,Z3,or_false] at hy; rcases hy with rfl | rfl | rfl <;> first | exact ⟨_,rfl⟩ | cases e)) (fun σ _=>Bd.of [none,some 2] rfl (by
   intro i j x h1 h2;match i,h1,h2 with
   | 0,_,h2=>cases h2
   | 1,h1,h2=>cases h1; cases h2; exact ⟨rfl,.inl rfl,.inl rfl⟩
   | n + 2,h1,_=>cases h1)) (Gv (pv 1))
   (fun s2 H C fp=>⟨(Ai (i:=0) (show (["place","sites"]:List Str).Nodup by decide +kernel) rfl (Or.inl rfl)),AK,(KO (Vf hu (pv 0) (pv 1)))⟩)) Ad)))))))),?_⟩
  rcases k with ⟨ds,⟨t,xs,rfl,ht,dx,short,few⟩,k⟩ | ⟨⟨ty,t1,t2⟩,k⟩
  ·exists _,rfl,_,"tuple",_,_,rfl,.tup ht,rfl,_,rfl;refine BO ?_;exists _,rfl,t,_,rfl,.inr (A4.of ht),_,_,rfl,rfl,_,rfl;have dl:=dx.len;refine DT (fun z1=>?_) (fun z1=>?_)
   ·refine ⟨_,rfl,c,sites,x,d,rfl,cs,fun mo mo0 mok=>?_⟩;obtain ⟨mV,t2V,t1,FN,Aw,hc,Jg,J4,rfl,snd,sl,lim⟩:=cs;have ul:=AJ J4;have lens:∀ ss:List Str,DY ss->(∀ s ∈ ss,AL s=true/\s ∈ Aw.map (·.1))->ss.length<=(Aw.map (·.1)).length:=fun ss ri h=>List.Nodup.length_le_of_subset ri.nodup fun s hs=>(h s hs).2
    rw [Zv] at sl;exists _,_,rfl,rfl,_,rfl;refine DT (fun z2=>?_) (fun z2=>?_)
    ·refine k _ _ (Ao.refl _) ⟨fun q=>absurd q (by decide),fun ⟨ss,e,_,ri,mem,lb⟩=>?_⟩;have:=(mok _ (lens ss ri mem)).mpr lb;rw [dl,e,Zv] at z2;simp [this] at z2
    ·have z3:(xs.length:Int)<=mo:=by simpa using z2
     refine ⟨_,rfl,c,_,_,_,rfl,rfl,A4.of hc,rfl,t1,FN,BU Aw,rfl,Jg,by unfold BU; rw [Zv]; exact ul,Ic J4,by rw [Dl]; exact snd,by unfold BU; rw [Zv]; lia,fun B hB=>?_⟩;have s1:=Ac (o:=.dK (sK (BU Aw))) hB;have O9:(upd H B (.dK (sK (BU Aw)))) B=some (.dK (sK (BU Aw))):=Ab;generalize upd H B (.dK (sK (BU Aw)))=H1 at s1 O9;refine ⟨_,rfl,t,xs,ds,rfl,.inr (s1 _ _ ht),dx.mono (fun a o e _=>s1 a o e),short,few,fun b H2 s2 hb=>⟨_,rfl,?_⟩⟩;refine DT (fun z=>?_) (fun z=>?_)
     ·obtain ⟨ss,rfl,hn,ri⟩:=hb.mp z;obtain rfl:=dx.txt;rw [Zv] at few z1 z3;have ne:ss ≠ []:=fun e=>by subst e; simp at z1
      have Zj:=s2 _ _ O9;have F6:=s2 _ _ (s1 _ _ ht);exists _,rfl,t,rfl,⟨_,A4.of F6⟩
      refine AQ BD (xs:=ss.map V.str) (fun D i σ H' acc=>∃ v0:Option V,σ=[v0,some (.ref B)]/\Ao H2 H'/\H' D=some (.lst acc)/\acc=((ss.take i).map fun y=>decide (y ∈ Aw.map (·.1))).map V.bl/\acc.length=i)
       (by rw [Zv]; lia) (fun D hD=>⟨_,rfl,Ac hD,Ab,rfl,rfl⟩) (fun D i σ H' acc hD ⟨v0,_,sa,Bj,_,al⟩=>⟨A4.of (sa _ _ F6),Bj,al⟩) ?_ ?_
      ·rintro D i σ H' acc x' Bk hD ex ⟨v0,rfl,sa,Bj,rfl,al⟩ hBk;obtain ⟨y,ey,rfl⟩:∃ y,ss[i]? = some y/\x'=.str y:=by
        rw [Z0] at ex;cases q:ss[i]? with
        | none=>rw [q] at ex; cases ex
        | some y=>rw [q] at ex; exact ⟨y,rfl,(ZJ.inj ex).symm⟩
       exists _,rfl,_,rfl,B,_,rfl,Cn.k (k:=Sum.inr y) (sa _ _ Zj);rw [Hq,Dl];refine hBk _ _ _ Bj ⟨_,rfl,fun b o e=>?_,Ab,?_,by rw [Zy,al]; rfl⟩
       ·rw [Ae (Ah e hD)];exact sa _ _ e
       ·rw [ZL,ey,Z7,Z7];rfl
      ·rintro D σ H' acc hD ⟨v0,rfl,sa,Bj,rfl,al⟩;rw [Zv,ZN] at Bj;exists D,_,rfl,AX.of Bj;refine k _ _ (s1.trans (s2.trans sa)) ?_;rw [aF,ZZ];constructor
       ·intro h;have mem:∀ s ∈ ss,AL s=true/\s ∈ Aw.map (·.1):=fun y hy=>⟨hn y hy,by simpa using h y hy⟩
        exact ⟨ss,rfl,ne,ri,mem,(mok _ (lens ss ri mem)).mp z3⟩
       ·rintro ⟨s5,e5,_,_,mem,_⟩ y hy;rw [Es e5] at hy;simpa using (mem y hy).2
     ·refine k _ _ (s1.trans s2) ⟨fun q=>absurd q (by decide),fun ⟨ss,e,_,ri,mem,_⟩=>absurd (hb.mpr ⟨ss,e,fun y hy=>(mem y hy).1,ri⟩) z⟩
   ·exists _,rfl;refine CK ?_;refine k _ _ (Ao.refl _) ⟨fun q=>absurd q (by decide),fun ⟨ss,e,ne,_⟩=>?_⟩;rw [dl,e,Zv,decide_eq_true_eq] at z1;exact absurd (aJ.mp (by lia)) ne
  ·exists _,rfl,_,"tuple",_,_,rfl,t1,t2,_,rfl;exact k _ (Ao.refl _)
theorem JJ (h_all:mg "all"=none) {fO:Addr} {fdO:FuncData} (XO:Fn K mg "are_folk_rows" BJ ["case","thing"] fO fdO) (GO:A7 P w K mg base Bw 4 fO fdO ["case","thing"] (K8 K)) {fI:Addr} {fdI:FuncData} (XI:Fn K mg "is_name" Di ["thing"] fI fdI) (GI:A7 P w K mg base Bw 1 fI fdI ["thing"] (K7 K)) {f:Addr} {fd:FuncData} (F:DQ K "are_goings" "are_goings" CZ f fd):A7 P w K mg base Bw 5 f fd ["case","opening","thing"] (TH K):=by
 refine F.ok F4 (fun vs H Q E h=>?_) (fun cdv A outer s H vs Q E hr h=>?_)
 ·obtain ⟨c,m,o,n,xs,ws,Aw,Au,x,d,ss,v,b,rfl,_⟩:=h;rfl
 ·obtain ⟨c,m,o,n,xs,ws,Aw,Au,x,d,ss,v,b,rfl,cw,ho,hb,k⟩:=h;have nd:=F4.nd;have big:100000 < sizeLine:=by decide
  refine ⟨_,(Ak (A8 (C1 (Aj GO (hr.mono (by decide)) (by rfl) XO.mg XO.F.kp XO.b .nil Az (Aa (pv 0) (Aa (pv 2) Ad))) (Dv (Al (BR rfl) (by rfl) h_all PyProof.Rows.boot_all (Aa (Bb (N:=["place","house","opening"]) (σ0:=fun σ=>[none,none,some 1].map fun j=>j.bind fun j=>(σ[j]?).join) rfl (AI.caught (by rfl) (by decide +kernel) rfl (by decide +kernel) (by intro y hy; simp only [Zz,Z3,or_false] at hy; rcases hy with rfl <;> rfl)
   (by intro y hy e; simp only [Zz,Z3,or_false] at hy; rcases hy with rfl | rfl | rfl | rfl | rfl <;> first | exact ⟨_,rfl⟩ | cases e)) (fun σ _=>Bd.of [none,none,some 1] rfl (by
   intro i j x h1 h2;match i,h1,h2 with
   | 0,_,h2=>cases h2
   | 1,_,h2=>cases h2
   | 2,h1,h2=>cases h1; cases h2; exact ⟨rfl,.inl rfl,.inl rfl⟩
   | n + 3,h1,_=>cases h1)) (Bq K rfl (pv 2))
   (fun s2 H C fp=>⟨(Ba K rfl (n:=2) rfl (Am (Ai (i:=0) (show (["place","house","opening"]:List Str).Nodup by decide +kernel) rfl (Or.inl rfl)) (Am (Ai (i:=1) (show (["place","house","opening"]:List Str).Nodup by decide +kernel) rfl (Or.inl rfl)) AZ))),AK,(C1 (Aj GI (hr.mono (by decide)) (by rfl) XI.mg XI.F.kp XI.b .nil Az (Aa (pv 1) Ad)) (Dv (C7 (Vh K rfl) (pv 1) (pv 2) (by rfl))))⟩)) Ad)))))),?_⟩
  rcases hb with ⟨rfl,hb⟩ | ⟨t,us,rfl,ht,hl,bs,bl,rfl,hrw⟩
  ·refine ⟨_,rfl,_,rfl,c,m,n,xs,ws,Aw,Au,x,d,v,false,rfl,cw,hb,fun H1 s1=>⟨_,rfl,?_⟩⟩;refine BO ?_;exact k _ s1
  ·have l2:=cw.l2;rw [Zv] at hl;have rows:CL K H (.ref t) (Au.map (·.1)) true:=.inr ⟨t,us,rfl,ht,.inr ⟨by rw [Zv]; exact hl,us.map fun _=>true,by rw [Zv],by rw [aF]; exact (ZZ.mpr fun _ _=>rfl).symm,fun i u y c' a1 a2 a3=>by
    have il:i < us.length:=(Z2.mp a1).1;obtain ⟨tt,p,rfl,htt,_⟩:=hrw i u y (bs[i]'(by lia)) a1 a2 (Zt (by lia));rw [Z0,a1] at a3;cases a3
    rw [Z0] at a2;cases er:Au[i]? with
    | none=>rw [er] at a2; cases a2
    | some r=>
     rw [er] at a2;cases a2
     exact Ep.right (cw.map.at'.nm _ (cw.ok2.sub r (Zx er))) htt⟩⟩
   refine ⟨_,rfl,_,rfl,c,m,n,xs,ws,Aw,Au,x,d,.ref t,true,rfl,cw,rows,fun H1 s1=>⟨_,rfl,?_⟩⟩;refine CK ?_;exists _,rfl,t,rfl,⟨_,A4.of (s1 _ _ ht)⟩
   refine AQ BD (xs:=us) (fun D i Ay H' acc=>∃ v0 v1:Option V,Ay=[v0,v1,some (.ref o)]/\Ao H1 H'/\H' D=some (.lst acc)/\acc=(bs.take i).map V.bl/\acc.length=i)
    (by lia) (fun D hD=>⟨_,_,rfl,Ac hD,Ab,rfl,rfl⟩) (fun D i Ay H' acc hD ⟨v0,v1,_,sa,Bj,_,al⟩=>⟨A4.of (sa _ _ (s1 _ _ ht)),Bj,al⟩) ?_ ?_
   ·rintro D i Ay H' acc x' B hD ex ⟨v0,v1,rfl,sa,Bj,ea,al⟩ hB;have il:i < us.length:=(Z2.mp ex).1;obtain ⟨bc,ec⟩:∃ bc,bs[i]? = some bc:=⟨_,Zt (by lia)⟩
    obtain ⟨tt,p,rfl,htt,np⟩:=hrw i x' ((Au[i]'(by lia)).1) bc ex (by rw [Z0,Zt (by lia)]; rfl) ec;exists tt,_,rfl,A4.of (sa _ _ (s1 _ _ htt)),rfl,_,_,rfl,_,_,rfl,rfl;have fin:∀ H5,Ao H' H5->B [some (.str (Au[i]'(by lia)).1),some p,some (.ref o)] (.bl bc) H5:=fun H5 s5=>hB _ _ _ (s5 _ _ Bj) ⟨_,_,rfl,fun b o' q=>by rw [Ae (Ah q hD)]; exact s5 _ _ (sa _ _ q),Ab,by rw [ea,ZL,ec,Z7]; rfl,by rw [Zy,al]; rfl⟩
    rcases np with ⟨nS,rfl⟩ | ⟨s2,rfl,l2',rfl⟩
    ·refine ⟨_,rfl,_,rfl,.inr ⟨(nS.same s1).same sa,⟨_,rfl,?_⟩⟩⟩;refine BO ?_;exact fin _ (Ao.refl _)
    ·refine ⟨_,rfl,_,rfl,.inl ⟨s2,rfl,l2',fun H5 s5=>⟨_,rfl,?_⟩⟩⟩;cases hn:AL s2 with
     | false=>
      rw [hn] at fin;refine BO ?_;exact fin _ s5
     | true=>
      rw [hn] at fin;refine CK ?_;exists _,rfl,_,rfl,o,_,rfl,.inr (A4.of (s5 _ _ (sa _ _ (s1 _ _ ho)))),rfl,Qe ss;rw [R8];exact fin _ s5
   ·rintro D Ay H' acc hD ⟨v0,v1,rfl,sa,Bj,ea,al⟩;rw [<-bl,ZN] at ea;exact ⟨D,_,rfl,AX.of (by rw [Bj,ea]),k _ (s1.trans sa)⟩
theorem Np (h_isinstance:mg "isinstance"=none) (h_len:mg "len"=none) (h_tuple:mg "tuple"=none) {fIO:Addr} {fdIO:FuncData} (XIO:Fn K mg "is_opening" CV ["case","thing"] fIO fdIO) (GIO:A7 P w K mg base Bw 3 fIO fdIO ["case","thing"] (Og K)) {fAG:Addr} {fdAG:FuncData} (XAG:Fn K mg "are_goings" CZ ["case","opening","thing"] fAG fdAG) (GAG:A7 P w K mg base Bw 5 fAG fdAG ["case","opening","thing"] (TH K)) {fD:Addr} {fdD:FuncData} (XD:Fn K mg "stand" Ia ["case","prices","levy"] fD fdD) (GD:A7 P w K mg base Bw 6 fD fdD ["case","prices","levy"] (LK K)) {f:Addr} {fd:FuncData} (F:DQ K "lets_by" "lets_by" Dh f fd):A7 P w K mg base Bw 7 f fd ["case","paper"] (HZ K):=by
 refine F.ok IG (fun vs H Q E h=>?_) (fun cdv A outer s H vs Q E hr h=>?_)
 ·obtain ⟨c,m,n,xs,ws,Aw,Au,x,d,v,rfl,_⟩:=h;rfl
 ·obtain ⟨c,m,n,xs,ws,Aw,Au,x,d,v,rfl,cw,few,k⟩:=h;have nd:=IG.nd;have big:100000 < sizeLine:=by decide
  refine ⟨_,(Ag (C9 (Ki (EU (Gu (Al BQ (by rfl) h_isinstance PyProof.Rows.boot_isinstance (Aa (pv 1) (Aa (E4 (v:=.ty "tuple") (by rfl) h_tuple PyProof.Rows.boot_tuple rfl) Ad))))) (Gs (BN Rt (Al AE (by rfl) h_len PySem.boot_len (Aa (pv 1) Ad)) Af (B5 _)))).pt
  (Ak (A8 DL))
  B3)
  (Ag (Ds (pv 1) (Ba K rfl rfl (Am (Ai (i:=2) nd rfl (Or.inl rfl)) (Am (Ai (i:=3) nd rfl (Or.inl rfl)) (Am (Ai (i:=4) nd rfl (Or.inl rfl)) (Am (Ai (i:=5) nd rfl (Or.inl rfl)) AZ))))))
  (Ak (A8 (C1 (Aj GIO (hr.mono (by decide)) (by rfl) XIO.mg XIO.F.kp XIO.b .nil Az (Aa (pv 0) (Aa (pv 2) Ad))) (C1 (Aj GAG (hr.mono (by decide)) (by rfl) XAG.mg XAG.F.kp XAG.b .nil Az (Aa (pv 0) (Aa (pv 2) (Aa (pv 3) Ad)))) (Dv (Aj GD (hr.mono (by decide)) (by rfl) XD.mg XD.F.kp XD.b .nil Az (Aa (pv 0) (Aa (pv 4) (Aa (pv 5) Ad))))))))))),?_⟩
  rcases k with ⟨bad,k⟩ | ⟨pp,o,t,T,ss,zs,qs,lv,rfl,pa,k⟩
  ·rcases bad with ⟨ty,t1,t2⟩ | ⟨t,us,rfl,ht,hl | ⟨o,wk,pr,lv,rfl,bad⟩⟩
   ·exists _,rfl,_,"tuple",_,_,rfl,t1,t2,_,rfl;exact k _ (Ao.refl _)
   ·exists _,rfl,_,"tuple",_,_,rfl,.tup ht,rfl,_,rfl;refine BO ?_;exists _,rfl,t,_,rfl,.inr (A4.of ht),rfl,_,rfl;have e:(!decide (V.int (us.length:Int)=V.int 4))=true:=by
     rw [decide_eq_false fun z=>hl (by injection z with z; lia)];rfl
    rw [e];refine CK ?_;exact k _ (Ao.refl _)
   ·exists _,rfl,_,"tuple",_,_,rfl,.tup ht,rfl,_,rfl;refine BO ?_;exists _,rfl,t,_,rfl,.inr (A4.of ht),rfl,_,rfl;refine BO ?_;exists _,rfl,t,_,rfl,A4.of ht,rfl,_,_,rfl,_,_,rfl,_,_,rfl,_,_,rfl,rfl;rcases bad with bad | ⟨oa,ss,rfl,hoa,isop,l60,bad⟩
    ·rcases bad with bad | ⟨ds,td,no⟩
     ·refine ⟨_,rfl,_,rfl,c,Aw.map (·.1),x,d,o,rfl,cw.sites,.inr ⟨bad,fun H1 s1=>⟨_,rfl,?_⟩⟩⟩;refine BO ?_;exact k _ s1
     ·refine ⟨_,rfl,_,rfl,c,Aw.map (·.1),x,d,o,rfl,cw.sites,.inl ⟨ds,td,fun b H1 s1 hb=>⟨_,rfl,?_⟩⟩⟩;cases b with
      | true=>exact absurd (hb.mp rfl) no
      | false=>
       refine BO ?_;exact k _ s1
    ·have sh:∀ s ∈ ss,s.length<=1000:=by
      obtain ⟨s2,e2,_,_,mem,_⟩:=isop;rw [Es e2];exact fun s hs=>ZS (Dy (mem s hs).1) (by decide)
     refine ⟨_,rfl,_,rfl,c,Aw.map (·.1),x,d,.ref oa,rfl,cw.sites,.inl ⟨_,Fe.strs hoa l60 sh,fun b H1 s1 hb=>⟨_,rfl,?_⟩⟩⟩;have bt:b=true:=hb.mpr isop;subst bt;refine CK ?_;rcases bad with bad | ⟨go,bad⟩
     ·refine ⟨_,rfl,_,rfl,_,rfl,c,m,oa,n,xs,ws,Aw,Au,x,d,ss,wk,false,rfl,cw.same s1,s1 _ _ hoa,bad.same s1,fun H2 s2=>⟨_,rfl,?_⟩⟩;refine BO ?_;exact k _ (s1.trans s2)
     ·refine ⟨_,rfl,_,rfl,_,rfl,c,m,oa,n,xs,ws,Aw,Au,x,d,ss,wk,true,rfl,cw.same s1,s1 _ _ hoa,go.same s1,fun H2 s2=>⟨_,rfl,?_⟩⟩;refine CK ?_;have J3:=s1.trans s2;rcases bad with bad | ⟨bad,T,qs,rfl,⟨us,hT,du⟩,ok⟩
      ·exact ⟨_,rfl,_,rfl,_,rfl,c,m,n,xs,ws,Aw,Au,x,d,pr,lv,rfl,cw.same J3,.inl ⟨bad.same J3,fun H3 s3=>k _ (J3.trans s3)⟩⟩
      ·exact ⟨_,rfl,_,rfl,_,rfl,c,m,n,xs,ws,Aw,Au,x,d,.ref T,lv,rfl,cw.same J3,.inr ⟨T,qs,rfl,⟨cw.same J3,few,⟨us,J3 _ _ hT,AW du fun b ys z=>J3 _ _ z⟩,ok⟩,.inl ⟨bad.same J3,fun H3 s3=>k _ (J3.trans s3)⟩⟩⟩
  ·exists _,rfl,_,"tuple",_,_,rfl,.tup pa.pap,rfl,_,rfl;refine BO ?_;exists _,rfl,pp,_,rfl,.inr (A4.of pa.pap),rfl,_,rfl;refine BO ?_;exists _,rfl,pp,_,rfl,A4.of pa.pap,rfl,_,_,rfl,_,_,rfl,_,_,rfl,_,_,rfl,rfl;have l10:=pa.l10;have l1:=pa.cp.cw.l1;refine ⟨_,rfl,_,rfl,c,Aw.map (·.1),x,d,.ref o,rfl,cw.sites,.inl ⟨_,Fe.strs pa.op (by lia) (fun s hs=>ZS (Dy (pa.inx s hs).2) (by decide)),fun b H1 s1 hb=>⟨_,rfl,?_⟩⟩⟩;have bt:b=true:=hb.mpr pa.isop;subst bt;refine CK ?_;refine ⟨_,rfl,_,rfl,_,rfl,c,m,o,n,xs,ws,Aw,Au,x,d,ss,.ref t,true,rfl,cw.same s1,s1 _ _ pa.op,pa.goes.same s1,fun H2 s2=>⟨_,rfl,?_⟩⟩;refine CK ?_;have p2:=(pa.same s1).same s2;refine ⟨_,rfl,_,rfl,_,rfl,c,m,n,xs,ws,Aw,Au,x,d,.ref T,.int lv,rfl,p2.cp.cw,.inr ⟨T,qs,rfl,p2.cp,.inr ⟨lv,rfl,.inr ⟨lv,rfl,pa.lev.1,?_⟩,fun H3 s3=>?_⟩⟩⟩
   ·by_cases z:x=.non
    ·rw [pa.lev.2.2 z,decide_eq_true (rfl:(0:Int)=0),Bool.or_true]
    ·rw [decide_eq_false z]; rfl
   ·rw [pa.st];exact k _ ((s1.trans s2).trans s3)
end
section
variable {P:Program} {w:World} {K:Zw} {mg:Str->Option Value} {base:Heap}
theorem IT (h_min:mg "min"=none)  {f:Addr} {fd:FuncData} (F:DQ K "_law_nearest" "_law_nearest" C6 f fd):A7 P w K mg base Bw 1 f fd ["_law_away","_law_place","_law_opening"] Od:=by
 refine F.ok ES (fun vs H Q E h=>?_) (fun cdv A outer s H vs Q E hr h=>?_)
 ·obtain ⟨A0,o,y0,xs,ws,ss,rfl,_⟩:=h;rfl
 ·obtain ⟨A0,o,y0,xs,ws,ss,rfl,kn,hy0,ho,sne,s30,ssx,k⟩:=h;have nd:=ES.nd;have hu:=CO hr;have Lg:=hr.units;have big:100000 < sizeLine:=by decide
  refine ⟨_,(Ak (A8 (AD (AU K rfl) (Al (JN rfl Lg) (by rfl) h_min PyProof.Rows.boot_min (Aa (Bb (N:=["_law_house","_law_away","_law_place"]) (σ0:=fun σ=>[none,some 0,some 1].map fun j=>j.bind fun j=>(σ[j]?).join) rfl (AI.caught (by rfl) (by decide +kernel) rfl (by decide +kernel) (by intro y hy; simp only [Zz,Z3,or_false] at hy; rcases hy with rfl | rfl <;> rfl)
   (by intro y hy e; simp only [Zz,Z3,or_false] at hy; rcases hy with rfl | rfl | rfl | rfl <;> first | exact ⟨_,rfl⟩ | cases e)) (fun σ _=>Bd.of [none,some 0,some 1] rfl (by
   intro i j x h1 h2;match i,h1,h2 with
   | 0,_,h2=>cases h2
   | 1,h1,h2=>cases h1; cases h2; exact ⟨rfl,.inl rfl,.inl rfl⟩
   | 2,h1,h2=>cases h1; cases h2; exact ⟨rfl,.inl rfl,.inl rfl⟩
   | n + 3,h1,_=>cases h1)) (Bq K rfl (pv 2))
   (fun s2 H C fp=>⟨(Ai (i:=0) (show (["_law_house","_law_away","_law_place"]:List Str).Nodup by decide +kernel) rfl (Or.inl rfl)),AK,(As (Aa (Bm hu (pv 1) (As (Aa (pv 2) (Aa (pv 0) Ad))) (fun _ _=>rfl)) (Aa (pv 0) Ad)))⟩)) Ad)) Af (fun _ _=>rfl)))),?_⟩
  have Yw:1<=ss.length:=cq fun e=>sne (aJ.mp e)
  exists _,rfl,o,rfl,⟨_,A4.of ho⟩
  refine AQ BD (xs:=ss.map V.str) (fun D2 j Ay H2 acc=>∃ (v0:Option V) (ks:List (Int × Str)),Ay=[v0,some (.ref A0),some (.str y0)]/\Ao H H2/\H2 D2=some (.lst acc)/\acc.length=j/\ks.length=j/\(∀ (q:Nat) w kk,acc[q]? = some w->ks[q]? = some kk->J0 H2 w kk)/\∀ kk ∈ ks,kk.2 ∈ ss)
   (by rw [Zv]; lia) (fun D2 Ly=>⟨_,[],rfl,Ac Ly,Ab,rfl,rfl,(fun q w kk e=>by simp at e),fun kk hk=>nomatch hk⟩)
   (fun D2 j Ay H2 acc Ly ⟨v0,ks,_,sb,Ll,Xl,_⟩=>⟨A4.of (sb _ _ ho),Ll,Xl⟩) ?_ ?_
  ·rintro D2 j Ay H2 acc x' Bk Ly ex ⟨v0,ks,rfl,sb,Ll,Xl,kl,kp,km⟩ hBk;obtain ⟨y,ey,rfl⟩:∃ y,ss[j]? = some y/\x'=.str y:=by
    rw [Z0] at ex;cases z:ss[j]? with
    | none=>rw [z] at ex; cases ex
    | some y=>rw [z] at ex; exact ⟨y,rfl,(ZJ.inj ex).symm⟩
   have ym':=Zx ey;refine ⟨_,rfl,_,rfl,_,rfl,(by show 2<=sizeLine; lia),fun T hT=>?_⟩;have sT:=Ac (o:=.tup [.str y0,.str y]) hT;obtain ⟨g2,d0,d1⟩:=(kn.same (sb.trans sT)).get hy0 (ssx y ym') (t:=T) Ab;generalize upd H2 T (.tup [.str y0,.str y])=H8 at sT g2 ⊢;refine ⟨A0,_,rfl,g2,_,rfl,(by show 2<=sizeLine; lia),fun T2 Qu=>?_⟩;have sT2:=Ac (o:=.tup [.int (dst ws y y0),.str y]) Qu;have WR:(upd H8 T2 (.tup [.int (dst ws y y0),.str y])) T2=some (.tup [.int (dst ws y y0),.str y]):=Ab;generalize upd H8 T2 (.tup [.int (dst ws y y0),.str y])=H9 at sT2 WR ⊢;have Y0:=sT.trans sT2;have hDT:=Y0 _ _ Ll;have keep:∀ b ys,H9 b=some (.tup ys)->(upd H9 D2 (.lst (acc ++ [.ref T2]))) b=some (.tup ys):=fun b ys z=>by
    rw [Ae (CN z hDT (fun q=>by cases q))];exact z
   refine hBk _ _ _ hDT ⟨_,ks ++ [(dst ws y y0,y)],rfl,fun b o' z=>by rw [Ae (Ah z Ly)]; exact Y0 _ _ (sb _ _ z),Ab,by rw [Zy,Xl]; rfl,by rw [Zy,kl]; rfl,fun q w kk e1 e2=>?_,fun kk hk=>?_⟩
   ·by_cases hq:q < acc.length
    ·rw [ZR hq] at e1;rw [ZR (by lia)] at e2;exact (kp q w kk e1 e2).same fun b ys z=>keep b ys (Y0 _ _ z)
    ·have Wd:=(Z2.mp e1).1;rw [Zy,bP] at Wd;rw [ZV (by lia),show q - acc.length=0 by lia,ao] at e1;rw [ZV (by lia),show q - ks.length=0 by lia,ao] at e2;cases e1
     cases e2
     exact ⟨T2,rfl,keep _ _ WR⟩
   ·rcases Z9.mp hk with hk | hk
    ·exact km kk hk
    ·rw [ZH.mp hk];exact ym'
  rintro D2 Ay H8 acc Ly ⟨v0,ks,rfl,sb,Ll,Xl,kl,kp,km⟩;rw [Zv] at Xl kl;refine ⟨D2,acc,ks,rfl,Ll,by lia,fun z=>by rw [z] at kl; simp at kl; lia,kp,fun v kk hkk hpr _=>?_⟩;obtain ⟨tv,rfl,htv⟩:=hpr;have km':=km kk hkk;exact ⟨tv,_,_,_,rfl,rfl,A4.of htv,rfl,k _ _ sb km'⟩
theorem KR (h_int:mg "int"=none) (h_len:mg "len"=none) (h_min:mg "min"=none) (h_sorted:mg "sorted"=none) (h_tuple:mg "tuple"=none) {fT:Addr} {fdT:FuncData} (XT:Fn K mg "_law_take" Bt ["_law_pen_here","_law_many"] fT fdT) (GT:A7 P w K mg base Bw 1 fT fdT ["_law_pen_here","_law_many"] CQ) {fS:Addr} {fdS:FuncData} (XS:Fn K mg "_law_some" Dr ["_law_pen_here","_law_names_here","_law_most"] fS fdS) (GS:A7 P w K mg base Bw 2 fS fdS ["_law_pen_here","_law_names_here","_law_most"] K6) {fPL:Addr} {fdPL:FuncData} (XPL:Fn K mg "_law_prices" CU ["_law_pen_here","_law_case_here","_law_away","_law_levy"] fPL fdPL) (GPL:A7 P w K mg base Bw 3 fPL fdPL ["_law_pen_here","_law_case_here","_law_away","_law_levy"] Ka) {fNE:Addr} {fdNE:FuncData} (XNE:Fn K mg "_law_nearest" C6 ["_law_away","_law_place","_law_opening"] fNE fdNE) (GNE:A7 P w K mg base Bw 1 fNE fdNE ["_law_away","_law_place","_law_opening"] Od) {f:Addr} {fd:FuncData} (F:DQ K "_law_right" "_law_right" DF f fd):A7 P w K mg base Bw 4 f fd ["_law_pen_here","_law_case_here","_law_away"] LM:=by
 refine F.ok FR (fun vs H Q E h=>?_) (fun cdv A outer s H vs Q E hr h=>?_)
 ·obtain ⟨p,c,m,A0,n,xs,ws,Aw,Au,x,d,rfl,_⟩:=h;rfl
 ·obtain ⟨p,c,m,A0,n,xs,ws,Aw,Au,x,d,rfl,hP,cw,few,kn,k⟩:=h;have nd:=FR.nd;have big:100000 < sizeLine:=by decide
  refine ⟨_,(Ag (Ou (ix:=3) (N:=["_law_place","_law_dues"]) (σ0:=fun _=>[none,none]) nd rfl (Or.inl rfl) rfl (AI.plain (by decide +kernel) (by decide +kernel) rfl (by decide +kernel)) (fun σ _=>Bd.none _ _ _ ["_law_place","_law_dues"] σ) (Bq K rfl (AD (AU K rfl) (pv 1) Af (fun _ _=>rfl)))
   (fun s2 H C fp=>⟨(Ba K rfl (n:=2) rfl (Am (Ai (i:=0) (show (["_law_place","_law_dues"]:List Str).Nodup by decide +kernel) rfl (Or.inl rfl)) (Am (Ai (i:=1) (show (["_law_place","_law_dues"]:List Str).Nodup by decide +kernel) rfl (Or.inl rfl)) AZ))),AK,(pv 0)⟩))
  (Ag (Ar (i:=4) nd rfl (Or.inl rfl) (AD (Mz K rfl) (Bl (Aa (AD (AU K rfl) (pv 1) Af (fun _ _=>rfl)) (Aa (Al (BM K rfl) (by rfl) h_len PySem.boot_len (Aa (pv 3) Ad)) Ad))) (A3 Eo (by rfl) h_int PyProof.Rows.boot_int (Aa (KO (Nl (AD (AU K rfl) (pv 1) Af (fun _ _=>rfl)))) Ad)) (fun _ _=>rfl)))
  (Ag (Ar (i:=5) nd rfl (Or.inr rfl) (A3 (D3 K rfl) (by rfl) h_tuple PyProof.Rows.boot_tuple (Aa (Al En (by rfl) h_sorted PyProof.Rows.boot_sorted (Aa (Aj GS (hr.mono (by decide)) (by rfl) XS.mg XS.F.kp XS.b .nil Az (Aa (pv 0) (Aa (pv 3) (Aa (Al (G8 rfl) (by rfl) h_min PyProof.Rows.boot_min (Aa (pv 4) (Aa (Al (BM K rfl) (by rfl) h_len PySem.boot_len (Aa (pv 3) Ad)) Ad))) Ad)))) Ad)) Ad)))
  (Ag (Ar (i:=6) nd rfl (Or.inl rfl) (A3 (D3 K rfl) (by rfl) h_tuple PyProof.Rows.boot_tuple (Aa (Bb (N:=["_law_place","_law_many","_law_away","_law_opening"]) (σ0:=fun σ=>[none,none,some 2,some 5].map fun j=>j.bind fun j=>(σ[j]?).join) rfl (AI.caught (by rfl) (by decide +kernel) rfl (by decide +kernel) (by intro y hy; simp only [Zz,Z3,or_false] at hy; rcases hy with rfl | rfl <;> rfl)
   (by intro y hy e; simp only [Zz,Z3,or_false] at hy; rcases hy with rfl | rfl | rfl | rfl | rfl | rfl <;> first | exact ⟨_,rfl⟩ | cases e)) (fun σ _=>Bd.of [none,none,some 2,some 5] rfl (by
   intro i j x h1 h2;match i,h1,h2 with
   | 0,_,h2=>cases h2
   | 1,_,h2=>cases h2
   | 2,h1,h2=>cases h1; cases h2; exact ⟨rfl,.inl rfl,.inl rfl⟩
   | 3,h1,h2=>cases h1; cases h2; exact ⟨rfl,.inl rfl,.inl rfl⟩
   | n + 4,h1,_=>cases h1)) (Bq K rfl (AD (AU K rfl) (pv 1) Af (fun _ _=>rfl)))
   (fun s2 H C fp=>⟨(Ba K rfl (n:=2) rfl (Am (Ai (i:=0) (show (["_law_place","_law_many","_law_away","_law_opening"]:List Str).Nodup by decide +kernel) rfl (Or.inl rfl)) (Am (Ai (i:=1) (show (["_law_place","_law_many","_law_away","_law_opening"]:List Str).Nodup by decide +kernel) rfl (Or.inl rfl)) AZ))),AK,(As (Aa (pv 0) (Aa (Aj GNE (hr.mono (by decide)) (by rfl) XNE.mg XNE.F.kp XNE.b .nil Az (Aa (pv 2) (Aa (pv 0) (Aa (pv 3) Ad)))) Ad)))⟩)) Ad)))
  (Ag (Ar (i:=7) nd rfl (Or.inl rfl) (Aq Cs (Aj GT (hr.mono (by decide)) (by rfl) XT.mg XT.F.kp XT.b .nil Az (Aa (pv 0) (Aa Af Ad))) (A3 Eo (by rfl) h_int PyProof.Rows.boot_int (Aa (KO (Ih (AD (AU K rfl) (pv 1) Af (fun _ _=>rfl)))) Ad))))
  (Ak (A8 (As (Aa (pv 5) (Aa (pv 6) (Aa (Aj GPL (hr.mono (by decide)) (by rfl) XPL.mg XPL.F.kp XPL.b .nil Az (Aa (pv 0) (Aa (pv 1) (Aa (pv 2) (Aa (pv 7) Ad))))) (Aa (pv 7) Ad)))))))))))),?_⟩
  obtain ⟨t1,t2,FN,HY,hc,Jg,J4,F6,hd2⟩:=cw.ex;have U3:=AJ J4;have Sy:=AJ hd2;have l1:=cw.l1;have l2:=cw.l2;have one:=cw.ok1.one;exists _,rfl,c,_,_,_,rfl,rfl,A4.of hc,rfl,t1,rfl,⟨_,A4.of Jg⟩
  refine AQ BD (xs:=FN) (fun D i Ay H' acc=>∃ v0 v1:Option V,Ay=[v0,v1]/\Ao H H'/\H' D=some (.lst acc)/\acc=((Aw.map (·.1)).take i).map V.str/\acc.length=i)
   (by lia) (fun D hD=>⟨_,_,rfl,Ac hD,Ab,rfl,rfl⟩) (fun D i Ay H' acc hD ⟨v0,v1,_,sa,Bj,_,al⟩=>⟨A4.of (sa _ _ Jg),Bj,al⟩) ?_ ?_
  ·rintro D i Ay H' acc x' B hD ex ⟨v0,v1,rfl,sa,Bj,ea,al⟩ hB;obtain ⟨q,tt,eq,rfl,htt⟩:=Bv J4 ex;exists tt,_,rfl,A4.of (sa _ _ htt),rfl,_,_,rfl,_,_,rfl,rfl;refine ⟨_,rfl,hB _ _ _ Bj ⟨_,_,rfl,fun b o e=>by rw [Ae (Ah e hD)]; exact sa _ _ e,Ab,?_,by rw [Zy,al]; rfl⟩⟩;rw [ea,ZL,Z0,eq,Z7];rfl
  rintro D Ay H1 acc hD ⟨v0,v1,rfl,s1,Bj,ea,al⟩;have e1:FN.length=(Aw.map (·.1)).length:=by rw [Zv]; exact U3
  rw [ea,e1,ZN] at Bj;clear ea al acc;have nDp:D ≠ p:=hP.ne hD;have P1:=hP.same s1;obtain ⟨mo,hmo,VZ,mlim⟩:∃ mo:Int,Gn [x,.int (((Aw.map (·.1)).map V.str).length:Int)] (if decide (x=.non)=true then 1 else 0)=some (.int mo)/\1<=mo/\∀ j:Nat,(j:Int)<=mo->Nw x j=true:=by
   rcases cw.lim with ⟨rfl,_⟩ | ⟨i,rfl,_,i1,_⟩
   ·exact ⟨_,rfl,by rw [Zv,Zv]; lia,fun _ _=>rfl⟩
   ·have ne:¬ V.int i=V.non:=by intro e; cases e
    refine ⟨i,?_,i1,fun j hj=>decide_eq_true hj⟩;rw [decide_eq_false ne];rfl
  refine ⟨_,rfl,c,_,_,_,rfl,rfl,A4.of (s1 _ _ hc),rfl,_,rfl,D,_,rfl,.inl (AX.of Bj),(by show 2<=sizeLine; lia),fun M hM=>?_⟩;have sM:=Ac (o:=.lst [x,.int (((Aw.map (·.1)).map V.str).length:Int)]) hM;have hMM:(upd H1 M (.lst [x,.int (((Aw.map (·.1)).map V.str).length:Int)])) M=some (.lst [x,.int (((Aw.map (·.1)).map V.str).length:Int)]):=Ab;generalize upd H1 M (.lst [x,.int (((Aw.map (·.1)).map V.str).length:Int)])=H2 at sM hMM ⊢;have s2:=s1.trans sM;refine ⟨_,rfl,c,_,_,_,rfl,rfl,A4.of (s2 _ _ hc),rfl,.inr ⟨_,rfl,M,_,_,_,rfl,rfl,AX.of hMM,hmo,?_⟩⟩;have Ly:=sM _ _ Bj;have P2:=P1.same sM;have ln:((Aw.map (·.1)).map V.str).length=Aw.length:=by rw [Zv,Zv]
  obtain ⟨mi,emi,mi1,mi2,mi3⟩:∃ mi:Int,mi=(if ((((Aw.map (·.1)).map V.str).length:Nat):Int) < mo then ((((Aw.map (·.1)).map V.str).length:Nat):Int) else mo)/\1<=mi/\mi<=30/\mi<=mo:=by
   exists _,rfl;rw [ln];split <;> lia
  refine ⟨_,rfl,_,rfl,_,rfl,_,rfl,D,_,rfl,.inl (AX.of Ly),_,_,rfl,p,D,Aw.map (·.1),mi,by rw [emi]; rfl,P2,Ly,nDp,by rw [Zv]; lia,by rw [Zv]; lia,mi1,mi2,fun H3 E' ys zs0 P3 k3 hE hEE pm y1 ym=>?_⟩;have yl:ys.length<=Aw.length:=by
   have:=pm.length_eq;rw [Zy,Zv] at this;lia
  refine ⟨E',ys,rfl,AX.of hEE,by lia,fun l ss hl YA srt=>⟨l,_,rfl,.inl ⟨AX.of Ab,fun o ho=>?_⟩⟩⟩;have sl:=Ac (o:=.lst (ss.map V.str)) hl;have so:=Ac (o:=.tup (ss.map V.str)) ho;have YV:(upd (upd H3 l (.lst (ss.map V.str))) o (.tup (ss.map V.str))) o=some (.tup (ss.map V.str)):=Ab;have Yz:=sl.trans so;generalize upd (upd H3 l (.lst (ss.map V.str))) o (.tup (ss.map V.str))=H4 at Yz YV ⊢;have sll:=YA.length_eq;have ysub:∀ y ∈ ys,y ∈ Aw.map (·.1):=fun y hy=>pm.mem_iff.mp (ay _ hy)
  have ssub:∀ y ∈ ss,y ∈ Aw.map (·.1):=fun y hy=>ysub y (YA.mem_iff.mp hy)
  have snd:ss.Nodup:=YA.nodup_iff.mpr (aI.mp (pm.nodup_iff.mpr cw.ok1.nd)).1;have ri:=Kh (Fm srt) snd;have sne:ss ≠ []:=fun e=>by rw [e] at sll; simp at sll; lia
  have lb:Nw x ss.length=true:=mlim _ (by lia);have ssx:∀ s ∈ ss,s ∈ xs:=fun s hs=>by
   obtain ⟨r,hr,e⟩:=Z6.mp (ssub s hs);have e':r.1=s:=e;rw [<-e'];exact cw.ok1.sub r hr
  have P4:=P3.same Yz;have W8:AA p H H4:=((AA.of_same s2).trans k3).trans (AA.of_same Yz);have Xv:=JA hP W8;have X4:=kn.keep hP W8;exists _,rfl,c,_,_,_,rfl,rfl,A4.of (Xv _ _ hc),rfl,t2,rfl,⟨_,A4.of (Xv _ _ F6)⟩
  refine AQ BD (xs:=HY) (fun D2 i Ay H' acc=>∃ (v0 v1:Option V) (zs:List (Str × Str)),Ay=[v0,v1,some (.ref A0),some (.ref o)]/\Ao H4 H'/\H' D2=some (.lst acc)/\acc.length=i/\AB H' acc (zs.map Iy)/\zs.map (·.1)=(Au.take i).map (·.1)/\∀ z ∈ zs,z.2 ∈ ss)
   (by lia) (fun D2 Ly=>⟨_,_,[],rfl,Ac Ly,Ab,rfl,.nil,rfl,fun z hz=>nomatch hz⟩) (fun D2 i Ay H' acc Ly ⟨v0,v1,zs,_,sa,Bj,al,_⟩=>⟨A4.of (sa _ _ (Xv _ _ F6)),Bj,al⟩) ?_ ?_
  ·rintro D2 i Ay H' acc x' Bk Ly ex ⟨v0,v1,zs,rfl,sa,Ll,al,dw,zn,zss⟩ hBk;obtain ⟨r,tt,er,rfl,htt⟩:=Bv hd2 ex;exists tt,_,rfl,A4.of (sa _ _ (Xv _ _ htt)),rfl,_,_,rfl,_,_,rfl,rfl;refine ⟨_,rfl,_,rfl,_,rfl,_,rfl,A0,o,r.1,xs,ws,ss,rfl,X4.same sa,cw.ok2.sub r (Zx er),sa _ _ YV,sne,by lia,ssx,fun H5 hs s5 hsm=>⟨(by show 2<=sizeLine; lia),fun T3 Zh=>?_⟩⟩;have sT3:=Ac (o:=.tup [.str r.1,.str hs]) Zh;have WQ:(upd H5 T3 (.tup [.str r.1,.str hs])) T3=some (.tup [.str r.1,.str hs]):=Ab;generalize upd H5 T3 (.tup [.str r.1,.str hs])=H6 at sT3 WQ ⊢;have s6:=s5.trans sT3;have hD6:=s6 _ _ Ll;have tp:∀ b ys,H6 b=some (.tup ys)->(upd H6 D2 (.lst (acc ++ [.ref T3]))) b=some (.tup ys):=fun b ys z=>by
    rw [Ae (CN z hD6 (fun q=>by cases q))];exact z
   refine hBk _ _ _ hD6 ⟨_,_,zs ++ [(r.1,hs)],rfl,fun b o' z=>by rw [Ae (Ah z Ly)]; exact s6 _ _ (sa _ _ z),Ab,by rw [Zy,al]; rfl,?_,?_,fun z hz=>?_⟩
   ·rw [Z7];exact BP (Df (fun b ys z=>tp b ys (s6 _ _ z)) dw) (.cons (LA (z:=(r.1,hs)) (tp _ _ WQ)) .nil)
   ·rw [Z7,zn,ZL,er,Z7];rfl
   ·rcases Z9.mp hz with hz | hz
    ·exact zss z hz
    ·rw [ZH.mp hz];exact hsm
  rintro D2 Ay H5 wus Ly ⟨v0,v1,zs,rfl,s5,Ll,al,dw,zn,zss⟩;rw [Sy,ZN] at zn;refine ⟨D2,_,rfl,.inl ⟨AX.of Ll,fun tw htw=>?_⟩⟩;have q6:=Ac (o:=.tup wus) htw;have hTW:(upd H5 tw (.tup wus)) tw=some (.tup wus):=Ab;generalize upd H5 tw (.tup wus)=H6 at q6 hTW ⊢;have VV:=s5.trans q6;have P6:=P4.same VV;refine ⟨_,rfl,p,9,rfl,P6,by decide,DM (by decide),fun e4 a4 b4 c4 e40 e41=>?_⟩;have P9:A5 (upd H6 p (.lst (A2 a4 b4 c4))) p:=A5.set _ _ _;have Ta:AA p H6 (upd H6 p (.lst (A2 a4 b4 c4))):=AA.upd;generalize upd H6 p (.lst (A2 a4 b4 c4))=H9 at P9 Ta ⊢;have YL:=(W8.trans (AA.of_same VV)).trans Ta;have t09:=JA hP YL;have Yp:=JA P6 Ta;have cw9:=cw.keepT t09;have kn9:=kn.keep hP YL;have dw9:=Df Yp (Df (fun b ys z=>q6 _ _ z) dw);have ho9:=Yp _ _ (VV _ _ YV);refine ⟨_,rfl,c,_,_,_,rfl,rfl,A4.of (t09 _ _ hc),rfl,.inr ⟨_,rfl,_,_,rfl,rfl,.inl ⟨by lia,by lia⟩,?_⟩⟩;obtain ⟨lv,elv,lok⟩:∃ lv:Int,lv=e4 * (if (!decide (x=.non))=true then 1 else 0)/\Sg x lv:=by
   exists _,rfl;by_cases z:x=.non
   ·rw [decide_eq_true z];exact ⟨by simp,by simp,fun _=>by simp⟩
   ·rw [decide_eq_false z];exact ⟨by simp; lia,by simp; lia,fun h=>absurd h z⟩
  refine ⟨_,rfl,_,rfl,_,rfl,_,rfl,_,rfl,_,rfl,p,c,m,A0,n,xs,ws,Aw,Au,x,d,lv,by rw [elv]; rfl,P9,cw9,few,kn9,lok.1,lok.2.1,fun Qz T qs P11 k11 Zp Yu _=>?_⟩;have t11:=JA P9 k11;refine ⟨_,rfl,(by show 4<=sizeLine; lia),fun pp hpp=>?_⟩;have J3:=Ac (o:=.tup [.ref o,.ref tw,.ref T,.int lv]) hpp;have Yr:∀ b ys,H9 b=some (.tup ys)->(upd Qz pp (.tup [.ref o,.ref tw,.ref T,.int lv])) b=some (.tup ys):=fun b ys z=>J3 _ _ (t11 _ _ z)
  have pp':(upd Qz pp (.tup [.ref o,.ref tw,.ref T,.int (e4 * (if (!decide (x=.non))=true then 1 else 0))])) pp=some (.tup [.ref o,.ref tw,.ref T,.int lv]):=by rw [Ab,elv]
  rw [elv] at J3 Yr;exact k _ pp o tw T ss zs qs lv (P11.same J3) ((YL.trans k11).trans (AA.of_same J3)) ⟨Zp.same J3,pp',Yr _ _ ho9,sne,ri,ssub,lb,⟨wus,J3 _ _ (t11 _ _ (Yp _ _ hTW)),Df Yr dw9⟩,zn,zss,lok,Yu⟩
end
section
variable {P:Program} {w:World} {K:Zw} {mg:Str->Option Value} {base:Heap}
theorem Fw (h_list:mg "list"=none) {f:Addr} {fd:FuncData} (F:DQ K "_law_odd_openings" "_law_odd_openings" Bu f fd):A7 P w K mg base Bw 1 f fd ["_law_opening"] (IB K):=by
 refine F.ok CM (fun vs H Q E h=>?_) (fun cdv A outer s H vs Q E hr h=>?_)
 ·obtain ⟨o,ss,sites,x,rfl,_⟩:=h;rfl
 ·obtain ⟨o,ss,sites,x,rfl,ho0,un0,l30,nm,k⟩:=h;have nd:=CM.nd;have hu:=CO hr;have big:100000 < sizeLine:=by decide
  have ln:(ss.map V.str).length=ss.length:=Zv _;have un:1<=(ss.map V.str).length:=by lia
  have sh:∀ s ∈ ss,s.length<=1000:=fun s hs=>ZS (Dy (nm s hs)) (by decide)
  have YC:¬ (HT.sIx (ss.map V.str).length 0 none=0/\HT.sIx (ss.map V.str).length (ss.map V.str).length (some (-1))=(ss.map V.str).length):=fun z=>by
   have:=z.2;unfold HT.sIx at this;simp only [] at this;split at this <;> lia
  have sh1:∀ (ds:List PyData),(∀ s,PyData.str s ∉ ds)->∀ s,PyData.str s ∈ ss.map PyData.str ++ ds->s.length<=1000:=fun ds nds s hs=>by
   rcases Z9.mp hs with hs | hs
   ·obtain ⟨y,hy,e⟩:=Z6.mp hs;cases e
    exact sh _ hy
   ·exact absurd hs (nds s)
  have sh2:∀ (ds:List PyData),(∀ s,PyData.str s ∉ ds)->∀ s,PyData.str s ∈ (ss.take (ss.length - 1)).map PyData.str ++ ds->s.length<=1000:=fun ds nds s hs=>by
   rcases Z9.mp hs with hs | hs
   ·obtain ⟨y,hy,e⟩:=Z6.mp hs;cases e
    exact sh _ (aN hy)
   ·exact absurd hs (nds s)
  obtain ⟨lastS,lastI⟩:∃ s,Gn (ss.map V.str) (-1)=some (.str s):=by
   exists ss[ss.length - 1]'(by lia);have e:PX (ss.map V.str).length (-1)=some (ss.length - 1):=by
    unfold PX;rw [if_neg (by decide),if_pos (by lia)];congr 1;lia
   unfold Gn;rw [e];show (ss.map V.str)[ss.length - 1]? = _
   rw [Z0,Zt (by lia)];rfl
  have takeD:∀ H:Hp,AB H ((ss.map V.str).take ((ss.map V.str).length - 1)) ((ss.take (ss.length - 1)).map PyData.str):=fun H=>by
   rw [ln,<-eJ];exact BE H _
  have QC:∀ {H':Hp} {T:Addr},H' T=some (.tup (ss.map V.str ++ (ss.map V.str).drop ((ss.map V.str).length - 1)))->Ca K sites x H' (.ref T):=fun {H' T} hT=>by
   rw [ln,<-eK,<-Z7] at hT;refine .inr ⟨_,Fe.strs hT (by rw [Zy,ZU]; lia) (fun s hs=>?_),Rv un0⟩;rcases Z9.mp hs with hs | hs
   ·exact sh s hs
   ·exact sh s (aU hs)
  have twice:∀ {H':Hp} {T:Addr},H' T=some (.tup (ss.map V.str ++ ss.map V.str))->ss.map V.str=(ss.map V.str).drop ((ss.map V.str).length - 1)->Ca K sites x H' (.ref T):=fun {H' T} hT e=>QC (by rw [<-e]; exact hT)
  obtain ⟨Φ,eΦ⟩:∃ Φ:St->Hp->Prop,Φ=fun σ H=>(∃ f1:Option V,σ=[some (.ref o),f1])/\H o=some (.tup (ss.map V.str)):=⟨_,rfl⟩
  have hΦ:∀ {σ:St} {H:Hp},Φ σ H->(∃ f1:Option V,σ=[some (.ref o),f1])/\H o=some (.tup (ss.map V.str)):=fun h=>by rw [eΦ] at h; exact h
  have mkΦ:∀ {H:Hp} (f1:Option V),H o=some (.tup (ss.map V.str))->Φ [some (.ref o),f1] H:=fun f1 a=>by rw [eΦ]; exact ⟨⟨f1,rfl⟩,a⟩
  have stΦ:Sf Φ:=fun σ H H' h s=>by
   obtain ⟨⟨f1,rfl⟩,a⟩:=hΦ h;exact mkΦ _ (s _ _ a)
  clear eΦ;refine ⟨_,(Ag (Ar (i:=1) nd rfl (Or.inl rfl) (E8 (by decide) (Ap stΦ (Ca.stay (K:=K) (sites:=sites) (x:=x))
    (DO E3 (fun H=>.non) (fun H h=>.inl (h.noTup fun s e=>by cases e)))
    (Ap stΦ (Ca.stay (K:=K) (sites:=sites) (x:=x))
    (DO Af (fun H=>.int 0) (fun H h=>.inl (h.noTup fun s e=>by cases e)))
    (Ap stΦ (Ca.stay (K:=K) (sites:=sites) (x:=x))
    (DO Du (fun H=>.str "a") (fun H h=>.inl (h.noTup fun s e=>by cases e)))
    (Ap stΦ (Ca.stay (K:=K) (sites:=sites) (x:=x))
    ((Bl Ad).weak (fun σ H Q ⟨g,k⟩=>by exact ⟨ZQ _,fun p hp=>k _ _ (Ac hp) (.inl (Cj Ab))⟩))
    (Ap stΦ (Ca.stay (K:=K) (sites:=sites) (x:=x))
    ((Dw).weak (fun σ H Q ⟨g,k⟩=>by exact fun p hp=>k _ _ (Ac hp) (.inl (F9 Ab))))
    (Ap stΦ (Ca.stay (K:=K) (sites:=sites) (x:=x))
    ((As Ad).weak (fun σ H Q ⟨g,k⟩=>by exact ⟨ZQ _,fun p hp=>k _ _ (Ac hp) (.inr ⟨[],⟨p,[],rfl,Ab,.nil,(fun s hs=>nomatch hs),ZQ _⟩,Rw⟩)⟩))
    (Ap stΦ (Ca.stay (K:=K) (sites:=sites) (x:=x))
    ((A3 Cv (by rfl) h_list PyProof.Rows.boot_list (Aa (pv 0) Ad)).weak (fun σ H Q ⟨g,k⟩=>by obtain ⟨⟨f1,rfl⟩,ho⟩:=hΦ g; exact ⟨_,rfl,o,_,rfl,.inr (A4.of ho),fun l hl=>k _ _ (Ac hl) (.inl (Cj Ab))⟩))
    (Ap stΦ (Ca.stay (K:=K) (sites:=sites) (x:=x))
    ((Aq (Bn K rfl) (pv 0) (Bi (Ol K rfl) (pv 0) (Bo (FZ Er Af)) Bp)).weak (fun σ H Q ⟨g,k⟩=>by obtain ⟨⟨f1,rfl⟩,ho⟩:=hΦ g; refine ⟨_,rfl,_,rfl,_,rfl,_,rfl,?_⟩; dsimp only [C4]; exact ⟨o,_,rfl,A4.of ho,fun hw=>by have ew:=OL hw.1 un; exact EC (K:=K) ho ho (by lia) fun T H' s' hT=>k _ _ s' (twice hT ew),fun _ p hp=>by rw [OH _ un]; exact EC (K:=K) (Ac hp _ _ ho) Ab (by rw [ZU]; lia) fun T H' s' hT=>k _ _ ((Ac hp).trans s') (QC hT)⟩))
    (Ap stΦ (Ca.stay (K:=K) (sites:=sites) (x:=x))
    ((Aq (Bn K rfl) (pv 0) (As (Aa E3 Ad))).weak (fun σ H Q ⟨g,k⟩=>by obtain ⟨⟨f1,rfl⟩,ho⟩:=hΦ g; exact ⟨_,rfl,(by show 1<=sizeLine; lia),fun p hp=>EC (K:=K) (Ac hp _ _ ho) Ab (by show _ + 1<=sizeLine; lia) fun T H' s' hT=>k _ _ ((Ac hp).trans s') (.inr ⟨ss.map PyData.str ++ [.none],⟨T,_,rfl,hT,BP (BE _ ss) (.cons .non .nil),sh1 _ (fun s=>by simp),by rw [Zy]; show _ + 1<=60; lia⟩,KW (d:=.none) (by simp) (fun s e=>by cases e)⟩)⟩))
    (Ap stΦ (Ca.stay (K:=K) (sites:=sites) (x:=x))
    ((Aq (Bn K rfl) (pv 0) (As (Aa Af Ad))).weak (fun σ H Q ⟨g,k⟩=>by obtain ⟨⟨f1,rfl⟩,ho⟩:=hΦ g; exact ⟨_,rfl,(by show 1<=sizeLine; lia),fun p hp=>EC (K:=K) (Ac hp _ _ ho) Ab (by show _ + 1<=sizeLine; lia) fun T H' s' hT=>k _ _ ((Ac hp).trans s') (.inr ⟨ss.map PyData.str ++ [.int 0],⟨T,_,rfl,hT,BP (BE _ ss) (.cons (.int _) .nil),sh1 _ (fun s=>by simp),by rw [Zy]; show _ + 1<=60; lia⟩,KW (d:=.int 0) (by simp) (fun s e=>by cases e)⟩)⟩))
    Dx))))))))))))
  (Ak (A8 (Aq EX (pv 1) (E8 (by decide) (Ap stΦ (Ca.stay (K:=K) (sites:=sites) (x:=x))
    ((AD (AU K rfl) (pv 0) Af (fun _ _=>rfl)).weak (fun σ H Q ⟨g,k⟩=>by obtain ⟨⟨f1,rfl⟩,ho⟩:=hΦ g; exact ⟨_,rfl,o,_,_,_,rfl,rfl,A4.of ho,Cw (j:=0) (by rw [Z0,Zt (show 0 < ss.length by lia)]; rfl),k _ _ (Ao.refl _) (.inl ((Fj.str _).noTup fun s e=>by cases e))⟩))
    (Ap stΦ (Ca.stay (K:=K) (sites:=sites) (x:=x))
    ((As (Aa (pv 0) Ad)).weak (fun σ H Q ⟨g,k⟩=>by obtain ⟨⟨f1,rfl⟩,ho⟩:=hΦ g; exact ⟨_,rfl,(by show 1<=sizeLine; lia),fun p hp=>k _ _ (Ac hp) (.inr ⟨[.tuple (ss.map PyData.str)],⟨p,_,rfl,Ab,.cons (.tup (Ac hp _ _ ho) (BE _ ss)) .nil,(fun s hs=>by simp at hs),by show 1<=60; decide⟩,KW (d:=.tuple (ss.map PyData.str)) (by simp) (fun s e=>by cases e)⟩)⟩))
    (Ap stΦ (Ca.stay (K:=K) (sites:=sites) (x:=x))
    ((Aq (Bn K rfl) (Bi (B9 K rfl) (pv 0) Bp (Bo (FZ Er Af))) (As (Aa (Bl (Aa (AD (AU K rfl) (pv 0) (FZ Er Af) (fun _ _=>rfl)) Ad)) Ad))).weak (fun σ H Q ⟨g,k⟩=>by obtain ⟨⟨f1,rfl⟩,ho⟩:=hΦ g; refine ⟨_,rfl,_,rfl,_,rfl,o,_,rfl,A4.of ho,YC,fun p hp=>?_⟩; rw [MA _ un]; exact ⟨_,rfl,_,rfl,o,_,_,_,rfl,rfl,A4.of (Ac hp _ _ ho),lastI,(by show 1<=sizeLine; lia),fun l hl=>⟨(by show 1<=sizeLine; lia),fun p2 Sk=>EC (K:=K) (Ac Sk _ _ (Ac hl _ _ Ab)) Ab (by rw [ZE]; show _ + 1<=sizeLine; lia) fun T H' s' hT=>k _ _ ((Ac hp).trans ((Ac hl).trans ((Ac Sk).trans s'))) (.inr ⟨(ss.take (ss.length - 1)).map PyData.str ++ [.list [.str lastS]],⟨T,_,rfl,hT,BP (takeD _) (.cons (.lst (s' _ _ (Ac Sk _ _ Ab)) (.cons (.str _) .nil)) .nil),sh2 _ (fun s=>by simp),by rw [Zy,ZE,Zv]; show _ + 1<=60; lia⟩,KW (d:=.list [.str lastS]) (by simp) (fun s e=>by cases e)⟩)⟩⟩))
    Dx)))))))),?_⟩
  refine ⟨mkΦ _ ho0,fun l1 EH H1 s1 HS ok1 n1=>?_⟩;have q1:=Ac (o:=.lst EH) HS;have RH:(upd H1 l1 (.lst EH)) l1=some (.lst EH):=Ab;generalize upd H1 l1 (.lst EH)=H2 at q1 RH ⊢;have J3:=s1.trans q1;refine ⟨_,rfl,mkΦ _ (J3 _ _ ho0),fun l2 MX H3 s3 HF ok2 n2=>?_⟩;have q3:=Ac (o:=.lst MX) HF;have RG:(upd H3 l2 (.lst MX)) l2=some (.lst MX):=Ab;generalize upd H3 l2 (.lst MX)=H4 at q3 RG ⊢;refine ⟨l1,l2,EH,MX,rfl,rfl,q3 _ _ (s3 _ _ RH),RG,by lia,fun l3 Zd=>?_⟩;have q4:=Ac (o:=.lst (EH ++ MX)) Zd;refine k _ l3 _ (J3.trans (s3.trans (q3.trans q4))) Ab (fun u hu=>?_) (by rw [Zy,n1,n2]; decide);rcases Z9.mp hu with hu | hu
  ·exact Ca.stay _ _ _ (ok1 u hu) (q1.trans (s3.trans (q3.trans q4)))
  ·exact Ca.stay _ _ _ (ok2 u hu) (q3.trans q4)
end
section
variable {P:Program} {w:World} {K:Zw} {mg:Str->Option Value} {base:Heap}
theorem HN (h_len:mg "len"=none) (h_list:mg "list"=none) {f:Addr} {fd:FuncData} (F:DQ K "_law_odd_rows" "_law_odd_rows" BC f fd):A7 P w K mg base Bw 1 f fd ["_law_rows","_law_other","_law_at"] (Fl K):=by
 refine F.ok EE (fun vs H Q E h=>?_) (fun cdv A outer s H vs Q E hr h=>?_)
 ·obtain ⟨t,w0,i,us,ys,ps,rfl,_⟩:=h;rfl
 ·obtain ⟨t,w0,i,us,ys,ps,rfl,Wb,UT,hi,l30,nd1,nm,nz,k⟩:=h;have nd:=EE.nd;have hu:=CO hr;have big:100000 < sizeLine:=by decide
  have ul:=UT.1;have EL:i < us.length:=by lia
  have un:1<=us.length:=by lia
  obtain ⟨tt,y0,p0,ey,ep,e2,htt⟩:=UT.get (Zt EL);have ym:=Zx ey;have zno:false=(AL (Str.ofString "zzzzzz") && decide (Str.ofString "zzzzzz"=y0)):=by rw [decide_eq_false fun e=>nz y0 ym e.symm,cJ]
  have YC:¬ (HT.sIx us.length 0 none=0/\HT.sIx us.length us.length (some (-1))=us.length):=fun z=>by
   have:=z.2;unfold HT.sIx at this;simp only [] at this;split at this <;> lia
  have nw2:¬ (HT.sIx us.length 0 (some 1)=0/\HT.sIx us.length us.length none=us.length):=fun z=>by
   have:=z.1;rw [show (1:Int)=((1:Nat):Int) by rfl,HT.sIx_nat] at this;lia
  have nw3:1 < us.length->¬ (HT.sIx us.length 0 none=0/\HT.sIx us.length us.length (some 1)=us.length):=fun h1 z=>by
   have:=z.2;rw [show (1:Int)=((1:Nat):Int) by rfl,HT.sIx_nat] at this;lia
  obtain ⟨Φ,eΦ⟩:∃ Φ:St->Hp->Prop,Φ=fun σ H=>(∃ f5 f6:Option V,σ=[some (.ref t),some w0,some (.int i),some (.str y0),some p0,f5,f6])/\H t=some (.tup us)/\AN H us ys ps:=⟨_,rfl⟩
  have hΦ:∀ {σ:St} {H:Hp},Φ σ H->(∃ f5 f6:Option V,σ=[some (.ref t),some w0,some (.int i),some (.str y0),some p0,f5,f6])/\H t=some (.tup us)/\AN H us ys ps:=fun h=>by rw [eΦ] at h; exact h
  have mkΦ:∀ {H:Hp} (f5 f6:Option V),H t=some (.tup us)->AN H us ys ps->Φ [some (.ref t),some w0,some (.int i),some (.str y0),some p0,f5,f6] H:=fun f5 f6 a b=>by rw [eΦ]; exact ⟨⟨f5,f6,rfl⟩,a,b⟩
  have stΦ:Sf Φ:=fun σ H H' h s=>by
   obtain ⟨⟨f5,f6,rfl⟩,a,b⟩:=hΦ h;exact mkΦ _ _ (s _ _ a) (b.same s)
  have wrong:∀ {H H':Hp} {p:Addr} {vs:List V} {zs:List Str} {qs:List V},H' p=some (.tup vs)->AN H vs zs qs->(∀ z ∈ zs,AL z=true)->(zs.length=ys.length->False)->Ao H H'->Be K us ys i w0 H' (.ref p):=fun h1 h2 h3 h4 s=>.inl (ET h1 (h2.same s) h3 fun e=>h4 (congrArg aP e))
  have bentS:Jz (fun H v=>Ep K H v y0 false\/∃ (tt:Addr) (p:V),v=.ref tt/\H tt=some (.tup [.str y0,p])/\Qq K w0 H p):=fun v H H' h s=>by
   rcases h with h | ⟨a,b,c,d,e⟩
   ·exact .inl (h.same s)
   ·exact .inr ⟨a,b,c,s _ _ d,e.same s⟩
  clear eΦ;refine ⟨_,(Ag (Ds (AD (AU K rfl) (pv 0) (pv 2) (fun _ _=>rfl)) (Ba K rfl rfl (Am (Ai (i:=3) nd rfl (Or.inl rfl)) (Am (Ai (i:=4) nd rfl (Or.inl rfl)) AZ))))
  (Ag (Ar (i:=5) nd rfl (Or.inl rfl) (E8 (by decide) (Ap stΦ (Be.stay (K:=K) (us:=us) (ys:=ys) (i:=i) (w:=w0))
    (DO E3 (fun H=>.non) (fun H h=>.inl (.inl ⟨rfl,h.noTup fun s e=>by cases e⟩)))
    (Ap stΦ (Be.stay (K:=K) (us:=us) (ys:=ys) (i:=i) (w:=w0))
    (DO Af (fun H=>.int 0) (fun H h=>.inl (.inl ⟨rfl,h.noTup fun s e=>by cases e⟩)))
    (Ap stΦ (Be.stay (K:=K) (us:=us) (ys:=ys) (i:=i) (w:=w0))
    (DO Du (fun H=>.str "rows") (fun H h=>.inl (.inl ⟨rfl,h.noTup fun s e=>by cases e⟩)))
    (Ap stΦ (Be.stay (K:=K) (us:=us) (ys:=ys) (i:=i) (w:=w0))
    ((Bl Ad).weak (fun σ H Q ⟨g,k⟩=>by exact ⟨ZQ _,fun p hp=>k _ _ (Ac hp) (.inl (.inl ⟨rfl,Cj Ab⟩))⟩))
    (Ap stΦ (Be.stay (K:=K) (us:=us) (ys:=ys) (i:=i) (w:=w0))
    ((Dw).weak (fun σ H Q ⟨g,k⟩=>by exact fun p hp=>k _ _ (Ac hp) (.inl (.inl ⟨rfl,F9 Ab⟩))))
    (Ap stΦ (Be.stay (K:=K) (us:=us) (ys:=ys) (i:=i) (w:=w0))
    ((As Ad).weak (fun σ H Q ⟨g,k⟩=>by exact ⟨ZQ _,fun p hp=>k _ _ (Ac hp) (wrong (H:=H) Ab AN.nil (fun z hz=>nomatch hz) (fun e=>by simp at e; lia) (Ac hp))⟩))
    (Ap stΦ (Be.stay (K:=K) (us:=us) (ys:=ys) (i:=i) (w:=w0))
    ((A3 Cv (by rfl) h_list PyProof.Rows.boot_list (Aa (pv 0) Ad)).weak (fun σ H Q ⟨g,k⟩=>by obtain ⟨⟨f5,f6,rfl⟩,ht,ra⟩:=hΦ g; exact ⟨_,rfl,t,us,rfl,.inr (A4.of ht),fun l hl=>k _ _ (Ac hl) (.inl (.inl ⟨rfl,Cj Ab⟩))⟩))
    (Ap stΦ (Be.stay (K:=K) (us:=us) (ys:=ys) (i:=i) (w:=w0))
    ((Bi (B9 K rfl) (pv 0) Bp (Bo (FZ Er Af))).weak (fun σ H Q ⟨g,k⟩=>by obtain ⟨⟨f5,f6,rfl⟩,ht,ra⟩:=hΦ g; refine ⟨_,rfl,_,rfl,_,rfl,t,us,rfl,A4.of ht,YC,fun p hp=>?_⟩; rw [MA us un]; exact k _ _ (Ac hp) (wrong Ab (ra.take _) (fun z hz=>nm z (aN hz)) (fun e=>by rw [ZE] at e; lia) (Ac hp))))
    (Ap stΦ (Be.stay (K:=K) (us:=us) (ys:=ys) (i:=i) (w:=w0))
    ((Aq (Bn K rfl) (pv 0) (Bi (Ol K rfl) (pv 0) (Bo (FZ Er Af)) Bp)).weak (fun σ H Q ⟨g,k⟩=>by obtain ⟨⟨f5,f6,rfl⟩,ht,ra⟩:=hΦ g; refine ⟨_,rfl,_,rfl,_,rfl,_,rfl,?_⟩; dsimp only [C4]; exact ⟨t,us,rfl,A4.of ht,fun _=>EC (K:=K) ht ht (by lia) fun T H' s' hT=>k _ _ s' (wrong hT (ra.app ra) (fun z hz=>(Z9.mp hz).elim (nm z) (nm z)) (fun e=>by rw [Zy] at e; lia) s'),fun _ p hp=>by rw [OH us un]; exact EC (K:=K) (Ac hp _ _ ht) Ab (by rw [ZU]; lia) fun T H' s' hT=>k _ _ ((Ac hp).trans s') (wrong hT (ra.app (ra.drop _)) (fun z hz=>(Z9.mp hz).elim (nm z) fun h=>nm z (aU h)) (fun e=>by rw [Zy,ZU] at e; lia) ((Ac hp).trans s'))⟩))
    (Ap stΦ (Be.stay (K:=K) (us:=us) (ys:=ys) (i:=i) (w:=w0))
    ((Aq (Bn K rfl) (pv 0) (As (Aa (As (Aa Du (Aa (pv 4) Ad))) Ad))).weak (fun σ H Q ⟨g,k⟩=>by obtain ⟨⟨f5,f6,rfl⟩,ht,ra⟩:=hΦ g; exact ⟨_,rfl,_,rfl,(by show 2<=sizeLine; lia),fun p1 Ui=>⟨(by show 1<=sizeLine; lia),fun p2 Sk=>EC (K:=K) (Ac Sk _ _ (Ac Ui _ _ ht)) Ab (by show _ + 1<=sizeLine; lia) fun T H' s' hT=>k _ _ ((Ac Ui).trans ((Ac Sk).trans s')) (wrong (H:=H') hT ((ra.same ((Ac Ui).trans ((Ac Sk).trans s'))).app (AN.one (s' _ _ (Ac Sk _ _ Ab)))) (fun z hz=>(Z9.mp hz).elim (nm z) fun h=>by rw [ZH.mp h]; decide +kernel) (fun e=>by rw [Zy] at e; simp at e) (Ao.refl _))⟩⟩))
    Dx))))))))))))
  (Ag (Ar (i:=6) nd rfl (Or.inl rfl) (E8 (by decide) (Ap stΦ (bentS)
    ((As (Aa Du (Aa (pv 4) Ad))).weak (fun σ H Q ⟨g,k⟩=>by obtain ⟨⟨f5,f6,rfl⟩,ht,ra⟩:=hΦ g; exact ⟨_,rfl,(by show 2<=sizeLine; lia),fun p hp=>k _ _ (Ac hp) (.inl (.inr ⟨p,_,rfl,Ab,.inr ⟨_,_,rfl,.inr ⟨_,rfl,(by decide),zno⟩⟩⟩))⟩))
    (Ap stΦ (bentS)
    ((Bl (Aa (pv 3) (Aa (pv 4) Ad))).weak (fun σ H Q ⟨g,k⟩=>by obtain ⟨⟨f5,f6,rfl⟩,ht,ra⟩:=hΦ g; exact ⟨_,rfl,_,rfl,(by show 2<=sizeLine; lia),fun p hp=>k _ _ (Ac hp) (.inl (.inl ⟨rfl,Cj Ab⟩))⟩))
    (Ap stΦ (bentS)
    ((As (Aa (pv 3) (Aa (pv 4) (Aa (pv 4) Ad)))).weak (fun σ H Q ⟨g,k⟩=>by obtain ⟨⟨f5,f6,rfl⟩,ht,ra⟩:=hΦ g; exact ⟨_,rfl,_,rfl,_,rfl,(by show 3<=sizeLine; lia),fun p hp=>k _ _ (Ac hp) (.inl (.inr ⟨p,_,rfl,Ab,.inl ⟨by show 3 ≠ 2; decide,rfl⟩⟩))⟩))
    (Ap stΦ (bentS)
    ((As (Aa (pv 3) Ad)).weak (fun σ H Q ⟨g,k⟩=>by obtain ⟨⟨f5,f6,rfl⟩,ht,ra⟩:=hΦ g; exact ⟨_,rfl,(by show 1<=sizeLine; lia),fun p hp=>k _ _ (Ac hp) (.inl (.inr ⟨p,_,rfl,Ab,.inl ⟨by show 1 ≠ 2; decide,rfl⟩⟩))⟩))
    (Ap stΦ (bentS)
    (g_var (pv 3) fun σ H g=>by obtain ⟨⟨f5,f6,rfl⟩,ht,ra⟩:=hΦ g; exact ⟨_,rfl,.inl (.inl ⟨rfl,(Fj.str y0).noTup fun s e=>by cases e⟩)⟩)
    (Ap stΦ (bentS)
    (DO E3 (fun H=>.non) (fun H h=>.inl (.inl ⟨rfl,h.noTup fun s e=>by cases e⟩)))
    (Ap stΦ (bentS)
    ((As (Aa (pv 3) (Aa E3 Ad))).weak (fun σ H Q ⟨g,k⟩=>by obtain ⟨⟨f5,f6,rfl⟩,ht,ra⟩:=hΦ g; exact ⟨_,rfl,(by show 2<=sizeLine; lia),fun p hp=>k _ _ (Ac hp) (.inr ⟨p,_,rfl,Ab,.inr (.inr ⟨⟨_,.non,rfl⟩,⟨_,.non,rfl⟩⟩)⟩)⟩))
    (Ap stΦ (bentS)
    ((As (Aa (pv 3) (Aa (pv 1) Ad))).weak (fun σ H Q ⟨g,k⟩=>by obtain ⟨⟨f5,f6,rfl⟩,ht,ra⟩:=hΦ g; exact ⟨_,rfl,_,rfl,(by show 2<=sizeLine; lia),fun p hp=>k _ _ (Ac hp) (.inr ⟨p,_,rfl,Ab,.inl rfl⟩)⟩))
    Dx))))))))))
  (Ag (Ar (i:=6) nd rfl (Or.inl rfl) (Aq EX (pv 6) (E8 (by decide) (Ap stΦ (bentS)
    ((As (Aa (pv 3) (Aa (Bl (Aa (pv 4) Ad)) Ad))).weak (fun σ H Q ⟨g,k⟩=>by obtain ⟨⟨f5,f6,rfl⟩,ht,ra⟩:=hΦ g; exact ⟨_,rfl,_,rfl,(by show 1<=sizeLine; lia),fun l hl=>⟨(by show 2<=sizeLine; lia),fun p hp=>k _ _ ((Ac hl).trans (Ac hp)) (.inr ⟨p,_,rfl,Ab,.inr (.inr ⟨⟨_,.lst (Ac hp _ _ Ab),rfl⟩,⟨_,.lst (Ac hp _ _ Ab),rfl⟩⟩)⟩)⟩⟩))
    (Ap stΦ (bentS)
    ((As (Aa (pv 3) (Aa Dw Ad))).weak (fun σ H Q ⟨g,k⟩=>by obtain ⟨⟨f5,f6,rfl⟩,ht,ra⟩:=hΦ g; exact ⟨_,rfl,fun l hl=>⟨(by show 2<=sizeLine; lia),fun p hp=>k _ _ ((Ac hl).trans (Ac hp)) (.inr ⟨p,_,rfl,Ab,.inr (.inr ⟨⟨_,.dK (Ac hp _ _ Ab),rfl⟩,⟨_,.dK (Ac hp _ _ Ab),rfl⟩⟩)⟩)⟩⟩))
    (Ap stΦ (bentS)
    ((As (Aa (Bl (Aa (pv 3) Ad)) (Aa (pv 4) Ad))).weak (fun σ H Q ⟨g,k⟩=>by obtain ⟨⟨f5,f6,rfl⟩,ht,ra⟩:=hΦ g; exact ⟨_,rfl,(by show 1<=sizeLine; lia),fun l hl=>⟨_,rfl,(by show 2<=sizeLine; lia),fun p hp=>k _ _ ((Ac hl).trans (Ac hp)) (.inl (.inr ⟨p,_,rfl,Ab,.inr ⟨_,_,rfl,.inl ⟨⟨_,.lst (Ac hp _ _ Ab),rfl⟩,rfl⟩⟩⟩))⟩⟩))
    (Ap stΦ (bentS)
    ((As (Aa Dw (Aa (pv 4) Ad))).weak (fun σ H Q ⟨g,k⟩=>by obtain ⟨⟨f5,f6,rfl⟩,ht,ra⟩:=hΦ g; exact fun l hl=>⟨_,rfl,(by show 2<=sizeLine; lia),fun p hp=>k _ _ ((Ac hl).trans (Ac hp)) (.inl (.inr ⟨p,_,rfl,Ab,.inr ⟨_,_,rfl,.inl ⟨⟨_,.dK (Ac hp _ _ Ab),rfl⟩,rfl⟩⟩⟩))⟩))
    (Ap stΦ (bentS)
    ((As (Aa (pv 3) (Aa (As (Aa (pv 4) Ad)) Ad))).weak (fun σ H Q ⟨g,k⟩=>by obtain ⟨⟨f5,f6,rfl⟩,ht,ra⟩:=hΦ g; exact ⟨_,rfl,_,rfl,(by show 1<=sizeLine; lia),fun l hl=>⟨(by show 2<=sizeLine; lia),fun p hp=>k _ _ ((Ac hl).trans (Ac hp)) (.inr ⟨p,_,rfl,Ab,.inr (.inr ⟨⟨_,.tup (Ac hp _ _ Ab),rfl⟩,⟨_,.tup (Ac hp _ _ Ab),rfl⟩⟩)⟩)⟩⟩))
    (Ap stΦ (bentS)
    ((As (Aa (pv 3) (Aa DL Ad))).weak (fun σ H Q ⟨g,k⟩=>by obtain ⟨⟨f5,f6,rfl⟩,ht,ra⟩:=hΦ g; exact ⟨_,rfl,(by show 2<=sizeLine; lia),fun p hp=>k _ _ (Ac hp) (.inr ⟨p,_,rfl,Ab,.inr (.inl rfl)⟩)⟩))
    Dx)))))))))
  (Ag (Ar (i:=5) nd rfl (Or.inl rfl) (Aq EX (pv 5) (Bb (N:=["_law_row","_law_rows","_law_at"]) (σ0:=fun σ=>[none,some 0,some 2].map fun j=>j.bind fun j=>(σ[j]?).join) rfl (AI.caught (by rfl) (by decide +kernel) rfl (by decide +kernel) (by intro y hy; simp only [Zz,Z3,or_false] at hy; rcases hy with rfl | rfl <;> rfl)
   (by intro y hy e; simp only [Zz,Z3,or_false] at hy; rcases hy with rfl | rfl | rfl | rfl <;> first | exact ⟨_,rfl⟩ | cases e)) (fun σ _=>Bd.of [none,some 0,some 2] rfl (by
   intro i j x h1 h2;match i,h1,h2 with
   | 0,_,h2=>cases h2
   | 1,h1,h2=>cases h1; cases h2; exact ⟨rfl,.inl rfl,.inl rfl⟩
   | 2,h1,h2=>cases h1; cases h2; exact ⟨rfl,.inl rfl,.inl rfl⟩
   | n + 3,h1,_=>cases h1)) (Dt K rfl (pv 6))
   (fun s2 H C fp=>⟨(Ai (i:=0) (show (["_law_row","_law_rows","_law_at"]:List Str).Nodup by decide +kernel) rfl (Or.inl rfl)),AK,(Aq (Bn K rfl) (Aq (Bn K rfl) (Bi (B9 K rfl) (pv 1) Bp (Bo (pv 2))) (As (Aa (pv 0) Ad))) (Bi (B9 K rfl) (pv 1) (Bo (Aq Bf (pv 2) Af)) Bp))⟩))))
  (Ag (C9 (BN TX (Al (BM K rfl) (by rfl) h_len PySem.boot_len (Aa (pv 0) Ad)) Af (B5 _))
  (Ak (Ar (i:=5) nd rfl (Or.inl rfl) (Aq EX (pv 5) (Bl (Aa (Mf (pv 0) (FZ Er Af)) (Aa (Aq (Bn K rfl) (Bi (B9 K rfl) (pv 0) (Bo Af) Bp) (Bi (B9 K rfl) (pv 0) Bp (Bo Af))) Ad))))))
  B3)
  (Ak (A8 (pv 5))))))))),?_⟩
  have VG:Gn us (i:Int)=some (.ref tt):=by rw [Cw (Zt EL),e2]
  exists _,rfl,_,rfl,t,_,_,_,rfl,rfl,A4.of Wb,VG,tt,_,rfl,A4.of htt,rfl,_,_,rfl,_,_,rfl,rfl;refine ⟨mkΦ _ _ Wb UT,fun l1 EH H1 s1 HS ok1 n1=>?_⟩;have q1:=Ac (o:=.lst EH) HS;have RH:(upd H1 l1 (.lst EH)) l1=some (.lst EH):=Ab;generalize upd H1 l1 (.lst EH)=H2 at q1 RH ⊢;have Xx:=s1.trans q1;refine ⟨mkΦ _ _ (Xx _ _ Wb) (UT.same Xx),fun l2 Qx H3 s3 HF ok2 n2=>?_⟩;have q3:=Ac (o:=.lst Qx) HF;have RG:(upd H3 l2 (.lst Qx)) l2=some (.lst Qx):=Ab;generalize upd H3 l2 (.lst Qx)=H4 at q3 RG ⊢;have s24:=s3.trans q3;have s04:=Xx.trans s24;refine ⟨_,rfl,mkΦ _ _ (s04 _ _ Wb) (UT.same s04),fun l3 Qw H5 s5 Zd ok3 n3=>?_⟩;have q5:=Ac (o:=.lst Qw) Zd;have WL:(upd H5 l3 (.lst Qw)) l3=some (.lst Qw):=Ab;generalize upd H5 l3 (.lst Qw)=H6 at q5 WL ⊢;have VV:=s5.trans q5;refine ⟨l2,l3,Qx,Qw,rfl,rfl,VV _ _ RG,WL,by lia,fun R0 hR0=>?_⟩;have q6:=Ac (o:=.lst (Qx ++ Qw)) hR0;have XU:(upd H6 R0 (.lst (Qx ++ Qw))) R0=some (.lst (Qx ++ Qw)):=Ab;generalize upd H6 R0 (.lst (Qx ++ Qw))=H' at q6 XU ⊢;have UL:=VV.trans q6;have badR:∀ u ∈ Qx ++ Qw,Ep K H' u y0 false\/∃ (tt:Addr) (p:V),u=.ref tt/\H' tt=some (.tup [.str y0,p])/\Qq K w0 H' p:=fun u hu=>by
   rcases Z9.mp hu with hu | hu
   ·exact bentS _ _ _ (ok2 u hu) (q3.trans UL)
   ·exact bentS _ _ _ (ok3 u hu) (q5.trans q6)
  have rl:(Qx ++ Qw).length=14:=by rw [Zy,n2,n3]
  generalize Qx ++ Qw=rs at XU badR rl;have s2':=s24.trans UL;have s0:=Xx.trans s2';have WK:=s0 _ _ Wb;have Y5:=UT.same s0;exists _,rfl,_,rfl,R0,rfl,⟨_,AX.of XU⟩
  refine AQ BW (xs:=rs) (fun D j Ay H2 acc=>∃ v0:Option V,Ay=[v0,some (.ref t),some (.int i)]/\Ao H' H2/\H2 D=some (.lst acc)/\(∀ u ∈ acc,∃ (T:Addr) (r:V),u=.ref T/\r ∈ rs/\H2 T=some (.tup ((us.take i ++ [r]) ++ us.drop (i + 1))))/\acc.length=j)
   (by lia) (fun D hD=>⟨_,rfl,Ac hD,Ab,(fun u hu=>nomatch hu),rfl⟩) (fun D j Ay H2 acc hD ⟨v0,_,sa,Bj,_,al⟩=>⟨AX.of (sa _ _ XU),Bj,al⟩) ?_ ?_
  ·rintro D j Ay H2 acc x' Bk hD Wj ⟨v0,rfl,sa,Bj,oa,al⟩ hBk;refine ⟨_,rfl,_,rfl,_,rfl,S4 (sa _ _ WK) EL fun Z1a U1 UM Xf=>?_⟩;refine ⟨_,rfl,(by show 1<=sizeLine; lia),fun Ya hYa=>?_⟩;have Po:=Ac (o:=.tup [x']) hYa;have hYYa:(upd U1 Ya (.tup [x'])) Ya=some (.tup [x']):=Ab;generalize upd U1 Ya (.tup [x'])=H3a at Po hYYa ⊢;refine EC (K:=K) (Po _ _ Xf) hYYa (by rw [ZE]; show _ + 1<=sizeLine; lia) fun Z2a H4a UK Xd=>?_
   have sAa:=UM.trans (Po.trans UK);exists _,rfl,_,rfl,_,_,rfl,rfl,_,rfl;dsimp only [C4];refine S5 (K:=K) (sAa _ _ (sa _ _ WK)) EL fun Z3a H5a TL Xc=>?_
   refine EC (K:=K) (TL _ _ Xd) Xc (by rw [Zy,ZE,ZU]; show _ + 1 + _<=sizeLine; lia) fun Za VN Wt Xb=>?_
   have salla:=sAa.trans (TL.trans Wt);have d6:=salla _ _ Bj;have tp:∀ {b:Addr} {ys:List V},VN b=some (.tup ys)->(upd VN D (.lst (acc ++ [.ref Za]))) b=some (.tup ys):=fun {b ys} e=>by
    rw [Ae (by intro z; subst z; rw [d6] at e; cases e)];exact e
   refine hBk _ _ _ d6 ⟨_,rfl,fun b o e=>by rw [Ae (Ah e hD)]; exact salla _ _ (sa _ _ e),Ab,fun u hu=>?_,by rw [Zy,al]; rfl⟩;rcases Z9.mp hu with hu | hu
   ·obtain ⟨T',r,e,NA,Ul⟩:=oa u hu;exact ⟨T',r,e,NA,tp (salla _ _ Ul)⟩
   ·rw [ZH.mp hu];exact ⟨Za,x',rfl,Zx Wj,tp Xb⟩
  rintro D Ay VO acc hD ⟨v0,rfl,sb,Bj,oa,al⟩;have s2b:=s2'.trans sb;refine ⟨l1,D,EH,acc,rfl,rfl,s2b _ _ RH,Bj,by lia,fun L2 MM=>?_⟩;have sc:=Ac (o:=.lst (EH ++ acc)) MM;have Jj:(upd VO L2 (.lst (EH ++ acc))) L2=some (.lst (EH ++ acc)):=Ab;have SO:∀ u ∈ EH ++ acc,Be K us ys i w0 (upd VO L2 (.lst (EH ++ acc))) u:=fun u hu=>by
   rcases Z9.mp hu with hu | hu
   ·exact Be.stay _ _ _ (ok1 u hu) (q1.trans (s2b.trans sc))
   ·obtain ⟨T',r,rfl,NA,Ul⟩:=oa u hu;have sbc:=sb.trans sc;rcases badR r NA with hb | ⟨t3,p3,rfl,h3,od⟩
    ·exact .inl (Nh (sc _ _ Ul) (Y5.same sbc) nm ey (hb.same sbc))
    ·exact .inr ⟨T',t3,y0,p3,rfl,sc _ _ Ul,ey,sbc _ _ h3,od.same sbc⟩
  have Wu:Ao H (upd VO L2 (.lst (EH ++ acc))):=s0.trans (sb.trans sc);have l13:(EH ++ acc).length=24:=by rw [Zy,n1,al,rl]
  generalize upd VO L2 (.lst (EH ++ acc))=Wo at Jj SO Wu ⊢;generalize EH ++ acc=U7 at Jj SO l13 ⊢;have Td:=Wu _ _ Wb;have Y4:=UT.same Wu;exists _,rfl,t,_,rfl,.inr (A4.of Td),_,_,rfl,rfl,_,rfl;refine DT (fun z=>?_) (fun z=>⟨_,rfl,k Wo L2 U7 Wu Jj SO (by lia)⟩);have z1:1 < us.length:=by
   have:=of_decide_eq_true z;lia
  refine ⟨_,rfl,_,rfl,t,us,rfl,A4.of Td,fun pa ha=>?_⟩;have qa:=Ac (o:=.tup us.reverse) ha;have hpa:(upd Wo pa (.tup us.reverse)) pa=some (.tup us.reverse):=Ab;generalize upd Wo pa (.tup us.reverse)=Xo at qa hpa ⊢;exists _,rfl,_,rfl;dsimp only [C4];refine ⟨t,us,rfl,A4.of (qa _ _ Td),nw2,fun pb hb=>?_⟩;rw [Tq us un];have qb:=Ac (o:=.tup (us.drop 1)) hb;have hpb:(upd Xo pb (.tup (us.drop 1))) pb=some (.tup (us.drop 1)):=Ab;generalize upd Xo pb (.tup (us.drop 1))=Xn at qb hpb ⊢;refine ⟨_,rfl,_,rfl,t,us,rfl,A4.of (qb _ _ (qa _ _ Td)),nw3 z1,fun pc hc=>?_⟩;rw [Qm us z1];have qc:=Ac (o:=.tup (us.take 1)) hc;have hpc:(upd Xn pc (.tup (us.take 1))) pc=some (.tup (us.take 1)):=Ab;generalize upd Xn pc (.tup (us.take 1))=H16 at qc hpc ⊢;refine EC (K:=K) (qc _ _ hpb) hpc (by rw [ZU,ZE]; lia) fun pd H17 qd hpd=>?_
  refine ⟨(by show 2<=sizeLine; lia),fun L3 ML=>?_⟩;have qe:=Ac (o:=.lst [.ref pa,.ref pd]) ML;have Lk:(upd H17 L3 (.lst [.ref pa,.ref pd])) L3=some (.lst [.ref pa,.ref pd]):=Ab;generalize upd H17 L3 (.lst [.ref pa,.ref pd])=H18 at qe Lk ⊢;have TM:=qa.trans (qb.trans (qc.trans (qd.trans qe)));refine ⟨L2,L3,U7,_,rfl,rfl,TM _ _ Jj,Lk,(by show _ + 2<=sizeLine; lia),fun L4 Wh=>?_⟩;have qf:=Ac (o:=.lst (U7 ++ [.ref pa,.ref pd])) Wh;have sf:=TM.trans qf;refine ⟨_,rfl,k _ L4 _ (Wu.trans sf) Ab (fun u hu=>?_) (by rw [Zy,l13]; show 24 + 2<=30; decide)⟩;have raF:=Y4.same sf;rcases Z9.mp hu with hu | hu
  ·exact Be.stay _ _ _ (SO u hu) sf
  ·rcases Zz.mp hu with rfl | hu
   ·exact .inl (ET (us:=us.reverse) ((qb.trans (qc.trans (qd.trans (qe.trans qf)))) _ _ hpa) raF.rev (fun z hz=>nm z (List.mem_reverse.mp hz)) (US nd1 (by lia)))
   ·rw [ZH.mp hu];exact .inl (ET (us:=us.drop 1 ++ us.take 1) ((qe.trans qf) _ _ hpd) ((raF.drop 1).app (raF.take 1)) (fun z hz=>(Z9.mp hz).elim (fun h=>nm z (aU h)) fun h=>nm z (aN h)) (UR nd1 (by lia)))
end
section
variable {P:Program} {w:World} {K:Zw} {mg:Str->Option Value} {base:Heap}
theorem lawC (h_str:mg "str"=none) {fOR:Addr} {fdOR:FuncData} (XOR:Fn K mg "_law_odd_rows" BC ["_law_rows","_law_other","_law_at"] fOR fdOR) (GOR:A7 P w K mg base Bw 1 fOR fdOR ["_law_rows","_law_other","_law_at"] (Fl K)) {fLB:Addr} {fdLB:FuncData} (XLB:Fn K mg "lets_by" Dh ["case","paper"] fLB fdLB) (GLB:A7 P w K mg base Bw 7 fLB fdLB ["case","paper"] (HZ K))
  {f:Addr} {cdv:Value} {A:Around} {outer:List Env} {s:Shared} {H:Hp} {E:XK} (hr:DX 7 (A.deeper (PyProof.Rows.envOfC "law" (An FX) s.heap.objs.size f cdv))) :
  ∃ tl,MP (Lo Bw P w K mg base ["_law_script","_law_k","_law_pen_here","_law_case_here","_law_right_here","_law_opening","_law_walks","_law_prices_here","_law_levy","_law_at","_law_some_here","_law_thing"] "law" (An FX) f cdv A outer s H E).nox ((OB ((Cu FX).getD 0 (.Pass ⟨0,0,0,0⟩))).drop 9) tl /\
   ∀ (W:Fi) (H6:Hp) (c m pp o t T:Addr) (g n:Nat) (xs:List Str) (ws:List AH) (Aw Au:List AV) (x:V) (d:PyData) (ss:List Str) (zs:List (Str × Str)) (qs:List AV) (lv:Int) (L3:Addr) (OV:List V) (b0 b1 b2 v10 v11:Option V),J6 H6 c m pp o t T n xs ws Aw Au x d ss zs qs lv->(∀ r ∈ Au,r.2<=4)->(∀ y ∈ Au.map (·.1),AL y=true)->(∀ y ∈ Au.map (·.1),y ≠ Str.ofString "zzzzzz")->Str.ofString "zzzzzz" ∉ ss->g < Au.length->H6 L3=some (.lst OV)->OV.length<=72->(∀ u ∈ OV,Bx K Aw Au x H6 u) ->
    (∀ (Hm:Hp) (v10 v11:Option V),Ao H6 Hm->W.nx [b0,b1,b2,some (.ref c),some (.ref pp),some (.ref o),some (.ref t),some (.ref T),some (.int lv),some (.int (g:Int)),v10,v11] Hm)->tl W [b0,b1,b2,some (.ref c),some (.ref pp),some (.ref o),some (.ref t),some (.ref T),some (.int lv),some (.int (g:Int)),some (.ref L3),v11] H6:=by
 have nd:=KC.nd;have hu:=CO hr;have big:100000 < sizeLine:=by decide
 obtain ⟨Φ,eΦ⟩:∃ Φ:St->Hp->Prop,Φ=fun σ H=>∃ (pp:Addr) (o t T:V) (lv:Int) (v0 v1 v2 v3 v5 v6 v7 v9 v10 v11:Option V),σ=[v0,v1,v2,v3,some (.ref pp),v5,v6,v7,some (.int lv),v9,v10,v11]/\H pp=some (.tup [o,t,T,.int lv])/\0<=lv/\lv<=1000:=⟨_,rfl⟩
 have hΦ:∀ {σ:St} {H:Hp},Φ σ H->∃ (pp:Addr) (o t T:V) (lv:Int) (v0 v1 v2 v3 v5 v6 v7 v9 v10 v11:Option V),σ=[v0,v1,v2,v3,some (.ref pp),v5,v6,v7,some (.int lv),v9,v10,v11]/\H pp=some (.tup [o,t,T,.int lv])/\0<=lv/\lv<=1000:=fun h=>by rw [eΦ] at h; exact h
 have mkΦ:∀ {σ:St} {H:Hp},(∃ (pp:Addr) (o t T:V) (lv:Int) (v0 v1 v2 v3 v5 v6 v7 v9 v10 v11:Option V),σ=[v0,v1,v2,v3,some (.ref pp),v5,v6,v7,some (.int lv),v9,v10,v11]/\H pp=some (.tup [o,t,T,.int lv])/\0<=lv/\lv<=1000)->Φ σ H:=fun h=>by rw [eΦ]; exact h
 have stΦ:Sf Φ:=fun σ H H' h s=>by
  obtain ⟨pp,o,t,T,lv,v0,v1,v2,v3,v5,v6,v7,v9,v10,v11,e,hpp,r⟩:=hΦ h;exact mkΦ ⟨pp,o,t,T,lv,v0,v1,v2,v3,v5,v6,v7,v9,v10,v11,e,s _ _ hpp,r⟩
 clear eΦ;refine ⟨_,(Ag (Ar (i:=10) nd rfl (Or.inl rfl) (Aq EX (pv 10) (Bb (N:=["_law_one","_law_opening","_law_walks","_law_levy"]) (σ0:=fun σ=>[none,some 5,some 6,some 8].map fun j=>j.bind fun j=>(σ[j]?).join) rfl (AI.caught (by rfl) (by decide +kernel) rfl (by decide +kernel) (by intro y hy; simp only [Zz,Z3,or_false] at hy; rcases hy with rfl | rfl | rfl <;> rfl)
   (by intro y hy e; simp only [Zz,Z3,or_false] at hy; rcases hy with rfl | rfl | rfl | rfl | rfl <;> first | exact ⟨_,rfl⟩ | cases e)) (fun σ _=>Bd.of [none,some 5,some 6,some 8] rfl (by
   intro i j x h1 h2;match i,h1,h2 with
   | 0,_,h2=>cases h2
   | 1,h1,h2=>cases h1; cases h2; exact ⟨rfl,.inl rfl,.inl rfl⟩
   | 2,h1,h2=>cases h1; cases h2; exact ⟨rfl,.inl rfl,.inl rfl⟩
   | 3,h1,h2=>cases h1; cases h2; exact ⟨rfl,.inl rfl,.inl rfl⟩
   | n + 4,h1,_=>cases h1)) (Dt K rfl (Aj GOR (hr.mono (by decide)) (by rfl) XOR.mg XOR.F.kp XOR.b .nil Az (Aa (pv 7) (Aa (FZ Er Af) (Aa (pv 9) Ad)))))
   (fun s2 H C fp=>⟨(Ai (i:=0) (show (["_law_one","_law_opening","_law_walks","_law_levy"]:List Str).Nodup by decide +kernel) rfl (Or.inl rfl)),AK,(As (Aa (pv 1) (Aa (pv 2) (Aa (pv 0) (Aa (pv 3) Ad)))))⟩))))
  (Ag (Ar (i:=10) nd rfl (Or.inl rfl) (Aq EX (pv 10) (Bb (N:=["_law_one","_law_opening","_law_walks","_law_prices_here"]) (σ0:=fun σ=>[none,some 5,some 6,some 7].map fun j=>j.bind fun j=>(σ[j]?).join) rfl (AI.caught (by rfl) (by decide +kernel) rfl (by decide +kernel) (by intro y hy; simp only [Zz,Z3,or_false] at hy; rcases hy with rfl | rfl | rfl <;> rfl)
   (by intro y hy e; simp only [Zz,Z3,or_false] at hy; rcases hy with rfl | rfl | rfl | rfl | rfl <;> first | exact ⟨_,rfl⟩ | cases e)) (fun σ _=>Bd.of [none,some 5,some 6,some 7] rfl (by
   intro i j x h1 h2;match i,h1,h2 with
   | 0,_,h2=>cases h2
   | 1,h1,h2=>cases h1; cases h2; exact ⟨rfl,.inl rfl,.inl rfl⟩
   | 2,h1,h2=>cases h1; cases h2; exact ⟨rfl,.inl rfl,.inl rfl⟩
   | 3,h1,h2=>cases h1; cases h2; exact ⟨rfl,.inl rfl,.inl rfl⟩
   | n + 4,h1,_=>cases h1)) (Dt K rfl (E8 (by decide) (Ap stΦ (CG.stay (K:=K) (b:=false))
    ((FZ Er Af).weak (fun σ H Q ⟨g,k⟩=>by exact ⟨_,rfl,k _ _ (Ao.refl _) (.inl ⟨_,rfl,by decide⟩)⟩))
    (Ap stΦ (CG.stay (K:=K) (b:=false))
    (DO DL (fun H=>.bl true) (fun H h=>.inr ⟨rfl,.inl ⟨_,rfl⟩⟩))
    (Ap stΦ (CG.stay (K:=K) (b:=false))
    (DO DL (fun H=>.bl false) (fun H h=>.inr ⟨rfl,.inl ⟨_,rfl⟩⟩))
    (Ap stΦ (CG.stay (K:=K) (b:=false))
    (DO E3 (fun H=>.non) (fun H h=>.inr ⟨rfl,.inr ⟨_,h.ty,rfl⟩⟩))
    (Ap stΦ (CG.stay (K:=K) (b:=false))
    ((A3 Lp (by rfl) h_str PyProof.Rows.boot_str (Aa (pv 8) Ad)).weak (fun σ H Q ⟨g,k⟩=>by obtain ⟨pp,o,t,T,lv,v0,v1,v2,v3,v5,v6,v7,v9,v10,v11,rfl,hpp,l0,l9⟩:=hΦ g; exact ⟨_,rfl,_,rfl,Vo l0 (bC l9 (by decide +kernel)),k _ _ (Ao.refl _) (.inr ⟨rfl,.inr ⟨_,.str _,rfl⟩⟩)⟩))
    (Ap stΦ (CG.stay (K:=K) (b:=false))
    ((As (Aa (pv 8) Ad)).weak (fun σ H Q ⟨g,k⟩=>by obtain ⟨pp,o,t,T,lv,v0,v1,v2,v3,v5,v6,v7,v9,v10,v11,rfl,hpp,l0,l9⟩:=hΦ g; exact ⟨_,rfl,(by show 1<=sizeLine; lia),fun p hp=>k _ _ (Ac hp) (.inr ⟨rfl,.inr ⟨_,.tup Ab,rfl⟩⟩)⟩))
    (Ap stΦ (CG.stay (K:=K) (b:=false))
    ((Bl (Aa (pv 8) Ad)).weak (fun σ H Q ⟨g,k⟩=>by obtain ⟨pp,o,t,T,lv,v0,v1,v2,v3,v5,v6,v7,v9,v10,v11,rfl,hpp,l0,l9⟩:=hΦ g; exact ⟨_,rfl,(by show 1<=sizeLine; lia),fun p hp=>k _ _ (Ac hp) (.inr ⟨rfl,.inr ⟨_,.lst Ab,rfl⟩⟩)⟩))
    Dx)))))))))
   (fun s2 H C fp=>⟨(Ai (i:=0) (show (["_law_one","_law_opening","_law_walks","_law_prices_here"]:List Str).Nodup by decide +kernel) rfl (Or.inl rfl)),AK,(As (Aa (pv 1) (Aa (pv 2) (Aa (pv 3) (Aa (pv 0) Ad)))))⟩))))
  (Ak (Cb PassesOwn.never rfl (Dt K rfl (pv 10)) (Ai (i:=11) nd rfl (Or.inl rfl))
  (Ak (C9 (BN Hr (Aj GLB (hr.mono (by decide)) (by rfl) XLB.mg XLB.F.kp XLB.b .nil Az (Aa (pv 3) (Aa (pv 11) Ad))) DL (B5 _))
  (Ak (A8 DL))
  B3)))))),?_⟩
 intro W H6 c m pp o t T g n xs ws Aw Au x d ss zs qs lv L3 OV b0 b1 b2 v10 v11 p6 few nmy nzy nzs e1 Lk ln3 VE fin;have l10:=p6.l10;have l1:=p6.cp.cw.l1;have l2:=p6.cp.cw.l2;have Yw:1<=ss.length:=cq fun e=>p6.ne (aJ.mp e)
 have isop:=p6.isop;have pd:=p6;obtain ⟨pus,hTe,raP⟩:=pd.cp.rowsP;refine ⟨_,rfl,_,rfl,_,rfl,_,rfl,T,.int (-1),g,pus,Au.map (·.1),_,rfl,hTe,raP,by rw [Zv]; lia,by rw [Zv]; lia,pd.cp.cw.ok2.nd,nmy,nzy,fun Hf LP ps2 sf hLP okP nP=>⟨LP,rfl,⟨_,AX.of hLP⟩,?_⟩⟩;have pf:=pd.same sf;refine AQ BW (xs:=ps2) (fun D j Ay H2 acc=>(∃ v0:Option V,Ay=[v0,some (.ref o),some (.ref t),some (.int lv)])/\GK (fun v=>[.ref o,.ref t,v,.int lv]) ps2 Hf D j H2 acc)
  (by lia) (fun D hD=>⟨⟨_,rfl⟩,GK.nil hD⟩) (fun D j Ay H2 acc hD hM=>⟨AX.of (hM.2.s _ _ hLP),hM.2.l,hM.2.n⟩) ?_ ?_
 ·rintro D j Ay H2 acc x' Bk hD ex ⟨⟨v0,rfl⟩,hM⟩ hBk;have xm:=Zx ex;refine ⟨_,rfl,_,rfl,_,rfl,_,rfl,(by show 4<=sizeLine; lia),fun Tz hTz=>?_⟩;obtain ⟨m1,m2⟩:=hM.next hD (Ac (o:=.tup [.ref o,.ref t,x',.int lv]) hTz) (T:=Tz) (r:=x') Ab xm;exact hBk _ _ _ m1 ⟨⟨_,rfl⟩,m2⟩
 rintro Dg Ay Hg accg hDg ⟨⟨v0,rfl⟩,Mg⟩;refine ⟨L3,Dg,OV,accg,rfl,rfl,Mg.s _ _ (sf _ _ Lk),Mg.l,by have:=Mg.n; lia,fun L4 Wh=>?_⟩;have qg:=Ac (o:=.lst (OV ++ accg)) Wh;have M4:(upd Hg L4 (.lst (OV ++ accg))) L4=some (.lst (OV ++ accg)):=Ab;have pg:=(pf.same Mg.s).same qg;have VD:∀ u ∈ OV ++ accg,Bx K Aw Au x (upd Hg L4 (.lst (OV ++ accg))) u:=fun u hu=>by
  rcases Z9.mp hu with hu | hu
  ·exact Bx.stay _ _ _ (VE u hu) (sf.trans (Mg.s.trans qg))
  ·obtain ⟨Tz,r,rfl,NA,hTz⟩:=Mg.o u hu;have sx:=sf.trans (Mg.s.trans qg);refine .inr ⟨Tz,_,rfl,qg _ _ hTz,.inr ⟨_,_,_,_,rfl,.inr ⟨o,ss,rfl,pg.op,isop,by lia,.inr ⟨pg.goes,.inl ?_⟩⟩⟩⟩;refine (Be.stay _ _ _ (okP r NA) (Mg.s.trans qg)).prices (raP.same sx) (fun p hp=>?_);obtain ⟨q,hq,rfl⟩:=Z6.mp hp;exact ⟨q.2,rfl,pg.cp.ok.lo q hq⟩
 have ln4:(OV ++ accg).length<=102:=by rw [Zy,Mg.n]; lia
 generalize upd Hg L4 (.lst (OV ++ accg))=Hh at qg M4 VD pg ⊢;generalize OV ++ accg=Sz at M4 VD ln4 ⊢;refine ⟨_,rfl,mkΦ ⟨pp,_,_,_,lv,_,_,_,_,_,_,_,_,_,_,rfl,pg.pap,pg.lev.1,pg.lev.2.1⟩,fun B0 bs HB sB hB0 okB nB=>⟨B0,rfl,⟨_,AX.of Ab⟩,?_⟩⟩;have O9:(upd HB B0 (.lst bs)) B0=some (.lst bs):=Ab;have Ws:=sB.trans (Ac (o:=.lst bs) hB0);have Wy:∀ u ∈ bs,CG K (upd HB B0 (.lst bs)) u 0 false:=fun u hu=>(okB u hu).same (Ac hB0)
 generalize upd HB B0 (.lst bs)=Hi at O9 Ws Wy ⊢;have pi:=pg.same Ws;refine AQ BW (xs:=bs) (fun D j Ay H2 acc=>(∃ v0:Option V,Ay=[v0,some (.ref o),some (.ref t),some (.ref T)])/\GK (fun v=>[.ref o,.ref t,.ref T,v]) bs Hi D j H2 acc)
  (by lia) (fun D hD=>⟨⟨_,rfl⟩,GK.nil hD⟩) (fun D j Ay H2 acc hD hM=>⟨AX.of (hM.2.s _ _ O9),hM.2.l,hM.2.n⟩) ?_ ?_
 ·rintro D j Ay H2 acc x' Bk hD ex ⟨⟨v0,rfl⟩,hM⟩ hBk;have xm:=Zx ex;refine ⟨_,rfl,_,rfl,_,rfl,_,rfl,(by show 4<=sizeLine; lia),fun Tz hTz=>?_⟩;obtain ⟨m1,m2⟩:=hM.next hD (Ac (o:=.tup [.ref o,.ref t,.ref T,x']) hTz) (T:=Tz) (r:=x') Ab xm;exact hBk _ _ _ m1 ⟨⟨_,rfl⟩,m2⟩
 rintro Dk Ay Hk acck hDk ⟨⟨v0,rfl⟩,Mk⟩;refine ⟨L4,Dk,Sz,acck,rfl,rfl,Mk.s _ _ (Ws _ _ M4),Mk.l,by have:=Mk.n; lia,fun L5 Um=>?_⟩;have qk:=Ac (o:=.lst (Sz ++ acck)) Um;have V2:(upd Hk L5 (.lst (Sz ++ acck))) L5=some (.lst (Sz ++ acck)):=Ab;have pk:=(pi.same Mk.s).same qk;have Xj:∀ u ∈ Sz ++ acck,Bx K Aw Au x (upd Hk L5 (.lst (Sz ++ acck))) u:=fun u hu=>by
  rcases Z9.mp hu with hu | hu
  ·exact Bx.stay _ _ _ (VD u hu) (Ws.trans (Mk.s.trans qk))
  ·obtain ⟨Tz,r,rfl,NA,hTz⟩:=Mk.o u hu;refine .inr ⟨Tz,_,rfl,qk _ _ hTz,.inr ⟨_,_,_,_,rfl,.inr ⟨o,ss,rfl,pk.op,isop,by lia,.inr ⟨pk.goes,.inr ⟨.inl ⟨rfl,(Wy r NA).same (Mk.s.trans qk)⟩,T,qs,rfl,pk.cp.ex,pk.cp.ok⟩⟩⟩⟩⟩
 have skk:Ao H6 (upd Hk L5 (.lst (Sz ++ acck))):=sf.trans (Mg.s.trans (qg.trans (Ws.trans (Mk.s.trans qk))));generalize upd Hk L5 (.lst (Sz ++ acck))=Hl at qk V2 Xj pk skk ⊢;refine ⟨_,rfl,L5,rfl,⟨_,AX.of V2⟩,Qc (xs:=Sz ++ acck) (fun _ σ H'=>(∃ v11:Option V,σ=[b0,b1,b2,some (.ref c),some (.ref pp),some (.ref o),some (.ref t),some (.ref T),some (.int lv),some (.int (g:Int)),some (.ref L5),v11])/\Ao Hl H') ⟨⟨_,rfl⟩,Ao.refl _⟩ (fun i σ H' _ hP=>AX.of (hP.2 _ _ V2)) (fun i v σ H' hv hP rt bk N hN=>?_) (fun σ Hm hP=>?_)⟩
 ·obtain ⟨⟨v11,rfl⟩,sa⟩:=hP;refine ⟨_,rfl,_,rfl,c,m,n,xs,ws,Aw,Au,x,d,v,rfl,pk.cp.cw.same sa,few,.inl ⟨Bx.stay _ _ _ (Xj v (Zx hv)) sa,fun Hn sn=>⟨_,_,rfl,rfl,_,rfl,?_⟩⟩⟩;refine BO ?_;exact hN _ _ ⟨⟨_,rfl⟩,sa.trans sn⟩
 ·obtain ⟨⟨v11,rfl⟩,sm⟩:=hP;exact fin _ _ _ (skk.trans sm)
end
end K21
set_option maxHeartbeats 0
namespace K21
open PySem L2
section
variable {P:Program} {w:World} {K:Zw} {mg:Str->Option Value} {base:Heap}
theorem lawB (h_list:mg "list"=none) (h_str:mg "str"=none) {fOO:Addr} {fdOO:FuncData} (XOO:Fn K mg "_law_odd_openings" Bu ["_law_opening"] fOO fdOO) (GOO:A7 P w K mg base Bw 1 fOO fdOO ["_law_opening"] (IB K)) {fOR:Addr} {fdOR:FuncData} (XOR:Fn K mg "_law_odd_rows" BC ["_law_rows","_law_other","_law_at"] fOR fdOR) (GOR:A7 P w K mg base Bw 1 fOR fdOR ["_law_rows","_law_other","_law_at"] (Fl K)) {fLB:Addr} {fdLB:FuncData} (XLB:Fn K mg "lets_by" Dh ["case","paper"] fLB fdLB) (GLB:A7 P w K mg base Bw 7 fLB fdLB ["case","paper"] (HZ K))
  {f:Addr} {cdv:Value} {A:Around} {outer:List Env} {s:Shared} {H:Hp} {E:XK} (hr:DX 7 (A.deeper (PyProof.Rows.envOfC "law" (An FX) s.heap.objs.size f cdv))) :
  ∃ tl,MP (Lo Bw P w K mg base ["_law_script","_law_k","_law_pen_here","_law_case_here","_law_right_here","_law_opening","_law_walks","_law_prices_here","_law_levy","_law_at","_law_some_here","_law_thing"] "law" (An FX) f cdv A outer s H E).nox ((OB ((Cu FX).getD 0 (.Pass ⟨0,0,0,0⟩))).drop 6) tl /\
   ∀ (W:Fi) (H6:Hp) (c m pp o t T:Addr) (g n:Nat) (xs:List Str) (ws:List AH) (Aw Au:List AV) (x:V) (d:PyData) (ss:List Str) (zs:List (Str × Str)) (qs:List AV) (lv:Int)  (b0 b1 b2 v10 v11:Option V),J6 H6 c m pp o t T n xs ws Aw Au x d ss zs qs lv->(∀ r ∈ Au,r.2<=4)->(∀ y ∈ Au.map (·.1),AL y=true)->(∀ y ∈ Au.map (·.1),y ≠ Str.ofString "zzzzzz")->Str.ofString "zzzzzz" ∉ ss->g < Au.length->
    (∀ (Hm:Hp) (v10 v11:Option V),Ao H6 Hm->W.nx [b0,b1,b2,some (.ref c),some (.ref pp),some (.ref o),some (.ref t),some (.ref T),some (.int lv),some (.int (g:Int)),v10,v11] Hm)->tl W [b0,b1,b2,some (.ref c),some (.ref pp),some (.ref o),some (.ref t),some (.ref T),some (.int lv),some (.int (g:Int)),v10,v11] H6:=by
 have nd:=KC.nd;have hu:=CO hr;have big:100000 < sizeLine:=by decide
 obtain ⟨Φ,eΦ⟩:∃ Φ:St->Hp->Prop,Φ=fun σ H=>∃ (pp:Addr) (o t T:V) (lv:Int) (v0 v1 v2 v3 v5 v6 v7 v9 v10 v11:Option V),σ=[v0,v1,v2,v3,some (.ref pp),v5,v6,v7,some (.int lv),v9,v10,v11]/\H pp=some (.tup [o,t,T,.int lv])/\0<=lv/\lv<=1000:=⟨_,rfl⟩
 have hΦ:∀ {σ:St} {H:Hp},Φ σ H->∃ (pp:Addr) (o t T:V) (lv:Int) (v0 v1 v2 v3 v5 v6 v7 v9 v10 v11:Option V),σ=[v0,v1,v2,v3,some (.ref pp),v5,v6,v7,some (.int lv),v9,v10,v11]/\H pp=some (.tup [o,t,T,.int lv])/\0<=lv/\lv<=1000:=fun h=>by rw [eΦ] at h; exact h
 have mkΦ:∀ {σ:St} {H:Hp},(∃ (pp:Addr) (o t T:V) (lv:Int) (v0 v1 v2 v3 v5 v6 v7 v9 v10 v11:Option V),σ=[v0,v1,v2,v3,some (.ref pp),v5,v6,v7,some (.int lv),v9,v10,v11]/\H pp=some (.tup [o,t,T,.int lv])/\0<=lv/\lv<=1000)->Φ σ H:=fun h=>by rw [eΦ]; exact h
 have stΦ:Sf Φ:=fun σ H H' h s=>by
  obtain ⟨pp,o,t,T,lv,v0,v1,v2,v3,v5,v6,v7,v9,v10,v11,e,hpp,r⟩:=hΦ h;exact mkΦ ⟨pp,o,t,T,lv,v0,v1,v2,v3,v5,v6,v7,v9,v10,v11,e,s _ _ hpp,r⟩
 clear eΦ;obtain ⟨tlC,htC,rdC⟩:=lawC (P:=P) (w:=w) (K:=K) (mg:=mg) (base:=base) h_str XOR GOR XLB GLB (f:=f) (cdv:=cdv) (A:=A) (outer:=outer) (s:=s) (H:=H) (E:=E) hr;refine ⟨_,(Ag (Ar (i:=10) nd rfl (Or.inl rfl) (E8 (by decide) (Ap stΦ (Ff.stay (K:=K))
    (DO E3 (fun H=>.non) (fun H h=>.inl (h.noTup fun s e=>by cases e)))
    (Ap stΦ (Ff.stay (K:=K))
    (DO Af (fun H=>.int 0) (fun H h=>.inl (h.noTup fun s e=>by cases e)))
    (Ap stΦ (Ff.stay (K:=K))
    (DO DL (fun H=>.bl true) (fun H h=>.inl (h.noTup fun s e=>by cases e)))
    (Ap stΦ (Ff.stay (K:=K))
    (DO Du (fun H=>.str "paper") (fun H h=>.inl (h.noTup fun s e=>by cases e)))
    (Ap stΦ (Ff.stay (K:=K))
    ((Bl Ad).weak (fun σ H Q ⟨g,k⟩=>by exact ⟨ZQ _,fun p hp=>k _ _ (Ac hp) (.inl (Cj Ab))⟩))
    (Ap stΦ (Ff.stay (K:=K))
    ((Dw).weak (fun σ H Q ⟨g,k⟩=>by exact fun p hp=>k _ _ (Ac hp) (.inl (F9 Ab))))
    (Ap stΦ (Ff.stay (K:=K))
    ((As Ad).weak (fun σ H Q ⟨g,k⟩=>by exact ⟨ZQ _,fun p hp=>k _ _ (Ac hp) (.inr ⟨p,[],rfl,Ab,.inl (by decide)⟩)⟩))
    (Ap stΦ (Ff.stay (K:=K))
    ((A3 Cv (by rfl) h_list PyProof.Rows.boot_list (Aa (pv 4) Ad)).weak (fun σ H Q ⟨g,k⟩=>by obtain ⟨pp,o,t,T,lv,v0,v1,v2,v3,v5,v6,v7,v9,v10,v11,rfl,hpp,l0,l9⟩:=hΦ g; exact ⟨_,rfl,pp,_,rfl,.inr (A4.of hpp),fun l hl=>k _ _ (Ac hl) (.inl (Cj Ab))⟩))
    (Ap stΦ (Ff.stay (K:=K))
    ((Bi (B9 K rfl) (pv 4) Bp (Bo Af)).weak (fun σ H Q ⟨g,k⟩=>by obtain ⟨pp,o,t,T,lv,v0,v1,v2,v3,v5,v6,v7,v9,v10,v11,rfl,hpp,l0,l9⟩:=hΦ g; exact ⟨_,rfl,_,rfl,pp,_,rfl,A4.of hpp,(fun z=>absurd z.2 (show ¬HT.sIx 4 4 (some 3)=4 by decide)),fun p hp=>k _ _ (Ac hp) (.inr ⟨p,_,rfl,Ab,.inl (by show (Em _ _ _).length ≠ 4; exact (by decide:(3:Nat) ≠ 4))⟩)⟩))
    (Ap stΦ (Ff.stay (K:=K))
    ((Bi (B9 K rfl) (pv 4) (Bo Af) Bp).weak (fun σ H Q ⟨g,k⟩=>by obtain ⟨pp,o,t,T,lv,v0,v1,v2,v3,v5,v6,v7,v9,v10,v11,rfl,hpp,l0,l9⟩:=hΦ g; refine ⟨_,rfl,_,rfl,?_⟩; dsimp only [C4]; exact ⟨pp,_,rfl,A4.of hpp,(fun z=>absurd z.1 (show ¬HT.sIx 4 0 (some 1)=0 by decide)),fun p hp=>k _ _ (Ac hp) (.inr ⟨p,_,rfl,Ab,.inl (by show (Em _ _ _).length ≠ 4; exact (by decide:(3:Nat) ≠ 4))⟩)⟩))
    (Ap stΦ (Ff.stay (K:=K))
    ((Aq (Bn K rfl) (pv 4) (As (Aa (pv 8) Ad))).weak (fun σ H Q ⟨g,k⟩=>by obtain ⟨pp,o,t,T,lv,v0,v1,v2,v3,v5,v6,v7,v9,v10,v11,rfl,hpp,l0,l9⟩:=hΦ g; exact ⟨_,rfl,_,rfl,(by show 1<=sizeLine; lia),fun p hp=>EC (K:=K) (Ac hp _ _ hpp) Ab (by show 5<=sizeLine; lia) fun Tz H' s' hT=>k _ _ ((Ac hp).trans s') (.inr ⟨Tz,_,rfl,hT,.inl (by show (5:Nat) ≠ 4; decide)⟩)⟩))
    (Ap stΦ (Ff.stay (K:=K))
    ((Mf (pv 4) (FZ Er Af)).weak (fun σ H Q ⟨g,k⟩=>by obtain ⟨pp,o,t,T,lv,v0,v1,v2,v3,v5,v6,v7,v9,v10,v11,rfl,hpp,l0,l9⟩:=hΦ g; exact ⟨_,rfl,pp,_,rfl,A4.of hpp,fun p hp=>k _ _ (Ac hp) (.inr ⟨p,_,rfl,Ab,.inr ⟨.int lv,_,rfl,⟨_,.int _,rfl⟩⟩⟩)⟩))
    Dx))))))))))))))
  (Ag (Ar (i:=10) nd rfl (Or.inl rfl) (Aq EX (pv 10) (Bb (N:=["_law_one","_law_right_here"]) (σ0:=fun σ=>[none,some 4].map fun j=>j.bind fun j=>(σ[j]?).join) rfl (AI.caught (by rfl) (by decide +kernel) rfl (by decide +kernel) (by intro y hy; simp only [Zz,Z3,or_false] at hy; rcases hy with rfl <;> rfl)
   (by intro y hy e; simp only [Zz,Z3,or_false] at hy; rcases hy with rfl | rfl | rfl <;> first | exact ⟨_,rfl⟩ | cases e)) (fun σ _=>Bd.of [none,some 4] rfl (by
   intro i j x h1 h2;match i,h1,h2 with
   | 0,_,h2=>cases h2
   | 1,h1,h2=>cases h1; cases h2; exact ⟨rfl,.inl rfl,.inl rfl⟩
   | n + 2,h1,_=>cases h1)) (Dt K rfl (Aj GOO (hr.mono (by decide)) (by rfl) XOO.mg XOO.F.kp XOO.b .nil Az (Aa (pv 5) Ad)))
   (fun s2 H C fp=>⟨(Ai (i:=0) (show (["_law_one","_law_right_here"]:List Str).Nodup by decide +kernel) rfl (Or.inl rfl)),AK,(Aq (Bn K rfl) (As (Aa (pv 0) Ad)) (Bi (B9 K rfl) (pv 1) (Bo Af) Bp))⟩))))
  (Ag (Ar (i:=10) nd rfl (Or.inl rfl) (Aq EX (pv 10) (Bb (N:=["_law_one","_law_opening","_law_prices_here","_law_levy"]) (σ0:=fun σ=>[none,some 5,some 7,some 8].map fun j=>j.bind fun j=>(σ[j]?).join) rfl (AI.caught (by rfl) (by decide +kernel) rfl (by decide +kernel) (by intro y hy; simp only [Zz,Z3,or_false] at hy; rcases hy with rfl | rfl | rfl <;> rfl)
   (by intro y hy e; simp only [Zz,Z3,or_false] at hy; rcases hy with rfl | rfl | rfl | rfl | rfl <;> first | exact ⟨_,rfl⟩ | cases e)) (fun σ _=>Bd.of [none,some 5,some 7,some 8] rfl (by
   intro i j x h1 h2;match i,h1,h2 with
   | 0,_,h2=>cases h2
   | 1,h1,h2=>cases h1; cases h2; exact ⟨rfl,.inl rfl,.inl rfl⟩
   | 2,h1,h2=>cases h1; cases h2; exact ⟨rfl,.inl rfl,.inl rfl⟩
   | 3,h1,h2=>cases h1; cases h2; exact ⟨rfl,.inl rfl,.inl rfl⟩
   | n + 4,h1,_=>cases h1)) (Dt K rfl (Aj GOR (hr.mono (by decide)) (by rfl) XOR.mg XOR.F.kp XOR.b .nil Az (Aa (pv 6) (Aa Du (Aa (pv 9) Ad)))))
   (fun s2 H C fp=>⟨(Ai (i:=0) (show (["_law_one","_law_opening","_law_prices_here","_law_levy"]:List Str).Nodup by decide +kernel) rfl (Or.inl rfl)),AK,(As (Aa (pv 1) (Aa (pv 0) (Aa (pv 2) (Aa (pv 3) Ad)))))⟩))))
  htC))),?_⟩
 intro W H6 c m pp o t T g n xs ws Aw Au x d ss zs qs lv b0 b1 b2 v10 v11 p6 few nmy nzy nzs e1 fin;have l10:=p6.l10;have l1:=p6.cp.cw.l1;have l2:=p6.cp.cw.l2;have Yw:1<=ss.length:=cq fun e=>p6.ne (aJ.mp e)
 refine ⟨mkΦ ⟨pp,_,_,_,lv,_,_,_,_,_,_,_,_,_,_,rfl,p6.pap,p6.lev.1,p6.lev.2.1⟩,fun L1 EH H7 s7 V3 ok1 n1=>?_⟩;have RL:(upd H7 L1 (.lst EH)) L1=some (.lst EH):=Ab;have Yx:=Ac (o:=.lst EH) V3;have Xk:∀ u ∈ EH,Bx K Aw Au x (upd H7 L1 (.lst EH)) u:=fun u hu=>(Ff.stay _ _ _ (ok1 u hu) Yx).bad
 generalize upd H7 L1 (.lst EH)=H8 at Yx RL Xk ⊢;have s68:=s7.trans Yx;have p8:=p6.same s68;refine ⟨_,rfl,_,rfl,o,ss,Aw.map (·.1),x,rfl,p8.op,Yw,by lia,fun s hs=>(p8.inx s hs).2,fun H9 LO os s9 hLO okO nO=>⟨LO,rfl,⟨_,AX.of hLO⟩,?_⟩⟩;have p9:=p8.same s9;refine AQ BW (xs:=os) (fun D j Ay H2 acc=>(∃ v0:Option V,Ay=[v0,some (.ref pp)])/\GK (fun v=>[v,.ref t,.ref T,.int lv]) os H9 D j H2 acc)
  (by lia) (fun D hD=>⟨⟨_,rfl⟩,GK.nil hD⟩) (fun D j Ay H2 acc hD hM=>⟨AX.of (hM.2.s _ _ hLO),hM.2.l,hM.2.n⟩) ?_ ?_
 ·rintro D j Ay H2 acc x' Bk hD ex ⟨⟨v0,rfl⟩,hM⟩ hBk;have xm:=Zx ex;refine ⟨_,rfl,(by show 1<=sizeLine; lia),fun Y hY=>?_⟩;have qY:=Ac (o:=.tup [x']) hY;have hYY:(upd H2 Y (.tup [x'])) Y=some (.tup [x']):=Ab;generalize upd H2 Y (.tup [x'])=H3' at qY hYY ⊢;exists _,rfl,_,rfl;dsimp only [C4];refine ⟨pp,_,rfl,A4.of (qY _ _ (hM.s _ _ p9.pap)),(fun z=>absurd z.1 (show ¬HT.sIx 4 0 (some 1)=0 by decide)),fun Z hZ=>?_⟩;have qZ:=Ac (o:=.tup [.ref t,.ref T,.int lv]) hZ;refine EC (K:=K) (ys:=[.ref t,.ref T,.int lv]) (qZ _ _ hYY) Ab (by show 4<=sizeLine; lia) fun Tz H4' UL hTz=>?_
  obtain ⟨m1,m2⟩:=hM.next hD (qY.trans (qZ.trans UL)) (T:=Tz) (r:=x') hTz xm;exact hBk _ _ _ m1 ⟨⟨_,rfl⟩,m2⟩
 rintro Da Ay Ha acca hDa ⟨⟨v0,rfl⟩,Ma⟩;have pa1:=p9.same Ma.s;refine ⟨L1,Da,EH,acca,rfl,rfl,Ma.s _ _ (s9 _ _ RL),Ma.l,by have:=Ma.n; lia,fun L2 MM=>?_⟩;have qa:=Ac (o:=.lst (EH ++ acca)) MM;have Jj:(upd Ha L2 (.lst (EH ++ acca))) L2=some (.lst (EH ++ acca)):=Ab;have VF:∀ u ∈ EH ++ acca,Bx K Aw Au x (upd Ha L2 (.lst (EH ++ acca))) u:=fun u hu=>by
  rcases Z9.mp hu with hu | hu
  ·exact Bx.stay _ _ _ (Xk u hu) (s9.trans (Ma.s.trans qa))
  ·obtain ⟨Tz,r,rfl,NA,hTz⟩:=Ma.o u hu;exact .inr ⟨Tz,_,rfl,qa _ _ hTz,.inr ⟨_,_,_,_,rfl,.inl (Ca.stay _ _ _ (okO r NA) (Ma.s.trans qa))⟩⟩
 have ln2:(EH ++ acca).length<=42:=by rw [Zy,n1,Ma.n]; lia
 have pb:=pa1.same qa;generalize upd Ha L2 (.lst (EH ++ acca))=Hb at qa Jj VF pb ⊢;generalize EH ++ acca=MX at Jj VF ln2 ⊢;obtain ⟨wus,htB,raW⟩:=pb.rowsW;refine ⟨_,rfl,_,rfl,_,rfl,t,.str (Str.ofString "zzzzzz"),g,wus,Au.map (·.1),_,rfl,htB,raW,by rw [Zv]; lia,by rw [Zv]; lia,pb.cp.cw.ok2.nd,nmy,nzy,fun Hc LW Xr sc hLW okW nW=>⟨LW,rfl,⟨_,AX.of hLW⟩,?_⟩⟩;have pc:=pb.same sc;refine AQ BW (xs:=Xr) (fun D j Ay H2 acc=>(∃ v0:Option V,Ay=[v0,some (.ref o),some (.ref T),some (.int lv)])/\GK (fun v=>[.ref o,v,.ref T,.int lv]) Xr Hc D j H2 acc)
  (by lia) (fun D hD=>⟨⟨_,rfl⟩,GK.nil hD⟩) (fun D j Ay H2 acc hD hM=>⟨AX.of (hM.2.s _ _ hLW),hM.2.l,hM.2.n⟩) ?_ ?_
 ·rintro D j Ay H2 acc x' Bk hD ex ⟨⟨v0,rfl⟩,hM⟩ hBk;have xm:=Zx ex;refine ⟨_,rfl,_,rfl,_,rfl,_,rfl,(by show 4<=sizeLine; lia),fun Tz hTz=>?_⟩;obtain ⟨m1,m2⟩:=hM.next hD (Ac (o:=.tup [.ref o,x',.ref T,.int lv]) hTz) (T:=Tz) (r:=x') Ab xm;exact hBk _ _ _ m1 ⟨⟨_,rfl⟩,m2⟩
 rintro Dd Ay Hd accd hDd ⟨⟨v0,rfl⟩,Md⟩;refine ⟨L2,Dd,MX,accd,rfl,rfl,Md.s _ _ (sc _ _ Jj),Md.l,by have:=Md.n; lia,fun L3 ML=>?_⟩;have qd:=Ac (o:=.lst (MX ++ accd)) ML;have Lk:(upd Hd L3 (.lst (MX ++ accd))) L3=some (.lst (MX ++ accd)):=Ab;have pd:=(pc.same Md.s).same qd;have isop:=pd.isop;have VE:∀ u ∈ MX ++ accd,Bx K Aw Au x (upd Hd L3 (.lst (MX ++ accd))) u:=fun u hu=>by
  rcases Z9.mp hu with hu | hu
  ·exact Bx.stay _ _ _ (VF u hu) (sc.trans (Md.s.trans qd))
  ·obtain ⟨Tz,r,rfl,NA,hTz⟩:=Md.o u hu;have sx:=sc.trans (Md.s.trans qd);refine .inr ⟨Tz,_,rfl,qd _ _ hTz,.inr ⟨_,_,_,_,rfl,.inr ⟨o,ss,rfl,pd.op,isop,by lia,.inl ?_⟩⟩⟩;refine (Be.stay _ _ _ (okW r NA) (Md.s.trans qd)).goes (raW.same sx) (fun p hp=>?_) nzs;obtain ⟨z,hz,rfl⟩:=Z6.mp hp;exact ⟨z.2,rfl,(pd.inx _ (pd.zs' z hz)).2,pd.zs' z hz⟩
 have ln3:(MX ++ accd).length<=72:=by rw [Zy,Md.n]; lia
 have sall:Ao H6 (upd Hd L3 (.lst (MX ++ accd))):=s68.trans (s9.trans (Ma.s.trans (qa.trans (sc.trans (Md.s.trans qd)))));exact rdC _ _ c m pp o t T g n xs ws Aw Au x d ss zs qs lv L3 _ _ _ _ none _ pd few nmy nzy nzs e1 Lk ln3 VE fun Hm a b sm=>fin Hm a b (sall.trans sm)
end
end K21
set_option maxHeartbeats 4000000
namespace K21
open PySem L2
def Of (K:Zw):Sp:=fun vs H Q _=>∃ (a:Addr) (ns:List Int),vs=[.ref a]/\Tt K H a (ns.map V.int)/\ns.length<=63/\∀ H',Q (.bl true) H'
section
variable {P:Program} {w:World} {K:Zw} {mg:Str->Option Value} {base:Heap}
theorem Vj (h_len:mg "len"=none) (h_list:mg "list"=none) (h_range:mg "range"=none) (h_str:mg "str"=none) {fE:Addr} {fdE:FuncData} (XE:Fn K mg "_law_pen" Fp ["_law_script","_law_k"] fE fdE) (GE:A7 P w K mg base Bw 1 fE fdE ["_law_script","_law_k"] (QL K)) {fT:Addr} {fdT:FuncData} (XT:Fn K mg "_law_take" Bt ["_law_pen_here","_law_many"] fT fdT) (GT:A7 P w K mg base Bw 1 fT fdT ["_law_pen_here","_law_many"] CQ) {fC:Addr} {fdC:FuncData} (XC:Fn K mg "_law_case" Ex ["_law_pen_here","_law_kind"] fC fdC) (GC:A7 P w K mg base Bw 3 fC fdC ["_law_pen_here","_law_kind"] Oj) {fFL:Addr} {fdFL:FuncData} (XFL:Fn K mg "_law_fars" Ew ["_law_case_here"] fFL fdFL) (GFL:A7 P w K mg base Bw 1 fFL fdFL ["_law_case_here"] Oi) {fRI:Addr} {fdRI:FuncData} (XRI:Fn K mg "_law_right" DF ["_law_pen_here","_law_case_here","_law_away"] fRI fdRI) (GRI:A7 P w K mg base Bw 4 fRI fdRI ["_law_pen_here","_law_case_here","_law_away"] LM) {fLB:Addr} {fdLB:FuncData} (XLB:Fn K mg "lets_by" Dh ["case","paper"] fLB fdLB) (GLB:A7 P w K mg base Bw 7 fLB fdLB ["case","paper"] (HZ K)) {fOO:Addr} {fdOO:FuncData} (XOO:Fn K mg "_law_odd_openings" Bu ["_law_opening"] fOO fdOO) (GOO:A7 P w K mg base Bw 1 fOO fdOO ["_law_opening"] (IB K)) {fOR:Addr} {fdOR:FuncData} (XOR:Fn K mg "_law_odd_rows" BC ["_law_rows","_law_other","_law_at"] fOR fdOR) (GOR:A7 P w K mg base Bw 1 fOR fdOR ["_law_rows","_law_other","_law_at"] (Fl K)) {f:Addr} {fd:FuncData}
  (F:DQ K "law" "law" FX f fd):A7 P w K mg base Bw 8 f fd ["_law_script"] (Of K):=by
 refine F.ok KC (fun vs H Q E h=>?_) (fun cdv A outer s H vs Q E hr h=>?_)
 ·obtain ⟨a,ns,rfl,_⟩:=h;rfl
 ·obtain ⟨a,ns,rfl,hS,hlen,k⟩:=h;have nd:=KC.nd;have big:100000 < sizeLine:=by decide
  obtain ⟨tlB,htB,rdB⟩:=lawB (P:=P) (w:=w) (K:=K) (mg:=mg) (base:=base) h_list h_str XOO GOO XOR GOR XLB GLB (f:=f) (cdv:=cdv) (A:=A) (outer:=outer) (s:=s) (H:=H) (E:=E) hr;refine ⟨_,(Ag (Cb PassesOwn.never rfl (Dm (by rfl) h_range (Aa Af Ad)) (Ai (i:=1) nd rfl (Or.inl rfl))
  (Ag (Ar (i:=2) nd rfl (Or.inl rfl) (Aj GE (hr.mono (by decide)) (by rfl) XE.mg XE.F.kp XE.b .nil Az (Aa (pv 0) (Aa (pv 1) Ad))))
  (Ag (Ar (i:=3) nd rfl (Or.inl rfl) (Aj GC (hr.mono (by decide)) (by rfl) XC.mg XC.F.kp XC.b .nil Az (Aa (pv 2) (Aa (Aj GT (hr.mono (by decide)) (by rfl) XT.mg XT.F.kp XT.b .nil Az (Aa (pv 2) (Aa Af Ad))) Ad))))
  (Ag (Ar (i:=4) nd rfl (Or.inr rfl) (Aj GRI (hr.mono (by decide)) (by rfl) XRI.mg XRI.F.kp XRI.b .nil Az (Aa (pv 2) (Aa (pv 3) (Aa (Aj GFL (hr.mono (by decide)) (by rfl) XFL.mg XFL.F.kp XFL.b .nil Az (Aa (pv 3) Ad)) Ad)))))
  (Ag (C9 (BN Hr (Aj GLB (hr.mono (by decide)) (by rfl) XLB.mg XLB.F.kp XLB.b .nil Az (Aa (pv 3) (Aa (pv 4) Ad))) DL (B5 _))
  (Ak (A8 DL))
  B3)
  (Ag (Ds (pv 4) (Ba K rfl rfl (Am (Ai (i:=5) nd rfl (Or.inr rfl)) (Am (Ai (i:=6) nd rfl (Or.inr rfl)) (Am (Ai (i:=7) nd rfl (Or.inr rfl)) (Am (Ai (i:=8) nd rfl (Or.inr rfl)) AZ))))))
  (Ag (Ar (i:=9) nd rfl (Or.inl rfl) (Aj GT (hr.mono (by decide)) (by rfl) XT.mg XT.F.kp XT.b .nil Az (Aa (pv 2) (Aa (Al AE (by rfl) h_len PySem.boot_len (Aa (pv 7) Ad)) Ad))))
  htB)))))))
  (Ak (A8 DL))),?_⟩
  refine ⟨2,rfl,by decide,by decide,El (n:=2) (fun _ σ H'=>(∃ v1 v2 v3 v4 v5 v6 v7 v8 v9 v10 v11,σ=[some (.ref a),v1,v2,v3,v4,v5,v6,v7,v8,v9,v10,v11])/\Tt K H' a (ns.map V.int)) ⟨⟨_,_,_,_,_,_,_,_,_,_,_,rfl⟩,hS⟩ ?_ (fun σ H' _=>k H')⟩;rintro j σ H0 hj ⟨⟨v1,v2,v3,v4,v5,v6,v7,v8,v9,v10,v11,rfl⟩,S0⟩;refine ⟨_,rfl,_,rfl,a,ns,0 + (j:Int),rfl,S0,by lia,fun p y0 y1 y2 hp=>?_⟩;have P1:A5 (upd H0 p (.lst (A2 y0 y1 y2))) p:=A5.set _ _ _;have q1:Ao H0 (upd H0 p (.lst (A2 y0 y1 y2))):=Ac hp;generalize upd H0 p (.lst (A2 y0 y1 y2))=H1 at P1 q1 ⊢;refine ⟨_,rfl,_,rfl,p,3,rfl,P1,by decide,DM (by decide),fun d1 a1 b1 c1 Zn Zm=>?_⟩;refine ⟨p,d1,rfl,A5.set _ _ _,fun H2 c m n xs ws Aw Au x d P2 k2 cw few znz=>?_⟩;have k02:AA p H1 H2:=AA.upd.trans k2;refine ⟨_,rfl,_,rfl,_,rfl,c,m,n,xs,ws,Aw,Au,x,d,rfl,cw,fun H3 A0 s3 hA kn=>⟨p,c,m,A0,n,xs,ws,Aw,Au,x,d,rfl,P2.same s3,cw.same s3,few,kn,fun H4 pp o t T ss zs qs lv P4 k4 pa=>?_⟩⟩;have W8:=(k02.trans (AA.of_same s3)).trans k4;refine ⟨_,rfl,_,rfl,c,m,n,xs,ws,Aw,Au,x,d,.ref pp,rfl,pa.cp.cw,few,.inr ⟨pp,o,t,T,ss,zs,qs,lv,rfl,pa,fun H5 s5=>⟨_,_,rfl,rfl,_,rfl,?_⟩⟩⟩;refine BO ?_;have p5:=pa.same s5;have P5:=P4.same s5;exists _,rfl,pp,_,rfl,A4.of p5.pap,rfl,_,_,rfl,_,_,rfl,_,_,rfl,_,_,rfl,rfl;obtain ⟨us,hT5,Y3⟩:=p5.cp.rowsP;have rl:=Y3.1;rw [Zv] at rl;have one:=cw.ok2.one;have l2:=cw.l2;refine ⟨_,rfl,_,rfl,T,_,rfl,.inr (A4.of hT5),p,_,rfl,P5,by lia,DM (by lia),fun e a2 b2 c2 e0 e1=>?_⟩;obtain ⟨g,rfl⟩:∃ g:Nat,e=(g:Int):=⟨e.toNat,by lia⟩
  have YK:AA p H5 (upd H5 p (.lst (A2 a2 b2 c2))):=AA.upd;have P6:A5 (upd H5 p (.lst (A2 a2 b2 c2))) p:=A5.set _ _ _;generalize upd H5 p (.lst (A2 a2 b2 c2))=H6 at YK P6 ⊢;have t6:=JA P5 YK;have p6:=p5.keepT t6;have k06:=(W8.trans (AA.of_same s5)).trans YK;have l10:=p6.l10;have l1:=p6.cp.cw.l1;have nmy:∀ y ∈ Au.map (·.1),AL y=true:=fun y hy=>by
   obtain ⟨r,hr,e⟩:=Z6.mp hy;have e':r.1=y:=e;rw [<-e'];exact p6.cp.cw.map.at'.nm _ (p6.cp.cw.ok2.sub r hr)
  have nzy:∀ y ∈ Au.map (·.1),y ≠ Str.ofString "zzzzzz":=fun y hy=>by
   obtain ⟨r,hr,e⟩:=Z6.mp hy;have e':r.1=y:=e;rw [<-e'];exact znz _ (p6.cp.cw.ok2.sub r hr)
  have nzs:Str.ofString "zzzzzz" ∉ ss:=fun h=>znz _ (p6.inx _ h).1 rfl
  refine rdB _ _ c m pp o t T g n xs ws Aw Au x d ss zs qs lv _ _ _ _ _ p6 few nmy nzy nzs (by lia) fun Hm a b sm=>?_
  have km:=k06.trans (AA.of_same sm);exact ⟨⟨_,_,_,_,_,_,_,_,_,_,_,rfl⟩,S0.same fun b o z=>km b o (Ah z hp) (q1 _ _ z)⟩
end
end K21
namespace L2
open PySem PySem.Spec PyProof.Rows
def At (K:Zw) (n:Str) (st:Stmt) (f:Addr) (fd:FuncData):Prop:=ag K mainGlobals n=some (some (.ref f))/\DQ K n n st f fd
section
variable {K:Zw} {h:Heap} {mg:Str->Option Value} {n p q r t u:Str} {st:Stmt} {f:Addr} {fd:FuncData}
theorem at_mk {oc:Value} {od an:Option Addr} {osl:Array (Option Value)} {kV doc pm cdv ct:Value} (a:ag K mainGlobals n=some (some (.ref f))) (l:K.lookup f=some ⟨oc,od,.func (aO n n (E9 st) (Cu st) (An st) .none kV doc pm an cdv ct),osl⟩)
  (c:bN K cdv n=true) (k:bL K (.ref f)=true):At K n st f (aO n n (E9 st) (Cu st) (An st) .none kV doc pm an cdv ct):=⟨a,V4 l c k⟩
abbrev BA (n:Str) (st:Stmt) (us:List Value) (ps:List (Str × Value)):Prop:=∀ (kV doc pm:Value) (an:Option Addr) (cdv ct:Value),bindArgs (aO n n (E9 st) (Cu st) (An st) .none kV doc pm an cdv ct) ⟨us,[]⟩=pure ps
theorem Us (X:K.In h) (G:h.Ns mainGlobals mg) (A:At K n st f fd) (hb:∀ x,BA n st [x] [(p,x)]):Fn K mg n st [p] f fd:=⟨A.2,aK X G A.1,A.2.binds fun _ _ _ _ _ _ us hl=>by obtain ⟨x,rfl⟩:=len1 hl; exact hb ..⟩
theorem OD (X:K.In h) (G:h.Ns mainGlobals mg) (A:At K n st f fd) (hb:∀ x y,BA n st [x,y] [(p,x),(q,y)]):Fn K mg n st [p,q] f fd:=⟨A.2,aK X G A.1,A.2.binds fun _ _ _ _ _ _ us hl=>by obtain ⟨x,y,rfl⟩:=len2 hl; exact hb ..⟩
theorem Ur (X:K.In h) (G:h.Ns mainGlobals mg) (A:At K n st f fd) (hb:∀ x y z,BA n st [x,y,z] [(p,x),(q,y),(r,z)]):Fn K mg n st [p,q,r] f fd:=⟨A.2,aK X G A.1,A.2.binds fun _ _ _ _ _ _ us hl=>by obtain ⟨x,y,z,rfl⟩:=Vp hl; exact hb ..⟩
theorem fa4 (X:K.In h) (G:h.Ns mainGlobals mg) (A:At K n st f fd) (hb:∀ x y z w,BA n st [x,y,z,w] [(p,x),(q,y),(r,z),(t,w)]):Fn K mg n st [p,q,r,t] f fd:=⟨A.2,aK X G A.1,A.2.binds fun _ _ _ _ _ _ us hl=>by obtain ⟨x,y,z,w,rfl⟩:=len4 hl; exact hb ..⟩
theorem fa5 (X:K.In h) (G:h.Ns mainGlobals mg) (A:At K n st f fd) (hb:∀ x y z w v,BA n st [x,y,z,w,v] [(p,x),(q,y),(r,z),(t,w),(u,v)]):Fn K mg n st [p,q,r,t,u] f fd:=⟨A.2,aK X G A.1,A.2.binds fun _ _ _ _ _ _ us hl=>by obtain ⟨x,y,z,w,v,rfl⟩:=len5 hl; exact hb ..⟩
end
end L2
namespace K21
open PySem L2
theorem all_mk {l:cz} {w:World} {K:Zw} {h:Heap} {mg:Str->Option Value} {fa f1 f2 f3 f4 f5 f6 f7 f8 f9 f10 f11 f12 f13 f14 f15 f16 f17 f18 f19 f20 f21 f22 f23 f24 f25 f26 f27 f28 f29 f30 f31 f32 f33 f34 f35:Addr} {d1 d2 d3 d4 d5 d6 d7 d8 d9 Zn Zm d12 d13 d14 d15 d16 d17 d18 d19 d20 d21 d22 d23 d24 d25 d26 d27 d28 d29 d30 d31 d32 d33 d34 d35:FuncData} (X:K.In h) (G:h.Ns mainGlobals mg) (hfa:mg "law"=some (.ref fa))
  (a1:At K "is_name" Di f1 d1) (a2:At K "are_rising" CW f2 d2) (a3:At K "is_whole" Ey f3 d3) (a4:At K "is_whole_from" BI f4 d4) (a5:At K "neighbours" CS f5 d5) (a6:At K "fars" KD f6 d6) (a7:At K "site_fars" DE f7 d7) (a8:At K "nearest" Fo f8 d8) (a9:At K "is_opening" CV f9 d9) (a10:At K "most_houses" C5 f10 Zn) (a11:At K "are_folk_rows" BJ f11 Zm) (a12:At K "are_rows" Ez f12 d12) (a13:At K "is_row_of" DH f13 d13) (a14:At K "gets_from" DI f14 d14) (a15:At K "stand" Ia f15 d15) (a16:At K "stand_by" Et f16 d16) (a17:At K "are_prices" CY f17 d17) (a18:At K "is_levy" Fq f18 d18) (a19:At K "lets_by" Dh f19 d19) (a20:At K "are_goings" CZ f20 d20) (a21:At K "_law_pen" Fp f21 d21) (a22:At K "_law_take" Bt f22 d22) (a23:At K "_law_names" DG f23 d23) (a24:At K "_law_ways" Ci f24 d24) (a25:At K "_law_some" Dr f25 d25) (a26:At K "_law_case" Ex f26 d26) (a27:At K "_law_fars" Ew f27 d27) (a28:At K "_law_gets" Eu f28 d28) (a29:At K "_law_raised" CT f29 d29) (a30:At K "_law_prices" CU f30 d30) (a31:At K "_law_nearest" C6 f31 d31) (a32:At K "_law_right" DF f32 d32) (a33:At K "_law_odd_rows" BC f33 d33) (a34:At K "_law_odd_openings" Bu f34 d34) (a35:At K "law" FX f35 d35)
  (z1:ag K mainGlobals "len"=some none) (z2:ag K mainGlobals "list"=some none) (z3:ag K mainGlobals "range"=some none) (z4:ag K mainGlobals "str"=some none) (z5:ag K mainGlobals "abs"=some none) (z6:ag K mainGlobals "int"=some none) (z7:ag K mainGlobals "sorted"=some none) (z8:ag K mainGlobals "tuple"=some none) (z9:ag K mainGlobals "min"=some none) (z10:ag K mainGlobals "dict"=some none) (z11:ag K mainGlobals "max"=some none) (z12:ag K mainGlobals "isinstance"=some none) (z13:ag K mainGlobals "all"=some none) (z14:ag K mainGlobals "set"=some none) (z15:ag K mainGlobals "zip"=some none) (z16:ag K mainGlobals "bool"=some none) (z17:ag K mainGlobals "sum"=some none) {tc1:Tok} (w1:ag K mainGlobals "MOST_LETTERS"=some (some (.int 6 tc1))) :
  ∃ fd:FuncData,(∀ (s:Shared) (v:Value),BindsTo s fd ⟨[v],[]⟩ [("_law_script",v)])/\∀ base:Heap,K.In base->base.Ns mainGlobals mg->A7 l.prog w K mg base Bw 8 fa fd ["_law_script"] (Of K):=by
 cases hfa.symm.trans (aK X G a35.1)
 have y1:=ZT X G z1;have y2:=ZT X G z2;have y3:=ZT X G z3;have y4:=ZT X G z4;have y5:=ZT X G z5;have y6:=ZT X G z6;have y7:=ZT X G z7;have y8:=ZT X G z8;have y9:=ZT X G z9;have Xp:=ZT X G z10;have Yj:=ZT X G z11;have Qs:=ZT X G z12;have Q4:=ZT X G z13;have y14:=ZT X G z14;have y15:=ZT X G z15;have y16:=ZT X G z16;have y17:=ZT X G z17;have n1:=Us X G a1 (p:="thing") fun _ _ _ _ _ _ _=>rfl
 have n2:=Us X G a2 (p:="things") fun _ _ _ _ _ _ _=>rfl
 have n3:=Us X G a3 (p:="thing") fun _ _ _ _ _ _ _=>rfl
 have n4:=OD X G a4 (p:="thing") (q:="least") fun _ _ _ _ _ _ _ _=>rfl
 have n5:=Us X G a5 (p:="web") fun _ _ _ _ _ _ _=>rfl
 have n6:=OD X G a6 (p:="web") (q:="place") fun _ _ _ _ _ _ _ _=>rfl
 have n7:=Us X G a7 (p:="case") fun _ _ _ _ _ _ _=>rfl
 have n8:=OD X G a8 (p:="web") (q:="starts") fun _ _ _ _ _ _ _ _=>rfl
 have n9:=OD X G a9 (p:="case") (q:="thing") fun _ _ _ _ _ _ _ _=>rfl
 have n10:=Us X G a10 (p:="case") fun _ _ _ _ _ _ _=>rfl
 have n11:=OD X G a11 (p:="case") (q:="thing") fun _ _ _ _ _ _ _ _=>rfl
 have n12:=OD X G a12 (p:="thing") (q:="places") fun _ _ _ _ _ _ _ _=>rfl
 have n13:=OD X G a13 (p:="row") (q:="place") fun _ _ _ _ _ _ _ _=>rfl
 have n14:=Ur X G a14 (p:="case") (q:="prices") (r:="away") fun _ _ _ _ _ _ _ _ _=>rfl
 have n15:=Ur X G a15 (p:="case") (q:="prices") (r:="levy") fun _ _ _ _ _ _ _ _ _=>rfl
 have n16:=fa4 X G a16 (p:="case") (q:="aways") (r:="prices") (t:="levy") fun _ _ _ _ _ _ _ _ _ _=>rfl
 have n17:=OD X G a17 (p:="case") (q:="thing") fun _ _ _ _ _ _ _ _=>rfl
 have n18:=OD X G a18 (p:="case") (q:="thing") fun _ _ _ _ _ _ _ _=>rfl
 have n19:=OD X G a19 (p:="case") (q:="paper") fun _ _ _ _ _ _ _ _=>rfl
 have n20:=Ur X G a20 (p:="case") (q:="opening") (r:="thing") fun _ _ _ _ _ _ _ _ _=>rfl
 have n21:=OD X G a21 (p:="_law_script") (q:="_law_k") fun _ _ _ _ _ _ _ _=>rfl
 have Ua:=OD X G a22 (p:="_law_pen_here") (q:="_law_many") fun _ _ _ _ _ _ _ _=>rfl
 have n23:=OD X G a23 (p:="_law_pen_here") (q:="_law_many") fun _ _ _ _ _ _ _ _=>rfl
 have n24:=Ur X G a24 (p:="_law_pen_here") (q:="_law_names_here") (r:="_law_kind") fun _ _ _ _ _ _ _ _ _=>rfl
 have n25:=Ur X G a25 (p:="_law_pen_here") (q:="_law_names_here") (r:="_law_most") fun _ _ _ _ _ _ _ _ _=>rfl
 have YE:=OD X G a26 (p:="_law_pen_here") (q:="_law_kind") fun _ _ _ _ _ _ _ _=>rfl
 have n27:=Us X G a27 (p:="_law_case_here") fun _ _ _ _ _ _ _=>rfl
 have n28:=fa4 X G a28 (p:="_law_case_here") (q:="_law_away") (r:="_law_prices_here") (t:="_law_site") fun _ _ _ _ _ _ _ _ _ _=>rfl
 have n29:=fa5 X G a29 (p:="_law_case_here") (q:="_law_away") (r:="_law_prices_here") (t:="_law_levy") (u:="_law_at") fun _ _ _ _ _ _ _ _ _ _ _=>rfl
 have n30:=fa4 X G a30 (p:="_law_pen_here") (q:="_law_case_here") (r:="_law_away") (t:="_law_levy") fun _ _ _ _ _ _ _ _ _ _=>rfl
 have n31:=Ur X G a31 (p:="_law_away") (q:="_law_place") (r:="_law_opening") fun _ _ _ _ _ _ _ _ _=>rfl
 have n32:=Ur X G a32 (p:="_law_pen_here") (q:="_law_case_here") (r:="_law_away") fun _ _ _ _ _ _ _ _ _=>rfl
 have n33:=Ur X G a33 (p:="_law_rows") (q:="_law_other") (r:="_law_at") fun _ _ _ _ _ _ _ _ _=>rfl
 have n34:=Us X G a34 (p:="_law_opening") fun _ _ _ _ _ _ _=>rfl
 obtain ⟨oc,od,kV,doc,pm,an,cdv,ct,osl,e,lk,hcd⟩:=a35.2.ex;exact ⟨d35,fun s v=>by subst e; exact .of_eq rfl,fun base _ _=>Vj y1 y2 y3 y4 n21 (Nq y5 y1 a21.2) Ua (BF a22.2) YE (Mq y6 y1 y7 y8 Ua (BF a22.2) n23 (KS y1 y3 Ua (BF a22.2) a23.2) n24 (Mn y6 y1 y3 y7 y8 Ua (BF a22.2) a24.2) n25 (Ht y1 y2 y9 y3 Ua (BF a22.2) a25.2) a26.2) n27 (Mp y6 a27.2) n32 (KR y6 y1 y9 y7 y8 Ua (BF a22.2) n25 (Ht y1 y2 y9 y3 Ua (BF a22.2) a25.2) n30 (JF y1 y2 y3 y8 Ua (BF a22.2) n29 (JE Xp Yj y9 n28 (Mo Xp Yj a28.2) a29.2) a30.2) n31 (IT y9 a31.2) a32.2) n19 (Np Qs y1 y8 n9 (JG Q4 Xp Qs y1 y8 n10 (IS y1 y9 a10.2) n2 (JH Q4 y2 y7 y14 n1 (Ii ⟨y1,Qs,y4,Q4,⟨_,aK X G w1⟩⟩ a1.2) a2.2) a9.2) n20 (JJ Q4 n11 (Ei n12 (Hv Q4 Qs y1 y8 y15 n13 (Gb Qs y1 y8 n1 (Ii ⟨y1,Qs,y4,Q4,⟨_,aK X G w1⟩⟩ a1.2) a13.2) a12.2) a11.2) n1 (Ii ⟨y1,Qs,y4,Q4,⟨_,aK X G w1⟩⟩ a1.2) a20.2) n15 (Ru n17 (JI Q4 n11 (Ei n12 (Hv Q4 Qs y1 y8 y15 n13 (Gb Qs y1 y8 n1 (Ii ⟨y1,Qs,y4,Q4,⟨_,aK X G w1⟩⟩ a1.2) a13.2) a12.2) a11.2) n4 (Eh n3 (Hu y16 y6 Qs a3.2) a4.2) a17.2) n18 (Nr n4 (Eh n3 (Hu y16 y6 Qs a3.2) a4.2) a18.2) n7 (KQ n6 (SN ⟨⟨n5.F,n5.mg,n5.b⟩,y9,n8.F,n8.mg,n8.b⟩ a6.2) a7.2) n16 (Mm Q4 n14 (KU Xp Yj y17 a14.2) a16.2) a15.2) a19.2) n34 (Fw y2 a34.2) n33 (HN y1 y2 a33.2) a35.2⟩
theorem UI {K:Zw} {H:Hp} {a:Addr} {xs:List V} (o:Tw H) (h:AX K H a xs):Tt K H a xs:=by
 rcases h with (h | ⟨ob,h⟩) | h
 ·rcases o a with z | ⟨ob,ys,z⟩ <;> (rw [h] at z; cases z)
 ·exact .inl ⟨ob,h⟩
 ·exact .inr h
theorem walk {l:cz} {q:Program} {loose:List Str} {XP:(Str->Option Value)->Heap->Prop} {YP:World->Heap->Prop} {d:DefRec} {K:Params->Zw} (hn:l.most=some 63) (hdf:d.params.defaults=[])
  (hY:∀ (w:World) (h:Heap),YP w h->(K w.params).In h)
  (F:∀ (w:World) (mg:Str->Option Value) (fa:Addr) (h:Heap),(K w.params).In h->h.Ns mainGlobals mg->mg d.name=some (.ref fa) ->
   ∃ fd:FuncData,(∀ (s:Shared) (u:Value),BindsTo s fd ⟨[u],[]⟩ [("_law_script",u)])/\∀ base:Heap,(K w.params).In base->base.Ns mainGlobals mg->A7 l.prog w (K w.params) mg base Bw 8 fa fd ["_law_script"] (Of (K w.params))) :
  dP q loose XP YP l.row.toRowW d [] (fun f vs=>PySem.call f vs):=
 L2.walk_of (n:=63) (k:=8) (x:="_law_script") (CX:=fun _=>Bw) (sp:=fun w=>Of (K w.params)) hn (by decide) hdf ⟨rfl,by decide,by decide,rfl⟩ hY F (fun _ _ a ns hl ho hS=>⟨a,ns,rfl,UI ho hS,hl,fun _=>rfl⟩) fun _ _ _ _ _ z=>z
end K21
structure PySem.W.Fast:Prop where
  (tw15956265287634638533 tw14171176630024300090 tw864400837578501184 tw9198161635906068553 tw3202949099925807048 tw3470417376037859009 tw2340321920851104335 tw16616330343646711506 tw5512784502773821395 tw6832245957990345860 tw2702164752628198202 tw15064417080316681313 tw17560549114189976078 tw10696449617011030943 tw11350072762456404778 tw439167255893607849 tw17340773374879697956 tw6863535001802744612 tw12617446206334925963 tw13397991492533561225 tw14571002354943219092 tw1884159671905156036 tw2689443379932399706 tw6675774003941227395 tw17896408722369324321 tw3810104165524463569 tw2607611003603688529 tw14212150668013430113 tw3779466102650941232 tw17392441224281486896 tw9232412559035739646 tw3524412625458339160 tw4401915554919129571 tw18283531106939100517 tw12259297446258835273 tw17828816643882297417 tw6797801089299006486 tw16835407363390422307 tw3150026067132757124 tw3315406551104549866 tw10263453847878989006 tw8344225558578164373 tw10753868835487782236 tw7671589047355811841 tw16381585151102593070 tw17671765266427483464 tw12464379873426770258 tw4585227424602168360 tw14838563516348605782 tw17144025595995418409 tw18402094053674601261 tw326816822146237392 tw1343377775386944109 tw15431812135180374892 tw1779312209747234432 tw10084486411958517687 tw5040193846599893073 tw10640408346433023608 tw1585191114188401182 tw8133334395063627107 tw10145832243320020304 tw15609185712891371951 tw12378695956986684307 tw12205330372572145205 tw14320626468024171161 tw11596849001161045753 tw9991433262890988099 tw1669459975084637181 tw15752475530345857465 tw11194983908053740654 tw3944015118591529541 tw786645011528716245 tw8035968324976597539 tw8077588443627958613 tw14327440161638453259 tw18182645228012874616 tw16971506791235919619 tw15322560248591480958 tw7640331622778562805 tw5863208987897516432 tw9715585714965796269 tw8435499711280852840 tw10824799774144077318 tw17622951237157082535 tw1350988671089260285 tw1372739701780233906 tw9981010814135270158 tw6035750159216481246 tw16843674875960771408 tw12371637252621263310 tw15325508683080791342 tw1116154447305182457 tw2603544467692637671 tw9228794099410124774 tw11086881664342288102 tw9689150984241397680 tw6507540470128112825 tw11153992645359473507 tw14590990857309028380 tw2616949983755840599 tw13656034972533993167 tw9746431718121936296 tw4689236529664105053 tw2092501243794195874 tw5502501240111957279 tw12612582715795952458 tw9369920170596523308 tw3530950413624943009 tw2891702608394125848 tw13766934618181229946 tw15342370472918092788 tw11731000313977116139 tw4733500924600214774 tw17813165847061493930 tw10465806991697661842 tw6858727912013697757 tw10368730446204220296 tw7902000099376371359 tw15388052387843502059 tw4600147218331933509 tw9757995993915144335 tw14165416293317414784 tw3618658914716611634:True)
open PySem PySem.W PyProof.Rows
set_option maxRecDepth 100000 in
set_option maxHeartbeats 0 in
theorem PySem.Challenge.cw_openhouses_k21_things_that_are_no_papers_holds : PySem.Challenge.rw_openhouses_k21_things_that_are_no_papers.Holds := by
 w_on; o_law; k_head; (case hw=>w_witness2)
 k_fill
 refine K21.walk (l:=PySem.Challenge.rw_openhouses_k21_things_that_are_no_papers) rfl rfl (fun w h Y=>PySem.W.kIn_of Y) ?F
 case F=>
  intro w mg fa h KX G hmg;refine' K21.all_mk KX G hmg (L2.at_mk ?a1 ?l1 ?c1 ?k1) (L2.at_mk ?a2 ?l2 ?c2 ?k2) (L2.at_mk ?a3 ?l3 ?c3 ?k3) (L2.at_mk ?a4 ?l4 ?c4 ?k4) (L2.at_mk ?a5 ?l5 ?c5 ?k5) (L2.at_mk ?a6 ?l6 ?c6 ?k6) (L2.at_mk ?a7 ?l7 ?c7 ?k7) (L2.at_mk ?a8 ?l8 ?c8 ?k8) (L2.at_mk ?a9 ?l9 ?c9 ?k9) (L2.at_mk ?a10 ?l10 ?c10 ?k10) (L2.at_mk ?a11 ?l11 ?c11 ?k11) (L2.at_mk ?a12 ?l12 ?c12 ?k12) (L2.at_mk ?a13 ?l13 ?c13 ?k13) (L2.at_mk ?a14 ?l14 ?c14 ?k14) (L2.at_mk ?a15 ?l15 ?c15 ?k15) (L2.at_mk ?a16 ?l16 ?c16 ?k16) (L2.at_mk ?a17 ?l17 ?c17 ?k17) (L2.at_mk ?a18 ?l18 ?c18 ?k18) (L2.at_mk ?a19 ?l19 ?c19 ?k19) (L2.at_mk ?a20 ?l20 ?c20 ?k20) (L2.at_mk ?a21 ?l21 ?c21 ?k21) (L2.at_mk ?a22 ?l22 ?c22 ?k22) (L2.at_mk ?a23 ?l23 ?c23 ?k23) (L2.at_mk ?a24 ?l24 ?c24 ?k24) (L2.at_mk ?a25 ?l25 ?c25 ?k25) (L2.at_mk ?a26 ?l26 ?c26 ?k26) (L2.at_mk ?a27 ?l27 ?c27 ?k27) (L2.at_mk ?a28 ?l28 ?c28 ?k28) (L2.at_mk ?a29 ?l29 ?c29 ?k29) (L2.at_mk ?a30 ?l30 ?c30 ?k30) (L2.at_mk ?a31 ?l31 ?c31 ?k31) (L2.at_mk ?a32 ?l32 ?c32 ?k32) (L2.at_mk ?a33 ?l33 ?c33 ?k33) (L2.at_mk ?a34 ?l34 ?c34 ?k34) (L2.at_mk ?a35 ?l35 ?c35 ?k35) ?z1 ?z2 ?z3 ?z4 ?z5 ?z6 ?z7 ?z8 ?z9 ?z10 ?z11 ?z12 ?z13 ?z14 ?z15 ?z16 ?z17 ?w1;any_goals k_is
