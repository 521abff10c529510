import PyProof.Rows.All
import Wide.All
import OpenK.AllK
import Wide.FinOn
import Lean
import PyProof.EqAt
import PyProof.EqKinds
import PyProof.TupleCall
import PyProof.P3Eq
import PyProof.NeData
import PyProof.P3In
import PyProof.StrLawsChain
import KE.KIntText
import KE.IntTextLaws
import PyProof.Rows.StrJoinMade
import PyProof.Rows.FStr
import PyProof.ListMulRoad
import PySem.Challenge.RW_openhouses_k49_what_stands_apart
open List renaming length_map→X8,getElem?_eq_getElem→XA,mem_cons→XC,mem_of_getElem?→XG,length_append→XI,mem_append_right→XO,getElem?_map→XU,getElem?_eq_some_iff→XX,mem_singleton→XY,not_mem_nil→XZ,mem_map→Ya,map_append→Yb,getD_eq_getElem?_getD→Yd,mem_append→Ye,size_toArray→Yf,mem_cons_of_mem→Yg,mem_cons_self→Yh,map_cons→Yj,take_add_one→Yk,getElem_of_mem→Yn,take_length→Yq,length_cons→Yv,length_take→Yz,length_singleton→Y1,all_eq_true→Y4,nodup_cons→Y5,getElem_mem→Y6,map_map→Y7,getElem?_append_left→Y8,mem_append_left→YB,getElem?_append_right→YD,getElem?_cons_zero→YF,pairwise_iff_getElem→YH,mem_filter→YI,append_assoc→YJ,pairwise_cons→YM,filter_append→YN,lt_trans→YR,range→YS,any_eq_true→YT,length_pos_iff→YV,mem_map_of_mem→YW,find?_cons→YY,pairwise_singleton→Za,not_lt→Zb,mem_range→Zc,length_range→Zd,nodup_append→Ze,getElem_take→Zf,cons→Zi,ext_getElem→Zj,any_cons→Zk,map_congr_left→Zm,mem_filterMap→Zo,length→Zq,lt_asymm→Zr,cons_append→Zs,lookup_cons→Zt,length_eq_zero_iff→Zu,append_nil→Zx,nodup_nil→Z2,lt_irrefl→Z3,filterMap_cons→Z5,all_cons→Z7,of_mem_zip→ZI,nil_append→ZJ,length_zip→ZK,drop_eq_getElem_cons→ZM,length_filterMap_le→ZN,getElem?_cons_succ→ZO,getElem?_set_self→ZS,map_nil→ZT,all_map→ZU,length_filter_le→ZW,getElem?_eq_none→ab,getElem?_set_ne→af,mem_erase_of_ne→aj,pairwise_append→ak,length_eraseIdx→au,getElem?_of_mem→aw,getElem_toArray→ax,mem_of_mem_take→ay,nodup_iff_count→az,toList_toArray→aB,map_inj_right→aF,count_eq_zero→aH,flatten_cons→aM,flatMap_cons→aN,getElem_inj→aO,length_drop→aP,filter_cons→aQ,length_nil→aV,range_succ→aW,foldl_cons→aX,replicate→aY,filterMap→aZ,take_zero→bc,le_trans→bj,sum_cons→bo
open PySem.Heap renaming get?_push_of_some→X9,lt_size→XE,get?_push_size→XJ,size_push→Ys,get?_update_other→Y0,get?_update_self→Y3
open PySem.W renaming Frag→XB,mg_none_of→Yw,nsIn→Y2,kia_one→Y9,fnOf→YL,mg_of→Zh,kitOne→Zw,keepIn→Zy,codeIn→Zz,methodObj→Z6,instObj→ZA,OpenLaw→ZC,lookIn→ZF,cellsFrom_some→ZL,kitx_list→ag,kitx_dict→ah,plainGet→aA,findIn→aJ,WalkO→aT
open Nat renaming le_refl→XD,lt_of_lt_of_le→XH,ne_of_lt→XQ,lt_succ_of_lt→Yl,lt_succ_self→Ym,le_trans→Yo,zero_le→Yr,le_succ→Yt,lt_irrefl→Yx,ne_of_gt→Yy,not_lt_zero→YZ,le_succ_of_le→Zg,zero_add→Zn,le_of_lt→Zv,not_lt→Z0,mul_le_mul_right→Z4,succ_mul→ZX,lt_or_ge→ZZ,sub_self→ae,pow_le_pow_right→aD,add_sub_cancel→aK,mod_lt→bx
open Bool renaming false_ne_true→Yc,false_eq_true→Yu,eq_iff_iff→YA,and_eq_true→YC,false_and→Z1,or_false→bg,and_true→bh,not_true→bp
open Option renaming some→Yi,none→YG,map_some→YX,isSome_iff_exists→Zp,isSome_map→Z8,isSome_some→ai,getD_none→aE
open Array renaming length_toList→Yp,getElem?_toList→YQ,getElem?_eq_getElem→YU,toList_append→Zl,toList→Z9,ext→ZE,getD_eq_getD_getElem?→ZH,getElem?_eq_none→ZQ,mem_of_getElem?→ZR,mem_toList_iff→ZV,toArray_toList→aa,toList_push→aG,toList_inj→aL
open Int renaming le_refl→YE,emod_nonneg→YK,emod_lt_of_pos→YO,zero_add→ZD,mul_le_mul_of_nonneg_right→ZG,add_assoc→ZP,add_zero→ZY,natAbs_dvd_natAbs→ao,toNat_of_nonneg→aI,toNat_natCast→aU,ediv_one→bq,lt_trans→br
set_option Elab.async false
set_option linter.all false
set_option maxRecDepth 100000
set_option maxHeartbeats 4000000
namespace L2
open PySem PySem.W PyProof.Rows
section
variable {lt:Keyed->Keyed->Bool}
end
def EW (xs:Array Keyed) (i:Nat):Keyed:=xs.getD i (Value.none,Value.none)
theorem MM {xs:Array Keyed} {i:Nat} (h:i < xs.size):xs[i]? = some (EW xs i):=by
 unfold EW;simp [Array.getD,h]
theorem Ia {xs ys:Array Keyed} {i j:Nat} (h:xs[i]? = ys[j]?):EW xs i=EW ys j:=by
 unfold EW;rw [ZH,ZH,h]
theorem ML {xs:Array Keyed} {i:Nat} (h:i < xs.size):EW xs i ∈ xs:=ZR (MM h)
def Uh (prog:Program) (w:World) (A:Around) (s:Shared) (κ:SortKind) (lt:Keyed->Keyed->Bool) (a0:Array Keyed):Prop:=
 ∀ x y,x ∈ a0->y ∈ a0->∀ (Q:Bool->Shared->Prop) (E:Value->Shared->Prop),Q (lt x y) s->wpAny (model prog w) A (keyLt' κ x.1 y.1) Q E s
section
variable {prog:Program} {w:World} {A:Around} {E:Value->Shared->Prop} {s:Shared} {κ:SortKind} {lt:Keyed->Keyed->Bool} {a0:Array Keyed}
theorem Jh {xs:Array Keyed} {i:Nat} {Q:Keyed->SortSt->Prop} {st:SortSt} (hi:i < xs.size) (h:Q (EW xs i) st):wpS (model prog w) A E s (elem' xs i) Q st:=by
 rw [elem'_eq,MM hi];exact wpS_pure h
theorem QL {x y:Keyed} {Q:Option Bool->SortSt->Prop} {st:SortSt} (an:Uh prog w A s κ lt a0) (hk:kindOf st=κ) (hx:x ∈ a0) (hy:y ∈ a0) (h:Q (some (lt x y)) st) :
  wpS (model prog w) A E s (lt' x y) Q st:=by
 rw [lt'_eq];refine wpS_bind (wpS_get ?_);rw [hk];refine wpS_bind (wpS_lift (wpAny_attempt (an x y hx hy _ _ ⟨rfl,?_⟩)));exact wpS_pure h
theorem CZ {i j:Nat} {Q:Option Bool->SortSt->Prop} {st:SortSt} (an:Uh prog w A s κ lt a0) (hk:kindOf st=κ) (hp:(arrOf st).Perm a0) (hi:i < a0.size) (hj:j < a0.size)
  (h:Q (some (lt (EW (arrOf st) i) (EW (arrOf st) j))) st):wpS (model prog w) A E s (ltAt' i j) Q st:=by
 rw [ltAt'_eq];refine wpS_bind (wpS_get ?_);have e:=hp.size_eq;refine wpS_bind (Jh (by lia) (wpS_bind (Jh (by lia) ?_)));exact QL an hk ((Array.Perm.mem_iff hp).mp (ML (by lia))) ((Array.Perm.mem_iff hp).mp (ML (by lia))) h
end
section lists
variable {lt:Keyed->Keyed->Bool}
end lists
section
variable {prog:Program} {w:World} {A:Around} {E:Value->Shared->Prop} {s:Shared} {κ:SortKind} {lt:Keyed->Keyed->Bool} {a0:Array Keyed}
end
section
variable {prog:Program} {w:World} {A:Around} {E:Value->Shared->Prop} {s:Shared} {κ:SortKind} {lt:Keyed->Keyed->Bool} {a0:Array Keyed}
end
section segs
variable {lt:Keyed->Keyed->Bool}
theorem LP {xs:Array Keyed} {i j:Nat} (hj:j<=xs.size) (k:Nat):EW (mirror xs i j ((j - i) / 2)) k=if i<=k/\k < j then EW xs (i + j - 1 - k) else EW xs k:=by
 have e:=getElem?_mirror_all (i:=i) hj k;split at e
 ·rw [if_pos ‹_›]; exact Ia e
 ·rw [if_neg ‹_›]; exact Ia e
theorem LQ {xs:Array Keyed} {src d:Nat} (hs:src < xs.size) (hd:d<=src) (k:Nat) :
  EW (bubble xs src d) k=if k=src - d then EW xs src else if src - d < k/\k<=src then EW xs (k - 1) else EW xs k:=by
 have e:=getElem?_bubble hs d hd k;by_cases h1:k=src - d
 ·rw [if_pos h1] at e ⊢; exact Ia e
 ·by_cases h2:src - d < k/\k<=src
  ·rw [if_neg h1,if_pos h2] at e ⊢; exact Ia e
  ·rw [if_neg h1,if_neg h2] at e ⊢; exact Ia e
def Kp (xs ys:Array Keyed) (lo:Nat):Prop:=ys.Perm xs/\∀ k,k < lo->EW ys k=EW xs k
theorem Kp.refl (xs:Array Keyed) (lo:Nat):Kp xs xs lo:=⟨Array.Perm.refl _,fun _ _=>rfl⟩
theorem Kp.size {xs ys:Array Keyed} {lo:Nat} (h:Kp xs ys lo):ys.size=xs.size:=h.1.size_eq
theorem Kp.mirror {xs ys:Array Keyed} {lo i j:Nat} (h:Kp xs ys lo) (hj:j<=xs.size) (hi:lo<=i):Kp xs (PyProof.Rows.mirror ys i j ((j - i) / 2)) lo:=by
 refine ⟨(mirror_perm _ _ _ _).trans h.1,fun k hk=>?_⟩;rw [LP (by rw [h.size]; exact hj),if_neg (by lia)];exact h.2 k hk
theorem Kp.bubble {xs ys:Array Keyed} {lo src d:Nat} (h:Kp xs ys lo) (hs:src < xs.size) (hd:lo + d<=src):Kp xs (PyProof.Rows.bubble ys src d) lo:=by
 refine ⟨(bubble_perm _ _ _).trans h.1,fun k hk=>?_⟩;rw [LQ (by rw [h.size]; exact hs) (by lia),if_neg (by lia),if_neg (by lia)];exact h.2 k hk
end segs
section
variable {prog:Program} {w:World} {A:Around} {E:Value->Shared->Prop} {s:Shared} {κ:SortKind} {lt:Keyed->Keyed->Bool} {a0:Array Keyed}
theorem F6 {i j:Nat} {Q:Unit->SortSt->Prop} {st:SortSt} (h:Q () (setArr st (mirror (arrOf st) i j ((j - i) / 2)))):wpS (model prog w) A E s (reverseSlice' i j) Q st:=by
 rw [reverseSlice'_eq];exact wpS_modify h
theorem Ml {body:Nat->Option (Option Nat) × Nat->StateT SortSt Sem (ForInStep (Option (Option Nat) × Nat))} {f:Nat->Bool} {a nrem:Nat} {st:SortSt} (ha:a<=nrem)
  (hb:∀ x n (R:ForInStep (Option (Option Nat) × Nat)->SortSt->Prop),a<=n->n < nrem->(f n=true->R (.done (none,n)) st)->(f n=false->R (.yield (none,n + 1)) st)->wpS (model prog w) A E s (body x (none,n)) R st) :
  wpS (model prog w) A E s (forIn [a:nrem] (none,a) body) (fun c AV=>AV=st/\∃ n,c=(none,n)/\a<=n/\n<=nrem/\(∀ i,a<=i->i < n->f i=false)/\(n=nrem\/f n=true)) st:=by
 refine wpS_forRange (I:=fun x c AV=>AV=st/\c=(none,x)/\(∀ i,a<=i->i < x->f i=false)) ?_ ?_ ⟨rfl,rfl,fun i h1 h2=>by lia⟩
 ·rintro x c AV h1 h2 ⟨rfl,rfl,q⟩;refine hb _ _ _ h1 h2 (fun e=>⟨rfl,x,rfl,h1,by lia,q,.inr e⟩) (fun e=>⟨rfl,rfl,fun i i1 i2=>?_⟩);by_cases z:i=x
  ·rw [z]; exact e
  ·exact q i i1 (by lia)
 ·rintro c AV ⟨rfl,rfl,q⟩;rw [Nat.max_eq_right ha] at q ⊢;exact ⟨rfl,nrem,rfl,ha,XD _,q,.inl rfl⟩
end
section
variable {lt:Keyed->Keyed->Bool}
end
section
variable {prog:Program} {w:World} {A:Around} {E:Value->Shared->Prop} {s:Shared} {κ:SortKind} {lt:Keyed->Keyed->Bool} {a0:Array Keyed}
end
section
variable {prog:Program} {w:World} {A:Around} {E:Value->Shared->Prop} {s:Shared} {κ:SortKind} {lt:Keyed->Keyed->Bool} {a0:Array Keyed}
end
end L2
namespace L2
open PySem PySem.Spec PyProof.Rows
abbrev AO:=Sum Int Str
def GH:AO->Value->Bool
 | .inl k,v=>Value.isInt k v
 | .inr x,v=>Value.isStrOf x v
def keyH (w:World):AO->Int
 | .inl k=>hashInt k
 | .inr x=>hashStr w x
theorem AZ:∀ {k:AO} {v:Value},GH k v=true->(∃ i t,k=Sum.inl i/\v=Value.int i t)\/(∃ x t,k=Sum.inr x/\v=Value.str x t)
 | .inl i,v,h=>by
  obtain ⟨t,e⟩:=Value.isInt_shape (k:=i) (v:=v) h;exact .inl ⟨i,t,rfl,e⟩
 | .inr x,v,h=>by
  obtain ⟨t,e⟩:=Value.isStrOf_shape (x:=x) (v:=v) h;exact .inr ⟨x,t,rfl,e⟩
theorem NU (i:Int) (t:Tok):GH (.inl i) (.int i t)=true:=by simp [GH,Value.isInt]
theorem NT (x:Str) (t:Tok):GH (.inr x) (.str x t)=true:=by simp [GH,Value.isStrOf]
theorem Tu (a b:Int):decide ((Sum.inl a:AO)=Sum.inl b)=(a == b):=by
 by_cases e:a=b
 ·subst e; simp
 ·have h:¬ (Sum.inl a:AO)=Sum.inl b:=fun q=>e (Sum.inl.inj q)
  rw [decide_eq_false h];exact (beq_eq_false_iff_ne.mpr e).symm
theorem Tr (a b:Str):decide ((Sum.inr a:AO)=Sum.inr b)=decide (a=b):=by
 by_cases e:a=b
 ·subst e; simp
 ·have h:¬ (Sum.inr a:AO)=Sum.inr b:=fun q=>e (Sum.inr.inj q)
  rw [decide_eq_false h,decide_eq_false e]
theorem Tt (a:Int) (b:Str):decide ((Sum.inl a:AO)=Sum.inr b)=false:=decide_eq_false (fun q=>nomatch q)
theorem Ts (a:Str) (b:Int):decide ((Sum.inr a:AO)=Sum.inl b)=false:=decide_eq_false (fun q=>nomatch q)
def AK (prog:Program) (w:World):PySem.KeyKind prog w AO where
 is:=GH
 hash:=keyH w
 inj:=fun v a b ha hb=>by
  rcases AZ ha with ⟨i,t,rfl,rfl⟩ | ⟨x,t,rfl,rfl⟩
  ·rcases AZ hb with ⟨j,u,rfl,e⟩ | ⟨y,u,rfl,e⟩
   ·injection e with e1 _; rw [e1]
   ·exact nomatch e
  ·rcases AZ hb with ⟨j,u,rfl,e⟩ | ⟨y,u,rfl,e⟩
   ·exact nomatch e
   ·injection e with e1 _; rw [e1]
 byValue:=fun k v h=>by
  rcases AZ h with ⟨i,t,rfl,rfl⟩ | ⟨x,t,rfl,rfl⟩ <;> rfl
 pyHash:=fun hv h=>by
  rcases AZ hv with ⟨i,t,rfl,rfl⟩ | ⟨x,t,rfl,rfl⟩
  ·exact wpAny_pyHash_int h
  ·exact wpAny_pyHash_str h
 eqBool:=fun hu hv h=>by
  rcases AZ hu with ⟨i,t,rfl,rfl⟩ | ⟨x,t,rfl,rfl⟩
  ·rcases AZ hv with ⟨j,u,rfl,rfl⟩ | ⟨y,u,rfl,rfl⟩
   ·rw [Tu] at h; exact wpAny_eqBool_int h
   ·rw [Tt] at h; exact SeqAt.EqAt.int_str i t y u _ _ _ _ h
  ·rcases AZ hv with ⟨j,u,rfl,rfl⟩ | ⟨y,u,rfl,rfl⟩
   ·rw [Ts] at h; exact SeqAt.EqAt.str_int x t j u _ _ _ _ h
   ·rw [Tr] at h; exact wpAny_eqBool_str h
 «strs»:=fun k x t v h=>by
  rcases AZ h with ⟨i,u,rfl,e⟩ | ⟨y,u,rfl,e⟩
  ·exact nomatch e
  ·injection e with e1 _;subst e1;cases v <;> rfl
theorem KS (prog:Program) (w:World) (i:Int) (t:Tok):(AK prog w).is (.inl i) (.int i t)=true:=NU i t
theorem GD (prog:Program) (w:World) (x:Str) (t:Tok):(AK prog w).is (.inr x) (.str x t)=true:=NT x t
inductive V where
 | non | bl (b:Bool) | int (i:Int) | str (x:Str) | byt (b:Array UInt8) | flt (b:UInt64) | ref (a:Addr) | ty (n:String)
 deriving DecidableEq
def A3:V->Value->Prop
 | .non,u=>u=Value.none
 | .bl b,u=>u=Value.bool b
 | .int i,u=>∃ t,u=Value.int i t
 | .str x,u=>∃ t,u=Value.str x t
 | .byt b,u=>∃ t,u=Value.bytes b t
 | .flt b,u=>∃ t,u=Value.float b t
 | .ref a,u=>u=Value.ref a
 | .ty n,u=>u=Value.type n
abbrev Ax:List V->List Value->Prop:=Paired A3
theorem Ax.length {xs:List V} {us:List Value} (r:Ax xs us):xs.length=us.length:=Paired.length r
theorem Ax.get:∀ {xs:List V} {us:List Value} {i:Nat} {x:V},Ax xs us->xs[i]? = some x->∃ u,us[i]? = some u/\A3 x u
 | _,_,_,_,.nil,e=>by simp at e
 | _,_,0,_,.cons r _,e=>by simp at e; subst e; exact ⟨_,rfl,r⟩
 | _,_,i + 1,x,.cons _ t,e=>by
  obtain ⟨u,h1,h2⟩:=Ax.get (i:=i) (x:=x) t (by simpa using e);exact ⟨u,by simpa using h1,h2⟩
theorem Ax.set {x:V} {u:Value} (r:A3 x u):∀ {xs:List V} {us:List Value} (i:Nat),Ax xs us->Ax (xs.set i x) (us.set i u)
 | _,_,_,.nil=>.nil
 | _,_,0,.cons _ t=>.cons r t
 | _,_,i + 1,.cons q t=>.cons q (Ax.set r i t)
theorem Ax.append:∀ {xs ys:List V} {us ws:List Value},Ax xs us->Ax ys ws->Ax (xs ++ ys) (us ++ ws)
 | _,_,_,_,.nil,s=>s
 | _,_,_,_,.cons r t,s=>.cons r (Ax.append t s)
theorem Ax.take:∀ {xs:List V} {us:List Value} (n:Nat),Ax xs us->Ax (xs.take n) (us.take n)
 | _,_,0,_=>.nil
 | _,_,_ + 1,.nil=>.nil
 | _,_,n + 1,.cons r t=>.cons r (Ax.take n t)
theorem Ax.drop:∀ {xs:List V} {us:List Value} (n:Nat),Ax xs us->Ax (xs.drop n) (us.drop n)
 | _,_,0,r=>r
 | _,_,_ + 1,.nil=>.nil
 | _,_,n + 1,.cons _ t=>Ax.drop n t
def Gv:Option V->Option Value->Prop
 | some v,some u=>A3 v u
 | none,none=>True
 | _,_=>False
def KV {κ:Type}:List (κ × V)->List (κ × Value)->Prop:=Paired fun (p:κ × V) (q:κ × Value)=>p.1=q.1/\A3 p.2 q.2
def kV:AO->V
 | .inl i=>.int i
 | .inr x=>.str x
inductive HO where
 /-- a list -/
 | lst (xs:List V)
 /-- a tuple (never changes) -/
 | tup (xs:List V)
 /-- a dict whose keys are ints and texts; one whose keys are tuples of ints and texts (the empty one is both) -/
 | dK (kvs:List (AO × V)) | dT (kvs:List (List AO × V))
 /-- a set of ints: Ao members,Ao size -/
 | set (S:Int->Bool) (n:Nat)
 /-- an instance of the class at C,Ao dict at dx,Ao attributes -/
 | ins (C dx:Addr) (fs:List (Str × V))
 /-- the dict of the instance at x -/
 | own (x:Addr)
 /-- the dict of an exception -/
 | xd (fs:List (Str × V))
 /-- a bound method,f of x -/
 | met (f x:Addr)
 /-- a range object lo,lo + 1,.. below hi -/
 | rng (lo hi:Int)
 /-- a thing that is known to the object (the script; a dict while a loop walks it): read,never written while it is so -/
 | frz (o:Obj) (u:HO)
 /-- a code UO table -/
 | tbl (ps:Array Value)
 /-- any other thing,by what is true of Ao one object (a def of one's own: SetO a S n:=HO.ext fun h=>..) -/
 | ext (φ:Heap->Prop)
abbrev Hp:=Addr->Option HO
def upd (H:Hp) (a:Addr) (o:HO):Hp:=fun b=>if b=a then some o else H b
theorem Ab {H:Hp} {a:Addr} {o:HO}:upd H a o a=some o:=by unfold upd; rw [if_pos rfl]
theorem Af {H:Hp} {a b:Addr} {o:HO} (h:b ≠ a):upd H a o b=H b:=by unfold upd; rw [if_neg h]
theorem JS {H:Hp} {a:Addr} {o u:HO}:upd (upd H a o) a u=upd H a u:=by
 funext b; unfold upd; split <;> rfl
theorem Ba {H:Hp} {a b:Addr} {o u:HO} (h:H a=some o) (h':H b=some u) (d:o ≠ u):a ≠ b:=by
 intro e; subst e; rw [h] at h'; exact d (Yi.inj h')
theorem Ah {H:Hp} {a b:Addr} {o:HO} (h:H a=some o) (h':H b=none):a ≠ b:=by
 intro e; subst e; rw [h] at h'; cases h'
def Ov (h:Heap) (a:Addr):Prop:=∀ o,h.get? a=some o->o.dict=none
theorem Ov.new {h:Heap} {o:Obj} (hd:o.dict=none) (hf:o.isFreed=false):Ov (h.push o) h.objs.size:=fun o' e=>by
 rw [XJ _ hf] at e;cases e
 exact hd
section
variable (P:Program) (w:World)
def A9 (H:Hp) (h:Heap) (a:Addr):HO->Prop
 | .lst xs=>xs.length<=sizeLine/\∃ (Ao:List Value) (n:Nat),Ax xs Ao/\h.get? a=some { cls:=.type "list",data:=.seq Ao.toArray n }
 | .tup xs=>xs.length<=sizeLine/\∃ Ao:List Value,Ax xs Ao/\IsTup h a Ao.toArray/\Ov h a
 | .dK kvs=>kvs.length<=sizeLine/\(a == sysModules)=false/\∃ vs,KV kvs vs/\h.DictOf (AK P w) a vs
 | .dT kvs=>kvs.length<=sizeLine/\(a == sysModules)=false/\∃ xs:List (List AO × Addr × Value),
   Paired (fun (p:List AO × V) (q:List AO × Addr × Value)=>p.1=q.1/\H q.2.1=some (.tup (p.1.map kV))/\A3 p.2 q.2.2) kvs xs /\
   ∃ o es ep,h.get? a=some o/\o.ExactDict/\o.data=.dict es ep/\es.toList=xs.map (entryOfKey (tupleKind (AK P w)))/\(xs.map (·.1)).Nodup
 | .set S n=>h.SetOf (intKind P w) a S n
 | .ins C dx fs=>H dx=some (.own a)/\fs.length<=1000/\dx ≠ a/\h.get? a=some (ZA C dx) /\
   ∃ mA,h.Ns1 dx mA/\(∀ f,Gv (fs.lookup f) (mA f))/\PySem.Within mA (fs.map (·.1))
 | .own _=>∃ o,h.get? a=some o
 | .xd fs=>∃ mA,h.Ns1 a mA/\∀ f,Gv (fs.lookup f) (mA f)
 | .rng lo hi=>∃ t u v,h.get? a=some { cls:=.type "range",data:=.fields #[.int lo t,.int hi u,.int 1 v] }
 | .frz o u=>h.get? a=some o/\A9 H h a u
 | .tbl ps=>h.get? a=some { cls:=.none,data:=.fields ps }
 | .met f x=>h.get? a=some (Z6 (.ref f) (.ref x))
 | .ext φ=>φ h/\(∃ o,h.get? a=some o)/\∀ h1 h2:Heap,φ h1->(∀ o,h1.get? a=some o->h2.get? a=some o)->φ h2
def F5 (H:Hp) (h:Heap):Prop:=∀ a o,H a=some o->A9 P w H h a o
end
section
variable {P:Program} {w:World} {H H':Hp} {h h':Heap} {a:Addr} {o:HO}
theorem A9.lt (x:A9 P w H h a o):a < h.objs.size:=by
 cases o with
 | lst xs=>obtain ⟨_,_,_,_,e⟩:=x; exact XE e
 | tup xs=>obtain ⟨_,_,_,p,_⟩:=x; exact p.lt
 | dK kvs=>obtain ⟨_,_,_,_,o,_,_,e,_⟩:=x; exact XE e
 | dT kvs=>obtain ⟨_,_,_,_,o,_,_,e,_⟩:=x; exact XE e
 | set S n=>obtain ⟨o,_,_,_,e,_⟩:=x; exact XE e
 | ins C dx fs=>obtain ⟨_,_,_,e,_⟩:=x; exact XE e
 | own y=>obtain ⟨_,e⟩:=x; exact XE e
 | xd fs=>obtain ⟨_,⟨_,_,_,e,_⟩,_⟩:=x; exact XE e
 | rng lo hi=>obtain ⟨_,_,_,e⟩:=x; exact XE e
 | frz ob u=>obtain ⟨e,_⟩:=x; exact XE e
 | tbl ps=>exact XE (show h.get? a=some _ from x)
 | met f y=>exact XE (show h.get? a=some _ from x)
 | ext φ=>obtain ⟨_,⟨_,e⟩,_⟩:=x; exact XE e
theorem Paired.mapP {α β:Type} {F G:α->β->Prop}:∀ {Qa:List α} {l₂:List β},Paired F Qa l₂->(∀ a b,F a b->G a b)->Paired G Qa l₂
 | _,_,.nil,_=>.nil
 | _,_,.cons r t,f=>.cons (f _ _ r) (Paired.mapP t f)
theorem A9.stay (x:A9 P w H h a o) (k:∀ b u,(b=a\/H b=some (.own a))->h.get? b=some u->h'.get? b=some u)
  (ho:∀ b,H b=some (.own a)->H' b=some (.own a)) (ht:∀ b xs,H b=some (.tup xs)->H' b=some (.tup xs)):A9 P w H' h' a o:=by
 induction o with
 | lst xs=>obtain ⟨z,Ao,n,r,e⟩:=x; exact ⟨z,Ao,n,r,k _ _ (.inl rfl) e⟩
 | tup xs=>
  obtain ⟨z,Ao,r,⟨ob,e,c⟩,dn⟩:=x;have e':=k _ _ (.inl rfl) e;exact ⟨z,Ao,r,⟨ob,e',c⟩,fun o q=>by rw [e'] at q; cases q; exact dn _ e⟩
 | dK kvs=>obtain ⟨z,y,vs,r,ob,es,ep,e,c⟩:=x; exact ⟨z,y,vs,r,ob,es,ep,k _ _ (.inl rfl) e,c⟩
 | dT kvs=>
  obtain ⟨z,y,xs,r,ob,es,ep,e,c⟩:=x;exact ⟨z,y,xs,Paired.mapP r fun p q z=>⟨z.1,ht _ _ z.2.1,z.2.2⟩,ob,es,ep,k _ _ (.inl rfl) e,c⟩
 | set S n=>obtain ⟨ob,es,ep,t,e,c⟩:=x; exact ⟨ob,es,ep,t,k _ _ (.inl rfl) e,c⟩
 | ins C dx fs=>
  obtain ⟨d,z,ne,e,mA,⟨od,es,ep,e2,c⟩,r⟩:=x;exact ⟨ho _ d,z,ne,k _ _ (.inl rfl) e,mA,⟨od,es,ep,k _ _ (.inr d) e2,c⟩,r⟩
 | own y=>obtain ⟨ob,e⟩:=x; exact ⟨ob,k _ _ (.inl rfl) e⟩
 | xd fs=>obtain ⟨mA,⟨od,es,ep,e,c⟩,r⟩:=x; exact ⟨mA,⟨od,es,ep,k _ _ (.inl rfl) e,c⟩,r⟩
 | rng lo hi=>obtain ⟨t,u,v,e⟩:=x; exact ⟨t,u,v,k _ _ (.inl rfl) e⟩
 | frz ob u ih=>obtain ⟨e,q⟩:=x; exact ⟨k _ _ (.inl rfl) e,ih q⟩
 | tbl ps=>
  have e:h.get? a=some { cls:=.none,data:=.fields ps }:=x;show h'.get? a=some { cls:=.none,data:=.fields ps }
  exact k a _ (.inl rfl) e
 | met f y=>
  have e:h.get? a=some (Z6 (.ref f) (.ref y)):=x;show h'.get? a=some (Z6 (.ref f) (.ref y))
  exact k a _ (.inl rfl) e
 | ext φ=>obtain ⟨p,⟨o,e⟩,st⟩:=x; exact ⟨st _ _ p fun o q=>k _ _ (.inl rfl) q,⟨o,k _ _ (.inl rfl) e⟩,st⟩
theorem F5.lt (x:F5 P w H h) (e:H a=some o):a < h.objs.size:=(x a o e).lt
theorem F5.fresh (x:F5 P w H h) (e:h.objs.size<=a):H a=none:=by
 cases q:H a with
 | none=>rfl
 | some u=>exact absurd (XH (x.lt q) e) (Yx _)
theorem F5.kept (x:F5 P w H h) (k:∀ b u,h.get? b=some u->h'.get? b=some u):F5 P w H h':=fun a o e=>
 (x a o e).stay (fun b u _ q=>k b u q) (fun _ q=>q) fun _ _ q=>q
theorem F5.laid (x:F5 P w H h) (k:∀ b u,h.get? b=some u->h'.get? b=some u) (hp:h.objs.size<=a) (new:A9 P w (upd H a o) h' a o):F5 P w (upd H a o) h':=fun b u e=>by
 have hn:=x.fresh hp;by_cases hb:b=a
 ·subst hb; rw [Ab] at e; cases e; exact new
 ·rw [Af hb] at e;exact (x b u e).stay (fun c v _ q=>k c v q) (fun c q=>by rw [Af (Ah q hn)]; exact q) fun c xs q=>by rw [Af (Ah q hn)]; exact q
end
def Rd (H:Hp) (a:Addr) (u:HO):Prop:=H a=some u\/∃ o,H a=some (.frz o u)
theorem Rd.ok {P:Program} {w:World} {H:Hp} {h:Heap} {a:Addr} {u:HO} (r:Rd H a u) (x:F5 P w H h):A9 P w H h a u:=by
 rcases r with r | ⟨o,r⟩
 ·exact x a u r
 ·obtain ⟨_,q⟩:=x a _ r;exact q
def Mut:Option HO->Prop
 | some (.lst _)=>True
 | some (.dK _)=>True
 | some (.dT _)=>True
 | some (.set _ _)=>True
 | some (.ins _ _ _)=>True
 | some (.ext _)=>True
 | _=>False
section
variable {P:Program} {w:World} {H:Hp} {h h':Heap} {x e:Addr} {o':HO}
theorem F5.write (ok:F5 P w H h) (mu:Mut (H x)) (he:e=x\/H e=some (.own x)) (k:∀ b u,b ≠ e->h.get? b=some u->h'.get? b=some u) (heo:∃ u,h'.get? e=some u)
  (new:A9 P w (upd H x o') h' x o'):F5 P w (upd H x o') h':=fun b u q=>by
 have nown:∀ c y,H c=some (.own y)->c ≠ x:=fun c y r z=>by subst z; rw [r] at mu; exact mu
 have ntup:∀ c xs,H c=some (.tup xs)->c ≠ x:=fun c xs r z=>by subst z; rw [r] at mu; exact mu
 by_cases hb:b=x
 ·subst hb; rw [Ab] at q; cases q; exact new
 ·rw [Af hb] at q;by_cases hbe:b=e
  ·have q':H b=some (.own x):=by
    rcases he with z | z
    ·exact absurd (hbe.trans z) hb
    ·rw [hbe]; exact z
   rw [q] at q'; cases q';obtain ⟨v,hv⟩:=heo;exact ⟨v,by rw [hbe]; exact hv⟩
  ·refine (ok b u q).stay (fun c v hc r=>k c v ?_ r) (fun c r=>by rw [Af (nown c b r)]; exact r) fun c xs r=>by rw [Af (ntup c xs r)]; exact r
   rcases hc with rfl | hc
   ·exact hbe
   ·rintro rfl;rcases he with z | z
    ·exact nown c b hc z
    ·rw [hc] at z; cases z; exact hb rfl
end
structure Un (fs ex:List Addr) (H H':Hp) (h h':Heap):Prop where
 keep:∀ b o,h.get? b=some o->H b=none->b ∉ fs->b ∉ ex->h'.get? b=some o
 slot:∀ b o,h.get? b=some o->H b=none->b ∈ fs->b ∉ ex->∃ sl,h'.get? b=some { o with slots:=sl }
 free:∀ b o,h.get? b=some o->H b=none->b ∉ ex->H' b=none
 there:∀ b o,h.get? b=some o->b ∉ ex->∃ o',h'.get? b=some o'
 tups:∀ b xs,H b=some (.tup xs)->H' b=some (.tup xs)
 frzs:∀ b o u,H b=some (.frz o u)->H' b=some (.frz o u)
 tbls:∀ b ps,H b=some (.tbl ps)->∃ more,H' b=some (.tbl (ps ++ more))
section
variable {fs fs' ex ex':List Addr} {H H1 H2:Hp} {h h1 h2 h':Heap} {a x e:Addr} {o:HO}
theorem Un.any (u:Un fs ex H H1 h h1) {b:Addr} {ob:Obj} (q:h.get? b=some ob) (n:H b=none) (hx:b ∉ ex):∃ sl,h1.get? b=some { ob with slots:=sl }:=by
 by_cases hb:b ∈ fs
 ·exact u.slot b ob q n hb hx
 ·exact ⟨ob.slots,u.keep b ob q n hb hx⟩
theorem Un.kept (k:∀ b u,h.get? b=some u->h'.get? b=some u):Un fs ex H H h h':=
 ⟨fun b ob q _ _ _=>k b ob q,fun b ob q _ _ _=>⟨ob.slots,k b ob q⟩,fun _ _ _ n _=>n,fun b ob q _=>⟨ob,k b ob q⟩,fun _ _ q=>q,fun _ _ _ q=>q,fun _ ps q=>⟨#[],by rw [q]; simp⟩⟩
theorem Un.refl:Un fs ex H H h h:=Un.kept fun _ _ q=>q
theorem Un.laid (k:∀ b u,h.get? b=some u->h'.get? b=some u) (hp:h.objs.size<=a) (hn:H a=none):Un fs ex H (upd H a o) h h' where
 keep:=fun b u q _ _ _=>k b u q
 slot:=fun b u q _ _ _=>⟨u.slots,k b u q⟩
 free:=fun b u q n _=>by rw [Af (XQ (XH (XE q) hp))]; exact n
 there:=fun b u q _=>⟨u,k b u q⟩
 tups:=fun b xs q=>by rw [Af (Ah q hn)]; exact q
 frzs:=fun b u xs q=>by rw [Af (Ah q hn)]; exact q
 tbls:=fun b ps q=>⟨#[],by rw [Af (Ah q hn),q]; simp⟩
theorem Un.write (mu:Mut (H x)) (he:e=x\/H e=some (.own x)) (k:∀ b u,b ≠ e->h.get? b=some u->h'.get? b=some u) (heo:∃ u,h'.get? e=some u):Un fs ex H (upd H x o) h h':=by
 have hx:∀ b,H b=none->b ≠ x:=fun b n z=>by subst z; rw [n] at mu; exact mu
 have hb:∀ b,H b=none->b ≠ e:=fun b n z=>by
  subst z;rcases he with r | r
  ·exact hx b n r
  ·rw [n] at r; cases r
 have hm:∀ b u,H b=some u->¬ Mut (some u)->b ≠ x:=fun b u q nm z=>by subst z; rw [q] at mu; exact nm mu
 refine ⟨fun b u q n _ _=>k b u (hb b n) q,fun b u q n _ _=>⟨u.slots,k b u (hb b n) q⟩,fun b u q n _=>by rw [Af (hx b n)]; exact n,fun b u q _=>?_,
  fun b xs q=>by rw [Af (hm b _ q fun z=>z)]; exact q,fun b u xs q=>by rw [Af (hm b _ q fun z=>z)]; exact q,fun b ps q=>⟨#[],by rw [Af (hm b _ q fun z=>z),q]; simp⟩⟩
 by_cases hbe:b=e
 ·subst hbe; exact heo
 ·exact ⟨u,k b u hbe q⟩
end
def trk (h:Heap) (H:Hp):List Addr:=(YS h.objs.size).filter fun a=>(H a).isSome
def Kr (h:Heap) (H:Hp):Heap:=PySem.W.hideAll h (trk h H)
theorem Ob (h:Heap) (H:Hp):(Kr h H).objs.size=h.objs.size:=PySem.W.hideAll_size _ _
theorem Qh {h:Heap} {H:Hp} {b:Addr} {o:Obj} (e:h.get? b=some o) (n:H b=none):(Kr h H).get? b=some o:=
 PySem.W.hideAll_get _ e fun hm=>by
  have q:(H b).isSome=true:=(YI.mp hm).2;rw [n] at q; simp at q
theorem Ro {h:Heap} {H:Hp} {b:Addr} {o:Obj} (e:(Kr h H).get? b=some o):h.get? b=some o/\H b=none:=by
 have e':h.get? b=some o:=PySem.W.of_hideAll (trk h H) e;refine ⟨e',?_⟩;cases q:H b with
 | none=>rfl
 | some x=>
  have hm:b ∈ trk h H:=YI.mpr ⟨Zc.mpr (XE e'),by simp [q]⟩;have z:(Kr h H).get? b=none:=PySem.W.hideAll_none (trk h H) hm;rw [z] at e; cases e
structure Mod (K:XB) (mg:Str->Option Value) (base:Heap):Prop where
 kin:K.In base
 glob:base.Ns mainGlobals mg
 blt:∃ mb,base.Ns builtinsNs mb/\∀ x:Str,x ≠ "__name__"->mb x=bootBuiltins x
 nolimit:base.NoLimit
structure Cx where
 prog:Program
 w:World
 K:XB
 mg:Str->Option Value
 base:Heap
 A:Around
 N:List Str
 s₀:Shared
 H₀:Hp
 env:Env
 outer:List Env
 stack:List Env
 ex:List Addr
 fn:Str->Bool
 calm:Bool
 pn:List (Addr × Obj)
 xe:Value->Shared->Prop
def Qo (l:List Env):List Addr:=l.filterMap (·.frame)
abbrev Cx.fs (X:Cx):List Addr:=Qo X.outer
def Vis (sc:Scope) (x:Str):Prop:=sc.names.lookup x=some .local\/sc.names.lookup x=some .cell\/sc.names.lookup x=some .free
def Ua (sc:Scope) (x:Str):Prop:=sc.names.lookup x=some .local\/sc.names.lookup x=some .cell
def Look (env:Env) (h:Heap) (m:Str->Option Value) (x:Str) (u:Value):Prop:=
 (env.kindOf x=some .local/\m x=some u)\/((env.kindOf x=some .cell\/env.kindOf x=some .free)/\∃ c,env.cells.lookup x=some c/\h.IsCell c (some u))
structure Cx.Ok (X:Cx):Prop where
 mod:Mod X.K X.mg X.base
 kind:X.env.scope.kind=.function
 glob:X.env.globals=mainGlobals
 blt:X.env.builtins=builtinsNs
 above:X.s₀.heap.objs.size<=X.env.locals
 inj:∀ x y c,X.env.cells.lookup x=some c->X.env.cells.lookup y=some c->x=y
 has:∀ x,(X.env.kindOf x=some .cell\/X.env.kindOf x=some .free)->∃ c,X.env.cells.lookup x=some c
 cab:∀ x c,X.fn x=true->X.env.cells.lookup x=some c->X.s₀.heap.objs.size<=c
 hd:X.calm=true->X.A.handled=none
 frames:X.A.frames=some X.stack
 stk:X.stack=X.outer\/(X.stack=X.env :: X.outer/\X.env.frame=some X.env.locals)
 exf:∀ b ∈ X.ex,b ≠ X.env.locals/\∀ x c,X.env.cells.lookup x=some c->c ≠ b
 bs:∀ b o,X.base.get? b=some o->X.s₀.heap.get? b=some o/\X.H₀ b=none
 bsz:X.base.objs.size<=X.s₀.heap.objs.size
 noex:∀ b o,X.base.get? b=some o->b ∉ X.ex
 exfs:∀ b ∈ X.ex,b ∉ X.fs
 funs:X.s₀.heap.FunFrames X.base X.outer
 frf:∀ b ∈ X.fs,X.H₀ b=none
structure An (X:Cx) (pins:List (Addr × Obj)) (σ:List (Option V)) (H:Hp) (s:Shared):Prop where
 ok:X.Ok
 os:s.os=X.s₀.os
 bare:AllBare s.gens
 base:Un X.fs X.ex X.H₀ H X.s₀.heap s.heap
 loc:∃ m,s.heap.Ns X.env.locals m/\∀ (i:Nat) (x:Str) (v:V),X.N[i]? = some x->σ[i]? = some (some v)->Vis X.env.scope x->∃ u,A3 v u/\Look X.env s.heap m x u
 cell:∀ x c,X.env.cells.lookup x=some c->∃ v,s.heap.IsCell c v
 free:H X.env.locals=none
 freeC:∀ x c,X.env.cells.lookup x=some c->H c=none
 pin:∀ p ∈ X.pn ++ pins,s.heap.get? p.1=some p.2/\H p.1=none/\p.1 ≠ X.env.locals/\p.1 ∉ X.fs/\∀ v,p.2.data ≠ .cell v
 hok:F5 X.prog X.w H s.heap
 len:σ.length=X.N.length
section
variable {X:Cx} {pins:List (Addr × Obj)} {σ:List (Option V)} {H H':Hp} {s:Shared} {h':Heap}
theorem Cx.Ok.nofr (ok:X.Ok) {b:Addr} {o:Obj} (e:X.base.get? b=some o):b ∉ X.fs:=fun hb=>by
 have:=(ok.funs.mem hb).1;rw [e] at this; cases this
theorem An.bs (I:An X pins σ H s):∀ b o,X.base.get? b=some o->s.heap.get? b=some o/\H b=none:=fun b o e=>
 ⟨I.base.keep b o (I.ok.bs b o e).1 (I.ok.bs b o e).2 (I.ok.nofr e) (I.ok.noex b o e),I.base.free b o (I.ok.bs b o e).1 (I.ok.bs b o e).2 (I.ok.noex b o e)⟩
theorem An.bk (I:An X pins σ H s):∀ b o,X.base.get? b=some o->s.heap.get? b=some o:=fun b o e=>(I.bs b o e).1
theorem An.mod (I:An X pins σ H s):Mod X.K X.mg X.base:=I.ok.mod
theorem An.kIn (I:An X pins σ H s):X.K.In s.heap:=I.ok.mod.kin.keeps I.bk
theorem An.lt (I:An X pins σ H s):X.env.locals < s.heap.objs.size:=let ⟨_,hn,_⟩:=I.loc; hn.lt
theorem An.sz (I:An X pins σ H s):X.s₀.heap.objs.size<=s.heap.objs.size:=Yo I.ok.above (Zv I.lt)
theorem An.nofs (I:An X pins σ H s) {a:Addr} (h:s.heap.objs.size<=a):a ∉ X.fs:=fun hb=>by
 obtain ⟨_,o,ho,_⟩:=I.ok.funs.mem hb;exact absurd (XH (XE ho) (Yo I.sz h)) (Yx _)
theorem An.cne (I:An X pins σ H s):∀ x c,X.env.cells.lookup x=some c->c ≠ X.env.locals:=fun x c e z=>by
 obtain ⟨v,o,ho,hd⟩:=I.cell x c e;obtain ⟨m,⟨o',es,ep,IW,Oc,_⟩,_⟩:=I.loc;rw [z,IW] at ho; cases ho; rw [Oc] at hd; cases hd
theorem An.funs (I:An X pins σ H s):s.heap.FunFrames X.base X.outer:=by
 have all:∀ (l:List Env),(∀ b ∈ Qo l,b ∈ X.fs)->X.s₀.heap.FunFrames X.base l->s.heap.FunFrames X.base l:=by
  intro l;induction l with
  | nil=>intro _ _; trivial
  | cons env r ih=>
   intro hs hl;obtain ⟨hk,⟨L,o,hf,hn,ho,hd⟩,hr⟩:=hl;have hL:L ∈ X.fs:=hs L (by unfold Qo; rw [Z5,hf]; exact Yh);obtain ⟨sl,e⟩:=I.base.slot L o ho (I.ok.frf L hL) hL fun z=>I.ok.exfs L z hL
   exact ⟨hk,⟨L,_,hf,hn,e,hd⟩,ih (fun b hb=>hs b (by unfold Qo; rw [Z5,hf]; exact Yg _ hb)) hr⟩
 exact all X.outer (fun _ hb=>hb) I.ok.funs
theorem An.stack (I:An X pins σ H s):s.heap.FunFrames X.base X.stack:=by
 rcases I.ok.stk with e | ⟨e,hf⟩
 ·rw [e]; exact I.funs
 ·rw [e];obtain ⟨m,hn,_⟩:=I.loc;refine .cons (by rw [I.ok.kind]; decide) hf hn ?_ I.funs;exact Heap.get?_none_of_le (Yo I.ok.bsz I.ok.above)
theorem An.stkSub (I:An X pins σ H s):∀ b ∈ Qo X.stack,b ∈ X.env.locals :: X.fs:=fun b hb=>by
 rcases I.ok.stk with e | ⟨e,hf⟩
 ·rw [e] at hb; exact Yg _ hb
 ·rw [e] at hb;unfold Qo at hb;rw [Z5,hf] at hb;exact hb
theorem An.stkFree (I:An X pins σ H s):∀ b ∈ Qo X.stack,H b=none:=fun b hb=>by
 rcases XC.mp (I.stkSub b hb) with e | hb
 ·rw [e]; exact I.free
 ·obtain ⟨_,o,ho,_⟩:=I.ok.funs.mem hb;exact I.base.free b o ho (I.ok.frf b hb) fun z=>I.ok.exfs b z hb
theorem An.step {g':Array GenState} {t':Nat} {d':Drawn} {ch:List Addr} (I:An X pins σ H s)
  (hch:∀ b ∈ ch,(b ∈ X.ex\/X.s₀.heap.objs.size<=b)/\b ≠ X.env.locals/\(∀ x c,X.env.cells.lookup x=some c->c ≠ b)/\∀ p ∈ X.pn ++ pins,p.1 ≠ b)
  (keep:∀ b o,b ≠ X.env.locals->b ∉ X.fs->b ∉ ch->s.heap.get? b=some o->H b=none->h'.get? b=some o)
  (slot:∀ b o,b ≠ X.env.locals->b ∈ X.fs->b ∉ ch->s.heap.get? b=some o->H b=none->∃ sl,h'.get? b=some { o with slots:=sl }) (free:∀ b o,b ∉ ch->s.heap.get? b=some o->H b=none->H' b=none)
  (there:∀ b o,b ∉ ch->s.heap.get? b=some o->∃ o',h'.get? b=some o')
  (tups:∀ b xs,H b=some (.tup xs)->H' b=some (.tup xs)) (frzs:∀ b o u,H b=some (.frz o u)->H' b=some (.frz o u)) (tbls:∀ b ps,H b=some (.tbl ps)->∃ more,H' b=some (.tbl (ps ++ more)))
  (ns:∀ m,s.heap.Ns X.env.locals m->h'.Ns X.env.locals m) (hok:F5 X.prog X.w H' h') (hg:AllBare g') :
  An X pins σ H' { s with heap:=h',gens:=g',drawn:=d',toks:=t' }:=by
 have neL:∀ b o,X.s₀.heap.get? b=some o->b ≠ X.env.locals:=fun b o e=>XQ (XH (XE e) I.ok.above)
 have neC:∀ b o,X.s₀.heap.get? b=some o->b ∉ X.ex->b ∉ ch:=fun b o e hx hb=>by
  rcases (hch b hb).1 with z | z
  ·exact hx z
  ·exact absurd (XH (XE e) z) (Yx _)
 have cellK:∀ x c,X.env.cells.lookup x=some c->∀ v,s.heap.IsCell c v->h'.IsCell c v:=fun x c e v ⟨o,ho,hd⟩=>by
  have nch:c ∉ ch:=fun z=>(hch c z).2.2.1 x c e rfl
  by_cases hc:c ∈ X.fs
  ·obtain ⟨sl,q⟩:=slot c o (I.cne x c e) hc nch ho (I.freeC x c e);exact ⟨_,q,hd⟩
  ·exact ⟨o,keep c o (I.cne x c e) hc nch ho (I.freeC x c e),hd⟩
 refine ⟨I.ok,I.os,hg,⟨fun b o e n hb hx=>?_,fun b o e n hb hx=>?_,fun b o e n hx=>?_,fun b o e hx=>?_,fun b xs e=>tups b xs (I.base.tups b xs e),fun b o xs e=>frzs b o xs (I.base.frzs b o xs e),fun b ps e=>?_⟩,?_,fun x c e=>?_,?_,fun x c e=>?_,fun p hp=>?_,hok,I.len⟩
 ·exact keep b o (neL b o e) hb (neC b o e hx) (I.base.keep b o e n hb hx) (I.base.free b o e n hx)
 ·obtain ⟨sl,e1⟩:=I.base.slot b o e n hb hx;obtain ⟨sl',e2⟩:=slot b _ (neL b o e) hb (neC b o e hx) e1 (I.base.free b o e n hx);exact ⟨sl',e2⟩
 ·obtain ⟨o',e1⟩:=I.base.there b o e hx;exact free b o' (neC b o e hx) e1 (I.base.free b o e n hx)
 ·obtain ⟨o',e1⟩:=I.base.there b o e hx;exact there b o' (neC b o e hx) e1
 ·obtain ⟨m1,e1⟩:=I.base.tbls b ps e;obtain ⟨m2,e2⟩:=tbls b _ e1;exact ⟨m1 ++ m2,by rw [e2,Array.append_assoc]⟩
 ·obtain ⟨m,hn,hl⟩:=I.loc;refine ⟨m,ns m hn,fun i x v e1 e2 e3=>?_⟩;obtain ⟨u,r,l⟩:=hl i x v e1 e2 e3;refine ⟨u,r,?_⟩;rcases l with l | ⟨k,c,e,z⟩
  ·exact .inl l
  ·exact .inr ⟨k,c,e,cellK x c e _ z⟩
 ·obtain ⟨v,z⟩:=I.cell x c e;exact ⟨v,cellK x c e v z⟩
 ·obtain ⟨m,⟨o,_,_,ho,_⟩,_⟩:=I.loc;exact free _ o (fun z=>(hch _ z).2.1 rfl) ho I.free
 ·obtain ⟨v,o,ho,hd⟩:=I.cell x c e;exact free c o (fun z=>(hch c z).2.2.1 x c e rfl) ho (I.freeC x c e)
 ·obtain ⟨e,n,ne,nf,d⟩:=I.pin p hp;have nch:p.1 ∉ ch:=fun z=>(hch p.1 z).2.2.2 p hp rfl
  exact ⟨keep p.1 p.2 ne nf nch e n,free p.1 p.2 nch e n,ne,nf,d⟩
theorem An.un {t':Nat} (I:An X pins σ H s) (u:Un X.fs [] H H' s.heap h') (hok:F5 X.prog X.w H' h'):An X pins σ H' { s with heap:=h',toks:=t' }:=by
 obtain ⟨m,⟨o,es,ep,ho,r⟩,_⟩:=id I.loc;obtain ⟨sl,hL⟩:=u.any ho I.free (by simp);exact I.step (g':=s.gens) (d':=s.drawn) (ch:=[]) (fun _ z=>nomatch z) (fun b o _ hb _ e n=>u.keep b o e n hb (by simp)) (fun b o _ hb _ e n=>u.slot b o e n hb (by simp)) (fun b o _ e n=>u.free b o e n (by simp)) (fun b o _ e=>u.there b o e (by simp)) u.tups u.frzs u.tbls (fun m' hm=>by
  obtain ⟨o',Wg,Si,IW,r'⟩:=hm;rw [ho] at IW; cases IW;exact ⟨_,Wg,Si,hL,r'⟩) hok I.bare
theorem An.call {g':Array GenState} {t':Nat} {d':Drawn} {ch:List Addr} (I:An X pins σ H s) (u:Un (Qo X.stack) ch H H' s.heap h') (hok:F5 X.prog X.w H' h') (hg:AllBare g')
  (hch:∀ b ∈ ch,(b ∈ X.ex\/X.s₀.heap.objs.size<=b)/\b ≠ X.env.locals/\(∀ x c,X.env.cells.lookup x=some c->c ≠ b)/\∀ p ∈ X.pn ++ pins,p.1 ≠ b) :
  An X pins σ H' { s with heap:=h',gens:=g',drawn:=d',toks:=t' }:=by
 obtain ⟨m,⟨o,es,ep,ho,r⟩,_⟩:=id I.loc;obtain ⟨sl,hL⟩:=u.any ho I.free fun z=>(hch _ z).2.1 rfl
 exact I.step (ch:=ch) hch (fun b o hL hb hc e n=>u.keep b o e n (fun z=>(XC.mp (I.stkSub b z)).elim hL hb) hc) (fun b o _ _ hc e n=>u.any e n hc) (fun b o hc e n=>u.free b o e n hc) (fun b o hc e=>u.there b o e hc) u.tups u.frzs u.tbls (fun m' hm=>by
  obtain ⟨o',Wg,Si,IW,r'⟩:=hm;rw [ho] at IW; cases IW;exact ⟨_,Wg,Si,hL,r'⟩) hok hg
theorem An.turned {t':Nat} {it:Addr} (I:An X pins σ H s) (k:∀ b o,b ≠ it->s.heap.get? b=some o->h'.get? b=some o) (hn:H it=none) (hL:it ≠ X.env.locals)
  (h1:it ∈ X.ex\/X.s₀.heap.objs.size<=it) (h2:∀ x c,X.env.cells.lookup x=some c->c ≠ it) (h3:∀ p ∈ X.pn ++ pins,p.1 ≠ it):An X pins σ H { s with heap:=h',toks:=t' }:=by
 have nit:∀ b u,H b=some u->b ≠ it:=fun b u e z=>by rw [z,hn] at e; cases e
 refine I.step (g':=s.gens) (d':=s.drawn) (ch:=[it]) (fun b hb=>?_) (fun b o _ _ hc e _=>k b o (fun z=>hc (by simp [z])) e) (fun b o _ _ hc e _=>⟨o.slots,k b o (fun z=>hc (by simp [z])) e⟩) (fun _ _ _ _ n=>n)
  (fun b o hc e=>⟨o,k b o (fun z=>hc (by simp [z])) e⟩) (fun _ _ e=>e) (fun _ _ _ e=>e) (fun b ps e=>⟨#[],by rw [e]; simp⟩) (fun m hm=>?_) (fun b u e=>?_) I.bare
 ·have e:b=it:=by simpa using hb
  subst e;exact ⟨h1,hL,h2,h3⟩
 ·obtain ⟨o,es,ep,ho,r⟩:=hm;exact ⟨o,es,ep,k _ o (Ne.symm hL) ho,r⟩
 ·refine (I.hok b u e).stay (fun c v hc q=>k c v ?_ q) (fun _ q=>q) fun _ _ q=>q
  rcases hc with z | z
  ·rw [z]; exact nit b u e
  ·exact nit c _ z
theorem An.tok (I:An X pins σ H s) (t:Nat):An X pins σ H { s with toks:=t }:=I.un (h':=s.heap) (t':=t) Un.refl I.hok
theorem An.kept {t':Nat} (I:An X pins σ H s) (k:∀ b u,s.heap.get? b=some u->h'.get? b=some u):An X pins σ H { s with heap:=h',toks:=t' }:=I.un (Un.kept k) (I.hok.kept k)
theorem An.laid {a:Addr} {o:HO} {t':Nat} (I:An X pins σ H s) (k:∀ b u,s.heap.get? b=some u->h'.get? b=some u) (hp:s.heap.objs.size<=a) (new:A9 X.prog X.w (upd H a o) h' a o) :
  An X pins σ (upd H a o) { s with heap:=h',toks:=t' }:=I.un (Un.laid k hp (I.hok.fresh hp)) (I.hok.laid k hp new)
theorem An.write {x e:Addr} {o:HO} {t':Nat} (I:An X pins σ H s) (mu:Mut (H x)) (he:e=x\/H e=some (.own x)) (k:∀ b u,b ≠ e->s.heap.get? b=some u->h'.get? b=some u) (heo:∃ u,h'.get? e=some u)
  (new:A9 X.prog X.w (upd H x o) h' x o):An X pins σ (upd H x o) { s with heap:=h',toks:=t' }:=I.un (Un.write mu he k heo) (I.hok.write mu he k heo new)
theorem An.pins_of {Sa:List (Addr × Obj)} (I:An X pins σ H s) (h:∀ p ∈ Sa,s.heap.get? p.1=some p.2/\H p.1=none/\p.1 ≠ X.env.locals/\p.1 ∉ X.fs/\∀ v,p.2.data ≠ .cell v):An X Sa σ H s:=
 ⟨I.ok,I.os,I.bare,I.base,I.loc,I.cell,I.free,I.freeC,fun p hp=>(Ye.mp hp).elim (fun z=>I.pin p (YB _ z)) (h p),I.hok,I.len⟩
theorem HQ {N:List Str} (hN:N.Nodup) {i j:Nat} {x:Str} (a:N[i]? = some x) (b:N[j]? = some x):i=j:=by
 obtain ⟨h1,e1⟩:=XX.mp a;obtain ⟨h2,e2⟩:=XX.mp b;exact (aO hN).mp (e1.trans e2.symm)
theorem EO {M:Model} {A:Around} {E:Value->Shared->Prop} {i:Nat} {x:Str} {v:V} {u:Value} {Q:Unit->Shared->Prop} (I:An X pins σ H s) (hN:X.N.Nodup) (hi:X.N[i]? = some x) (hx:Ua X.env.scope x) (r:A3 v u)
  (h:∀ s',An X pins (σ.set i (some v)) H s'->(∃ a,Heap.SameBut a s.heap s'.heap/\(a=X.env.locals\/X.env.cells.lookup x=some a))->Q () s') (hf:X.fn x=true\/X.env.scope.names.lookup x=some .local:=by first | exact .inl rfl | exact .inr rfl | assumption):wpAny M A (storeName X.env x u) Q E s:=by
 obtain ⟨m,hn,hl⟩:=id I.loc;have hcls:(X.env.scope.kind == .class || (X.env.scope.kind == .module && X.env.locals != X.env.globals))=false:=by rw [I.ok.kind]; rfl
 have hiσ:i < σ.length:=by rw [I.len]; exact (XX.mp hi).1
 have cne:=I.cne;have tracked:∀ {a:Addr} {h':Heap},(∃ o,s.heap.get? a=some o/\H a=none)->Heap.SameBut a s.heap h'->F5 X.prog X.w H h':=fun {a h'} ha hs b ob e=>by
  obtain ⟨_,_,hfree⟩:=ha;refine (I.hok b ob e).stay (fun c w' hc q=>(hs.2 c ?_).trans q) (fun _ q=>q) fun _ _ q=>q
  rintro rfl;rcases hc with rfl | hc
  ·rw [hfree] at e; cases e
  ·rw [hfree] at hc; cases hc
 rcases hx with hk | hk
 ·refine wpAny_storeName_local hk hn (fun h' VW hs=>?_) hcls;obtain ⟨oL,_,_,hoL,_⟩:=id hn;refine h _ ⟨I.ok,I.os,I.bare,⟨fun b o e n hb hx=>?_,fun b o e n hb hx=>?_,I.base.free,fun b o e hx=>?_,I.base.tups,I.base.frzs,I.base.tbls⟩,⟨_,VW,fun j y v' e1 e2 e3=>?_⟩,fun y c e=>?_,I.free,I.freeC,fun p hp=>?_,tracked ⟨oL,hoL,I.free⟩ hs,by simpa using I.len⟩ ⟨_,hs,.inl rfl⟩
  ·exact (hs.2 b (XQ (XH (XE e) I.ok.above))).trans (I.base.keep b o e n hb hx)
  ·obtain ⟨sl,e1⟩:=I.base.slot b o e n hb hx;exact ⟨sl,(hs.2 b (XQ (XH (XE e) I.ok.above))).trans e1⟩
  ·obtain ⟨o',e1⟩:=I.base.there b o e hx;exact ⟨o',(hs.2 b (XQ (XH (XE e) I.ok.above))).trans e1⟩
  ·by_cases hj:j=i
   ·subst hj;rw [hi] at e1; cases e1;rw [ZS hiσ] at e2;cases e2
    exact ⟨u,r,.inl ⟨hk,by simp⟩⟩
   ·rw [af (Ne.symm hj)] at e2;obtain ⟨u',r',q⟩:=hl j y v' e1 e2 e3;refine ⟨u',r',?_⟩;rcases q with ⟨k,e⟩ | ⟨k,c,e,z⟩
    ·refine .inl ⟨k,?_⟩;have:y ≠ x:=fun e=>hj (HQ hN e1 (e ▸ hi))
     simp [this,e]
    ·exact .inr ⟨k,c,e,z.sameBut hs (cne y c e)⟩
  ·obtain ⟨w',z⟩:=I.cell y c e;exact ⟨w',z.sameBut hs (cne y c e)⟩
  ·obtain ⟨e,n,ne,nf,d⟩:=I.pin p hp;exact ⟨(hs.2 p.1 ne).trans e,n,ne,nf,d⟩
 ·have hfn:X.fn x=true:=by
   rcases hf with z | z
   ·exact z
   ·rw [z] at hk; cases hk
  obtain ⟨c,hc⟩:=I.ok.has x (.inl hk);obtain ⟨w',z⟩:=I.cell x c hc;refine wpAny_storeName_cell I.ok.kind hk hc z (fun h' F4 hs=>?_);obtain ⟨oc,hoc,hocd⟩:=id z;refine h { s with heap:=h' } ⟨I.ok,I.os,I.bare,⟨fun b o e n hb hx=>?_,fun b o e n hb hx=>?_,I.base.free,fun b o e hx=>?_,I.base.tups,I.base.frzs,I.base.tbls⟩,⟨m,hn.sameBut hs (Ne.symm (cne x c hc)),fun j y v' e1 e2 e3=>?_⟩,fun y c' e=>?_,I.free,I.freeC,fun p hp=>?_,tracked ⟨oc,hoc,I.freeC x c hc⟩ hs,by simpa using I.len⟩ ⟨c,hs,.inr hc⟩
  ·exact (hs.2 b (XQ (XH (XE e) (I.ok.cab x c hfn hc)))).trans (I.base.keep b o e n hb hx)
  ·obtain ⟨sl,e1⟩:=I.base.slot b o e n hb hx;exact ⟨sl,(hs.2 b (XQ (XH (XE e) (I.ok.cab x c hfn hc)))).trans e1⟩
  ·obtain ⟨o',e1⟩:=I.base.there b o e hx;exact ⟨o',(hs.2 b (XQ (XH (XE e) (I.ok.cab x c hfn hc)))).trans e1⟩
  ·by_cases hj:j=i
   ·subst hj;rw [hi] at e1; cases e1;rw [ZS hiσ] at e2;cases e2
    exact ⟨u,r,.inr ⟨.inl hk,c,hc,F4⟩⟩
   ·rw [af (Ne.symm hj)] at e2;obtain ⟨u',r',q⟩:=hl j y v' e1 e2 e3;refine ⟨u',r',?_⟩;rcases q with q | ⟨k,c',e,z'⟩
    ·exact .inl q
    ·refine .inr ⟨k,c',e,z'.sameBut hs ?_⟩;rintro rfl;exact hj (HQ hN e1 (I.ok.inj _ _ _ e hc ▸ hi))
  ·by_cases hcc:c'=c
   ·subst hcc; exact ⟨_,F4⟩
   ·obtain ⟨w2,z2⟩:=I.cell y c' e;exact ⟨w2,z2.sameBut hs hcc⟩
  ·obtain ⟨e,n,ne,nf,d⟩:=I.pin p hp;refine ⟨(hs.2 p.1 ?_).trans e,n,ne,nf,d⟩;intro q;rw [q,hoc] at e;have q':oc=p.2:=Yi.inj e;exact d w' (by rw [<-q']; exact hocd)
theorem K7 {M:Model} {A:Around} {E:Value->Shared->Prop} {i:Nat} {x:Str} {v:V} {u:Value} {Q:Unit->Shared->Prop} (I:An X pins σ H s) (hN:X.N.Nodup) (hi:X.N[i]? = some x) (hx:Ua X.env.scope x) (r:A3 v u)
  (h:∀ s',An X pins (σ.set i (some v)) H s'->Q () s') (hf:X.fn x=true\/X.env.scope.names.lookup x=some .local:=by first | exact .inl rfl | exact .inr rfl | assumption):wpAny M A (storeName X.env x u) Q E s:=
 EO I hN hi hx r (fun s' I' _=>h s' I') hf
theorem An.call' {s':Shared} {ch:List Addr} (I:An X pins σ H s) (ho:s'.os=s.os) (u:Un (Qo X.stack) ch H H' s.heap s'.heap) (hok:F5 X.prog X.w H' s'.heap) (hg:AllBare s'.gens)
  (hch:∀ b ∈ ch,(b ∈ X.ex\/X.s₀.heap.objs.size<=b)/\b ≠ X.env.locals/\(∀ x c,X.env.cells.lookup x=some c->c ≠ b)/\∀ p ∈ X.pn ++ pins,p.1 ≠ b):An X pins σ H' s':=by
 obtain ⟨h',g',d',t',o'⟩:=s';have e:o'=s.os:=ho;subst e;exact I.call (g':=g') (t':=t') (d':=d') u hok hg hch
end
abbrev XK:=Value->Option Addr->Hp->Prop
abbrev St:=List (Option V)
abbrev VK:=V->Hp->Prop
abbrev TE:=St->Hp->VK->Prop
abbrev TT:=St->Hp->(Bool->Hp->Prop)->Prop
abbrev TA:=St->Hp->(List V->Hp->Prop)->Prop
structure El where
 nx:St->Hp->Prop
 rt:VK
 bk:St->Hp->Prop:=fun _ _=>False
 ct:St->Hp->Prop:=fun _ _=>False
abbrev TS:=El->St->Hp->Prop
def EP (X:Cx) (pins:List (Addr × Obj)) (σ:St) (Q:VK) (u:Value) (s':Shared):Prop:=∃ v H',An X pins σ H' s'/\A3 v u/\Q v H'
def TP (X:Cx) (pins:List (Addr × Obj)) (σ:St) (Q:Bool->Hp->Prop) (b:Bool) (s':Shared):Prop:=∃ H',An X pins σ H' s'/\Q b H'
def AP (X:Cx) (pins:List (Addr × Obj)) (σ:St) (Q:List V->Hp->Prop) (us:List Value) (s':Shared):Prop:=∃ vs H',An X pins σ H' s'/\Ax vs us/\Q vs H'
def SP (X:Cx) (pins:List (Addr × Obj)) (D:El) (f:Flow) (s':Shared):Prop:=
 match f with
 | .next=>∃ Ar H',An X pins Ar H' s'/\D.nx Ar H'
 | .brk=>∃ Ar H',An X pins Ar H' s'/\D.bk Ar H'
 | .cont=>∃ Ar H',An X pins Ar H' s'/\D.ct Ar H'
 | .ret u=>∃ v Ar H',An X pins Ar H' s'/\A3 v u/\D.rt v H'
def PE (X:Cx) (e:Expr) (t:TE):Prop:=
 ∀ ⦃pins:List (Addr × Obj)⦄ (s:Shared) (σ:St) (H:Hp) (Q:VK),An X pins σ H s->t σ H Q->wpAny (model X.prog X.w) X.A (eval e X.env) (EP X pins σ Q) X.xe s
def PT (X:Cx) (e:Expr) (t:TT):Prop:=
 ∀ ⦃pins:List (Addr × Obj)⦄ (s:Shared) (σ:St) (H:Hp) (Q:Bool->Hp->Prop),An X pins σ H s->t σ H Q->wpAny (model X.prog X.w) X.A (isTrue e X.env (eval e X.env)) (TP X pins σ Q) X.xe s
def PW (X:Cx) (e:Expr) (t:TT):Prop:=
 ∀ ⦃whole:Sem Value⦄ (pins:List (Addr × Obj)) (s:Shared) (σ:St) (H:Hp) (Q:Bool->Hp->Prop),An X pins σ H s->t σ H Q->wpAny (model X.prog X.w) X.A (isTrue e X.env whole) (TP X pins σ Q) X.xe s
theorem PW.pt {X:Cx} {e:Expr} {t:TT} (h:PW X e t):PT X e t:=@h _
def PA (X:Cx) (es:List Expr) (t:TA):Prop:=
 ∀ ⦃pos:Pos⦄ (pins:List (Addr × Obj)) (s:Shared) (σ:St) (H:Hp) (Q:List V->Hp->Prop),An X pins σ H s->t σ H Q->wpAny (model X.prog X.w) X.A (spliced (backTo pos (starEach es X.env))) (AP X pins σ Q) X.xe s
def PS (X:Cx) (st:Stmt) (t:TS):Prop:=
 ∀ ⦃pins:List (Addr × Obj)⦄ (s:Shared) (σ:St) (H:Hp) (D:El),An X pins σ H s->t D σ H->wpAny (model X.prog X.w) X.A (exec st X.env) (SP X pins D) X.xe s
def Kw (X:Cx) (st:List Stmt) (t:TS):Prop:=
 ∀ ⦃pins:List (Addr × Obj)⦄ (s:Shared) (σ:St) (H:Hp) (D:El),An X pins σ H s->t D σ H->wpAny (model X.prog X.w) X.A (execs st X.env) (SP X pins D) X.xe s
theorem Bx {α:Type} {t:Sem α} {Q Q':α->Shared->Prop} {M:Model} {A:Around} {E:Value->Shared->Prop} {s:Shared} (h:wpAny M A t Q E s) (hQ:∀ a s,Q a s->Q' a s):wpAny M A t Q' E s:=wpAny_mono h hQ fun _ _ x=>x
section
variable {X:Cx}
def QQ (i:Nat):TE:=fun σ H Q=>∃ v,σ[i]? = some (some v)/\Q v H
def tC (v:V):TE:=fun _ H Q=>Q v H
theorem SU {i:Nat} {x:Str} {pos:Pos} (hN:X.N[i]? = some x) (hv:Vis X.env.scope x) (hd:(x == ("__debug__":Str))=false:=by decide) (hcd:(x == ("__classdict__":Str))=false:=by decide):PE X (.Name x pos) (QQ i):=by
 intro pins s σ H Q I h;obtain ⟨v,e,h⟩:=h;obtain ⟨m,hn,hl⟩:=I.loc;obtain ⟨u,r,l⟩:=hl i x v hN e hv;have fin:EP X pins σ Q u s:=⟨v,H,I,r,h⟩
 rcases l with ⟨hk,hm⟩ | ⟨hk,c,hc,hcell⟩
 ·exact wpAny_Name (wpAny_loadName_local I.ok.kind hk hn hm fin) hd
 ·rcases hk with hk | hk
  ·exact wpAny_Name (wpAny_loadName_cell I.ok.kind hk hc hcell fin) hd
  ·exact wpAny_Name (wpAny_loadName_free I.ok.kind hk hc hcell fin hcd) hd
theorem Ag {i j pos}:PE X (.Constant (.int i) j pos) (tC (.int i)):=fun _ _ _ H _ I h=>wpAny_Constant_int ⟨.int i,H,I.tok _,⟨_,rfl⟩,h⟩
theorem Dv {b j pos}:PE X (.Constant (.bool b) j pos) (tC (.bl b)):=fun _ _ _ H _ I h=>Constant_bool ⟨.bl b,H,I,rfl,h⟩
theorem HJ {j pos}:PE X (.Constant .none j pos) (tC .non):=fun _ _ _ H _ I h=>Constant_none ⟨.non,H,I,rfl,h⟩
theorem CK {x j pos}:PE X (.Constant (.str x) j pos) (tC (.str x)):=fun _ _ _ H _ I h=>Calls.Constant_str ⟨.str x,H,I.tok _,⟨_,rfl⟩,h⟩
def Gl (X:Cx) (x:Str):Prop:=X.env.kindOf x=some .globalImplicit
theorem MK {E:Value->Shared->Prop} {pins:List (Addr × Obj)} {s:Shared} {σ:St} {H:Hp} {x:Str} {u:Value} {pos:Pos} {Q:Value->Shared->Prop} (I:An X pins σ H s) (hg:Gl X x) (hm:X.mg x=some u) (h:Q u s)
  (hd:(x == ("__debug__":Str))=false:=by decide):wpAny (model X.prog X.w) X.A (eval (.Name x pos) X.env) Q E s:=
 Calls.Name_function_global I.ok.kind hg (Calls.loadGlobal_global (by rw [I.ok.glob]; exact I.mod.glob.keeps I.bk) hm h) hd
theorem HY {E:Value->Shared->Prop} {pins:List (Addr × Obj)} {s:Shared} {σ:St} {H:Hp} {x:Str} {u:Value} {pos:Pos} {Q:Value->Shared->Prop} (I:An X pins σ H s) (hg:Gl X x) (hm:X.mg x=none) (hv:bootBuiltins x=some u) (h:Q u s)
  (hn:x ≠ "__name__":=by decide) (hd:(x == ("__debug__":Str))=false:=by decide):wpAny (model X.prog X.w) X.A (eval (.Name x pos) X.env) Q E s:=by
 obtain ⟨mb,h1,h2⟩:=I.mod.blt;exact Calls.Name_function_global I.ok.kind hg (Calls.loadGlobal_builtin (by rw [I.ok.glob]; exact I.mod.glob.keeps I.bk) hm (by rw [I.ok.blt]; exact h1.keeps I.bk) ((h2 x hn).trans hv) h) hd
theorem Rh {x:Str} {v:V} {u:Value} {pos:Pos} (hg:Gl X x) (hm:X.mg x=some u) (r:A3 v u) (hd:(x == ("__debug__":Str))=false:=by decide):PE X (.Name x pos) (tC v):=
 fun _ _ _ H _ I h=>MK I hg hm ⟨v,H,I,r,h⟩ hd
theorem FJ {x:Str} {v:V} {u:Value} {pos:Pos} (hg:Gl X x) (hm:X.mg x=none) (hv:bootBuiltins x=some u) (r:A3 v u) (hn:x ≠ "__name__":=by decide) (hd:(x == ("__debug__":Str))=false:=by decide):PE X (.Name x pos) (tC v):=
 fun _ _ _ H _ I h=>HY I hg hm hv ⟨v,H,I,r,h⟩ hn hd
variable {a b:Expr} {ta tb:TE} {pos:Pos}
def PC (X:Cx) (op:CmpOp) (a b:Expr) (t:TE):Prop:=
 ∀ ⦃pins:List (Addr × Obj)⦄ (s:Shared) (σ:St) (H:Hp) (Q:VK),An X pins σ H s->t σ H Q ->
  wpAny (model X.prog X.w) X.A (eval a X.env) (fun v A7=>wpAny (model X.prog X.w) X.A (eval b X.env) (fun u Cr=>wpAny (model X.prog X.w) X.A (compareOp op v u) (EP X pins σ Q) X.xe Cr) X.xe A7) X.xe s
theorem KQ (b:Expr) {op:CmpOp} (h:op ≠ .In) (h2:op ≠ .NotIn):behindInMarks op b=false:=by
 have e1:(op == CmpOp.In)=false:=by cases op <;> first | rfl | exact absurd rfl h
 have e2:(op == CmpOp.NotIn)=false:=by cases op <;> first | rfl | exact absurd rfl h2
 cases b <;> simp [behindInMarks,e1,e2]
def tIsN (ta:TE):TE:=fun σ H Q=>ta σ H fun x H1=>Q (.bl (decide (x=.non))) H1
def tNotN (ta:TE):TE:=fun σ H Q=>ta σ H fun x H1=>Q (.bl (!decide (x=.non))) H1
theorem A3.none_iff {x:V} {v:Value} (r:A3 x v):(v == Value.none)=decide (x=.non):=by
 cases x with
 | non=>cases r; rfl
 | bl _=>cases r; rfl
 | int _=>obtain ⟨t,rfl⟩:=r; rfl
 | str _=>obtain ⟨t,rfl⟩:=r; rfl
 | byt _=>obtain ⟨t,rfl⟩:=r; rfl
 | flt _=>obtain ⟨t,rfl⟩:=r; rfl
 | ref _=>cases r; rfl
 | ty _=>cases r; rfl
theorem SX {j pos'} (ha:PE X a ta):PC X .Is a (.Constant .none j pos') (tIsN ta):=by
 intro pins s σ H Q I h;refine Bx (ha (pins:=pins) s σ H _ I h) fun v s1 ⟨x,H1,I1,r1,q1⟩=>?_
 exact Constant_none (is_none_gen ⟨.bl _,H1,I1,by rw [r1.none_iff]; rfl,q1⟩)
theorem M7 {j pos'} (ha:PE X a ta):PC X .IsNot a (.Constant .none j pos') (tNotN ta):=by
 intro pins s σ H Q I h;refine Bx (ha (pins:=pins) s σ H _ I h) fun v s1 ⟨x,H1,I1,r1,q1⟩=>?_
 exact Constant_none (isnot_none_gen ⟨.bl _,H1,I1,by rw [r1.none_iff]; rfl,q1⟩)
def tB (t:TE):TT:=fun σ H Q=>t σ H fun x H1=>∃ c,x=.bl c/\Q c H1
theorem SV {op:CmpOp} {t:TE} (h:PC X op a b t) (h1:behindInMarks op b=false:=by first | exact KQ _ (by decide) (by decide) | rfl):PE X (.Compare a [op] [b] pos) t:=fun pins s σ H Q I hw=>wpAny_Compare1 (h (pins:=pins) s σ H Q I hw) h1
theorem HG {op:CmpOp} {t:TE} (h:PC X op a b t) (h1:behindInMarks op b=false:=by first | exact KQ _ (by decide) (by decide) | rfl):PT X (.Compare a [op] [b] pos) (tB t):=by
 intro pins s σ H Q I hw;refine wpAny_isTrue_Compare1 (Bx (h (pins:=pins) s σ H _ I hw) fun v s1 h1=>Bx h1 fun u s2 h2=>Bx h2 fun c s3 ⟨x,H1,I1,r1,q1⟩=>?_) h1;obtain ⟨d,rfl,q⟩:=q1;cases r1
 exact wpAny_truthy_bool ⟨H1,I1,q⟩
theorem Es {e:Expr} {t:TE} (h:PE X e t) (he:∀ whole,isTrue e X.env whole=(do let v <- whole; standAt e.pos; holding [v] (truthy v)):=by intro _; rfl):PT X e (tB t):=by
 intro pins s σ H Q I hw;refine isTrue_plain (Bx (h (pins:=pins) s σ H _ I hw) fun v s1 ⟨x,H1,I1,r1,q1⟩=>?_) (he _);obtain ⟨d,rfl,q⟩:=q1;cases r1
 exact wpAny_truthy_bool ⟨H1,I1,q⟩
variable {tA VE:TT} {rest:List Expr}
def tAnd (t u:TT):TT:=fun σ H Q=>t σ H fun c H1=>if c=true then u σ H1 Q else Q false H1
def tOr (t u:TT):TT:=fun σ H Q=>t σ H fun c H1=>if c=true then Q true H1 else u σ H1 Q
def tNot (t:TT):TT:=fun σ H Q=>t σ H fun c H1=>Q (!c) H1
theorem My (ha:PT X a tA):PW X (.BoolOp .And [a] pos) tA:=by
 intro wh pins s σ H Q I h;refine isTrue_and (Bx (ha (pins:=pins) s σ H Q I h) fun c s1 e=>?_);cases c with
 | true=>exact isTrue_and_nil e
 | false=>exact e
theorem Gh (ha:PT X a tA):PW X (.BoolOp .Or [a] pos) tA:=by
 intro wh pins s σ H Q I h;refine isTrue_or (Bx (ha (pins:=pins) s σ H Q I h) fun c s1 e=>?_);cases c with
 | false=>exact isTrue_or_nil e
 | true=>exact e
theorem LF (ha:PT X a tA) (hb:PW X (.BoolOp .And (b :: rest) pos) VE):PW X (.BoolOp .And (a :: b :: rest) pos) (tAnd tA VE):=by
 intro wh pins s σ H Q I h;refine isTrue_and (Bx (ha (pins:=pins) s σ H _ I h) fun c s1 ⟨H1,I1,q1⟩=>?_);cases c with
 | true=>exact hb (whole:=wh) (pins:=pins) s1 σ H1 Q I1 q1
 | false=>exact ⟨H1,I1,q1⟩
theorem HF (ha:PT X a tA) (hb:PW X (.BoolOp .Or (b :: rest) pos) VE):PW X (.BoolOp .Or (a :: b :: rest) pos) (tOr tA VE):=by
 intro wh pins s σ H Q I h;refine isTrue_or (Bx (ha (pins:=pins) s σ H _ I h) fun c s1 ⟨H1,I1,q1⟩=>?_);cases c with
 | true=>exact ⟨H1,I1,q1⟩
 | false=>exact hb (whole:=wh) (pins:=pins) s1 σ H1 Q I1 q1
theorem Et (ha:PT X a tA):PT X (.UnaryOp .Not a pos) (tNot tA):=by
 intro pins s σ H Q I h;exact isTrue_not (ha (pins:=pins) s σ H (fun c H1=>Q (!c) H1) I h)
def tAndV (ta tb:TE):TE:=fun σ H Q=>ta σ H fun x H1=>∃ c,x=.bl c/\if c=true then tb σ H1 Q else Q (.bl false) H1
theorem Px {op} {t:TE} (h:PE X a t):PE X (.BoolOp op [a] pos) t:=fun pins s σ H Q I hw=>BoolOp_one (h (pins:=pins) s σ H Q I hw)
theorem PF (ha:PE X a ta) (hb:PE X (.BoolOp .And (b :: rest) pos) tb):PE X (.BoolOp .And (a :: b :: rest) pos) (tAndV ta tb):=by
 intro pins s σ H Q I h;refine BoolOp_and (Bx (ha (pins:=pins) s σ H _ I h) fun v s1 ⟨x,H1,I1,r1,q1⟩=>?_);obtain ⟨c,rfl,q1⟩:=q1;cases r1
 refine wpAny_truthy_bool ?_;cases c with
 | true=>exact hb (pins:=pins) s1 σ H1 Q I1 q1
 | false=>exact ⟨.bl false,H1,I1,rfl,q1⟩
end
def AA (K:XB) (H:Hp) (a:Addr) (xs:List V):Prop:=
 Rd H a (.lst xs) \/
  ∃ (o:Obj) (Ao:Array Value) (n:Nat),K.lookup a=some o/\o.cls=.type "list"/\o.dict=none/\o.data=.seq Ao n/\Ao.size<=sizeLine/\Ax xs Ao.toList
def AM (K:XB) (H:Hp) (a:Addr) (xs:List V):Prop:=
 Rd H a (.tup xs) \/
  ∃ (o:Obj) (Ao:Array Value) (n:Nat),K.lookup a=some o/\o.cls=.type "tuple"/\o.data=.seq Ao n/\Ao.size<=sizeLine/\Ax xs Ao.toList
def absV:Value->Option V
 | .none=>some .non
 | .bool b=>some (.bl b)
 | .int i _=>some (.int i)
 | .str x _=>some (.str x)
 | .bytes b _=>some (.byt b)
 | .float b _=>some (.flt b)
 | .ref a=>some (.ref a)
 | .type n=>some (.ty n)
 | _=>none
theorem A3.abs {x:V} {u:Value} (r:A3 x u):absV u=some x:=by
 cases x with
 | non=>cases r; rfl
 | bl _=>cases r; rfl
 | int _=>obtain ⟨t,rfl⟩:=r; rfl
 | str _=>obtain ⟨t,rfl⟩:=r; rfl
 | byt _=>obtain ⟨t,rfl⟩:=r; rfl
 | flt _=>obtain ⟨t,rfl⟩:=r; rfl
 | ref _=>cases r; rfl
 | ty _=>cases r; rfl
theorem A3.inj {x y:V} {u:Value} (r:A3 x u) (q:A3 y u):x=y:=Yi.inj (r.abs.symm.trans q.abs)
theorem Ax.inj:∀ {xs ys:List V} {us:List Value},Ax xs us->Ax ys us->xs=ys
 | _,_,_,.nil,.nil=>rfl
 | _,_,_,.cons r t,.cons r' t'=>by rw [r.inj r',Ax.inj t t']
section
variable {X:Cx} {pins:List (Addr × Obj)} {σ:St} {H:Hp} {s:Shared} {a:Addr} {xs ys:List V}
theorem AA.of {K:XB} (h:H a=some (.lst xs)):AA K H a xs:=.inl (.inl h)
theorem AM.of {K:XB} (h:H a=some (.tup xs)):AM K H a xs:=.inl (.inl h)
theorem An.list (I:An X pins σ H s) (h:AA X.K H a xs):∃ Ao:List Value,Ax xs Ao/\PlainL s.heap a Ao.toArray/\xs.length<=sizeLine:=by
 rcases h with h | ⟨o,Ao,n,hk,hc,hd,hs,hz,r⟩
 ·obtain ⟨z,Ao,n,r,e⟩:=h.ok I.hok;exact ⟨Ao,r,⟨_,n,e,rfl,rfl,rfl⟩,z⟩
 ·refine ⟨Ao.toList,r,⟨o,n,I.kIn a o hk,hc,hd,by simpa using hs⟩,?_⟩;have e:=r.length;simp only [Yp] at e;lia
theorem An.tuple (I:An X pins σ H s) (h:AM X.K H a xs):∃ Ao:List Value,Ax xs Ao/\IsTup s.heap a Ao.toArray/\xs.length<=sizeLine:=by
 rcases h with h | ⟨o,Ao,n,hk,hc,hs,hz,r⟩
 ·obtain ⟨z,Ao,r,p,_⟩:=h.ok I.hok;exact ⟨Ao,r,p,z⟩
 ·refine ⟨Ao.toList,r,⟨o,I.kIn a o hk,hc,n,by simpa using hs⟩,?_⟩;have e:=r.length;simp only [Yp] at e;lia
theorem An.list_inj (I:An X pins σ H s) (h:AA X.K H a xs) (h':AA X.K H a ys):xs=ys:=by
 obtain ⟨Ao,r,⟨o,n,e,_,_,d⟩,_⟩:=I.list h;obtain ⟨its',r',⟨o',n',e',_,_,d'⟩,_⟩:=I.list h';rw [e] at e'; cases e';rw [d] at d';injection d' with d1 _;have:Ao=its':=by simpa using congrArg Z9 d1
 subst this;exact r.inj r'
theorem An.tuple_inj (I:An X pins σ H s) (h:AM X.K H a xs) (h':AM X.K H a ys):xs=ys:=by
 obtain ⟨Ao,r,⟨o,e,_,n,d⟩,_⟩:=I.tuple h;obtain ⟨its',r',⟨o',e',_,n',d'⟩,_⟩:=I.tuple h';rw [e] at e'; cases e';rw [d] at d';injection d' with d1 _;have:Ao=its':=by simpa using congrArg Z9 d1
 subst this;exact r.inj r'
end
abbrev Cx.wish (X:Cx) (E:Value->Shared->Prop):Cx:={ X with xe:=E }
abbrev Cx.nox (X:Cx):Cx:=X.wish fun _ _=>False
theorem Cx.Ok.wish {X:Cx} (ok:X.Ok) (E:Value->Shared->Prop):(X.wish E).Ok:=
 ⟨ok.mod,ok.kind,ok.glob,ok.blt,ok.above,ok.inj,ok.has,ok.cab,ok.hd,ok.frames,ok.stk,ok.exf,ok.bs,ok.bsz,ok.noex,ok.exfs,ok.funs,ok.frf⟩
theorem Cx.Ok.unwish {X:Cx} {E:Value->Shared->Prop} (ok:(X.wish E).Ok):X.Ok:=
 ⟨ok.mod,ok.kind,ok.glob,ok.blt,ok.above,ok.inj,ok.has,ok.cab,ok.hd,ok.frames,ok.stk,ok.exf,ok.bs,ok.bsz,ok.noex,ok.exfs,ok.funs,ok.frf⟩
section
variable {X:Cx} {pins:List (Addr × Obj)} {σ:St} {H:Hp} {s:Shared} {E:Value->Shared->Prop}
theorem An.wish (I:An X pins σ H s) (E:Value->Shared->Prop):An (X.wish E) pins σ H s:=⟨I.ok.wish E,I.os,I.bare,I.base,I.loc,I.cell,I.free,I.freeC,I.pin,I.hok,I.len⟩
theorem An.unwish (I:An (X.wish E) pins σ H s):An X pins σ H s:=⟨I.ok.unwish,I.os,I.bare,I.base,I.loc,I.cell,I.free,I.freeC,I.pin,I.hok,I.len⟩
theorem SP.unwish {D:El} {f:Flow} {s':Shared} (h:SP (X.wish E) pins D f s'):SP X pins D f s':=by
 cases f with
 | next=>obtain ⟨Ar,H',I,q⟩:=h; exact ⟨Ar,H',I.unwish,q⟩
 | brk=>obtain ⟨Ar,H',I,q⟩:=h; exact ⟨Ar,H',I.unwish,q⟩
 | cont=>obtain ⟨Ar,H',I,q⟩:=h; exact ⟨Ar,H',I.unwish,q⟩
 | ret u=>obtain ⟨v,Ar,H',I,r,q⟩:=h; exact ⟨v,Ar,H',I.unwish,r,q⟩
theorem Kw.nox {st:List Stmt} {t:TS} (h:Kw X.nox st t):Kw X st t:=fun pins s σ H D I hw=>
 wpAny_mono (h (pins:=pins) s σ H D (I.wish _) hw) (fun _ _ q=>q.unwish) fun _ _ z=>False.elim z
end
section
variable {X:Cx} {st:Stmt} {rest:List Stmt} {t u:TS} {e:Expr} {te:TE} {pos:Pos}
def tNext:TS:=fun D σ H=>D.nx σ H
def tSeq (t u:TS):TS:=fun D σ H=>t { D with nx:=u D } σ H
theorem B6:Kw X [] tNext:=fun _ _ σ H _ I h=>wpAny_execs_nil ⟨σ,H,I,h⟩
theorem Ae (h1:PS X st t) (h2:Kw X rest u):Kw X (st :: rest) (tSeq t u):=by
 intro pins s σ H D I h;refine wpAny_execs_cons (Bx (h1 (pins:=pins) s σ H { D with nx:=u D } I h) fun f s1 q=>?_);cases f with
 | next=>
  obtain ⟨Ar,H',I',q⟩:=q;exact h2 (pins:=pins) s1 Ar H' D I' q
 | ret v=>exact q
 | brk=>exact q
 | cont=>exact q
theorem Ak (h1:PS X st t):Kw X [st] t:=by
 intro pins s σ H D I h;refine wpAny_execs_cons (Bx (h1 (pins:=pins) s σ H D I h) fun f s1 q=>?_);cases f with
 | next=>exact wpAny_execs_nil q
 | ret v=>exact q
 | brk=>exact q
 | cont=>exact q
theorem An.quiet {pins:List (Addr × Obj)} {σ:St} {H:Hp} {s:Shared} (I:An X pins σ H s):interactive X.env=false:=by simp [interactive,I.ok.kind]
def tDrop (te:TE):TS:=fun D σ H=>te σ H fun _ H1=>D.nx σ H1
theorem FG (he:PE X e te) (hs:swapsWith e none pos.line X.env=pure false:=by rfl):PS X (.Expr e pos) (tDrop te):=by
 intro pins s σ H D I h;exact wpAny_Expr_any (Bx (he (pins:=pins) s σ H _ I h) fun v s1 ⟨x,H1,I1,r1,q1⟩=>⟨σ,H1,I1,q1⟩) I.quiet hs
def tRet (te:TE):TS:=fun D σ H=>te σ H D.rt
theorem AH (he:PE X e te):PS X (.Return (some e) pos) (tRet te):=by
 intro pins s σ H D I h;exact wpAny_Return_some (Bx (he (pins:=pins) s σ H _ I h) fun v s1 ⟨x,H1,I1,r1,q1⟩=>⟨x,σ,H1,I1,r1,q1⟩)
def tIfS (c:TT) (t u:TS):TS:=fun D σ H=>c σ H fun b H1=>if b=true then t D σ H1 else u D σ H1
theorem CN {c:Expr} {a b:List Stmt} {tc:TT} (hc:PT X c tc) (ha:Kw X a t) (hb:Kw X b u):PS X (.If c a b pos) (tIfS tc t u):=by
 intro pins s σ H D I h;refine wpAny_If (Bx (hc (pins:=pins) s σ H _ I h) fun d s1 ⟨H1,I1,q1⟩=>?_);cases d with
 | true=>exact ha (pins:=pins) s1 σ H1 D I1 q1
 | false=>exact hb (pins:=pins) s1 σ H1 D I1 q1
end
abbrev TG:=V->St->Hp->(St->Hp->Prop)->Prop
abbrev Sl:=List V->St->Hp->(St->Hp->Prop)->Prop
def PG (X:Cx) (target:Expr) (t:TG):Prop:=
 ∀ ⦃pins:List (Addr × Obj)⦄ (s:Shared) (σ:St) (H:Hp) (v:V) (u:Value) (Q:St->Hp->Prop),An X pins σ H s->A3 v u->t v σ H Q ->
  wpAny (model X.prog X.w) X.A (assign target X.env u) (fun _ s'=>∃ Ar H',An X pins Ar H' s'/\Q Ar H') X.xe s
def PGs (X:Cx) (ts:List Expr) (t:Sl):Prop:=
 ∀ ⦃pins:List (Addr × Obj)⦄ (s:Shared) (σ:St) (H:Hp) (vs:List V) (us:List Value) (Q:St->Hp->Prop),An X pins σ H s->Ax vs us->t vs σ H Q ->
  wpAny (model X.prog X.w) X.A (assignInOrder ((assignEach ts X.env).map (·.2)) us) (fun _ s'=>∃ Ar H',An X pins Ar H' s'/\Q Ar H') X.xe s
abbrev TX:=V->V->V->Hp->(Hp->Prop)->Prop
def PSet (X:Cx) (t:TX):Prop:=
 ∀ ⦃pins:List (Addr × Obj)⦄ (s:Shared) (σ:St) (H:Hp) (o i v:V) (ov iv u:Value) (Q:Hp->Prop),An X pins σ H s->A3 o ov->A3 i iv->A3 v u->t o i v H Q ->
  wpAny (model X.prog X.w) X.A (setItem ov iv u) (fun _ s'=>∃ H',An X pins σ H' s'/\Q H') X.xe s
section
variable {X:Cx} {pos:Pos}
def Ij (i:Nat):TG:=fun v σ H Q=>Q (σ.set i (some v)) H
theorem Al {i:Nat} {x:Str} (hN:X.N.Nodup) (hi:X.N[i]? = some x) (hx:Ua X.env.scope x) (hf:X.fn x=true\/X.env.scope.names.lookup x=some .local:=by first | exact .inl rfl | exact .inr rfl | assumption):PG X (.Name x pos) (Ij i):=by
 intro pins s σ H v u Q I r h;exact wpAny_assign_Name (K7 I hN hi hx r (fun s' I'=>⟨_,H,I',h⟩) hf)
def gNil:Sl:=fun vs σ H Q=>vs=[]/\Q σ H
def gCons (t:TG) (u:Sl):Sl:=fun vs σ H Q=>∃ v r,vs=v :: r/\t v σ H fun Ar H'=>u r Ar H' Q
theorem BO:PGs X [] gNil:=by
 intro pins s σ H vs us Q I r h;obtain ⟨e,h⟩:=h;subst e;cases r
 exact assignInOrder_nil ⟨σ,H,I,h⟩
theorem Az {e:Expr} {es:List Expr} {t:TG} {u:Sl} (h1:PG X e t) (h2:PGs X es u)
  (hs:(assignEach (e :: es) X.env).map (·.2)=assign e X.env :: (assignEach es X.env).map (·.2):=by rfl):PGs X (e :: es) (gCons t u):=by
 intro pins s σ H vs us Q I r h;obtain ⟨v,vr,e1,h⟩:=h;subst e1;cases r with
 | cons r rr=>
  rw [hs];refine assignInOrder_cons (Bx (h1 (pins:=pins) s σ H _ _ _ I r h) fun _ s1 ⟨Ui,H1,I1,q1⟩=>?_);exact h2 (pins:=pins) s1 Ui H1 _ _ Q I1 rr q1
def gTup (K:XB) (n:Nat) (t:Sl):TG:=fun v σ H Q=>∃ a xs,v=.ref a/\AM K H a xs/\xs.length=n/\t xs σ H Q
theorem SS {es:List Expr} {k:Nat} {t:Sl} {n:Nat} (hc:X.calm=true) (h:PGs X es t)
  (hn:(assignEach es X.env).length=n:=by rfl) (hst:(assignEach es X.env).findIdx? (·.1)=none:=by rfl):PG X (.Tuple es k pos) (gTup X.K n t):=by
 intro pins s σ H v u Q I r hw;obtain ⟨a,xs,e1,hq,hl,hw⟩:=hw;subst e1;cases r
 obtain ⟨Ao,rv,ht,hz⟩:=I.tuple hq;refine assign_Tuple_tuple (I.ok.hd hc) ht (by simp [hn,<-hl,rv.length]) hst fun h' hx=>?_
 have I1:An X pins σ H { s with heap:=h' }:=I.kept (t':=s.toks) fun b o e=>hx b o (XQ (XE e)) e
 exact h (pins:=pins) _ σ H xs _ Q I1 (by simpa using rv) hw
def gSub (to ti:TE) (t:TX):TG:=fun v σ H Q=>to σ H fun o H1=>ti σ H1 fun i H2=>t o i v H2 fun H3=>Q σ H3
theorem LG {o i:Expr} {to ti:TE} {t:TX} (ho:PE X o to) (hi:PE X i ti) (hs:PSet X t)
  (ha:∀ v,assign (.Subscript o i pos) X.env v=(do
   let ov <- holding [v] (eval o X.env)
   let iv <- holding [v,ov] (eval i X.env)
   standAt pos
   holding [v,ov,iv] (setItem ov iv v)
   release [v,ov,iv] []):=by intro _; rfl):PG X (.Subscript o i pos) (gSub to ti t):=by
 intro pins s σ H v u Q I r h;rw [ha];refine wpAny_bind (wpAny_holding (Bx (ho (pins:=pins) s σ H _ I h) fun ov s1 ⟨x,H1,I1,r1,q1⟩=>?_));refine wpAny_bind (wpAny_holding (Bx (hi (pins:=pins) s1 σ H1 _ I1 q1) fun iv s2 ⟨y,H2,I2,r2,q2⟩=>?_));refine wpAny_bind (wpAny_standAt (wpAny_bind (wpAny_holding (Bx (hs (pins:=pins) s2 σ H2 x y v ov iv u _ I2 r1 r2 r q2) fun _ s3 ⟨H3,I3,q3⟩=>?_))));exact wpAny_release ⟨σ,H3,I3,q3⟩
def OO (te:TE) (g:TG):TS:=fun D σ H=>te σ H fun x H1=>g x σ H1 D.nx
theorem HI {tg e:Expr} {te:TE} {g:TG} (he:PE X e te) (hg:PG X tg g) (hs:swapsWithSole [tg] e pos.line X.env=pure false:=by rfl) (hw:swappedStores [tg] e X.env=pure none:=by rfl)
  (h1:(assignEach [tg] X.env).map (·.2)=[assign tg X.env]:=by rfl):PS X (.Assign [tg] e pos) (OO te g):=by
 intro pins s σ H D I h;refine wpAny_Assign_stores (Bx (he (pins:=pins) s σ H _ I h) fun v s1 ⟨x,H1,I1,r1,q1⟩=>?_) hs hw;rw [h1];exact Bx (hg (pins:=pins) s1 σ H1 x v _ I1 r1 q1) fun _ s2 q=>q
theorem Aq {i:Nat} {x:Str} {e:Expr} {te:TE} {pos':Pos} (hN:X.N.Nodup) (hi:X.N[i]? = some x) (hx:Ua X.env.scope x) (he:PE X e te) (hs:swapsWith e (some (.Name x pos')) pos.line X.env=pure false:=by rfl) (hf:X.fn x=true\/X.env.scope.names.lookup x=some .local:=by first | exact .inl rfl | exact .inr rfl | assumption) :
  PS X (.Assign [.Name x pos'] e pos) (OO te (Ij i)):=by
 intro pins s σ H D I h;refine wpAny_Assign_Name (Bx (he (pins:=pins) s σ H _ I h) fun v s1 ⟨y,H1,I1,r1,q1⟩=>?_) hs;exact K7 I1 hN hi hx r1 (fun s2 I2=>⟨_,H1,I2,q1⟩) hf
end
section
variable {X:Cx} {pos:Pos}
def S5 (c:TT) (tb:TS):TS:=fun D σ H=>∃ W:Nat->St->Hp->Prop,(∃ m,W m σ H)/\∀ m σ H,W m σ H ->
 c σ H fun b H1=>if b=true then ∃ N:St->Hp->Prop,(∀ Ar H',N Ar H'->∃ m',m' < m/\W m' Ar H')/\tb { D with nx:=N,ct:=N,bk:=D.nx } σ H1 else D.nx σ H1
theorem Pr {c:Expr} {body:List Stmt} {tc:TT} {tb:TS} (hp:PassesOwn (model X.prog X.w) X.A X.env X.xe) (hc:PT X c tc) (hb:Kw X body tb):PS X (.While c body [] pos) (S5 tc tb):=by
 intro pins s σ H D I h;obtain ⟨W,⟨m0,w0⟩,turn⟩:=h;refine wpAny_While (codeAny_whileLoop (fun n s'=>∃ Ar H',An X pins Ar H' s'/\W n Ar H') ?_ m0 ⟨σ,H,I,w0⟩);rintro n s1 ⟨Ui,H1,I1,w1⟩;refine wpAny_passesOwn hp (Bx (hc (pins:=pins) s1 Ui H1 _ I1 (turn n Ui H1 w1)) fun b s2 ⟨H2,I2,q2⟩=>?_);cases b with
 | true=>
  obtain ⟨N,hN,q2⟩:=q2;rw [if_pos rfl];refine wpAny_passesOwn hp (Bx (hb (pins:=pins) s2 Ui H2 _ I2 q2) fun f s3 q3=>?_);cases f with
  | next=>
   obtain ⟨K0,H3,I3,n3⟩:=q3;obtain ⟨m',hm,w3⟩:=hN K0 H3 n3;exact ⟨m',hm,K0,H3,I3,w3⟩
  | cont=>
   obtain ⟨K0,H3,I3,n3⟩:=q3;obtain ⟨m',hm,w3⟩:=hN K0 H3 n3;exact ⟨m',hm,K0,H3,I3,w3⟩
  | brk=>exact q3
  | ret v=>exact q3
 | false=>
  rw [if_neg Yc];exact wpAny_execs_nil ⟨Ui,H2,I2,q2⟩
end
structure It where
 go:Nat->Hp->Prop
 yld:Nat->Hp->V->Hp->Prop
 stop:Nat->Hp->Prop
def Dl (X:Cx) (pins:List (Addr × Obj)) (H:Hp) (b:Addr):Prop:=
 H b=none/\b ≠ X.env.locals/\b ∉ X.fs/\(b ∈ X.ex\/X.s₀.heap.objs.size<=b)/\(∀ x c,X.env.cells.lookup x=some c->c ≠ b)/\∀ p ∈ X.pn ++ pins,p.1 ≠ b
theorem An.fpOk {X:Cx} {pins:List (Addr × Obj)} {σ:St} {H H':Hp} {s:Shared} {b:Addr} (I:An X pins σ H s) (hb:s.heap.objs.size<=b) (hn:H' b=none):Dl X pins H' b:=by
 refine ⟨hn,Yy (XH I.lt hb),I.nofs hb,.inr (Yo I.sz hb),fun x c e z=>?_,fun p hp z=>?_⟩
 ·obtain ⟨v,q⟩:=I.cell x c e;exact absurd (XH q.lt (by rw [z]; exact hb)) (Yx _)
 ·exact absurd (XH (XE (I.pin p hp).1) (by rw [z]; exact hb)) (Yx _)
structure Md (P:Program) (w:World) (K:XB) (tg:Expr) (J:It) (fp:List Addr) (it:Addr) (tn:Nat->Heap->Prop):Prop where
 mem:it ∈ fp
 obj:∀ i h,tn i h->∀ b ∈ fp,∃ o,h.get? b=some o/\∀ v,o.data ≠ .cell v
 keep:∀ i h h',tn i h->(∀ b ∈ fp,∀ o,h.get? b=some o->h'.get? b=some o)->tn i h'
 item:∀ (X:Cx),X.prog=P->X.w=w->X.K=K->X.calm=true->∀ (i:Nat) (pins:List (Addr × Obj)) (s:Shared) (σ:St) (H:Hp) (E:Value->Shared->Prop),An X pins σ H s->(∀ b ∈ fp,Dl X pins H b)->tn i s.heap->J.go i H ->
  wpAny (model P w) X.A (pyNext (.ref it)) (fun r s1=>∃ u,r=some u /\
   wpAny (model P w) X.A (letOwnedTupleGo tg (.ref it) u) (fun _ s2=>∃ x H',An X pins σ H' s2/\A3 x u/\J.yld i H x H'/\tn (i + 1) s2.heap/\∀ b ∈ fp,H' b=none) E s1) E s
 done:∀ (X:Cx),X.prog=P->X.w=w->X.K=K->X.calm=true->∀ (i:Nat) (pins:List (Addr × Obj)) (s:Shared) (σ:St) (H:Hp) (E:Value->Shared->Prop),An X pins σ H s->(∀ b ∈ fp,Dl X pins H b)->tn i s.heap->J.stop i H ->
  wpAny (model P w) X.A (pyNext (.ref it)) (fun r s1=>r=none/\An X pins σ H s1) E s
 self:∀ (A:Around) (i:Nat) (s:Shared) (Q:Value->Shared->Prop) (E:Value->Shared->Prop),tn i s.heap->Q (.ref it) s->wpAny (model P w) A (pyIter (.ref it)) Q E s
abbrev TI:=St->Hp->(It->Hp->Prop)->Prop
def PIE (X:Cx) (pins:List (Addr × Obj)) (σ:St) (tg:Expr) (R:It->Hp->Prop) (itv:Value) (s2:Shared):Prop:=
 ∃ (it:Addr) (fp:List Addr) (tn:Nat->Heap->Prop) (J:It) (H':Hp),itv=.ref it/\An X pins σ H' s2/\Md X.prog X.w X.K tg J fp it tn/\tn 0 s2.heap/\(∀ b ∈ fp,Dl X pins H' b)/\R J H'
def PI (X:Cx) (tg iter:Expr) (wi:TI):Prop:=
 ∀ ⦃pins:List (Addr × Obj)⦄ (s:Shared) (σ:St) (H:Hp) (R:It->Hp->Prop),An X pins σ H s->wi σ H R ->
  wpAny (model X.prog X.w) X.A (eval iter X.env) (fun v s1=>wpAny (model X.prog X.w) X.A (pyIter v) (PIE X pins σ tg R) X.xe s1) X.xe s
theorem JF {M:Model} {A:Around} {E:Value->Shared->Prop} {s:Shared} {tg:Expr} {it:Addr} {u:Value} {o:Obj} {n:String} {vs:Array Value} {Q:Unit->Shared->Prop} (ho:s.heap.get? it=some o) (hc:o.cls=.type n) (hd:o.data=.fields vs)
  (hn:["enumerate","zip","dict_itemiterator","dict_reverseitemiterator","odict_iterator","itertools.zip_longest","itertools.pairwise"].contains n=false) (hQ:Q () s):wpAny M A (letOwnedTupleGo tg (.ref it) u) Q E s:=by
 unfold letOwnedTupleGo;cases tg <;> first
  | exact wpAny_pure hQ
  | (cases u <;> first
    | exact wpAny_pure hQ
    | (refine wpAny_bind (wpAny_load ho ?_)
       rw [hc,hd];show wpAny M A (if (["enumerate","zip","dict_itemiterator","dict_reverseitemiterator","odict_iterator","itertools.zip_longest","itertools.pairwise"].contains n && vs[0]? == some (rawInt _))=true then _ else _) Q E s
       rw [if_neg (by intro h; rw [hn,Z1] at h; cases h)];exact wpAny_pure hQ))
def Ub (K:XB) (a:Addr):It:=
 ⟨fun i H=>∃ xs x,AA K H a xs/\xs[i]? = some x,fun i H x H'=>H'=H/\∀ xs,AA K H a xs->xs[i]? = some x,fun i H=>∃ xs,AA K H a xs/\xs.length<=i⟩
def Oy (K:XB) (a:Addr):It:=
 ⟨fun i H=>∃ xs x,AM K H a xs/\xs[i]? = some x,fun i H x H'=>H'=H/\∀ xs,AM K H a xs->xs[i]? = some x,fun i H=>∃ xs,AM K H a xs/\xs.length<=i⟩
def QI (lo:Int) (n:Nat):It:=⟨fun i _=>i < n,fun i H x H'=>H'=H/\x=.int (lo + i),fun i _=>n<=i⟩
theorem Jm {P:Program} {w:World} {K:XB} {tg:Expr} (a it:Addr):Md P w K tg (Ub K a) [it] it (fun i h=>h.IsListIter it a i) where
 mem:=by simp
 obj:=fun i h st b hb=>by
  have e:b=it:=by simpa using hb
  subst e;obtain ⟨o,e,c,d⟩:=st;exact ⟨o,e,fun v z=>by rw [d] at z; cases z⟩
 keep:=fun i h h' st k=>st.at fun o e=>k it (by simp) o e
 item:=by
  intro X hP hw hK hc i pins s σ H E I hf st hg;subst hP hw hK;obtain ⟨xs,x,hq,hx⟩:=hg;obtain ⟨Ao,rv,p,hz⟩:=I.list hq;obtain ⟨u,hu,ru⟩:=rv.get hx;obtain ⟨f0,f1,f2,f3,f4,f5⟩:=hf it (by simp);refine wpAny_pyNext_list_item st p.isList (x:=u) (by simpa using hu) fun h' AV sb=>?_
  have I1:An X pins σ H { s with heap:=h' }:=I.turned (t':=s.toks) (fun b o hb e=>(sb.2 b hb).trans e) f0 f1 f3 f4 f5;obtain ⟨o,e,c,d⟩:=id AV;exact ⟨u,rfl,JF (s:={ s with heap:=h' }) e c d (by decide) ⟨x,H,I1,ru,⟨rfl,fun ys hy=>by rw [I.list_inj hy hq]; exact hx⟩,AV,fun b hb=>(hf b hb).1⟩⟩
 done:=by
  intro X hP hw hK hc i pins s σ H E I hf st hg;subst hP hw hK;obtain ⟨xs,hq,hx⟩:=hg;obtain ⟨Ao,rv,p,hz⟩:=I.list hq;obtain ⟨f0,f1,f2,f3,f4,f5⟩:=hf it (by simp);have hl:=rv.length;exact wpAny_pyNext_list_end (I.ok.hd hc) st p.isList (by simp; lia) fun h' eb=>⟨rfl,I.turned (t':=s.toks) (fun b o hb e=>eb b o hb e) f0 f1 f3 f4 f5⟩
 self:=fun _ _ _ _ _ st h=>wpAny_pyIter_listiter st h
theorem Hw {P:Program} {w:World} {K:XB} {tg:Expr} (a it:Addr):Md P w K tg (Oy K a) [it] it (fun i h=>h.IsTupleIter it a i) where
 mem:=by simp
 obj:=fun i h st b hb=>by
  have e:b=it:=by simpa using hb
  subst e;obtain ⟨o,e,c,d⟩:=st;exact ⟨o,e,fun v z=>by rw [d] at z; cases z⟩
 keep:=fun i h h' st k=>st.at fun o e=>k it (by simp) o e
 item:=by
  intro X hP hw hK hc i pins s σ H E I hf st hg;subst hP hw hK;obtain ⟨xs,x,hq,hx⟩:=hg;obtain ⟨Ao,rv,p,hz⟩:=I.tuple hq;obtain ⟨u,hu,ru⟩:=rv.get hx;obtain ⟨f0,f1,f2,f3,f4,f5⟩:=hf it (by simp);refine wpAny_pyNext_tuple_item st (show s.heap.IsTuple a Ao.toArray from p) (x:=u) (by simpa using hu) fun h' AV sb=>?_
  have I1:An X pins σ H { s with heap:=h' }:=I.turned (t':=s.toks) (fun b o hb e=>(sb.2 b hb).trans e) f0 f1 f3 f4 f5;obtain ⟨o,e,c,d⟩:=id AV;exact ⟨u,rfl,JF (s:={ s with heap:=h' }) e c d (by decide) ⟨x,H,I1,ru,⟨rfl,fun ys hy=>by rw [I.tuple_inj hy hq]; exact hx⟩,AV,fun b hb=>(hf b hb).1⟩⟩
 done:=by
  intro X hP hw hK hc i pins s σ H E I hf st hg;subst hP hw hK;obtain ⟨xs,hq,hx⟩:=hg;obtain ⟨Ao,rv,p,hz⟩:=I.tuple hq;obtain ⟨f0,f1,f2,f3,f4,f5⟩:=hf it (by simp);have hl:=rv.length;exact wpAny_pyNext_tuple_end (I.ok.hd hc) st (show s.heap.IsTuple a Ao.toArray from p) (by simp; lia) fun h' eb=>⟨rfl,I.turned (t':=s.toks) (fun b o hb e=>eb b o hb e) f0 f1 f3 f4 f5⟩
 self:=fun _ _ _ _ _ st h=>wpAny_pyIter_tupleiter st h
theorem L4 {P:Program} {w:World} {K:XB} {tg:Expr} (it:Addr) (lo:Int) (n:Nat):Md P w K tg (QI lo n) [it] it (fun i h=>IsRangeIter h it (lo + (i:Nat) * 1) ((n:Int) - (i:Nat)) 1) where
 mem:=by simp
 obj:=fun i h st b hb=>by
  have e:b=it:=by simpa using hb
  subst e;exact ⟨_,st,fun v z=>by
   have z':Data.fields _=Data.cell v:=z;cases z'⟩
 keep:=fun i h h' st k=>k it (by simp) _ st
 item:=by
  intro X hP hw hK hc i pins s σ H E I hf st hg;subst hP hw hK;obtain ⟨f0,f1,f2,f3,f4,f5⟩:=hf it (by simp);have W:=Walks.range (prog:=X.prog) (w:=X.w) (I.ok.hd hc) it lo 1 n;refine W.item i s _ _ hg st fun v h' tk hv AV kk=>?_
  obtain ⟨t,rfl⟩:=hv;have I1:An X pins σ H { s with heap:=h',toks:=tk }:=I.turned (fun b o hb e=>kk b o (by simpa using hb) e) f0 f1 f3 f4 f5;refine ⟨_,rfl,JF (s:={ s with heap:=h',toks:=tk }) (n:="range_iterator") AV rfl rfl (by decide) ⟨.int (lo + i),H,I1,⟨t,?_⟩,⟨rfl,rfl⟩,AV,fun b hb=>(hf b hb).1⟩⟩;rw [Int.mul_one]
 done:=by
  intro X hP hw hK hc i pins s σ H E I hf st hg;subst hP hw hK;obtain ⟨f0,f1,f2,f3,f4,f5⟩:=hf it (by simp);exact wpAny_pyNext_range_end (I.ok.hd hc) st (by have:n<=i:=hg; lia) fun h' eb=>⟨rfl,I.turned (t':=s.toks) (fun b o hb e=>eb b o hb e) f0 f1 f3 f4 f5⟩
 self:=fun _ _ _ _ _ st h=>wpAny_pyIter_rangeiter st h
section
variable {X:Cx} {tg:Expr}
def Sf (K:XB) (tl:TE):TI:=fun σ H R=>tl σ H fun x H1=>∃ a,x=.ref a/\(∃ xs,AA K H1 a xs)/\R (Ub K a) H1
def iTup (K:XB) (tl:TE):TI:=fun σ H R=>tl σ H fun x H1=>∃ a,x=.ref a/\(∃ xs,AM K H1 a xs)/\R (Oy K a) H1
theorem Rg {l:Expr} {tl:TE} (hl:PE X l tl):PI X tg l (Sf X.K tl):=by
 intro pins s σ H R I h;refine Bx (hl (pins:=pins) s σ H _ I h) fun v s1 ⟨x,H1,I1,r1,q1⟩=>?_
 obtain ⟨a,e,⟨xs,hq⟩,q⟩:=q1;subst e;cases r1
 obtain ⟨Ao,rv,p,hz⟩:=I1.list hq;refine wpAny_pyIter_list p.isList ?_;refine ⟨s1.heap.objs.size,[s1.heap.objs.size],_,_,H1,rfl,I1.kept (t':=s1.toks) fun b o e=>X9 _ e,Jm a _,⟨_,XJ _ rfl,rfl,rfl⟩,fun b hb=>?_,q⟩;have e:b=s1.heap.objs.size:=by simpa using hb
 subst e;exact I1.fpOk (XD _) (I1.hok.fresh (XD _))
theorem SO {l:Expr} {tl:TE} (hl:PE X l tl):PI X tg l (iTup X.K tl):=by
 intro pins s σ H R I h;refine Bx (hl (pins:=pins) s σ H _ I h) fun v s1 ⟨x,H1,I1,r1,q1⟩=>?_
 obtain ⟨a,e,⟨xs,hq⟩,q⟩:=q1;subst e;cases r1
 obtain ⟨Ao,rv,p,hz⟩:=I1.tuple hq;refine wpAny_pyIter_tuple (show s1.heap.IsTuple a Ao.toArray from p) ?_;refine ⟨s1.heap.objs.size,[s1.heap.objs.size],_,_,H1,rfl,I1.kept (t':=s1.toks) fun b o e=>X9 _ e,Hw a _,⟨_,XJ _ rfl,rfl,rfl⟩,fun b hb=>?_,q⟩;have e:b=s1.heap.objs.size:=by simpa using hb
 subst e;exact I1.fpOk (XD _) (I1.hok.fresh (XD _))
theorem KD {pins:List (Addr × Obj)} {σ:St} {H:Hp} {s:Shared} {R:It->Hp->Prop} {E:Value->Shared->Prop} {lo hi:Int} {t u v:Tok} {tk:Nat} (I:An X pins σ H s) (h1:-(2 ^ 62)<=lo) (h2:lo < 2 ^ 62) (h3:-(2 ^ 62)<=hi) (h4:hi < 2 ^ 62)
  (q:R (QI lo (hi - lo).toNat) H):wpAny (model X.prog X.w) X.A (pyIter (.ref s.heap.objs.size)) (PIE X pins σ tg R) E { s with heap:=s.heap.push { cls:=.type "range",data:=.fields #[.int lo t,.int hi u,.int 1 v] },toks:=tk }:=by
 refine wpAny_pyIter_range (IsRange.new ..) (small_one h1 h2 h3 h4) ?_;have I1:An X pins σ H { s with heap:=s.heap.push { cls:=.type "range",data:=.fields #[.int lo t,.int hi u,.int 1 v] },toks:=tk }:=I.kept fun b o e=>X9 _ e
 refine ⟨(s.heap.push { cls:=.type "range",data:=.fields #[.int lo t,.int hi u,.int 1 v] }).objs.size,[(s.heap.push { cls:=.type "range",data:=.fields #[.int lo t,.int hi u,.int 1 v] }).objs.size],_,_,H,rfl,
  I1.kept (t':=tk) fun b o e=>X9 _ e,L4 _ lo (hi - lo).toNat,?_,fun b hb=>?_,q⟩
 ·have e1:lo + ((0:Nat):Int) * 1=lo:=by simp
  have e2:(((hi - lo).toNat:Nat):Int) - ((0:Nat):Int)=Builtin.Range.rangeSize lo hi 1:=by rw [rangeSize_one]; split <;> lia
  show IsRangeIter _ _ (lo + ((0:Nat):Int) * 1) ((((hi - lo).toNat:Nat):Int) - ((0:Nat):Int)) 1
  rw [e1,e2];exact XJ _ rfl
 ·have e:b=(s.heap.push { cls:=.type "range",data:=.fields #[.int lo t,.int hi u,.int 1 v] }).objs.size:=by simpa using hb
  subst e;exact I1.fpOk (XD _) (I1.hok.fresh (XD _))
def iRng1 (ta:TA):TI:=fun σ H R=>ta σ H fun vs H1=>∃ j:Int,vs=[.int j]/\-(2 ^ 62)<=j/\j < 2 ^ 62/\R (QI 0 j.toNat) H1
def iRng2 (ta:TA):TI:=fun σ H R=>ta σ H fun vs H1=>∃ i j:Int,vs=[.int i,.int j]/\(-(2 ^ 62)<=i/\i < 2 ^ 62/\-(2 ^ 62)<=j/\j < 2 ^ 62)/\R (QI i (j - i).toNat) H1
theorem Dc {a:Expr} {ta:TA} {p pos:Pos} (hg:Gl X "range") (hm:X.mg "range"=none) (ha:PA X [a] ta) (hs:starEach [a] X.env=[(false,eval a X.env)]:=by rfl):PI X tg (.Call (.Name "range" p) [a] [] pos) (iRng1 ta):=by
 intro pins s σ H R I h;refine Call_ (HY I hg hm boot_range (PyProof.Rows.callWith_type1 (Bx (ha (pos:=pos) (pins:=pins) s σ H _ I h) fun us s1 ⟨vs,H1,I1,r1,q1⟩=>?_) hs rfl));obtain ⟨j,e,q1,q2,q⟩:=q1;subst e;cases r1 with
 | cons r rr=>
  cases rr
  obtain ⟨t,rfl⟩:=r;exact call_range_1 (KD I1 (by lia) (by lia) q1 q2 (by simpa using q))
theorem N3 {a b:Expr} {ta:TA} {p pos:Pos} (hg:Gl X "range") (hm:X.mg "range"=none) (ha:PA X [a,b] ta) (hs:starEach [a,b] X.env=[(false,eval a X.env),(false,eval b X.env)]:=by rfl) (Vg:starEach [b] X.env=[(false,eval b X.env)]:=by rfl) :
  PI X tg (.Call (.Name "range" p) [a,b] [] pos) (iRng2 ta):=by
 intro pins s σ H R I h;refine Call_ (HY I hg hm boot_range (PyProof.Rows.callWith_type1 (Bx (ha (pos:=pos) (pins:=pins) s σ H _ I h) fun us s1 ⟨vs,H1,I1,r1,q1⟩=>?_) (by rw [hs,Vg]) (by rw [Vg]; rfl)));obtain ⟨i,j,e,⟨q1,q2,q3,q4⟩,q⟩:=q1;subst e;cases r1 with
 | cons r rr=>
  cases rr with
  | cons r' rr=>
   cases rr
   obtain ⟨t,rfl⟩:=r;obtain ⟨t',rfl⟩:=r';exact call_range_2 (KD I1 q1 q2 q3 q4 q)
def tFor (wi:TI) (g:TG) (tb:TS):TS:=fun D σ H=>wi σ H fun J H1=>∃ W:Nat->Nat->St->Hp->Prop,(∃ m,W 0 m σ H1)/\∀ i m σ H,W i m σ H ->
 (J.stop i H/\D.nx σ H)\/(J.go i H/\∃ N:St->Hp->Prop,(∀ Ar H',N Ar H'->∃ m',m' < m/\W (i + 1) m' Ar H')/\∀ x H',J.yld i H x H'->g x σ H' fun A6 H2=>tb { D with nx:=N,ct:=N,bk:=D.nx } A6 H2)
def BF (fp:List Addr) (h:Heap):List (Addr × Obj):=fp.filterMap fun b=>(h.get? b).map fun o=>(b,o)
theorem A8 {fp:List Addr} {h:Heap} {b:Addr} {o:Obj} (hb:b ∈ fp) (e:h.get? b=some o):(b,o) ∈ BF fp h:=Zo.mpr ⟨b,hb,by rw [e]; rfl⟩
theorem NL {fp:List Addr} {h:Heap} {p:Addr × Obj} (hp:p ∈ BF fp h):p.1 ∈ fp/\h.get? p.1=some p.2:=by
 obtain ⟨b,hb,e⟩:=Zo.mp hp;cases q:h.get? b with
 | none=>rw [q] at e; cases e
 | some o=>
  rw [q] at e;have e':(b,o)=p:=Yi.inj e;subst e';exact ⟨hb,q⟩
theorem An.pinned {pins:List (Addr × Obj)} {σ:St} {H:Hp} {s:Shared} {fp:List Addr} (I:An X pins σ H s) (hf:∀ b ∈ fp,Dl X pins H b) (ho:∀ b ∈ fp,∃ o,s.heap.get? b=some o/\∀ v,o.data ≠ .cell v):An X (pins ++ BF fp s.heap) σ H s:=
 I.pins_of fun p hp=>(Ye.mp hp).elim (fun z=>I.pin p (XO _ z)) fun z=>by
  obtain ⟨hb,e⟩:=NL z;obtain ⟨f0,f1,f2,_⟩:=hf p.1 hb;obtain ⟨o,e',d⟩:=ho p.1 hb;rw [e] at e'; cases e';exact ⟨e,f0,f1,f2,d⟩
theorem An.unpinned {pins pl:List (Addr × Obj)} {σ:St} {H:Hp} {s:Shared} (I:An X (pins ++ pl) σ H s):An X pins σ H s:=I.pins_of fun p hp=>I.pin p (XO _ (YB _ hp))
theorem Bv {iter:Expr} {body:List Stmt} {wi:TI} {g:TG} {tb:TS} {pos:Pos} (hp:PassesOwn (model X.prog X.w) X.A X.env X.xe) (hc:X.calm=true) (hi:PI X tg iter wi) (hg:PG X tg g) (hb:Kw X body tb)
  (hs:∀ x,foldedSetIterable iter X.env x=pure x:=by intro _; rfl):PS X (.For tg iter body [] pos) (tFor wi g tb):=by
 intro pins s σ H D I h;refine wpAny_For (Bx (hi (pins:=pins) s σ H _ I h) fun v s1 h1=>Bx h1 fun itv s2 h2=>?_) hs;obtain ⟨it,fp,tn,J,H2,e,I2,T,Eh,f2,W,⟨m0,w0⟩,turn⟩:=h2;subst e;have stat:∀ {H':Hp},(∀ b ∈ fp,H' b=none)->∀ b ∈ fp,Dl X pins H' b:=fun hn b hb=>⟨hn b hb,(f2 b hb).2⟩
 refine codeAny_forLoop_any (fun n s'=>∃ i Ar H',An X pins Ar H' s'/\tn i s'.heap/\(∀ b ∈ fp,H' b=none)/\W i n Ar H') ?_ m0 ⟨0,σ,H2,I2,Eh,fun b hb=>(f2 b hb).1,w0⟩;rintro n s3 ⟨i,K0,H3,I3,Ww,fr3,w3⟩;rcases turn i n K0 H3 w3 with ⟨stop,qn⟩ | ⟨go,N,hN,step⟩
 ·refine wpAny_passesOwn hp (Bx (T.done X rfl rfl rfl hc i (pins:=pins) s3 K0 H3 X.xe I3 (stat fr3) Ww stop) fun r s4 ⟨hr,I4⟩=>?_);subst hr;exact wpAny_execs_nil ⟨K0,H3,I4,qn⟩
 ·refine wpAny_passesOwn hp (Bx (T.item X rfl rfl rfl hc i (pins:=pins) s3 K0 H3 X.xe I3 (stat fr3) Ww go) fun r s4 ⟨u,hr,h4⟩=>?_);subst hr;refine wpAny_passesOwn hp (Bx h4 fun _ s5 ⟨x,H5,I5,r5,y5,Wv,fr5⟩=>?_);have I5':=I5.pinned (stat fr5) (T.obj _ _ Wv);refine wpAny_passesOwn hp (Bx (hg s5 K0 H5 x u _ I5' r5 (step x H5 y5)) fun _ s6 ⟨σ6,H6,I6,q6⟩=>?_);refine wpAny_passesOwn hp (Bx (hb s6 σ6 H6 _ I6 q6) fun f s7 q7=>?_);have again:∀ {D8:St} {H7:Hp},An X (pins ++ BF fp s5.heap) D8 H7 s7->N D8 H7->∃ m,m < n/\∃ i Ar H',An X pins Ar H' s7/\tn i s7.heap/\(∀ b ∈ fp,H' b=none)/\W i m Ar H':=fun {D8 H7} I7 n7=>by
   obtain ⟨m',hm,w7⟩:=hN D8 H7 n7;refine ⟨m',hm,i + 1,D8,H7,I7.unpinned,T.keep _ _ _ Wv fun b hb o e=>(I7.pin (b,o) (XO _ (XO _ (A8 hb e)))).1,fun b hb=>?_,w7⟩;obtain ⟨o,e,d⟩:=T.obj _ _ Wv b hb;exact (I7.pin (b,o) (XO _ (XO _ (A8 hb e)))).2.1
  cases f with
  | next=>obtain ⟨D8,H7,I7,n7⟩:=q7; exact again I7 n7
  | cont=>obtain ⟨D8,H7,I7,n7⟩:=q7; exact again I7 n7
  | brk=>obtain ⟨D8,H7,I7,q7⟩:=q7; exact ⟨D8,H7,I7.unpinned,q7⟩
  | ret v=>obtain ⟨x7,D8,H7,I7,r7,q7⟩:=q7; exact ⟨x7,D8,H7,I7.unpinned,r7,q7⟩
end
theorem E8 {K:XB} {a:Addr} {xs:List V} {g:TG} {tb:TS} {D:El} {σ:St} {H:Hp} (Pv:Nat->St->Hp->Prop) (h0:Pv 0 σ H) (hl:∀ i σ H,i<=xs.length->Pv i σ H->AA K H a xs)
  (hs:∀ i x σ H,xs[i]? = some x->Pv i σ H->g x σ H fun A6 H2=>tb { D with nx:=Pv (i + 1),ct:=Pv (i + 1),bk:=D.nx } A6 H2) (hd:∀ σ H,Pv xs.length σ H->D.nx σ H) :
  ∃ W:Nat->Nat->St->Hp->Prop,(∃ m,W 0 m σ H)/\∀ i m σ H,W i m σ H ->
   ((Ub K a).stop i H/\D.nx σ H)\/((Ub K a).go i H/\∃ N:St->Hp->Prop,(∀ Ar H',N Ar H'->∃ m',m' < m/\W (i + 1) m' Ar H')/\∀ x H',(Ub K a).yld i H x H'->g x σ H' fun A6 H2=>tb { D with nx:=N,ct:=N,bk:=D.nx } A6 H2):=by
 refine ⟨fun i m σ H=>m=xs.length - i/\i<=xs.length/\Pv i σ H,⟨xs.length,by simp,Yr _,h0⟩,?_⟩;rintro i m σ H ⟨rfl,hi,p⟩;have q:=hl i σ H hi p;by_cases B0:i < xs.length
 ·refine .inr ⟨⟨xs,xs[i],q,by simp [B0]⟩,Pv (i + 1),fun Ar H' p'=>⟨xs.length - (i + 1),by lia,rfl,B0,p'⟩,fun x H' y=>?_⟩;obtain ⟨e,y⟩:=y;subst e;exact hs i x σ _ (y xs q) p
 ·have e:i=xs.length:=by lia
  subst e;exact .inl ⟨⟨xs,q,XD _⟩,hd σ H p⟩
theorem Hs {K:XB} {a:Addr} {xs:List V} {g:TG} {tb:TS} {D:El} {σ:St} {H:Hp} (Pv:Nat->St->Hp->Prop) (h0:Pv 0 σ H) (hl:∀ i σ H,i<=xs.length->Pv i σ H->AM K H a xs)
  (hs:∀ i x σ H,xs[i]? = some x->Pv i σ H->g x σ H fun A6 H2=>tb { D with nx:=Pv (i + 1),ct:=Pv (i + 1),bk:=D.nx } A6 H2) (hd:∀ σ H,Pv xs.length σ H->D.nx σ H) :
  ∃ W:Nat->Nat->St->Hp->Prop,(∃ m,W 0 m σ H)/\∀ i m σ H,W i m σ H ->
   ((Oy K a).stop i H/\D.nx σ H)\/((Oy K a).go i H/\∃ N:St->Hp->Prop,(∀ Ar H',N Ar H'->∃ m',m' < m/\W (i + 1) m' Ar H')/\∀ x H',(Oy K a).yld i H x H'->g x σ H' fun A6 H2=>tb { D with nx:=N,ct:=N,bk:=D.nx } A6 H2):=by
 refine ⟨fun i m σ H=>m=xs.length - i/\i<=xs.length/\Pv i σ H,⟨xs.length,by simp,Yr _,h0⟩,?_⟩;rintro i m σ H ⟨rfl,hi,p⟩;have q:=hl i σ H hi p;by_cases B0:i < xs.length
 ·refine .inr ⟨⟨xs,xs[i],q,by simp [B0]⟩,Pv (i + 1),fun Ar H' p'=>⟨xs.length - (i + 1),by lia,rfl,B0,p'⟩,fun x H' y=>?_⟩;obtain ⟨e,y⟩:=y;subst e;exact hs i x σ _ (y xs q) p
 ·have e:i=xs.length:=by lia
  subst e;exact .inl ⟨⟨xs,q,XD _⟩,hd σ H p⟩
theorem Dd {lo:Int} {n:Nat} {g:TG} {tb:TS} {D:El} {σ:St} {H:Hp} (Pv:Nat->St->Hp->Prop) (h0:Pv 0 σ H)
  (hs:∀ i σ H,i < n->Pv i σ H->g (.int (lo + i)) σ H fun A6 H2=>tb { D with nx:=Pv (i + 1),ct:=Pv (i + 1),bk:=D.nx } A6 H2) (hd:∀ σ H,Pv n σ H->D.nx σ H) :
  ∃ W:Nat->Nat->St->Hp->Prop,(∃ m,W 0 m σ H)/\∀ i m σ H,W i m σ H ->
   ((QI lo n).stop i H/\D.nx σ H)\/((QI lo n).go i H/\∃ N:St->Hp->Prop,(∀ Ar H',N Ar H'->∃ m',m' < m/\W (i + 1) m' Ar H')/\∀ x H',(QI lo n).yld i H x H'->g x σ H' fun A6 H2=>tb { D with nx:=N,ct:=N,bk:=D.nx } A6 H2):=by
 refine ⟨fun i m σ H=>m=n - i/\i<=n/\Pv i σ H,⟨n,by simp,Yr _,h0⟩,?_⟩;rintro i m σ H ⟨rfl,hi,p⟩;by_cases B0:i < n
 ·refine .inr ⟨B0,Pv (i + 1),fun Ar H' p'=>⟨n - (i + 1),by lia,rfl,B0,p'⟩,fun x H' y=>?_⟩;obtain ⟨e,y⟩:=y;subst e y;exact hs i σ _ B0 p
 ·have e:i=n:=by lia
  subst e;exact .inl ⟨XD _,hd σ H p⟩
abbrev R2:=V->V->Hp->VK->Prop
def EJ (X:Cx) (f:Value->Value->Sem Value) (r:R2):Prop:=
 ∀ ⦃pins:List (Addr × Obj)⦄ (s:Shared) (σ:St) (H:Hp) (x y:V) (v u:Value) (Q:VK),An X pins σ H s->A3 x v->A3 y u->r x y H Q ->
  wpAny (model X.prog X.w) X.A (f v u) (EP X pins σ Q) X.xe s
def UnR (X:Cx) (f:Value->Sem Value) (r:V->Hp->VK->Prop):Prop:=
 ∀ ⦃pins:List (Addr × Obj)⦄ (s:Shared) (σ:St) (H:Hp) (x:V) (v:Value) (Q:VK),An X pins σ H s->A3 x v->r x H Q ->
  wpAny (model X.prog X.w) X.A (f v) (EP X pins σ Q) X.xe s
def Bq (X:Cx) (f:Value) (r:List V->Hp->VK->Prop):Prop:=
 ∀ ⦃pins:List (Addr × Obj)⦄ (s:Shared) (σ:St) (H:Hp) (xs:List V) (us:List Value) (Q:VK),An X pins σ H s->Ax xs us->r xs H Q ->
  wpAny (model X.prog X.w) X.A (call f us) (EP X pins σ Q) X.xe s
def TruR (X:Cx) (r:V->Hp->(Bool->Hp->Prop)->Prop):Prop:=
 ∀ ⦃pins:List (Addr × Obj)⦄ (s:Shared) (σ:St) (H:Hp) (x:V) (v:Value) (Q:Bool->Hp->Prop),An X pins σ H s->A3 x v->r x H Q ->
  wpAny (model X.prog X.w) X.A (truthy v) (TP X pins σ Q) X.xe s
def tOp (r:R2) (ta tb:TE):TE:=fun σ H Q=>ta σ H fun x H1=>tb σ H1 fun y H2=>r x y H2 Q
def tUn (r:V->Hp->VK->Prop) (ta:TE):TE:=fun σ H Q=>ta σ H fun x H1=>r x H1 Q
def rI (C:Int->Int->Prop) (g:Int->Int->V):R2:=fun x y H Q=>∃ i j,x=.int i/\y=.int j/\C i j/\Q (g i j) H
def RY (g:Int->Int->V):R2:=fun x y H Q=>∃ i j,x=.int i/\y=.int j/\Q (g i j) H
def rU (g:Int->V):V->Hp->VK->Prop:=fun x H Q=>∃ i,x=.int i/\Q (g i) H
section
variable {X:Cx} {a b c:Expr} {ta tb tc:TE} {pos:Pos}
theorem TQ (ha:PE X a ta) (hb:PE X b tb) {pins:List (Addr × Obj)} {s:Shared} {σ:St} {H:Hp} {R:V->V->Hp->Prop} (I:An X pins σ H s)
  (h:ta σ H fun x H1=>tb σ H1 fun y H2=>R x y H2) {Q:Value->Shared->Prop} {f:Value->Value->Sem Value}
  (hf:∀ v u s2 x y H2,An X pins σ H2 s2->A3 x v->A3 y u->R x y H2->wpAny (model X.prog X.w) X.A (f v u) Q X.xe s2) :
  wpAny (model X.prog X.w) X.A (eval a X.env) (fun v A7=>wpAny (model X.prog X.w) X.A (eval b X.env) (fun u Cr=>wpAny (model X.prog X.w) X.A (f v u) Q X.xe Cr) X.xe A7) X.xe s:=by
 refine Bx (ha (pins:=pins) s σ H _ I h) fun v s1 ⟨x,H1,I1,r1,q1⟩=>?_
 refine Bx (hb (pins:=pins) s1 σ H1 _ I1 q1) fun u s2 ⟨y,H2,I2,r2,q2⟩=>?_
 exact hf v u s2 x y H2 I2 r1 r2 q2
theorem As {op:Operator} {r:R2} (ho:EJ X (binaryOp op) r) (ha:PE X a ta) (hb:PE X b tb):PE X (.BinOp a op b pos) (tOp r ta tb):=by
 intro pins s σ H Q I h;exact wpAny_BinOp (TQ ha hb I h fun v u s2 x y H2 I2 rx ry q=>ho (pins:=pins) s2 σ H2 x y v u Q I2 rx ry q)
theorem M6 {op:UnaryOp} {r:V->Hp->VK->Prop} (ho:UnR X (unaryOp op) r) (ha:PE X a ta):PE X (.UnaryOp op a pos) (tUn r ta):=by
 intro pins s σ H Q I h;exact UnaryOp_ (Bx (ha (pins:=pins) s σ H _ I h) fun v s1 ⟨x,H1,I1,r1,q1⟩=>ho (pins:=pins) s1 σ H1 x v Q I1 r1 q1)
theorem opI {f:Value->Value->Sem Value} {C:Int->Int->Prop} {g:Int->Int->Int}
  (rule:∀ (i j:Int) (t u:Tok) (s:Shared) (Q:Value->Shared->Prop) (E:Value->Shared->Prop),C i j->Q (.int (g i j) s.toks) { s with toks:=s.toks + 1 }->wpAny (model X.prog X.w) X.A (f (.int i t) (.int j u)) Q E s) :
  EJ X f (rI C fun i j=>.int (g i j)):=by
 intro pins s σ H x y v u Q I rx ry h;obtain ⟨i,j,rfl,rfl,hc,q⟩:=h;obtain ⟨t,rfl⟩:=rx;obtain ⟨t',rfl⟩:=ry;exact rule i j t t' s _ _ hc ⟨.int (g i j),H,I.tok _,⟨_,rfl⟩,q⟩
theorem opI0 {f:Value->Value->Sem Value} {g:Int->Int->Int}
  (rule:∀ (i j:Int) (t u:Tok) (s:Shared) (Q:Value->Shared->Prop) (E:Value->Shared->Prop),Q (.int (g i j) s.toks) { s with toks:=s.toks + 1 }->wpAny (model X.prog X.w) X.A (f (.int i t) (.int j u)) Q E s) :
  EJ X f (RY fun i j=>.int (g i j)):=by
 intro pins s σ H x y v u Q I rx ry h;obtain ⟨i,j,rfl,rfl,q⟩:=h;obtain ⟨t,rfl⟩:=rx;obtain ⟨t',rfl⟩:=ry;exact rule i j t t' s _ _ ⟨.int (g i j),H,I.tok _,⟨_,rfl⟩,q⟩
theorem Rk {f:Value->Value->Sem Value} {g:Int->Int->Bool}
  (rule:∀ (i j:Int) (t u:Tok) (s:Shared) (Q:Value->Shared->Prop) (E:Value->Shared->Prop),Q (.bool (g i j)) s->wpAny (model X.prog X.w) X.A (f (.int i t) (.int j u)) Q E s) :
  EJ X f (RY fun i j=>.bl (g i j)):=by
 intro pins s σ H x y v u Q I rx ry h;obtain ⟨i,j,rfl,rfl,q⟩:=h;obtain ⟨t,rfl⟩:=rx;obtain ⟨t',rfl⟩:=ry;exact rule i j t t' s _ _ ⟨.bl (g i j),H,I,rfl,q⟩
def CDiv (i j:Int):Prop:=0 < j/\j < 1073741824
def CPow (i j:Int):Prop:=0<=j/\j<=1000000/\i.natAbs < 2 ^ 64
def Ue (i j:Int):Prop:=(-(2 ^ 64) < i/\i < 2 ^ 64)\/(-(2 ^ 64) < j/\j < 2 ^ 64)
theorem Ue.ok {i j:Int} (h:Ue i j):IntMulOk i j:=by
 rcases h with ⟨h1,h2⟩ | ⟨h1,h2⟩
 ·exact .of_left (intBits_le_64 h1 h2)
 ·exact .of_right (intBits_le_64 h1 h2)
theorem Be:EJ X (binaryOp .Add) (RY fun i j=>.int (i + j)):=opI0 fun _ _ _ _ _ _ _ q=>add_int q
theorem Ew:EJ X (binaryOp .Sub) (RY fun i j=>.int (i - j)):=opI0 fun _ _ _ _ _ _ _ q=>sub_int q
theorem DU:EJ X (binaryOp .Mult) (rI Ue fun i j=>.int (i * j)):=opI fun _ _ _ _ _ _ _ hc q=>mul_int q hc.ok
theorem MA:EJ X (binaryOp .FloorDiv) (rI CDiv fun i j=>.int (i / j)):=opI fun i j _ _ _ _ _ hc q=>by
 have h1:(0:Int) < j:=hc.1;have h2:j < 1073741824:=hc.2;exact floordiv_int (by lia) (by rw [Int.fdiv_eq_ediv_of_nonneg i (by lia)]; exact q) (.inl (PyProof.noPylong_small (by lia)))
theorem DV:EJ X (binaryOp .Mod) (rI (fun _ j=>0 < j) fun i j=>.int (i % j)):=opI fun i j _ _ _ _ _ hc q=>by
 have h1:(0:Int) < j:=hc;exact mod_int' (by lia) (by rw [Int.fmod_eq_emod_of_nonneg i (by lia)]; exact q)
theorem PK:EJ X (binaryOp .Pow) (rI CPow fun i j=>.int (i ^ j.toNat)):=opI fun _ _ _ _ _ _ _ hc q=>pow_int_small hc.1 hc.2.1 hc.2.2 q
theorem unI {f:Value->Sem Value} {g:Int->Int}
  (rule:∀ (i:Int) (t:Tok) (s:Shared) (Q:Value->Shared->Prop) (E:Value->Shared->Prop),Q (.int (g i) s.toks) { s with toks:=s.toks + 1 }->wpAny (model X.prog X.w) X.A (f (.int i t)) Q E s) :
  UnR X f (rU fun i=>.int (g i)):=by
 intro pins s σ H x v Q I rx h;obtain ⟨i,rfl,q⟩:=h;obtain ⟨t,rfl⟩:=rx;exact rule i t s _ _ ⟨.int (g i),H,I.tok _,⟨_,rfl⟩,q⟩
theorem JT:UnR X (unaryOp .USub) (rU fun i=>.int (-i)):=unI fun _ _ _ _ _ q=>neg_int q
end
def scal:V->V->Bool
 | .non,.non=>true | .non,.int _=>true | .int _,.non=>true | .non,.bl _=>true | .bl _,.non=>true | .non,.str _=>true | .str _,.non=>true
 | .int _,.int _=>true | .bl _,.bl _=>true | .str _,.str _=>true | .byt _,.byt _=>true
 | .int _,.str _=>true | .str _,.int _=>true | .bl _,.str _=>true | .str _,.bl _=>true
 | _,_=>false
def rEq:R2:=fun x y H Q=>scal x y=true/\Q (.bl (decide (x=y))) H
def rNe:R2:=fun x y H Q=>scal x y=true/\Q (.bl (!decide (x=y))) H
theorem MR {i j:Int}:decide (V.int i=V.int j)=(i == j):=by
 rw [YA];simp
theorem Qw {i j:Bool}:decide (V.bl i=V.bl j)=(i == j):=by
 rw [YA];simp
theorem MQ {i j:Str}:decide (V.str i=V.str j)=(i == j):=by
 rw [YA];simp
theorem MS {i j:Array UInt8}:decide (V.byt i=V.byt j)=(i.toList == j.toList):=by
 rw [YA];cases i
 cases j
 simp
section
variable {X:Cx} {a b c:Expr} {ta tb tc:TE} {pos:Pos}
theorem AR {pins:List (Addr × Obj)} {σ:St} {H:Hp} {s:Shared} {Q:VK} {k k':Bool} (I:An X pins σ H s) (q:Q (.bl k) H) (e:k=k'):EP X pins σ Q (.bool k') s:=by
 subst e;exact ⟨.bl k,H,I,rfl,q⟩
theorem MB:EJ X (compareOp .Eq) rEq:=by
 intro pins s σ H x y v u Q I rx ry h;obtain ⟨hs,q⟩:=h;cases x with
 | non=>
  cases rx
  cases y with
  | non=>cases ry; exact PySem.EqNone.eq_none_none (AR I q (by simp))
  | bl j=>cases ry; exact PySem.EqNone.eq_none_bool (AR I q (by simp))
  | int j=>obtain ⟨t',rfl⟩:=ry; exact PySem.EqNone.eq_none_int (AR I q (by simp))
  | str j=>obtain ⟨t',rfl⟩:=ry; exact PySem.EqNone.eq_none_str (AR I q (by simp))
  | _=>exact absurd (show false=true from hs) Yc
 | bl i=>
  cases rx
  cases y with
  | non=>cases ry; exact PySem.EqNone.eq_bool_none (AR I q (by simp))
  | bl j=>cases ry; exact eq_bool (AR I q Qw)
  | str j=>obtain ⟨t',rfl⟩:=ry; exact PySem.EqMixed.eq_bool_str (AR I q (by simp))
  | _=>exact absurd (show false=true from hs) Yc
 | int i=>
  obtain ⟨t,rfl⟩:=rx;cases y with
  | non=>cases ry; exact PySem.EqNone.eq_int_none (AR I q (by simp))
  | int j=>obtain ⟨t',rfl⟩:=ry; exact eq_int (AR I q MR)
  | str j=>obtain ⟨t',rfl⟩:=ry; exact PySem.EqMixed.eq_int_str (AR I q (by simp))
  | _=>exact absurd (show false=true from hs) Yc
 | str i=>
  obtain ⟨t,rfl⟩:=rx;cases y with
  | non=>cases ry; exact PySem.EqNone.eq_str_none (AR I q (by simp))
  | bl j=>cases ry; exact PySem.EqMixed.eq_str_bool (AR I q (by simp))
  | int j=>obtain ⟨t',rfl⟩:=ry; exact PySem.EqMixed.eq_str_int (AR I q (by simp))
  | str j=>obtain ⟨t',rfl⟩:=ry; exact eq_str (AR I q MQ)
  | _=>exact absurd (show false=true from hs) Yc
 | byt i=>
  obtain ⟨t,rfl⟩:=rx;cases y with
  | byt j=>obtain ⟨t',rfl⟩:=ry; exact PySem.W.eq_bytes (AR I q MS)
  | _=>exact absurd (show false=true from hs) Yc
 | _=>cases y <;> exact absurd (show false=true from hs) Yc
theorem PM:EJ X (compareOp .NotEq) rNe:=by
 intro pins s σ H x y v u Q I rx ry h;obtain ⟨hs,q⟩:=h;cases x with
 | non=>
  cases rx
  cases y with
  | non=>cases ry; exact PySem.EqNone.ne_none_none (AR I q (by simp))
  | bl j=>cases ry; exact PySem.EqNone.ne_none_bool (AR I q (by simp))
  | int j=>obtain ⟨t',rfl⟩:=ry; exact PySem.EqNone.ne_none_int (AR I q (by simp))
  | str j=>obtain ⟨t',rfl⟩:=ry; exact PySem.EqNone.ne_none_str (AR I q (by simp))
  | _=>exact absurd (show false=true from hs) Yc
 | bl i=>
  cases rx
  cases y with
  | non=>cases ry; exact PySem.EqNone.ne_bool_none (AR I q (by simp))
  | bl j=>cases ry; exact ne_bool (AR I q (congrArg not Qw))
  | str j=>obtain ⟨t',rfl⟩:=ry; exact PySem.EqMixed.ne_bool_str (AR I q (by simp))
  | _=>exact absurd (show false=true from hs) Yc
 | int i=>
  obtain ⟨t,rfl⟩:=rx;cases y with
  | non=>cases ry; exact PySem.EqNone.ne_int_none (AR I q (by simp))
  | int j=>obtain ⟨t',rfl⟩:=ry; exact ne_int (AR I q (congrArg not MR))
  | str j=>obtain ⟨t',rfl⟩:=ry; exact PySem.EqMixed.ne_int_str (AR I q (by simp))
  | _=>exact absurd (show false=true from hs) Yc
 | str i=>
  obtain ⟨t,rfl⟩:=rx;cases y with
  | non=>cases ry; exact PySem.EqNone.ne_str_none (AR I q (by simp))
  | bl j=>cases ry; exact PySem.EqMixed.ne_str_bool (AR I q (by simp))
  | int j=>obtain ⟨t',rfl⟩:=ry; exact PySem.EqMixed.ne_str_int (AR I q (by simp))
  | str j=>obtain ⟨t',rfl⟩:=ry; exact ne_str (AR I q (congrArg not MQ))
  | _=>exact absurd (show false=true from hs) Yc
 | byt i=>
  obtain ⟨t,rfl⟩:=rx;cases y with
  | byt j=>obtain ⟨t',rfl⟩:=ry; exact PySem.W.ne_bytes (AR I q (congrArg not MS))
  | _=>exact absurd (show false=true from hs) Yc
 | _=>cases y <;> exact absurd (show false=true from hs) Yc
theorem M8:EJ X (compareOp .Lt) (RY fun i j=>.bl (decide (i < j))):=Rk fun _ _ _ _ _ _ _ q=>lt_int q
theorem M9:EJ X (compareOp .LtE) (RY fun i j=>.bl (decide (i<=j))):=Rk fun _ _ _ _ _ _ _ q=>le_int q
theorem PN:EJ X (compareOp .Gt) (RY fun i j=>.bl (decide (j < i))):=Rk fun _ _ _ _ _ _ _ q=>gt_int q
theorem op_ge:EJ X (compareOp .GtE) (RY fun i j=>.bl (decide (j<=i))):=Rk fun _ _ _ _ _ _ _ q=>ge_int q
theorem B9 (b:Expr) {op:CmpOp} (h:op ≠ .In:=by decide) (h2:op ≠ .NotIn:=by decide):behindInMarks op b=false:=by
 have e1:(op == CmpOp.In)=false:=by cases op <;> first | rfl | exact absurd rfl h
 have e2:(op == CmpOp.NotIn)=false:=by cases op <;> first | rfl | exact absurd rfl h2
 cases b <;> simp [behindInMarks,e1,e2]
theorem EV {op:CmpOp} {r:R2} (ho:EJ X (compareOp op) r) (ha:PE X a ta) (hb:PE X b tb) (hm:behindInMarks op b=false):PE X (.Compare a [op] [b] pos) (tOp r ta tb):=by
 intro pins s σ H Q I h;exact wpAny_Compare1 (TQ ha hb I h fun v u s2 x y H2 I2 rx ry q=>ho (pins:=pins) s2 σ H2 x y v u Q I2 rx ry q) hm
def RV (t:TE):TT:=fun σ H Q=>t σ H fun x H'=>∃ k,x=.bl k/\Q k H'
theorem B5 {op:CmpOp} {r:R2} (ho:EJ X (compareOp op) r) (ha:PE X a ta) (hb:PE X b tb) (hm:behindInMarks op b=false):PT X (.Compare a [op] [b] pos) (RV (tOp r ta tb)):=by
 intro pins s σ H Q I h;refine wpAny_isTrue_Compare1 (Bx (ha (pins:=pins) s σ H _ I h) fun v s1 ⟨x,H1,I1,r1,q1⟩=>Bx (hb (pins:=pins) s1 σ H1 _ I1 q1) fun u s2 ⟨y,H2,I2,r2,q2⟩=>
  Bx (ho (pins:=pins) s2 σ H2 x y v u _ I2 r1 r2 q2) fun c s3 ⟨z,H3,I3,r3,k,e,q3⟩=>?_) hm
 subst e;cases r3
 exact wpAny_truthy_bool ⟨H3,I3,q3⟩
def L7 (r r':R2) (ta tb tc:TE):TE:=fun σ H Q=>ta σ H fun x H1=>tb σ H1 fun y H2=>r x y H2 fun z H3=>∃ k,z=.bl k /\
 (if k=true then tc σ H3 fun w' H4=>r' y w' H4 Q else Q (.bl false) H3)
theorem PB {op Th:CmpOp} {r r':R2} (ho:EJ X (compareOp op) r) (IW:EJ X (compareOp Th) r') (ha:PE X a ta) (hb:PE X b tb) (hc:PE X c tc)
  (hm:lastMarks [op,Th] [b,c]=false:=by with_unfolding_all rfl):PE X (.Compare a [op,Th] [b,c] pos) (L7 r r' ta tb tc):=by
 intro pins s σ H Q I h;refine Compare_chain (Bx (ha (pins:=pins) s σ H _ I h) fun v s1 ⟨x,H1,I1,r1,q1⟩=>chain_link (Bx (hb (pins:=pins) s1 σ H1 _ I1 q1) fun u s2 ⟨y,H2,I2,r2,q2⟩=>
  Bx (ho (pins:=pins) s2 σ H2 x y v u _ I2 r1 r2 q2) fun d s3 ⟨z,H3,I3,r3,k,e,q3⟩=>?_)) hm
 subst e;cases r3
 refine wpAny_truthy_bool ?_;cases k with
 | false=>exact ite_ff ⟨.bl false,H3,I3,rfl,q3⟩
 | true=>exact ite_tt (chain_last (Bx (hc (pins:=pins) s3 σ H3 _ I3 q3) fun w' s4 ⟨z',H4,I4,r4,q4⟩=>IW (pins:=pins) s4 σ H4 y z' u w' Q I4 r2 r4 q4))
theorem Pq {op Th:CmpOp} {r r':R2} (ho:EJ X (compareOp op) r) (IW:EJ X (compareOp Th) r') (ha:PE X a ta) (hb:PE X b tb) (hc:PE X c tc)
  (hm:lastMarks [op,Th] [b,c]=false:=by with_unfolding_all rfl):PT X (.Compare a [op,Th] [b,c] pos) (RV (L7 r r' ta tb tc)):=by
 intro pins s σ H Q I h;refine isTrue_chain (Bx (ha (pins:=pins) s σ H _ I h) fun v s1 ⟨x,H1,I1,r1,q1⟩=>test_link (Bx (hb (pins:=pins) s1 σ H1 _ I1 q1) fun u s2 ⟨y,H2,I2,r2,q2⟩=>
  Bx (ho (pins:=pins) s2 σ H2 x y v u _ I2 r1 r2 q2) fun d s3 ⟨z,H3,I3,r3,k,e,q3⟩=>?_)) hm
 subst e;cases r3
 refine wpAny_truthy_bool ?_;cases k with
 | false=>
  obtain ⟨k',e',q'⟩:=q3;cases e'
  exact ite_ff ⟨H3,I3,q'⟩
 | true=>
  refine ite_tt (test_last (Bx (hc (pins:=pins) s3 σ H3 _ I3 q3) fun w' s4 ⟨z',H4,I4,r4,q4⟩=>Bx (IW (pins:=pins) s4 σ H4 y z' u w' _ I4 r2 r4 q4) fun d' s5 ⟨z2,H5,I5,r5,k2,e2,q5⟩=>?_));subst e2;cases r5
  exact wpAny_truthy_bool ⟨H5,I5,q5⟩
def TruV (K:XB) (x:V) (H:Hp) (k:Bool):Prop:=
 match x with
 | .non=>k=false
 | .bl b=>k=b
 | .int i=>k=(i != 0)
 | .str y=>y.length<=sizeLine/\k=((y.length:Int) != 0)
 | .byt y=>y.size<=sizeLine/\k=((y.size:Int) != 0)
 | .ref p=>(∃ xs,AA K H p xs/\k = !xs.isEmpty)\/(∃ xs,AM K H p xs/\k = !xs.isEmpty)\/∃ kvs,H p=some (.dK kvs)/\k = !kvs.isEmpty
 | _=>False
theorem LR {κ:Type} {kvs:List (κ × V)} {vs:List (κ × Value)} (r:KV kvs vs):(!vs.isEmpty) = !kvs.isEmpty:=by
 cases r <;> rfl
theorem Ib {xs:List V} {Ao:List Value} (r:Ax xs Ao):(!Ao.toArray.isEmpty) = !xs.isEmpty:=by
 cases r <;> simp
theorem Ft:(sizeLine:Nat) < 2 ^ 63:=by rw [sizeLine_eq]; decide
theorem Sy:TruR X (fun x H Q=>∃ k,TruV X.K x H k/\Q k H):=by
 intro pins s σ H x v Q I rx h;obtain ⟨k,e,q⟩:=h;have hl:=Ft;have hs:sizeLine=16777216:=sizeLine_eq;cases x with
 | non=>
  cases rx
  have e':k=false:=e;subst e';exact truthy_none ⟨H,I,q⟩
 | bl b=>
  cases rx
  have e':k=b:=e;subst e';exact wpAny_truthy_bool ⟨H,I,q⟩
 | int i=>
  obtain ⟨t,rfl⟩:=rx;have e':k=(i != 0):=e;subst e';exact PySem.P.truthy_int ⟨H,I,q⟩
 | str y=>
  obtain ⟨t,rfl⟩:=rx;obtain ⟨hy,e'⟩:y.length<=sizeLine/\k=((y.length:Int) != 0):=e;subst e';exact PySem.P.truthy_str (by lia) ⟨H,I.tok _,q⟩
 | byt y=>
  obtain ⟨t,rfl⟩:=rx;obtain ⟨hy,e'⟩:y.size<=sizeLine/\k=((y.size:Int) != 0):=e;subst e';exact PySem.W.truthy_bytes (by lia) ⟨H,I.tok _,q⟩
 | ref p=>
  cases rx
  have e':(∃ xs,AA X.K H p xs/\k = !xs.isEmpty)\/(∃ xs,AM X.K H p xs/\k = !xs.isEmpty)\/∃ kvs,H p=some (.dK kvs)/\k = !kvs.isEmpty:=e;rcases e' with ⟨xs,hx,e'⟩ | ⟨xs,hx,e'⟩ | ⟨kvs,hx,e'⟩
  ·subst e';obtain ⟨Ao,r,pl,hz⟩:=I.list hx;have hlen:=r.length;exact wpAny_truthy_list pl.isList (by simp only [Yf]; lia) ⟨H,I.tok _,by rw [Ib r]; exact q⟩
  ·subst e';obtain ⟨Ao,r,pl,hz⟩:=I.tuple hx;have hlen:=r.length;exact truthy_tuple pl (by simp only [Yf]; lia) ⟨H,I.tok _,by rw [Ib r]; exact q⟩
  ·subst e';obtain ⟨hz,hS,vs,r,m⟩:kvs.length<=sizeLine/\(p == sysModules)=false/\∃ vs,KV kvs vs/\s.heap.DictOf (AK X.prog X.w) p vs:=I.hok p _ hx;have hlen:kvs.length=vs.length:=Paired.length r;exact wpAny_truthy_dict hS m (by lia) ⟨H,I.tok _,by rw [LR r]; exact q⟩
 | _=>exact (show False from e).elim
theorem Pp (ha:PE X a ta) (he:∀ whole,isTrue a X.env whole=(do let v <- whole; standAt a.pos; holding [v] (truthy v))) :
  PT X a (fun σ H Q=>ta σ H fun x H'=>∃ k,TruV X.K x H' k/\Q k H'):=by
 intro pins s σ H Q I h;exact isTrue_plain (Bx (ha (pins:=pins) s σ H _ I h) fun v s1 ⟨x,H1,I1,r1,q1⟩=>Sy (pins:=pins) s1 σ H1 x v Q I1 r1 q1) (he _)
theorem Dg:EJ X (binaryOp .Add) (fun x y H Q=>∃ i j,x=.str i/\y=.str j/\i.length + j.length<=sizeLine/\Q (.str (i ++ j)) H):=by
 intro pins s σ H x y v u Q I rx ry h;obtain ⟨i,j,rfl,rfl,hz,q⟩:=h;obtain ⟨t,rfl⟩:=rx;obtain ⟨t',rfl⟩:=ry;exact add_str (fun t' tk=>⟨.str (i ++ j),H,I.tok _,⟨_,rfl⟩,q⟩) hz
theorem B7 {x:V} {us:List Value} (r:Ax [x] us):∃ u,us=[u]/\A3 x u:=by
 cases r with
 | cons r1 r2=>cases r2; exact ⟨_,rfl,r1⟩
theorem Mm {x y:V} {us:List Value} (r:Ax [x,y] us):∃ u w',us=[u,w']/\A3 x u/\A3 y w':=by
 cases r with
 | cons r1 r2=>
  cases r2 with
  | cons r3 r4=>cases r4; exact ⟨_,_,rfl,r1,r3⟩
theorem Qz:Bq X (.builtin "abs") (fun xs H Q=>∃ i,xs=[.int i]/\Q (.int (if i < 0 then -i else i)) H):=by
 intro pins s σ H xs us Q I r h;obtain ⟨i,rfl,q⟩:=h;obtain ⟨u,rfl,t,rfl⟩:=B7 r;exact call_abs_int fun u tk=>⟨.int (if i < 0 then -i else i),H,I.tok _,⟨_,rfl⟩,q⟩
theorem Gs (hc:X.calm=true):Bq X (.builtin "max") (fun xs H Q=>∃ i j,xs=[.int i,.int j]/\Q (.int (if j > i then j else i)) H):=by
 intro pins s σ H xs us Q I r h;obtain ⟨i,j,rfl,q⟩:=h;obtain ⟨u,w',rfl,⟨t,rfl⟩,⟨t',rfl⟩⟩:=Mm r;refine max_two_ints (I.ok.hd hc) fun h' tk k=>⟨_,H,I.kept k,?_,q⟩
 by_cases hj:j > i
 ·rw [if_pos hj,if_pos hj]; exact ⟨_,rfl⟩
 ·rw [if_neg hj,if_neg hj]; exact ⟨_,rfl⟩
theorem JM (hc:X.calm=true):Bq X (.builtin "min") (fun xs H Q=>∃ i j,xs=[.int i,.int j]/\Q (.int (if j < i then j else i)) H):=by
 intro pins s σ H xs us Q I r h;obtain ⟨i,j,rfl,q⟩:=h;obtain ⟨u,w',rfl,⟨t,rfl⟩,⟨t',rfl⟩⟩:=Mm r;refine min_two_ints (I.ok.hd hc) fun h' tk k=>⟨_,H,I.kept k,?_,q⟩
 by_cases hj:j < i
 ·rw [if_pos hj,if_pos hj]; exact ⟨_,rfl⟩
 ·rw [if_neg hj,if_neg hj]; exact ⟨_,rfl⟩
theorem Gu:Bq X (.type "int") (fun xs H Q=>(∃ i,xs=[.int i]/\Q (.int i) H)\/∃ k,xs=[.bl k]/\Q (.int (if k then 1 else 0)) H):=by
 intro pins s σ H xs us Q I r h;rcases h with ⟨i,rfl,q⟩ | ⟨k,rfl,q⟩
 ·obtain ⟨u,rfl,t,rfl⟩:=B7 r;exact call_int_int ⟨.int i,H,I,⟨_,rfl⟩,q⟩
 ·obtain ⟨u,rfl,r1⟩:=B7 r;cases r1
  exact call_int_bool ⟨.int (if k then 1 else 0),H,I.tok _,⟨_,rfl⟩,q⟩
end
structure TZ (h:Heap) (x dx C:Addr) (mA:Str->Option Value):Prop where
 obj:h.get? x=some (ZA C dx)
 ns:h.Ns1 dx mA
 ne:dx ≠ x
theorem NQ {h:Heap} {dx:Addr} {mA:Str->Option Value} (n:h.Ns1 dx mA):∃ od,h.get? dx=some od/\∀ name,ZF name od=some (mA name):=by
 obtain ⟨o,es,ep,ho,hd,hk,_,hm⟩:=n;refine ⟨o,ho,fun name=>?_⟩;have e:=hm name;unfold nsFind findBy at e;rw [<-Array.find?_toList] at e;unfold ZF;rw [hd];dsimp only;split
 ·rename_i y q
  rw [q] at e;exact congrArg some e
 ·rename_i q
  rw [q] at e;have a:es.toList.any (·.refKey)=false:=by
   rw [List.any_eq_false];intro y hy;obtain ⟨z,t,hkey⟩:=hk y (ZV.mp hy);simp [DictEntry.refKey,hkey]
  have a':¬ es.toList.any (·.refKey)=true:=by rw [a]; exact Yc
  rw [if_neg a'];exact congrArg some e
theorem TZ.look {h:Heap} {x dx C:Addr} {mA:Str->Option Value} (I:TZ h x dx C mA):∃ od,PySem.W.InstAt h x (ZA C dx) C (some od)/\∀ name,ZF name od=some (mA name):=
 let ⟨od,ho,hl⟩:=NQ I.ns
 ⟨od,⟨I.obj,rfl,rfl,ho⟩,hl⟩
section
variable {prog:Program} {w:World} {A:Around} {E:Value->Shared->Prop} {s:Shared} {K:XB} {x dx C f:Addr} {mA:Str->Option Value} {name:Str} {v:Value}
end
theorem Gv.some_of {v:V} {o:Option Value} (r:Gv (some v) o):∃ u,o=some u/\A3 v u:=by
 cases o with
 | none=>exact (show False from r).elim
 | some u=>exact ⟨u,rfl,r⟩
section
variable {P:Program} {w:World} {H H':Hp} {h h':Heap} {a C dx:Addr} {fs fs':List (Str × V)}
theorem R4 (hok:F5 P w H h) (e:H a=some (.ins C dx fs)):∃ mA,TZ h a dx C mA/\(∀ f,Gv (fs.lookup f) (mA f))/\PySem.Within mA (fs.map (·.1))/\fs.length<=1000/\H dx=some (.own a):=by
 obtain ⟨d,z,ne,ob,mA,n,r,q⟩:=(show A9 P w H h a (.ins C dx fs) from hok a _ e)
 exact ⟨mA,⟨ob,n,ne⟩,r,q,z,d⟩
end
structure Cls (K:XB) (C:Addr):Prop where
 pg:aA K C Str.empty=true
 hd:PySem.W.hasDictIn K C=true
 po:PySem.W.plainOver K C=true
 sa:aJ K (.ref C) "__setattr__"=some (some (.builtin "object.__setattr__"))
theorem Cls.get {K:XB} {C:Addr} (c:Cls K C) (f:Str):aA K C f=true:=c.pg
section
variable {X:Cx} {pins:List (Addr × Obj)} {σ:St} {H:Hp} {s:Shared} {a C dx:Addr} {fs:List (Str × V)} {f:Str} {v:V} {A:Around} {E:Value->Shared->Prop}
end
section
variable {X:Cx} {o e value:Expr} {f:Str} {pos pos' tpos:Pos} {ta tv:TE}
end
section
variable {X:Cx} {pins:List (Addr × Obj)} {σ:St} {H:Hp} {s:Shared} {A:Around} {E:Value->Shared->Prop} {Q:Value->Shared->Prop} {c:Value} {b:Bool}
inductive Ec (K:XB) (H:Hp):V->Value->Prop where
 | non:Ec K H .non (.type "NoneType")
 | bl (x:Bool):Ec K H (.bl x) (.type "bool")
 | int (i:Int):Ec K H (.int i) (.type "int")
 | str (x:Str):Ec K H (.str x) (.type "str")
 | flt (x:UInt64):Ec K H (.flt x) (.type "float")
 | lst {a:Addr} {xs:List V} (e:H a=some (.lst xs)):Ec K H (.ref a) (.type "list")
 | frz {a:Addr} {o:Obj} {xs:List V} (e:H a=some (.frz o (.lst xs))):Ec K H (.ref a) (.type "list")
 | tup {a:Addr} {xs:List V} (e:H a=some (.tup xs)):Ec K H (.ref a) (.type "tuple")
 | dK {a:Addr} {kvs:List (AO × V)} (e:H a=some (.dK kvs)):Ec K H (.ref a) (.type "dict")
 | dT {a:Addr} {kvs:List (List AO × V)} (e:H a=some (.dT kvs)):Ec K H (.ref a) (.type "dict")
 | ins {a C dx:Addr} {fs:List (Str × V)} (e:H a=some (.ins C dx fs)) (cl:Cls K C) (ha:aJ K (.ref C) "__class__"=some (some (.builtin "object.__class__")))
   (hn:PySem.W.specialIn K (.builtin "object.__class__") "__get__"=some (some (.builtin "getset_descriptor.__get__"))) (htk:PySem.W.takesIn K (.builtin "object.__class__")=some true)
   (hm:PySem.W.mroIn K C (.type "object")=some true):Ec K H (.ref a) (.ref C)
theorem NX {x:V} {u t:Value} (I:An X pins σ H s) (rx:A3 x u) (ty:Ec X.K H x t) (e:Zw X.K t c=some b) (h:∀ tk,Q (.bool b) { s with toks:=tk }) :
  wpAny (model X.prog X.w) A (call (.builtin "isinstance") [u,c]) Q E s:=by
 cases ty with
 | non=>cases (show u=Value.none from rx); exact Y9 PySem.W.kitx_none I.kIn True.intro e (fun z=>nomatch z) h
 | bl y=>cases (show u=Value.bool y from rx); exact Y9 PySem.W.kitx_bool I.kIn True.intro e (fun z=>nomatch z) h
 | int i=>obtain ⟨t,q⟩:=(show ∃ t,u=Value.int i t from rx); cases q; exact Y9 PySem.W.kitx_int I.kIn True.intro e (fun z=>nomatch z) h
 | str y=>obtain ⟨t,q⟩:=(show ∃ t,u=Value.str y t from rx); cases q; exact Y9 PySem.W.kitx_str I.kIn True.intro e (fun z=>nomatch z) h
 | flt y=>obtain ⟨t,q⟩:=(show ∃ t,u=Value.float y t from rx); cases q; exact Y9 PySem.W.kitx_float I.kIn True.intro e (fun z=>nomatch z) h
 | @lst a xs ea=>
  cases (show u=Value.ref a from rx)
  obtain ⟨_,_,n,_,h1⟩:=(show A9 X.prog X.w H s.heap a (.lst xs) from I.hok a _ ea)
  exact Y9 ag I.kIn ⟨_,h1,rfl⟩ e (fun z=>nomatch z) h
 | @frz a ob xs ea=>
  cases (show u=Value.ref a from rx)
  obtain ⟨_,_,_,n,_,h1⟩:=(show A9 X.prog X.w H s.heap a (.frz ob (.lst xs)) from I.hok a _ ea)
  exact Y9 ag I.kIn ⟨_,h1,rfl⟩ e (fun z=>nomatch z) h
 | @tup a xs ea=>
  cases (show u=Value.ref a from rx)
  obtain ⟨_,_,_,p,_⟩:=(show A9 X.prog X.w H s.heap a (.tup xs) from I.hok a _ ea)
  obtain ⟨o,h1,h2,_⟩:=p;exact Y9 PySem.W.kitx_tuple I.kIn ⟨o,h1,h2⟩ e (fun z=>nomatch z) h
 | @dK a kvs ea=>
  cases (show u=Value.ref a from rx)
  obtain ⟨_,_,vs,_,p⟩:=(show A9 X.prog X.w H s.heap a (.dK kvs) from I.hok a _ ea)
  obtain ⟨o,es,ep,h1,h2,_⟩:=p;exact Y9 ah I.kIn ⟨o,h1,h2.1⟩ e (fun z=>nomatch z) h
 | @dT a kvs ea=>
  cases (show u=Value.ref a from rx)
  obtain ⟨_,_,xs,_,o,es,ep,h1,h2,_⟩:=(show A9 X.prog X.w H s.heap a (.dT kvs) from I.hok a _ ea)
  exact Y9 ah I.kIn ⟨o,h1,h2.1⟩ e (fun z=>nomatch z) h
 | @ins a C dx fs ea cl ha hn htk hm=>
  cases (show u=Value.ref a from rx)
  obtain ⟨mA,O,_⟩:=R4 I.hok ea;obtain ⟨od,J,_⟩:=O.look;exact Y9 (PySem.W.kitx_own (cl.get _) cl.hd ha hn htk hm) I.kIn J e (fun z=>nomatch z) h
end
structure D6 (k:Nat) (A:Around):Prop where
 hd:A.handled=none
 dp:A.depth + 3 * k + 5 < recursionLimit
 un:A.units + 16 * k + 200 < cLine
 gd:A.guards=some []:=by rfl
theorem D6.mono {j k:Nat} {A:Around} (r:D6 k A) (h:j<=k):D6 j A:=⟨r.hd,by have:=r.dp; lia,by have:=r.un; lia,r.gd⟩
theorem D6.deeper {k:Nat} {A:Around} (r:D6 (k + 1) A) (env:Env):D6 k (A.deeper env):=
 ⟨r.hd,by have:=r.dp; show A.depth + 1 + 3 * k + 5 < _; lia,by have:=r.un; show A.units + 3 + 16 * k + 200 < _; lia,r.gd⟩
theorem D6.depth {k:Nat} {A:Around} (r:D6 k A):A.depth < recursionLimit:=by have:=r.dp; lia
theorem D6.units {k:Nat} {A:Around} (r:D6 k A):A.units + 64 < cLine:=by have:=r.un; lia
def tNil:TA:=fun _ H Q=>Q [] H
def tCons (ta:TE) (tr:TA):TA:=fun σ H Q=>ta σ H fun x H1=>tr σ H1 fun xs H2=>Q (x :: xs) H2
section
variable {X:Cx} {e:Expr} {es:List Expr} {te:TE} {t:TA} {pos:Pos}
theorem Ad:PA X [] tNil:=fun _ _ _ _ H Q I h=>Calls.spliced_nil ⟨[],H,I,.nil,h⟩
theorem Aa (ha:PE X e te) (hr:PA X es t) (hs:starEach (e :: es) X.env=(false,eval e X.env) :: starEach es X.env:=by rfl):PA X (e :: es) (tCons te t):=by
 intro pos pins s σ H Q I h;rw [hs];show wpAny _ _ (spliced ((false,eval e X.env) :: backTo pos (starEach es X.env))) _ _ s
 refine Calls.spliced_cons (Bx (ha (pins:=pins) s σ H _ I h) fun u s1 ⟨x,H1,I1,r1,q1⟩=>?_);exact Bx (hr (pos:=pos) (pins:=pins) s1 σ H1 _ I1 q1) fun us s2 ⟨xs,H2,I2,r2,q2⟩=>⟨x :: xs,H2,I2,.cons r1 r2,q2⟩
def tTup (t:TA):TE:=fun σ H Q=>t σ H fun xs H1=>xs.length<=sizeLine/\∀ p,H1 p=none->Q (.ref p) (upd H1 p (.tup xs))
def tLst (t:TA):TE:=fun σ H Q=>t σ H fun xs H1=>xs.length<=sizeLine/\∀ p,H1 p=none->Q (.ref p) (upd H1 p (.lst xs))
theorem Bm {x1} (h:PA X es t):PE X (.Tuple es x1 pos) (tTup t):=by
 intro pins s σ H Q I hq;refine wpAny_Tuple_spliced (Bx (h (pos:=pos) (pins:=pins) s σ H _ I hq) fun us s1 ⟨xs,H1,I1,r,z,q⟩=>⟨by rw [<-r.length]; exact z,?_⟩);have hf:H1 s1.heap.objs.size=none:=I1.hok.fresh (XD _);refine ⟨.ref s1.heap.objs.size,upd H1 s1.heap.objs.size (.tup xs),I1.laid (t':=s1.toks) (fun b u e=>X9 _ e) (XD _) ?_,rfl,q _ hf⟩;exact ⟨z,us,r,⟨_,XJ _ rfl,rfl,_,rfl⟩,Ov.new rfl rfl⟩
theorem AN (h:PA X es t):PE X (.List es pos) (tLst t):=by
 intro pins s σ H Q I hq;refine wpAny_List_spliced (Bx (h (pos:=pos) (pins:=pins) s σ H _ I hq) fun us s1 ⟨xs,H1,I1,r,z,q⟩=>⟨by rw [<-r.length]; exact z,?_⟩);have hf:H1 s1.heap.objs.size=none:=I1.hok.fresh (XD _);refine ⟨.ref s1.heap.objs.size,upd H1 s1.heap.objs.size (.lst xs),I1.laid (t':=s1.toks) (fun b u e=>X9 _ e) (XD _) ?_,rfl,q _ hf⟩;exact ⟨z,us,0,r,XJ _ rfl⟩
end
abbrev Sp:=List V->Hp->VK->XK->Prop
abbrev Q6:=List Env->Hp->Shared->XK->Value->Shared->Prop
structure RR (P:Program) (w:World) (K:XB) (mg:Str->Option Value) (base:Heap) (A:Around) (outer:List Env) (s:Shared) (H:Hp):Prop where
 frames:A.frames=some outer
 mod:Mod K mg base
 bs:∀ b o,base.get? b=some o->s.heap.get? b=some o/\H b=none
 bsz:base.objs.size<=s.heap.objs.size
 funs:s.heap.FunFrames base outer
 frf:∀ b ∈ Qo outer,H b=none
 hok:F5 P w H s.heap
 bare:AllBare s.gens
def CE (outer:List Env) (P:Program) (w:World) (H:Hp) (s:Shared) (Q:VK) (u:Value) (s':Shared):Prop:=
 ∃ v H',s'.os=s.os/\AllBare s'.gens/\Un (Qo outer) [] H H' s.heap s'.heap/\F5 P w H' s'.heap/\A3 v u/\Q v H'
def CR (CX:Q6) (outer:List Env) (P:Program) (w:World) (H:Hp) (s:Shared) (Q:VK) (E:XK) (r:Result) (s':Shared):Prop:=
 match r with
 | .ok (.ret u)=>CE outer P w H s Q u s'
 | .ok _=>False
 | .error e=>CX outer H s E e s'
structure AJ (P:Program) (w:World) (K:XB) (mg:Str->Option Value) (base:Heap) (CX:Q6) (k:Nat) (f:Addr) (fd:FuncData) (ps:List Str) (sp:Sp):Prop where
 len:∀ vs H Q E,sp vs H Q E->vs.length=ps.length
 run:∀ (A:Around) (outer:List Env) (s:Shared) (H:Hp) (args:Args) (us:List Value) (vs:List V) (Q:VK) (E:XK),D6 k A->RR P w K mg base A outer s H->BindsTo s fd args (ps.zip us)->Ax vs us->sp vs H Q E ->
  codeAny (model P w) A (.call (.ref f) args) (CR CX outer P w H s Q E) s
section
variable {X:Cx} {pins:List (Addr × Obj)} {σ:St} {H:Hp} {s s':Shared}
theorem An.env0 (I:An X pins σ H s):RR X.prog X.w X.K X.mg X.base X.A X.stack s H:=
 ⟨I.ok.frames,I.ok.mod,I.bs,Yo I.ok.bsz I.sz,I.stack,I.stkFree,I.hok,I.bare⟩
theorem An.after {Q:VK} {u:Value} (I:An X pins σ H s) (h:CE X.stack X.prog X.w H s Q u s'):EP X pins σ Q u s':=by
 obtain ⟨v,H',os,bare,un,hok,r,q⟩:=h;obtain ⟨hh,g,d,t,UN⟩:=s';obtain rfl:UN=s.os:=os;exact ⟨v,H',I.call (h':=hh) (g':=g) (d':=d) (t':=t) (ch:=[]) un hok bare (fun b z=>absurd z (by simp)),r,q⟩
end
def tCall (sp:Sp) (dvs:List V) (E:XK) (t:TA):TE:=fun σ H Q=>t σ H fun vs H1=>sp (vs ++ dvs) H1 Q E
def GU (K:XB) (fd:FuncData) (ps:List Str) (ds:List Value):Prop:=
 ∀ (s:Shared) (us:List Value),K.In s.heap->(us ++ ds).length=ps.length->BindsTo s fd ⟨us,[]⟩ (ps.zip (us ++ ds))
theorem GU.all {K:XB} {fd:FuncData} {ps:List Str} (h:∀ us:List Value,us.length=ps.length->bindArgs fd ⟨us,[]⟩=pure (ps.zip us)):GU K fd ps []:=fun s us _ hl=>by
 rw [Zx] at hl ⊢;exact .of_eq (h us hl)
def Mh (CX:Q6) (X:Cx) (E:XK):Prop:=∀ (pins:List (Addr × Obj)) (σ:St) (H:Hp) (s:Shared) (e:Value) (s':Shared),An X pins σ H s->CX X.stack H s E e s'->X.xe e s'
section
variable {X:Cx} {CX:Q6} {k:Nat} {f C:Addr} {fd:FuncData} {ps:List Str} {sp:Sp} {dvs:List V} {ds:List Value} {E:XK} {x m:Str} {p pos apos:Pos} {e o:Expr} {es:List Expr} {ta:TE} {t:TA}
theorem SK {pins:List (Addr × Obj)} {σ:St} {H:Hp} {s:Shared} {Q:VK} {us:List Value} {vs:List V} (F:AJ X.prog X.w X.K X.mg X.base CX k f fd ps sp) (hr:D6 k X.A) (hb:GU X.K fd ps ds) (hd:Ax dvs ds) (hx:Mh CX X E)
  (I:An X pins σ H s) (r:Ax vs us) (h:sp (vs ++ dvs) H Q E):wpAny (model X.prog X.w) X.A (call (.ref f) us) (EP X pins σ Q) X.xe s:=by
 have r2:Ax (vs ++ dvs) (us ++ ds):=r.append hd;have hl:(us ++ ds).length=ps.length:=by rw [<-r2.length]; exact F.len _ _ _ _ h
 refine wpAny_call (codeAny_mono (F.run X.A X.stack s H ⟨us,[]⟩ (us ++ ds) (vs ++ dvs) Q E hr I.env0 (hb s us I.kIn hl) r2 h) fun r s' hq=>?_);cases r with
 | error e=>exact hx pins σ H s e s' I hq
 | ok fl=>
  cases fl with
  | ret u=>exact I.after hq
  | next=>exact False.elim hq
  | brk=>exact False.elim hq
  | cont=>exact False.elim hq
theorem Aj (F:AJ X.prog X.w X.K X.mg X.base CX k f fd ps sp) (hr:D6 k X.A) (hg:Gl X x) (hm:X.mg x=some (.ref f)) (hk:Zy X.K (.ref f)=true) (hb:GU X.K fd ps ds) (hd:Ax dvs ds) (hx:Mh CX X E)
  (ha:PA X (e :: es) t) (hdb:(x == ("__debug__":Str))=false:=by decide) (he:starEach (e :: es) X.env=(false,eval e X.env) :: starEach es X.env:=by rfl) (hpl:(backTo pos (starEach es X.env)).any (·.1)=false:=by rfl) :
  PE X (.Call (.Name x p) (e :: es) [] pos) (tCall sp dvs E t):=by
 intro pins s σ H Q I h;refine wpAny_Call_Name_kw (MK I hg hm ?_ hdb);refine PySem.W.callWith_K (h₀:=X.base) I.ok.mod.kin hk (Bx (ha (pos:=pos) (pins:=pins) s σ H _ I h) fun us s1 ⟨vs,H1,I1,r,q⟩=>⟨I1.kIn,?_⟩) he hpl;exact SK F hr hb hd hx I1 r q
end
section
variable {X:Cx} {CX:Q6} {k:Nat} {f C:Addr} {fd:FuncData} {ps ks:List Str} {sp:Sp} {E:XK} {x m:Str} {p pos apos kpos:Pos} {e o:Expr} {es:List Expr} {kws:List Keyword} {te ta:TE} {t tk:TA} {nm:Option Str}
variable {g:List Value->List Value->List Value} {gV:List V->List V->List V}
end
structure AL (N P:List Str) (sc:Scope):Prop where
 kind:sc.kind=.function
 co:sc.isCoroutine=false
 gen:sc.isGenerator=false
 nd:N.Nodup
 pre:N.take P.length=P
 par:∀ x ∈ P,sc.names.lookup x=some .local\/sc.names.lookup x=some .cell
 nofree:∀ y ∈ sc.names,y.2 ≠ .free
theorem JN {kindOf:Str->Option NameKind} {x:Str}:∀ {binds:List (Str × Value)} {m:Str->Option Value},(∀ v,(x,v) ∉ binds)->bindL kindOf binds m x=m x
 | [],_,_=>rfl
 | (n,v) :: r,m,h=>by
  unfold bindL;rw [JN fun w hw=>h w (Yg _ hw)];split
  ·have:x ≠ n:=by rintro rfl; exact h v Yh
   simp [this]
  ·rfl
theorem JP {kindOf:Str->Option NameKind} {x:Str}:∀ {binds:List (Str × Value)} {m:Str->Option Value},(∀ v,(x,v) ∉ binds)->bindC kindOf binds m x=m x
 | [],_,_=>rfl
 | (n,v) :: r,m,h=>by
  unfold bindC;rw [JP fun w hw=>h w (Yg _ hw)];split
  ·rfl
  ·have:x ≠ n:=by rintro rfl; exact h v Yh
   simp [this]
theorem JO {kindOf:Str->Option NameKind} {x:Str} {v:Value}:∀ {P:List Str} {vs:List Value} {i:Nat} {m:Str->Option Value},P.Nodup->P[i]? = some x->vs[i]? = some v->kindOf x=some .local ->
  bindL kindOf (P.zip vs) m x=some v
 | [],_,_,_,_,h,_,_=>by simp at h
 | _ :: _,[],_,_,_,_,h,_=>by simp at h
 | p :: P,w :: vs,0,m,nd,h1,h2,hk=>by
  simp at h1 h2; subst h1; subst h2;show bindL kindOf ((p,w) :: P.zip vs) m p=_
  unfold bindL;rw [JN fun v hv=>(Y5.mp nd).1 (ZI hv).1,if_pos hk];simp
 | p :: P,w :: vs,i + 1,m,nd,h1,h2,hk=>by
  show bindL kindOf ((p,w) :: P.zip vs) m x=_
  unfold bindL;exact JO (i:=i) (Y5.mp nd).2 (by simpa using h1) (by simpa using h2) hk
theorem JQ {kindOf:Str->Option NameKind} {x:Str} {v:Value}:∀ {P:List Str} {vs:List Value} {i:Nat} {m:Str->Option Value},P.Nodup->P[i]? = some x->vs[i]? = some v->kindOf x ≠ some .local ->
  bindC kindOf (P.zip vs) m x=some v
 | [],_,_,_,_,h,_,_=>by simp at h
 | _ :: _,[],_,_,_,_,h,_=>by simp at h
 | p :: P,w :: vs,0,m,nd,h1,h2,hk=>by
  simp at h1 h2; subst h1; subst h2;show bindC kindOf ((p,w) :: P.zip vs) m p=_
  unfold bindC;rw [JP fun v hv=>(Y5.mp nd).1 (ZI hv).1,if_neg hk];simp
 | p :: P,w :: vs,i + 1,m,nd,h1,h2,hk=>by
  show bindC kindOf ((p,w) :: P.zip vs) m x=_
  unfold bindC;exact JQ (i:=i) (Y5.mp nd).2 (by simpa using h1) (by simpa using h2) hk
def start (N:List Str) (vs:List V):St:=vs.map some ++ aY (N.length - vs.length) none
def Hh (CX:Q6) (P:Program) (w:World) (K:XB) (mg:Str->Option Value) (base:Heap) (N:List Str) (qual:Str) (scope:Scope) (f:Addr) (cd:Value) (A:Around) (outer:List Env) (s:Shared) (H:Hp) (E:XK):Cx where
 prog:=P
 w:=w
 K:=K
 mg:=mg
 base:=base
 A:=A.deeper (envOfC qual scope s.heap.objs.size f cd)
 N:=N
 s₀:=s
 H₀:=H
 env:=envOfC qual scope s.heap.objs.size f cd
 outer:=outer
 stack:=envOfC qual scope s.heap.objs.size f cd :: outer
 ex:=[]
 calm:=true
 fn:=fun _=>true
 pn:=[]
 xe:=fun e s'=>wpAny (model P w) (A.deeper (envOfC qual scope s.heap.objs.size f cd)) (leaving (envOfC qual scope s.heap.objs.size f cd) e) (fun _ SI=>CX outer H s E e SI) (fun e' SI=>CX outer H s E e' SI) s'
theorem Ll {sc:Scope} {n:Nat} {x:Str} (h:sc.names.lookup x=some .cell):∃ c,(cellsFrom n sc.names []).lookup x=some c:=by
 have q:=ZL sc.names n [] (.inl h);exact Zp.mp q
theorem NY {CX:Q6} {P:Program} {w:World} {K:XB} {mg:Str->Option Value} {base:Heap} {N ps:List Str} {qual:Str} {scope:Scope} {f:Addr} {cd:Value} {A:Around} {outer:List Env} {s s1:Shared} {H:Hp} {E:XK} {us:List Value} {vs:List V}
  (S:AL N ps scope) (hd:A.handled=none) (e0:RR P w K mg base A outer s H) (hl:vs.length=ps.length) (r:Ax vs us)
  (x:InCallC s s.heap.objs.size (bindL (envOfC qual scope s.heap.objs.size f cd).kindOf (ps.zip us) fun _=>none) (cellsFrom (s.heap.objs.size + 1) scope.names []) (bindC (envOfC qual scope s.heap.objs.size f cd).kindOf (ps.zip us) fun _=>none) s1) :
  An (Hh CX P w K mg base N qual scope f cd A outer s H E) [] (start N vs) H s1:=by
 have hpl:ps.length<=N.length:=by have:=congrArg Zq S.pre; rw [Yz] at this; lia
 obtain ⟨h1,tk,rfl,hk⟩:=x.done;have noA:∀ b:Addr,b ∉ (Hh CX P w K mg base N qual scope f cd A outer s H E).ex:=fun b z=>absurd (show b ∈ ([]:List Addr) from z) (by simp)
 refine ⟨⟨e0.mod,S.kind,rfl,rfl,XD _,fun y z c h1 h2=>?_,fun y hy=>?_,fun y c _ h=>?_,fun _=>hd,Around.frames_deeper e0.frames,.inr ⟨rfl,rfl⟩,fun b z=>absurd z (noA b),e0.bs,e0.bsz,fun b _ _=>noA b,fun b z=>absurd z (noA b),e0.funs,e0.frf⟩,
  rfl,e0.bare,Un.kept hk,⟨_,x.toInCall.ns,fun i y v h1 h2 h3=>?_⟩,fun y c h=>⟨_,x.cell y c h⟩,e0.hok.fresh (XD _),fun y c h=>?_,fun p hp=>absurd (show p ∈ ([]:List (Addr × Obj)) from hp) (by simp),e0.hok.kept hk,?_⟩
 ·exact name_of_addr x.apart (PySem.mem_of_lookup h1) (PySem.mem_of_lookup h2)
 ·have hy:scope.names.lookup y=some .cell\/scope.names.lookup y=some .free:=hy;rcases hy with hy | hy
  ·exact Ll hy
  ·exact absurd rfl (S.nofree _ (PySem.mem_of_lookup hy))
 ·exact Zv (x.above y c (PySem.mem_of_lookup h))
 ·have hi:i < vs.length:=by
   unfold start at h2;by_cases hi:i < vs.length
   ·exact hi
   ·rw [YD (by simpa using hi)] at h2;rw [List.getElem?_replicate] at h2;split at h2 <;> cases h2
  have ha:vs[i]? = some v:=by
   unfold start at h2;rw [Y8 (by simpa using hi),XU] at h2;cases e:vs[i]? with
   | none=>rw [e] at h2; cases h2
   | some a=>rw [e] at h2; cases h2; rfl
  obtain ⟨u,hu,rv⟩:=r.get ha;have hp:ps[i]? = some y:=by
   rw [<-S.pre,List.getElem?_take_of_lt (by lia)]; exact h1
  have ndP:ps.Nodup:=by rw [<-S.pre]; exact S.nd.sublist (List.take_sublist _ _)
  refine ⟨u,rv,?_⟩;rcases S.par y (XG hp) with k | k
  ·exact .inl ⟨k,JO ndP hp hu k⟩
  ·obtain ⟨c,e⟩:=Ll (n:=s.heap.objs.size + 1) k;refine .inr ⟨.inl k,c,e,?_⟩;have q:=x.cell y c e;rw [JQ ndP hp hu (by show scope.names.lookup y ≠ _; rw [k]; decide)] at q;exact q
 ·exact e0.hok.fresh (Zv (x.above y c (PySem.mem_of_lookup h)))
 ·unfold start;show _=N.length
  rw [XI,X8,List.length_replicate];lia
theorem fn_of {CX:Q6} {P:Program} {w:World} {K:XB} {mg:Str->Option Value} {base:Heap} {k:Nat} {f:Addr} {name qual:Str} {params:Arguments} {body:List Stmt} {scope:Scope} {dV kV doc pm cdv ct oc:Value} {an od:Option Addr}
  {osl:Array (Option Value)} {N ps:List Str} {sp:Sp} (lk:K.lookup f=some ⟨oc,od,.func (YL name qual params body scope dV kV doc pm an cdv ct),osl⟩) (hcd:Zz K cdv qual=true) (S:AL N ps scope)
  (len:∀ vs H Q E,sp vs H Q E->vs.length=ps.length)
  (hbody:∀ (A:Around) (outer:List Env) (s:Shared) (H:Hp) (vs:List V) (Q:VK) (E:XK),D6 k (A.deeper (envOfC qual scope s.heap.objs.size f cdv))->sp vs H Q E ->
   ∃ t,Kw (Hh CX P w K mg base N qual scope f cdv A outer s H E) body t/\t { nx:=fun _ H'=>Q .non H',rt:=Q } (start N vs) H) :
  AJ P w K mg base CX (k + 1) f (YL name qual params body scope dV kV doc pm an cdv ct) ps sp:=by
 refine ⟨len,fun A outer s H args us vs Q E hr e0 hb r hsp=>?_⟩;have hl:=len _ _ _ _ hsp;have KX:K.In s.heap:=e0.mod.kin.keeps fun b o e=>(e0.bs b o e).1
 have lim:s.heap.NoLimit:=e0.mod.nolimit.keeps fun b o e=>(e0.bs b o e).1
 have hkind:∀ y ∈ ps.zip us,scope.names.lookup y.1=some .local\/(scope.names.lookup y.1=some .cell/\((cellsFrom (s.heap.objs.size + 1) scope.names []).lookup y.1).isSome=true):=fun ⟨n,v⟩ hy=>by
  rcases S.par n (ZI hy).1 with q | q
  ·exact .inl q
  ·exact .inr ⟨q,ZL _ _ _ (.inl q)⟩
 refine codeAny_call_function hr.depth (KX _ _ lk) rfl S.co S.gen rfl (PySem.W.codeRec_of KX hcd) (hb _ _ _ _ ?_);refine wpAny_newFunctionEnv_cells S.kind hkind fun env he s1 x=>?_
 subst he;refine ⟨lim.keeps x.toInCall.keep,codeAny_func ?_⟩;obtain ⟨t,ht,hq⟩:=hbody A outer s H vs Q E (hr.deeper _) hsp;have I:An (Hh CX P w K mg base N qual scope f cdv A outer s H E) [] (start N vs) H s1:=NY S hr.hd e0 hl r x;refine wpAny_mono (ht s1 (start N vs) H _ I hq) (fun fl s' hs=>?_) fun e s' hs=>hs
 have fin:∀ {Ar:St} {H':Hp} {v:V} {u:Value},An (Hh CX P w K mg base N qual scope f cdv A outer s H E) [] Ar H' s'->A3 v u->Q v H'->CE outer P w H s Q u s':=
  fun {Ar H' v u} J rv q=>⟨v,H',J.os,J.bare,J.base,J.hok,rv,q⟩
 cases fl with
 | ret u=>
  obtain ⟨v,Ar,H',J,rv,q⟩:=hs;exact fin J rv q
 | next=>
  obtain ⟨Ar,H',J,q⟩:=hs;exact fin (v:=V.non) (u:=Value.none) J rfl q
 | brk=>
  obtain ⟨_,_,_,q⟩:=hs;exact False.elim q
 | cont=>
  obtain ⟨_,_,_,q⟩:=hs;exact False.elim q
section
variable {X:Cx} {x:Str} {p pos:Pos} {e:Expr} {es:List Expr} {t:TA} {id T:String} {r:List V->Hp->VK->Prop}
def tCB (r:List V->Hp->VK->Prop) (t:TA):TE:=fun σ H Q=>t σ H fun vs H1=>r vs H1 Q
theorem Ai (hc:Bq X (.builtin id) r) (hg:Gl X x) (hm:X.mg x=none) (hv:bootBuiltins x=some (.builtin id)) (ha:PA X (e :: es) t) (hn:x ≠ "__name__":=by decide) (hdb:(x == ("__debug__":Str))=false:=by decide)
  (he:starEach (e :: es) X.env=(false,eval e X.env) :: starEach es X.env:=by rfl) (hpl:(backTo pos (starEach es X.env)).any (·.1)=false:=by rfl):PE X (.Call (.Name x p) (e :: es) [] pos) (tCB r t):=by
 intro pins s σ H Q I h;refine wpAny_Call_Name_kw (HY I hg hm hv ?_ hn hdb);exact PyProof.Rows.callWith_builtin1 (Bx (ha (pos:=pos) (pins:=pins) s σ H _ I h) fun us s1 ⟨vs,H1,I1,r1,q1⟩=>hc (pins:=pins) s1 σ H1 vs us Q I1 r1 q1) he hpl
theorem AF (hc:Bq X (.type T) r) (hg:Gl X x) (hm:X.mg x=none) (hv:bootBuiltins x=some (.type T)) (ha:PA X (e :: es) t) (hn:x ≠ "__name__":=by decide) (hdb:(x == ("__debug__":Str))=false:=by decide)
  (he:starEach (e :: es) X.env=(false,eval e X.env) :: starEach es X.env:=by rfl) (hpl:(backTo pos (starEach es X.env)).any (·.1)=false:=by rfl):PE X (.Call (.Name x p) (e :: es) [] pos) (tCB r t):=by
 intro pins s σ H Q I h;refine wpAny_Call_Name_kw (HY I hg hm hv ?_ hn hdb);exact PyProof.Rows.callWith_type1 (Bx (ha (pos:=pos) (pins:=pins) s σ H _ I h) fun us s1 ⟨vs,H1,I1,r1,q1⟩=>hc (pins:=pins) s1 σ H1 vs us Q I1 r1 q1) he hpl
end
end L2
namespace HT
open PySem PyProof.Rows
section
open PySem.SeqAt
open PySem.AutoSeq1 (wpAny_loadPart')
open PySem.MeetsSeq PySem.MeetsSeq2 PySem.MeetsSeq3
end
section
variable {prog:Program} {w:World} {A:Around} {E:Value->Shared->Prop} {s:Shared}
theorem cat_tup {t b:Addr} {vs ws:List Value} {Q:Value->Shared->Prop} (ht:IsTup s.heap t vs.toArray) (hb:IsTup s.heap b ws.toArray) (hv:vs ≠ [])
  (h1:ws=[]->Q (.ref t) s) (h2:ws ≠ []->Q (.ref s.heap.objs.size) { s with heap:=s.heap.push { cls:=.type "tuple",data:=.seq (vs ++ ws).toArray } })
  (hsz:vs.length + ws.length<=sizeLine):wpAny (model prog w) A (binaryOp .Add (.ref t) (.ref b)) Q E s:=by
 obtain ⟨⟨cls,dd,data,sl⟩,ho,hc,n,hd⟩:=id ht;obtain ⟨⟨TN,Ku,data2,IS⟩,NZ,Od,n2,hd2⟩:=id hb;simp only at hc hd Od hd2;subst hc hd Od hd2;have e:vs.toArray ++ ws.toArray=(vs ++ ws).toArray:=by simp
 by_cases hw:ws=[]
 ·exact concat_meets ⟨_,ho,rfl⟩ ⟨_,NZ,rfl⟩ noFill_tuple_add seq_tuple_add PySem.F.slot_tuple_add PySem.F.entry_tuple_add (PySem.F.args_tuple_add_2 _ _)
   (tuple_addW1 t b vs.toArray ws.toArray n n2 dd Ku sl IS (by simpa using hv) (by simp [hw])) ⟨ho,NZ,h1 hw⟩
 ·refine concat_meets ⟨_,ho,rfl⟩ ⟨_,NZ,rfl⟩ noFill_tuple_add seq_tuple_add PySem.F.slot_tuple_add PySem.F.entry_tuple_add (PySem.F.args_tuple_add_2 _ _)
   (tuple_addW2 t b vs.toArray ws.toArray n n2 dd Ku sl IS (by simpa using hv) (by simpa using hw) (by rw [Yf,Yf]; exact hsz)) ⟨ho,NZ,?_⟩
  rw [e];exact h2 hw
def sIx (n d:Nat):Option Int->Nat
 | none=>d
 | some v=>if v < 0 then (v + (n:Int)).toNat else min v.toNat n
end
end HT
namespace L2
open PySem PySem.Spec PyProof.Rows
abbrev TO:=St->Hp->(Option Int->Hp->Prop)->Prop
def PO (X:Cx) (e:Option Expr) (t:TO):Prop:=
 ∀ ⦃pins:List (Addr × Obj)⦄ (s:Shared) (σ:St) (H:Hp) (Q:Option Int->Hp->Prop),An X pins σ H s->t σ H Q ->
  wpAny (model X.prog X.w) X.A (evalPart e X.env) (fun u s'=>∃ o H',An X pins σ H' s'/\IsPart u o/\Q o H') X.xe s
def QR:TO:=fun _ H Q=>Q none H
def tPart (t:TE):TO:=fun σ H Q=>t σ H fun x H1=>∃ i,x=.int i/\Q (some i) H1
section
variable {X:Cx} {e:Expr} {te:TE} {lo hi:Option Expr} {tl th:TO} {pos p2:Pos}
theorem Du:PO X none QR:=by
 intro pins s σ H Q I h;rw [evalPart_none];exact wpAny_pure ⟨none,H,I,.none,h⟩
theorem Dt (h:PE X e te):PO X (some e) (tPart te):=by
 intro pins s σ H Q I hw;rw [evalPart_some];refine Bx (h (pins:=pins) s σ H _ I hw) fun u s1 ⟨x,H1,I1,r1,q1⟩=>?_
 obtain ⟨i,rfl,q⟩:=q1;obtain ⟨t,rfl⟩:=r1;exact ⟨some i,H1,I1,.int i t,q⟩
def SlR (X:Cx) (r:V->Option Int->Option Int->Hp->VK->Prop):Prop:=
 ∀ ⦃pins:List (Addr × Obj)⦄ (s:Shared) (σ:St) (H:Hp) (x:V) (v vl vu:Value) (lo hi:Option Int) (sl:Addr) (Q:VK),An X pins σ H s->A3 x v->s.heap.IsSliceOf sl vl vu .none->IsPart vl lo->IsPart vu hi->r x lo hi H Q ->
  ∃ T id,typeLookup (.type T) "__getitem__"=pure (some (.builtin id))/\s.TypeIs v T/\wpAny (model X.prog X.w) X.A (getItem v (.ref sl)) (EP X pins σ Q) X.xe s
def tSl (r:V->Option Int->Option Int->Hp->VK->Prop) (te:TE) (tl th:TO):TE:=fun σ H Q=>te σ H fun x H1=>tl σ H1 fun l H2=>th σ H2 fun u H3=>r x l u H3 Q
theorem DB {r:V->Option Int->Option Int->Hp->VK->Prop} (hr:SlR X r) (he:PE X e te) (hl:PO X lo tl) (hu:PO X hi th):PE X (.Subscript e (.Slice lo hi none p2) pos) (tSl r te tl th):=by
 intro pins s σ H Q I h;refine Subscript_ (Bx (he (pins:=pins) s σ H _ I h) fun v s1 ⟨x,H1,I1,r1,q1⟩=>?_);refine wpAny_Slice (Bx (hl (pins:=pins) s1 σ H1 _ I1 q1) fun vl s2 ⟨l,H2,I2,pl,q2⟩=>Bx (hu (pins:=pins) s2 σ H2 _ I2 q2) fun vu s3 ⟨u,H3,I3,pu,q3⟩=>?_);rw [evalPart_none];refine wpAny_pure ?_;have I4:An X pins σ H3 { s3 with heap:=s3.heap.push { cls:=.type "slice",data:=.fields #[vl,vu,.none] } }:=I3.kept (t':=s3.toks) fun b ob q=>X9 _ q
 obtain ⟨T,id,hT,ht,hg⟩:=hr { s3 with heap:=s3.heap.push { cls:=.type "slice",data:=.fields #[vl,vu,.none] } } σ H3 x v vl vu l u s3.heap.objs.size Q I4 r1 (Heap.IsSliceOf.new ..) pl pu q3;show wpAny (model X.prog X.w) X.A (subscriptTail e (.Slice lo hi none p2) v (.ref s3.heap.objs.size)) (EP X pins σ Q) X.xe { s3 with heap:=s3.heap.push { cls:=.type "slice",data:=.fields #[vl,vu,.none] } }
 exact tail_any (ops:=[.ref s3.heap.objs.size,v]) ht hT hg (by with_unfolding_all rfl)
def DK (xs:List V) (lo hi:Option Int):List V:=(xs.drop (HT.sIx xs.length 0 lo)).take (HT.sIx xs.length xs.length hi - HT.sIx xs.length 0 lo)
theorem Lj (xs:List V) (lo hi:Option Int):(DK xs lo hi).length<=xs.length:=by
 unfold DK;rw [Yz,aP];lia
def RZ (K:XB):R2:=fun x y H Q=>∃ a b xs ys,x=.ref a/\y=.ref b/\AM K H a xs/\AM K H b ys/\xs ≠ []/\xs.length + ys.length<=sizeLine /\
 (ys=[]->Q (.ref a) H)/\(ys ≠ []->∀ p,H p=none->Q (.ref p) (upd H p (.tup (xs ++ ys))))
theorem Ax.nil_iff {xs:List V} {us:List Value} (r:Ax xs us):us=[] ↔ xs=[]:=by
 cases r with
 | nil=>simp
 | cons _ _=>simp
theorem Rj:EJ X (binaryOp .Add) (RZ X.K):=by
 intro pins s σ H x y v u Q I rx ry h;obtain ⟨a,b,xs,ys,rfl,rfl,ha,hb,hx,hz,q1,q2⟩:=h;cases rx
 cases ry
 obtain ⟨Ao,r1,p1,_⟩:=I.tuple ha;obtain ⟨R3,r2,p2,_⟩:=I.tuple hb;refine HT.cat_tup p1 p2 (fun z=>hx (r1.nil_iff.mp z)) (fun z=>⟨.ref a,H,I,rfl,q1 (r2.nil_iff.mp z)⟩) (fun z=>?_) (by rw [<-r1.length,<-r2.length]; exact hz);refine ⟨.ref s.heap.objs.size,_,I.laid (t':=s.toks) (o:=.tup (xs ++ ys)) (fun b ob q=>X9 _ q) (XD _) ?_,rfl,q2 (fun w=>z (r2.nil_iff.mpr w)) _ (I.hok.fresh (XD _))⟩;exact ⟨by rw [XI]; exact hz,_,r1.append r2,IsTup.new _ _,Ov.new rfl rfl⟩
end
def R1 (n:Nat) (i:Int):Option Nat:=if 0<=i then (if i < n then some i.toNat else none) else if -(n:Int)<=i then some (i + n).toNat else none
def Jf {α:Type} (xs:List α) (i:Int):Option α:=(R1 xs.length i).bind fun j=>xs[j]?
theorem Ko {n:Nat} {i:Int} {j:Nat} (h:R1 n i=some j):seqIndex? i n=some j/\j < n/\-(n:Int)<=i/\i < n:=by
 unfold R1 at h;by_cases h0:0<=i
 ·rw [if_pos h0] at h;by_cases h1:i < n
  ·rw [if_pos h1] at h;have e:i.toNat=j:=Yi.inj h;exact ⟨by rw [seqIndex_of h0 h1,e],by lia,by lia,h1⟩
  ·rw [if_neg h1] at h; cases h
 ·rw [if_neg h0] at h;by_cases h1:-(n:Int)<=i
  ·rw [if_pos h1] at h;have e:(i + n).toNat=j:=Yi.inj h;exact ⟨by rw [seqIndex_neg (by lia) h1,e],by lia,h1,by lia⟩
  ·rw [if_neg h1] at h; cases h
theorem Hu {α:Type} {xs:List α} {i:Int} {v:α} (h:Jf xs i=some v):∃ j,seqIndex? i xs.length=some j/\xs[j]? = some v/\j < xs.length/\-(xs.length:Int)<=i/\i < xs.length:=by
 unfold Jf at h;cases e:R1 xs.length i with
 | none=>rw [e] at h; cases h
 | some j=>
  rw [e] at h;obtain ⟨h1,h2,h3,h4⟩:=Ko e;exact ⟨j,h1,h,h2,h3,h4⟩
theorem CY {α:Type} {xs:List α} {j:Nat} {v:α} (h:xs[j]? = some v):Jf xs (j:Int)=some v:=by
 have hj:j < xs.length:=(XX.mp h).1;have e:R1 xs.length (j:Int)=some j:=by
  unfold R1;rw [if_pos (by lia),if_pos (by lia)]; simp
 unfold Jf; rw [e]; exact h
def RO (b:Expr):Prop:=∀ o i,subscripted b false o i=operate [o,i] (getItem o i)
def U6 (X:Cx) (r:R2):Prop:=
 ∀ (value slice:Expr) (pins:List (Addr × Obj)) (s:Shared) (σ:St) (H:Hp) (x y:V) (v u:Value) (Q:VK),An X pins σ H s->A3 x v->A3 y u->r x y H Q ->
  subscripted slice false v u=operate [v,u] (getItem v u)->wpAny (model X.prog X.w) X.A (subscriptTail value slice v u) (EP X pins σ Q) X.xe s
def MtR (X:Cx) (id:String) (r:V->List V->Hp->VK->Prop):Prop:=
 ∀ ⦃pins:List (Addr × Obj)⦄ (s:Shared) (σ:St) (H:Hp) (x:V) (xs:List V) (v:Value) (us:List Value) (Q:VK),An X pins σ H s->A3 x v->Ax xs us->r x xs H Q ->
  wpAny (model X.prog X.w) X.A (call (.builtin id) (v :: us)) (EP X pins σ Q) X.xe s
section
variable {X:Cx} {a b:Expr} {ta tb:TE} {pos:Pos}
theorem A4 {r:R2} (hr:U6 X r) (ha:PE X a ta) (hb:PE X b tb) (hs:RO b):PE X (.Subscript a b pos) (tOp r ta tb):=by
 intro pins s σ H Q I h;exact Subscript_ (TQ ha hb I h fun v u s2 x y H2 I2 rx ry q=>hr a b (pins:=pins) s2 σ H2 x y v u Q I2 rx ry q (hs _ _))
def rIxL (K:XB):R2:=fun x y H Q=>∃ p xs i v,x=.ref p/\y=.int i/\AA K H p xs/\Jf xs i=some v/\Q v H
def rIxT (K:XB):R2:=fun x y H Q=>∃ p xs i v,x=.ref p/\y=.int i/\AM K H p xs/\Jf xs i=some v/\Q v H
def rIxS:R2:=fun x y H Q=>∃ z i c,x=.str z/\y=.int i/\z.length<=sizeLine/\Jf z.cps.toList i=some c/\Q (.str ⟨#[c]⟩) H
theorem R0:U6 X (rIxL X.K):=by
 intro value slice pins s σ H x y v u Q I rx ry h hs;obtain ⟨p,xs,i,z,rfl,rfl,hq,he,q⟩:=h;cases rx
 obtain ⟨t,rfl⟩:=ry;obtain ⟨Ao,r,pl,hz⟩:=I.list hq;obtain ⟨j,h1,h2,h3,h4,h5⟩:=Hu he;obtain ⟨w,ew,Nv⟩:=r.get h2;have hl:=r.length;have hn:=Ft;have fin:EP X pins σ Q w s:=⟨z,H,I,Nv,q⟩
 by_cases h0:0<=i
 ·have hj:i.toNat=j:=by
   rw [seqIndex_of h0 h5] at h1;exact Yi.inj h1
  exact item_listR pl.isList h0 (by lia) (by rw [hj]; simpa using ew) fin hs
 ·have hj:(i + (Ao.toArray.size:Int)).toNat=j:=by
   rw [seqIndex_neg (by lia) h4] at h1;rw [Yf,<-hl];exact Yi.inj h1
  exact subscriptTail_builtinR (x:=w) pl.isList.typeIs slot_list_getitem.lookup
   (wpAny_getItem_list_neg (Q:=fun r s'=>r=w/\EP X pins σ Q r s') pl.isList (by lia) (by rw [Yf] <;> lia) (by lia) (by rw [hj]; simpa using ew) ⟨rfl,fin⟩) hs
theorem Tv:U6 X (rIxT X.K):=by
 intro value slice pins s σ H x y v u Q I rx ry h hs;obtain ⟨p,xs,i,z,rfl,rfl,hq,he,q⟩:=h;cases rx
 obtain ⟨t,rfl⟩:=ry;obtain ⟨Ao,r,pl,hz⟩:=I.tuple hq;obtain ⟨j,h1,h2,h3,h4,h5⟩:=Hu he;obtain ⟨w,ew,Nv⟩:=r.get h2;have hl:=r.length;have hn:=Ft;have fin:EP X pins σ Q w s:=⟨z,H,I,Nv,q⟩
 exact subscriptTail_builtinR (x:=w) pl.typeIs slot_tuple_getitem.lookup
  (getItem_tuple (j:=j) (Q:=fun r s'=>r=w/\EP X pins σ Q r s') pl (by lia) (by lia) (by rw [Yf,<-hl]; exact h1) (by simpa using ew) ⟨rfl,fin⟩) hs
theorem Qg:U6 X rIxS:=by
 intro value slice pins s σ H x y v u Q I rx ry h hs;obtain ⟨z,i,c,rfl,rfl,hz,he,q⟩:=h;obtain ⟨t,rfl⟩:=rx;obtain ⟨t',rfl⟩:=ry;obtain ⟨j,h1,h2,h3,h4,h5⟩:=Hu he;have hl:z.cps.toList.length=z.length:=by simp [Str.length]
 rw [hl] at h1 h4 h5;have hn:=Ft;exact tail_any (typeIs_str s z t) slot_str_getitem.lookup (getItem_str (c:=c) (by
  have e1:decide (i < -(2 ^ 63:Int))=false:=decide_eq_false (by lia);have e2:decide (i >= 2 ^ 63)=false:=decide_eq_false (by lia);rw [e1,e2,bg]) (by rw [h1]; simpa using h2) ⟨.str ⟨#[c]⟩,H,I.tok _,⟨_,rfl⟩,q⟩) hs
theorem LK (Ao:List Value) (n j:Nat) (u:Value):Obj.mapSeq (·.setIfInBounds j u) { cls:=.type "list",data:=.seq Ao.toArray n } = { cls:=.type "list",data:=.seq (Ao.set j u).toArray n }:=by
 simp [Obj.mapSeq]
theorem An.lst {pins:List (Addr × Obj)} {σ:St} {H:Hp} {s:Shared} {p:Addr} {xs:List V} (I:An X pins σ H s) (h:H p=some (.lst xs)) :
  ∃ (Ao:List Value) (n:Nat),Ax xs Ao/\s.heap.get? p=some { cls:=.type "list",data:=.seq Ao.toArray n }/\xs.length<=sizeLine:=by
 obtain ⟨z,Ao,n,r,e⟩:=I.hok p _ h;exact ⟨Ao,n,r,e,z⟩
theorem An.lstUpd {pins:List (Addr × Obj)} {σ:St} {H:Hp} {s:Shared} {p:Addr} {xs ys:List V} {Ao its':List Value} {n n':Nat} {f:Obj->Obj} (I:An X pins σ H s) (h:H p=some (.lst xs))
  (ho:s.heap.get? p=some { cls:=.type "list",data:=.seq Ao.toArray n }) (hf:f { cls:=.type "list",data:=.seq Ao.toArray n } = { cls:=.type "list",data:=.seq its'.toArray n' }) (r:Ax ys its') (hz:ys.length<=sizeLine) (t:Nat) :
  An X pins σ (upd H p (.lst ys)) { s with heap:=s.heap.update p f,toks:=t }:=by
 have e:(s.heap.update p f).get? p=some { cls:=.type "list",data:=.seq its'.toArray n' }:=by
  rw [Y3 f ho (by rw [hf] <;> rfl),hf]
 refine I.write (x:=p) (e:=p) (by rw [h]; trivial) (.inl rfl) (fun b u hb q=>(Y0 _ _ (Ne.symm hb)).trans q) ⟨_,e⟩ ?_;exact ⟨hz,its',n',r,e⟩
def rSetL:V->V->V->Hp->(Hp->Prop)->Prop:=fun o i v H Q=>∃ p xs k j,o=.ref p/\i=.int k/\H p=some (.lst xs)/\R1 xs.length k=some j/\Q (upd H p (.lst (xs.set j v)))
theorem HC:PSet X rSetL:=by
 intro pins s σ H o i v ov iv u Q I ro ri rv h;obtain ⟨p,xs,k,j,rfl,rfl,hp,hj,q⟩:=h;cases ro
 obtain ⟨t,rfl⟩:=ri;obtain ⟨Ao,n,r,ho,hz⟩:=I.lst hp;obtain ⟨h1,h2,h3,h4⟩:=Ko hj;have hl:=r.length;have hn:=Ft;have I':An X pins σ (upd H p (.lst (xs.set j v))) { s with heap:=s.heap.update p (Obj.mapSeq (·.setIfInBounds j u)) }:=
  I.lstUpd hp ho (LK Ao n j u) (r.set rv j) (by rw [List.length_set]; exact hz) s.toks
 by_cases h0:0<=k
 ·have hk:k.toNat=j:=by
   rw [seqIndex_of h0 h4] at h1;exact Yi.inj h1
  exact PySem.W.ki_setAt ho h0 (by lia) (by rw [Yf,<-hl]; exact h4) (by rw [hk]; exact ⟨_,I',q⟩)
 ·have hk:(k + (Ao.toArray.size:Int)).toNat=j:=by
   rw [seqIndex_neg (by lia) h3] at h1;rw [Yf,<-hl];exact Yi.inj h1
  exact PySem.W.ki_setBack ho (by lia) (by rw [Yf,<-hl]; exact h3) (by lia) (by rw [hk]; exact ⟨_,I',q⟩)
theorem JW (lo hi:Option Int) (n:Nat):(sliceBounds lo hi none n).1=((HT.sIx n 0 lo:Nat):Int)/\(sliceBounds lo hi none n).2.1=((HT.sIx n n hi:Nat):Int)/\(sliceBounds lo hi none n).2.2=1:=by
 refine ⟨?_,?_,rfl⟩
 ·cases lo with
  | none=>simp [sliceBounds,HT.sIx]
  | some i=>
   simp only [sliceBounds,HT.sIx,aE,show (1:Int) > 0 by decide,if_true];by_cases h:i < 0
   ·simp only [h,if_true] <;> lia
   ·simp only [h,if_false] <;> lia
 ·cases hi with
  | none=>simp [sliceBounds,HT.sIx]
  | some i=>
   simp only [sliceBounds,HT.sIx,aE,show (1:Int) > 0 by decide,if_true];by_cases h:i < 0
   ·simp only [h,if_true] <;> lia
   ·simp only [h,if_false] <;> lia
theorem IQ (Ao:List Value) (lo hi:Option Int):slicePick Ao.toArray lo hi none=((Ao.drop (HT.sIx Ao.length 0 lo)).take (HT.sIx Ao.length Ao.length hi - HT.sIx Ao.length 0 lo)).toArray:=by
 obtain ⟨h1,h2,h3⟩:=JW lo hi Ao.toArray.size;unfold slicePick;rw [h1,h2,h3];simp only [sliceRange_one,pick_run,Yf] <;> rfl
def rSlL (K:XB):V->Option Int->Option Int->Hp->VK->Prop:=fun x lo hi H Q=>∃ a xs,x=.ref a/\AA K H a xs/\∀ p,H p=none->Q (.ref p) (upd H p (.lst (DK xs lo hi)))
theorem ES:SlR X (rSlL X.K):=by
 intro pins s σ H x v vl vu lo hi sl Q I rx hs pl pu h;obtain ⟨a,xs,rfl,hx,q⟩:=h;cases rx
 obtain ⟨Ao,r,ht,hz⟩:=I.list hx;have hlen:=r.length;refine ⟨"list",_,slot_list_getitem.lookup,ht.isList.typeIs,?_⟩;refine wpAny_getItem_list_slice ht.isList hs pl pu .none (by simp) ?_ (by rw [Yf] <;> lia);rw [IQ,<-hlen];refine ⟨.ref s.heap.objs.size,_,I.laid (t':=s.toks) (o:=.lst (DK xs lo hi)) (fun b ob q=>X9 _ q) (XD _) ?_,rfl,q _ (I.hok.fresh (XD _))⟩;exact ⟨Yo (Lj xs lo hi) hz,_,0,(r.drop (HT.sIx xs.length 0 lo)).take (HT.sIx xs.length xs.length hi - HT.sIx xs.length 0 lo),XJ _ rfl⟩
def E9:V->Bool
 | .non=>true
 | .bl _=>true
 | .int _=>true
 | .str _=>true
 | _=>false
def RH:V->V->Bool
 | .non,.non=>true
 | .bl a,.bl b=>a == b
 | .bl a,.int b=>(if a then 1 else 0) == b
 | .int a,.bl b=>a == (if b then 1 else 0)
 | .int a,.int b=>a == b
 | .str a,.str b=>a == b
 | _,_=>false
theorem TL {A:Around} {s:Shared} {y x:V} {u v:Value} (ry:A3 y u) (rx:A3 x v) (fy:E9 y=true) (fx:E9 x=true):SeqAt.EqAt A s u v (RH y x):=by
 cases y with
 | non=>
  cases ry
  cases x with
  | non=>cases rx; exact SeqAt.EqAt.same _
  | bl b=>cases rx; exact SeqAt.EqAt.none_bool b
  | int b=>obtain ⟨t,rfl⟩:=rx; exact SeqAt.EqAt.none_int b t
  | str b=>obtain ⟨t,rfl⟩:=rx; exact SeqAt.EqAt.none_str b t
  | _=>exact absurd (show false=true from fx) Yc
 | bl a=>
  cases ry
  cases x with
  | non=>cases rx; exact SeqAt.EqAt.bool_none a
  | bl b=>cases rx; exact SeqAt.EqAt.bool_bool a b
  | int b=>obtain ⟨t,rfl⟩:=rx; exact SeqAt.EqAt.bool_int a b t
  | str b=>obtain ⟨t,rfl⟩:=rx; exact SeqAt.EqAt.bool_str a b t
  | _=>exact absurd (show false=true from fx) Yc
 | int a=>
  obtain ⟨t',rfl⟩:=ry;cases x with
  | non=>cases rx; exact SeqAt.EqAt.int_none a t'
  | bl b=>cases rx; exact SeqAt.EqAt.int_bool a t' b
  | int b=>obtain ⟨t,rfl⟩:=rx; exact SeqAt.EqAt.int_int a t' b t
  | str b=>obtain ⟨t,rfl⟩:=rx; exact SeqAt.EqAt.int_str a t' b t
  | _=>exact absurd (show false=true from fx) Yc
 | str a=>
  obtain ⟨t',rfl⟩:=ry;cases x with
  | non=>cases rx; exact SeqAt.EqAt.str_none a t'
  | bl b=>cases rx; exact SeqAt.EqAt.str_bool a t' b
  | int b=>obtain ⟨t,rfl⟩:=rx; exact SeqAt.EqAt.str_int a t' b t
  | str b=>obtain ⟨t,rfl⟩:=rx; exact SeqAt.EqAt.str_str a t' b t
  | _=>exact absurd (show false=true from fx) Yc
 | _=>exact absurd (show false=true from fy) Yc
def Ma (x:V) (u:Value):Bool:=match u with
 | .none=>RH .non x
 | .bool b=>RH (.bl b) x
 | .int i _=>RH (.int i) x
 | .str z _=>RH (.str z) x
 | _=>false
theorem Qs {x y:V} {u:Value} (r:A3 y u) (f:E9 y=true):Ma x u=RH y x:=by
 cases y with
 | non=>cases r; rfl
 | bl b=>cases r; rfl
 | int i=>obtain ⟨t,rfl⟩:=r; rfl
 | str z=>obtain ⟨t,rfl⟩:=r; rfl
 | _=>exact absurd (show false=true from f) Yc
theorem FY {x:V}:∀ {xs:List V} {us:List Value},Ax xs us->xs.all E9=true->us.any (Ma x)=xs.any fun y=>RH y x
 | _,_,.nil,_=>rfl
 | y :: xs,u :: us,.cons r t,f=>by
  rw [Z7,YC] at f;rw [Zk,Zk,Qs r f.1,FY t f.2]
theorem Ez {A:Around} {s:Shared} {x:V} {v:Value} (rx:A3 x v) (fx:E9 x=true):∀ {xs:List V} {us:List Value},Ax xs us->xs.all E9=true->∀ u ∈ us,SeqAt.EqAt A s u v (Ma x u)
 | _,_,.nil,_=>fun u hu=>by cases hu
 | y :: xs,u :: us,.cons r t,f=>fun u' hu=>by
  rw [Z7,YC] at f;rcases XC.mp hu with rfl | hu
  ·rw [Qs r f.1]; exact TL r rx f.1 fx
  ·exact Ez rx fx t f.2 u' hu
def inV (x:V) (xs:List V):Bool:=xs.any fun y=>RH y x
def rIn (K:XB) (neg:Bool):R2:=fun x y H Q=>∃ p xs,y=.ref p/\(AA K H p xs\/AM K H p xs)/\E9 x=true/\xs.all E9=true/\Q (.bl (if neg then !inV x xs else inV x xs)) H
theorem NJ:EJ X (compareOp .In) (rIn X.K false):=by
 intro pins s σ H x y v u Q I rx ry h;obtain ⟨p,xs,rfl,hq,fx,fs,q⟩:=h;cases ry
 rcases hq with hq | hq
 ·obtain ⟨Ao,r,pl,hz⟩:=I.list hq;refine SeqAt.in_listAt (Ma x) pl.isList (fun w hw=>Ez rx fx r fs w (by simpa using hw)) ⟨.bl _,H,I,rfl,?_⟩;rw [show Ao.toArray.any (Ma x)=Ao.any (Ma x) by simp,FY r fs];exact q
 ·obtain ⟨Ao,r,pl,hz⟩:=I.tuple hq;refine SeqAt.in_tupleAt (Ma x) pl (fun w hw=>Ez rx fx r fs w (by simpa using hw)) ⟨.bl _,H,I,rfl,?_⟩;rw [show Ao.toArray.any (Ma x)=Ao.any (Ma x) by simp,FY r fs];exact q
theorem Kh:EJ X (compareOp .NotIn) (rIn X.K true):=by
 intro pins s σ H x y v u Q I rx ry h;obtain ⟨p,xs,rfl,hq,fx,fs,q⟩:=h;cases ry
 rcases hq with hq | hq
 ·obtain ⟨Ao,r,pl,hz⟩:=I.list hq;refine SeqAt.notIn_listAt (Ma x) pl.isList (fun w hw=>Ez rx fx r fs w (by simpa using hw)) ⟨.bl _,H,I,rfl,?_⟩;rw [show Ao.toArray.any (Ma x)=Ao.any (Ma x) by simp,FY r fs];exact q
 ·obtain ⟨Ao,r,pl,hz⟩:=I.tuple hq;refine SeqAt.notIn_tupleAt (Ma x) pl (fun w hw=>Ez rx fx r fs w (by simpa using hw)) ⟨.bl _,H,I,rfl,?_⟩;rw [show Ao.toArray.any (Ma x)=Ao.any (Ma x) by simp,FY r fs];exact q
theorem Eb:Bq X (.builtin "len") (fun xs H Q=>∃ p ys,xs=[.ref p]/\(AA X.K H p ys\/AM X.K H p ys)/\Q (.int ys.length) H):=by
 intro pins s σ H xs us Q I r h;obtain ⟨p,ys,rfl,hq,q⟩:=h;obtain ⟨u,rfl,rx⟩:=B7 r;cases rx
 have hn:=Ft;rcases hq with hq | hq
 ·obtain ⟨Ao,r',pl,hz⟩:=I.list hq;have hlen:=r'.length;exact Calls.call_len_list pl.isList (by simp only [Yf] <;> lia) ⟨.int ys.length,H,I.tok _,⟨s.toks + 1,by rw [Yf,hlen]⟩,q⟩
 ·obtain ⟨Ao,r',pl,hz⟩:=I.tuple hq;have hlen:=r'.length;exact len_tuple pl (by simp only [Yf] <;> lia) ⟨.int ys.length,H,I.tok _,⟨s.toks + 1,by rw [Yf,hlen]⟩,q⟩
theorem FV:Bq X (.builtin "len") (fun xs H Q=>∃ z,xs=[.str z]/\z.length<=sizeLine/\Q (.int z.length) H):=by
 intro pins s σ H xs us Q I r h;obtain ⟨z,rfl,hz,q⟩:=h;obtain ⟨u,rfl,t,rfl⟩:=B7 r;have hn:=Ft;exact len_str (by lia) ⟨.int z.length,H,I.tok _,⟨_,rfl⟩,q⟩
theorem FU:Bq X (.type "list") (fun xs H Q=>∃ p ys,xs=[.ref p]/\(AA X.K H p ys\/AM X.K H p ys)/\∀ l,H l=none->Q (.ref l) (upd H l (.lst ys))):=by
 intro pins s σ H xs us Q I r h;obtain ⟨p,ys,rfl,hq,q⟩:=h;obtain ⟨u,rfl,rx⟩:=B7 r;cases rx
 have fin:∀ (Ao:List Value),Ax ys Ao->ys.length<=sizeLine->∀ (h':Heap) (c':Nat),(∀ b o',s.heap.get? b=some o'->h'.get? b=some o') ->
   h'.get? s.heap.objs.size=some { cls:=.type "list",dict:=none,data:=.seq Ao.toArray c',slots:=#[] }->EP X pins σ Q (.ref s.heap.objs.size) { s with heap:=h' }:=fun Ao r' hz h' c' kp e=>
  ⟨.ref s.heap.objs.size,_,I.laid (t':=s.toks) kp (XD _) (show A9 X.prog X.w _ h' _ (.lst ys) from ⟨hz,Ao,c',r',e⟩),rfl,q _ (I.hok.fresh (XD _))⟩
 rcases hq with hq | hq
 ·obtain ⟨Ao,r',pl,hz⟩:=I.list hq;have hlen:=r'.length;obtain ⟨o,ho,hc,n,hd⟩:=pl.isList;exact call_list_seq p (.inl rfl) ho hc hd (fun h' c' kp e=>fin Ao r' hz h' c' kp e) (by simp only [Yf] <;> lia)
 ·obtain ⟨Ao,r',pl,hz⟩:=I.tuple hq;have hlen:=r'.length;obtain ⟨o,ho,hc,n,hd⟩:=pl;exact call_list_seq p (.inr rfl) ho hc hd (fun h' c' kp e=>fin Ao r' hz h' c' kp e) (by simp only [Yf] <;> lia)
theorem IY:Bq X (.type "tuple") (fun xs H Q=>∃ p ys,xs=[.ref p]/\((AA X.K H p ys/\∀ l,H l=none->Q (.ref l) (upd H l (.tup ys)))\/(AM X.K H p ys/\Q (.ref p) H))):=by
 intro pins s σ H xs us Q I r h;obtain ⟨p,ys,rfl,h⟩:=h;obtain ⟨u,rfl,rx⟩:=B7 r;cases rx
 rcases h with ⟨hq,q⟩ | ⟨hq,q⟩
 ·obtain ⟨Ao,r',pl,hz⟩:=I.list hq;have hlen:=r'.length;refine call_tuple_list pl.isList (fun h' kp=>?_) (by simp only [Yf] <;> lia);have I1:An X pins σ H { s with heap:=h' }:=I.kept (t':=s.toks) kp;have I2:An X pins σ (upd H h'.objs.size (.tup ys)) { s with heap:=h'.push { cls:=.type "tuple",data:=.seq Ao.toArray } }:=
   I1.laid (t':=s.toks) (fun b o e=>X9 _ e) (XD _) (show A9 X.prog X.w _ _ _ (.tup ys) from ⟨hz,Ao,r',IsTup.new _ _,Ov.new rfl rfl⟩)
  exact ⟨.ref h'.objs.size,_,I2,rfl,q _ (I1.hok.fresh (XD _))⟩
 ·obtain ⟨Ao,r',pl,hz⟩:=I.tuple hq;exact call_tuple_same pl ⟨.ref p,H,I,rfl,q⟩
def tyV (K:XB) (T:String) (x:V) (H:Hp):Prop:=match x with
 | .str _=>T="str"
 | .int _=>T="int"
 | .ref p=>(T="list"/\∃ xs,AA K H p xs)\/(T="tuple"/\∃ o,K.lookup p=some o/\o.cls=.type "tuple"/\o.dict=none) \/
   (T="dict"/\((∃ kvs,H p=some (.dK kvs))\/∃ kvs,H p=some (.dT kvs)))\/(T="set"/\∃ S n,H p=some (.set S n))
 | _=>False
theorem OI {pins:List (Addr × Obj)} {σ:St} {H:Hp} {s:Shared} {T:String} {x:V} {v:Value} (I:An X pins σ H s) (r:A3 x v) (ty:tyV X.K T x H) :
  s.TypeIs v T/\∀ a,v=.ref a->∃ ob,s.heap.get? a=some ob/\ob.dict=none:=by
 cases x with
 | str z=>
  obtain ⟨t,rfl⟩:=r;cases (show T="str" from ty)
  exact ⟨typeIs_str s z t,fun _ e=>nomatch e⟩
 | int i=>
  obtain ⟨t,rfl⟩:=r;cases (show T="int" from ty)
  exact ⟨typeIs_int s i t,fun _ e=>nomatch e⟩
 | ref p=>
  cases r
  rcases ty with ⟨rfl,xs,hq⟩ | ⟨rfl,o,hk,hc,hd⟩ | ⟨rfl,hk⟩ | ⟨rfl,S,n,hk⟩
  ·obtain ⟨Ao,_,pl,_⟩:=I.list hq;refine ⟨pl.isList.typeIs,fun a e=>?_⟩;cases e
   obtain ⟨o,n,e,c,hd,_⟩:=pl;exact ⟨o,e,hd⟩
  ·refine ⟨⟨o,I.kIn p o hk,hc⟩,fun a e=>?_⟩;cases e
   exact ⟨o,I.kIn _ o hk,hd⟩
  ·have z:∃ o,s.heap.get? p=some o/\o.ExactDict:=by
    rcases hk with ⟨kvs,hk⟩ | ⟨kvs,hk⟩
    ·obtain ⟨_,_,_,_,o,_,_,e,ex,_⟩:=I.hok p _ hk;exact ⟨o,e,ex⟩
    ·obtain ⟨_,_,_,_,o,_,_,e,ex,_⟩:=I.hok p _ hk;exact ⟨o,e,ex⟩
   obtain ⟨o,e,ex⟩:=z;refine ⟨⟨o,e,ex.1⟩,fun a e2=>?_⟩;cases e2
   exact ⟨o,e,ex.2.1⟩
  ·obtain ⟨o,_,_,_,e,ex,_⟩:=I.hok p _ hk;refine ⟨⟨o,e,ex.1⟩,fun a e2=>?_⟩;cases e2
   exact ⟨o,e,ex.2.1⟩
 | _=>exact False.elim ty
def tBM0 (K:XB) (T:String) (r:V->List V->Hp->VK->Prop) (to:TE):TE:=fun σ H Q=>to σ H fun x H1=>tyV K T x H1/\r x [] H1 Q
def tBM (K:XB) (T:String) (r:V->List V->Hp->VK->Prop) (to:TE) (t:TA):TE:=fun σ H Q=>to σ H fun x H1=>tyV K T x H1/\t σ H1 fun xs H2=>r x xs H2 Q
variable {o e:Expr} {es:List Expr} {to:TE} {t:TA} {name:Str} {apos EE:Pos} {T id:String} {r:V->List V->Hp->VK->Prop}
theorem SW (pa:PlainAttrs T) (slot:Slot T name id) (hty:typeOf (.builtin id)=pure (.type "method_descriptor")) (hm:MtR X id r) (ho:PE X o to)
  (hbase:attributeBase o name X.env (eval o X.env)=eval o X.env:=by rfl) (hline:(apos.endLine == EE.line)=true:=by rfl):PE X (.Call (.Attribute o name apos) [] [] EE) (tBM0 X.K T r to):=by
 intro pins s σ H Q I h;refine wpAny_Call_method0_late hbase hline (Bx (ho (pins:=pins) s σ H _ I h) fun v s1 ⟨x,H1,I1,r1,ty,q1⟩=>?_);obtain ⟨h1,h2⟩:=OI I1 r1 ty;exact ⟨T,id,pa,slot,hty,h1,h2,Calls.callWith_builtin rfl (PySem.evalArgs_none (hm (pins:=pins) s1 σ H1 x [] v [] Q I1 r1 .nil q1))⟩
theorem HL (pa:PlainAttrs T) (slot:Slot T name id) (hty:typeOf (.builtin id)=pure (.type "method_descriptor")) (hm:MtR X id r) (ho:PE X o to) (ha:PA X (e :: es) t)
  (hbase:attributeBase o name X.env (eval o X.env)=eval o X.env:=by rfl)
  (hfew:((backTo EE (starEach (e :: es) X.env)).all (fun x=>!x.1) && (backToKw EE (keywordEach [] X.env)).all (fun x=>x.1.isSome)
   && decide ((e :: es).length + ([]:List Keyword).length + (if ([]:List Keyword).isEmpty then 0 else 1) < 30))=true:=by rfl)
  (hline:(apos.endLine == EE.line)=true:=by rfl) (hs:starEach (e :: es) X.env=(false,eval e X.env) :: starEach es X.env:=by rfl) (hplain:(backTo EE (starEach es X.env)).any (·.1)=false:=by rfl) :
  PE X (.Call (.Attribute o name apos) (e :: es) [] EE) (tBM X.K T r to t):=by
 intro pins s σ H Q I h;refine wpAny_Call_method_late hbase hfew hline rfl (Bx (ho (pins:=pins) s σ H _ I h) fun v s1 ⟨x,H1,I1,r1,ty,q1⟩=>?_);obtain ⟨h1,h2⟩:=OI I1 r1 ty;refine ⟨T,id,pa,slot,hty,h1,h2,?_⟩;have hA:=ha (pos:=EE) (pins:=pins) s1 σ H1 _ I1 q1;rw [hs] at hA ⊢;refine Calls.callWith_builtin (by show (false || (backTo EE (starEach es X.env)).any (·.1))=false; rw [hplain] <;> rfl) (Calls.evalArgs_plain ?_);exact Bx hA fun us s2 ⟨vs,H2,I2,r2,q2⟩=>hm (pins:=pins) s2 σ H2 x vs v us Q I2 r1 r2 q2
end
def MtM (X:Cx) (id:String) (r:V->List V->Hp->VK->Prop):Prop:=
 ∀ ⦃pins:List (Addr × Obj)⦄ (s:Shared) (σ:St) (H:Hp) (x:V) (xs:List V) (v:Value) (us:List Value) (Q:VK),An X pins σ H s->A3 x v->Ax xs us->r x xs H Q ->
  wpAny (model X.prog X.w) X.A (call (.builtin id) (v :: us)) (EP X pins σ Q) X.xe s
theorem Ax.one:∀ {x:V} {us:List Value},Ax [x] us->∃ u,us=[u]/\A3 x u
 | _,_,.cons r .nil=>⟨_,rfl,r⟩
theorem Ax.zero:∀ {us:List Value},Ax [] us->us=[]
 | _,.nil=>rfl
theorem Ax.eraseIdx:∀ {xs:List V} {us:List Value} (i:Nat),Ax xs us->Ax (xs.eraseIdx i) (us.eraseIdx i)
 | _,_,_,.nil=>.nil
 | _,_,0,.cons _ t=>t
 | _,_,i + 1,.cons r t=>.cons r (Ax.eraseIdx i t)
theorem JC {α:Type}:∀ (l:List α) (i:Nat),(l.eraseIdx i).length<=l.length
 | [],_=>XD _
 | _ :: _,0=>Yt _
 | _ :: r,i + 1=>Nat.succ_le_succ (JC r i)
section
variable {X:Cx} {pins:List (Addr × Obj)} {σ:St} {H:Hp} {s:Shared} {l b:Addr} {xs ys zs:List V}
theorem An.lset {Ao its':List Value} {n:Nat} {f:Array Value->Array Value} {t':Nat} (I:An X pins σ H s) (hH:H l=some (.lst xs))
  (e:s.heap.get? l=some { cls:=.type "list",data:=.seq Ao.toArray n }) (hf:f Ao.toArray=its'.toArray) (hv:Ax ys its') (hz:ys.length<=sizeLine) :
  An X pins σ (upd H l (.lst ys)) { s with heap:=s.heap.update l (Obj.mapSeq f),toks:=t' }:=by
 have q:=PySem.IsL.update e f;rw [hf] at q;refine I.write (x:=l) (e:=l) (by rw [hH]; exact trivial) (.inl rfl) (fun b' u hb hu=>(Y0 s.heap (Obj.mapSeq f) (Ne.symm hb)).trans hu) ⟨_,q⟩ ?_;exact ⟨hz,its',_,hv,q⟩
theorem An.lnew {Ao:List Value} {t':Nat} (I:An X pins σ H s) (hv:Ax ys Ao) (hz:ys.length<=sizeLine) :
  An X pins σ (upd H s.heap.objs.size (.lst ys)) { s with heap:=s.heap.push { cls:=.type "list",data:=.seq Ao.toArray },toks:=t' }:=
 I.laid (fun _ _ q=>X9 _ q) (XD _) ⟨hz,Ao,0,hv,XJ _ rfl⟩
theorem An.fresh (I:An X pins σ H s):H s.heap.objs.size=none:=I.hok.fresh (XD _)
theorem An.lstM (I:An X pins σ H s) (hH:H l=some (.lst xs)):xs.length<=sizeLine/\∃ (Ao:List Value) (n:Nat),Ax xs Ao/\xs.length=Ao.length/\s.heap.get? l=some { cls:=.type "list",data:=.seq Ao.toArray n }:=by
 obtain ⟨z,Ao,n,r,e⟩:=I.hok l _ hH;exact ⟨z,Ao,n,r,r.length,e⟩
end
section
variable {X:Cx}
def Ra:V->List V->Hp->VK->Prop:=fun x vs H Q=>∃ l xs y,x=.ref l/\vs=[y]/\H l=some (.lst xs)/\xs.length < sizeLine/\Q .non (upd H l (.lst (xs ++ [y])))
theorem BR:MtM X "list.append" Ra:=by
 intro pins s σ H x vs v us Q I rx rv h;obtain ⟨l,xs,y,rfl,rfl,hH,hz,q⟩:=h;cases rx
 obtain ⟨u,rfl,ru⟩:=rv.one;obtain ⟨z,Ao,n,r,hl,e⟩:=I.lstM hH;refine call_meets F.slot_list_append ⟨_,e,rfl⟩ F.entry_list_append (F.args_list_append_2 _ _) (PySem.list_append l Ao.toArray n u (by rw [Yf]; lia)) ⟨e,?_⟩;refine ⟨.non,_,I.lset (its':=Ao ++ [u]) hH e (by simp) (r.append (.cons ru .nil)) ?_,rfl,q⟩;rw [XI,Y1];lia
def SM:V->List V->Hp->VK->Prop:=fun x vs H Q=>∃ l xs i k y,x=.ref l/\vs=[.int i]/\H l=some (.lst xs)/\-(2 ^ 63)<=i/\i < 2 ^ 63/\seqIndex? i xs.length=some k/\xs[k]? = some y/\Q y (upd H l (.lst (xs.eraseIdx k)))
theorem PX:MtM X "list.pop" SM:=by
 intro pins s σ H x vs v us Q I rx rv h;obtain ⟨l,xs,i,k,y,rfl,rfl,hH,h1,h2,hk,hy,q⟩:=h;cases rx
 obtain ⟨u,rfl,ru⟩:=rv.one;obtain ⟨t,rfl⟩:=ru;obtain ⟨z,Ao,n,r,hl,e⟩:=I.lstM hH;obtain ⟨w,hw,Nv⟩:=r.get hy;refine call_meets F.slot_list_pop ⟨_,e,rfl⟩ F.entry_list_pop (F.args_list_pop_2 _ _)
  (MeetsSeq.list_pop_at l Ao.toArray n i t k w (fitsIndex_both h1 h2) (by rw [Yf,<-hl]; exact hk) (by rw [<-YQ]; exact hw) (by rw [Yf]; lia)) ⟨e,?_⟩
 refine ⟨y,_,I.lset (its':=Ao.eraseIdx k) hH e ?_ (r.eraseIdx k) ?_,Nv,q⟩
 ·show Ao.toArray.eraseIdxIfInBounds k=(Ao.eraseIdx k).toArray
  rw [List.eraseIdxIfInBounds_toArray]
 ·have:=JC xs k;lia
def rCat:R2:=fun x y H Q=>∃ l b xs zs,x=.ref l/\y=.ref b/\H l=some (.lst xs)/\H b=some (.lst zs)/\xs.length + zs.length<=sizeLine/\∀ p,H p=none->Q (.ref p) (upd H p (.lst (xs ++ zs)))
theorem Cu:EJ X (binaryOp .Add) rCat:=by
 intro pins s σ H x y v u Q I rx ry h;obtain ⟨l,b,xs,zs,rfl,rfl,hH,hB,hz,q⟩:=h;cases rx
 cases ry
 obtain ⟨z,Ao,n,r,hl,e⟩:=I.lstM hH;obtain ⟨z2,R3,n2,r2,Kq,e2⟩:=I.lstM hB;refine PySem.P.add_list e e2 ?_ (by rw [Yf,Yf]; lia);have ea:Ao.toArray ++ R3.toArray=(Ao ++ R3).toArray:=by simp
 rw [ea];exact ⟨.ref _,_,I.lnew (t':=s.toks) (r.append r2) (by rw [XI]; lia),rfl,q _ I.fresh⟩
end
section
variable {prog:Program} {w:World} {A:Around} {E:Value->Shared->Prop} {s:Shared}
set_option maxRecDepth 100000 in
end
section
variable {X:Cx}
end
section
variable {κ:Type} [DecidableEq κ]
def Bi (kvs:List (κ × V)) (k:κ):Option V:=(kvs.find? fun kv=>decide (kv.1=k)).map (·.2)
def BC (kvs:List (κ × V)) (k:κ) (v:V):List (κ × V):=
 if (kvs.any fun kv=>decide (kv.1=k))=true then kvs.map (fun kv=>if kv.1=k then (kv.1,v) else kv) else kvs ++ [(k,v)]
def Io (kvs:List (κ × V)) (k:κ):List (κ × V):=kvs.filter fun kv=>decide (kv.1 ≠ k)
theorem B8 {p:κ × V} {r:List (κ × V)} {k:κ} (e:p.1=k):Bi (p :: r) k=some p.2:=by simp [Bi,YY,e]
theorem Bw {p:κ × V} {r:List (κ × V)} {k:κ} (e:¬ p.1=k):Bi (p :: r) k=Bi r k:=by simp [Bi,YY,e]
theorem Cd (k:κ):∀ kvs:List (κ × V),(kvs.any fun kv=>decide (kv.1=k))=(Bi kvs k).isSome
 | []=>rfl
 | p :: r=>by
  rw [Zk];by_cases e:p.1=k
  ·simp only [B8 e,decide_eq_true e,Bool.true_or,ai]
  ·rw [Bw e,decide_eq_false e,Bool.false_or]; exact Cd k r
theorem K4 (k j:κ) (y:V):∀ kvs:List (κ × V),Bi (kvs.map fun kv=>if kv.1=k then (kv.1,y) else kv) j=(Bi kvs j).map fun x=>if j=k then y else x
 | []=>rfl
 | p :: r=>by
  have ih:=K4 k j y r;rw [Yj];by_cases h:p.1=k
  ·rw [if_pos h];by_cases e:p.1=j
   ·rw [B8 (p:=(p.1,y)) e,B8 e,YX,if_pos (e.symm.trans h)]
   ·rw [Bw (p:=(p.1,y)) e,Bw e,ih]
  ·rw [if_neg h];by_cases e:p.1=j
   ·rw [B8 (p:=p) e,B8 e,YX,if_neg (fun z=>h (e.trans z))]
   ·rw [Bw (p:=p) e,Bw e,ih]
theorem Jk (k j:κ) (y:V):∀ kvs:List (κ × V),Bi kvs k=none->Bi (kvs ++ [(k,y)]) j=if j=k then some y else Bi kvs j
 | [],_=>by
  by_cases e:k=j
  ·rw [if_pos e.symm]; exact B8 (p:=(k,y)) e
  ·rw [if_neg (fun z=>e z.symm)]; exact Bw (p:=(k,y)) e
 | p :: r,hn=>by
  rw [Zs];have hk:¬ p.1=k:=fun z=>by rw [B8 z] at hn; cases hn
  rw [Bw hk] at hn;have ih:=Jk k j y r hn;by_cases e:p.1=j
  ·rw [B8 e,B8 e,if_neg (fun z=>hk (e.trans z))]
  ·rw [Bw e,Bw e,ih]
theorem OE (kvs:List (κ × V)) (k j:κ) (y:V):Bi (BC kvs k y) j=if j=k then some y else Bi kvs j:=by
 unfold BC;by_cases a:(kvs.any fun kv=>decide (kv.1=k))=true
 ·rw [if_pos a,K4];rw [Cd] at a;by_cases e:j=k
  ·obtain ⟨x,hx⟩:=Zp.mp a;rw [if_pos e,e,hx,YX,if_pos rfl]
  ·rw [if_neg e];cases Bi kvs j with
   | none=>rfl
   | some x=>rw [YX,if_neg e]
 ·rw [if_neg a];refine Jk k j y kvs ?_;rw [Cd] at a;cases q:Bi kvs k with
  | none=>rfl
  | some x=>rw [q] at a; exact (a rfl).elim
theorem CG (kvs:List (κ × V)) (k:κ) (v:V):(BC kvs k v).length<=kvs.length + 1:=by
 unfold BC;split
 ·rw [X8]; lia
 ·rw [XI,Yv,aV]; lia
theorem Po {kvs:List (κ × V)} {k:κ} (v:V) (h:Bi kvs k=none):BC kvs k v=kvs ++ [(k,v)]:=by
 unfold BC;rw [Cd,h];exact if_neg (by decide)
theorem Gv.isSome_eq {o:Option V} {u:Option Value} (r:Gv o u):o.isSome=u.isSome:=by
 cases o with
 | none=>cases u with
  | none=>rfl
  | some _=>exact (show False from r).elim
 | some _=>cases u with
  | none=>exact (show False from r).elim
  | some _=>rfl
theorem Gv.getD {o:Option V} {u:Option Value} {d:V} {d':Value} (r:Gv o u) (rd:A3 d d'):A3 (o.getD d) (u.getD d'):=by
 cases o with
 | none=>cases u with
  | none=>exact rd
  | some _=>exact (show False from r).elim
 | some _=>cases u with
  | none=>exact (show False from r).elim
  | some _=>exact r
theorem KV.val {kvs:List (κ × V)} {vs:List (κ × Value)} (r:KV kvs vs) (k:κ):Gv (Bi kvs k) (valueAt vs k):=by
 unfold KV at r;induction r with
 | nil=>exact True.intro
 | @cons p q ps qs h t ih=>
  obtain ⟨h1,h2⟩:=h;by_cases e:p.1=k
  ·have e':q.1=k:=h1.symm.trans e;have b:valueAt (q :: qs) k=some q.2:=by simp [valueAt,YY,e']
   rw [B8 e,b]; exact h2
  ·have e':¬ q.1=k:=fun z=>e (h1.trans z)
   have b:valueAt (q :: qs) k=valueAt qs k:=by simp [valueAt,YY,e']
   rw [Bw e,b]; exact ih
theorem KV.any {kvs:List (κ × V)} {vs:List (κ × Value)} (r:KV kvs vs) (k:κ):(kvs.any fun kv=>decide (kv.1=k))=vs.any fun kv=>decide (kv.1=k):=by
 unfold KV at r;induction r with
 | nil=>rfl
 | cons h t ih=>rw [Zk,Zk,ih,h.1]
theorem KV.repl {kvs:List (κ × V)} {vs:List (κ × Value)} (r:KV kvs vs) (k:κ) {y:V} {u:Value} (ry:A3 y u) :
  KV (kvs.map fun kv=>if kv.1=k then (kv.1,y) else kv) (vs.map fun kv=>if kv.1=k then (kv.1,u) else kv):=by
 unfold KV at r ⊢;induction r with
 | nil=>exact .nil
 | @cons p q ps qs h t ih=>
  rw [Yj,Yj];refine .cons ?_ ih;obtain ⟨h1,h2⟩:=h;by_cases e:p.1=k
  ·rw [if_pos e,if_pos (h1.symm.trans e)]; exact ⟨h1,ry⟩
  ·rw [if_neg e,if_neg (fun z=>e (h1.trans z))]; exact ⟨h1,h2⟩
theorem KV.put {kvs:List (κ × V)} {vs:List (κ × Value)} (r:KV kvs vs) (k:κ) {y:V} {u:Value} (ry:A3 y u):KV (BC kvs k y) (stored vs k u):=by
 unfold BC stored;rw [r.any k];by_cases e:(vs.any fun kv=>decide (kv.1=k))=true
 ·rw [if_pos e,if_pos e]; exact r.repl k ry
 ·rw [if_neg e,if_neg e]; exact Paired.snoc r ⟨rfl,ry⟩
theorem KV.drop {kvs:List (κ × V)} {vs:List (κ × Value)} (r:KV kvs vs) (k:κ):KV (Io kvs k) (without vs k):=by
 unfold KV at r ⊢;unfold Io without;induction r with
 | nil=>exact .nil
 | @cons p q ps qs h t ih=>
  obtain ⟨h1,h2⟩:=h;rw [aQ,aQ];by_cases e:p.1=k
  ·have a:¬ decide (p.1 ≠ k)=true:=by simp [e]
   have b:¬ decide (q.1 ≠ k)=true:=by simp [h1.symm.trans e]
   rw [if_neg a,if_neg b]; exact ih
  ·have e':¬ q.1=k:=fun z=>e (h1.trans z)
   have a:decide (p.1 ≠ k)=true:=by simp [e]
   have b:decide (q.1 ≠ k)=true:=by simp [e']
   rw [if_pos a,if_pos b]; exact .cons ⟨h1,h2⟩ ih
theorem KV.length {kvs:List (κ × V)} {vs:List (κ × Value)} (r:KV kvs vs):kvs.length=vs.length:=Paired.length r
theorem Qv (kvs:List (κ × V)) (k:κ):(Io kvs k).length<=kvs.length:=ZW _ _
end
theorem GI {P:Program} {w:World} {k:AO} {u:Value} (r:A3 (kV k) u):(AK P w).is k u=true:=by
 cases k with
 | inl i=>obtain ⟨t,e⟩:=(show ∃ t,u=Value.int i t from r); subst e; exact KS P w i t
 | inr x=>obtain ⟨t,e⟩:=(show ∃ t,u=Value.str x t from r); subst e; exact GD P w x t
theorem JE {P:Program} {w:World}:∀ {ks:List AO} {us:List Value},Ax (ks.map kV) us->ItemsAre (AK P w) ks us
 | [],_,r=>by rw [ZT] at r; cases r; exact .nil
 | k :: ks,_,r=>by
  rw [Yj] at r;cases r with
  | cons h t=>exact .cons (GI h) (JE t)
abbrev KT (H:Hp):List (List AO × V)->List (List AO × Addr × Value)->Prop:=Paired fun p q=>p.1=q.1/\H q.2.1=some (.tup (p.1.map kV))/\A3 p.2 q.2.2
theorem KT.val {H:Hp} {kvs:List (List AO × V)} {xs:List (List AO × Addr × Value)} (r:KT H kvs xs) (k:List AO):Gv (Bi kvs k) ((atKey xs k).map (·.2)):=by
 induction r with
 | nil=>exact True.intro
 | @cons p q ps qs h t ih=>
  obtain ⟨h1,_,h2⟩:=h;by_cases e:p.1=k
  ·have e':q.1=k:=h1.symm.trans e;have b:atKey (q :: qs) k=some q.2:=by simp [atKey,YY,e']
   rw [B8 e,b]; exact h2
  ·have e':¬ q.1=k:=fun z=>e (h1.trans z)
   have b:atKey (q :: qs) k=atKey qs k:=by simp [atKey,YY,e']
   rw [Bw e,b]; exact ih
theorem KT.repl {H:Hp} {kvs:List (List AO × V)} {xs:List (List AO × Addr × Value)} (r:KT H kvs xs) (k:List AO) {y:V} {u:Value} (ry:A3 y u) :
  KT H (kvs.map fun kv=>if kv.1=k then (kv.1,y) else kv) (xs.map (putAt k u)):=by
 induction r with
 | nil=>exact .nil
 | @cons p q ps qs h t ih=>
  rw [Yj,Yj];refine .cons ?_ ih;obtain ⟨h1,h2,h3⟩:=h;unfold putAt;by_cases e:p.1=k
  ·rw [if_pos e,if_pos (h1.symm.trans e)]; exact ⟨h1,h2,ry⟩
  ·rw [if_neg e,if_neg (fun z=>e (h1.trans z))]; exact ⟨h1,h2,h3⟩
theorem KT.put {H:Hp} {kvs:List (List AO × V)} {xs:List (List AO × Addr × Value)} (r:KT H kvs xs) (k:List AO) {b:Addr} {y:V} {u:Value} (hb:H b=some (.tup (k.map kV))) (ry:A3 y u) :
  KT H (BC kvs k y) (storedH xs k b u):=by
 have e:(kvs.any fun kv=>decide (kv.1=k))=(atKey xs k).isSome:=by
  rw [Cd,(r.val k).isSome_eq,Z8]
 unfold BC storedH;rw [e];by_cases q:(atKey xs k).isSome=true
 ·rw [if_pos q,if_pos q]; exact r.repl k ry
 ·rw [if_neg q,if_neg q]; exact Paired.snoc r ⟨rfl,hb,ry⟩
theorem KT.keeps {H H':Hp} {kvs:List (List AO × V)} {xs:List (List AO × Addr × Value)} (r:KT H kvs xs) (ht:∀ b ys,H b=some (.tup ys)->H' b=some (.tup ys)):KT H' kvs xs:=
 Paired.mapP r fun _ _ z=>⟨z.1,ht _ _ z.2.1,z.2.2⟩
section
variable {P:Program} {w:World} {H:Hp} {h:Heap} {a:Addr}
theorem RX {u:HO} (ok:F5 P w H h) (e:Rd H a u):A9 P w H h a u:=e.ok ok
theorem Ip {kvs:List (AO × V)} (ok:F5 P w H h) (e:Rd H a (.dK kvs)):kvs.length<=sizeLine/\(a == sysModules)=false/\∃ vs,KV kvs vs/\h.DictOf (AK P w) a vs:=
 show A9 P w H h a (.dK kvs) from RX ok e
theorem MP {kvs:List (AO × V)} (ok:F5 P w H h) (e:H a=some (.dK kvs)):kvs.length<=sizeLine/\(a == sysModules)=false/\∃ vs,KV kvs vs/\h.DictOf (AK P w) a vs:=Ip ok (.inl e)
theorem Gn {ks:List AO} (ok:F5 P w H h) (e:H a=some (.tup (ks.map kV))):(tupleKind (AK P w)).is h ks a:=by
 obtain ⟨_,Ao,r,⟨o,h1,h2,n,h3⟩,_⟩:=(show A9 P w H h a (.tup (ks.map kV)) from ok a _ e)
 exact ⟨o,Ao.toArray,n,h1,h2,h3,by simpa using JE r⟩
theorem Im {kvs:List (List AO × V)} (ok:F5 P w H h) (e:Rd H a (.dT kvs)):kvs.length<=sizeLine/\(a == sysModules)=false /\
  ∃ xs,KT H kvs xs/\h.DictOfH (tupleKind (AK P w)) a xs:=by
 obtain ⟨z,y,xs,r,o,es,ep,h1,h2,h3,h4,h5⟩:=(show A9 P w H h a (.dT kvs) from RX ok e)
 refine ⟨z,y,xs,r,o,es,ep,h1,h2,h3,h4,fun x hx=>?_,h5⟩;have all:∀ {l:List (List AO × V)} {m:List (List AO × Addr × Value)},KT H l m->∀ x ∈ m,(tupleKind (AK P w)).is h x.1 x.2.1:=by
  intro l m q;induction q with
  | nil=>intro x hx; exact nomatch hx
  | @cons p q ps qs hq t ih=>
   intro x hx;rcases XC.mp hx with e | hx
   ·subst e;exact Gn ok (by rw [<-hq.1]; exact hq.2.1)
   ·exact ih x hx
 exact all r x hx
theorem dt_of {kvs:List (List AO × V)} (ok:F5 P w H h) (e:H a=some (.dT kvs)):kvs.length<=sizeLine/\(a == sysModules)=false /\
  ∃ xs,KT H kvs xs/\h.DictOfH (tupleKind (AK P w)) a xs:=Im ok (.inl e)
end
def BU (H:Hp) (a:Addr) (y:V) (r:Option V):Prop:=
 (∃ kvs k,Rd H a (.dK kvs)/\y=kV k/\r=Bi kvs k)\/∃ kvs k b,Rd H a (.dT kvs)/\y=.ref b/\H b=some (.tup (k.map kV))/\r=Bi kvs k
def Em (H:Hp) (a:Addr) (y v:V) (H':Hp):Prop:=
 (∃ kvs k,H a=some (.dK kvs)/\y=kV k/\kvs.length < sizeLine/\H'=upd H a (.dK (BC kvs k v))) \/
 ∃ kvs k b,H a=some (.dT kvs)/\y=.ref b/\H b=some (.tup (k.map kV))/\kvs.length < sizeLine/\H'=upd H a (.dT (BC kvs k v))
theorem BU.k {H:Hp} {a:Addr} {kvs:List (AO × V)} {k:AO} (e:H a=some (.dK kvs)):BU H a (kV k) (Bi kvs k):=.inl ⟨kvs,k,.inl e,rfl,rfl⟩
theorem BU.t {H:Hp} {a b:Addr} {kvs:List (List AO × V)} {k:List AO} (e:H a=some (.dT kvs)) (eb:H b=some (.tup (k.map kV))):BU H a (.ref b) (Bi kvs k):=.inr ⟨kvs,k,b,.inl e,rfl,eb,rfl⟩
theorem Em.k {H:Hp} {a:Addr} {kvs:List (AO × V)} {k:AO} {v:V} (e:H a=some (.dK kvs)) (hl:kvs.length < sizeLine):Em H a (kV k) v (upd H a (.dK (BC kvs k v))):=.inl ⟨kvs,k,e,rfl,hl,rfl⟩
theorem Em.t {H:Hp} {a b:Addr} {kvs:List (List AO × V)} {k:List AO} {v:V} (e:H a=some (.dT kvs)) (eb:H b=some (.tup (k.map kV))) (hl:kvs.length < sizeLine) :
  Em H a (.ref b) v (upd H a (.dT (BC kvs k v))):=.inr ⟨kvs,k,b,e,rfl,eb,hl,rfl⟩
section
variable {X:Cx} {pins:List (Addr × Obj)} {σ:St} {H:Hp} {s:Shared} {a:Addr} {y v:V} {u r:Value} {o:Option V} {A:Around} {E:Value->Shared->Prop}
theorem An.big (I:An X pins σ H s):sysModules < s.heap.objs.size:=by
 have h:mainGlobals < s.heap.objs.size:=(I.mod.glob.keeps I.bk).lt;exact Nat.lt_trans (by decide) h
theorem Oo {Q:Value->Shared->Prop} (hu:A.units + 1 < cLine) (I:An X pins σ H s) (g:BU H a y (some v)) (ry:A3 y u) (h:∀ w' s',An X pins σ H s'->A3 v w'->Q w' s') :
  wpAny (model X.prog X.w) A (getItem (.ref a) u) Q E s:=by
 rcases g with ⟨kvs,k,e,ey,l⟩ | ⟨kvs,k,b,e,ey,eb,l⟩
 ·subst ey;obtain ⟨z,hd,vs,rel,dd⟩:=Ip I.hok e;obtain ⟨w',hw,Nv⟩:=Gv.some_of (v:=v) (o:=valueAt vs k) (by rw [l]; exact rel.val k);exact wpAny_getItem_of (GI ry) dd.mapOf hw (h w' _ (I.tok _) Nv)
 ·subst ey;cases (show u=Value.ref b from ry)
  obtain ⟨z,hd,xs,rel,dd⟩:=Im I.hok e;obtain ⟨w',hw,Nv⟩:=Gv.some_of (v:=v) (o:=(atKey xs k).map (·.2)) (by rw [l]; exact rel.val k);obtain ⟨p,hp,hp2⟩:=Option.map_eq_some_iff.mp hw;refine wpAny_getItem_heap (tupleKind_room_in1 hu) (Gn I.hok eb) dd hp ?_;rw [hp2];exact h w' _ (I.tok _) Nv
theorem d_in {Q:Value->Shared->Prop} (hu:A.units + 1 < cLine) (I:An X pins σ H s) (g:BU H a y o) (ry:A3 y u) (h:∀ s',An X pins σ H s'->Q (.bool o.isSome) s') :
  wpAny (model X.prog X.w) A (compareOp .In u (.ref a)) Q E s:=by
 rcases g with ⟨kvs,k,e,ey,l⟩ | ⟨kvs,k,b,e,ey,eb,l⟩
 ·subst ey;obtain ⟨z,hd,vs,rel,dd⟩:=Ip I.hok e;refine wpAny_in_of (GI ry) hd dd.mapOf ?_;rw [<-(rel.val k).isSome_eq,<-l];exact h _ (I.tok _)
 ·subst ey;cases (show u=Value.ref b from ry)
  obtain ⟨z,hd,xs,rel,dd⟩:=Im I.hok e;refine wpAny_in_heap (tupleKind_room_in1 hu) (Gn I.hok eb) hd dd ?_;have q:=(rel.val k).isSome_eq;rw [Z8] at q;rw [<-q,<-l];exact h _ (I.tok _)
theorem RK {Q:Value->Shared->Prop} (hu:A.units + 1 < cLine) (I:An X pins σ H s) (g:BU H a y o) (ry:A3 y u) (h:∀ s',An X pins σ H s'->Q (.bool (!o.isSome)) s') :
  wpAny (model X.prog X.w) A (compareOp .NotIn u (.ref a)) Q E s:=by
 rcases g with ⟨kvs,k,e,ey,l⟩ | ⟨kvs,k,b,e,ey,eb,l⟩
 ·subst ey;obtain ⟨z,hd,vs,rel,dd⟩:=Ip I.hok e;refine wpAny_notIn_of (GI ry) hd dd.mapOf ?_;rw [<-(rel.val k).isSome_eq,<-l];exact h _ (I.tok _)
 ·subst ey;cases (show u=Value.ref b from ry)
  obtain ⟨z,hd,xs,rel,dd⟩:=Im I.hok e;refine wpAny_notIn_heap (tupleKind_room_in1 hu) (Gn I.hok eb) hd dd ?_;have q:=(rel.val k).isSome_eq;rw [Z8] at q;rw [<-q,<-l];exact h _ (I.tok _)
theorem Ht {h':Heap} {t':Nat} {ob:HO} (I:An X pins σ H s) (mu:Mut (H a)) (hs:Heap.SameBut a s.heap h') (he:∃ q,h'.get? a=some q) (new:A9 X.prog X.w (upd H a ob) h' a ob) :
  An X pins σ (upd H a ob) { s with heap:=h',toks:=t' }:=
 I.write (x:=a) (e:=a) mu (.inl rfl) (fun b q hb z=>(hs.2 b hb).trans z) he new
theorem Kt {P:Program} {w:World} {H':Hp} {h':Heap} {kvs:List (AO × V)} {vs:List (AO × Value)} (z:kvs.length<=sizeLine) (hd:(a == sysModules)=false) (rel:KV kvs vs) (dd:h'.DictOf (AK P w) a vs) :
  A9 P w H' h' a (.dK kvs):=⟨z,hd,vs,rel,dd⟩
theorem Om {H':Hp} {Q:Unit->Shared->Prop} (hu:A.units + 1 < cLine) (I:An X pins σ H s) (g:Em H a y v H') (ry:A3 y u) (rv:A3 v r) (h:∀ s',An X pins σ H' s'->Q () s') :
  wpAny (model X.prog X.w) A (setItem (.ref a) u r) Q E s:=by
 rcases g with ⟨kvs,k,e,ey,l,eH⟩ | ⟨kvs,k,b,e,ey,eb,l,eH⟩
 ·subst ey eH;obtain ⟨z,hd,vs,rel,dd⟩:=MP I.hok e;have hz:vs.length<=sizeLine:=by rw [<-rel.length]; exact z
  have hl:(BC kvs k v).length<=sizeLine:=by have:=CG kvs k v; lia
  refine wpAny_setItem_pairs (hsz:=hz) (GI ry) dd fun h' MT hs=>h _ ?_
  have he:∃ q,h'.get? a=some q:=let ⟨q,_,_,hq,_⟩:=MT; ⟨q,hq⟩;exact Ht I (by rw [e]; exact True.intro) hs he (Kt hl hd (rel.put k rv) MT)
 ·subst ey eH;cases (show u=Value.ref b from ry)
  obtain ⟨z,hd,xs,rel,dd⟩:=dt_of I.hok e;have hz:xs.length<=sizeLine:=by rw [<-Paired.length rel]; exact z
  have hl:(BC kvs k v).length<=sizeLine:=by have:=CG kvs k v; lia
  refine wpAny_setItem_heap (hsz:=hz) (tupleKind_room_in1 hu) (Gn I.hok eb) dd fun h' MT hs=>h _ ?_
  obtain ⟨q,es,ep,hq,h2,h3,h4,_,h5⟩:=MT;refine Ht I (by rw [e]; exact True.intro) hs ⟨q,hq⟩ ⟨hl,hd,_,(rel.put k eb rv).keeps fun c ys ec=>?_,q,es,ep,hq,h2,h3,h4,h5⟩;rw [Af (Ba ec e (fun z=>nomatch z))];exact ec
end
section
variable {X:Cx} {pins:List (Addr × Obj)} {σ:St} {H:Hp} {s:Shared} {a:Addr} {kvs:List (AO × V)} {k:AO} {u:Value} {A:Around} {E:Value->Shared->Prop}
theorem Oq {Q:Unit->Shared->Prop} (I:An X pins σ H s) (e:H a=some (.dK kvs)) (ry:A3 (kV k) u) (l:(Bi kvs k).isSome=true) (h:∀ s',An X pins σ (upd H a (.dK (Io kvs k))) s'->Q () s') :
  wpAny (model X.prog X.w) A (delItem (.ref a) u) Q E s:=by
 obtain ⟨z,hd,vs,rel,dd⟩:=MP I.hok e;refine wpAny_delItem_slot dd.typeIs (by decide) PySem.F.slot_dict_delitem
  (call_meetsIn PySem.F.slot_dict_delitem dd.typeIs PySem.F.entry_dict_delitem (PySem.F.args_dict_delitem_2 _ _) (meets_dict_delitem_pairs (AK X.prog X.w) a (GI ry)) ⟨vs,dd,by rw [<-rel.length]; exact z,by rw [<-(rel.val k).isSome_eq]; exact l,fun h' MT hs=>h _ ?_⟩)
 have he:∃ q,h'.get? a=some q:=let ⟨q,_,_,hq,_⟩:=MT; ⟨q,hq⟩;exact Ht I (by rw [e]; exact True.intro) hs he (Kt (Yo (Qv kvs k) z) hd (rel.drop k) MT)
end
def NoSl (i:Expr):Prop:=∀ ov iv,subscripted i false ov iv=operate [ov,iv] (getItem ov iv)
theorem QT {prog:Program} {w:World} {A:Around} {E:Value->Shared->Prop} {s:Shared} {env:Env} {value slice:Expr} {pos:Pos} {T id:String} {Q:Value->Shared->Prop}
  (hl:typeLookup (.type T) "__getitem__"=pure (some (.builtin id))) (hs:NoSl slice)
  (h:wpAny (model prog w) A (eval value env) (fun o A7=>wpAny (model prog w) A (eval slice env) (fun i Cr=>Cr.TypeIs o T/\wpAny (model prog w) A (getItem o i) Q E Cr) E A7) E s) :
  wpAny (model prog w) A (eval (.Subscript value slice pos) env) Q E s:=by
 refine Subscript_ (wpAny_mono h (fun o A7 A5=>wpAny_mono A5 (fun i Cr Ic=>?_) fun _ _ x=>x) fun _ _ x=>x);obtain ⟨hT,Ic⟩:=Ic;unfold subscriptTail;refine wpAny_bind ?_;rw [getitemInPython_of_ne hT.not_modules];refine wpAny_bind (wpAny_specialOf hT hl ?_);have fin:wpAny (model prog w) A (subscripted slice false o i) (fun r Bu=>wpAny (model prog w) A (letTemporaryGo value o r >>= fun _=>pure r) Q E Bu) E Cr:=by
  rw [hs o i];exact wpAny_operating (wpAny_mono Ic (fun r Bu Gp=>wpAny_bind (wpAny_letTemporaryGo (wpAny_pure Gp))) fun _ _ x=>x)
 first
  | exact wpAny_pure (wpAny_bind fin)
  | exact wpAny_bind (wpAny_pure (wpAny_bind fin))
  | exact wpAny_bind fin
theorem Lh {X:Cx} {pins:List (Addr × Obj)} {σ:St} {H:Hp} {s:Shared} {a:Addr} {y:V} {o:Option V} (I:An X pins σ H s) (g:BU H a y o):s.TypeIs (.ref a) "dict":=by
 rcases g with ⟨kvs,k,e,_,_⟩ | ⟨kvs,k,b,e,_,_,_⟩
 ·obtain ⟨_,_,vs,_,dd⟩:=Ip I.hok e;exact dd.typeIs
 ·obtain ⟨_,_,xs,_,dd⟩:=Im I.hok e;exact dd.typeIs
def tDGet (td ty:TE):TE:=fun σ H Q=>td σ H fun x H1=>ty σ H1 fun y H2=>∃ a v,x=.ref a/\BU H2 a y (some v)/\Q v H2
def tDIn (ty td:TE):TE:=fun σ H Q=>ty σ H fun y H1=>td σ H1 fun x H2=>∃ a o,x=.ref a/\BU H2 a y o/\Q (.bl o.isSome) H2
def QS (ty td:TE):TE:=fun σ H Q=>ty σ H fun y H1=>td σ H1 fun x H2=>∃ a o,x=.ref a/\BU H2 a y o/\Q (.bl (!o.isSome)) H2
def sDPut (td ty tv:TE):TS:=fun D σ H=>tv σ H fun v H1=>td σ H1 fun x H2=>ty σ H2 fun y H3=>∃ a H4,x=.ref a/\Em H3 a y v H4/\D.nx σ H4
def sDDel (td ty:TE):TS:=fun D σ H=>td σ H fun x H1=>ty σ H1 fun y H2=>∃ a kvs k,x=.ref a/\H2 a=some (.dK kvs)/\y=kV k/\(Bi kvs k).isSome=true/\D.nx σ (upd H2 a (.dK (Io kvs k)))
section
variable {X:Cx} {o i e value:Expr} {pos pos' tpos:Pos} {td ty tv:TE}
theorem Bt (hu:X.A.units + 1 < cLine) (ho:PE X o td) (hi:PE X i ty) (hs:NoSl i):PE X (.Subscript o i pos) (tDGet td ty):=by
 intro pins s σ H Q I h;refine QT PySem.F.slot_dict_getitem.lookup hs (Bx (ho (pins:=pins) s σ H _ I h) fun u s1 ⟨x,H1,I1,rx,q1⟩=>Bx (hi (pins:=pins) s1 σ H1 _ I1 q1) fun iv s2 ⟨y,H2,I2,ry,a,v,ex,g,q2⟩=>?_);subst ex;obtain rfl:u=Value.ref a:=rx;exact ⟨Lh I2 g,Oo hu I2 g ry fun w' s3 I3 Nv=>⟨v,H2,I3,Nv,q2⟩⟩
theorem SY (hu:X.A.units + 1 < cLine) (hi:PE X i ty) (ho:PE X o td):PC X .In i o (tDIn ty td):=by
 intro pins s σ H Q I h;refine Bx (hi (pins:=pins) s σ H _ I h) fun iv s1 ⟨y,H1,I1,ry,q1⟩=>Bx (ho (pins:=pins) s1 σ H1 _ I1 q1) fun u s2 ⟨x,H2,I2,rx,a,ov,ex,g,q2⟩=>?_
 subst ex;obtain rfl:u=Value.ref a:=rx;exact d_in hu I2 g ry fun s3 I3=>⟨.bl ov.isSome,H2,I3,rfl,q2⟩
theorem Jz (hu:X.A.units + 1 < cLine) (hi:PE X i ty) (ho:PE X o td):PC X .NotIn i o (QS ty td):=by
 intro pins s σ H Q I h;refine Bx (hi (pins:=pins) s σ H _ I h) fun iv s1 ⟨y,H1,I1,ry,q1⟩=>Bx (ho (pins:=pins) s1 σ H1 _ I1 q1) fun u s2 ⟨x,H2,I2,rx,a,ov,ex,g,q2⟩=>?_
 subst ex;obtain rfl:u=Value.ref a:=rx;exact RK hu I2 g ry fun s3 I3=>⟨.bl (!ov.isSome),H2,I3,rfl,q2⟩
theorem Ck (hu:X.A.units + 1 < cLine) (ho:PE X o td) (hi:PE X i ty) (hv:PE X value tv) (hs:swapsWith value (some (.Subscript o i pos')) pos.line X.env=pure false) :
  PS X (.Assign [.Subscript o i pos'] value pos) (sDPut td ty tv):=by
 intro pins s σ H D I h;refine wpAny_Assign_Subscript (Bx (hv (pins:=pins) s σ H _ I h) fun r s1 ⟨v,H1,I1,rv,q1⟩=>Bx (ho (pins:=pins) s1 σ H1 _ I1 q1) fun u s2 ⟨x,H2,I2,rx,q2⟩=>Bx (hi (pins:=pins) s2 σ H2 _ I2 q2) fun iv s3 ⟨y,H3,I3,ry,a,H4,ex,g,q3⟩=>?_) hs;subst ex;obtain rfl:u=Value.ref a:=rx;exact Om hu I3 g ry rv fun s4 I4=>⟨σ,H4,I4,q3⟩
theorem Rc (ho:PE X o td) (hi:PE X i ty):PS X (.Delete [.Subscript o i tpos] pos) (sDDel td ty):=by
 intro pins s σ H D I h;refine wpAny_Delete (wpAny_deleteEach_cons (wpAny_delete_Subscript (Bx (ho (pins:=pins) s σ H _ I h) fun u s1 ⟨x,H1,I1,rx,q1⟩=>Bx (hi (pins:=pins) s1 σ H1 _ I1 q1) fun iv s2 ⟨y,H2,I2,ry,a,kvs,k,ex,e,ey,l,q2⟩=>?_)));subst ex ey;obtain rfl:u=Value.ref a:=rx;exact Oq I2 e ry l fun s3 I3=>wpAny_deleteEach_nil ⟨σ,_,I3,q2⟩
end
theorem FR {P:Program} {w:World} {H:Hp} (h:Heap) (hb:sysModules < h.objs.size):A9 P w H (h.push { cls:=.type "dict",data:=.dict #[] }) h.objs.size (.dK []):=
 ⟨Yr _,beq_eq_false_iff_ne.mpr (Ne.symm (XQ hb)),[],.nil,Heap.DictOf.new h⟩
theorem Qt {P:Program} {w:World} {H:Hp} (h:Heap) (hb:sysModules < h.objs.size):A9 P w H (h.push { cls:=.type "dict",data:=.dict #[] }) h.objs.size (.dT []):=
 ⟨Yr _,beq_eq_false_iff_ne.mpr (Ne.symm (XQ hb)),[],.nil,_,#[],0,XJ _ rfl,⟨rfl,rfl,rfl⟩,rfl,rfl,Z2⟩
def S7:TE:=fun _ H Q=>∀ p,H p=none->Q (.ref p) (upd H p (.dK []))
def S6:TE:=fun _ H Q=>∀ p,H p=none->Q (.ref p) (upd H p (.dT []))
section
variable {X:Cx} {pos:Pos}
theorem FI:PE X (.Dict [] [] pos) S7:=fun pins s σ H Q I h=>
 wpAny_Dict_empty ⟨.ref s.heap.objs.size,_,I.laid (a:=s.heap.objs.size) (o:=.dK []) (t':=s.toks) (fun _ _ q=>X9 _ q) (XD _) (FR s.heap I.big),rfl,h _ (I.hok.fresh (XD _))⟩
theorem KJ:PE X (.Dict [] [] pos) S6:=fun pins s σ H Q I h=>
 wpAny_Dict_empty ⟨.ref s.heap.objs.size,_,I.laid (a:=s.heap.objs.size) (o:=.dT []) (t':=s.toks) (fun _ _ q=>X9 _ q) (XD _) (Qt s.heap I.big),rfl,h _ (I.hok.fresh (XD _))⟩
end
def HW (kvs more:List (AO × V)):List (AO × V):=more.foldl (fun acc kv=>BC acc kv.1 kv.2) kvs
structure M2 (X:Cx) (o:Expr) (m:Str) (apos:Pos) (e f:Expr) (EE:Pos):Prop where
 base:attributeBase o m X.env (eval o X.env)=eval o X.env
 few:((backTo EE (starEach [e,f] X.env)).all (fun x=>!x.1) && (backToKw EE (keywordEach [] X.env)).all (fun x=>x.1.isSome)
  && decide (([e,f]:List Expr).length + ([]:List Keyword).length + (if ([]:List Keyword).isEmpty then 0 else 1) < 30))=true
 line:(apos.endLine == EE.line)=true
 trees:backTo EE (starEach [e,f] X.env)=[(false,eval e X.env),(false,eval f X.env)]
def IsD (H:Hp) (a:Addr):Prop:=(∃ kvs,Rd H a (.dK kvs))\/∃ kvs,Rd H a (.dT kvs)
theorem Tw {X:Cx} {pins:List (Addr × Obj)} {σ:St} {H:Hp} {s:Shared} {a:Addr} (I:An X pins σ H s) (d:IsD H a) :
  s.TypeIs (.ref a) "dict"/\(∀ b,Value.ref a=.ref b->∃ ob,s.heap.get? b=some ob/\ob.dict=none)/\(a == sysModules)=false:=by
 rcases d with ⟨kvs,e⟩ | ⟨kvs,e⟩
 ·obtain ⟨_,hd,vs,_,dd⟩:=Ip I.hok e;refine ⟨dd.typeIs,fun b q=>?_,hd⟩;cases q
  obtain ⟨ob,_,_,h1,h2,_⟩:=dd;exact ⟨ob,h1,h2.2.1⟩
 ·obtain ⟨_,hd,xs,_,dd⟩:=Im I.hok e;refine ⟨dd.typeIs,fun b q=>?_,hd⟩;cases q
  obtain ⟨ob,_,_,h1,h2,_⟩:=dd;exact ⟨ob,h1,h2.2.1⟩
section
variable {X:Cx} {pins:List (Addr × Obj)} {σ:St} {H:Hp} {s:Shared} {a:Addr} {y d:V} {u r:Value} {o:Option V} {A:Around} {E:Value->Shared->Prop}
theorem TM {Q:Value->Shared->Prop} (hu:A.units + 1 < cLine) (I:An X pins σ H s) (g:BU H a y o) (ry:A3 y u) (rd:A3 d r) (h:∀ w' s',An X pins σ H s'->A3 (o.getD d) w'->Q w' s') :
  wpAny (model X.prog X.w) A (call (.builtin "dict.get") [.ref a,u,r]) Q E s:=by
 rcases g with ⟨kvs,k,e,ey,l⟩ | ⟨kvs,k,b,e,ey,eb,l⟩
 ·subst ey;obtain ⟨z,hd,vs,rel,dd⟩:=Ip I.hok e;refine call_meetsIn PySem.F.slot_dict_get dd.typeIs PySem.F.entry_dict_get (PySem.F.args_dict_get_3 _ _ _) (meets_dict_get_default (AK X.prog X.w) a (GI ry) hd r) ⟨_,dd.mapOf,h _ _ (I.tok _) ?_⟩;rw [l];exact (rel.val k).getD rd
 ·subst ey;cases (show u=Value.ref b from ry)
  obtain ⟨z,hd,xs,rel,dd⟩:=Im I.hok e;refine call_meetsIn PySem.F.slot_dict_get dd.typeIs PySem.F.entry_dict_get (PySem.F.args_dict_get_3 _ _ _) (meetsH_dict_get_default (tupleKind (AK X.prog X.w)) a b hd r) ⟨tupleKind_room_in1 hu,k,xs,Gn I.hok eb,dd,h _ _ (I.tok _) ?_⟩;rw [l];exact (rel.val k).getD rd
end
def S8 (td ty tx:TE):TE:=fun σ H Q=>td σ H fun x H1=>∃ a,x=.ref a/\IsD H1 a/\ty σ H1 fun y H2=>tx σ H2 fun z H3=>∃ o,BU H3 a y o/\Q (o.getD z) H3
section
variable {X:Cx} {o e f:Expr} {apos EE:Pos} {td ty tx:TE}
theorem Py (hu:X.A.units + 1 < cLine) (ho:PE X o td) (he:PE X e ty) (hf:PE X f tx) (m:M2 X o "get" apos e f EE):PE X (.Call (.Attribute o "get" apos) [e,f] [] EE) (S8 td ty tx):=by
 intro pins s σ H Q I h;refine wpAny_Call_method m.base m.few m.line PySem.F.plainAttrs_dict PySem.F.slot_dict_get PySem.F.type_dict_get (Bx (ho (pins:=pins) s σ H _ I h) fun u s1 ⟨x,H1,I1,rx,a,ex,d,q1⟩=>?_);subst ex;obtain rfl:u=Value.ref a:=rx;obtain ⟨t1,t2,_⟩:=Tw I1 d;refine ⟨t1,t2,?_⟩;rw [m.trees];refine Calls.callWith_builtin rfl (Calls.evalArgs_plain (Calls.spliced_cons (Bx (he (pins:=pins) s1 σ H1 _ I1 q1) fun iv s2 ⟨y,H2,I2,ry,q2⟩=>
  Calls.spliced_cons (Bx (hf (pins:=pins) s2 σ H2 _ I2 q2) fun fv s3 ⟨z,H3,I3,rz,ov,g,q3⟩=>Calls.spliced_nil ?_))))
 exact TM hu I3 g ry rz fun w' s4 I4 Nv=>⟨_,H3,I4,Nv,q3⟩
end
section
variable {X:Cx} {pins:List (Addr × Obj)} {σ:St} {H:Hp} {s:Shared} {a:Addr} {kvs:List (AO × V)} {A:Around} {E:Value->Shared->Prop}
end
section
variable {X:Cx} {pins:List (Addr × Obj)} {σ:St} {H:Hp} {s:Shared} {a:Addr} {y:V} {u:Value} {A:Around} {E:Value->Shared->Prop}
end
end L2
namespace Att
open PySem PySem.W PySem.Calls PyProof.Rows
theorem GZ {P:Params} {h:Heap}:∀ (ns:List Int) (vs:List Value),WellAll P h vs (ns.map WData.int)->IntsAre vs ns:=by
 intro ns;induction ns with
 | nil=>
  intro vs w;rw [ZT] at w;cases w
  exact .nil
 | cons n ns ih=>
  intro vs w;rw [Yj] at w;cases w with
  | cons a b=>
   cases a
   exact .cons _ _ (ih _ b)
theorem Nu {l:OpenLaw} {n:Nat} (hn:l.most=some n) {P:Params} {h:Heap} {args:List WData} {vals:List Value}
  (hpre:l.row.toRowW.claim.pre args=true) (hwl:WellAll P h vals args) :
  ∃ a vs ns,vals=[Value.ref a]/\args=[WData.list (ns.map WData.int)]/\h.get? a=some { cls:=.type "list",data:=.seq vs.toArray }/\IntsAre vs ns/\ns.length<=n:=by
 have hsh:WShape.hasAll [] args [.list .int]=true:=(pre_splitW hpre).1;have hc:l.pre.holds [] { args:=args } = true:=(pre_splitW hpre).2;obtain ⟨d,r,rfl,h1,h2⟩:=hasAllW_cons hsh;obtain rfl:=hasAllW_nil h2;obtain ⟨xs,rfl,h3⟩:=hasW_list h1;obtain ⟨ns,rfl⟩:=items_int h3;have hlen:ns.length<=n:=by
  unfold OpenLaw.pre at hc;have h4:(WTm.not (.lt (.lit (.int (n:Int))) (.len (.arg 0)))).holds [] { args:=[.list (ns.map .int)] } = true:=by
   have h4:=(holds_andW hc).1;rw [hn] at h4;exact h4
  have h5:=condW_of h4 (w_not (w_lt w_lit (w_len_list (w_arg rfl))));rw [X8] at h5;refine Nat.le_of_not_lt fun q=>?_
  have q':(n:Int) < ((ns.length:Nat):Int):=by lia
  first
   | (rw [decide_eq_true q'] at h5; exact absurd h5 (by decide))
   | (simp at h5; lia)
 cases hwl with
 | cons w1 w2=>
  cases w2
  cases w1 with
  | list ho hall=>exact ⟨_,_,ns,rfl,rfl,ho,GZ ns _ hall,hlen⟩
theorem N1 (l:OpenLaw) (args:List WData):l.row.toRowW.claim.post args (.bool true) args=true:=
 postW_of (r:=l.row.toRowW) (X:=(true == true))
  (show WShape.has [] (.bool true) .bool=true by first | rfl | decide | simp [WShape.has,WShape.arms,WShape.armsAll])
  (show (WTm.eq .res (.lit (.bool true))).value [] { args:=args,res:=some (.bool true),after:=args } = some (.bool (true == true)) from w_eq_bool (w_res rfl) w_lit) rfl
theorem attach_call {l:OpenLaw} {n:Nat} {q:Program} {loose:List Str} {XP:(Str->Option Value)->Heap->Prop} {YP:World->Heap->Prop} {d:DefRec}
  (hn:l.most=some n) (hdf:d.params.defaults=[])
  (call:∀ (w:World) (s₀ A7:Shared) (mg mb:Str->Option Value) (fa:Addr) (o:Obj) (pm cd doc:Value) (a:Addr) (vs:List Value) (ns:List Int),
   Ground q loose [] XP w s₀ mg mb A7.heap->YP w A7.heap ->
   A7.heap.get? fa=some o->o.data=.func (docDef d.name d.params d.body d.scope pm cd doc)->A7.heap.CodeRec cd d.name->mg d.name=some (.ref fa) ->
   A7.heap.get? a=some { cls:=.type "list",data:=.seq vs.toArray }->IntsAre vs ns->ns.length<=n->A7.gens=#[] ->
   codeAny (model l.prog w) callerA (.call (.ref fa) ⟨[.ref a],[]⟩) (fun r s'=>r=.ok (.ret (.bool true))/\OldK A7.heap s'.heap/\s'.os=A7.os/\AllBare s'.gens) A7) :
  WalkO q loose XP YP l.row.toRowW d [] (fun f vs=>PySem.call f vs):=by
 intro w s₀ A7 mg mb G Y fa o pm cd doc dV kV ho hd hcd hD hmg hg args vals as hpre hlay hrd hwl hlo;obtain rfl:dV=.none:=Dflts.none hD hdf;obtain rfl:kV=.none:=Dflts.noKw hD;obtain ⟨a,vs,ns,rfl,rfl,hobj,hints,hlen⟩:=Nu hn hpre hwl;refine enter_call (codeAny_mono (call w s₀ A7 mg mb fa o pm cd doc a vs ns G Y ho (fd_plain hd) hcd hmg hobj hints hlen hg) fun r s' hq=>?_);obtain ⟨rfl,h2,h3,h4⟩:=hq;exact ⟨.inl ⟨.bool true,.bool true,[],rfl,fun _=>rfl,.bool true,N1 l _,fun _=>⟨List.Pairwise.nil,fun _ hm=>(nomatch hm)⟩⟩,h2,h3,h4⟩
section
variable {prog:Program} {w:World} {A:Around} {E:Value->Shared->Prop} {s:Shared} {K:Frag}
end
end Att
namespace L2
open PySem PySem.Spec PyProof.Rows
theorem Jj:∀ {vs:List Value} {ns:List Int},IntsAre vs ns->Ax (ns.map V.int) vs
 | _,_,.nil=>.nil
 | _,_,.cons n t h=>.cons ⟨t,rfl⟩ (Jj h)
def RP (H:Hp):Prop:=∀ b,H b=none\/∃ o xs,H b=some (.frz o (.lst xs))
theorem Qd {P:Program} {w:World} {K:XB} {mg mb:Str->Option Value} {CX:Q6} {k:Nat} {fa a:Addr} {fd:FuncData} {x:Str} {sp:Sp} {A7:Shared} {vs:List Value} {ns:List Int}
  (KX:K.In A7.heap) (hns:A7.heap.Ns mainGlobals mg) (hb:A7.heap.Ns builtinsNs mb) (hbb:∀ x:Str,x ≠ "__name__"->mb x=bootBuiltins x) (hlim:A7.heap.NoLimit) (hg:A7.gens=#[])
  (ha:A7.heap.get? a=some { cls:=.type "list",data:=.seq vs.toArray }) (hi:IntsAre vs ns) (hl:ns.length<=sizeLine) (hr:D6 k callerA)
  (F:∀ base:Heap,K.In base->base.Ns mainGlobals mg->AJ P w K mg base CX k fa fd [x] sp) (hbind:∀ (s:Shared) (u:Value),BindsTo s fd ⟨[u],[]⟩ [(x,u)])
  (hsp:∀ H:Hp,RP H->AA K H a (ns.map V.int)->sp [.ref a] H (fun v _=>v=.bl true) fun _ _ _=>False)
  (hCX:∀ H e s',CX [] H A7 (fun _ _ _=>False) e s'->False) :
  codeAny (model P w) callerA (.call (.ref fa) ⟨[.ref a],[]⟩) (fun r s'=>r=.ok (.ret (.bool true))/\OldK A7.heap s'.heap/\s'.os=A7.os/\AllBare s'.gens) A7:=by
 have rv:=Jj hi;have lenV:=hi.length;have core:∀ H:Hp,RP H->AA K H a (ns.map V.int)->F5 P w H A7.heap->(∀ b,H b ≠ none->b=a)->(H a ≠ none->K.lookup a=none) ->
   codeAny (model P w) callerA (.call (.ref fa) ⟨[.ref a],[]⟩) (fun r s'=>r=.ok (.ret (.bool true))/\OldK A7.heap s'.heap/\s'.os=A7.os/\AllBare s'.gens) A7:=by
  intro H hO hS hok hA hK;have base_of:∀ {b:Addr} {o:Obj},A7.heap.get? b=some o->H b=none->(Kr A7.heap H).get? b=some o:=fun e n=>Qh e n
  have noA:∀ {b:Addr} {o:Obj} {es:Array DictEntry} {ep:Nat},A7.heap.get? b=some o->o.data=.dict es ep->H b=none:=fun {b o es ep} e d=>by
   cases q:H b with
   | none=>rfl
   | some u=>
    have e':b=a:=hA b (by rw [q]; simp);subst e';rw [ha] at e; cases e;have d':Data.seq vs.toArray _=Data.dict es ep:=d;cases d'
  have nsK:∀ {b:Addr} {m:Str->Option Value},A7.heap.Ns b m->(Kr A7.heap H).Ns b m:=fun {b m} ⟨o,es,ep,e,d,r⟩=>⟨o,es,ep,base_of e (noA e d),d,r⟩
  have hKb:K.In (Kr A7.heap H):=fun b o e=>base_of (KX b o e) (by
   cases q:H b with
   | none=>rfl
   | some u=>
    have e':b=a:=hA b (by rw [q]; simp);subst e';rw [hK (by rw [q]; simp)] at e; cases e)
  have hM:Mod K mg (Kr A7.heap H):=⟨hKb,nsK hns,⟨mb,nsK hb,hbb⟩,let ⟨mc,h1,h2⟩:=hlim; ⟨mc,nsK h1,h2⟩⟩
  have e0:RR P w K mg (Kr A7.heap H) callerA [] A7 H:=⟨rfl,hM,fun b o e=>Ro e,Nat.le_of_eq (Ob _ _),trivial,fun b hb=>absurd (show b ∈ ([]:List Addr) from hb) (by simp),hok,.of_eq hg⟩
  refine codeAny_mono ((F _ hKb (nsK hns)).run callerA [] A7 H ⟨[.ref a],[]⟩ [.ref a] [.ref a] _ _ hr e0 (hbind A7 (.ref a)) (.cons rfl .nil) (hsp H hO hS)) fun r s' h=>?_
  cases r with
  | error e=>exact (hCX H e s' h).elim
  | ok fl=>
   cases fl with
   | next=>exact False.elim h
   | brk=>exact False.elim h
   | cont=>exact False.elim h
   | ret u=>
    obtain ⟨v,H',os,bare,un,WN,r',q⟩:=h;have q':v=.bl true:=q;subst q';obtain rfl:u=Value.bool true:=r';refine ⟨rfl,OldK.of_keep fun b o e=>?_,os,bare⟩;cases q:H b with
    | none=>exact un.keep b o e q (by intro z; exact absurd (show b ∈ ([]:List Addr) from z) (by simp)) (by simp)
    | some u=>
     rcases hO b with z | ⟨ob,xs,z⟩
     ·rw [q] at z; cases z
     ·have z2:=un.frzs b ob _ z;obtain ⟨e1,_⟩:=hok b _ z;obtain ⟨e2,_⟩:=WN b _ z2;rw [e] at e1; cases e1;exact e2
 cases hk:K.lookup a with
 | some o=>
  have e:=KX a o hk;rw [ha] at e;cases e
  refine core (fun _=>none) (fun _=>.inl rfl) (.inr ⟨_,vs.toArray,_,hk,rfl,rfl,rfl,by rw [Yf,lenV]; exact hl,by simpa using rv⟩) (fun b u z=>by have z':(none:Option HO)=some u:=z; cases z') (fun b z=>absurd rfl z) fun z=>absurd rfl z
 | none=>
  refine core (fun b=>if b=a then some (.frz { cls:=.type "list",data:=.seq vs.toArray } (.lst (ns.map V.int))) else none) (fun b=>?_) (.inl (.inr ⟨{ cls:=.type "list",data:=.seq vs.toArray },if_pos rfl⟩)) (fun b u z=>?_) (fun b z=>?_) fun _=>hk
  ·by_cases hb:b=a
   ·exact .inr ⟨_,_,if_pos hb⟩
   ·exact .inl (if_neg hb)
  ·by_cases hb:b=a
   ·have z':=(if_pos hb).symm.trans z;cases z'
    subst hb;exact ⟨ha,by rw [X8]; exact hl,vs,_,rv,ha⟩
   ·have z':=(if_neg hb).symm.trans z;cases z'
  ·by_cases hb:b=a
   ·exact hb
   ·exact absurd (if_neg hb) z
theorem walk_of {l:ZC} {n k:Nat} {q:Program} {loose:List Str} {XP:(Str->Option Value)->Heap->Prop} {YP:World->Heap->Prop} {d:DefRec} {K:Params->XB} {CX:World->Q6} {sp:World->Sp} {x:Str}
  (hn:l.most=some n) (WQ:n<=sizeLine) (hdf:d.params.defaults=[]) (hr:D6 k callerA)
  (hY:∀ (w:World) (h:Heap),YP w h->(K w.params).In h)
  (F:∀ (w:World) (mg:Str->Option Value) (fa:Addr) (h:Heap),(K w.params).In h->h.Ns mainGlobals mg->mg d.name=some (.ref fa) ->
   ∃ fd:FuncData,(∀ (s:Shared) (u:Value),BindsTo s fd ⟨[u],[]⟩ [(x,u)]) /\
    ∀ base:Heap,(K w.params).In base->base.Ns mainGlobals mg->AJ l.prog w (K w.params) mg base (CX w) k fa fd [x] (sp w))
  (hsp:∀ (w:World) (H:Hp) (a:Addr) (ns:List Int),ns.length<=n->RP H->AA (K w.params) H a (ns.map V.int)->sp w [.ref a] H (fun v _=>v=.bl true) fun _ _ _=>False)
  (hCX:∀ (w:World) (H:Hp) (s:Shared) (e:Value) (s':Shared),CX w [] H s (fun _ _ _=>False) e s'->False) :
  aT q loose XP YP l.row.toRowW d [] (fun f vs=>PySem.call f vs):=by
 refine Att.attach_call hn hdf fun w s₀ A7 mg mb fa o pm cd doc a vs ns G Y ho hd hcd hmg hobj hints hlen hg=>?_
 have KX:=hY w _ Y;obtain ⟨fd,hb,hF⟩:=F w mg fa _ KX G.T.g hmg;exact Qd KX G.T.g G.T.b G.T.builtins G.T.nolimit hg hobj hints (Yo hlen WQ) hr hF hb (fun H hO hS=>hsp w H a ns hlen hO hS) fun H e s'=>hCX w H A7 e s'
def DZ (s:Stmt):Arguments:=match s with
 | .FunctionDef _ a _ _ _ _ _ _ _ _=>a
 | _=>{ posonlyargs:=[],args:=[],vararg:=none,kwonlyargs:=[],kw_defaults:=[],kwarg:=none,defaults:=[] }
def BJ (s:Stmt):List Stmt:=match s with
 | .FunctionDef _ _ b _ _ _ _ _ _ _=>b
 | _=>[]
def Ap (s:Stmt):Scope:=match s with
 | .FunctionDef _ _ _ _ _ _ sc _ _ _=>sc
 | _=>{ kind:=.function,names:=[],isGenerator:=false,isCoroutine:=false }
abbrev BN:Q6:=fun _ _ _ _ _ _=>False
abbrev E0:XK:=fun _ _ _=>False
theorem Aw {X:Cx}:Mh BN X E0:=fun _ _ _ _ _ _ _ h=>h.elim
structure Fz (K:XB) (x qual:Str) (st:Stmt) (f:Addr) (fd:FuncData):Prop where
 ex:∃ (oc:Value) (od:Option Addr) (kV doc pm:Value) (an:Option Addr) (cdv ct:Value) (osl:Array (Option Value)),
  fd=YL x qual (DZ st) (BJ st) (Ap st) .none kV doc pm an cdv ct/\K.lookup f=some ⟨oc,od,.func fd,osl⟩/\Zz K cdv qual=true
 kp:Zy K (.ref f)=true
section
variable {P:Program} {w:World} {K:XB} {mg:Str->Option Value} {base:Heap}
theorem Fz.ok {x qual:Str} {st:Stmt} {f:Addr} {fd:FuncData} {N ps:List Str} {k:Nat} {sp:Sp} (F:Fz K x qual st f fd) (S:AL N ps (Ap st)) (len:∀ vs H Q E,sp vs H Q E->vs.length=ps.length)
  (hbody:∀ (cdv:Value) (A:Around) (outer:List Env) (s:Shared) (H:Hp) (vs:List V) (Q:VK) (E:XK),D6 k (A.deeper (envOfC qual (Ap st) s.heap.objs.size f cdv))->sp vs H Q E ->
   ∃ t,Kw (Hh BN P w K mg base N qual (Ap st) f cdv A outer s H E).nox (BJ st) t/\t { nx:=fun _ H'=>Q .non H',rt:=Q } (start N vs) H):AJ P w K mg base BN (k + 1) f fd ps sp:=by
 obtain ⟨oc,od,kV,doc,pm,an,cdv,ct,osl,rfl,lk,hcd⟩:=F.ex;refine fn_of lk hcd S len fun A outer s H vs Q E hr hsp=>?_
 obtain ⟨t,h,q⟩:=hbody cdv A outer s H vs Q E hr hsp;exact ⟨t,h.nox,q⟩
theorem Fz.binds {x qual:Str} {st:Stmt} {f:Addr} {fd:FuncData} {ps:List Str} (F:Fz K x qual st f fd)
  (h:∀ (kV doc pm:Value) (an:Option Addr) (cdv ct:Value) (us:List Value),us.length=ps.length->bindArgs (YL x qual (DZ st) (BJ st) (Ap st) .none kV doc pm an cdv ct) ⟨us,[]⟩=pure (ps.zip us)):GU K fd ps []:=by
 obtain ⟨oc,od,kV,doc,pm,an,cdv,ct,osl,rfl,lk,hcd⟩:=F.ex;exact .all (h kV doc pm an cdv ct)
theorem TC {x qual:Str} {st:Stmt} {f:Addr} {oc:Value} {od an:Option Addr} {osl:Array (Option Value)} {kV doc pm cdv ct:Value} (l:K.lookup f=some ⟨oc,od,.func (YL x qual (DZ st) (BJ st) (Ap st) .none kV doc pm an cdv ct),osl⟩)
  (c:Zz K cdv qual=true) (k:Zy K (.ref f)=true):Fz K x qual st f (YL x qual (DZ st) (BJ st) (Ap st) .none kV doc pm an cdv ct):=⟨⟨oc,od,kV,doc,pm,an,cdv,ct,osl,rfl,l,c⟩,k⟩
end
theorem Dy {A:Around} {k:Nat} (hr:D6 k A):A.units + 1 < cLine:=Nat.lt_of_le_of_lt (Nat.add_le_add_left (by decide:1<=64) _) hr.units
section
variable {X:Cx}
theorem pv (i:Nat) {x:Str} {pos:Pos} (hN:X.N[i]? = some x:=by rfl) (hv:Vis X.env.scope x:=by first | exact Or.inl rfl | exact Or.inr (Or.inl rfl) | exact Or.inr (Or.inr rfl)) (hd:(x == ("__debug__":Str))=false:=by decide)
  (hcd:(x == ("__classdict__":Str))=false:=by decide):PE X (.Name x pos) (QQ i):=SU hN hv hd hcd
end
theorem Ej {A B:Prop} (h:B):if false=true then A else B:=by
 rw [if_neg Yc];exact h
theorem FP {A B:Prop} (h:A):if true=true then A else B:=by
 rw [if_pos rfl];exact h
theorem DI {c A B:Prop} [Decidable c] (h1:c->A) (h2:¬ c->B):if c then A else B:=by
 by_cases h:c
 ·rw [if_pos h];exact h1 h
 ·rw [if_neg h];exact h2 h
def Au (H H':Hp):Prop:=∀ b o,H b=some o->H' b=some o
theorem Au.refl (H:Hp):Au H H:=fun _ _ h=>h
theorem Au.trans {H H1 H2:Hp} (a:Au H H1) (b:Au H1 H2):Au H H2:=fun c o h=>b c o (a c o h)
theorem Au.free {H H':Hp} (e:Au H H') {l:Addr} (h:H' l=YG):H l=YG:=by
 cases q:H l with
 | none=>rfl
 | some o=>
  rw [e l o q] at h;cases h
section
variable {κ:Type} [DecidableEq κ]
theorem OF {kvs:List (κ × V)} {k:κ} (h:Bi kvs k=none):¬ k ∈ kvs.map (·.1):=by
 intro m;obtain ⟨p,hp,e⟩:=Ya.mp m;have q:(kvs.any fun kv=>decide (kv.1=k))=true:=YT.mpr ⟨p,hp,decide_eq_true e⟩;rw [Cd,h] at q;exact absurd q (by simp)
end
abbrev Am (X:Cx) (scope:Scope) (cl:List (Str × Addr)) (N:List Str) (s2:Shared) (H:Hp) (C:Addr) (fp:List Addr):Cx where
 prog:=X.prog
 w:=X.w
 K:=X.K
 mg:=X.mg
 base:=X.base
 A:=X.A
 N:=N
 s₀:=s2
 H₀:=H
 env:=compEnvC scope cl C X.env
 outer:=X.stack
 stack:=X.stack
 ex:=fp
 fn:=fun _=>false
 calm:=X.calm
 pn:=[]
 xe:=fun _ _=>False
structure AS (X:Cx) (scope:Scope) (cl:List (Str × Addr)):Prop where
 clos:closureFor scope X.env=pure cl
 cell:∀ y ∈ scope.names,y.2 ≠ .cell
 kind:scope.kind=.function
 names:∀ y ∈ scope.names,y.2=.local->scope.names.lookup y.1=some .local
 sub:∀ x c,cl.lookup x=some c->X.env.cells.lookup x=some c
 has:∀ x,((relabel scope X.env).names.lookup x=some .cell\/(relabel scope X.env).names.lookup x=some .free)->∃ c,cl.lookup x=some c
def AU (X:Cx) (cl:List (Str × Addr)) (scope:Scope) (N:List Str) (σ Ar:St):Prop:=
 Ar.length=N.length/\∀ (i:Nat) (x:Str) (v:V),N[i]? = some x->Ar[i]? = some (some v) ->
  (∃ j:Nat,X.N[j]? = some x/\σ[j]? = some (some v))/\(X.env.kindOf x=some .cell\/X.env.kindOf x=some .free) /\
   ((relabel scope X.env).names.lookup x=some .cell\/(relabel scope X.env).names.lookup x=some .free)
theorem AU.none (X:Cx) (cl:List (Str × Addr)) (scope:Scope) (N:List Str) (σ:St):AU X cl scope N σ (N.map fun _=>YG):=by
 refine ⟨by simp,fun i x v h1 h2=>?_⟩;rw [XU,h1] at h2;cases h2
section
variable {X:Cx} {pins:List (Addr × Obj)} {σ Ar:St} {H H':Hp} {s2 s':Shared} {scope:Scope} {cl:List (Str × Addr)} {N:List Str} {fp:List Addr} {C D:Addr} {A5 h':Heap} {t':Nat}
theorem Fw (I:An X pins σ H s2) (hf:∀ b ∈ fp,Dl X pins H b) (hfo:∀ b ∈ fp,∃ o,s2.heap.get? b=some o) (co:AS X scope cl) (hσ:AU X cl scope N σ Ar)
  (k:∀ b o,s2.heap.get? b=some o->A5.get? b=some o) (hD:s2.heap.objs.size<=D) (hC:s2.heap.objs.size<=C) (hDC:C ≠ D)
  (new:A5.get? D=some { cls:=.type "list",data:=.seq ([]:List Value).toArray 0 }\/∃ n,A5.get? D=some { cls:=.type "list",data:=.seq ([]:List Value).toArray n }) {m:Str->Option Value} (hn:A5.Ns C m) :
  An (Am X scope cl N s2 H C fp) [] Ar (upd H D (.lst [])) { s2 with heap:=A5,toks:=t' }:=by
 have fD:H D=none:=I.hok.fresh hD;have fC:H C=none:=I.hok.fresh hC;have newO:A9 X.prog X.w (upd H D (.lst [])) A5 D (.lst []):=by
  refine ⟨Yr _,[],?_⟩;rcases new with e | ⟨n,e⟩
  ·exact ⟨0,.nil,e⟩
  ·exact ⟨n,.nil,e⟩
 have lts:∀ b ∈ fp,b < s2.heap.objs.size:=fun b hb=>let ⟨_,e⟩:=hfo b hb; XE e
 have cells_lt:∀ x c,cl.lookup x=some c->c < s2.heap.objs.size:=fun x c e=>by
  obtain ⟨v,q⟩:=I.cell x c (co.sub x c e);exact q.lt
 have ok:Cx.Ok (Am X scope cl N s2 H C fp):=by
  refine ⟨I.ok.mod,?_,I.ok.glob,I.ok.blt,hC,?_,?_,?_,I.ok.hd,I.ok.frames,.inl rfl,?_,I.bs,Yo I.ok.bsz I.sz,?_,?_,I.stack,I.stkFree⟩
  ·exact co.kind
  ·exact fun x y c e1 e2=>I.ok.inj x y c (co.sub x c e1) (co.sub y c e2)
  ·exact fun x h=>co.has x h
  ·exact fun x c h _=>by cases h
  ·intro b hb;refine ⟨fun e=>?_,fun x c e=>(hf b hb).2.2.2.2.1 x c (co.sub x c e)⟩;have z:=lts b hb;exact absurd (XH z hC) (by rw [show b=C from e]; exact Yx _)
  ·intro b o e hb;have Gb:b ∈ fp:=hb;rcases (hf b Gb).2.2.2.1 with z | z
   ·exact I.ok.noex b o e z
   ·exact absurd (XH (XE e) (Yo I.ok.bsz z)) (Yx _)
  ·intro b hb hz;have Gb:b ∈ fp:=hb;obtain ⟨_,f1,f2,_⟩:=hf b Gb;rcases XC.mp (I.stkSub b hz) with e | e
   ·exact f1 e
   ·exact f2 e
 refine ⟨ok,rfl,I.bare,Un.laid k hD fD,?_,?_,?_,?_,?_,I.hok.laid k hD newO,hσ.1⟩
 ·refine ⟨m,hn,fun i x v e1 e2 _=>?_⟩;obtain ⟨⟨j,j1,j2⟩,kk,kr⟩:=hσ.2 i x v e1 e2;obtain ⟨mo,_,hl⟩:=I.loc;obtain ⟨u,r,l⟩:=hl j x v j1 j2 (by
   rcases kk with z | z
   ·exact .inr (.inl z)
   ·exact .inr (.inr z))
  refine ⟨u,r,.inr ⟨kr,?_⟩⟩;obtain ⟨c,hc⟩:=co.has x kr;rcases l with ⟨z,_⟩ | ⟨_,c',F4,hcell⟩
  ·rcases kk with q | q
   ·rw [z] at q; cases q
   ·rw [z] at q; cases q
  ·have e3:=co.sub x c hc;rw [F4] at e3;have e4:c'=c:=Yi.inj e3;subst e4;obtain ⟨o,ho,hd⟩:=hcell;exact ⟨c',hc,o,k _ o ho,hd⟩
 ·intro x c e;obtain ⟨v,o,ho,hd⟩:=I.cell x c (co.sub x c e);exact ⟨v,o,k _ o ho,hd⟩
 ·show upd H D (.lst []) C=none
  rw [Af hDC];exact fC
 ·intro x c e;rw [Af (XQ (XH (cells_lt x c e) hD))];exact I.freeC x c (co.sub x c e)
 ·intro p hp;cases hp
theorem EF {pl:List (Addr × Obj)} (I:An X pins σ H s2) (hf:∀ b ∈ fp,Dl X pins H b) (hC:s2.heap.objs.size<=C) (I2:An (Am X scope cl N s2 H C fp) pl Ar H' s')
  (hs:Heap.SameBut C s'.heap h'):An X pins σ H' { s' with heap:=h' }:=by
 have nC:∀ b o,s2.heap.get? b=some o->b ≠ C:=fun b o e=>XQ (XH (XE e) hC)
 have u:=I2.base;refine I.call' (s':={ s' with heap:=h' }) (ch:=fp) I2.os ⟨?_,?_,u.free,?_,u.tups,u.frzs,u.tbls⟩ ?_ I2.bare fun b hb=>?_
 ·exact fun b o e n h1 h2=>(hs.2 b (nC b o e)).trans (u.keep b o e n h1 h2)
 ·intro b o e n h1 h2;obtain ⟨sl,q⟩:=u.slot b o e n h1 h2;exact ⟨sl,(hs.2 b (nC b o e)).trans q⟩
 ·intro b o e h2;obtain ⟨o',q⟩:=u.there b o e h2;exact ⟨o',(hs.2 b (nC b o e)).trans q⟩
 ·intro b ob e;have hfree:H' C=none:=I2.free;refine (I2.hok b ob e).stay (fun c w' hc q=>(hs.2 c ?_).trans q) (fun _ q=>q) fun _ _ q=>q
  rintro rfl;rcases hc with rfl | hc
  ·rw [hfree] at e; cases e
  ·rw [hfree] at hc; cases hc
 ·obtain ⟨_,f1,_,f3,f4,f5⟩:=hf b hb;exact ⟨f3,f1,f4,f5⟩
end
section
variable {prog:Program} {w:World} {A:Around} {R:Result->Shared->Prop} {s:Shared}
theorem BK {elt target iter:Expr} {ifs:List Expr} {scope:Scope} {pos:Pos} {it acc:Value} {env:Env} (I:Nat->Shared->Prop)
  (turn:∀ n s,I n s->wpAny (model prog w) A (pyNext it) (fun r A7=>match r with
   | none=>R (.ok .next) A7
   | some v=>wpAny (model prog w) A (letOwnedTupleGo target it v) (fun _ En=>wpAny (model prog w) A (assign target env v) (fun _ Cr=>
     wpAny (model prog w) A (forIn ifs true fun c r=>if r=true then do let ok <- isTrue c env (eval c env); pure (ForInStep.yield ok) else pure (ForInStep.yield r)) (fun ok Bu=>
      if ok=true then wpAny (model prog w) A (eval elt env) (fun x Hy=>
       wpAny (model prog w) A (call (.builtin "list.append") [acc,x]) (fun _ Hx=>∃ m,m < n/\I m Hx) (notedBy (model prog w) A env fun e s'=>R (.error e) s') Hy) (notedBy (model prog w) A env fun e s'=>R (.error e) s') Bu
      else ∃ m,m < n/\I m Bu) (notedBy (model prog w) A env fun e s'=>R (.error e) s') Cr) (notedBy (model prog w) A env fun e s'=>R (.error e) s') En) (notedBy (model prog w) A env fun e s'=>R (.error e) s') A7) (notedBy (model prog w) A env fun e s'=>R (.error e) s') s)
  (n:Nat) (h:I n s) :
  codeAny (model prog w) A (.compLoop (.ListComp elt [⟨target,iter,ifs,0⟩] scope pos) 0 it acc env) R s:=by
 refine codeAny_loop rfl I (fun n s hI=>?_) n h;show wpAny _ A ((compTurn (.ListComp elt [⟨target,iter,ifs,0⟩] scope pos) 0 it acc env).onRaise (fun x=>do noteFrame x env; theTreesLotGoes x)) _ _ s
 refine wpAny_noted ?_;rw [compTurn_list];refine wpAny_bind (wpAny_standAt (wpAny_bind (wpAny_mono (turn n s hI) (fun r A7 A5=>?_) fun _ _ h'=>h')));cases r with
 | none=>exact wpAny_pure A5
 | some v=>
  refine wpAny_bind (wpAny_mono A5 (fun _ En Ie=>?_) fun _ _ h'=>h');refine wpAny_bind (wpAny_mono Ie (fun _ Cr Ic=>wpAny_bind (wpAny_mono Ic (fun ok Bu Gp=>?_) fun _ _ h'=>h')) fun _ _ h'=>h');cases ok with
  | false=>exact wpAny_pure ⟨rfl,Gp⟩
  | true=>
   exact wpAny_bind (wpAny_bind (wpAny_mono Gp (fun x Hy LV=>wpAny_bind (wpAny_mono LV (fun _ Hx LU=>wpAny_pure (wpAny_pure ⟨rfl,LU⟩)) fun _ _ h'=>h')) fun _ _ h'=>h'))
end
def QF (X:Cx) (ifs:List Expr) (t:TT):Prop:=
 ∀ ⦃pins:List (Addr × Obj)⦄ (s:Shared) (σ:St) (H:Hp) (Q:Bool->Hp->Prop),An X pins σ H s->t σ H Q ->
  wpAny (model X.prog X.w) X.A (forIn ifs true fun c r=>if r=true then do let ok <- isTrue c X.env (eval c X.env); pure (ForInStep.yield ok) else pure (ForInStep.yield r)) (TP X pins σ Q) X.xe s
def JU:TT:=fun _ H Q=>Q true H
theorem Br {X:Cx}:QF X [] JU:=fun _ _ _ H _ I h=>wpAny_tests_nil ⟨H,I,h⟩
theorem Hn {X:Cx} {c:Expr} {t:TT} (h:PT X c t):QF X [c] t:=fun pins s σ H Q I q=>wpAny_tests_one (h (pins:=pins) s σ H Q I q)
def Mo (wi:TI) (g:TG) (tt:TT) (te:TE) (σ0:St->St):TE:=fun σ H Q=>wi σ H fun J H1=>∀ D,H1 D=none->∃ W:Nat->Nat->St->Hp->Prop,(∃ m,W 0 m (σ0 σ) (upd H1 D (.lst []))) /\
 ∀ i m Ar H',W i m Ar H'->(J.stop i H'/\Q (.ref D) H')\/(J.go i H'/\∀ x H2,J.yld i H' x H2->g x Ar H2 fun A6 H3=>tt A6 H3 fun b H4=>
  if b=true then te A6 H4 (fun v H5=>∃ acc,H5 D=some (.lst acc)/\acc.length < sizeLine/\∃ m',m' < m/\W (i + 1) m' A6 (upd H5 D (.lst (acc ++ [v])))) else ∃ m',m' < m/\W (i + 1) m' A6 H4)
theorem BQ {X:Cx} {tg iter elt:Expr} {ifs:List Expr} {scope:Scope} {cl:List (Str × Addr)} {N:List Str} {pos:Pos} {wi:TI} {g:TG} {tt:TT} {te:TE} {σ0:St->St} (hc:X.calm=true) (co:AS X scope cl)
  (hσ:∀ σ,σ.length=X.N.length->AU X cl scope N σ (σ0 σ)) (hi:PI X tg iter wi)
  (hb:∀ s2 H C fp,PG (Am X scope cl N s2 H C fp) tg g/\QF (Am X scope cl N s2 H C fp) ifs tt/\PE (Am X scope cl N s2 H C fp) elt te)
  (hs:∀ x,foldedSetIterable iter X.env x=pure x:=by intro _; rfl):PE X (.ListComp elt [⟨tg,iter,ifs,0⟩] scope pos) (Mo wi g tt te σ0):=by
 intro pins s σ H Q I h;rw [eval_ListComp];refine wpAny_comprehension_free (use:=none) rfl hs co.clos co.kind co.names (wpAny_mono (hi (pins:=pins) s σ H _ I h) (fun xv s1 h1=>wpAny_mono h1 (fun itv s2 h2=>?_) fun _ _ e=>e) fun _ _ e=>e);obtain ⟨it,fp,tn,J,H2,rfl,I2,T,Eh,f2,hW⟩:=h2;refine wpAny_newObj_type (wpAny_newFunctionEnv co.cell (by intro y hy; cases hy) (fun A5 Bo Bf=>?_) co.kind);dsimp only at Bo Bf ⊢;generalize Gq:s2.heap.push { cls:=.type "list",dict:=none,data:=.seq ([]:List Value).toArray } = HH at Bo Bf ⊢;have AY:HH.objs.size=s2.heap.objs.size + 1:=by rw [<-Gq,Ys]
 have old:∀ b o,s2.heap.get? b=some o->A5.get? b=some o:=fun b o e=>
  Bf.extBut b o (XQ (by rw [AY]; exact Yl (XE e))) (X9 _ (Gq ▸ X9 _ e))
 have newD:∃ n,A5.get? s2.heap.objs.size=some { cls:=.type "list",data:=.seq ([]:List Value).toArray n }:=
  ⟨_,Bf.extBut _ _ (XQ (by rw [AY]; exact Ym _)) (X9 _ (Gq ▸ XJ _ rfl))⟩
 obtain ⟨W,⟨m0,w0⟩,turn⟩:=hW s2.heap.objs.size I2.fresh;have hfo:∀ b ∈ fp,∃ o,s2.heap.get? b=some o:=fun b hb=>let ⟨o,e,_⟩:=T.obj _ _ Eh b hb; ⟨o,e⟩
 have I3:An (Am X scope cl N s2 H2 HH.objs.size fp) [] (σ0 σ) (upd H2 s2.heap.objs.size (.lst [])) { s2 with heap:=A5,toks:=s2.toks + ([]:List (Str × Value)).length }:=
  Fw I2 f2 hfo co (hσ σ I.len) old (XD _) (by rw [AY]; exact Yt _) (Yy (by rw [AY]; exact Ym _)) (.inr newD) Bo
 have fC:s2.heap.objs.size<=HH.objs.size:=by rw [AY]; exact Yt _
 obtain ⟨hg,ht,he⟩:=hb s2 H2 HH.objs.size fp;have loop:∀ Bu:Shared,Bu = { s2 with heap:=A5,toks:=s2.toks + ([]:List (Str × Value)).length } ->
   codeAny (model X.prog X.w) X.A (.compLoop (.ListComp elt [⟨tg,iter,ifs,0⟩] scope pos) 0 (.ref it) (.ref s2.heap.objs.size) (compEnvC scope cl HH.objs.size X.env))
    (compPost (model X.prog X.w) X.A X.xe none (EP X pins σ Q) (.ref s2.heap.objs.size) HH.objs.size) Bu:=by
  rintro Bu rfl;have stat:∀ {H':Hp} ,(∀ b ∈ fp,H' b=none)->∀ b ∈ fp,Dl (Am X scope cl N s2 H2 HH.objs.size fp) [] H' b:=fun hn b hb=>by
   refine ⟨hn b hb,?_,?_,.inl hb,?_,fun p hp=>by cases hp⟩
   ·obtain ⟨o,e⟩:=hfo b hb;exact XQ (show b < HH.objs.size by rw [AY]; exact Yl (XE e))
   ·intro hz;obtain ⟨_,q1,q2,_⟩:=f2 b hb;rcases XC.mp (I2.stkSub b hz) with e | e
    ·exact q1 e
    ·exact q2 e
   ·exact fun x c e=>(f2 b hb).2.2.2.2.1 x c (co.sub x c e)
  refine BK (fun n s'=>∃ i Ar H',An (Am X scope cl N s2 H2 HH.objs.size fp) [] Ar H' s'/\tn i s'.heap/\(∀ b ∈ fp,H' b=none)/\W i n Ar H') ?_ m0
   ⟨0,σ0 σ,_,I3,T.keep _ _ _ Eh fun b hb o e=>old b o e,fun b hb=>?_,w0⟩
  ·rintro n s4 ⟨i,DP,H4,I4,Jo,JG,w4⟩;rcases turn i n DP H4 w4 with ⟨stop,qn⟩ | ⟨go,step⟩
   ·refine wpAny_mono (T.done (Am X scope cl N s2 H2 HH.objs.size fp) rfl rfl rfl hc i [] s4 DP H4 (fun _ _=>False) I4 (stat JG) Jo stop) (fun r s5 ⟨hr,I5⟩=>?_) fun _ _ z=>z.elim
    subst hr;obtain ⟨m5,Oa,_⟩:=id I5.loc;exact ⟨m5,Oa,fun h' Lu=>⟨.ref _,H4,EF I2 f2 fC I5 Lu,rfl,qn⟩⟩
   ·refine wpAny_mono (T.item (Am X scope cl N s2 H2 HH.objs.size fp) rfl rfl rfl hc i [] s4 DP H4 (fun _ _=>False) I4 (stat JG) Jo go) (fun r s5 ⟨u,hr,h5⟩=>?_) fun _ _ z=>z.elim
    subst hr;refine wpAny_mono h5 (fun _ s6 ⟨x,H6,I6,r6,y6,Gd,Of⟩=>?_) fun _ _ z=>z.elim
    have Oz:=I6.pinned (stat Of) (T.obj _ _ Gd);refine wpAny_mono (hg s6 DP H6 x u _ Oz r6 (step x H6 y6)) (fun _ s7 ⟨D8,H7,I7,q7⟩=>?_) fun _ _ z=>z.elim
    refine wpAny_mono (ht s7 D8 H7 _ I7 q7) (fun ok s8 ⟨H8,I8,q8⟩=>?_) fun _ _ z=>z.elim
    have again:∀ {s9:Shared} {DO:St} {H9:Hp} ,An (Am X scope cl N s2 H2 HH.objs.size fp) ([] ++ BF fp s6.heap) DO H9 s9->(∃ m',m' < n/\W (i + 1) m' DO H9)->∃ m,m < n/\∃ i Ar H',An (Am X scope cl N s2 H2 HH.objs.size fp) [] Ar H' s9/\tn i s9.heap/\(∀ b ∈ fp,H' b=none)/\W i m Ar H':=fun {s9 DO H9} I9 n9=>by
     obtain ⟨m',hm,w9⟩:=n9;refine ⟨m',hm,i + 1,DO,H9,I9.unpinned,T.keep _ _ _ Gd fun b hb o e=>(I9.pin (b,o) (XO _ (XO _ (A8 hb e)))).1,fun b hb=>?_,w9⟩;obtain ⟨o,e,d⟩:=T.obj _ _ Gd b hb;exact (I9.pin (b,o) (XO _ (XO _ (A8 hb e)))).2.1
    cases ok with
    | false=>
     rw [if_neg Yc] at q8 ⊢;exact again I8 q8
    | true=>
     rw [if_pos rfl] at q8 ⊢;refine wpAny_mono (he s8 D8 H8 _ I8 q8) (fun y s9 ⟨v,H9,I9,r9,acc,hacc,hsz,q9⟩=>?_) fun _ _ z=>z.elim
     refine wpAny_mono (BR (X:=Am X scope cl N s2 H2 HH.objs.size fp) s9 D8 H9 (.ref s2.heap.objs.size) [v] (.ref s2.heap.objs.size) [y] (fun _ Hl=>∃ m',m' < n/\W (i + 1) m' D8 Hl) I9 rfl (.cons r9 .nil) ⟨_,acc,v,rfl,rfl,hacc,hsz,q9⟩) (fun _ LD ⟨_,Hl,O0,_,Ls⟩=>?_) fun _ _ z=>z.elim
     exact again O0 Ls
  ·have z:=(f2 b hb).1;obtain ⟨o,e⟩:=hfo b hb;rw [Af (XQ (XE e))];exact z
 exact codeAny_compStart_list (loop _ rfl) (T.self _ 0 _ _ _ (T.keep _ _ _ Eh fun b hb o e=>old b o e) (loop _ rfl))
def Its (x:Str):It:=⟨fun i _=>i < x.cps.size,fun i H v H'=>H'=H/\∃ c,x.cps[i]? = some c/\v=.str ⟨#[c]⟩,fun i _=>x.cps.size<=i⟩
theorem Nf {P:Program} {w:World} {K:XB} {tg:Expr} (it:Addr) (x:Str) (t:Tok):Md P w K tg (Its x) [it] it (fun i h=>h.IsStrIter it "str_ascii_iterator" x t i) where
 mem:=by simp
 obj:=fun i h st b hb=>by
  have e:b=it:=by simpa using hb
  subst e;obtain ⟨o,e,c,d⟩:=st;exact ⟨o,e,fun v z=>by rw [d] at z; cases z⟩
 keep:=fun i h h' st k=>let ⟨o,e,r⟩:=st; ⟨o,k it (by simp) o e,r⟩
 item:=by
  intro X hP hw hK hc i pins s σ H E I hf st hg;subst hP hw hK;obtain ⟨f0,f1,f2,f3,f4,f5⟩:=hf it (by simp);have R8:i < x.cps.size:=hg;refine wpAny_pyNext_ascii_item st (c:=x.cps[i]) (by simp [R8]) fun h' AV sb=>?_
  have I1:An X pins σ H { s with heap:=h',toks:=s.toks + 1 }:=I.turned (fun b o hb e=>(sb.2 b hb).trans e) f0 f1 f3 f4 f5;obtain ⟨o,e,c,d⟩:=id AV;exact ⟨_,rfl,JF (s:={ s with heap:=h',toks:=s.toks + 1 }) e c d (by decide) ⟨.str ⟨#[x.cps[i]]⟩,H,I1,⟨_,rfl⟩,⟨rfl,_,by simp [R8],rfl⟩,AV,fun b hb=>(hf b hb).1⟩⟩
 done:=by
  intro X hP hw hK hc i pins s σ H E I hf st hg;subst hP hw hK;obtain ⟨f0,f1,f2,f3,f4,f5⟩:=hf it (by simp);have R8:x.cps.size<=i:=hg;exact wpAny_pyNext_ascii_end (I.ok.hd hc) st (by simp [R8]) fun h' eb=>⟨rfl,I.turned (t':=s.toks) (fun b o hb e=>eb b o hb e) f0 f1 f3 f4 f5⟩
 self:=fun _ _ _ _ _ st h=>wpAny_pyIter_striter_ascii st h
theorem Nd {P:Program} {w:World} {K:XB} {tg:Expr} (it:Addr) (x:Str) (t:Tok):Md P w K tg (Its x) [it] it (fun i h=>h.IsStrIter it "str_iterator" x t i) where
 mem:=by simp
 obj:=fun i h st b hb=>by
  have e:b=it:=by simpa using hb
  subst e;obtain ⟨o,e,c,d⟩:=st;exact ⟨o,e,fun v z=>by rw [d] at z; cases z⟩
 keep:=fun i h h' st k=>let ⟨o,e,r⟩:=st; ⟨o,k it (by simp) o e,r⟩
 item:=by
  intro X hP hw hK hc i pins s σ H E I hf st hg;subst hP hw hK;obtain ⟨f0,f1,f2,f3,f4,f5⟩:=hf it (by simp);have R8:i < x.cps.size:=hg;refine wpAny_pyNext_wide_item st (c:=x.cps[i]) (by simp [R8]) fun h' AV sb=>?_
  have I1:An X pins σ H { s with heap:=h',toks:=s.toks + 1 }:=I.turned (fun b o hb e=>(sb.2 b hb).trans e) f0 f1 f3 f4 f5;obtain ⟨o,e,c,d⟩:=id AV;exact ⟨_,rfl,JF (s:={ s with heap:=h',toks:=s.toks + 1 }) e c d (by decide) ⟨.str ⟨#[x.cps[i]]⟩,H,I1,⟨_,rfl⟩,⟨rfl,_,by simp [R8],rfl⟩,AV,fun b hb=>(hf b hb).1⟩⟩
 done:=by
  intro X hP hw hK hc i pins s σ H E I hf st hg;subst hP hw hK;obtain ⟨f0,f1,f2,f3,f4,f5⟩:=hf it (by simp);have R8:x.cps.size<=i:=hg;exact wpAny_pyNext_wide_end (I.ok.hd hc) st (by simp [R8]) fun h' eb=>⟨rfl,I.turned (t':=s.toks) (fun b o hb e=>eb b o hb e) f0 f1 f3 f4 f5⟩
 self:=fun _ _ _ _ _ st h=>wpAny_pyIter_striter_wide st h
def iStr (tl:TE):TI:=fun σ H R=>tl σ H fun x H1=>∃ z,x=.str z/\R (Its z) H1
theorem SQ {X:Cx} {tg l:Expr} {tl:TE} (hl:PE X l tl):PI X tg l (iStr tl):=by
 intro pins s σ H R I h;refine Bx (hl (pins:=pins) s σ H _ I h) fun v s1 ⟨x,H1,I1,r1,q1⟩=>?_
 obtain ⟨z,rfl,q⟩:=q1;obtain ⟨t,rfl⟩:=r1;have fin:∀ b ∈ [s1.heap.objs.size],Dl X pins H1 b:=fun b hb=>by
  have e:b=s1.heap.objs.size:=by simpa using hb
  subst e;exact I1.fpOk (XD _) (I1.hok.fresh (XD _))
 cases ha:z.cps.all (· < 128)
 ·exact wpAny_pyIter_wide ha ⟨s1.heap.objs.size,[s1.heap.objs.size],_,_,H1,rfl,I1.kept (t':=s1.toks) fun b o e=>X9 _ e,Nd _ z t,⟨_,XJ _ rfl,rfl,rfl⟩,fin,q⟩
 ·exact wpAny_pyIter_ascii ha ⟨s1.heap.objs.size,[s1.heap.objs.size],_,_,H1,rfl,I1.kept (t':=s1.toks) fun b o e=>X9 _ e,Nf _ z t,⟨_,XJ _ rfl,rfl,rfl⟩,fin,q⟩
theorem EH {X:Cx} (hc:X.calm=true):Bq X (.builtin "all") (fun xs H Q=>∃ (p:Addr) (bs:List Bool),xs=[.ref p]/\AA X.K H p (bs.map V.bl)/\Q (.bl (bs.all id)) H):=by
 intro pins s σ H xs us Q I r h;obtain ⟨p,bs,rfl,hq,q⟩:=h;obtain ⟨u,rfl,ru⟩:=B7 r;cases ru
 obtain ⟨Ao,rv,pl,hz⟩:=I.list hq;have hlen:Ao.length=bs.length:=by rw [<-rv.length,X8]
 refine call_all_walk (wpAny_pyIter_list pl.isList ?_);have hne:p ≠ s.heap.objs.size:=by
  obtain ⟨o,n,e,_⟩:=pl;exact XQ (XE e)
 refine ⟨s.heap.objs.size,_,_,_,_,_,fun i=>bs.getD i true,rfl,Walks.list (A:=X.A.in1) (I.ok.hd hc) s.heap.objs.size p hne Ao.toArray,⟨⟨_,XJ _ rfl,rfl,rfl⟩,?_⟩,?_,?_⟩
 ·exact pl.isList.at fun o e=>X9 _ e
 ·intro i v s1 Q1 E1 hv hQ;have hv':Ao[i]? = some v:=by simpa using hv
  have hb:∃ b,bs[i]? = some b:=by
   cases e:bs[i]? with
   | some b=>exact ⟨b,rfl⟩
   | none=>
    have:=List.getElem?_eq_none_iff.mp e;have:=(XX.mp hv').1;lia
  obtain ⟨b,hb⟩:=hb;obtain ⟨u,hu,ru⟩:=rv.get (i:=i) (x:=V.bl b) (by rw [XU,hb]; rfl);rw [hv'] at hu;cases hu
  cases ru
  have e:bs.getD i true=b:=by rw [Yd,hb]; rfl
  have hQ':Q1 (bs.getD i true) s1:=hQ;rw [e] at hQ';exact wpAny_truthy_bool hQ'
 ·intro h' tk hk;have e:(YS Ao.toArray.size).all (fun i=>bs.getD i true)=bs.all id:=by
   rw [Yf,hlen];apply YA.mpr;simp only [Y4,Zc,id];constructor
   ·intro h b hb;obtain ⟨i,hi,e⟩:=Yn hb;have:=h i hi;rw [Yd,XA hi] at this;simpa [e] using this
   ·intro h i hi;rw [Yd,XA hi];exact h _ (Y6 hi)
  rw [e];refine ⟨.bl _,H,?_,rfl,q⟩;have I1:An X pins σ H { s with heap:=s.heap.push { cls:=.type "list_iterator",data:=.fields #[.ref p,.int 0 0] } }:=I.kept (t':=s.toks) fun b o e=>X9 _ e
  have F:=I.fpOk (XD _) (I.hok.fresh (XD _));obtain ⟨f0,f1,f2,f3,f4,f5⟩:=F;exact I1.turned (it:=s.heap.objs.size) (fun b o hb e=>hk b o (by simpa using hb) e) f0 f1 f3 f4 f5
theorem CH {X:Cx}:Bq X (.builtin "isinstance") (fun xs H Q=>∃ x c t b,xs=[x,.ty c]/\Ec X.K H x t/\Zw X.K t (.type c)=some b/\Q (.bl b) H):=by
 intro pins s σ H xs us Q I r h;obtain ⟨x,c,t,b,rfl,ty,e,q⟩:=h;obtain ⟨u,v,rfl,rx,rc⟩:=Mm r;cases rc
 exact NX I rx ty e fun tk=>⟨.bl b,H,I.tok tk,rfl,q⟩
theorem J6 {X:Cx}:EJ X (compareOp .LtE) (fun x y H Q=>∃ i j,x=.str i/\y=.str j/\Q (.bl (!(decide (j.cps.toList < i.cps.toList)))) H):=by
 intro pins s σ H x y v u Q I rx ry h;obtain ⟨i,j,rfl,rfl,q⟩:=h;obtain ⟨t,rfl⟩:=rx;obtain ⟨t',rfl⟩:=ry;exact PySem.P.le_str ⟨.bl _,H,I,rfl,q⟩
def tSlS (te:TE) (tl th:TO):TE:=fun σ H Q=>te σ H fun x H1=>tl σ H1 fun l H2=>th σ H2 fun u H3=>∃ z,x=.str z/\z.length<=sizeLine/\Q (.str (Txt.slice z l u)) H3
theorem FH {X:Cx} {e:Expr} {te:TE} {lo hi:Option Expr} {tl th:TO} {pos p2:Pos} (he:PE X e te) (hl:PO X lo tl) (hu:PO X hi th):PE X (.Subscript e (.Slice lo hi none p2) pos) (tSlS te tl th):=by
 intro pins s σ H Q I h;refine Subscript_ (Bx (he (pins:=pins) s σ H _ I h) fun v s1 ⟨x,H1,I1,r1,q1⟩=>?_);refine wpAny_Slice (Bx (hl (pins:=pins) s1 σ H1 _ I1 q1) fun vl s2 ⟨l,H2,I2,pl,q2⟩=>Bx (hu (pins:=pins) s2 σ H2 _ I2 q2) fun vu s3 ⟨u,H3,I3,pu,q3⟩=>?_);rw [evalPart_none];refine wpAny_pure ?_;obtain ⟨z,rfl,hz,q⟩:=q3;obtain ⟨t,rfl⟩:=r1;show wpAny (model X.prog X.w) X.A (subscriptTail e (.Slice lo hi none p2) (.str z t) (.ref s3.heap.objs.size)) (EP X pins σ Q) X.xe { s3 with heap:=s3.heap.push { cls:=.type "slice",data:=.fields #[vl,vu,.none] } }
 have kk:KeptH (fun h=>∀ b o,s3.heap.get? b=some o->h.get? b=some o):=fun h ob hh b o e=>X9 _ (hh b o e)
 have fin:ItemOn (model X.prog X.w) X.A X.xe (.str z t) (.ref s3.heap.objs.size) (EP X pins σ Q) { s3 with heap:=s3.heap.push { cls:=.type "slice",data:=.fields #[vl,vu,.none] } }:=by
  cases pl with
  | none=>
   cases pu with
   | none=>exact SBH.sliceItem_nn kk (fun _ _ e=>e) (fun h' t' k kp=>⟨.str _,H3,I3.kept kp,⟨_,rfl⟩,q⟩) hz
   | int j uj=>exact SBH.sliceItem_ns kk (fun _ _ e=>e) (fun h' t' k kp=>⟨.str _,H3,I3.kept kp,⟨_,rfl⟩,q⟩) hz
  | int i ui=>
   cases pu with
   | none=>exact SBH.sliceItem_sn kk (fun _ _ e=>e) (fun h' t' k kp=>⟨.str _,H3,I3.kept kp,⟨_,rfl⟩,q⟩) hz
   | int j uj=>exact SBH.sliceItem_ss kk (fun _ _ e=>e) (fun h' t' k kp=>⟨.str _,H3,I3.kept kp,⟨_,rfl⟩,q⟩) hz
 obtain ⟨T,id,hT,ht,hg⟩:=fin;exact tail_any (ops:=[.ref s3.heap.objs.size,.str z t]) ht hT hg (by with_unfolding_all rfl)
theorem Dh {α:Type}:∀ {l:List (Str × α)} {x:Str} {k:α},l.lookup x=some k->(x,k) ∈ l
 | [],_,_,h=>by cases h
 | (n,v) :: r,x,k,h=>by
  rw [Zt] at h;by_cases e:x=n
  ·subst e;simp at h;subst h;exact Yh
  ·have:(x == n)=false:=beq_eq_false_iff_ne.mpr e;rw [this] at h;exact Yg _ (Dh h)
theorem AS.plain {X:Cx} {scope:Scope} (hfree:∀ x ∈ scope.names,x.2 ≠ .free) (hcell:∀ y ∈ scope.names,y.2 ≠ .cell) (hkind:scope.kind=.function)
  (hnames:∀ y ∈ scope.names,y.2=.local->scope.names.lookup y.1=some .local):AS X scope []:=by
 refine ⟨closureFor_none hfree,hcell,hkind,hnames,fun x c h=>(by cases h),fun x h=>?_⟩;have key:∀ k,(relabel scope X.env).names.lookup x=some k->∃ y ∈ scope.names,y.2=k:=by
  intro k e;have m:=Dh e;obtain ⟨⟨n,k'⟩,hm,e'⟩:=Ya.mp m;have hf:=hfree _ hm;have:(k' == NameKind.free)=false:=by
   cases k' <;> first | rfl | exact absurd rfl hf
  dsimp only at e';rw [this] at e';simp at e';exact ⟨_,hm,e'.2⟩
 rcases h with h | h
 ·obtain ⟨y,hy,e⟩:=key _ h;exact absurd e (hcell y hy)
 ·obtain ⟨y,hy,e⟩:=key _ h;exact absurd e (hfree y hy)
def Fc (c:Nat):Bool:=decide (97<=c) && decide (c<=122)
theorem lt1 (a b:Nat):decide (([a]:List Nat) < [b])=decide (a < b):=by
 apply decide_eq_decide.mpr;rw [List.cons_lt_cons_iff];constructor
 ·rintro (h | ⟨_,h⟩)
  ·exact h
  ·exact absurd h (by simp)
 ·exact fun h=>.inl h
theorem leA (c:Nat):(!(decide ((⟨#[c]⟩:Str).cps.toList < (Str.ofString "a").cps.toList)))=decide (97<=c):=by
 show (!(decide (([c]:List Nat) < [97])))=_
 rw [lt1,<-decide_not];exact decide_eq_decide.mpr (by lia)
theorem leZ (c:Nat):(!(decide ((Str.ofString "z").cps.toList < (⟨#[c]⟩:Str).cps.toList)))=decide (c<=122):=by
 show (!(decide (([122]:List Nat) < [c])))=_
 rw [lt1,<-decide_not];exact decide_eq_decide.mpr (by lia)
def Bb (t:Str):Bool:=decide (1<=t.length) && decide (t.length<=6) && t.cps.toList.all Fc
def EL (K:XB) (H:Hp) (x:V):Prop:=∃ ty,Ec K H x ty/\Zw K ty (.type "str")=some false
def OV (K:XB):Sp:=fun vs H Q _=>∃ x,vs=[x]/\((∃ t,x=.str t/\t.length<=1000/\∀ H',Au H H'->Q (.bl (Bb t)) H')\/(EL K H x/\Q (.bl false) H))
theorem Ac {H:Hp} {p:Addr} {o:HO} (h:H p=none):Au H (upd H p o):=fun b u e=>by
 rw [Af (Ah e h)];exact e
theorem IM {α β:Type} (f:α->β) (l:List α) (i:Nat) (c:α) (h:l[i]? = some c):(l.take (i + 1)).map f=(l.take i).map f ++ [f c]:=by
 rw [List.take_succ,h,Yb];rfl
mutual
inductive GQ (H:Hp):V->PyData->Prop
 | non:GQ H .non .none
 | bl (b:Bool):GQ H (.bl b) (.bool b)
 | int (i:Int):GQ H (.int i) (.int i)
 | str (x:Str):GQ H (.str x) (.str x)
 | tup {a:Addr} {vs:List V} {ds:List PyData}:H a=some (.tup vs)->BM H vs ds->GQ H (.ref a) (.tuple ds)
 | lst {a:Addr} {vs:List V} {ds:List PyData}:H a=some (.lst vs)->BM H vs ds->GQ H (.ref a) (.list ds)
inductive BM (H:Hp):List V->List PyData->Prop
 | nil:BM H [] []
 | cons {v:V} {vs:List V} {d:PyData} {ds:List PyData}:GQ H v d->BM H vs ds->BM H (v :: vs) (d :: ds)
end
mutual
theorem GQ.mono {H H':Hp} (s:∀ a o,H a=some o->(∃ vs,o=.tup vs\/o=.lst vs)->H' a=some o):∀ {v:V} {d:PyData},GQ H v d->GQ H' v d
 | _,_,.non=>.non
 | _,_,.bl b=>.bl b
 | _,_,.int i=>.int i
 | _,_,.str x=>.str x
 | _,_,.tup e r=>.tup (s _ _ e ⟨_,.inl rfl⟩) (BM.mono s r)
 | _,_,.lst e r=>.lst (s _ _ e ⟨_,.inr rfl⟩) (BM.mono s r)
theorem BM.mono {H H':Hp} (s:∀ a o,H a=some o->(∃ vs,o=.tup vs\/o=.lst vs)->H' a=some o):∀ {vs:List V} {ds:List PyData},BM H vs ds->BM H' vs ds
 | _,_,.nil=>.nil
 | _,_,.cons x r=>.cons (GQ.mono s x) (BM.mono s r)
end
theorem GQ.same {H H':Hp} {v:V} {d:PyData} (h:GQ H v d) (s:Au H H'):GQ H' v d:=h.mono fun a o e _=>s a o e
mutual
theorem GQ.reads {X:Cx} {pins:List (Addr × Obj)} {σ:St} {H:Hp} {s:Shared} (I:An X pins σ H s):∀ {v:V} {d:PyData} {u:Value},GQ H v d->A3 v u->∃ as,Reads s.heap u d as
 | _,_,_,.non,r=>by cases r; exact ⟨_,.none⟩
 | _,_,_,.bl b,r=>by cases r; exact ⟨_,.bool b⟩
 | _,_,_,.int i,r=>by obtain ⟨t,rfl⟩:=r; exact ⟨_,.int i t⟩
 | _,_,_,.str x,r=>by obtain ⟨t,rfl⟩:=r; exact ⟨_,.str x t⟩
 | _,_,_,.tup (a:=a) e m,r=>by
  cases r
  obtain ⟨_,Ao,rv,⟨o,ho,hc,n,hd⟩,_⟩:=(show A9 X.prog X.w H s.heap a (.tup _) from I.hok a _ e)
  obtain ⟨as,q⟩:=BM.reads I m rv;exact ⟨_,.tuple ho hc hd (by simpa using q)⟩
 | _,_,_,.lst (a:=a) e m,r=>by
  cases r
  obtain ⟨_,Ao,n,rv,ho⟩:=(show A9 X.prog X.w H s.heap a (.lst _) from I.hok a _ e)
  obtain ⟨as,q⟩:=BM.reads I m rv;exact ⟨_,.list ho rfl rfl (by simpa using q)⟩
theorem BM.reads {X:Cx} {pins:List (Addr × Obj)} {σ:St} {H:Hp} {s:Shared} (I:An X pins σ H s):∀ {vs:List V} {ds:List PyData} {us:List Value},BM H vs ds->Ax vs us->∃ as,ReadsAll s.heap us ds as
 | _,_,_,.nil,r=>by cases r; exact ⟨_,.nil⟩
 | _,_,_,.cons x m,r=>by
  cases r with
  | cons r1 r2=>
   obtain ⟨as,q1⟩:=GQ.reads I x r1;obtain ⟨bs,q2⟩:=BM.reads I m r2;exact ⟨_,.cons q1 q2⟩
end
theorem J7 {X:Cx} (hu:X.A.units + 64 < cLine):EJ X (compareOp .Eq) (fun x y H Q=>∃ d e,GQ H x d/\GQ H y e/\d.canLay0=true/\e.canLay0=true/\d.depth<=60/\Q (.bl (PyData.eqv d e)) H):=by
 intro pins s σ H x y v u Q I rx ry h;obtain ⟨d,e,h1,h2,c1,c2,hd,q⟩:=h;obtain ⟨as,r1⟩:=h1.reads I rx;obtain ⟨bs,r2⟩:=h2.reads I ry;exact SeqAt.compareEq_reads r1 r2 c1 c2 (by have:=Nat.min_le_left d.depth e.depth; lia) ⟨.bl _,H,I,rfl,q⟩
theorem KZ (z:Str) (xs:List Str):inV (.str z) (xs.map V.str)=decide (z ∈ xs):=by
 unfold inV;induction xs with
 | nil=>simp
 | cons x xs ih=>
  rw [Yj,Zk,ih];have e:RH (.str x) (.str z)=decide (z=x):=by
   show (x == z)=_
   by_cases h:z=x
   ·subst h; simp
   ·have h':¬ x=z:=fun q=>h q.symm
    rw [decide_eq_false h];exact beq_eq_false_iff_ne.mpr h'
  rw [e];by_cases h:z=x
  ·simp [h]
  ·by_cases h2:z ∈ xs <;> simp [h,h2]
theorem JH (xs:List Str):(xs.map V.str).all E9=true:=by
 rw [ZU];exact Y4.mpr fun _ _=>rfl
def AI (p:Addr) (H H':Hp):Prop:=∀ b o,b ≠ p->H b=some o->H' b=some o
theorem AI.refl (p:Addr) (H:Hp):AI p H H:=fun _ _ _ e=>e
theorem AI.trans {p:Addr} {H H1 H2:Hp} (a:AI p H H1) (b:AI p H1 H2):AI p H H2:=fun c o n e=>b c o n (a c o n e)
theorem AI.of_same {p:Addr} {H H':Hp} (s:Au H H'):AI p H H':=fun b o _ e=>s b o e
theorem AI.upd {p:Addr} {H:Hp} {o:HO}:AI p H (L2.upd H p o):=fun b u n e=>by rw [Af n]; exact e
def Mf (K:XB) (H:Hp) (a:Addr) (xs:List V):Prop:=(∃ ob,H a=some (.frz ob (.lst xs)))\/∃ o Ao n,List.lookup a K=some o/\o.cls=Value.type "list"/\o.dict=none/\o.data=Data.seq Ao n/\Ao.size<=sizeLine/\Ax xs Ao.toList
theorem Mf.sq {K:XB} {H:Hp} {a:Addr} {xs:List V} (h:Mf K H a xs):AA K H a xs:=by
 rcases h with ⟨ob,h⟩ | h
 ·exact .inl (.inr ⟨ob,h⟩)
 ·exact .inr h
theorem Mf.same {K:XB} {H H':Hp} {a:Addr} {xs:List V} (h:Mf K H a xs) (s:Au H H'):Mf K H' a xs:=by
 rcases h with ⟨ob,h⟩ | h
 ·exact .inl ⟨ob,s _ _ h⟩
 ·exact .inr h
theorem Q0 {α:Type} {l:List α} {i:Int} {c:α} (h:Jf l i=some c):c ∈ l:=by
 obtain ⟨j,_,h2,_⟩:=Hu h;exact XG h2
abbrev FO:Str:="abcdefghijklmnopqrstuvwxyz"
theorem GG:∀ c ∈ FO.cps.toList,Fc c=true:=by decide +kernel
def Q5 (z:Str):Prop:=∀ c ∈ z.cps.toList,Fc c=true
theorem PU {z:Str} (h1:1<=z.length) (h2:z.length<=6) (h:Q5 z):Bb z=true:=by
 unfold Bb;rw [decide_eq_true h1,decide_eq_true h2,Y4.mpr h];rfl
theorem LL {z:Str} (h:Bb z=true):1<=z.length/\z.length<=6/\Q5 z:=by
 unfold Bb at h;rw [YC,YC,decide_eq_true_eq,decide_eq_true_eq,Y4] at h;exact ⟨h.1.1,h.1.2,h.2⟩
theorem Bh {α:Type} [BEq α] [LawfulBEq α]:∀ {l xs:List α},l.Nodup->(∀ x ∈ l,x ∈ xs)->l.length<=xs.length
 | [],_,_,_=>Yr _
 | a :: l,xs,hn,hs=>by
  have ha:=hs a Yh;have VW:=Y5.mp hn;have:=Bh (l:=l) (xs:=xs.erase a) VW.2 fun x hx=>(aj (show x ≠ a from fun e=>VW.1 (by rw [<-e]; exact hx))).mpr (hs x (Yg _ hx))
  rw [List.length_erase_of_mem ha] at this;have:0 < xs.length:=List.length_pos_of_mem ha;rw [Yv];lia
theorem BE (H:Hp):∀ xs:List Str,BM H (xs.map V.str) (xs.map .str)
 | []=>.nil
 | x :: xs=>.cons (.str x) (BE H xs)
theorem E6:∀ {xs:List Str},(∀ x ∈ xs,Bb x=true)->PyData.canLayAll0 (xs.map .str)=true
 | [],_=>rfl
 | x :: xs,h=>by
  show (PyData.strOk x && PyData.canLayAll0 (xs.map .str))=true
  rw [E6 fun y hy=>h y (Yg _ hy),bh];obtain ⟨_,_,lo⟩:=LL (h x Yh);unfold PyData.strOk;rw [Array.all_eq_true_iff_forall_mem];intro c hc;have:=lo c (by simpa using hc);unfold Fc at this;rw [YC,decide_eq_true_eq,decide_eq_true_eq] at this;rw [decide_eq_true_eq];lia
theorem Fu:∀ xs:List Str,PyData.depthAll (xs.map .str)=0
 | []=>rfl
 | x :: xs=>by
  show max 0 (PyData.depthAll (xs.map .str))=0
  rw [Fu xs];rfl
def FQ:Stmt->List Stmt
 | .For _ _ b _ _=>b
 | _=>[]
def LS:Stmt->List Stmt
 | .If _ b _ _=>b
 | _=>[]
theorem AS.caught {X:Cx} {scope:Scope} {cl:List (Str × Addr)} (clos:closureFor scope X.env=pure cl) (hcell:∀ y ∈ scope.names,y.2 ≠ .cell) (hkind:scope.kind=.function)
  (hnames:∀ y ∈ scope.names,y.2=.local->scope.names.lookup y.1=some .local) (hcl:∀ y ∈ cl,X.env.cells.lookup y.1=some y.2)
  (hfr:∀ y ∈ scope.names,y.2=.free->∃ c,cl.lookup y.1=some c):AS X scope cl:=by
 refine ⟨clos,hcell,hkind,hnames,fun x c h=>hcl _ (Dh h),fun x h=>?_⟩;have key:∀ k,(relabel scope X.env).names.lookup x=some k->k=.cell\/k=.free->∃ c,cl.lookup x=some c:=by
  intro k e hk;have m:=Dh e;obtain ⟨⟨n,k'⟩,hm,e'⟩:=Ya.mp m;dsimp only at e';by_cases hf:k'=.free
  ·subst hf;have en:n=x:=by
    by_cases hc:(NameKind.free == NameKind.free && X.env.scope.kind == .function && X.env.kindOf n == some .cell)=true
    ·rw [if_pos hc] at e';injection e'
    ·rw [if_neg hc] at e';injection e'
   subst en;exact hfr _ hm rfl
  ·have:(k' == NameKind.free)=false:=by
    cases k' <;> first | rfl | exact absurd rfl hf
   rw [this] at e';simp at e';rcases hk with hk | hk
   ·exact absurd (e'.2.trans hk) (hcell _ hm)
   ·exact absurd (e'.2.trans hk) hf
 rcases h with h | h
 ·exact key _ h (.inl rfl)
 ·exact key _ h (.inr rfl)
theorem AU.of {X:Cx} {cl:List (Str × Addr)} {scope:Scope} {N:List Str} {σ:St} (js:List (Option Nat)) (hl:js.length=N.length)
  (h:∀ (i j:Nat) (x:Str),N[i]? = some x->js[i]? = some (some j)->X.N[j]? = some x/\(X.env.kindOf x=some .cell\/X.env.kindOf x=some .free)/\((relabel scope X.env).names.lookup x=some .cell\/(relabel scope X.env).names.lookup x=some .free)) :
  AU X cl scope N σ (js.map fun j=>j.bind fun j=>(σ[j]?).join):=by
 refine ⟨by rw [X8,hl],fun i x v h1 h2=>?_⟩;rw [XU] at h2;cases e:js[i]? with
 | none=>rw [e] at h2; cases h2
 | some o=>
  rw [e] at h2;cases o with
  | none=>cases h2
  | some j=>
   obtain ⟨a,b,c⟩:=h i j x h1 e;refine ⟨⟨j,a,?_⟩,b,c⟩;have h3:(σ[j]?).join=some v:=Yi.inj h2;cases e2:σ[j]? with
   | none=>rw [e2] at h3; cases h3
   | some o=>
    rw [e2] at h3;have:o=some v:=h3;rw [this]
abbrev AG:=Str × Str × Int
def MX (u:AG):PyData:=.tuple [.str u.1,.str u.2.1,.int u.2.2]
def DN (u v:AG):Prop:=(u.1=v.1/\u.2.1=v.2.1)\/(u.1=v.2.1/\u.2.1=v.1)
structure Hj (xs:List Str) (k:Nat) (ws:List AG):Prop where
 of:∀ u ∈ ws,∃ i j:Nat,i < j/\j < k/\xs[i]? = some u.1/\xs[j]? = some u.2.1/\1<=u.2.2
 sep:ws.Pairwise fun u v=>¬ DN u v
 to:∀ j,0 < j->j < k->∃ u ∈ ws,∃ i:Nat,i < j/\xs[i]? = some u.1/\xs[j]? = some u.2.1
 len:2 * ws.length<=k * (k - 1)
structure TU (xs:List Str) (ws:List AG):Prop where
 of:∀ u ∈ ws,u.1 ∈ xs/\u.2.1 ∈ xs/\u.1 ≠ u.2.1/\1<=u.2.2
 sep:ws.Pairwise fun u v=>¬ DN u v
 to:∀ j,0 < j->j < xs.length->∃ u ∈ ws,∃ i:Nat,i < j/\xs[i]? = some u.1/\xs[j]? = some u.2.1
 len:2 * ws.length<=xs.length * (xs.length - 1) + 10
theorem Ey {xs:List Str} (h:xs.Nodup) {i j:Nat} {x:Str} (a:xs[i]? = some x) (b:xs[j]? = some x):i=j:=HQ h a b
theorem Hj.nil (xs:List Str):Hj xs 1 []:=⟨(fun _ h=>nomatch h),List.Pairwise.nil,(fun j h1 h2=>by lia),(by decide)⟩
theorem Hj.more {xs:List Str} {k:Nat} {ws us:List AG} (hn:xs.Nodup) (h:Hj xs k ws) (hk:k < xs.length) (js:List Nat) (hj:js.Nodup) (B0:∀ j ∈ js,j < k) (h0:js ≠ [])
  (hl:us.length=js.length) (hu:∀ (q:Nat) (u:AG) (j:Nat),us[q]? = some u->js[q]? = some j->xs[j]? = some u.1/\xs[k]? = some u.2.1/\1<=u.2.2):Hj xs (k + 1) (ws ++ us):=by
 have at_:∀ u ∈ us,∃ (q j:Nat),us[q]? = some u/\js[q]? = some j/\j < k/\xs[j]? = some u.1/\xs[k]? = some u.2.1/\1<=u.2.2:=by
  intro u hm;obtain ⟨q,hq,e⟩:=Yn hm;have e1:us[q]? = some u:=by rw [XA hq,e]
  have e2:js[q]? = some js[q]:=XA (by lia);obtain ⟨a,b,c⟩:=hu q u _ e1 e2;exact ⟨q,_,e1,e2,B0 _ (Y6 _),a,b,c⟩
 refine ⟨?_,?_,?_,?_⟩
 ·intro u hm;rcases Ye.mp hm with hm | hm
  ·obtain ⟨i,j,a,b,c⟩:=h.of u hm;exact ⟨i,j,a,by lia,c⟩
  ·obtain ⟨q,j,_,_,a,b,c,d⟩:=at_ u hm;exact ⟨j,k,a,by lia,b,c,d⟩
 ·rw [ak];refine ⟨h.sep,?_,?_⟩
  ·rw [YH];intro q r hq hr hqr al;have a1:=hu q us[q] js[q] (XA hq) (XA (by lia));have a2:=hu r us[r] js[r] (XA hr) (XA (by lia));have l1:=B0 js[q] (Y6 _);have l2:=B0 js[r] (Y6 _);rcases al with ⟨e1,_⟩ | ⟨e1,_⟩
   ·have a3:=a1.1;rw [e1] at a3;have ej:=Ey hn a3 a2.1;exact absurd ((aO hj).mp ej) (by lia)
   ·have a3:=a1.1;rw [e1] at a3;have ej:=Ey hn a3 a2.2.1;lia
  ·intro u VV v hv al;obtain ⟨i,j,hij,hjk,e1,e2,_⟩:=h.of u VV;obtain ⟨q,m,_,_,hm,e3,e4,_⟩:=at_ v hv;rcases al with ⟨_,z⟩ | ⟨z,_⟩
   ·rw [z] at e2;have:=Ey hn e2 e4;lia
   ·rw [z] at e1;have:=Ey hn e1 e4;lia
 ·intro j h1 h2;by_cases e:j=k
  ·subst e;cases us with
   | nil=>
    cases js with
    | nil=>exact absurd rfl h0
    | cons _ _=>cases hl
   | cons u us=>
    obtain ⟨q,m,_,_,hm,e3,e4,_⟩:=at_ u Yh;exact ⟨u,XO _ Yh,m,hm,e3,e4⟩
  ·obtain ⟨u,hm,i,a,b⟩:=h.to j h1 (by lia);exact ⟨u,YB _ hm,i,a,b⟩
 ·have:=h.len;have hjl:js.length<=k:=by
   have:=Bh (l:=js) (xs:=YS k) hj fun j hm=>Zc.mpr (B0 j hm)
   rwa [Zd] at this
  rw [XI,hl];show 2 * (ws.length + js.length)<=(k + 1) * (k + 1 - 1)
  rw [aK];have e:(k + 1) * k=k * (k - 1) + 2 * k:=by
   cases k with
   | zero=>rfl
   | succ k=>
    rw [aK];simp only [ZX,Nat.mul_succ,Nat.add_mul,Nat.mul_add];lia
  lia
theorem Hj.ways {xs:List Str} {ws:List AG} (hn:xs.Nodup) (h:Hj xs xs.length ws):TU xs ws:=by
 refine ⟨fun u hm=>?_,h.sep,h.to,by have:=h.len; lia⟩;obtain ⟨i,j,a,b,c,d,e⟩:=h.of u hm;refine ⟨XG c,XG d,fun z=>?_,e⟩;rw [z] at c;have:=Ey hn c d;lia
def Fp (xs:List Str) (ws:List AG):Prop:=(∀ u ∈ ws,u.1 ∈ xs/\u.2.1 ∈ xs/\u.1 ≠ u.2.1/\1<=u.2.2)/\(ws.Pairwise fun u v=>¬ DN u v) /\
 ∀ j,0 < j->j < xs.length->∃ u ∈ ws,∃ i:Nat,i < j/\xs[i]? = some u.1/\xs[j]? = some u.2.1
theorem TU.c {xs:List Str} {ws:List AG} (h:TU xs ws):Fp xs ws:=⟨h.of,h.sep,h.to⟩
theorem Fp.snoc {xs:List Str} {ws:List AG} {x y:Str} {n:Int} (h:Fp xs ws) (hx:x ∈ xs) (hy:y ∈ xs) (ne:x ≠ y) (hn:1<=n) (no:∀ u ∈ ws,¬ ((x=u.1\/x=u.2.1)/\(y=u.1\/y=u.2.1))):Fp xs (ws ++ [(x,y,n)]):=by
 refine ⟨fun u hu=>?_,?_,fun j h1 h2=>?_⟩
 ·rcases Ye.mp hu with hu | hu
  ·exact h.1 u hu
  ·rw [XY.mp hu]; exact ⟨hx,hy,ne,hn⟩
 ·rw [ak];refine ⟨h.2.1,Za _ _,fun u hu v hv al=>?_⟩;rw [XY.mp hv] at al;refine no u hu ?_;rcases al with ⟨e1,e2⟩ | ⟨e1,e2⟩
  ·exact ⟨.inl e1.symm,.inr e2.symm⟩
  ·exact ⟨.inr e2.symm,.inl e1.symm⟩
 ·obtain ⟨u,hu,r⟩:=h.2.2 j h1 h2;exact ⟨u,YB _ hu,r⟩
theorem Ir {H:Hp}:∀ {vs:List V} {ds:List PyData},BM H vs ds->vs.length=ds.length
 | _,_,.nil=>rfl
 | _,_,.cons _ r=>by rw [Yv,Yv,Ir r]
theorem Iq {H:Hp}:∀ {vs:List V} {ws:List AG} {i:Nat} {x:V},BM H vs (ws.map MX)->vs[i]? = some x->∃ u t,ws[i]? = some u/\x=.ref t/\H t=some (.tup [.str u.1,.str u.2.1,.int u.2.2])
 | _,[],i,x,.nil,e=>by cases e
 | _,u :: ws,0,x,.cons (v:=v) h _,e=>by
  have e':v=x:=by simpa using e
  subst e';cases h with
  | tup ha hd=>
   refine ⟨u,_,rfl,rfl,?_⟩;cases hd with
   | cons h1 r1=>
    cases r1 with
    | cons h2 r2=>
     cases r2 with
     | cons h3 r3=>
      cases r3
      cases h1
      cases h2
      cases h3
      exact ha
 | _,u :: ws,i + 1,x,.cons _ r,e=>by
  obtain ⟨u',t,a,b⟩:=Iq (i:=i) (x:=x) r (by simpa using e);exact ⟨u',t,by simpa using a,b⟩
theorem EC {H:Hp}:∀ {vs us:List V} {ds es:List PyData},BM H vs ds->BM H us es->BM H (vs ++ us) (ds ++ es)
 | _,_,_,_,.nil,h=>h
 | _,_,_,_,.cons a r,h=>.cons a (EC r h)
theorem AQ (K:XB) {X:Cx} (h:X.K=K):U6 X (rIxL K):=by subst h; exact R0
theorem Ay (K:XB) {X:Cx} (h:X.K=K):U6 X (rIxT K):=by subst h; exact Tv
theorem Tf (K:XB) {X:Cx} (h:X.K=K):EJ X (compareOp .In) (rIn K false):=by subst h; exact NJ
theorem BP (K:XB) {X:Cx} (h:X.K=K) {es:List Expr} {k:Nat} {t:Sl} {n:Nat} {pos:Pos} (hc:X.calm=true) (ht:PGs X es t)
  (hn:(assignEach es X.env).length=n:=by rfl) (hst:(assignEach es X.env).findIdx? (·.1)=none:=by rfl):PG X (.Tuple es k pos) (gTup K n t):=by subst h; exact SS hc ht hn hst
end L2
namespace L2
open PySem PySem.W PyProof.Rows
section
variable {n:Nat} (hn:0 < n)
include hn
end
end L2
namespace L2
open PySem PySem.Spec PyProof.Rows PySem.W
theorem A9.there {P:Program} {w:World} {H:Hp} {h:Heap} {a:Addr} {o:HO} (x:A9 P w H h a o):∃ ob,h.get? a=some ob:=by
 cases o with
 | lst xs=>obtain ⟨_,_,_,_,e⟩:=x; exact ⟨_,e⟩
 | tup xs=>obtain ⟨_,_,_,⟨ob,e,_⟩,_⟩:=x; exact ⟨ob,e⟩
 | dK kvs=>obtain ⟨_,_,_,_,o,_,_,e,_⟩:=x; exact ⟨o,e⟩
 | dT kvs=>obtain ⟨_,_,_,_,o,_,_,e,_⟩:=x; exact ⟨o,e⟩
 | set S n=>obtain ⟨o,_,_,_,e,_⟩:=x; exact ⟨o,e⟩
 | ins C dx fs=>obtain ⟨_,_,_,e,_⟩:=x; exact ⟨_,e⟩
 | own y=>exact x
 | xd fs=>obtain ⟨_,⟨_,_,_,e,_⟩,_⟩:=x; exact ⟨_,e⟩
 | rng lo hi=>obtain ⟨_,_,_,e⟩:=x; exact ⟨_,e⟩
 | frz ob u=>obtain ⟨e,_⟩:=x; exact ⟨_,e⟩
 | tbl ps=>exact ⟨_,(show h.get? a=some _ from x)⟩
 | met f y=>exact ⟨_,(show h.get? a=some _ from x)⟩
 | ext φ=>obtain ⟨_,⟨_,e⟩,_⟩:=x; exact ⟨_,e⟩
theorem An.laidF {X:Cx} {pins:List (Addr × Obj)} {σ:St} {H:Hp} {s:Shared} {h2:Heap} {D:Addr} {o:HO} {m:Str->Option Value} (I:An X pins σ H s)
  (hl:s.heap.Ns X.env.locals m/\∀ (i:Nat) (x:Str) (v:V),X.N[i]? = some x->σ[i]? = some (some v)->Vis X.env.scope x->∃ u,A3 v u/\Look X.env s.heap m x u) (hn:h2.Ns X.env.locals m)
  (kp:∀ b ob,b ≠ X.env.locals->s.heap.get? b=some ob->h2.get? b=some ob) (hD:s.heap.get? D=none) (hDL:D ≠ X.env.locals) (new:A9 X.prog X.w (upd H D o) h2 D o):An X pins σ (upd H D o) { s with heap:=h2 }:=by
 have fD:H D=none:=by
  cases z:H D with
  | none=>rfl
  | some u=>
   obtain ⟨ob,e⟩:=A9.there (I.hok D u z);rw [hD] at e;cases e
 have neL:∀ b ob,X.s₀.heap.get? b=some ob->b ≠ X.env.locals:=fun b ob e=>XQ (XH (XE e) I.ok.above)
 have neD:∀ b ob,s.heap.get? b=some ob->b ≠ D:=fun b ob e z=>by rw [z,hD] at e; cases e
 have cellK:∀ x c,X.env.cells.lookup x=some c->∀ v,s.heap.IsCell c v->h2.IsCell c v:=fun x c e v ⟨ob,ho,hd⟩=>⟨ob,kp c ob (I.cne x c e) ho,hd⟩
 refine ⟨I.ok,I.os,I.bare,⟨?_,?_,?_,?_,?_,?_,?_⟩,⟨m,hn,?_⟩,?_,?_,?_,?_,?_,I.len⟩
 ·exact fun b ob e n hb hx=>kp b ob (neL b ob e) (I.base.keep b ob e n hb hx)
 ·intro b ob e n hb hx;obtain ⟨sl,q⟩:=I.base.slot b ob e n hb hx;exact ⟨sl,kp b _ (neL b ob e) q⟩
 ·intro b ob e n hx;obtain ⟨VQ,q⟩:=I.base.there b ob e hx;rw [Af (neD b VQ q)];exact I.base.free b ob e n hx
 ·intro b ob e hx;obtain ⟨VQ,q⟩:=I.base.there b ob e hx;exact ⟨VQ,kp b VQ (neL b ob e) q⟩
 ·intro b xs e;have q:=I.base.tups b xs e;rw [Af (Ah q fD)];exact q
 ·intro b ob u e;have q:=I.base.frzs b ob u e;rw [Af (Ah q fD)];exact q
 ·intro b ps e;obtain ⟨more,q⟩:=I.base.tbls b ps e;exact ⟨more,by rw [Af (Ah q fD)]; exact q⟩
 ·intro i x v e1 e2 e3;obtain ⟨u,r,l⟩:=hl.2 i x v e1 e2 e3;refine ⟨u,r,?_⟩;rcases l with l | ⟨k,c,e,z⟩
  ·exact .inl l
  ·exact .inr ⟨k,c,e,cellK x c e _ z⟩
 ·intro x c e;obtain ⟨v,z⟩:=I.cell x c e;exact ⟨v,cellK x c e v z⟩
 ·rw [Af (Ne.symm hDL)];exact I.free
 ·intro x c e;obtain ⟨v,ob,ho,_⟩:=I.cell x c e;rw [Af (neD c ob ho)];exact I.freeC x c e
 ·intro p hp;obtain ⟨e,n,ne,nf,d⟩:=I.pin p hp;exact ⟨kp _ _ ne e,by rw [Af (neD _ _ e)]; exact n,ne,nf,d⟩
 ·intro b u e;by_cases hb:b=D
  ·subst hb;rw [Ab] at e;cases e
   exact new
  ·rw [Af hb] at e;refine (I.hok b u e).stay (fun c v hc q=>kp c v ?_ q) (fun c q=>by rw [Af (Ah q fD)]; exact q) fun c xs q=>by rw [Af (Ah q fD)]; exact q
   rintro rfl;rcases hc with rfl | hc
   ·rw [I.free] at e; cases e
   ·rw [I.free] at hc; cases hc
end L2
namespace L2
open PySem PySem.Spec PyProof.Rows
section
variable {prog:Program} {w:World} {A:Around} {E:Value->Shared->Prop} {s:Shared}
end
def BG (a b:Str):Str:=if b.cps.toList < a.cps.toList then b else a
def BH (a b:Str):Str:=if a.cps.toList < b.cps.toList then b else a
theorem QU {ss:List Str}:∀ {us:List Value},Ax (ss.map V.str) us->StrsAre us ss:=by
 induction ss with
 | nil=>intro us r; cases r; exact .nil
 | cons x ss ih=>
  intro us r;cases r with
  | cons r1 r2=>
   obtain ⟨t,rfl⟩:=r1;exact .cons x t (ih r2)
theorem Km:∀ {us:List Value} {ss:List Str},StrsAre us ss->Ax (ss.map V.str) us
 | _,_,.nil=>.nil
 | _,_,.cons x t r=>.cons ⟨t,rfl⟩ (Km r)
theorem Cw {X:Cx}:Bq X (.builtin "sorted") (fun xs H Q=>∃ (a:Addr) (ss:List Str),xs=[.ref a]/\AA X.K H a (ss.map V.str)/\ss.length < 64 /\
  ∀ (l:Addr) (Ei:List Str),H l=none->Ei.Perm ss->sortedS Ei=true->Q (.ref l) (upd H l (.lst (Ei.map V.str)))):=by
 intro pins s σ H xs us Q I r h;obtain ⟨a,ss,rfl,ha,QE,q⟩:=h;obtain ⟨u,rfl,ru⟩:=B7 r;cases ru
 obtain ⟨Ao,rv,pl,hz⟩:=I.list ha;have hl:Ao.length=ss.length:=by rw [<-rv.length,X8]
 refine sorted_strs pl.isList (QU rv) (by lia) fun out Ei h1 h2 h3=>?_
 obtain ⟨e,he⟩:=sortedAll_at s.heap Ao out;refine ⟨.ref (s.heap.objs.size + 1),_,I.laid (o:=.lst (Ei.map V.str)) (t':=s.toks) (fun b o z=>sortedAll_old z) (Yt _) ⟨?_,out.toList,e,Km h1,by simpa using he⟩,rfl,q _ Ei (I.hok.fresh (Yt _)) h2 h3⟩;rw [X8,h2.length_eq];have:100 < sizeLine:=by decide
 lia
end L2
namespace L2
open PySem PySem.Spec PySem.W PyProof.Rows
theorem J0 {vs:List Value} {p:Keyed} (h:p ∈ (pairsOf vs).toList):p=(p.2,p.2)/\p.2 ∈ vs:=by
 rw [pairsOf_toList] at h;obtain ⟨e,m⟩:=mem_zip_self h;refine ⟨?_,e ▸ m⟩;obtain ⟨x,y⟩:=p;exact Prod.ext e rfl
theorem NA (vs:List Value):(pairsOf vs).toList.map (·.2)=vs:=by
 rw [pairsOf_toList];induction vs with
 | nil=>rfl
 | cons v vs ih=>rw [List.zip_cons_cons,Yj,ih]
theorem PH {vs:List Value} {xs:Array Keyed} (h:xs.Perm (pairsOf vs)):(xs.toList.map (·.2)).Perm vs:=by
 have q:=(Array.perm_iff_toList_perm.mp h).map (·.2);rw [NA] at q;exact q
section
variable {prog:Program} {w:World} {A:Around} {E:Value->Shared->Prop} {s:Shared} {lt:Keyed->Keyed->Bool}
def Cmpd (prog:Program) (w:World) (s:Shared) (lt:Keyed->Keyed->Bool) (vs:List Value):Prop:=
 2<=vs.length->∀ (A:Around) (h':Heap),(∀ b o,s.heap.get? b=some o->h'.get? b=some o) ->
  ∃ κ,(∀ (Q:SortKind->Shared->Prop) (E:Value->Shared->Prop),Q κ { s with heap:=h' }->wpAny (model prog w) A (keyKind' vs.toArray) Q E { s with heap:=h' })/\Uh prog w A { s with heap:=h' } κ lt (pairsOf vs)
end
inductive IK where
 | i (n:Int)
 | s (x:Str)
 deriving DecidableEq
def FX:IK->IK->Bool
 | .i a,.i b=>decide (a < b)
 | .s a,.s b=>decide (a.cps.toList < b.cps.toList)
 | .i _,.s _=>true
 | .s _,.i _=>false
def Bz:List IK->List IK->Bool
 | [],[]=>false
 | [],_ :: _=>true
 | _ :: _,[]=>false
 | x :: xs,y :: ys=>if x=y then Bz xs ys else FX x y
theorem RM (a:IK):FX a a=false:=by
 cases a with
 | i n=>simp [FX]
 | s x=>exact strKind.irrefl x.cps.toList
theorem RL:∀ {a b c:IK},FX a b=true->FX b c=true->FX a c=true
 | .i a,.i b,.i c,h1,h2=>by
  simp only [FX,decide_eq_true_eq] at h1 h2 ⊢;lia
 | .i _,.i _,.s _,_,_=>rfl
 | .i _,.s _,.s _,_,_=>rfl
 | .i _,.s _,.i _,_,h=>by cases h
 | .s _,.i _,_,h,_=>by cases h
 | .s _,.s _,.i _,_,h=>by cases h
 | .s x,.s y,.s z,h1,h2=>strKind.trans x.cps.toList y.cps.toList z.cps.toList h1 h2
theorem Hq:∀ a,Bz a a=false
 | []=>rfl
 | x :: xs=>by unfold Bz; rw [if_pos rfl]; exact Hq xs
theorem TR {a b:IK} (h:FX a b=true):a ≠ b:=fun e=>by
 rw [e,RM] at h;cases h
theorem MJ:∀ a b c,Bz a b=true->Bz b c=true->Bz a c=true
 | [],[],_,h,_=>by cases h
 | [],_ :: _,[],_,h=>by cases h
 | [],_ :: _,_ :: _,_,_=>rfl
 | _ :: _,[],_,h,_=>by cases h
 | _ :: _,_ :: _,[],_,h=>by cases h
 | x :: xs,y :: ys,z :: zs,h1,h2=>by
  unfold Bz at h1 h2 ⊢;by_cases e1:x=y
  ·rw [if_pos e1] at h1;by_cases e2:y=z
   ·rw [if_pos e2] at h2;rw [if_pos (e1.trans e2)];exact MJ xs ys zs h1 h2
   ·rw [if_neg e2] at h2;rw [if_neg (by rw [e1]; exact e2),e1];exact h2
  ·rw [if_neg e1] at h1;by_cases e2:y=z
   ·rw [if_neg (by rw [<-e2]; exact e1),<-e2];exact h1
   ·rw [if_neg e2] at h2;have h3:=RL h1 h2;rw [if_neg (TR h3)];exact h3
def BV:Value->IK
 | .int n _=>.i n
 | .str x _=>.s x
 | _=>.i 0
def Na:V->IK
 | .int n=>.i n
 | .str x=>.s x
 | _=>.i 0
def Dx (h:Heap):Value->List IK
 | .ref a=>match h.get? a with
  | some o=>(match o.data with
   | .seq xs _=>xs.toList.map BV
   | _=>[])
  | none=>[]
 | v=>[BV v]
def keyV (H:Hp):V->List IK
 | .ref a=>match H a with
  | some (.tup ys)=>ys.map Na
  | _=>[]
 | v=>[Na v]
def Lp (k:Bool) (v:V):Prop:=if k=true then ∃ x,v=.str x else ∃ n,v=.int n
def CI (k:Bool) (v:Value):Prop:=if k=true then ∃ x t,v=.str x t else ∃ n t,v=.int n t
theorem Rz {k:Bool} {v:V} {u:Value} (r:A3 v u) (h:Lp k v):CI k u/\BV u=Na v:=by
 unfold Lp at h;unfold CI;cases k with
 | true=>
  simp only [if_true] at h ⊢;obtain ⟨x,rfl⟩:=h;obtain ⟨t,rfl⟩:=r;exact ⟨⟨x,t,rfl⟩,rfl⟩
 | false=>
  simp only [Yu,if_false] at h ⊢;obtain ⟨x,rfl⟩:=h;obtain ⟨t,rfl⟩:=r;exact ⟨⟨x,t,rfl⟩,rfl⟩
def TV (H:Hp) (kd:Nat->Bool) (v:V):Prop:=∃ t ys,v=.ref t/\H t=some (.tup ys)/\ys ≠ []/\∀ i y,ys[i]? = some y->Lp (kd i) y
def Me (h:Heap) (kd:Nat->Bool) (v:Value):Prop:=∃ t o xs n,v=.ref t/\h.get? t=some o/\o.cls=.type "tuple"/\o.data=.seq xs n/\0 < xs.size/\∀ (i:Nat) x,xs.toList[i]? = some x->CI (kd i) x
theorem Sv {X:Cx} {pins:List (Addr × Obj)} {σ:St} {H:Hp} {s:Shared} (I:An X pins σ H s) {kd:Nat->Bool} {v:V} {u:Value} (r:A3 v u) (h:TV H kd v):Me s.heap kd u/\Dx s.heap u=keyV H v:=by
 obtain ⟨t,ys,rfl,ht,ne,hy⟩:=h;cases r
 obtain ⟨_,Ao,rv,⟨o,ho,hc,n,hd⟩,_⟩:=(show A9 X.prog X.w H s.heap t (.tup _) from I.hok t _ ht)
 have e:keyV H (.ref t)=ys.map Na:=by
  show (match H t with | some (.tup ys)=>ys.map Na | _=>[])=_
  rw [ht]
 have e2:Dx s.heap (.ref t)=Ao.map BV:=by
  show (match s.heap.get? t with | some o=>(match o.data with | .seq xs _=>xs.toList.map BV | _=>[]) | none=>[])=_
  rw [ho];dsimp only;rw [hd]
 have all:∀ {ys:List V} {Ao:List Value} (k:Nat),Ax ys Ao->(∀ i y,ys[i]? = some y->Lp (kd (k + i)) y)->(∀ (i:Nat) x,Ao[i]? = some x->CI (kd (k + i)) x)/\Ao.map BV=ys.map Na:=by
  intro ys;induction ys with
  | nil=>intro Ao k rv _; cases rv; exact ⟨fun i x e=>by simp at e,rfl⟩
  | cons y ys ih=>
   intro Ao k rv hy;cases rv with
   | cons r1 r2=>
    obtain ⟨a1,a2⟩:=Rz r1 (hy 0 y rfl);obtain ⟨b1,b2⟩:=ih (k + 1) r2 fun i z e=>by
     have:=hy (i + 1) z (by simpa using e);rw [show k + 1 + i=k + (i + 1) by lia];exact this
    refine ⟨fun i x e=>?_,by rw [Yj,Yj,a2,b2]⟩;cases i with
    | zero=>
     rw [YF] at e;cases e
     exact a1
    | succ i=>
     have:=b1 i x (by simpa using e);rw [show k + 1 + i=k + (i + 1) by lia] at this;exact this
 obtain ⟨a1,a2⟩:=all 0 rv fun i y e=>by rw [Zn]; exact hy i y e
 refine ⟨⟨t,o,Ao.toArray,n,rfl,ho,hc,hd,?_,fun i x e=>?_⟩,by rw [e,e2,a2]⟩
 ·have:=rv.length;have:0 < ys.length:=YV.mpr ne;simp;lia
 ·have:=a1 i x (by simpa using e);rw [Zn] at this;exact this
section
variable {prog:Program} {w:World} {A:Around} {E:Value->Shared->Prop} {s:Shared} {Q:Bool->Shared->Prop}
theorem Rl {k b:Bool} {u v:Value} (hu:CI k u) (hv:CI k v) (h:Q (FX (BV u) (BV v)) s):wpAny (model prog w) A (oneLt' b u v) Q E s:=by
 unfold CI at hu hv;cases k with
 | true=>
  simp only [if_true] at hu hv;obtain ⟨x,t,rfl⟩:=hu;obtain ⟨y,t',rfl⟩:=hv;cases b with
  | true=>exact oneLt_str h
  | false=>exact kat_one _ _ (PySem.P.lt_str h)
 | false=>
  simp only [Yu,if_false] at hu hv;obtain ⟨x,t,rfl⟩:=hu;obtain ⟨y,t',rfl⟩:=hv;cases b with
  | true=>exact oneLt_int h
  | false=>exact kat_one _ _ (lt_int h)
theorem TK {k:Bool} {u v:Value} (hu:CI k u) (hv:CI k v):SeqAt.EqAt A s u v (decide (BV u=BV v)):=by
 unfold CI at hu hv;cases k with
 | true=>
  simp only [if_true] at hu hv;obtain ⟨x,t,rfl⟩:=hu;obtain ⟨y,t',rfl⟩:=hv;have e:decide (BV (.str x t)=BV (.str y t'))=(x == y):=by
   show decide (IK.s x=IK.s y)=_
   rw [YA];simp
  rw [e];exact SeqAt.EqAt.str_str x t y t'
 | false=>
  simp only [Yu,if_false] at hu hv;obtain ⟨x,t,rfl⟩:=hu;obtain ⟨y,t',rfl⟩:=hv;have e:decide (BV (.int x t)=BV (.int y t'))=(x == y):=by
   show decide (IK.i x=IK.i y)=_
   rw [YA];simp
  rw [e];exact SeqAt.EqAt.int_int x t y t'
theorem JD {b:Bool} {kd:Nat->Bool}:∀ (xs ys:List Value) (i:Nat),(∀ (j:Nat) x,xs[j]? = some x->CI (kd (i + j)) x)->(∀ (j:Nat) x,ys[j]? = some x->CI (kd (i + j)) x) ->
  Q (Bz (xs.map BV) (ys.map BV)) s->KatLex prog w A b (decide (xs.length < ys.length)) Q (xs.zip ys) i s
 | [],[],i,_,_,h=>h
 | [],y :: ys,i,_,_,h=>h
 | x :: xs,[],i,_,_,h=>h
 | x :: xs,y :: ys,i,hx,hy,h=>by
  have kx:CI (kd i) x:=hx 0 x rfl;have ky:CI (kd i) y:=hy 0 y rfl;rw [Yj,Yj] at h;unfold Bz at h;refine kat_cons (TK kx ky _ _ _ _ ?_);refine kat_go (fun e=>kat_yes ?_) (fun e=>kat_no (Rl kx ky ?_))
  ·have e':=of_decide_eq_true e;rw [if_pos e'] at h;have r:=JD (b:=b) (kd:=kd) xs ys (i + 1) (fun j z e=>by rw [show i + 1 + j=i + (j + 1) by lia]; exact hx (j + 1) z (by simpa using e)) (fun j z e=>by rw [show i + 1 + j=i + (j + 1) by lia]; exact hy (j + 1) z (by simpa using e)) h;have e2:decide ((x :: xs).length < (y :: ys).length)=decide (xs.length < ys.length):=by simp
   rw [e2];exact r
  ·have e':=of_decide_eq_false e;rw [if_neg e'] at h;exact h
theorem Sx {kd:Nat->Bool} {u v:Value} (hu:Me s.heap kd u) (hv:Me s.heap kd v) (h:Q (Bz (Dx s.heap u) (Dx s.heap v)) s):wpAny (model prog w) A (keyLt' (tuples' true) u v) Q E s:=by
 obtain ⟨t,o,xs,n,rfl,ho,hc,hd,p,hx⟩:=hu;obtain ⟨t',o',O9,n',rfl,IW,F4,Oc,p',LW⟩:=hv;have e1:Dx s.heap (.ref t)=xs.toList.map BV:=by
  show (match s.heap.get? t with | some o=>(match o.data with | .seq xs _=>xs.toList.map BV | _=>[]) | none=>[])=_
  rw [ho];dsimp only;rw [hd]
 have e2:Dx s.heap (.ref t')=O9.toList.map BV:=by
  show (match s.heap.get? t' with | some o=>(match o.data with | .seq xs _=>xs.toList.map BV | _=>[]) | none=>[])=_
  rw [IW];dsimp only;rw [Oc]
 rw [e1,e2] at h;refine kat_lt ho hd IW Oc ?_;have e3:decide (xs.size < O9.size)=decide (xs.toList.length < O9.toList.length):=by simp
 rw [e3];exact JD (kd:=kd) _ _ 0 (fun j x e=>by rw [Zn]; exact hx j x e) (fun j x e=>by rw [Zn]; exact LW j x e) h
theorem Nh {kd:Nat->Bool} {vs:List Value} (h:∀ v ∈ vs,Me s.heap kd v):Cmpd prog w s (fun x y=>Bz (Dx s.heap x.1) (Dx s.heap y.1)) vs:=by
 intro h2 A h' kp;have h1:∀ v ∈ vs,Me h' kd v/\Dx h' v=Dx s.heap v:=fun v hv=>by
  obtain ⟨t,o,xs,n,rfl,ho,hc,hd,p,hx⟩:=h v hv;refine ⟨⟨t,o,xs,n,rfl,kp t o ho,hc,hd,p,hx⟩,?_⟩;show (match h'.get? t with | some o=>(match o.data with | .seq xs _=>xs.toList.map BV | _=>[]) | none=>[])=(match s.heap.get? t with | some o=>(match o.data with | .seq xs _=>xs.toList.map BV | _=>[]) | none=>[])
  rw [ho,kp t o ho]
 refine ⟨tuples' true,?_,?_⟩
 ·intro Q E hq;have tups:∀ l:List Value,(∀ v ∈ l,Me h' kd v)->∃ fs:List Value,KatTups h' l fs/\fs.length=l.length/\∀ f ∈ fs,CI (kd 0) f:=by
   intro l;induction l with
   | nil=>intro _; exact ⟨[],KatTups.nil,rfl,fun f hf=>nomatch hf⟩
   | cons v l ih=>
    intro hl;obtain ⟨fs,k1,k2,k3⟩:=ih fun v hv=>hl v (Yg _ hv)
    obtain ⟨t,o,xs,n,rfl,ho,hc,hd,p,hx⟩:=hl v Yh;have g:xs[0]? = some xs[0]:=YU p;refine ⟨xs[0] :: fs,KatTups.cons ho hc hd g k1,by rw [Yv,Yv,k2],fun f hf=>?_⟩;rcases XC.mp hf with rfl | hf
    ·exact hx 0 _ (by rw [YQ]; exact g)
    ·exact k3 f hf
  obtain ⟨fs,k1,k2,k3⟩:=tups vs fun v hv=>(h1 v hv).1
  cases ek:kd 0 with
  | true=>
   refine kat_kind (T:=.type "str") k1 (by lia) (fun v hv=>?_) rfl hq;have q:=k3 v hv;unfold CI at q;rw [ek] at q;simp only [if_true] at q;obtain ⟨x,t,rfl⟩:=q;exact Looks.now
  | false=>
   refine kat_kind (T:=.type "int") k1 (by lia) (fun v hv=>?_) rfl hq;have q:=k3 v hv;unfold CI at q;rw [ek] at q;simp only [Yu,if_false] at q;obtain ⟨x,t,rfl⟩:=q;exact Looks.now
 ·intro x y hx hy Q E hq;obtain ⟨ex,mx⟩:=J0 (vs:=vs) (p:=x) (by simpa using hx);obtain ⟨ey,my⟩:=J0 (vs:=vs) (p:=y) (by simpa using hy);rw [ex,ey] at hq ⊢;dsimp only at hq ⊢;refine Sx (h1 _ mx).1 (h1 _ my).1 ?_;show Q (Bz (Dx h' x.2) (Dx h' y.2)) _
  rw [(h1 _ mx).2,(h1 _ my).2];exact hq
end
end L2
namespace L2
open PySem PySem.Spec PyProof.Rows
section
variable {prog:Program} {w:World} {A:Around} {E:Value->Shared->Prop} {s:Shared}
end
def Ex (u:AG):AG:=(BG u.1 u.2.1,BH u.1 u.2.1,u.2.2)
theorem Rf {X:Cx} {ix:Nat} {x:Str} {px spos:Pos} {tg iter elt:Expr} {ifs:List Expr} {scope:Scope} {cl:List (Str × Addr)} {N:List Str} {pos:Pos} {wi:TI} {g:TG} {tt:TT} {te:TE} {σ0:St->St} (hN:X.N.Nodup) (hix:X.N[ix]? = some x) (hlx:Ua X.env.scope x) (hc:X.calm=true) (co:AS X scope cl)
  (hσ:∀ σ,σ.length=X.N.length->AU X cl scope N σ (σ0 σ)) (hi:PI X tg iter wi)
  (hb:∀ s2 H C fp,PG (Am X scope cl N s2 H C fp) tg g/\QF (Am X scope cl N s2 H C fp) ifs tt/\PE (Am X scope cl N s2 H C fp) elt te)
  (hsw:swapsWith (.ListComp elt [⟨tg,iter,ifs,0⟩] scope pos) (some (.Name x px)) spos.line X.env=pure true:=by rfl)
  (hs:∀ x,foldedSetIterable iter X.env x=pure x:=by intro _; rfl) (hf:X.fn x=true\/X.env.scope.names.lookup x=some .local:=by first | exact .inl rfl | exact .inr rfl | assumption) :
  PS X (.Assign [.Name x px] (.ListComp elt [⟨tg,iter,ifs,0⟩] scope pos) spos) (OO (Mo wi g tt te σ0) (Ij ix)):=by
 intro pins s σ H DD I h;rw [exec_Assign_Name_used _ _ _ _ hsw];refine wpAny_bind (wpAny_standAt (wpAny_bind ?_));show wpAny _ X.A (do let _ <- comprehension (.ListComp elt [⟨tg,iter,ifs,0⟩] scope pos) scope X.env _ (newList []) false (eval iter X.env) (some (assign (.Name x px) X.env))) _ _ s
 refine wpAny_bind (wpAny_mono (wpAny_comprehension_free (use:=some (assign (.Name x px) X.env)) (Q:=fun _ s'=>SP X pins DD .next s') rfl hs co.clos co.kind co.names
  (wpAny_mono (hi (pins:=pins) s σ H _ I h) (fun xv s1 h1=>wpAny_mono h1 (fun itv s2 h2=>?_) fun _ _ e=>e) fun _ _ e=>e)) (fun _ s' hq=>wpAny_pure (wpAny_pure hq)) fun _ _ e=>e)
 obtain ⟨it,fp,tn,J,H2,rfl,I2,T,Eh,f2,hW⟩:=h2;refine wpAny_newObj_type (wpAny_newFunctionEnv co.cell (by intro y hy; cases hy) (fun A5 Bo Bf=>?_) co.kind);dsimp only at Bo Bf ⊢;generalize Gq:s2.heap.push { cls:=.type "list",dict:=none,data:=.seq ([]:List Value).toArray } = HH at Bo Bf ⊢;have AY:HH.objs.size=s2.heap.objs.size + 1:=by rw [<-Gq,Ys]
 have old:∀ b o,s2.heap.get? b=some o->A5.get? b=some o:=fun b o e=>
  Bf.extBut b o (XQ (by rw [AY]; exact Yl (XE e))) (X9 _ (Gq ▸ X9 _ e))
 have newD:∃ n,A5.get? s2.heap.objs.size=some { cls:=.type "list",data:=.seq ([]:List Value).toArray n }:=
  ⟨_,Bf.extBut _ _ (XQ (by rw [AY]; exact Ym _)) (X9 _ (Gq ▸ XJ _ rfl))⟩
 obtain ⟨W,⟨m0,w0⟩,turn⟩:=hW s2.heap.objs.size I2.fresh;have hfo:∀ b ∈ fp,∃ o,s2.heap.get? b=some o:=fun b hb=>let ⟨o,e,_⟩:=T.obj _ _ Eh b hb; ⟨o,e⟩
 have I3:An (Am X scope cl N s2 H2 HH.objs.size fp) [] (σ0 σ) (upd H2 s2.heap.objs.size (.lst [])) { s2 with heap:=A5,toks:=s2.toks + ([]:List (Str × Value)).length }:=
  Fw I2 f2 hfo co (hσ σ I.len) old (XD _) (by rw [AY]; exact Yt _) (Yy (by rw [AY]; exact Ym _)) (.inr newD) Bo
 have fC:s2.heap.objs.size<=HH.objs.size:=by rw [AY]; exact Yt _
 obtain ⟨hg,ht,he⟩:=hb s2 H2 HH.objs.size fp;have loop:∀ Bu:Shared,Bu = { s2 with heap:=A5,toks:=s2.toks + ([]:List (Str × Value)).length } ->
   codeAny (model X.prog X.w) X.A (.compLoop (.ListComp elt [⟨tg,iter,ifs,0⟩] scope pos) 0 (.ref it) (.ref s2.heap.objs.size) (compEnvC scope cl HH.objs.size X.env))
    (compPost (model X.prog X.w) X.A X.xe (some (assign (.Name x px) X.env)) (fun _ s'=>SP X pins DD .next s') (.ref s2.heap.objs.size) HH.objs.size) Bu:=by
  rintro Bu rfl;have stat:∀ {H':Hp} ,(∀ b ∈ fp,H' b=none)->∀ b ∈ fp,Dl (Am X scope cl N s2 H2 HH.objs.size fp) [] H' b:=fun hn b hb=>by
   refine ⟨hn b hb,?_,?_,.inl hb,?_,fun p hp=>by cases hp⟩
   ·obtain ⟨o,e⟩:=hfo b hb;exact XQ (show b < HH.objs.size by rw [AY]; exact Yl (XE e))
   ·intro hz;obtain ⟨_,q1,q2,_⟩:=f2 b hb;rcases XC.mp (I2.stkSub b hz) with e | e
    ·exact q1 e
    ·exact q2 e
   ·exact fun x c e=>(f2 b hb).2.2.2.2.1 x c (co.sub x c e)
  refine BK (fun n s'=>∃ i Ar H',An (Am X scope cl N s2 H2 HH.objs.size fp) [] Ar H' s'/\tn i s'.heap/\(∀ b ∈ fp,H' b=none)/\W i n Ar H') ?_ m0
   ⟨0,σ0 σ,_,I3,T.keep _ _ _ Eh fun b hb o e=>old b o e,fun b hb=>?_,w0⟩
  ·rintro n s4 ⟨i,DP,H4,I4,Jo,JG,w4⟩;rcases turn i n DP H4 w4 with ⟨stop,qn⟩ | ⟨go,step⟩
   ·refine wpAny_mono (T.done (Am X scope cl N s2 H2 HH.objs.size fp) rfl rfl rfl hc i [] s4 DP H4 (fun _ _=>False) I4 (stat JG) Jo stop) (fun r s5 ⟨hr,I5⟩=>?_) fun _ _ z=>z.elim
    subst hr;obtain ⟨m5,Oa,_⟩:=id I5.loc;have I6:An X pins σ H4 s5:=EF (h':=s5.heap) I2 f2 fC I5 (Heap.SameBut.refl _ _);have cC:∀ y c,X.env.cells.lookup y=some c->c ≠ HH.objs.size:=fun y c e=>by
     obtain ⟨v,q⟩:=I2.cell y c e;exact XQ (XH q.lt fC)
    have lC:X.env.locals ≠ HH.objs.size:=XQ (XH I2.lt fC);show wpAny _ X.A (assign (.Name x px) X.env (.ref s2.heap.objs.size)) _ X.xe s5
    refine wpAny_assign_Name (EO I6 hN hix hlx (v:=.ref s2.heap.objs.size) rfl (fun s7 I7 ⟨a,sb,ha⟩=>?_) hf);have aC:a ≠ HH.objs.size:=by
     rcases ha with rfl | ha
     ·exact lC
     ·exact cC _ _ ha
    refine ⟨m5,Oa.sameBut sb (Ne.symm aC),fun h' Lu=>⟨_,H4,?_,qn⟩⟩;exact I7.turned (t':=s7.toks) (it:=HH.objs.size) (fun b o hb e=>(Lu.2 b hb).trans e) I5.free (Ne.symm lC) (.inr (Yo I2.sz fC)) cC fun p hp z=>by
     have e:=(I2.pin p hp).1;exact absurd (XH (XE e) fC) (by rw [z]; exact Yx _)
   ·refine wpAny_mono (T.item (Am X scope cl N s2 H2 HH.objs.size fp) rfl rfl rfl hc i [] s4 DP H4 (fun _ _=>False) I4 (stat JG) Jo go) (fun r s5 ⟨u,hr,h5⟩=>?_) fun _ _ z=>z.elim
    subst hr;refine wpAny_mono h5 (fun _ s6 ⟨x,H6,I6,r6,y6,Gd,Of⟩=>?_) fun _ _ z=>z.elim
    have Oz:=I6.pinned (stat Of) (T.obj _ _ Gd);refine wpAny_mono (hg s6 DP H6 x u _ Oz r6 (step x H6 y6)) (fun _ s7 ⟨D8,H7,I7,q7⟩=>?_) fun _ _ z=>z.elim
    refine wpAny_mono (ht s7 D8 H7 _ I7 q7) (fun ok s8 ⟨H8,I8,q8⟩=>?_) fun _ _ z=>z.elim
    have again:∀ {s9:Shared} {DO:St} {H9:Hp} ,An (Am X scope cl N s2 H2 HH.objs.size fp) ([] ++ BF fp s6.heap) DO H9 s9->(∃ m',m' < n/\W (i + 1) m' DO H9)->∃ m,m < n/\∃ i Ar H',An (Am X scope cl N s2 H2 HH.objs.size fp) [] Ar H' s9/\tn i s9.heap/\(∀ b ∈ fp,H' b=none)/\W i m Ar H':=fun {s9 DO H9} I9 n9=>by
     obtain ⟨m',hm,w9⟩:=n9;refine ⟨m',hm,i + 1,DO,H9,I9.unpinned,T.keep _ _ _ Gd fun b hb o e=>(I9.pin (b,o) (XO _ (XO _ (A8 hb e)))).1,fun b hb=>?_,w9⟩;obtain ⟨o,e,d⟩:=T.obj _ _ Gd b hb;exact (I9.pin (b,o) (XO _ (XO _ (A8 hb e)))).2.1
    cases ok with
    | false=>
     rw [if_neg Yc] at q8 ⊢;exact again I8 q8
    | true=>
     rw [if_pos rfl] at q8 ⊢;refine wpAny_mono (he s8 D8 H8 _ I8 q8) (fun y s9 ⟨v,H9,I9,r9,acc,hacc,hsz,q9⟩=>?_) fun _ _ z=>z.elim
     refine wpAny_mono (BR (X:=Am X scope cl N s2 H2 HH.objs.size fp) s9 D8 H9 (.ref s2.heap.objs.size) [v] (.ref s2.heap.objs.size) [y] (fun _ Hl=>∃ m',m' < n/\W (i + 1) m' D8 Hl) I9 rfl (.cons r9 .nil) ⟨_,acc,v,rfl,rfl,hacc,hsz,q9⟩) (fun _ LD ⟨_,Hl,O0,_,Ls⟩=>?_) fun _ _ z=>z.elim
     exact again O0 Ls
  ·have z:=(f2 b hb).1;obtain ⟨o,e⟩:=hfo b hb;rw [Af (XQ (XE e))];exact z
 exact codeAny_compStart_list (loop _ rfl) (T.self _ 0 _ _ _ (T.keep _ _ _ Eh fun b hb o e=>old b o e) (loop _ rfl))
theorem Paired.at {α β:Type} {F:α->β->Prop}:∀ {Qa:List α} {l₂:List β},Paired F Qa l₂->∀ {i:Nat} {a:α},Qa[i]? = some a->∃ b,l₂[i]? = some b/\F a b
 | _,_,.nil,i,a,h=>by simp at h
 | _,_,.cons r t,0,a,h=>by
  simp only [YF,Yi.injEq] at h;subst h;exact ⟨_,rfl,r⟩
 | _,_,.cons r t,i + 1,a,h=>by
  simp only [ZO] at h;obtain ⟨b,h1,h2⟩:=Paired.at t h;exact ⟨b,by simpa using h1,h2⟩
theorem Ny {P:Program} {w:World} {k:AO} {u:Value} (h:(AK P w).is k u=true):A3 (kV k) u:=by
 rcases AZ (show GH k u=true from h) with ⟨i,t,rfl,rfl⟩ | ⟨x,t,rfl,rfl⟩
 ·exact ⟨t,rfl⟩
 ·exact ⟨t,rfl⟩
def RQ (a:Addr) (kvs:List (AO × V)) (o:Obj):It:=
 ⟨fun i H=>H a=some (.frz o (.dK kvs))/\i < kvs.length,fun i H x H'=>H'=H/\∃ k v,kvs[i]? = some (k,v)/\x=kV k,fun i H=>H a=some (.frz o (.dK kvs))/\kvs.length<=i⟩
theorem LZ {X:Cx} {pins:List (Addr × Obj)} {σ:St} {H:Hp} {s:Shared} {a:Addr} {o:Obj} {kvs:List (AO × V)} {es:Array DictEntry} {ep:Nat} (I:An X pins σ H s) (e:H a=some (.frz o (.dK kvs))) (he:o.data=.dict es ep) :
  (a == sysModules)=false/\∃ vs,KV kvs vs/\s.heap.DictAt (AK X.prog X.w) a vs ep:=by
 obtain ⟨ho,z,hd,vs,rel,o',Wg,Si,h1,h2,h3,h4⟩:=(show A9 X.prog X.w H s.heap a (.frz o (.dK kvs)) from I.hok a _ e)
 rw [ho] at h1;cases h1
 rw [he] at h3;injection h3 with h5 h6;subst h5 h6;exact ⟨hd,vs,rel,o,es,ho,h2,he,h4⟩
theorem Ng {P:Program} {w:World} {K:XB} {tg:Expr} (a it:Addr) {kvs:List (AO × V)} {o:Obj} {es:Array DictEntry} {ep:Nat} (he:o.data=.dict es ep) :
  Md P w K tg (RQ a kvs o) [it] it (fun i h=>h.IsKeyIter it a i kvs.length ep) where
 mem:=by simp
 obj:=fun i h st b hb=>by
  have e:b=it:=by simpa using hb
  subst e;obtain ⟨o,e,c,d⟩:=st;exact ⟨o,e,fun v z=>by rw [d] at z; cases z⟩
 keep:=fun i h h' st k=>st.at fun o e=>k it (by simp) o e
 item:=by
  intro X hP hw hK hc i pins s σ H E I hf st hg;subst hP hw hK;obtain ⟨hq,B0⟩:=hg;obtain ⟨hd,vs,rel,da⟩:=LZ I hq he;have hx:kvs[i]? = some kvs[i]:=by simp [B0]
  obtain ⟨⟨k,v⟩,hv,e1,e2⟩:=Paired.at rel hx;have hl:kvs.length=vs.length:=rel.length;obtain ⟨f0,f1,f2,f3,f4,f5⟩:=hf it (by simp);rw [hl] at st;refine wpAny_pyNext_dict_item st da hv fun key h' hkey AV sb=>?_
  have I1:An X pins σ H { s with heap:=h' }:=I.turned (t':=s.toks) (fun b o hb e=>(sb.2 b hb).trans e) f0 f1 f3 f4 f5;rw [<-hl] at AV;obtain ⟨o',e,c,d⟩:=id AV;refine ⟨key,rfl,JF (s:={ s with heap:=h' }) e c d (by decide) ⟨kV k,H,I1,Ny hkey,⟨rfl,k,kvs[i].2,?_,rfl⟩,AV,fun b hb=>(hf b hb).1⟩⟩;have RI:kvs[i].1=k:=e1;rw [hx,<-RI]
 done:=by
  intro X hP hw hK hc i pins s σ H E I hf st hg;subst hP hw hK;obtain ⟨hq,hle⟩:=hg;obtain ⟨hd,vs,rel,da⟩:=LZ I hq he;have hl:kvs.length=vs.length:=rel.length;obtain ⟨f0,f1,f2,f3,f4,f5⟩:=hf it (by simp);rw [hl] at st;exact wpAny_pyNext_dict_end (I.ok.hd hc) st da (by simp; lia) fun h' eb=>⟨rfl,I.turned (t':=s.toks) (fun b o hb e=>eb b o hb e) f0 f1 f3 f4 f5⟩
 self:=fun _ _ _ _ _ st h=>wpAny_pyIter_keyiter st h
def Ee (H:Hp) (a:Addr) (kvs:List (AO × V)) (o:Obj) (H':Hp):Prop:=(H a=some (.dK kvs)/\H'=upd H a (.frz o (.dK kvs)))\/(H a=some (.frz o (.dK kvs))/\H'=H)
theorem Ee.at {H H':Hp} {a:Addr} {kvs:List (AO × V)} {o:Obj} (f:Ee H a kvs o H'):H' a=some (.frz o (.dK kvs)):=by
 rcases f with ⟨_,rfl⟩ | ⟨e,rfl⟩
 ·exact Ab
 ·exact e
theorem Ee.ne {H H':Hp} {a b:Addr} {kvs:List (AO × V)} {o:Obj} (f:Ee H a kvs o H') (h:b ≠ a):H' b=H b:=by
 rcases f with ⟨_,rfl⟩ | ⟨e,rfl⟩
 ·exact Af h
 ·rfl
theorem An.freeze {X:Cx} {pins:List (Addr × Obj)} {σ:St} {H:Hp} {s:Shared} {a:Addr} {kvs:List (AO × V)} (I:An X pins σ H s) (e:Rd H a (.dK kvs)) :
  ∃ o es ep H',o.data=.dict es ep/\Ee H a kvs o H'/\An X pins σ H' s:=by
 rcases e with e | ⟨o,e⟩
 ·obtain ⟨z,hd,vs,rel,o,es,ep,h1,h2,h3,h4⟩:=(show A9 X.prog X.w H s.heap a (.dK kvs) from I.hok a _ e)
  refine ⟨o,es,ep,upd H a (.frz o (.dK kvs)),h3,.inl ⟨e,rfl⟩,?_⟩;exact I.write (x:=a) (e:=a) (h':=s.heap) (t':=s.toks) (by rw [e]; exact True.intro) (.inl rfl) (fun b u _ q=>q) ⟨o,h1⟩ ⟨h1,z,hd,vs,rel,o,es,ep,h1,h2,h3,h4⟩
 ·obtain ⟨ho,z,hd,vs,rel,o',es,ep,h1,h2,h3,h4⟩:=(show A9 X.prog X.w H s.heap a (.frz o (.dK kvs)) from I.hok a _ e)
  rw [ho] at h1;cases h1
  exact ⟨o,es,ep,H,h3,.inr ⟨e,rfl⟩,I⟩
def iDict (tl:TE):TI:=fun σ H R=>tl σ H fun x H1=>∃ a kvs,x=.ref a/\Rd H1 a (.dK kvs)/\∀ o H2,Ee H1 a kvs o H2->R (RQ a kvs o) H2
theorem Ho {X:Cx} {tg l:Expr} {tl:TE} (hl:PE X l tl):PI X tg l (iDict tl):=by
 intro pins s σ H R I h;refine Bx (hl (pins:=pins) s σ H _ I h) fun v s1 ⟨x,H1,I1,r1,q1⟩=>?_
 obtain ⟨a,kvs,e,hr,q⟩:=q1;subst e;cases r1
 obtain ⟨o,es,ep,H2,he,fz,I2⟩:=I1.freeze hr;obtain ⟨hd,vs,rel,da⟩:=LZ I2 fz.at he;refine wpAny_pyIter_dict hd da ?_;refine ⟨s1.heap.objs.size,[s1.heap.objs.size],_,_,H2,rfl,I2.kept (t':=s1.toks) fun b o e=>X9 _ e,Ng a _ he,⟨_,XJ _ rfl,rfl,?_⟩,fun b hb=>?_,q o H2 fz⟩
 ·rw [rel.length]; rfl
 ·have e:b=s1.heap.objs.size:=by simpa using hb
  subst e;exact I2.fpOk (XD _) (I2.hok.fresh (XD _))
theorem Ld {a:Addr} {kvs:List (AO × V)} {o:Obj} {g:TG} {tb:TS} {D:El} {σ:St} {H:Hp} (Pv:Nat->St->Hp->Prop) (h0:Pv 0 σ H) (hl:∀ i σ H,i<=kvs.length->Pv i σ H->H a=some (.frz o (.dK kvs)))
  (hs:∀ i k v σ H,kvs[i]? = some (k,v)->Pv i σ H->g (kV k) σ H fun A6 H2=>tb { D with nx:=Pv (i + 1),ct:=Pv (i + 1),bk:=D.nx } A6 H2) (hd:∀ σ H,Pv kvs.length σ H->D.nx σ H) :
  ∃ W:Nat->Nat->St->Hp->Prop,(∃ m,W 0 m σ H)/\∀ i m σ H,W i m σ H ->
   ((RQ a kvs o).stop i H/\D.nx σ H)\/((RQ a kvs o).go i H/\∃ N:St->Hp->Prop,(∀ Ar H',N Ar H'->∃ m',m' < m/\W (i + 1) m' Ar H')/\∀ x H',(RQ a kvs o).yld i H x H'->g x σ H' fun A6 H2=>tb { D with nx:=N,ct:=N,bk:=D.nx } A6 H2):=by
 refine ⟨fun i m σ H=>m=kvs.length - i/\i<=kvs.length/\Pv i σ H,⟨kvs.length,by simp,Yr _,h0⟩,?_⟩;rintro i m σ H ⟨rfl,hi,p⟩;have q:=hl i σ H hi p;by_cases B0:i < kvs.length
 ·refine .inr ⟨⟨q,B0⟩,Pv (i + 1),fun Ar H' p'=>⟨kvs.length - (i + 1),by lia,rfl,B0,p'⟩,fun x H' y=>?_⟩;obtain ⟨e,k,v,e1,e2⟩:=y;subst e e2;exact hs i k v σ _ e1 p
 ·have e:i=kvs.length:=by lia
  subst e;exact .inl ⟨⟨q,XD _⟩,hd σ H p⟩
section
variable {prog:Program} {w:World} {A:Around} {E:Value->Shared->Prop} {s:Shared}
end
theorem Cn (a:List Nat):¬ a < a:=Z3 a
section
variable {X:Cx} {pins:List (Addr × Obj)} {σ Ar:St} {H H':Hp} {s2 s':Shared} {scope:Scope} {cl:List (Str × Addr)} {N:List Str} {fp:List Addr} {C D:Addr} {A5 h':Heap} {t':Nat}
theorem GJ {ob:HO} (I:An X pins σ H s2) (hf:∀ b ∈ fp,Dl X pins H b) (hfo:∀ b ∈ fp,∃ o,s2.heap.get? b=some o) (co:AS X scope cl) (hσ:AU X cl scope N σ Ar)
  (k:∀ b o,s2.heap.get? b=some o->A5.get? b=some o) (hD:s2.heap.objs.size<=D) (hC:s2.heap.objs.size<=C) (hDC:C ≠ D)
  (newO:A9 X.prog X.w (upd H D ob) A5 D ob) {m:Str->Option Value} (hn:A5.Ns C m) :
  An (Am X scope cl N s2 H C fp) [] Ar (upd H D ob) { s2 with heap:=A5,toks:=t' }:=by
 have fD:H D=none:=I.hok.fresh hD;have fC:H C=none:=I.hok.fresh hC;have lts:∀ b ∈ fp,b < s2.heap.objs.size:=fun b hb=>let ⟨_,e⟩:=hfo b hb; XE e
 have cells_lt:∀ x c,cl.lookup x=some c->c < s2.heap.objs.size:=fun x c e=>by
  obtain ⟨v,q⟩:=I.cell x c (co.sub x c e);exact q.lt
 have ok:Cx.Ok (Am X scope cl N s2 H C fp):=by
  refine ⟨I.ok.mod,?_,I.ok.glob,I.ok.blt,hC,?_,?_,?_,I.ok.hd,I.ok.frames,.inl rfl,?_,I.bs,Yo I.ok.bsz I.sz,?_,?_,I.stack,I.stkFree⟩
  ·exact co.kind
  ·exact fun x y c e1 e2=>I.ok.inj x y c (co.sub x c e1) (co.sub y c e2)
  ·exact fun x h=>co.has x h
  ·exact fun x c h _=>by cases h
  ·intro b hb;refine ⟨fun e=>?_,fun x c e=>(hf b hb).2.2.2.2.1 x c (co.sub x c e)⟩;have z:=lts b hb;exact absurd (XH z hC) (by rw [show b=C from e]; exact Yx _)
  ·intro b o e hb;have Gb:b ∈ fp:=hb;rcases (hf b Gb).2.2.2.1 with z | z
   ·exact I.ok.noex b o e z
   ·exact absurd (XH (XE e) (Yo I.ok.bsz z)) (Yx _)
  ·intro b hb hz;have Gb:b ∈ fp:=hb;obtain ⟨_,f1,f2,_⟩:=hf b Gb;rcases XC.mp (I.stkSub b hz) with e | e
   ·exact f1 e
   ·exact f2 e
 refine ⟨ok,rfl,I.bare,Un.laid k hD fD,?_,?_,?_,?_,?_,I.hok.laid k hD newO,hσ.1⟩
 ·refine ⟨m,hn,fun i x v e1 e2 _=>?_⟩;obtain ⟨⟨j,j1,j2⟩,kk,kr⟩:=hσ.2 i x v e1 e2;obtain ⟨mo,_,hl⟩:=I.loc;obtain ⟨u,r,l⟩:=hl j x v j1 j2 (by
   rcases kk with z | z
   ·exact .inr (.inl z)
   ·exact .inr (.inr z))
  refine ⟨u,r,.inr ⟨kr,?_⟩⟩;obtain ⟨c,hc⟩:=co.has x kr;rcases l with ⟨z,_⟩ | ⟨_,c',F4,hcell⟩
  ·rcases kk with q | q
   ·rw [z] at q; cases q
   ·rw [z] at q; cases q
  ·have e3:=co.sub x c hc;rw [F4] at e3;have e4:c'=c:=Yi.inj e3;subst e4;obtain ⟨o,ho,hd⟩:=hcell;exact ⟨c',hc,o,k _ o ho,hd⟩
 ·intro x c e;obtain ⟨v,o,ho,hd⟩:=I.cell x c (co.sub x c e);exact ⟨v,o,k _ o ho,hd⟩
 ·show upd H D ob C=none
  rw [Af hDC];exact fC
 ·intro x c e;rw [Af (XQ (XH (cells_lt x c e) hD))];exact I.freeC x c (co.sub x c e)
 ·intro p hp;cases hp
end
section
variable {prog:Program} {w:World} {A:Around} {R:Result->Shared->Prop} {s:Shared}
theorem BI {kx vx target iter:Expr} {ifs:List Expr} {scope:Scope} {pos:Pos} {it:Value} {D:Addr} {env:Env} (I:Nat->Shared->Prop)
  (turn:∀ n s,I n s->wpAny (model prog w) A (pyNext it) (fun r A7=>match r with
   | none=>R (.ok .next) A7
   | some v=>wpAny (model prog w) A (letOwnedTupleGo target it v) (fun _ En=>wpAny (model prog w) A (assign target env v) (fun _ Cr=>
     wpAny (model prog w) A (forIn ifs true fun c r=>if r=true then do let ok <- isTrue c env (eval c env); pure (ForInStep.yield ok) else pure (ForInStep.yield r)) (fun ok Bu=>
      if ok=true then wpAny (model prog w) A (eval kx env) (fun kv Hy=>wpAny (model prog w) A (eval vx env) (fun vv Hx=>
       wpAny (model prog w) A (dictSet D kv vv) (fun _ SE=>∃ m,m < n/\I m SE) (notedBy (model prog w) A env fun e s'=>R (.error e) s') Hx) (notedBy (model prog w) A env fun e s'=>R (.error e) s') Hy) (notedBy (model prog w) A env fun e s'=>R (.error e) s') Bu
      else ∃ m,m < n/\I m Bu) (notedBy (model prog w) A env fun e s'=>R (.error e) s') Cr) (notedBy (model prog w) A env fun e s'=>R (.error e) s') En) (notedBy (model prog w) A env fun e s'=>R (.error e) s') A7) (notedBy (model prog w) A env fun e s'=>R (.error e) s') s)
  (n:Nat) (h:I n s) :
  codeAny (model prog w) A (.compLoop (.DictComp kx vx [⟨target,iter,ifs,0⟩] scope pos) 0 it (.ref D) env) R s:=by
 refine codeAny_loop rfl I (fun n s hI=>?_) n h;show wpAny _ A ((compTurn (.DictComp kx vx [⟨target,iter,ifs,0⟩] scope pos) 0 it (.ref D) env).onRaise (fun x=>do noteFrame x env; theTreesLotGoes x)) _ _ s
 refine wpAny_noted ?_;rw [compTurn_dict];refine wpAny_bind (wpAny_standAt (wpAny_bind (wpAny_mono (turn n s hI) (fun r A7 A5=>?_) fun _ _ h'=>h')));cases r with
 | none=>exact wpAny_pure A5
 | some v=>
  refine wpAny_bind (wpAny_mono A5 (fun _ En Ie=>?_) fun _ _ h'=>h');refine wpAny_bind (wpAny_mono Ie (fun _ Cr Ic=>wpAny_bind (wpAny_mono Ic (fun ok Bu Gp=>?_) fun _ _ h'=>h')) fun _ _ h'=>h');cases ok with
  | false=>exact wpAny_pure ⟨rfl,Gp⟩
  | true=>
   exact wpAny_bind (wpAny_bind (wpAny_mono Gp (fun kv Hy LV=>wpAny_bind (wpAny_holding (wpAny_mono LV (fun vv Hx LU=>wpAny_bind (wpAny_standAt (wpAny_holding (wpAny_mono LU (fun _ SE Tz=>wpAny_pure ⟨rfl,Tz⟩) fun _ _ h'=>h')))) fun _ _ h'=>h'))) fun _ _ h'=>h'))
end
theorem Gr {X:Cx} {pins:List (Addr × Obj)} {σ:St} {H:Hp} {s:Shared} {a:Addr} {k:AO} {v:V} {u r:Value} {kvs:List (AO × V)} {A:Around} {E:Value->Shared->Prop} {Q:Unit->Shared->Prop} (I:An X pins σ H s) (e:H a=some (.dK kvs)) (l:kvs.length < sizeLine) (ry:A3 (kV k) u) (rv:A3 v r)
  (h:∀ s',An X pins σ (upd H a (.dK (BC kvs k v))) s'->Q () s'):wpAny (model X.prog X.w) A (dictSet a u r) Q E s:=by
 obtain ⟨z,hd,vs,rel,dd⟩:=MP I.hok e;have hz:vs.length<=sizeLine:=by rw [<-rel.length]; exact z
 have hl:(BC kvs k v).length<=sizeLine:=by have:=CG kvs k v; lia
 refine wpAny_dictSet_pairs (hsz:=hz) (GI ry) dd fun h' MT hs=>h _ ?_
 have he:∃ q,h'.get? a=some q:=let ⟨q,_,_,hq,_⟩:=MT; ⟨q,hq⟩;exact Ht I (by rw [e]; exact True.intro) hs he (Kt hl hd (rel.put k rv) MT)
def L6 (wi:TI) (g:TG) (tt:TT) (tk tv:TE) (σ0:St->St):TE:=fun σ H Q=>wi σ H fun J H1=>∀ D,H1 D=none->∃ W:Nat->Nat->St->Hp->Prop,(∃ m,W 0 m (σ0 σ) (upd H1 D (.dK []))) /\
 ∀ i m Ar H',W i m Ar H'->(J.stop i H'/\Q (.ref D) H')\/(J.go i H'/\∀ x H2,J.yld i H' x H2->g x Ar H2 fun A6 H3=>tt A6 H3 fun b H4=>
  if b=true then tk A6 H4 (fun y H5=>tv A6 H5 fun v H6=>∃ kvs k,y=kV k/\H6 D=some (.dK kvs)/\kvs.length < sizeLine/\∃ m',m' < m/\W (i + 1) m' A6 (upd H6 D (.dK (BC kvs k v)))) else ∃ m',m' < m/\W (i + 1) m' A6 H4)
theorem HK {X:Cx} {tg iter kx vx:Expr} {ifs:List Expr} {scope:Scope} {cl:List (Str × Addr)} {N:List Str} {pos:Pos} {wi:TI} {g:TG} {tt:TT} {tk tv:TE} {σ0:St->St} (hc:X.calm=true) (co:AS X scope cl)
  (hσ:∀ σ,σ.length=X.N.length->AU X cl scope N σ (σ0 σ)) (hi:PI X tg iter wi)
  (hb:∀ s2 H C fp,PG (Am X scope cl N s2 H C fp) tg g/\QF (Am X scope cl N s2 H C fp) ifs tt/\PE (Am X scope cl N s2 H C fp) kx tk/\PE (Am X scope cl N s2 H C fp) vx tv)
  (hs:∀ x,foldedSetIterable iter X.env x=pure x:=by intro _; rfl):PE X (.DictComp kx vx [⟨tg,iter,ifs,0⟩] scope pos) (L6 wi g tt tk tv σ0):=by
 intro pins s σ H Q I h;rw [arm_eval_DictComp];refine wpAny_comprehension_free (use:=none) rfl hs co.clos co.kind co.names (wpAny_mono (hi (pins:=pins) s σ H _ I h) (fun xv s1 h1=>wpAny_mono h1 (fun itv s2 h2=>?_) fun _ _ e=>e) fun _ _ e=>e);obtain ⟨it,fp,tn,J,H2,rfl,I2,T,Eh,f2,hW⟩:=h2;refine wpAny_newObj_type (wpAny_newFunctionEnv co.cell (by intro y hy; cases hy) (fun A5 Bo Bf=>?_) co.kind);dsimp only at Bo Bf ⊢;generalize Gq:s2.heap.push { cls:=.type "dict",dict:=none,data:=.dict #[] } = HH at Bo Bf ⊢;have AY:HH.objs.size=s2.heap.objs.size + 1:=by rw [<-Gq,Ys]
 have old:∀ b o,s2.heap.get? b=some o->A5.get? b=some o:=fun b o e=>
  Bf.extBut b o (XQ (by rw [AY]; exact Yl (XE e))) (X9 _ (Gq ▸ X9 _ e))
 have newD:A9 X.prog X.w (upd H2 s2.heap.objs.size (.dK [])) A5 s2.heap.objs.size (.dK []):=
  let ⟨z,hd,vs,rel,o,es,ep,ho,r⟩:=FR (P:=X.prog) (w:=X.w) (H:=upd H2 s2.heap.objs.size (.dK [])) s2.heap I2.big
  ⟨z,hd,vs,rel,o,es,ep,Bf.extBut _ _ (XQ (by rw [AY]; exact Ym _)) (X9 _ (Gq ▸ ho)),r⟩
 obtain ⟨W,⟨m0,w0⟩,turn⟩:=hW s2.heap.objs.size I2.fresh;have hfo:∀ b ∈ fp,∃ o,s2.heap.get? b=some o:=fun b hb=>let ⟨o,e,_⟩:=T.obj _ _ Eh b hb; ⟨o,e⟩
 have I3:An (Am X scope cl N s2 H2 HH.objs.size fp) [] (σ0 σ) (upd H2 s2.heap.objs.size (.dK [])) { s2 with heap:=A5,toks:=s2.toks + ([]:List (Str × Value)).length }:=
  GJ I2 f2 hfo co (hσ σ I.len) old (XD _) (by rw [AY]; exact Yt _) (Yy (by rw [AY]; exact Ym _)) newD Bo
 have fC:s2.heap.objs.size<=HH.objs.size:=by rw [AY]; exact Yt _
 obtain ⟨hg,ht,hk,hv⟩:=hb s2 H2 HH.objs.size fp;have loop:∀ Bu:Shared,Bu = { s2 with heap:=A5,toks:=s2.toks + ([]:List (Str × Value)).length } ->
   codeAny (model X.prog X.w) X.A (.compLoop (.DictComp kx vx [⟨tg,iter,ifs,0⟩] scope pos) 0 (.ref it) (.ref s2.heap.objs.size) (compEnvC scope cl HH.objs.size X.env))
    (compPost (model X.prog X.w) X.A X.xe none (EP X pins σ Q) (.ref s2.heap.objs.size) HH.objs.size) Bu:=by
  rintro Bu rfl;have stat:∀ {H':Hp} ,(∀ b ∈ fp,H' b=none)->∀ b ∈ fp,Dl (Am X scope cl N s2 H2 HH.objs.size fp) [] H' b:=fun hn b hb=>by
   refine ⟨hn b hb,?_,?_,.inl hb,?_,fun p hp=>by cases hp⟩
   ·obtain ⟨o,e⟩:=hfo b hb;exact XQ (show b < HH.objs.size by rw [AY]; exact Yl (XE e))
   ·intro hz;obtain ⟨_,q1,q2,_⟩:=f2 b hb;rcases XC.mp (I2.stkSub b hz) with e | e
    ·exact q1 e
    ·exact q2 e
   ·exact fun x c e=>(f2 b hb).2.2.2.2.1 x c (co.sub x c e)
  refine BI (fun n s'=>∃ i Ar H',An (Am X scope cl N s2 H2 HH.objs.size fp) [] Ar H' s'/\tn i s'.heap/\(∀ b ∈ fp,H' b=none)/\W i n Ar H') ?_ m0
   ⟨0,σ0 σ,_,I3,T.keep _ _ _ Eh fun b hb o e=>old b o e,fun b hb=>?_,w0⟩
  ·rintro n s4 ⟨i,DP,H4,I4,Jo,JG,w4⟩;rcases turn i n DP H4 w4 with ⟨stop,qn⟩ | ⟨go,step⟩
   ·refine wpAny_mono (T.done (Am X scope cl N s2 H2 HH.objs.size fp) rfl rfl rfl hc i [] s4 DP H4 (fun _ _=>False) I4 (stat JG) Jo stop) (fun r s5 ⟨hr,I5⟩=>?_) fun _ _ z=>z.elim
    subst hr;obtain ⟨m5,Oa,_⟩:=id I5.loc;exact ⟨m5,Oa,fun h' Lu=>⟨.ref _,H4,EF I2 f2 fC I5 Lu,rfl,qn⟩⟩
   ·refine wpAny_mono (T.item (Am X scope cl N s2 H2 HH.objs.size fp) rfl rfl rfl hc i [] s4 DP H4 (fun _ _=>False) I4 (stat JG) Jo go) (fun r s5 ⟨u,hr,h5⟩=>?_) fun _ _ z=>z.elim
    subst hr;refine wpAny_mono h5 (fun _ s6 ⟨x,H6,I6,r6,y6,Gd,Of⟩=>?_) fun _ _ z=>z.elim
    have Oz:=I6.pinned (stat Of) (T.obj _ _ Gd);refine wpAny_mono (hg s6 DP H6 x u _ Oz r6 (step x H6 y6)) (fun _ s7 ⟨D8,H7,I7,q7⟩=>?_) fun _ _ z=>z.elim
    refine wpAny_mono (ht s7 D8 H7 _ I7 q7) (fun ok s8 ⟨H8,I8,q8⟩=>?_) fun _ _ z=>z.elim
    have again:∀ {s9:Shared} {DO:St} {H9:Hp} ,An (Am X scope cl N s2 H2 HH.objs.size fp) ([] ++ BF fp s6.heap) DO H9 s9->(∃ m',m' < n/\W (i + 1) m' DO H9)->∃ m,m < n/\∃ i Ar H',An (Am X scope cl N s2 H2 HH.objs.size fp) [] Ar H' s9/\tn i s9.heap/\(∀ b ∈ fp,H' b=none)/\W i m Ar H':=fun {s9 DO H9} I9 n9=>by
     obtain ⟨m',hm,w9⟩:=n9;refine ⟨m',hm,i + 1,DO,H9,I9.unpinned,T.keep _ _ _ Gd fun b hb o e=>(I9.pin (b,o) (XO _ (XO _ (A8 hb e)))).1,fun b hb=>?_,w9⟩;obtain ⟨o,e,d⟩:=T.obj _ _ Gd b hb;exact (I9.pin (b,o) (XO _ (XO _ (A8 hb e)))).2.1
    cases ok with
    | false=>
     rw [if_neg Yc] at q8 ⊢;exact again I8 q8
    | true=>
     rw [if_pos rfl] at q8 ⊢;refine wpAny_mono (hk s8 D8 H8 _ I8 q8) (fun yk s9 ⟨k,H9,I9,r9,q9⟩=>?_) fun _ _ z=>z.elim
     refine wpAny_mono (hv s9 D8 H9 _ I9 q9) (fun yv LD ⟨v,Hl,O0,UL,kvs,key,ek,hacc,hsz,Ls⟩=>?_) fun _ _ z=>z.elim
     subst ek;exact Gr (X:=Am X scope cl N s2 H2 HH.objs.size fp) O0 hacc hsz r9 UL fun Q9 Sq=>again Sq Ls
  ·have z:=(f2 b hb).1;obtain ⟨o,e⟩:=hfo b hb;rw [Af (XQ (XE e))];exact z
 exact codeAny_compStart_dict (loop _ rfl) (T.self _ 0 _ _ _ (T.keep _ _ _ Eh fun b hb o e=>old b o e) (loop _ rfl))
theorem Pt {X:Cx} {ix:Nat} {x:Str} {px spos:Pos} {tg iter kx vx:Expr} {ifs:List Expr} {scope:Scope} {cl:List (Str × Addr)} {N:List Str} {pos:Pos} {wi:TI} {g:TG} {tt:TT} {tk tv:TE} {σ0:St->St} (hN:X.N.Nodup) (hix:X.N[ix]? = some x) (hlx:Ua X.env.scope x) (hc:X.calm=true) (co:AS X scope cl)
  (hσ:∀ σ,σ.length=X.N.length->AU X cl scope N σ (σ0 σ)) (hi:PI X tg iter wi)
  (hb:∀ s2 H C fp,PG (Am X scope cl N s2 H C fp) tg g/\QF (Am X scope cl N s2 H C fp) ifs tt/\PE (Am X scope cl N s2 H C fp) kx tk/\PE (Am X scope cl N s2 H C fp) vx tv)
  (hsw:swapsWith (.DictComp kx vx [⟨tg,iter,ifs,0⟩] scope pos) (some (.Name x px)) spos.line X.env=pure true:=by rfl)
  (hs:∀ x,foldedSetIterable iter X.env x=pure x:=by intro _; rfl) (hf:X.fn x=true\/X.env.scope.names.lookup x=some .local:=by first | exact .inl rfl | exact .inr rfl | assumption) :
  PS X (.Assign [.Name x px] (.DictComp kx vx [⟨tg,iter,ifs,0⟩] scope pos) spos) (OO (L6 wi g tt tk tv σ0) (Ij ix)):=by
 intro pins s σ H DD I h;rw [exec_Assign_Name_used _ _ _ _ hsw];refine wpAny_bind (wpAny_standAt (wpAny_bind ?_));show wpAny _ X.A (do let _ <- comprehension (.DictComp kx vx [⟨tg,iter,ifs,0⟩] scope pos) scope X.env _ newDict false (eval iter X.env) (some (assign (.Name x px) X.env))) _ _ s
 refine wpAny_bind (wpAny_mono (wpAny_comprehension_free (use:=some (assign (.Name x px) X.env)) (Q:=fun _ s'=>SP X pins DD .next s') rfl hs co.clos co.kind co.names
  (wpAny_mono (hi (pins:=pins) s σ H _ I h) (fun xv s1 h1=>wpAny_mono h1 (fun itv s2 h2=>?_) fun _ _ e=>e) fun _ _ e=>e)) (fun _ s' hq=>wpAny_pure (wpAny_pure hq)) fun _ _ e=>e)
 obtain ⟨it,fp,tn,J,H2,rfl,I2,T,Eh,f2,hW⟩:=h2;refine wpAny_newObj_type (wpAny_newFunctionEnv co.cell (by intro y hy; cases hy) (fun A5 Bo Bf=>?_) co.kind);dsimp only at Bo Bf ⊢;generalize Gq:s2.heap.push { cls:=.type "dict",dict:=none,data:=.dict #[] } = HH at Bo Bf ⊢;have AY:HH.objs.size=s2.heap.objs.size + 1:=by rw [<-Gq,Ys]
 have old:∀ b o,s2.heap.get? b=some o->A5.get? b=some o:=fun b o e=>
  Bf.extBut b o (XQ (by rw [AY]; exact Yl (XE e))) (X9 _ (Gq ▸ X9 _ e))
 have newD:A9 X.prog X.w (upd H2 s2.heap.objs.size (.dK [])) A5 s2.heap.objs.size (.dK []):=
  let ⟨z,hd,vs,rel,o,es,ep,ho,r⟩:=FR (P:=X.prog) (w:=X.w) (H:=upd H2 s2.heap.objs.size (.dK [])) s2.heap I2.big
  ⟨z,hd,vs,rel,o,es,ep,Bf.extBut _ _ (XQ (by rw [AY]; exact Ym _)) (X9 _ (Gq ▸ ho)),r⟩
 obtain ⟨W,⟨m0,w0⟩,turn⟩:=hW s2.heap.objs.size I2.fresh;have hfo:∀ b ∈ fp,∃ o,s2.heap.get? b=some o:=fun b hb=>let ⟨o,e,_⟩:=T.obj _ _ Eh b hb; ⟨o,e⟩
 have I3:An (Am X scope cl N s2 H2 HH.objs.size fp) [] (σ0 σ) (upd H2 s2.heap.objs.size (.dK [])) { s2 with heap:=A5,toks:=s2.toks + ([]:List (Str × Value)).length }:=
  GJ I2 f2 hfo co (hσ σ I.len) old (XD _) (by rw [AY]; exact Yt _) (Yy (by rw [AY]; exact Ym _)) newD Bo
 have fC:s2.heap.objs.size<=HH.objs.size:=by rw [AY]; exact Yt _
 obtain ⟨hg,ht,hk,hv⟩:=hb s2 H2 HH.objs.size fp;have loop:∀ Bu:Shared,Bu = { s2 with heap:=A5,toks:=s2.toks + ([]:List (Str × Value)).length } ->
   codeAny (model X.prog X.w) X.A (.compLoop (.DictComp kx vx [⟨tg,iter,ifs,0⟩] scope pos) 0 (.ref it) (.ref s2.heap.objs.size) (compEnvC scope cl HH.objs.size X.env))
    (compPost (model X.prog X.w) X.A X.xe (some (assign (.Name x px) X.env)) (fun _ s'=>SP X pins DD .next s') (.ref s2.heap.objs.size) HH.objs.size) Bu:=by
  rintro Bu rfl;have stat:∀ {H':Hp} ,(∀ b ∈ fp,H' b=none)->∀ b ∈ fp,Dl (Am X scope cl N s2 H2 HH.objs.size fp) [] H' b:=fun hn b hb=>by
   refine ⟨hn b hb,?_,?_,.inl hb,?_,fun p hp=>by cases hp⟩
   ·obtain ⟨o,e⟩:=hfo b hb;exact XQ (show b < HH.objs.size by rw [AY]; exact Yl (XE e))
   ·intro hz;obtain ⟨_,q1,q2,_⟩:=f2 b hb;rcases XC.mp (I2.stkSub b hz) with e | e
    ·exact q1 e
    ·exact q2 e
   ·exact fun x c e=>(f2 b hb).2.2.2.2.1 x c (co.sub x c e)
  refine BI (fun n s'=>∃ i Ar H',An (Am X scope cl N s2 H2 HH.objs.size fp) [] Ar H' s'/\tn i s'.heap/\(∀ b ∈ fp,H' b=none)/\W i n Ar H') ?_ m0
   ⟨0,σ0 σ,_,I3,T.keep _ _ _ Eh fun b hb o e=>old b o e,fun b hb=>?_,w0⟩
  ·rintro n s4 ⟨i,DP,H4,I4,Jo,JG,w4⟩;rcases turn i n DP H4 w4 with ⟨stop,qn⟩ | ⟨go,step⟩
   ·refine wpAny_mono (T.done (Am X scope cl N s2 H2 HH.objs.size fp) rfl rfl rfl hc i [] s4 DP H4 (fun _ _=>False) I4 (stat JG) Jo stop) (fun r s5 ⟨hr,I5⟩=>?_) fun _ _ z=>z.elim
    subst hr;obtain ⟨m5,Oa,_⟩:=id I5.loc;have I6:An X pins σ H4 s5:=EF (h':=s5.heap) I2 f2 fC I5 (Heap.SameBut.refl _ _);have cC:∀ y c,X.env.cells.lookup y=some c->c ≠ HH.objs.size:=fun y c e=>by
     obtain ⟨v,q⟩:=I2.cell y c e;exact XQ (XH q.lt fC)
    have lC:X.env.locals ≠ HH.objs.size:=XQ (XH I2.lt fC);show wpAny _ X.A (assign (.Name x px) X.env (.ref s2.heap.objs.size)) _ X.xe s5
    refine wpAny_assign_Name (EO I6 hN hix hlx (v:=.ref s2.heap.objs.size) rfl (fun s7 I7 ⟨a,sb,ha⟩=>?_) hf);have aC:a ≠ HH.objs.size:=by
     rcases ha with rfl | ha
     ·exact lC
     ·exact cC _ _ ha
    refine ⟨m5,Oa.sameBut sb (Ne.symm aC),fun h' Lu=>⟨_,H4,?_,qn⟩⟩;exact I7.turned (t':=s7.toks) (it:=HH.objs.size) (fun b o hb e=>(Lu.2 b hb).trans e) I5.free (Ne.symm lC) (.inr (Yo I2.sz fC)) cC fun p hp z=>by
     have e:=(I2.pin p hp).1;exact absurd (XH (XE e) fC) (by rw [z]; exact Yx _)
   ·refine wpAny_mono (T.item (Am X scope cl N s2 H2 HH.objs.size fp) rfl rfl rfl hc i [] s4 DP H4 (fun _ _=>False) I4 (stat JG) Jo go) (fun r s5 ⟨u,hr,h5⟩=>?_) fun _ _ z=>z.elim
    subst hr;refine wpAny_mono h5 (fun _ s6 ⟨x,H6,I6,r6,y6,Gd,Of⟩=>?_) fun _ _ z=>z.elim
    have Oz:=I6.pinned (stat Of) (T.obj _ _ Gd);refine wpAny_mono (hg s6 DP H6 x u _ Oz r6 (step x H6 y6)) (fun _ s7 ⟨D8,H7,I7,q7⟩=>?_) fun _ _ z=>z.elim
    refine wpAny_mono (ht s7 D8 H7 _ I7 q7) (fun ok s8 ⟨H8,I8,q8⟩=>?_) fun _ _ z=>z.elim
    have again:∀ {s9:Shared} {DO:St} {H9:Hp} ,An (Am X scope cl N s2 H2 HH.objs.size fp) ([] ++ BF fp s6.heap) DO H9 s9->(∃ m',m' < n/\W (i + 1) m' DO H9)->∃ m,m < n/\∃ i Ar H',An (Am X scope cl N s2 H2 HH.objs.size fp) [] Ar H' s9/\tn i s9.heap/\(∀ b ∈ fp,H' b=none)/\W i m Ar H':=fun {s9 DO H9} I9 n9=>by
     obtain ⟨m',hm,w9⟩:=n9;refine ⟨m',hm,i + 1,DO,H9,I9.unpinned,T.keep _ _ _ Gd fun b hb o e=>(I9.pin (b,o) (XO _ (XO _ (A8 hb e)))).1,fun b hb=>?_,w9⟩;obtain ⟨o,e,d⟩:=T.obj _ _ Gd b hb;exact (I9.pin (b,o) (XO _ (XO _ (A8 hb e)))).2.1
    cases ok with
    | false=>
     rw [if_neg Yc] at q8 ⊢;exact again I8 q8
    | true=>
     rw [if_pos rfl] at q8 ⊢;refine wpAny_mono (hk s8 D8 H8 _ I8 q8) (fun yk s9 ⟨k,H9,I9,r9,q9⟩=>?_) fun _ _ z=>z.elim
     refine wpAny_mono (hv s9 D8 H9 _ I9 q9) (fun yv LD ⟨v,Hl,O0,UL,kvs,key,ek,hacc,hsz,Ls⟩=>?_) fun _ _ z=>z.elim
     subst ek;exact Gr (X:=Am X scope cl N s2 H2 HH.objs.size fp) O0 hacc hsz r9 UL fun Q9 Sq=>again Sq Ls
  ·have z:=(f2 b hb).1;obtain ⟨o,e⟩:=hfo b hb;rw [Af (XQ (XE e))];exact z
 exact codeAny_compStart_dict (loop _ rfl) (T.self _ 0 _ _ _ (T.keep _ _ _ Eh fun b hb o e=>old b o e) (loop _ rfl))
theorem Ke (p x:Str) (r:List Str):risingS p (x :: r)=(!ltCps x.cps.toList p.cps.toList && risingS x r):=rfl
theorem Jw:∀ (p:Str) (l:List Str),risingS p l=true->(p :: l).Pairwise fun a b=>¬ b.cps.toList < a.cps.toList
 | p,[],_=>Za _ _
 | p,x :: r,h=>by
  rw [Ke,YC,ltCps_eq] at h;have h1:¬ x.cps.toList < p.cps.toList:=by simpa using h.1
  have h2:=Jw x r h.2;refine YM.mpr ⟨fun y hy=>?_,h2⟩;rcases XC.mp hy with rfl | hy
  ·exact h1
  ·have h3:=(YM.mp h2).1 y hy;have a:p.cps.toList<=x.cps.toList:=Zb.mp h1;have b:x.cps.toList<=y.cps.toList:=Zb.mp h3;exact Zb.mpr (bj a b)
theorem Gg {l:List Str} (h:sortedS l=true):l.Pairwise fun a b=>¬ b.cps.toList < a.cps.toList:=by
 cases l with
 | nil=>exact .nil
 | cons p l=>exact Jw p l h
theorem Ce {a b:Str} (h1:¬ b.cps.toList < a.cps.toList) (h2:¬ a.cps.toList < b.cps.toList):a=b:=by
 have e:a.cps.toList=b.cps.toList:=List.le_antisymm (Zb.mp h1) (Zb.mp h2);cases a; cases b
 simp only [Str.mk.injEq];exact aL.mp e
theorem Js {l m:List Str} (hl:l.Pairwise fun a b=>¬ b.cps.toList < a.cps.toList) (hm:m.Pairwise fun a b=>¬ b.cps.toList < a.cps.toList) (p:l.Perm m):l=m:=
 List.Perm.eq_of_pairwise (fun a b _ _ h1 h2=>Ce h1 h2) hl hm p
theorem KH {l m:List Str} (hl:l.Nodup) (hm:m.Nodup) (h:∀ x,x ∈ l ↔ x ∈ m):l.Perm m:=(List.perm_ext_iff_of_nodup hl hm).mpr h
def K1 (ws:List AG) (x y:Str):Prop:=∃ u ∈ ws,(u.1=x/\u.2.1=y)\/(u.1=y/\u.2.1=x)
theorem K1.symm {ws:List AG} {x y:Str} (h:K1 ws x y):K1 ws y x:=let ⟨u,hu,h⟩:=h; ⟨u,hu,h.symm⟩
theorem DF (u:AG):(Ex u).1=u.1/\(Ex u).2.1=u.2.1\/(Ex u).1=u.2.1/\(Ex u).2.1=u.1:=by
 unfold Ex BG BH;by_cases h:u.2.1.cps.toList < u.1.cps.toList
 ·have h':¬ u.1.cps.toList < u.2.1.cps.toList:=Zr h;rw [if_pos h,if_neg h'];exact .inr ⟨rfl,rfl⟩
 ·rw [if_neg h];by_cases h':u.1.cps.toList < u.2.1.cps.toList
  ·rw [if_pos h']; exact .inl ⟨rfl,rfl⟩
  ·rw [if_neg h'];have e:u.1=u.2.1:=Ce h h';exact .inl ⟨rfl,e⟩
theorem Q4 {ws OB:List AG} (p:OB.Perm (ws.map Ex)) (x y:Str):K1 OB x y ↔ K1 ws x y:=by
 constructor
 ·rintro ⟨u,hu,h⟩;obtain ⟨v,hv,rfl⟩:=Ya.mp (p.mem_iff.mp hu);refine ⟨v,hv,?_⟩;rcases DF v with ⟨e1,e2⟩ | ⟨e1,e2⟩
  ·rw [e1,e2] at h; exact h
  ·rw [e1,e2] at h;rcases h with ⟨a,b⟩ | ⟨a,b⟩
   ·exact .inr ⟨b,a⟩
   ·exact .inl ⟨b,a⟩
 ·rintro ⟨v,hv,h⟩;refine ⟨Ex v,p.mem_iff.mpr (Ya.mpr ⟨v,hv,rfl⟩),?_⟩;rcases DF v with ⟨e1,e2⟩ | ⟨e1,e2⟩
  ·rw [e1,e2]; exact h
  ·rw [e1,e2];rcases h with ⟨a,b⟩ | ⟨a,b⟩
   ·exact .inr ⟨b,a⟩
   ·exact .inl ⟨b,a⟩
theorem JI {xs:List Str} {ws OB:List AG} (p:OB.Perm (ws.map Ex)) (h:∀ u ∈ ws,u.1 ∈ xs/\u.2.1 ∈ xs):∀ u ∈ OB,u.1 ∈ xs/\u.2.1 ∈ xs:=fun u hu=>by
 obtain ⟨v,hv,rfl⟩:=Ya.mp (p.mem_iff.mp hu);obtain ⟨a,b⟩:=h v hv;rcases DF v with ⟨e1,e2⟩ | ⟨e1,e2⟩ <;> rw [e1,e2]
 ·exact ⟨a,b⟩
 ·exact ⟨b,a⟩
def Kx (xs:List Str) (ws:List AG):Prop:=∀ j,0 < j->j < xs.length->∃ u ∈ ws,∃ i:Nat,i < j/\xs[i]? = some u.1/\xs[j]? = some u.2.1
theorem Kx.all {xs:List Str} {ws:List AG} (h:Kx xs ws) (S:Str->Prop) (cl:∀ x y,K1 ws x y->S x->S y) {r:Str} (hr:r ∈ xs) (sr:S r):∀ x ∈ xs,S x:=by
 have down:∀ n (i:Nat),i<=n->∀ x,xs[i]? = some x->S x->∀ x0,xs[0]? = some x0->S x0:=by
  intro n;induction n with
  | zero=>
   intro i hi x e s x0 e0;have:i=0:=by lia
   subst this;rw [e] at e0; cases e0; exact s
  | succ n ih=>
   intro i hi x e s x0 e0;by_cases hz:i=0
   ·subst hz;rw [e] at e0; cases e0; exact s
   ·obtain ⟨u,hu,k,hk,e1,e2⟩:=h i (by lia) (XX.mp e).1;rw [e] at e2; cases e2;exact ih k (by lia) u.1 e1 (cl _ _ ⟨u,hu,.inr ⟨rfl,rfl⟩⟩ s) x0 e0
 have up:∀ x0,xs[0]? = some x0->S x0->∀ n (i:Nat),i<=n->∀ x,xs[i]? = some x->S x:=by
  intro x0 e0 s0 n;induction n with
  | zero=>
   intro i hi x e;have:i=0:=by lia
   subst this;rw [e0] at e; cases e; exact s0
  | succ n ih=>
   intro i hi x e;by_cases hz:i=0
   ·subst hz;rw [e0] at e; cases e; exact s0
   ·obtain ⟨u,hu,k,hk,e1,e2⟩:=h i (by lia) (XX.mp e).1;rw [e] at e2; cases e2;exact cl _ _ ⟨u,hu,.inl ⟨rfl,rfl⟩⟩ (ih k (by lia) u.1 e1)
 intro x hx;obtain ⟨i,hi,e⟩:=Yn hr;obtain ⟨j,hj,e'⟩:=Yn hx;have h0:xs[0]? = some xs[0]:=XA (by lia);have s0:S xs[0]:=down i i (XD _) r (by rw [XA hi,e]) sr _ h0;exact up _ h0 s0 j j (XD _) x (by rw [XA hj,e'])
section
variable {ws:List AG} {r:Str} {bs cs:List (Str × Option Str)}
theorem OD {α β:Type} {l:List (α × β)} (h:(l.map (·.1)).Nodup) {x:α} {a b:β} (ha:(x,a) ∈ l) (hb:(x,b) ∈ l):a=b:=by
 induction l with
 | nil=>cases ha
 | cons p l ih=>
  rw [Yj] at h;obtain ⟨h1,h2⟩:=Y5.mp h;have key:∀ c,(x,c) ∈ l->p.1 ≠ x:=fun c hc z=>h1 (by rw [z]; exact Ya.mpr ⟨(x,c),hc,rfl⟩)
  rcases XC.mp ha with e | ha1
  ·rcases XC.mp hb with e' | QC
   ·rw [<-e] at e'; cases e'; rfl
   ·exact absurd (by rw [<-e]) (key b QC)
  ·rcases XC.mp hb with e' | QC
   ·exact absurd (by rw [<-e']) (key a ha1)
   ·exact ih h2 ha1 QC
end
section
variable {ws:List AG} {r:Str} {wk:List (Str × List Str)}
end
theorem F7 {H2 H3:Hp} {vs:List V} {ws:List AG} (h:BM H2 vs (ws.map MX)) (ht:∀ b xs,H2 b=some (.tup xs)->H3 b=some (.tup xs)):BM H3 vs (ws.map MX):=by
 induction ws generalizing vs with
 | nil=>cases h; exact .nil
 | cons u ws ih=>
  cases h with
  | cons h1 r=>
   refine .cons ?_ (ih r);cases h1 with
   | tup ha hd=>
    refine .tup (ht _ _ ha) ?_;cases hd with
    | cons h1 r1=>
     cases r1 with
     | cons h2 r2=>
      cases r2 with
      | cons h3 r3=>
       cases r3
       cases h1
       cases h2
       cases h3
       exact .cons (.str _) (.cons (.str _) (.cons (.int _) .nil))
theorem GC {α:Type} {l:List α} (h:l.Nodup) {i j:Nat} {x:α} (a:l[i]? = some x) (b:l[j]? = some x):i=j:=
 (List.getElem?_inj (XX.mp a).1 h).mp (a.trans b.symm)
def sK (nv:List (Str × V)):List (AO × V):=nv.map fun q=>(Sum.inr q.1,q.2)
theorem BW (nv:List (Str × V)):(sK nv).length=nv.length:=X8 ..
theorem Kc (nv:List (Str × V)):(sK nv).map (·.1)=(nv.map (·.1)).map Sum.inr:=by unfold sK; rw [Y7,Y7]; rfl
theorem SH (a b:List (Str × V)):sK (a ++ b)=sK a ++ sK b:=Yb ..
theorem Kb:∀ {nv:List (Str × V)} {y:Str},y ∉ nv.map (·.1)->Bi (sK nv) (Sum.inr y:AO)=none
 | [],y,_=>rfl
 | q :: nv,y,h=>by
  rw [Yj,XC,not_or] at h;show Bi ((Sum.inr q.1,q.2) :: sK nv) (Sum.inr y:AO)=none
  rw [Bw (fun z=>h.1 (Sum.inr.inj z).symm)];exact Kb h.2
theorem CV:∀ {nv:List (Str × V)} {y:Str} {v:V},(nv.map (·.1)).Nodup->(y,v) ∈ nv->Bi (sK nv) (Sum.inr y:AO)=some v
 | [],y,v,_,h=>nomatch h
 | q :: nv,y,v,hn,h=>by
  rw [Yj] at hn;obtain ⟨h1,h2⟩:=Y5.mp hn;show Bi ((Sum.inr q.1,q.2) :: sK nv) (Sum.inr y:AO)=some v
  rcases XC.mp h with e | h'
  ·subst e;exact B8 rfl
  ·rw [Bw (fun z=>h1 (by rw [Sum.inr.inj z]; exact Ya.mpr ⟨(y,v),h',rfl⟩))];exact CV h2 h'
theorem Gz {nv:List (Str × V)} {y:Str}:(Bi (sK nv) (Sum.inr y:AO)).isSome=decide (y ∈ nv.map (·.1)):=by
 by_cases h:y ∈ nv.map (·.1)
 ·rw [decide_eq_true h];cases e:Bi (sK nv) (Sum.inr y:AO) with
  | some v=>rfl
  | none=>
   have:=OF e;rw [Kc] at this;exact absurd (Ya.mpr ⟨y,h,rfl⟩) this
 ·rw [decide_eq_false h,Kb h]; rfl
theorem Df {nv:List (Str × V)} {y:Str} {v:V} (h:y ∉ nv.map (·.1)):BC (sK nv) (Sum.inr y:AO) v=sK (nv ++ [(y,v)]):=by
 rw [Po v (Kb h),SH]; rfl
theorem LC (nv:List (Str × V)) (y:Str) (v:V):∃ DE,BC (sK nv) (Sum.inr y:AO) v=sK DE/\DE.length<=nv.length + 1/\∀ z,z ∈ DE.map (·.1) ↔ z ∈ nv.map (·.1)\/z=y:=by
 by_cases h:y ∈ nv.map (·.1)
 ·refine ⟨nv.map fun q=>if q.1=y then (q.1,v) else q,?_,by rw [X8]; lia,fun z=>?_⟩
  ·unfold BC;have:((sK nv).any fun kv=>decide (kv.1=(Sum.inr y:AO)))=true:=by
    rw [Cd,Gz,decide_eq_true h]
   rw [if_pos this];unfold sK;rw [Y7,Y7];refine Zm fun q _=>?_
   by_cases e:q.1=y
   ·simp [e]
   ·have e':¬ (Sum.inr q.1:AO)=Sum.inr y:=fun z=>e (Sum.inr.inj z)
    simp [e,e']
  ·have e:(nv.map fun q=>if q.1=y then (q.1,v) else q).map (·.1)=nv.map (·.1):=by
    rw [Y7];refine Zm fun q _=>?_
    by_cases e:q.1=y <;> simp [e]
   rw [e];constructor
   ·exact .inl
   ·rintro (q | rfl)
    ·exact q
    ·exact h
 ·refine ⟨nv ++ [(y,v)],Df h,by simp,fun z=>by simp⟩
theorem Mw {nv:List (Str × V)} {i:Nat} {k:AO} {v:V} (h:(sK nv)[i]? = some (k,v)):∃ y,nv[i]? = some (y,v)/\k=.inr y:=by
 unfold sK at h;rw [XU] at h;cases e:nv[i]? with
 | none=>rw [e] at h; cases h
 | some q=>
  rw [e] at h;simp only [YX,Yi.injEq,Prod.mk.injEq] at h;exact ⟨q.1,by rw [<-h.2],h.1.symm⟩
structure Web (H:Hp) (q:Addr) (ps:List Str) (ws:List AG):Prop where
 ex:∃ tp tw us,H q=some (.tup [.ref tp,.ref tw])/\H tp=some (.tup (ps.map V.str))/\H tw=some (.tup us)/\BM H us (ws.map MX)
theorem Web.same {H H':Hp} {q:Addr} {ps:List Str} {ws:List AG} (h:Web H q ps ws) (s:∀ b xs,H b=some (.tup xs)->H' b=some (.tup xs)):Web H' q ps ws:=by
 obtain ⟨tp,tw,us,h1,h2,h3,h4⟩:=h.ex;exact ⟨tp,tw,us,s _ _ h1,s _ _ h2,s _ _ h3,F7 h4 s⟩
def ME (ps:List Str) (ds:List Addr):List (Str × V):=(ps.zip ds).map fun q=>(q.1,V.ref q.2)
theorem HR {ps:List Str} {ds:List Addr} (h:ps.length<=ds.length):(ME ps ds).map (·.1)=ps:=by
 unfold ME;rw [Y7];have:((fun (x:Str × V)=>x.1) ∘ fun (q:Str × Addr)=>(q.1,V.ref q.2))=Prod.fst:=rfl;rw [this,List.map_fst_zip h]
theorem MC {ps:List Str} {ds:List Addr} {i:Nat} {p:Str} {d:Addr} (h1:ps[i]? = some p) (h2:ds[i]? = some d):(p,V.ref d) ∈ ME ps ds:=by
 unfold ME;refine Ya.mpr ⟨(p,d),XG (i:=i) ?_,rfl⟩;rw [List.getElem?_zip_eq_some];exact ⟨h1,h2⟩
structure NB (H:Hp) (B:Addr) (ps:List Str) (ds:List Addr) (P:Str->Str->Prop) (n:Nat):Prop where
 top:H B=some (.dK (sK (ME ps ds)))
 len:ds.length=ps.length
 nd:ds.Nodup
 nB:B ∉ ds
 inner:∀ (i:Nat) (p:Str) (d:Addr),ps[i]? = some p->ds[i]? = some d->∃ nv:List (Str × V),H d=some (.dK (sK nv))/\nv.length<=n/\∀ y,y ∈ nv.map (·.1) ↔ P p y
theorem NB.get {H:Hp} {B:Addr} {ps:List Str} {ds:List Addr} {P:Str->Str->Prop} {n:Nat} (h:NB H B ps ds P n) (hn:ps.Nodup) {p:Str} (hp:p ∈ ps) :
  ∃ (i:Nat) (d:Addr) (nv:List (Str × V)),ps[i]? = some p/\ds[i]? = some d/\Bi (sK (ME ps ds)) (Sum.inr p:AO)=some (.ref d)/\H d=some (.dK (sK nv))/\nv.length<=n/\∀ y,y ∈ nv.map (·.1) ↔ P p y:=by
 obtain ⟨i,hi,e⟩:=Yn hp;have e1:ps[i]? = some p:=by rw [XA hi,e]
 have Us:i < ds.length:=by rw [h.len]; exact hi
 have e2:ds[i]? = some ds[i]:=XA Us;obtain ⟨nv,a1,a2,a3⟩:=h.inner i p _ e1 e2;refine ⟨i,_,nv,e1,e2,CV ?_ (MC e1 e2),a1,a2,a3⟩;rw [HR (by rw [h.len]; exact XD _)];exact hn
theorem NB.put {H:Hp} {B:Addr} {ps:List Str} {ds:List Addr} {P:Str->Str->Prop} {n:Nat} (h:NB H B ps ds P n) {i:Nat} {p y:Str} {d:Addr} (hn:ps.Nodup) (e1:ps[i]? = some p) (e2:ds[i]? = some d) {nv DE:List (Str × V)} (hd:H d=some (.dK (sK nv)))
  (hl:DE.length<=nv.length + 1) (hk:∀ z,z ∈ DE.map (·.1) ↔ z ∈ nv.map (·.1)\/z=y) (hP:∀ z,z ∈ nv.map (·.1) ↔ P p z) (hln:nv.length<=n):NB (upd H d (.dK (sK DE))) B ps ds (fun a b=>P a b\/(a=p/\b=y)) (n + 1):=by
 have dm:d ∈ ds:=XG e2;refine ⟨by rw [Af (fun z=>h.nB (by rw [z]; exact dm))]; exact h.top,h.len,h.nd,h.nB,fun j q c f1 f2=>?_⟩;by_cases z:c=d
 ·subst z;have ij:i=j:=GC h.nd e2 f2;subst ij;rw [e1] at f1; cases f1;refine ⟨DE,Ab,by lia,fun z=>?_⟩;rw [hk,hP];simp
 ·obtain ⟨nw,b1,b2,b3⟩:=h.inner j q c f1 f2;refine ⟨nw,by rw [Af z]; exact b1,by lia,fun y'=>?_⟩;rw [b3];have:q ≠ p:=by
   rintro rfl;have ij:=GC hn e1 f1;subst ij;rw [e2] at f2; cases f2;exact z rfl
  simp [this]
theorem NB.mono {H:Hp} {B:Addr} {ps:List Str} {ds:List Addr} {P P':Str->Str->Prop} {n m:Nat} (h:NB H B ps ds P n) (hP:∀ a b,P a b ↔ P' a b) (hn:n<=m):NB H B ps ds P' m:=
 ⟨h.top,h.len,h.nd,h.nB,fun i p d e1 e2=>let ⟨nv,a1,a2,a3⟩:=h.inner i p d e1 e2; ⟨nv,a1,by lia,fun y=>(a3 y).trans (hP p y)⟩⟩
structure IC (H:Hp) (q:Addr) (ps:List Str) (ws:List AG) (r:Str):Prop where
 web:Web H q ps ws
 nd:ps.Nodup
 l30:ps.length<=30
 l64:ws.length < 64
 ends:∀ u ∈ ws,u.1 ∈ ps/\u.2.1 ∈ ps
 first:ps[0]? = some r
 con:∀ S:Str->Prop,S r->(∀ x y,K1 ws x y->S x->S y)->∀ x ∈ ps,S x
theorem IC.same {H H':Hp} {q:Addr} {ps:List Str} {ws:List AG} {r:Str} (h:IC H q ps ws r) (s:Au H H'):IC H' q ps ws r:=
 ⟨h.web.same fun b xs z=>s _ _ z,h.nd,h.l30,h.l64,h.ends,h.first,h.con⟩
theorem Q3 {ws:List AG} {i:Nat} {u:AG} (h:ws[i]? = some u) (a b:Str):K1 (ws.take (i + 1)) a b ↔ (K1 (ws.take i) a b\/(a=u.1/\b=u.2.1))\/(a=u.2.1/\b=u.1):=by
 rw [Yk,h];constructor
 ·rintro ⟨v,hv,e⟩;rcases Ye.mp hv with hv | hv
  ·exact .inl (.inl ⟨v,hv,e⟩)
  ·have:v=u:=by simpa using hv
   subst this;rcases e with ⟨e1,e2⟩ | ⟨e1,e2⟩
   ·exact .inl (.inr ⟨e1.symm,e2.symm⟩)
   ·exact .inr ⟨e2.symm,e1.symm⟩
 ·rintro ((⟨v,hv,e⟩ | ⟨rfl,rfl⟩) | ⟨rfl,rfl⟩)
  ·exact ⟨v,YB _ hv,e⟩
  ·exact ⟨u,XO _ (by simp),.inl ⟨rfl,rfl⟩⟩
  ·exact ⟨u,XO _ (by simp),.inr ⟨rfl,rfl⟩⟩
structure NR (H:Hp) (B:Addr) (ps:List Str) (ds:List Addr) (P:Str->Str->Prop):Prop where
 top:H B=some (.dK (sK (ME ps ds)))
 len:ds.length=ps.length
 nd:ds.Nodup
 nB:B ∉ ds
 inner:∀ (i:Nat) (p:Str) (d:Addr),ps[i]? = some p->ds[i]? = some d->∃ nv:List (Str × V),Rd H d (.dK (sK nv))/\∀ y,y ∈ nv.map (·.1) ↔ P p y
theorem NB.r {H:Hp} {B:Addr} {ps:List Str} {ds:List Addr} {P:Str->Str->Prop} {n:Nat} (h:NB H B ps ds P n):NR H B ps ds P:=
 ⟨h.top,h.len,h.nd,h.nB,fun i p d e1 e2=>let ⟨nv,a1,_,a3⟩:=h.inner i p d e1 e2; ⟨nv,.inl a1,a3⟩⟩
theorem NR.get {H:Hp} {B:Addr} {ps:List Str} {ds:List Addr} {P:Str->Str->Prop} (h:NR H B ps ds P) (hn:ps.Nodup) {p:Str} (hp:p ∈ ps) :
  ∃ (i:Nat) (d:Addr) (nv:List (Str × V)),ps[i]? = some p/\ds[i]? = some d/\Bi (sK (ME ps ds)) (Sum.inr p:AO)=some (.ref d)/\Rd H d (.dK (sK nv))/\∀ y,y ∈ nv.map (·.1) ↔ P p y:=by
 obtain ⟨i,hi,e⟩:=Yn hp;have e1:ps[i]? = some p:=by rw [XA hi,e]
 have Us:i < ds.length:=by rw [h.len]; exact hi
 have e2:ds[i]? = some ds[i]:=XA Us;obtain ⟨nv,a1,a3⟩:=h.inner i p _ e1 e2;refine ⟨i,_,nv,e1,e2,CV ?_ (MC e1 e2),a1,a3⟩;rw [HR (by rw [h.len]; exact XD _)];exact hn
theorem Rd.ne {H:Hp} {a b:Addr} {u o:HO} (h:Rd H a u) (hb:a ≠ b):Rd (upd H b o) a u:=by
 rcases h with h | ⟨ob,h⟩
 ·exact .inl (by rw [Af hb]; exact h)
 ·exact .inr ⟨ob,by rw [Af hb]; exact h⟩
theorem Rd.fz {H H':Hp} {a b:Addr} {u:HO} {kvs:List (AO × V)} {o:Obj} (h:Rd H a u) (f:Ee H b kvs o H') (hb:a ≠ b):Rd H' a u:=by
 rcases h with h | ⟨ob,h⟩
 ·exact .inl (by rw [f.ne hb]; exact h)
 ·exact .inr ⟨ob,by rw [f.ne hb]; exact h⟩
theorem NR.other {H:Hp} {B a:Addr} {ps:List Str} {ds:List Addr} {P:Str->Str->Prop} {o:HO} (h:NR H B ps ds P) (ha:a ∉ ds) (hB:a ≠ B):NR (upd H a o) B ps ds P:=
 ⟨by rw [Af (Ne.symm hB)]; exact h.top,h.len,h.nd,h.nB,fun i p d e1 e2=>let ⟨nv,a1,a3⟩:=h.inner i p d e1 e2
  ⟨nv,a1.ne (fun z=>ha (by rw [<-z]; exact XG e2)),a3⟩⟩
theorem NR.freeze {H H':Hp} {B:Addr} {ps:List Str} {ds:List Addr} {P:Str->Str->Prop} (h:NR H B ps ds P) {i:Nat} {p:Str} {d:Addr} (e1:ps[i]? = some p) (e2:ds[i]? = some d) {nv:List (Str × V)} {o:Obj} (f:Ee H d (sK nv) o H') (hP:∀ y,y ∈ nv.map (·.1) ↔ P p y):NR H' B ps ds P:=by
 have dm:d ∈ ds:=XG e2;refine ⟨by rw [f.ne (fun z=>h.nB (by rw [z]; exact dm))]; exact h.top,h.len,h.nd,h.nB,fun j q c f1 f2=>?_⟩;by_cases z:c=d
 ·subst z;have ij:i=j:=GC h.nd e2 f2;subst ij;rw [e1] at f1; cases f1;exact ⟨nv,.inr ⟨o,f.at⟩,hP⟩
 ·obtain ⟨nw,b1,b3⟩:=h.inner j q c f1 f2;exact ⟨nw,b1.fz f z,b3⟩
theorem QW {nv DE:List (Str × V)} {y:Str} {v:V} (e:BC (sK nv) (Sum.inr y:AO) v=sK DE) (hn:(nv.map (·.1)).Nodup):(DE.map (·.1)).Nodup:=by
 have inj:∀ {a b:List (Str × V)},(sK a).map (·.1)=(sK b).map (·.1)->a.map (·.1)=b.map (·.1):=fun {a b} h=>by
  rw [Kc,Kc] at h;exact aF (fun x y z=>Sum.inr.inj z) |>.mp h
 by_cases h:y ∈ nv.map (·.1)
 ·have e2:(BC (sK nv) (Sum.inr y:AO) v).map (·.1)=(sK nv).map (·.1):=by
   unfold BC;have:((sK nv).any fun kv=>decide (kv.1=(Sum.inr y:AO)))=true:=by rw [Cd,Gz,decide_eq_true h]
   rw [if_pos this,Y7];refine Zm fun q _=>?_
   by_cases e:q.1=(Sum.inr y:AO) <;> simp [e]
  rw [e] at e2;rw [inj e2];exact hn
 ·rw [Df h] at e;have e2:(nv ++ [(y,v)]).map (·.1)=DE.map (·.1):=inj (by rw [e]);rw [<-e2,Yb];refine Ze.mpr ⟨hn,Y5.mpr ⟨by simp,.nil⟩,fun a ha b hb=>?_⟩;have e3:b=y:=by simpa using hb
  subst e3;rintro rfl;exact h ha
section
variable {ws:List AG} {r:Str} {bs:List (Str × Option Str)} {wk:List (Str × List Str)} {ps:List Str}
end
theorem Gk {α:Type} {l:List (Str × α)} (h:(l.map (·.1)).Nodup) (f:Str × α->Bool):((l.filter f).map (·.1)).Nodup:=by
 have s:List.Sublist ((l.filter f).map (·.1)) (l.map (·.1)):=List.Sublist.map _ List.filter_sublist;exact s.nodup h
theorem An.thaw {X:Cx} {pins:List (Addr × Obj)} {σ:St} {H:Hp} {s:Shared} {a:Addr} {o:Obj} {u:HO} (I:An X pins σ H s) (e:H a=some (.frz o u)) (h0:∀ ob w,X.H₀ a ≠ some (.frz ob w)) (hu:u ≠ .own a/\∀ xs,u ≠ .tup xs):An X pins σ (upd H a u) s:=by
 obtain ⟨ho,hok⟩:=(show A9 X.prog X.w H s.heap a (.frz o u) from I.hok a _ e)
 have nn:∀ b,H b=none->b ≠ a:=fun b hb z=>by rw [z,e] at hb; cases hb
 have own:∀ b y,H b=some (.own y)->b ≠ a:=fun b y hb z=>by rw [z,e] at hb; cases hb
 have tup:∀ b xs,H b=some (.tup xs)->b ≠ a:=fun b xs hb z=>by rw [z,e] at hb; cases hb
 refine ⟨I.ok,I.os,I.bare,⟨I.base.keep,I.base.slot,fun b ob q n hx=>?_,I.base.there,fun b xs q=>?_,fun b ob w q=>?_,fun b ps q=>?_⟩,I.loc,I.cell,?_,fun x c q=>?_,fun p hp=>?_,fun b w q=>?_,I.len⟩
 ·have z:=I.base.free b ob q n hx;rw [Af (nn b z)]; exact z
 ·have z:=I.base.tups b xs q;rw [Af (tup b xs z)]; exact z
 ·have z:=I.base.frzs b ob w q;by_cases hb:b=a
  ·subst hb; exact absurd q (h0 ob w)
  ·rw [Af hb]; exact z
 ·obtain ⟨more,z⟩:=I.base.tbls b ps q;refine ⟨more,?_⟩;rw [Af (fun hb=>by rw [hb,e] at z; cases z)]; exact z
 ·rw [Af (nn _ I.free)]; exact I.free
 ·rw [Af (nn _ (I.freeC x c q))]; exact I.freeC x c q
 ·obtain ⟨z1,z2,z3⟩:=I.pin p hp;exact ⟨z1,by rw [Af (nn _ z2)]; exact z2,z3⟩
 ·by_cases hb:b=a
  ·subst hb;rw [Ab] at q;cases q
   exact hok.stay (fun c v _ z=>z) (fun c z=>by rw [Af (own c _ z)]; exact z) fun c xs z=>by rw [Af (tup c xs z)]; exact z
  ·rw [Af hb] at q;exact (I.hok b w q).stay (fun c v _ z=>z) (fun c z=>by rw [Af (own c _ z)]; exact z) fun c xs z=>by rw [Af (tup c xs z)]; exact z
theorem Kg {X:Cx} {e:Expr} {t:TE} (h:PE X e t):PE X e (fun σ H Q=>t σ H fun x H1=>∃ a o kvs,H1 a=some (.frz o (.dK kvs))/\(∀ ob w,X.H₀ a ≠ some (.frz ob w))/\Q x (upd H1 a (.dK kvs))):=by
 intro pins s σ H Q I q;refine Bx (h (pins:=pins) s σ H _ I q) fun v s1 ⟨x,H1,I1,r1,a,o,kvs,e1,h0,q1⟩=>?_
 exact ⟨x,_,I1.thaw e1 h0 ⟨(by intro z; cases z),(by intro xs z; cases z)⟩,r1,q1⟩
def Cc (A:Around) (s:Shared) (x y:Value) (b:Bool):Prop:=∀ (prog:Program) (w:World) (E Q:Value->Shared->Prop),Q (.bool b) s->wpAny (model prog w) A (richCompare .Lt x y) Q E s
theorem Cc.int (A:Around) (s:Shared) (a:Int) (t:Tok) (c:Int) (u:Tok):Cc A s (.int a t) (.int c u) (decide (a < c)):=fun prog w E Q h=>
 (PyProof.Rows.lt_int h:wpAny (model prog w) A (compareOp .Lt (.int a t) (.int c u)) Q E s)
theorem Cc.str (A:Around) (s:Shared) (a:Str) (t:Tok) (c:Str) (u:Tok):Cc A s (.str a t) (.str c u) (decide (a.cps.toList < c.cps.toList)):=fun prog w E Q h=>
 (PySem.P.lt_str h:wpAny (model prog w) A (compareOp .Lt (.str a t) (.str c u)) Q E s)
section
open PySem.SeqAt
open PySem.AutoSeq1 (wpAny_loadPart')
open PySem.MeetsSeq PySem.MeetsSeq2 PySem.MeetsSeq3
theorem Nj (l b:Addr) (x1 x2 y1 y2:Value) (n n2:Nat) (dd Ku:Option Addr) (sl IS:Array (Option Value)) (e1 b1 e2 b2:Bool) :
  Meets (Builtin.«tuple.__lt__» ⟨[.ref l,.ref b],[]⟩)
   (fun A R s=>s.heap.get? l=some { cls:=.type "tuple",dict:=dd,data:=.seq #[x1,x2] n,slots:=sl }/\s.heap.get? b=some { cls:=.type "tuple",dict:=Ku,data:=.seq #[y1,y2] n2,slots:=IS } /\
    EqAt A.in1 s x1 y1 e1/\(e1=false->Cc A.in1 s x1 y1 b1)/\(e1=true->EqAt A.in1 s x2 y2 e2/\(e2=false->Cc A.in1 s x2 y2 b2)) /\
    R (.ok (.ret (.bool (if e1=true then (if e2=true then false else b2) else b1)))) s):=
 .of_wp fun prog w A R s h=>by
  obtain ⟨hp,g,d,tk,os⟩:=s; obtain ⟨hl,hb,he1,O3,h2,h⟩:=h;have f2:=AutoSeq1.sub_tuple_tuple;wp_walk using wpAny_loadPart' hl,wpAny_loadPart' hb,wpAny_forIn_list _ (fun rest b s'=>b.1=none/\s'=⟨hp,g,d,tk,os⟩/\(rest=[(x1,y1),(x2,y2)]\/(rest=[(x2,y2)]/\e1=true)\/(rest=[]/\e1=true/\e2=true))) _
  case turn=>
   rintro ⟨y,x⟩ rest b s' ⟨Gb,rfl,hz | ⟨hz,h1⟩ | ⟨hz,_⟩⟩
   ·cases hz
    refine wpAny_bind (he1 prog w _ _ ?_);cases ee:e1 with
    | true=>
     wp_walk
     exact ⟨rfl,rfl,.inr (.inl ⟨rfl,rfl⟩)⟩
    | false=>
     rw [ee,if_neg Yc] at h;have hri:=O3 ee prog w;wp_walk using hri;exact ⟨_,rfl,by simpa using h⟩
   ·cases hz
    obtain ⟨he2,Kq⟩:=h2 h1;rw [if_pos h1] at h;refine wpAny_bind (he2 prog w _ _ ?_);cases ee:e2 with
    | true=>
     wp_walk
     exact ⟨rfl,rfl,.inr (.inr ⟨rfl,h1,rfl⟩)⟩
    | false=>
     rw [ee,if_neg Yc] at h;have hri:=Kq ee prog w;wp_walk using hri;exact ⟨_,rfl,by simpa using h⟩
   ·cases hz
  case fin=>
   rintro ⟨b1',b2'⟩ s' ⟨Gb,rfl,hz | ⟨hz,h1⟩ | ⟨hz,h1,h2'⟩⟩
   ·cases hz
   ·cases hz
   ·simp only at Gb;subst Gb;rw [if_pos h1,if_pos h2'] at h;wp_walk;exact ⟨_,rfl,by simpa [Builtin.Tuple.tupleCompareSizes] using h⟩
  case h=>
   exact ⟨rfl,rfl,.inl rfl⟩
end
theorem Cc.tup2 {A:Around} {s:Shared} {l b:Addr} {x1 x2 y1 y2:Value} {e1 b1 e2 b2:Bool} (hl:IsTup s.heap l #[x1,x2]) (hb:IsTup s.heap b #[y1,y2]) (hu:A.units < cLine) (h1:SeqAt.EqAt A.in1 s x1 y1 e1) (l1:e1=false->Cc A.in1 s x1 y1 b1)
  (h2:e1=true->SeqAt.EqAt A.in1 s x2 y2 e2/\(e2=false->Cc A.in1 s x2 y2 b2)):Cc A s (.ref l) (.ref b) (if e1=true then (if e2=true then false else b2) else b1):=fun prog w E Q h=>by
 obtain ⟨⟨cls,dd,data,sl⟩,ho,hc,n,hd⟩:=id hl;obtain ⟨⟨TN,Ku,data2,IS⟩,NZ,Od,n2,hd2⟩:=id hb;simp only at hc hd Od hd2;subst hc hd Od hd2;exact richCompare_meets_room (op:=.Lt) ⟨_,ho,rfl⟩ ⟨_,NZ,rfl⟩ PySem.F.slot_tuple_lt PySem.F.entry_tuple_lt (PySem.F.args_tuple_lt_2 _ _) (Nj l b x1 x2 y1 y2 n n2 dd Ku sl IS e1 b1 e2 b2)
  ⟨ho,NZ,h1,l1,h2,show Value.bool _ ≠ Value.notImplemented/\Q (.bool _) s from ⟨(fun x=>nomatch x),h⟩⟩ hu
def QB (p q:Int × Str):Bool:=if (p.1 == q.1)=true then (if (p.2 == q.2)=true then false else decide (p.2.cps.toList < q.2.cps.toList)) else decide (p.1 < q.1)
def D7 (h:Heap) (v:Value) (p:Int × Str):Prop:=∃ a t u,v=.ref a/\IsTup h a #[.int p.1 t,.str p.2 u]
theorem D7.keep {h h':Heap} {v:Value} {p:Int × Str} (x:D7 h v p) (k:∀ b o,h.get? b=some o->h'.get? b=some o):D7 h' v p:=by
 obtain ⟨a,t,u,rfl,o,ho,r⟩:=x;exact ⟨a,t,u,rfl,o,k _ _ ho,r⟩
theorem MF {A:Around} {s:Shared} {v w:Value} {p q:Int × Str} (hv:D7 s.heap v p) (hw:D7 s.heap w q) (hu:A.units < cLine):Cc A s v w (QB p q):=by
 obtain ⟨a,t,u,rfl,hl⟩:=hv;obtain ⟨b,t',u',rfl,hb⟩:=hw;exact Cc.tup2 hl hb hu (SeqAt.EqAt.int_int _ _ _ _) (fun _=>Cc.int _ _ _ _ _ _) fun _=>⟨SeqAt.EqAt.str_str _ _ _ _,fun _=>Cc.str _ _ _ _ _ _⟩
theorem RG {A:Around} {s:Shared} {v w:Value} {p q:Int × Str} (hv:D7 s.heap v p) (hw:D7 s.heap w q) (hu:A.units < cLine):SeqAt.EqAt A s v w (decide (p=q)):=by
 obtain ⟨a,t,u,rfl,hl⟩:=hv;obtain ⟨b,t',u',rfl,hb⟩:=hw;by_cases hab:a=b
 ·subst hab;have e:p=q:=by
   obtain ⟨o,ho,hc,n,hd⟩:=hl;obtain ⟨o',IW,F4,n',Oc⟩:=hb;rw [ho] at IW;cases IW
   rw [hd] at Oc;injection Oc with e1 e2;have e3:=congrArg Z9 e1;simp only [Zi.injEq,Value.int.injEq,Value.str.injEq] at e3;exact Prod.ext e3.1.1 e3.2.1.1
  rw [decide_eq_true e];intro prog w E Q h;unfold eqBool;refine wpAny_holding ?_;exact wpAny_ite_split (fun _=>wpAny_bind (wpAny_rule (wpAny_pure h))) (fun hn=>absurd (by simp) hn)
 ·have key:=SeqAt.RcAt.tuples (A:=A) (s:=s) (e:=fun j=>if j=0 then p.1 == q.1 else p.2 == q.2) (show s.heap.IsTuple a #[.int p.1 t,.str p.2 u] from hl) (show s.heap.IsTuple b #[.int q.1 t',.str q.2 u'] from hb) hu (fun j h1 h2=>by
   match j,h1,h2 with
   | 0,_,_=>exact SeqAt.EqAt.int_int _ _ _ _
   | 1,_,_=>exact SeqAt.EqAt.str_str _ _ _ _
   | j + 2,h1,_=>exact absurd (show j + 2 < 2 from h1) (by lia))
  have e:((YS (min (#[Value.int p.1 t,.str p.2 u]:Array Value).size (#[Value.int q.1 t',.str q.2 u']:Array Value).size)).all (fun j=>if j=0 then p.1 == q.1 else p.2 == q.2) && (#[Value.int p.1 t,.str p.2 u]:Array Value).size == (#[Value.int q.1 t',.str q.2 u']:Array Value).size)=decide (p=q):=by
   show ((YS 2).all (fun j=>if j=0 then p.1 == q.1 else p.2 == q.2) && (2 == 2))=decide (p=q)
   have:(YS 2)=[0,1]:=rfl;rw [this];simp only [Z7,List.all_nil,bh,beq_self_eq_true];rw [YA];simp [Prod.ext_iff]
  rw [e] at key;exact SeqAt.EqAt.of_refs hab key
def IF (h:Heap) (v:Value) (k:(Int × Str) × Str):Prop:=∃ a l u,v=.ref a/\IsTup h a #[.ref l,.str k.2 u]/\D7 h (.ref l) k.1
theorem IF.keep {h h':Heap} {v:Value} {p:(Int × Str) × Str} (x:IF h v p) (k:∀ b o,h.get? b=some o->h'.get? b=some o):IF h' v p:=by
 obtain ⟨a,l,u,rfl,⟨o,ho,r⟩,z⟩:=x;exact ⟨a,l,u,rfl,⟨o,k _ _ ho,r⟩,z.keep k⟩
def Sb (p q:(Int × Str) × Str):Bool:=if decide (p.1=q.1)=true then (if (p.2 == q.2)=true then false else decide (p.2.cps.toList < q.2.cps.toList)) else QB p.1 q.1
theorem Tq {A:Around} {s:Shared} {v w:Value} {p q:(Int × Str) × Str} (hv:IF s.heap v p) (hw:IF s.heap w q) (hu:A.units + 1 < cLine):Cc A s v w (Sb p q):=by
 obtain ⟨a,l,u,rfl,hl,hp⟩:=hv;obtain ⟨b,l',u',rfl,hb,hq⟩:=hw;exact Cc.tup2 hl hb (by lia) (RG hp hq (by rw [PySem.Around.in1_units]; exact hu)) (fun _=>MF hp hq (by rw [PySem.Around.in1_units]; exact hu)) fun _=>⟨SeqAt.EqAt.str_str _ _ _ _,fun _=>Cc.str _ _ _ _ _ _⟩
def RT (prog:Program) (w:World) (A:Around) (g0:Heap) (P:Nat->Value->Prop) (bt:Nat->Nat->Bool):Prop:=
 ∀ i j vi vj (s:Shared) (Q:Value->Shared->Prop) (E:Value->Shared->Prop),(∀ b o,g0.get? b=some o->s.heap.get? b=some o)->P i vi->P j vj->Q (.bool (bt i j)) s->wpAny (model prog w) A (richCompare .Lt vi vj) Q E s
section
variable {prog:Program} {w:World} {A:Around} {R:Result->Shared->Prop} {I:Addr} {fp wr:List Addr} {n:Nat} {P:Nat->Value->Prop} {St:Nat->Heap->Prop} {g0:Heap}
theorem NP (W:Walks prog w A.in1 I fp wr n P St) (bt:Nat->Nat->Bool) (cm:RT prog w A.in1 g0 P bt) (S:Addr) (nS:S ∉ fp) (gw:∀ b o,g0.get? b=some o->b ∉ wr/\b ≠ S) :
  ∀ (m j:Nat) (s:Shared) (bv:Value) (c:Nat),n - (j + 1)=m->j + 1<=n->St (j + 1) s.heap->P (argBest bt j) bv->(∀ b o,g0.get? b=some o->s.heap.get? b=some o) ->
  s.heap.get? S=some { cls:=.type "list",dict:=none,data:=.seq #[bv,bv] c,slots:=#[] } ->
  (∀ v h2 tk,P (argBest bt (n - 1)) v->(∀ b o,b ∉ wr->b ≠ S->s.heap.get? b=some o->h2.get? b=some o)->R (.ok (.ret v)) { s with heap:=h2,toks:=tk }) ->
  codeAny (model prog w) A (.builtin "min.loop" ⟨[.ref I,.none,.ref S],[]⟩) R s:=by
 have Sw:S ∉ wr:=fun z=>nS (W.sub _ z)
 have nm:(toString "min" ++ toString ".loop":String)="min.loop":=by decide
 intro m;induction m with
 | zero=>
  intro j s bv c hm hj st pb g1 aS r;have jn:j + 1=n:=by lia
  refine codeAny_builtin F.entry_min_loop ?_;rw [Around.under_plainId F.plain_min_loop _];refine wpAny_bind (m:=seqItems? (.ref S)) (wpAny_seqItems aS rfl ?_);refine wpAny_bind (wpAny_tryCatch (W.done s _ _ (jn ▸ st) fun h2 tk k2=>?_));have Sk:=k2 S _ Sw aS;refine wpAny_bind (m:=updateSeq S (fun _=>#[])) ?_;refine wpAny_updateSeq Sk rfl (wpAny_bind (wpAny_letGo (wpAny_pure ?_)));exact r bv _ tk (by rw [<-jn]; exact pb) fun b o bw bS e=>(Y0 _ _ (Ne.symm bS)).trans (k2 b o bw e)
 | succ m ih=>
  intro j s bv c hm hj st pb g1 aS r;have lt:j + 1 < n:=by lia
  refine codeAny_builtin F.entry_min_loop ?_;rw [Around.under_plainId F.plain_min_loop _];refine wpAny_bind (m:=seqItems? (.ref S)) (wpAny_seqItems aS rfl ?_);refine wpAny_bind (wpAny_tryCatch (W.item (j + 1) s _ _ lt st fun v h2 tk pv Eh k2=>?_));have Sk:=k2 S _ Sw aS;have g2:∀ b o,g0.get? b=some o->h2.get? b=some o:=fun b o e=>k2 b o (gw b o e).1 (g1 b o e)
  show wpAny _ A.in1 (tryCatch (holding [v,v] (richCompare .Lt v bv >>= _)) _ >>= _) _ _ _
  refine wpAny_bind (wpAny_tryCatch (wpAny_holding (wpAny_bind (cm (j + 1) (argBest bt j) v bv _ _ _ g2 pv pb ?_))));refine wpAny_bind (wpAny_holding (wpAny_truthy_bool ?_));refine wpAny_bind (wpAny_letGo (wpAny_pure ?_));cases hb:bt (j + 1) (argBest bt j) with
  | true=>
   simp only [if_true];refine wpAny_bind ?_;refine wpAny_updateSeq Sk rfl (wpAny_bind (wpAny_letGo ?_));rw [nm];refine wpAny_pure ⟨plainId_quiet F.plain_min_loop _,ih (j + 1) _ v _ (by lia) lt (W.frame _ _ _ Eh fun b bf o e=>?_) (by simp only [argBest,hb,if_true]; exact pv) (fun b o e=>?_) (Y3 _ Sk rfl) fun v' h3 S1 UM k3=>?_⟩
   ·exact (Y0 _ _ (fun z:S=b=>nS (by rw [z]; exact bf))).trans e
   ·exact (Y0 _ _ (Ne.symm (gw b o e).2)).trans (g2 b o e)
   ·exact r v' h3 S1 UM fun b o bw bS e=>k3 b o bw bS ((Y0 _ _ (Ne.symm bS)).trans (k2 b o bw e))
  | false=>
   simp only [Yu,if_false];refine wpAny_bind (wpAny_letGo ?_);rw [nm];refine wpAny_pure ⟨plainId_quiet F.plain_min_loop _,ih (j + 1) _ bv c (by lia) lt Eh (by simp only [argBest,hb,Yu,if_false]; exact pb) g2 Sk fun v' h3 S1 UM k3=>?_⟩;exact r v' h3 S1 UM fun b o bw bS e=>k3 b o bw bS (k2 b o bw e)
theorem HV (W:Walks prog w A.in1 I fp wr n P St) (bt:Nat->Nat->Bool) (cm:RT prog w A.in1 g0 P bt) (S:Addr) (nS:S ∉ fp) (gw:∀ b o,g0.get? b=some o->b ∉ wr/\b ≠ S) (hn:0 < n) {s:Shared} {c:Nat} (st:St 0 s.heap)
  (g1:∀ b o,g0.get? b=some o->s.heap.get? b=some o) (aS:s.heap.get? S=some { cls:=.type "list",dict:=none,data:=.seq #[] c,slots:=#[] })
  (r:∀ v h2 tk,P (argBest bt (n - 1)) v->(∀ b o,b ∉ wr->b ≠ S->s.heap.get? b=some o->h2.get? b=some o)->R (.ok (.ret v)) { s with heap:=h2,toks:=tk }) :
  codeAny (model prog w) A (.builtin "min.loop" ⟨[.ref I,.none,.ref S],[]⟩) R s:=by
 have Sw:S ∉ wr:=fun z=>nS (W.sub _ z)
 have nm:(toString "min" ++ toString ".loop":String)="min.loop":=by decide
 refine codeAny_builtin F.entry_min_loop ?_;rw [Around.under_plainId F.plain_min_loop _];refine wpAny_bind (m:=seqItems? (.ref S)) (wpAny_seqItems aS rfl ?_);refine wpAny_bind (wpAny_tryCatch (W.item 0 s _ _ hn st fun v h2 tk pv Eh k2=>?_));have Sk:=k2 S _ Sw aS;refine wpAny_bind (m:=updateSeq S (fun _=>#[v,v])) ?_;refine wpAny_updateSeq Sk rfl ?_;rw [nm];refine wpAny_pure ⟨plainId_quiet F.plain_min_loop _,NP W bt cm S nS gw _ 0 _ v _ rfl hn (W.frame _ _ _ Eh fun b bf o e=>?_) pv (fun b o e=>?_) (Y3 _ Sk rfl) fun v' h3 S1 UM k3=>?_⟩
 ·exact (Y0 _ _ (fun z:S=b=>nS (by rw [z]; exact bf))).trans e
 ·exact (Y0 _ _ (Ne.symm (gw b o e).2)).trans (k2 b o (gw b o e).1 (g1 b o e))
 ·exact r v' h3 S1 UM fun b o bw bS e=>k3 b o bw bS ((Y0 _ _ (Ne.symm bS)).trans (k2 b o bw e))
end
section
variable {prog:Program} {w:World} {A:Around} {E:Value->Shared->Prop} {s:Shared}
theorem Gm {l:Addr} {vs:List Value} {bt:Nat->Nat->Bool} {Q:Value->Shared->Prop} (hh:A.handled=none) (hl:s.heap.IsList l vs.toArray) (hn:0 < vs.length) (cm:RT prog w A.in1 s.heap (fun i v=>vs[i]? = some v) bt)
  (h:∀ v h2 tk,vs[argBest bt (vs.length - 1)]? = some v->(∀ b o,s.heap.get? b=some o->h2.get? b=some o)->Q v { s with heap:=h2,toks:=tk }):wpAny (model prog w) A (call (.builtin "min") [.ref l]) Q E s:=by
 have nm:(toString "min" ++ toString ".loop":String)="min.loop":=by decide
 have B0:l < s.heap.objs.size:=by obtain ⟨o,ho,_⟩:=id hl; exact XE ho
 refine call_function_tree F.kind_min F.plain_min F.entry_min (F.args_min1 _) ?_;refine wpAny_bind (wpAny_of_eq (show Builtin.Builtins.bindParams "min" ["key","default"] 0 ⟨[],[]⟩=pure [none,none] from rfl) ?_);refine wpAny_bind (wpAny_pure ?_);refine wpAny_bind (wpAny_pyIter_list hl ?_);refine wpAny_bind (wpAny_newObj_type ?_);rw [nm];have sz:(s.heap.push { cls:=.type "list_iterator",data:=.fields #[.ref l,.int 0 0] }).objs.size=s.heap.objs.size + 1:=Ys ..;have W:=(Walks.list (prog:=prog) (w:=w) (A:=A.in1) hh s.heap.objs.size l (XQ B0) vs.toArray).weaken (P':=fun i v=>vs[i]? = some v) (fun i v e=>by simpa using e);refine wpAny_pure ⟨plainId_quiet F.plain_min_loop _,HV (g0:=s.heap) W bt cm (s.heap.push { cls:=.type "list_iterator",data:=.fields #[.ref l,.int 0 0] }).objs.size (fun hm=>?_) (fun b o e=>⟨fun hm=>?_,fun z=>?_⟩) (by simpa using hn) ?_ (fun b o e=>X9 _ (X9 _ e)) (XJ _ rfl) fun v h2 tk pv k2=>?_⟩
 ·rw [sz] at hm;rcases XC.mp hm with z | hm
  ·exact absurd z (Nat.succ_ne_self _)
  ·rcases XC.mp hm with z | hm
   ·exact absurd z (Yy (Yl B0))
   ·cases hm
 ·have:=XE e;rw [XY.mp hm] at this;exact absurd this (Yx _)
 ·have:=XE e;rw [z,sz] at this;exact absurd this (Z0.mpr (Yt _))
 ·exact ⟨⟨_,X9 _ (XJ _ rfl),rfl,rfl⟩,(hl.push _).push _⟩
 ·refine h v h2 tk (by simpa using pv) fun b o e=>k2 b o (fun hm=>?_) (fun z=>?_) (X9 _ (X9 _ e))
  ·have:=XE e;rw [XY.mp hm] at this;exact absurd this (Yx _)
  ·have:=XE e;rw [z,sz] at this;exact absurd this (Z0.mpr (Yt _))
end
section
variable {prog:Program} {w:World} {A:Around} {E:Value->Shared->Prop} {s:Shared}
theorem PY {a b:Value} {bt:Nat->Nat->Bool} {Q:Value->Shared->Prop} (hh:A.handled=none) (cm:RT prog w A.in1 s.heap (fun i v=>[a,b][i]? = some v) bt)
  (h:∀ v h2 tk,[a,b][argBest bt 1]? = some v->(∀ c o,s.heap.get? c=some o->h2.get? c=some o)->Q v { s with heap:=h2,toks:=tk }):wpAny (model prog w) A (call (.builtin "min") [a,b]) Q E s:=by
 have nm:(toString "min" ++ toString ".loop":String)="min.loop":=by decide
 have hT:(s.heap.push { cls:=.type "tuple",data:=.seq #[a,b] }).IsTuple s.heap.objs.size #[a,b]:=⟨_,XJ _ rfl,rfl,0,rfl⟩
 refine call_function_tree F.kind_min F.plain_min F.entry_min (F.args_min2 _ _) ?_;refine wpAny_bind (wpAny_of_eq (show Builtin.Builtins.bindParams "min" ["key","default"] 0 ⟨[],[]⟩=pure [none,none] from rfl) ?_);show wpAny _ A.in1 (newTuple [a,b] >>= _) _ _ s
 refine wpAny_bind (wpAny_newObj_type ?_);refine wpAny_bind (wpAny_pyIter_tuple hT ?_);refine wpAny_bind (wpAny_newObj_type ?_);rw [nm];have s1:(s.heap.push { cls:=.type "tuple",data:=.seq #[a,b] }).objs.size=s.heap.objs.size + 1:=Ys ..;have s2:((s.heap.push { cls:=.type "tuple",data:=.seq #[a,b] }).push { cls:=.type "tuple_iterator",data:=.fields #[.ref s.heap.objs.size,.int 0 0] }).objs.size=s.heap.objs.size + 2:=by rw [Ys,s1]
 have W:=(Walks.tuple (prog:=prog) (w:=w) (A:=A.in1) hh (s.heap.push { cls:=.type "tuple",data:=.seq #[a,b] }).objs.size s.heap.objs.size (by rw [s1]; exact XQ (Ym _)) #[a,b]).weaken (P':=fun i v=>[a,b][i]? = some v) (fun i v e=>by simpa using e);refine wpAny_pure ⟨plainId_quiet F.plain_min_loop _,HV (g0:=s.heap) W bt cm ((s.heap.push { cls:=.type "tuple",data:=.seq #[a,b] }).push { cls:=.type "tuple_iterator",data:=.fields #[.ref s.heap.objs.size,.int 0 0] }).objs.size (fun hm=>?_) (fun b o e=>⟨fun hm=>?_,fun z=>?_⟩) (by simp) ?_ (fun b o e=>X9 _ (X9 _ (X9 _ e))) (XJ _ rfl) fun v h2 tk pv k2=>?_⟩
 ·rw [s2] at hm;rcases XC.mp hm with z | hm
  ·rw [s1] at z; exact absurd z (Yy (Ym _))
  ·rcases XC.mp hm with z | hm
   ·exact absurd z (Yy (Yl (Ym _)))
   ·cases hm
 ·have:=XE e;rw [XY.mp hm,s1] at this;exact absurd this (Z0.mpr (Yt _))
 ·have:=XE e;rw [z,s2] at this;exact absurd this (Z0.mpr (Yo (Yt _) (Yt _)))
 ·exact ⟨⟨_,X9 _ (XJ _ rfl),rfl,rfl⟩,(hT.push _).push _⟩
 ·refine h v h2 tk (by simpa using pv) fun b o e=>k2 b o (fun hm=>?_) (fun z=>?_) (X9 _ (X9 _ (X9 _ e)))
  ·have:=XE e;rw [XY.mp hm,s1] at this;exact absurd this (Z0.mpr (Yt _))
  ·have:=XE e;rw [z,s2] at this;exact absurd this (Z0.mpr (Yo (Yt _) (Yt _)))
end
theorem IA (bt:Nat->Nat->Bool) (num:Nat->Int) (h1:∀ i j,bt i j=true->num i<=num j) (h2:∀ i j,bt i j=false->num j<=num i):∀ k,argBest bt k<=k/\∀ j,j<=k->num (argBest bt k)<=num j
 | 0=>⟨XD _,fun j hj=>by
  have:j=0:=by lia
  subst this; exact YE _⟩
 | k + 1=>by
  obtain ⟨a1,a2⟩:=IA bt num h1 h2 k;simp only [argBest];cases hc:bt (k + 1) (argBest bt k) with
  | true=>
   simp only [if_true];refine ⟨XD _,fun j hj=>?_⟩;have:=h1 _ _ hc;by_cases Hr:j<=k
   ·have:=a2 j Hr; lia
   ·have:j=k + 1:=by lia
    subst this; exact YE _
  | false=>
   simp only [Yu,if_false];refine ⟨Zg a1,fun j hj=>?_⟩;by_cases Hr:j<=k
   ·exact a2 j Hr
   ·have:j=k + 1:=by lia
    subst this; exact h2 _ _ hc
def JR (H:Hp) (v:V) (p:Int × Str):Prop:=∃ t,v=.ref t/\H t=some (.tup [.int p.1,.str p.2])
def Sn (H:Hp) (v:V) (k:(Int × Str) × Str):Prop:=∃ t t2,v=.ref t/\H t=some (.tup [.ref t2,.str k.2])/\JR H (.ref t2) k.1
theorem JR.same {H H':Hp} {v:V} {p:Int × Str} (h:JR H v p) (s:∀ b xs,H b=some (.tup xs)->H' b=some (.tup xs)):JR H' v p:=let ⟨t,e,z⟩:=h; ⟨t,e,s _ _ z⟩
theorem Sn.same {H H':Hp} {v:V} {p:(Int × Str) × Str} (h:Sn H v p) (s:∀ b xs,H b=some (.tup xs)->H' b=some (.tup xs)):Sn H' v p:=let ⟨t,t2,e,z,q⟩:=h; ⟨t,t2,e,s _ _ z,q.same s⟩
theorem JR.at {X:Cx} {pins:List (Addr × Obj)} {σ:St} {H:Hp} {s:Shared} {v:V} {u:Value} {p:Int × Str} (I:An X pins σ H s) (r:A3 v u) (h:JR H v p):D7 s.heap u p:=by
 obtain ⟨t,rfl,ht⟩:=h;cases r
 obtain ⟨Ao,rv,pl,hz⟩:=I.tuple (AM.of ht);cases rv with
 | cons a1 b1=>
  cases b1 with
  | cons a2 b2=>
   cases b2
   obtain ⟨t1,rfl⟩:=a1;obtain ⟨t2,rfl⟩:=a2;exact ⟨t,t1,t2,rfl,pl⟩
theorem Sn.at {X:Cx} {pins:List (Addr × Obj)} {σ:St} {H:Hp} {s:Shared} {v:V} {u:Value} {k:(Int × Str) × Str} (I:An X pins σ H s) (r:A3 v u) (h:Sn H v k):IF s.heap u k:=by
 obtain ⟨t,l,rfl,ht,hp⟩:=h;cases r
 obtain ⟨Ao,rv,pl,hz⟩:=I.tuple (AM.of ht);cases rv with
 | cons a1 b1=>
  cases b1 with
  | cons a2 b2=>
   cases b2
   cases a1
   obtain ⟨t2,rfl⟩:=a2;exact ⟨t,l,t2,rfl,pl,hp.at I (show A3 (V.ref l) (Value.ref l) from rfl)⟩
def Dw (p q:Int × Str):Prop:=p.1 < q.1\/(p.1=q.1/\¬ q.2.cps.toList < p.2.cps.toList)
theorem Dw.refl (p:Int × Str):Dw p p:=.inr ⟨rfl,Z3 _⟩
theorem Dw.trans {p q r:Int × Str} (h1:Dw p q) (h2:Dw q r):Dw p r:=by
 rcases h1 with a | ⟨a,b⟩ <;> rcases h2 with c | ⟨c,d⟩
 ·exact .inl (by lia)
 ·exact .inl (by lia)
 ·exact .inl (by lia)
 ·exact .inr ⟨by lia,Zb.mpr (bj (Zb.mp b) (Zb.mp d))⟩
theorem Dw.add {d d' l:Int} {s s':Str} (h:Dw (d,s) (d',s')):Dw (d + l,s) (d' + l,s'):=by
 rcases h with a | ⟨a,b⟩
 ·have a':d < d':=a;exact .inl (show d + l < d' + l by lia)
 ·have a':d=d':=a;exact .inr ⟨show d + l=d' + l by lia,b⟩
theorem Dw.up {d d':Int} {s:Str} (h:d<=d'):Dw (d,s) (d',s):=by
 by_cases e:d=d'
 ·exact .inr ⟨e,Z3 _⟩
 ·exact .inl (show d < d' by lia)
theorem Dw.fst {p q:Int × Str} (h:Dw p q):p.1<=q.1:=by
 rcases h with a | ⟨a,_⟩ <;> lia
theorem MG {p q:Int × Str} (h:QB p q=true):Dw p q:=by
 unfold QB at h;by_cases e:(p.1 == q.1)=true
 ·have e':p.1=q.1:=by simpa using e
  rw [if_pos e] at h;by_cases e2:(p.2 == q.2)=true
  ·rw [if_pos e2] at h; cases h
  ·rw [if_neg e2] at h;exact .inr ⟨e',Zr (by simpa using h)⟩
 ·rw [if_neg e] at h;exact .inl (by simpa using h)
theorem MH {p q:Int × Str} (h:QB p q=false):Dw q p:=by
 unfold QB at h;by_cases e:(p.1 == q.1)=true
 ·have e':p.1=q.1:=by simpa using e
  rw [if_pos e] at h;by_cases e2:(p.2 == q.2)=true
  ·have Sj:p.2=q.2:=by simpa using e2
   exact .inr ⟨e'.symm,by rw [Sj]; exact Z3 _⟩
  ·rw [if_neg e2] at h;exact .inr ⟨e'.symm,by simpa using h⟩
 ·rw [if_neg e] at h;have e':¬ p.1=q.1:=by simpa using e
  have:¬ p.1 < q.1:=by simpa using h
  exact .inl (by lia)
theorem Rt {p q:(Int × Str) × Str} (h:Sb p q=true):Dw p.1 q.1:=by
 unfold Sb at h;by_cases e:decide (p.1=q.1)=true
 ·have:p.1=q.1:=by simpa using e
  rw [this]; exact Dw.refl _
 ·rw [if_neg e] at h;exact MG h
theorem Ru {p q:(Int × Str) × Str} (h:Sb p q=false):Dw q.1 p.1:=by
 unfold Sb at h;by_cases e:decide (p.1=q.1)=true
 ·have:p.1=q.1:=by simpa using e
  rw [this]; exact Dw.refl _
 ·rw [if_neg e] at h;exact MH h
theorem GO (bt:Nat->Nat->Bool) (num:Nat->Int × Str) (h1:∀ i j,bt i j=true->Dw (num i) (num j)) (h2:∀ i j,bt i j=false->Dw (num j) (num i)):∀ k,argBest bt k<=k/\∀ j,j<=k->Dw (num (argBest bt k)) (num j)
 | 0=>⟨XD _,fun j hj=>by
  have:j=0:=by lia
  subst this; exact Dw.refl _⟩
 | k + 1=>by
  obtain ⟨a1,a2⟩:=GO bt num h1 h2 k;simp only [argBest];cases hc:bt (k + 1) (argBest bt k) with
  | true=>
   simp only [if_true];refine ⟨XD _,fun j hj=>?_⟩;by_cases Hr:j<=k
   ·exact (h1 _ _ hc).trans (a2 j Hr)
   ·have:j=k + 1:=by lia
    subst this; exact Dw.refl _
  | false=>
   simp only [Yu,if_false];refine ⟨Zg a1,fun j hj=>?_⟩;by_cases Hr:j<=k
   ·exact a2 j Hr
   ·have:j=k + 1:=by lia
    subst this; exact h2 _ _ hc
theorem Iy {X:Cx} (hc:X.calm=true) (hu:X.A.units + 64 < cLine):Bq X (.builtin "min") (fun xs H Q=>∃ (a:Addr) (vs:List V) (ks:List ((Int × Str) × Str)),xs=[.ref a]/\H a=some (.lst vs)/\vs.length=ks.length/\ks ≠ []/\(∀ (i:Nat) v k,vs[i]? = some v->ks[i]? = some k->Sn H v k) /\
  ∀ v k,k ∈ ks->Sn H v k->(∀ k' ∈ ks,Dw k.1 k'.1)->Q v H):=by
 intro pins s σ H xs us Q I r h;obtain ⟨a,vs,ks,rfl,ha,hl,hne,hk,q⟩:=h;obtain ⟨u,rfl,ru⟩:=B7 r;cases ru
 obtain ⟨Ao,rv,pl,hz⟩:=I.list (AA.of ha);have il:Ao.length=ks.length:=by rw [<-rv.length,hl]
 have pos:0 < ks.length:=YV.mpr hne;have kat:∀ (i:Nat) (v:Value),Ao[i]? = some v->∃ k,ks[i]? = some k/\IF s.heap v k/\∃ x,vs[i]? = some x/\A3 x v:=fun i v e=>by
  have hi:i < Ao.length:=(XX.mp e).1;have e1:vs[i]? = some vs[i]:=XA (by lia);have e2:ks[i]? = some ks[i]:=XA (by lia);obtain ⟨v',e3,r3⟩:=rv.get e1;rw [e] at e3;cases e3
  exact ⟨_,e2,(hk i _ _ e1 e2).at I r3,_,e1,r3⟩
 refine Gm (bt:=fun i j=>Sb (ks.getD i default) (ks.getD j default)) (I.ok.hd hc) pl.isList (by lia) (fun i j vi vj s' Q' E' g hi hj hQ=>?_) fun v h2 tk hv k2=>?_
 ·obtain ⟨ki,e1,a1,_⟩:=kat i vi hi;obtain ⟨kj,e2,a2,_⟩:=kat j vj hj;have d1:ks.getD i default=ki:=by rw [Yd,e1]; rfl
  have d2:ks.getD j default=kj:=by rw [Yd,e2]; rfl
  dsimp only at hQ;rw [d1,d2] at hQ;exact Tq (a1.keep g) (a2.keep g) (by rw [PySem.Around.in1_units]; lia) _ _ _ _ hQ
 ·obtain ⟨k,e1,a1,x,e3,r3⟩:=kat _ v hv;obtain ⟨b1,b2⟩:=GO (fun i j=>Sb (ks.getD i default) (ks.getD j default)) (fun i=>(ks.getD i default).1) (fun _ _=>Rt) (fun _ _=>Ru) (Ao.length - 1);refine ⟨x,H,I.kept k2,r3,q x k (XG e1) (hk _ x k e3 e1) fun k' Lb=>?_⟩;obtain ⟨j,hj,ej⟩:=Yn Lb;have:=b2 j (by lia);have d1:ks.getD (argBest (fun i j=>Sb (ks.getD i default) (ks.getD j default)) (Ao.length - 1)) default=k:=by rw [Yd,e1]; rfl
  have d2:ks.getD j default=k':=by rw [Yd,XA hj,ej]; rfl
  rw [d1,d2] at this;exact this
theorem Ja {X:Cx} (hc:X.calm=true) (hu:X.A.units + 64 < cLine):Bq X (.builtin "min") (fun xs H Q=>∃ (x y:V) (p q:Int × Str),xs=[x,y]/\JR H x p/\JR H y q/\((Dw q p->Q y H)/\(Dw p q->Q x H))):=by
 intro pins s σ H xs us Q I r h;obtain ⟨x,y,p,q,rfl,hx,hy,q1,q2⟩:=h;obtain ⟨u,v,rfl,ru,rv⟩:=Mm r;have pu:=hx.at I ru;have pv:=hy.at I rv;refine PY (bt:=fun i j=>QB ([p,q].getD i default) ([p,q].getD j default)) (I.ok.hd hc) (fun i j vi vj s' Q' E' g hi hj hQ=>?_) fun z h2 tk hz k2=>?_
 ·have at':∀ (i:Nat) (vi:Value),[u,v][i]? = some vi->D7 s.heap vi ([p,q].getD i default):=fun i vi e=>by
   match i,e with
   | 0,e=>cases e; exact pu
   | 1,e=>cases e; exact pv
   | i + 2,e=>cases e
  exact MF ((at' i vi hi).keep g) ((at' j vj hj).keep g) (by rw [PySem.Around.in1_units]; lia) _ _ _ _ hQ
 ·have e:argBest (fun i j=>QB ([p,q].getD i default) ([p,q].getD j default)) 1=if QB q p=true then 1 else 0:=rfl
  rw [e] at hz;cases hl:QB q p with
  | true=>
   rw [hl,if_pos rfl] at hz;cases hz
   exact ⟨y,H,I.kept k2,rv,q1 (MG hl)⟩
  | false=>
   rw [hl,if_neg Yc] at hz;cases hz
   exact ⟨x,H,I.kept k2,ru,q2 (MH hl)⟩
def BL (ws:List AG) (x y:Str) (l:Int):Prop:=∃ u ∈ ws,((u.1=x/\u.2.1=y)\/(u.1=y/\u.2.1=x))/\u.2.2=l
theorem BL.adj {ws:List AG} {x y:Str} {l:Int} (h:BL ws x y l):K1 ws x y:=let ⟨u,hu,e,_⟩:=h; ⟨u,hu,e⟩
theorem BL.symm {ws:List AG} {x y:Str} {l:Int} (h:BL ws x y l):BL ws y x l:=let ⟨u,hu,e,z⟩:=h; ⟨u,hu,e.symm,z⟩
inductive Bl (ws:List AG):Str->Str->Int->Prop
 | nil (x:Str):Bl ws x x 0
 | cons {x y z:Str} {l m:Int}:BL ws x y l->Bl ws y z m->Bl ws x z (l + m)
theorem Bl.app {ws:List AG} {x y z:Str} {m n:Int} (h:Bl ws x y m) (g:Bl ws y z n):Bl ws x z (m + n):=by
 induction h with
 | nil x=>rw [ZD]; exact g
 | cons e _ ih=>rw [ZP]; exact .cons e (ih g)
theorem Bl.snoc {ws:List AG} {x y z:Str} {m l:Int} (h:Bl ws x y m) (e:BL ws y z l):Bl ws x z (m + l):=by
 have:=h.app (.cons e (.nil z));rwa [ZY] at this
theorem Bl.symm {ws:List AG} {x y:Str} {m:Int} (h:Bl ws x y m):Bl ws y x m:=by
 induction h with
 | nil x=>exact .nil x
 | @cons x y z l m e _ ih=>rw [Int.add_comm]; exact ih.snoc e.symm
theorem Bl.pos {ws:List AG} (hp:∀ u ∈ ws,1<=u.2.2) {x y:Str} {m:Int} (h:Bl ws x y m):0<=m:=by
 induction h with
 | nil x=>exact YE _
 | cons e _ ih=>
  obtain ⟨u,hu,_,rfl⟩:=e;have:=hp u hu;lia
def Mj (ws:List AG) (ss:List Str) (y:Str) (p:Int × Str):Prop:=(p.2 ∈ ss/\Bl ws p.2 y p.1)/\∀ s ∈ ss,∀ m,Bl ws s y m->Dw p (m,s)
structure RS (ws:List AG) (ss:List Str) (S R:Str->Int × Str->Prop):Prop where
 near:∀ y p,S y p->Mj ws ss y p
 reach:∀ y p,R y p->p.2 ∈ ss/\Bl ws p.2 y p.1
 relax:∀ x p y l,S x p->BL ws x y l->(∃ q,S y q)\/∃ q,R y q/\Dw q (p.1 + l,p.2)
 start:∀ s ∈ ss,(∃ q,S s q)\/∃ q,R s q/\Dw q (0,s)
theorem RS.out {ws:List AG} {ss:List Str} {S R:Str->Int × Str->Prop} (h:RS ws ss S R) (hp:∀ u ∈ ws,1<=u.2.2) {x z:Str} {m:Int} (g:Bl ws x z m) (hz:∀ q,¬ S z q):∀ p,S x p->∃ y q,R y q/\Dw q (p.1 + m,p.2):=by
 induction g with
 | nil x=>intro p hp'; exact absurd hp' (hz p)
 | @cons x y z l m e g ih=>
  intro p hx;rcases h.relax x p y l hx e with ⟨q,hq⟩ | ⟨q,hq,le⟩
  ·obtain ⟨y',q',h1,h2⟩:=ih hz q hq;refine ⟨y',q',h1,h2.trans ?_⟩;have n1:=(h.near y q hq).2 p.2 (h.near x p hx).1.1 (p.1 + l) ((h.near x p hx).1.2.snoc e);have:=n1.add (l:=m);rw [ZP] at this;exact this
  ·exact ⟨y,q,hq,le.trans (Dw.up (by have:=g.pos hp; lia))⟩
theorem RS.pick {ws:List AG} {ss:List Str} {S R:Str->Int × Str->Prop} (h:RS ws ss S R) (hp:∀ u ∈ ws,1<=u.2.2) {y:Str} {p:Int × Str} (hy:R y p) (ny:∀ q,¬ S y q) (least:∀ z q,R z q->Dw p q):Mj ws ss y p:=by
 refine ⟨h.reach y p hy,fun s hs m g=>?_⟩;rcases h.start s hs with ⟨q,hq⟩ | ⟨q,hq,le⟩
 ·obtain ⟨z,q',h1,h2⟩:=h.out hp g ny q hq;refine (least z q' h1).trans (h2.trans ?_);have n1:=(h.near s q hq).2 s hs 0 (.nil s);have:=(show Dw (q.1,q.2) (0,s) from n1).add (l:=m);rw [ZD] at this;exact this
 ·exact (least s q hq).trans (le.trans (Dw.up (g.pos hp)))
theorem RS.done {ws:List AG} {ss:List Str} {S R:Str->Int × Str->Prop} (h:RS ws ss S R) (hR:∀ y p,¬ R y p) {r:Str} (hss:ss ≠ []) {ps:List Str} (con:∀ T:Str->Prop,T r->(∀ x y,K1 ws x y->T x->T y)->∀ x ∈ ps,T x)
  (Xr:∀ T:Str->Prop,∀ x ∈ ps,T x->(∀ x y,K1 ws x y->T x->T y)->T r) (sub:∀ s ∈ ss,s ∈ ps):∀ x ∈ ps,∃ q,S x q:=by
 have cl:∀ x y,K1 ws x y->(∃ q,S x q)->∃ q,S y q:=fun x y ⟨u,hu,e⟩ ⟨q,hq⟩=>by
  rcases h.relax x q y u.2.2 hq ⟨u,hu,e,rfl⟩ with z | ⟨q',hq',_⟩
  ·exact z
  ·exact absurd hq' (hR _ _)
 obtain ⟨s,hs⟩:=List.exists_mem_of_ne_nil ss hss;have s0:∃ q,S s q:=by
  rcases h.start s hs with z | ⟨q,hq,_⟩
  ·exact z
  ·exact absurd hq (hR _ _)
 exact con (fun x=>∃ q,S x q) (Xr (fun x=>∃ q,S x q) s (sub s hs) s0 cl) cl
theorem Kd {a b:List (Str × V)} (h:sK a=sK b):a=b:=by
 unfold sK at h;exact aF (fun x y z=>by
  simp only [Prod.mk.injEq,Sum.inr.injEq] at z;exact Prod.ext z.1 z.2) |>.mp h
theorem Hm {nv DE:List (Str × V)} {y:Str} {v:V} (e:BC (sK nv) (Sum.inr y:AO) v=sK DE):∀ z x,(z,x) ∈ DE ↔ (z=y/\x=v)\/(z ≠ y/\(z,x) ∈ nv):=by
 intro z x;by_cases h:y ∈ nv.map (·.1)
 ·have e2:BC (sK nv) (Sum.inr y:AO) v=sK (nv.map fun q=>if q.1=y then (q.1,v) else q):=by
   unfold BC;have:((sK nv).any fun kv=>decide (kv.1=(Sum.inr y:AO)))=true:=by rw [Cd,Gz,decide_eq_true h]
   rw [if_pos this];unfold sK;rw [Y7,Y7];refine Zm fun q _=>?_
   by_cases e:q.1=y
   ·simp [e]
   ·have e':¬ (Sum.inr q.1:AO)=Sum.inr y:=fun z=>e (Sum.inr.inj z)
    simp [e,e']
  rw [e2] at e;rw [<-Kd e,Ya];constructor
  ·rintro ⟨q,hq,e⟩;by_cases eq:q.1=y
   ·rw [if_pos eq] at e;have e1:q.1=z:=congrArg Prod.fst e;have e3:v=x:=congrArg Prod.snd e;exact .inl ⟨by rw [<-e1,eq],e3.symm⟩
   ·rw [if_neg eq] at e;refine .inr ⟨?_,by rw [<-e]; exact hq⟩;rw [show z=q.1 from (congrArg Prod.fst e).symm]; exact eq
  ·rintro (⟨rfl,rfl⟩ | ⟨h1,h2⟩)
   ·obtain ⟨q,hq,e1⟩:=Ya.mp h;have RI:q.1=z:=e1;exact ⟨q,hq,by rw [if_pos RI,RI]⟩
   ·exact ⟨(z,x),h2,by rw [if_neg h1]⟩
 ·rw [Df h] at e;rw [<-Kd e,Ye];constructor
  ·rintro (h1 | h1)
   ·refine .inr ⟨?_,h1⟩;rintro rfl;exact h (Ya.mpr ⟨_,h1,rfl⟩)
   ·simp only [XY,Prod.mk.injEq] at h1;exact .inl h1
  ·rintro (⟨rfl,rfl⟩ | ⟨_,h2⟩)
   ·exact .inr (by simp)
   ·exact .inl h2
theorem QX (nv:List (Str × V)) (y:Str):Io (sK nv) (Sum.inr y:AO)=sK (nv.filter fun q=>decide (q.1 ≠ y)):=by
 unfold Io sK;rw [List.filter_map];congr 1;refine List.filter_congr fun q _=>?_
 by_cases e:q.1=y
 ·simp [e]
 ·have e':¬ (Sum.inr q.1:AO)=Sum.inr y:=fun z=>e (Sum.inr.inj z)
  simp [e,e']
def QG (H:Hp) (ps:List Str) (ds:List Addr) (Ed:Str->Str->Int->Prop):Prop:=∀ (i:Nat) (p:Str) (d:Addr) (nv:List (Str × V)),ps[i]? = some p->ds[i]? = some d->Rd H d (.dK (sK nv))->∀ y v,(y,v) ∈ nv->∃ l,v=.int l/\Ed p y l
theorem Rd.inj {H:Hp} {d:Addr} {a b:List (Str × V)} (h:Rd H d (.dK (sK a))) (g:Rd H d (.dK (sK b))):a=b:=by
 rcases h with h | ⟨o,h⟩ <;> rcases g with g | ⟨o',g⟩ <;> have e:=Yi.inj (h.symm.trans g)
 ·injection e with e; exact Kd e
 ·exact nomatch e
 ·exact nomatch e
 ·injection e with _ e;injection e with e; exact Kd e
theorem QG.put {H:Hp} {ps:List Str} {ds:List Addr} {Ed Ed':Str->Str->Int->Prop} (h:QG H ps ds Ed) (hn:ps.Nodup) (dn:ds.Nodup) {i:Nat} {p y:Str} {d:Addr} {l:Int} (e1:ps[i]? = some p) (e2:ds[i]? = some d) {nv DE:List (Str × V)} (hd:H d=some (.dK (sK nv)))
  (ep:BC (sK nv) (Sum.inr y:AO) (.int l)=sK DE) (mono:∀ a b m,Ed a b m->Ed' a b m) (new:Ed' p y l):QG (upd H d (.dK (sK DE))) ps ds Ed':=by
 intro j q c nw f1 f2 hr z v hz;by_cases hc:c=d
 ·subst hc;have ij:i=j:=GC dn e2 f2;subst ij;rw [e1] at f1; cases f1;have:nw=DE:=Rd.inj hr (.inl Ab);subst this;rcases (Hm ep z v).mp hz with ⟨rfl,rfl⟩ | ⟨_,Ig⟩
  ·exact ⟨l,rfl,new⟩
  ·obtain ⟨l',e,ed⟩:=h i _ c nv e1 e2 (.inl hd) z v Ig;exact ⟨l',e,mono _ _ _ ed⟩
 ·have hr':Rd H c (.dK (sK nw)):=by
   rcases hr with g | ⟨o,g⟩
   ·exact .inl (by rw [Af hc] at g; exact g)
   ·exact .inr ⟨o,by rw [Af hc] at g; exact g⟩
  obtain ⟨l',e,ed⟩:=h j q c nw f1 f2 hr' z v hz;exact ⟨l',e,mono _ _ _ ed⟩
def OU (K:XB):Sp:=fun vs H Q _=>∃ (q:Addr) (ps:List Str) (ws:List AG) (r:Str),vs=[.ref q]/\IC H q ps ws r /\
 ∀ (H':Hp) (B:Addr) (ds:List Addr),Au H H'->NB H' B ps ds (K1 ws) 128->QG H' ps ds (BL ws)->H B=none->(∀ d ∈ ds,H d=none)->Q (.ref B) H'
theorem PI.or {X:Cx} {tg l:Expr} {w1 w2:TI} (h1:PI X tg l w1) (h2:PI X tg l w2):PI X tg l (fun σ H R=>w1 σ H R\/w2 σ H R):=by
 intro pins s σ H R I h;rcases h with h | h
 ·exact h1 (pins:=pins) s σ H R I h
 ·exact h2 (pins:=pins) s σ H R I h
def Mg (H:Hp) (nv:List (Str × V)) (S:Str->Int × Str->Prop):Prop:=(nv.map (·.1)).Nodup/\(∀ y v,(y,v) ∈ nv->∃ p,JR H v p/\S y p)/\∀ y p,S y p->∃ v,(y,v) ∈ nv/\JR H v p
def OT (K:XB):Sp:=fun vs H Q _=>∃ (q st:Addr) (ps ss:List Str) (ws:List AG) (r:Str),vs=[.ref q,.ref st]/\IC H q ps ws r/\(∀ u ∈ ws,1<=u.2.2)/\(∀ x y l l',BL ws x y l->BL ws x y l'->l=l')/\(H st=some (.lst (ss.map V.str))\/H st=some (.tup (ss.map V.str)))/\ss ≠ []/\ss.Nodup/\(∀ s ∈ ss,s ∈ ps) /\
 ∀ (H':Hp) (B:Addr) (nv:List (Str × V)),Au H H'->H B=none->H' B=some (.dK (sK nv))->(nv.map (·.1)).Nodup->(∀ x,x ∈ nv.map (·.1) ↔ x ∈ ps)->(∀ y v,(y,v) ∈ nv->∃ p,JR H' v p/\Mj ws ss y p)->Q (.ref B) H'
theorem Jv {nv:List (Str × V)} {y:Str} {v:V} (h:Bi (sK nv) (Sum.inr y:AO)=some v):(y,v) ∈ nv:=by
 unfold Bi at h;cases e:(sK nv).find? (fun kv=>decide (kv.1=(Sum.inr y:AO))) with
 | none=>rw [e] at h; cases h
 | some kv=>
  rw [e] at h;have h1:=List.find?_some e;have h2:=List.mem_of_find?_eq_some e;obtain ⟨q,hq,rfl⟩:=Ya.mp h2;have e1:q.1=y:=by
   have:(Sum.inr q.1:AO)=Sum.inr y:=by simpa using h1
   exact Sum.inr.inj this
  have e2:q.2=v:=Yi.inj h;rw [<-e1,<-e2];exact hq
theorem Oj {ws:List AG} {i:Nat} {a b:Str} {m:Int} (h:BL (ws.take i) a b m):BL (ws.take (i + 1)) a b m:=by
 obtain ⟨u,hu,e⟩:=h;rw [Yk];exact ⟨u,YB _ hu,e⟩
theorem Lg {ws:List AG} {i:Nat} {u:AG} (h:ws[i]? = some u):BL (ws.take (i + 1)) u.1 u.2.1 u.2.2:=by
 rw [Yk,h];exact ⟨u,XO _ (by simp),.inl ⟨rfl,rfl⟩,rfl⟩
theorem JR.fn {H:Hp} {v:V} {p q:Int × Str} (h:JR H v p) (g:JR H v q):p=q:=by
 obtain ⟨t,rfl,e⟩:=h;obtain ⟨t',e',g⟩:=g;have:t=t':=by injection e'
 subst this;have z:=Yi.inj (e.symm.trans g);injection z with z;simp only [Zi.injEq,V.int.injEq,V.str.injEq] at z;exact Prod.ext z.1 z.2.1
theorem NR.same {H H':Hp} {B:Addr} {ps:List Str} {ds:List Addr} {P:Str->Str->Prop} (h:NR H B ps ds P) (s:Au H H'):NR H' B ps ds P:=
 ⟨s _ _ h.top,h.len,h.nd,h.nB,fun i p d e1 e2=>let ⟨nv,a1,a3⟩:=h.inner i p d e1 e2
  ⟨nv,(by rcases a1 with a | ⟨o,a⟩; exact .inl (s _ _ a); exact .inr ⟨o,s _ _ a⟩),a3⟩⟩
theorem QG.of {H H':Hp} {B:Addr} {ps:List Str} {ds:List Addr} {P:Str->Str->Prop} {Ed:Str->Str->Int->Prop} (h:QG H ps ds Ed) (nr:NR H B ps ds P) (k:∀ d ∈ ds,∀ nv:List (Str × V),Rd H d (.dK (sK nv))->Rd H' d (.dK (sK nv))):QG H' ps ds Ed:=by
 intro i p d nv e1 e2 hr y v hy;obtain ⟨nw,a1,_⟩:=nr.inner i p d e1 e2;have:=Rd.inj hr (k d (XG e2) nw a1);subst this;exact h i p d nv e1 e2 a1 y v hy
theorem Mg.same {H H':Hp} {nv:List (Str × V)} {S:Str->Int × Str->Prop} (h:Mg H nv S) (s:∀ b xs,H b=some (.tup xs)->H' b=some (.tup xs)):Mg H' nv S:=
 ⟨h.1,fun y v hv=>let ⟨p,a,b⟩:=h.2.1 y v hv; ⟨p,a.same s,b⟩,fun y p hp=>let ⟨v,a,b⟩:=h.2.2 y p hp; ⟨v,a,b.same s⟩⟩
theorem Mg.fn {H:Hp} {nv:List (Str × V)} {S:Str->Int × Str->Prop} (h:Mg H nv S) {y:Str} {p q:Int × Str} (hp:S y p) (hq:S y q):p=q:=by
 obtain ⟨v,a,b⟩:=h.2.2 y p hp;obtain ⟨w,c,d⟩:=h.2.2 y q hq;have:=OD h.1 a c;subst this;exact b.fn d
theorem Mg.put {H:Hp} {nv DE:List (Str × V)} {S:Str->Int × Str->Prop} {y:Str} {v:V} {p:Int × Str} (h:Mg H nv S) (e:BC (sK nv) (Sum.inr y:AO) v=sK DE) (hv:JR H v p):Mg H DE (fun z q=>(z=y/\q=p)\/(z ≠ y/\S z q)):=by
 refine ⟨QW e h.1,fun z x hz=>?_,fun z q hq=>?_⟩
 ·rcases (Hm e z x).mp hz with ⟨rfl,rfl⟩ | ⟨n,Ig⟩
  ·exact ⟨p,hv,.inl ⟨rfl,rfl⟩⟩
  ·obtain ⟨q,a,b⟩:=h.2.1 z x Ig;exact ⟨q,a,.inr ⟨n,b⟩⟩
 ·rcases hq with ⟨rfl,rfl⟩ | ⟨n,hq⟩
  ·exact ⟨v,(Hm e _ _).mpr (.inl ⟨rfl,rfl⟩),hv⟩
  ·obtain ⟨x,a,b⟩:=h.2.2 z q hq;exact ⟨x,(Hm e _ _).mpr (.inr ⟨n,a⟩),b⟩
theorem Mg.drop {H:Hp} {nv:List (Str × V)} {S:Str->Int × Str->Prop} (h:Mg H nv S) (y:Str):Mg H (nv.filter fun q=>decide (q.1 ≠ y)) (fun z q=>z ≠ y/\S z q):=by
 refine ⟨Gk h.1 _,fun z x hz=>?_,fun z q hq=>?_⟩
 ·obtain ⟨a,b⟩:=YI.mp hz;obtain ⟨q,c,d⟩:=h.2.1 z x a;exact ⟨q,c,by simpa using b,d⟩
 ·obtain ⟨n,hq⟩:=hq;obtain ⟨x,a,b⟩:=h.2.2 z q hq;exact ⟨x,YI.mpr ⟨a,by simpa using n⟩,b⟩
structure NI (H H2:Hp) (ps:List Str) (ws:List AG) (B RA SA:Addr) (ds:List Addr) (nvR nvS:List (Str × V)) (S R:Str->Int × Str->Prop):Prop where
 same:Au H H2
 nr:NR H2 B ps ds (K1 ws)
 nbv:QG H2 ps ds (BL ws)
 dR:H2 RA=some (.dK (sK nvR))
 dS:H2 SA=some (.dK (sK nvS))
 pR:Mg H2 nvR R
 pS:Mg H2 nvS S
 subR:∀ y ∈ nvR.map (·.1),y ∈ ps
 subS:∀ y ∈ nvS.map (·.1),y ∈ ps
section
variable {H H2 H3:Hp} {ps:List Str} {ws:List AG} {B RA SA:Addr} {ds:List Addr} {nvR nvS:List (Str × V)} {S R:Str->Int × Str->Prop}
theorem NI.grow (h:NI H H2 ps ws B RA SA ds nvR nvS S R) (s:Au H2 H3):NI H H3 ps ws B RA SA ds nvR nvS S R:=
 ⟨h.same.trans s,h.nr.same s,h.nbv.of h.nr fun d _ nv z=>by rcases z with a | ⟨o,a⟩; exact .inl (s _ _ a); exact .inr ⟨o,s _ _ a⟩,s _ _ h.dR,s _ _ h.dS,h.pR.same fun b xs z=>s _ _ z,h.pS.same fun b xs z=>s _ _ z,h.subR,h.subS⟩
theorem NI.lenS (h:NI H H2 ps ws B RA SA ds nvR nvS S R):nvS.length<=ps.length:=by
 have:=Bh h.pS.1 h.subS;rwa [X8] at this
theorem NI.lenR (h:NI H H2 ps ws B RA SA ds nvR nvS S R):nvR.length<=ps.length:=by
 have:=Bh h.pR.1 h.subR;rwa [X8] at this
theorem NI.inS (h:NI H H2 ps ws B RA SA ds nvR nvS S R) {y:Str}:y ∈ nvS.map (·.1) ↔ ∃ q,S y q:=by
 constructor
 ·intro hy;obtain ⟨⟨z,v⟩,a,b⟩:=Ya.mp hy;have b':z=y:=b;subst b';obtain ⟨p,_,c⟩:=h.pS.2.1 z v a;exact ⟨p,c⟩
 ·rintro ⟨q,hq⟩;obtain ⟨v,a,_⟩:=h.pS.2.2 y q hq;exact Ya.mpr ⟨_,a,rfl⟩
theorem NI.inR (h:NI H H2 ps ws B RA SA ds nvR nvS S R) {y:Str}:y ∈ nvR.map (·.1) ↔ ∃ q,R y q:=by
 constructor
 ·intro hy;obtain ⟨⟨z,v⟩,a,b⟩:=Ya.mp hy;have b':z=y:=b;subst b';obtain ⟨p,_,c⟩:=h.pR.2.1 z v a;exact ⟨p,c⟩
 ·rintro ⟨q,hq⟩;obtain ⟨v,a,_⟩:=h.pR.2.2 y q hq;exact Ya.mpr ⟨_,a,rfl⟩
theorem NI.setR (h:NI H H2 ps ws B RA SA ds nvR nvS S R) (aR:RA ∉ ds/\RA ≠ B/\RA ≠ SA/\H RA=none) {DE:List (Str × V)} {R':Str->Int × Str->Prop} (p':Mg H2 DE R') (sub:∀ y ∈ DE.map (·.1),y ∈ ps):NI H (upd H2 RA (.dK (sK DE))) ps ws B RA SA ds DE nvS S R':=by
 have tu:∀ b xs,H2 b=some (.tup xs)->(upd H2 RA (.dK (sK DE))) b=some (.tup xs):=fun b xs z=>by
  rw [Af (Ba z h.dR (by intro z; cases z))]; exact z
 exact ⟨fun b o z=>by rw [Af (Ah z aR.2.2.2)]; exact h.same _ _ z,h.nr.other aR.1 aR.2.1,h.nbv.of h.nr fun d hd nv z=>z.ne (fun e=>aR.1 (by rw [<-e]; exact hd)),Ab,by rw [Af (Ne.symm aR.2.2.1)]; exact h.dS,p'.same tu,h.pS.same tu,sub,h.subS⟩
theorem NI.setS (h:NI H H2 ps ws B RA SA ds nvR nvS S R) (aS:SA ∉ ds/\SA ≠ B/\SA ≠ RA/\H SA=none) {DE:List (Str × V)} {S':Str->Int × Str->Prop} (p':Mg H2 DE S') (sub:∀ y ∈ DE.map (·.1),y ∈ ps):NI H (upd H2 SA (.dK (sK DE))) ps ws B RA SA ds nvR DE S' R:=by
 have tu:∀ b xs,H2 b=some (.tup xs)->(upd H2 SA (.dK (sK DE))) b=some (.tup xs):=fun b xs z=>by
  rw [Af (Ba z h.dS (by intro z; cases z))]; exact z
 exact ⟨fun b o z=>by rw [Af (Ah z aS.2.2.2)]; exact h.same _ _ z,h.nr.other aS.1 aS.2.1,h.nbv.of h.nr fun d hd nv z=>z.ne (fun e=>aS.1 (by rw [<-e]; exact hd)),by rw [Af (Ne.symm aS.2.2.1)]; exact h.dR,Ab,h.pR.same tu,p'.same tu,h.subR,sub⟩
theorem NI.frz (h:NI H H2 ps ws B RA SA ds nvR nvS S R) (aR:RA ∉ ds) (aS:SA ∉ ds) (fr:∀ d ∈ ds,H d=none) {i:Nat} {p:Str} {d:Addr} (e1:ps[i]? = some p) (e2:ds[i]? = some d) {nv:List (Str × V)} {o:Obj} (f:Ee H2 d (sK nv) o H3) (hP:∀ y,y ∈ nv.map (·.1) ↔ K1 ws p y):NI H H3 ps ws B RA SA ds nvR nvS S R:=by
 have dm:d ∈ ds:=XG e2;have tu:∀ b xs,H2 b=some (.tup xs)->H3 b=some (.tup xs):=fun b xs z=>by
  rw [f.ne (by
   rintro rfl;rcases f with ⟨g,_⟩ | ⟨g,_⟩ <;> (rw [z] at g; cases g))]
  exact z
 refine ⟨fun b u z=>by rw [f.ne (Ah z (fr d dm))]; exact h.same _ _ z,h.nr.freeze e1 e2 f hP,h.nbv.of h.nr fun c hc nw z=>?_,by rw [f.ne (fun z=>aR (by rw [z]; exact dm))]; exact h.dR,by rw [f.ne (fun z=>aS (by rw [z]; exact dm))]; exact h.dS,h.pR.same tu,h.pS.same tu,h.subR,h.subS⟩;by_cases hcd:c=d
 ·subst hcd;rcases f with ⟨g,e⟩ | ⟨g,e⟩
  ·have:=Rd.inj z (.inl g);subst this;exact .inr ⟨o,by rw [e]; exact Ab⟩
  ·rw [e]; exact z
 ·exact z.fz f hcd
end
theorem Kn:typeLookup (.type "list") "keys"=pure none:=by rw [typeLookup_type,builtinLookup_eq_fast]; kernel_rfl
theorem LN {prog:Program} {w:World} {A:Around} {E:Value->Shared->Prop} {s:Shared} {a:Addr} {o:Obj} {xs:Array Value} {k:Nat} {Q:Option Value->Shared->Prop}
  (hx:s.heap.get? a=some o) (hc:o.cls=.type "list") (hdat:o.data=.seq xs k) (hd:o.dict=none) (hA:A.handled=none)
  (h:∀ h' tk,(∀ b ob,s.heap.get? b=some ob->h'.get? b=some ob)->Q none { s with heap:=h',toks:=tk }):wpAny (model prog w) A (getAttr? (.ref a) "keys") Q E s:=by
 obtain ⟨c,dct,dat,sl⟩:=o;simp only at hc hdat hd;subst hc hdat hd;obtain ⟨hp,g,d,tk,os⟩:=s;have hT:∀ RU,(⟨hp,g,d,RU,os⟩:Shared).TypeIs (.ref a) "list":=fun _=>⟨_,hx,rfl⟩
 have f1:=sub_AttributeError;have f3:=F.slot_list_getattribute.lookup;have f4:=F.slot_list_getattribute.bind (.ref a);have f5:=am_list_getattr_none;unfold getAttr? getAttrBy? getAttrBy;repeat (any_goals (first | assumption | exact hT _ | ((with_reducible show wpAny _ _ (call (Value.builtin "list.__getattribute__") _ _) _ _ _); refine call_meets F.slot_list_getattribute (hT _) am_entry_list_getattribute (F.args_list_getattribute_2 _ _) (meets_getattribute_miss_list a xs k sl "keys" _ Kn (by decide +kernel) (by decide +kernel)) ⟨hx,hA,fun h' RU e LW=>?_⟩) | wp_step))
 obtain ⟨t',u',he⟩:=LW.there;show wpAny _ _ (getattributeRaised _ _ _ _ _ _ _) _ _ _
 unfold getattributeRaised;have hE:∀ RU,(⟨h',g,d,RU,os⟩:Shared).TypeIs (.ref e) "AttributeError":=fun _=>⟨_,he,rfl⟩
 repeat (any_goals (first | assumption | exact hE _ | wp_step))
 exact h _ _ LW.keeps
theorem EA:entryFor table "dict.update.loop"=some Builtin.«dict.update.loop»:=entryFor_of_tree (by kernel_rfl)
theorem Cm:plainId "dict.update.loop"=true:=by decide +kernel
def Sm (g0:Heap) (v:Value) (p:Str × V):Prop:=∃ a t u,v=.ref a/\IsTup g0 a #[.str p.1 t,u]/\A3 p.2 u
section
variable {prog:Program} {w:World} {A:Around} {R:Result->Shared->Prop} {g0:Heap} {D it l:Addr} {vs:List Value} {ps:List (Str × V)}
theorem OH (hh:A.handled=none) (nI:it ≠ D) (nl:l ≠ it/\l ≠ D) (g1:∀ b o,g0.get? b=some o->b ≠ it/\b ≠ D) (hl:vs.length=ps.length) (rows:∀ (i:Nat) v p,vs[i]? = some v->ps[i]? = some p->Sm g0 v p) (hsz:ps.length < sizeLine) :
  ∀ (m i:Nat) (s:Shared) (kvs:List (AO × V)) (us:List (AO × Value)),ps.length - i=m->i<=ps.length->s.heap.IsListIter it l i->s.heap.IsList l vs.toArray->KV kvs us->kvs.length<=i->s.heap.DictOf (AK prog w) D us->(∀ b o,g0.get? b=some o->s.heap.get? b=some o) ->
   (∀ h' tk O1,KV (HW kvs (sK (ps.drop i))) O1->h'.DictOf (AK prog w) D O1->(∀ b o,b ≠ it->b ≠ D->s.heap.get? b=some o->h'.get? b=some o)->R (.ok (.ret .none)) { s with heap:=h',toks:=tk }) ->
   codeAny (model prog w) A (.builtin "dict.update.loop" ⟨[.ref D,.ref it,.int (i:Int) 0,.none],[]⟩) R s:=by
 intro m;induction m with
 | zero=>
  intro i s kvs us hm hi st hL kv kl dd gk r;have e:i=ps.length:=by lia
  refine codeAny_builtin EA ?_;rw [Around.under_plainId Cm _];unfold Builtin.«dict.update.loop»;refine wpAny_bind (wpAny_pyNext_list_end hh st hL (by simp; lia) fun h' eb=>?_);refine wpAny_bind (wpAny_pure (wpAny_pure ?_));have MT:h'.DictOf (AK prog w) D us:=dd.at fun o q=>eb D o (Ne.symm nI) q
  refine r h' s.toks us ?_ MT fun b o b1 b2 q=>eb b o b1 q
  rw [e,List.drop_length];exact kv
 | succ m ih=>
  intro i s kvs us hm hi st hL kv kl dd gk r;have B0:i < ps.length:=by lia
  have ev:vs[i]? = some (vs[i]'(by lia)):=XA (by lia);have ep:ps[i]? = some ps[i]:=XA B0;obtain ⟨a,t,u,e1,ht,ru⟩:=rows i _ _ ev ep;rw [e1] at ev;refine codeAny_builtin EA ?_;rw [Around.under_plainId Cm _];unfold Builtin.«dict.update.loop»;refine wpAny_bind (wpAny_pyNext_list_item st hL (x:=.ref a) (by simpa using ev) fun h' AV sb=>?_);obtain ⟨o,ho,hc,n,hd⟩:=id ht;have ha:=(sb.2 a (g1 a o ho).1).trans (gk a o ho);have MT:h'.DictOf (AK prog w) D us:=dd.at fun o q=>(sb.2 D (Ne.symm nI)).trans q
  have L':h'.IsList l vs.toArray:=by
   obtain ⟨ol,hol,rl⟩:=hL;exact ⟨ol,(sb.2 l nl.1).trans hol,rl⟩
  refine wpAny_bind (wpAny_holding ?_);refine wpAny_bind (wpAny_tryCatch ?_);unfold Builtin.Dict.pairItems;refine wpAny_bind (wpAny_typeOf (T:="tuple") ⟨o,ha,hc⟩ ?_);rw [if_pos (by decide)];refine wpAny_bind (wpAny_seqItems ha hd (wpAny_pure ?_));show wpAny _ A.in1 (holding [Value.str ps[i].1 t,u] (dictSet D (Value.str ps[i].1 t) u)) _ _ _
  have Wt:us.length<=sizeLine:=by rw [<-kv.length]; lia
  refine wpAny_holding (wpAny_dictSet_pairs (k:=Sum.inr ps[i].1) (hsz:=Wt) (GD prog w _ t) MT fun h2 Ku VH=>?_);have ki:((i:Int) + 1)=((i + 1:Nat):Int):=by lia
  refine wpAny_pure ⟨plainId_quiet Cm _,?_⟩;show codeAny (model prog w) A (.builtin "dict.update.loop" ⟨[.ref D,.ref it,.int ((i:Int) + 1) 0,.none],[]⟩) R _
  rw [ki];have kl2:=CG kvs (Sum.inr ps[i].1:AO) ps[i].2;have Up:h2.IsListIter it l (i + 1):=by
   obtain ⟨oi,hoi,ri⟩:=AV;exact ⟨oi,(VH.2 it nI).trans hoi,ri⟩
  refine ih (i + 1) _ (BC kvs (Sum.inr ps[i].1) ps[i].2) _ (by lia) B0 Up ?_ (kv.put (Sum.inr ps[i].1) ru) (by lia) Ku (fun b ob q=>(VH.2 b (g1 b ob q).2).trans ((sb.2 b (g1 b ob q).1).trans (gk b ob q))) fun h3 S1 us3 kv3 dd3 k3=>?_
  ·obtain ⟨ol,hol,rl⟩:=L';exact ⟨ol,(VH.2 l nl.2).trans hol,rl⟩
  ·refine r h3 S1 us3 ?_ dd3 fun b ob b1 b2 q=>k3 b ob b1 b2 ((VH.2 b b2).trans ((sb.2 b b1).trans q))
   have ed:ps.drop i=ps[i] :: ps.drop (i + 1):=(ZM B0)
   rw [ed];exact kv3
end
section
variable {prog:Program} {w:World} {A:Around} {E:Value->Shared->Prop} {s:Shared}
theorem Iz {l:Addr} {vs:List Value} {ps:List (Str × V)} {Q:Value->Shared->Prop} (hh:A.handled=none) {ol:Obj} {nl:Nat} (hl:s.heap.get? l=some ol) (hc:ol.cls=.type "list") (hd:ol.data=.seq vs.toArray nl) (hdc:ol.dict=none)
  (hlen:vs.length=ps.length) (rows:∀ (i:Nat) v p,vs[i]? = some v->ps[i]? = some p->Sm s.heap v p) (hsz:ps.length < sizeLine)
  (h:∀ h' tk us,KV (HW [] (sK ps)) us->h'.DictOf (AK prog w) s.heap.objs.size us->(∀ b o,s.heap.get? b=some o->h'.get? b=some o)->Q (.ref s.heap.objs.size) { s with heap:=h',toks:=tk }):wpAny (model prog w) A (call (.type "dict") [.ref l]) Q E s:=by
 refine callType_codes (Q₁:=fun obj A7=>obj=.ref s.heap.objs.size/\A7 = { s with heap:=s.heap.push { cls:=.type "dict",data:=.dict #[] } }) F.kt_called_dict (F.kt_typeCall_dict_1 _) F.entry_dict_init (kt_code_dict_new _ ⟨rfl,rfl⟩) ?_;rintro obj A7 ⟨rfl,rfl⟩;have hnew:(s.heap.push { cls:=.type "dict",data:=.dict #[] }).DictOf (AK prog w) s.heap.objs.size []:=Heap.DictOf.new s.heap;have O3:(s.heap.push { cls:=.type "dict",data:=.dict #[] }).get? l=some ol:=X9 _ hl;refine ⟨hnew.typeIs,F.args_dict_init_2 _ _,?_⟩;unfold Builtin.«dict.__init__»;refine wpAny_bind ?_;unfold Builtin.Dict.selfAndRest;refine wpAny_bind (wpAny_notOrdered_dict hnew.typeIs ?_);show wpAny _ _ (pure (s.heap.objs.size,[Value.ref l])) _ _ _
 refine wpAny_pure ?_;show wpAny _ _ (Builtin.Dict.updateFrom "dict.__init__" s.heap.objs.size (.ref l) [] .none) _ _ _
 unfold Builtin.Dict.updateFrom;refine wpAny_bind (wpAny_typeOf (T:="list") ⟨ol,O3,hc⟩ ?_);rw [if_pos (by decide)];refine wpAny_bind (LN O3 hc hd hdc hh fun h1 tk1 k1=>?_);simp only [Option.isNone_none,if_true];refine wpAny_bind (wpAny_rule ?_);have Kq:h1.IsList l vs.toArray:=⟨ol,k1 _ _ O3,hc,nl,hd⟩
 refine wpAny_bind (wpAny_pyIter_list Kq ?_);have old:∀ b o,s.heap.get? b=some o->h1.get? b=some o:=fun b o q=>k1 b o (X9 _ q)
 obtain ⟨od,esd,epd,hod,rd⟩:=id hnew;have Sh:=k1 _ _ hod;have ltD:=XE Sh;have ltl:=XE (k1 _ _ O3);refine wpAny_pure ⟨plainId_quiet Cm _,?_⟩;refine OH (A:=A.in1) (g0:=s.heap) (D:=s.heap.objs.size) (it:=h1.objs.size) (l:=l) (vs:=vs) (ps:=ps) hh (Yy ltD) ⟨XQ ltl,XQ (XE hl)⟩ (fun b o q=>⟨XQ (XE (old b o q)),XQ (XE q)⟩) hlen rows hsz _ 0 { s with heap:=h1.push { cls:=.type "list_iterator",data:=.fields #[.ref l,.int 0 0] },toks:=tk1 } [] [] rfl (Yr _)
  ⟨_,XJ _ rfl,rfl,rfl⟩ (Kq.push _) .nil (XD _) ⟨od,esd,epd,X9 _ Sh,rd⟩ (fun b o q=>X9 _ (old b o q)) fun h' tk us kv dd kk=>?_
 rw [List.drop_zero] at kv;exact ⟨rfl,h h' tk us kv dd fun b o q=>kk b o (XQ (XE (old b o q))) (XQ (XE q)) (X9 _ (old b o q))⟩
end
theorem KU:∀ (b a:List (Str × V)),((a ++ b).map (·.1)).Nodup->HW (sK a) (sK b)=sK (a ++ b)
 | [],a,_=>by rw [Zx]; rfl
 | q :: b,a,hn=>by
  have nq:q.1 ∉ a.map (·.1):=by
   rw [Yb,Yj] at hn;intro hm;exact (Ze.mp hn).2.2 q.1 hm q.1 Yh rfl
  show HW (BC (sK a) (Sum.inr q.1) q.2) (sK b)=_
  rw [Df nq];have:=KU b (a ++ [(q.1,q.2)]) (by rw [YJ]; exact hn);rw [this,YJ];rfl
theorem Hi {X:Cx} (hc:X.calm=true):Bq X (.type "dict") (fun xs H Q=>∃ (a:Addr) (vs:List V) (ps:List (Str × V)),xs=[.ref a]/\H a=some (.lst vs)/\vs.length=ps.length/\(∀ (i:Nat) v p,vs[i]? = some v->ps[i]? = some p->∃ t,v=.ref t/\H t=some (.tup [.str p.1,p.2]))/\(ps.map (·.1)).Nodup/\ps.length < 1000 /\
  ∀ D,H D=none->Q (.ref D) (upd H D (.dK (sK ps)))):=by
 intro pins s σ H xs us Q I r h;obtain ⟨a,vs,ps,rfl,ha,hl,hk,hn,h1000,q⟩:=h;obtain ⟨u,rfl,ru⟩:=B7 r;cases ru
 obtain ⟨Ao,rv,⟨o,n,ho,F4,Oc,hdat⟩,hz⟩:=I.list (AA.of ha);have il:Ao.length=ps.length:=by rw [<-rv.length,hl]
 have big:1000 < sizeLine:=by decide
 refine Iz (I.ok.hd hc) (ps:=ps) ho F4 hdat Oc il (fun i v p e1 e2=>?_) (by lia) fun h' tk us kv dd kk=>?_
 ·have hi:i < Ao.length:=(XX.mp e1).1;have e3:vs[i]? = some vs[i]:=XA (by lia);obtain ⟨v',e4,r4⟩:=rv.get e3;rw [e1] at e4;cases e4
  obtain ⟨t,e5,ht⟩:=hk i _ p e3 e2;rw [e5] at r4;cases r4
  obtain ⟨R3,rv2,W4,_⟩:=I.tuple (AM.of ht);cases rv2 with
  | cons x1 y1=>
   cases y1 with
   | cons x2 y2=>
    cases y2
    obtain ⟨t1,rfl⟩:=x1;exact ⟨t,t1,_,rfl,W4,x2⟩
 ·have em:HW [] (sK ps)=sK ps:=KU ps [] (by simpa using hn);rw [em] at kv;refine ⟨.ref s.heap.objs.size,_,I.laid (a:=s.heap.objs.size) (o:=.dK (sK ps)) (t':=tk) kk (XD _) (Kt (by rw [BW]; lia) (beq_eq_false_iff_ne.mpr (Ne.symm (XQ I.big))) kv dd),rfl,q _ (I.hok.fresh (XD _))⟩
theorem Pj:∀ {ws:List AG},(ws.Pairwise fun u v=>¬ DN u v)->∀ {u v:AG},u ∈ ws->v ∈ ws->DN u v->u=v
 | [],_,u,v,hu,_,_=>nomatch hu
 | a :: ws,h,u,v,hu,hv,al=>by
  obtain ⟨h1,h2⟩:=YM.mp h;rcases XC.mp hu with e1 | VV
  ·rcases XC.mp hv with e2 | WG
   ·rw [e1,e2]
   ·exact absurd (by rw [<-e1]; exact al) (h1 v WG)
  ·rcases XC.mp hv with e2 | WG
   ·refine absurd ?_ (h1 u VV);rw [<-e2];rcases al with ⟨a1,a2⟩ | ⟨a1,a2⟩
    ·exact .inl ⟨a1.symm,a2.symm⟩
    ·exact .inr ⟨a2.symm,a1.symm⟩
   ·exact Pj h2 VV WG al
theorem Oi {ws:List AG} (h:ws.Pairwise fun u v=>¬ DN u v) {x y:Str} {l l':Int} (e:BL ws x y l) (e':BL ws x y l'):l=l':=by
 obtain ⟨u,hu,a,rfl⟩:=e;obtain ⟨v,hv,b,rfl⟩:=e';have:u=v:=Pj h hu hv (by
  rcases a with ⟨a1,a2⟩ | ⟨a1,a2⟩ <;> rcases b with ⟨b1,b2⟩ | ⟨b1,b2⟩
  ·exact .inl ⟨a1.trans b1.symm,a2.trans b2.symm⟩
  ·exact .inr ⟨a1.trans b2.symm,a2.trans b1.symm⟩
  ·exact .inr ⟨a1.trans b2.symm,a2.trans b1.symm⟩
  ·exact .inl ⟨a1.trans b1.symm,a2.trans b2.symm⟩)
 rw [this]
theorem JJ {ws OB:List AG} (p:OB.Perm (ws.map Ex)) (x y:Str) (l:Int):BL OB x y l ↔ BL ws x y l:=by
 constructor
 ·rintro ⟨u,hu,h,e⟩;obtain ⟨v,hv,rfl⟩:=Ya.mp (p.mem_iff.mp hu);refine ⟨v,hv,?_,e⟩;rcases DF v with ⟨e1,e2⟩ | ⟨e1,e2⟩
  ·rw [e1,e2] at h; exact h
  ·rw [e1,e2] at h;rcases h with ⟨a,b⟩ | ⟨a,b⟩
   ·exact .inr ⟨b,a⟩
   ·exact .inl ⟨b,a⟩
 ·rintro ⟨v,hv,h,e⟩;refine ⟨Ex v,p.mem_iff.mpr (Ya.mpr ⟨v,hv,rfl⟩),?_,e⟩;rcases DF v with ⟨e1,e2⟩ | ⟨e1,e2⟩
  ·rw [e1,e2]; exact h
  ·rw [e1,e2];rcases h with ⟨a,b⟩ | ⟨a,b⟩
   ·exact .inr ⟨b,a⟩
   ·exact .inl ⟨b,a⟩
theorem OA {ws OB:List AG} (h:∀ x y l,BL OB x y l ↔ BL ws x y l) {x y:Str} {m:Int}:Bl OB x y m ↔ Bl ws x y m:=by
 constructor
 ·intro g;induction g with
  | nil x=>exact .nil x
  | cons e _ ih=>exact .cons ((h _ _ _).mp e) ih
 ·intro g;induction g with
  | nil x=>exact .nil x
  | cons e _ ih=>exact .cons ((h _ _ _).mpr e) ih
def Kz (ws:List AG) (x y:Str) (n:Int):Prop:=Bl ws x y n/\∀ m,Bl ws x y m->n<=m
theorem Mj.dst {ws:List AG} {x y:Str} {p:Int × Str} (h:Mj ws [x] y p):p.2=x/\Kz ws x y p.1:=by
 have e:p.2=x:=by simpa using h.1.1
 refine ⟨e,by rw [<-e]; exact h.1.2,fun m g=>(h.2 x (by simp) m g).fst⟩
theorem Kz.uniq {ws:List AG} {x y:Str} {n m:Int} (h:Kz ws x y n) (g:Kz ws x y m):n=m:=Int.le_antisymm (h.2 m g.1) (g.2 n h.1)
theorem Kz.symm {ws:List AG} {x y:Str} {n:Int} (h:Kz ws x y n):Kz ws y x n:=⟨h.1.symm,fun m g=>h.2 m g.symm⟩
inductive WI (ws:List AG) (I:Str->Prop):Str->Str->Int->Prop
 | edge {x y:Str} {l:Int}:BL ws x y l->WI ws I x y l
 | cons {x y z:Str} {l m:Int}:BL ws x y l->I y->WI ws I y z m->WI ws I x z (l + m)
theorem WI.pos {ws:List AG} (hp:∀ u ∈ ws,1<=u.2.2) {I:Str->Prop} {x y:Str} {m:Int} (h:WI ws I x y m):0<=m:=by
 induction h with
 | edge e=>obtain ⟨u,hu,_,rfl⟩:=e; have:=hp u hu; lia
 | cons e _ _ ih=>obtain ⟨u,hu,_,rfl⟩:=e; have:=hp u hu; lia
theorem WI.ends {ws:List AG} {xs:List Str} (he:∀ u ∈ ws,u.1 ∈ xs/\u.2.1 ∈ xs) {x y:Str} {l:Int} (e:BL ws x y l):x ∈ xs/\y ∈ xs:=by
 obtain ⟨u,hu,h,_⟩:=e;obtain ⟨a,b⟩:=he u hu;rcases h with ⟨rfl,rfl⟩ | ⟨rfl,rfl⟩
 ·exact ⟨a,b⟩
 ·exact ⟨b,a⟩
theorem WI.split {ws:List AG} (hp:∀ u ∈ ws,1<=u.2.2) {I J:Str->Prop} {k:Str} (hJ:∀ z,J z->I z\/z=k) {x y:Str} {m:Int} (h:WI ws J x y m):WI ws I x y m\/∃ m1 m2,WI ws I x k m1/\WI ws I k y m2/\m1 + m2<=m:=by
 induction h with
 | edge e=>exact .inl (.edge e)
 | @cons x a y l m e ha g ih=>
  by_cases hk:a=k
  ·subst hk;rcases ih with h | ⟨m1,m2,h1,h2,h3⟩
   ·exact .inr ⟨l,m,.edge e,h,YE _⟩
   ·have:=h1.pos hp;exact .inr ⟨l,m2,.edge e,h2,by lia⟩
  ·have hI:I a:=(hJ a ha).resolve_right hk;rcases ih with h | ⟨m1,m2,h1,h2,h3⟩
   ·exact .inl (.cons e hI h)
   ·exact .inr ⟨l + m1,m2,.cons e hI h1,h2,by lia⟩
theorem Bl.wi {ws:List AG} {xs:List Str} (he:∀ u ∈ ws,u.1 ∈ xs/\u.2.1 ∈ xs) {x y:Str} {m:Int} (h:Bl ws x y m):(x=y/\m=0)\/WI ws (· ∈ xs) x y m:=by
 induction h with
 | nil x=>exact .inl ⟨rfl,rfl⟩
 | @cons x a y l m e g ih=>
  rcases ih with ⟨rfl,rfl⟩ | h
  ·exact .inr (by rw [ZY]; exact .edge e)
  ·exact .inr (.cons e (WI.ends he e).2 h)
structure FW (ws:List AG) (xs:List Str) (t:Nat) (M:Str->Str->Option Int):Prop where
 sound:∀ x y n,M x y=some n->Bl ws x y n
 comp:∀ x y m,WI ws (· ∈ xs.take t) x y m->∃ n,M x y=some n/\n<=m
 diag:∀ x ∈ xs,∃ n,M x x=some n/\n<=0
def FZ (M0 M:Str->Str->Option Int):Prop:=∀ x y n,M0 x y=some n->∃ n',M x y=some n'/\n'<=n
theorem FZ.refl (M:Str->Str->Option Int):FZ M M:=fun _ _ n h=>⟨n,h,YE _⟩
theorem FZ.trans {M0 M1 M2:Str->Str->Option Int} (h:FZ M0 M1) (g:FZ M1 M2):FZ M0 M2:=fun x y n e=>by
 obtain ⟨n1,e1,l1⟩:=h x y n e;obtain ⟨n2,e2,l2⟩:=g x y n1 e1;exact ⟨n2,e2,by lia⟩
theorem FW.next {ws:List AG} (hp:∀ u ∈ ws,1<=u.2.2) {xs:List Str} (he:∀ u ∈ ws,u.1 ∈ xs/\u.2.1 ∈ xs) {t:Nat} {k:Str} (hk:xs[t]? = some k) {M0 M:Str->Str->Option Int} (h:FW ws xs t M0) (mo:FZ M0 M) (so:∀ x y n,M x y=some n->Bl ws x y n)
  (via:∀ x ∈ xs,∀ y ∈ xs,∀ n1 n2,M0 x k=some n1->M0 k y=some n2->∃ n,M x y=some n/\n<=n1 + n2):FW ws xs (t + 1) M:=by
 refine ⟨so,fun x y m g=>?_,fun x hx=>?_⟩
 ·have ex:x ∈ xs/\y ∈ xs:=by
   clear mo so via h;induction g with
   | edge e=>exact WI.ends he e
   | cons e _ _ ih=>exact ⟨(WI.ends he e).1,ih.2⟩
  rcases g.split hp (I:=(· ∈ xs.take t)) (k:=k) (fun z hz=>by
   rw [Yk,hk] at hz;rcases Ye.mp hz with hz | hz
   ·exact .inl hz
   ·exact .inr (by simpa using hz)) with g | ⟨m1,m2,g1,g2,le⟩
  ·obtain ⟨n,e,l⟩:=h.comp x y m g;obtain ⟨n',e',l'⟩:=mo x y n e;exact ⟨n',e',by lia⟩
  ·obtain ⟨n1,e1,l1⟩:=h.comp x k m1 g1;obtain ⟨n2,e2,l2⟩:=h.comp k y m2 g2;obtain ⟨n,e,l⟩:=via x ex.1 y ex.2 n1 n2 e1 e2;exact ⟨n,e,by lia⟩
 ·obtain ⟨n,e,l⟩:=h.diag x hx;obtain ⟨n',e',l'⟩:=mo x x n e;exact ⟨n',e',by lia⟩
def MD (H:Hp) (A:Addr) (M:Str->Str->Option Int) (c:Nat):Prop:=∃ kvs:List (List AO × V),H A=some (.dT kvs)/\kvs.length<=c/\∀ x y,Bi kvs [Sum.inr x,Sum.inr y]=(M x y).map V.int
theorem MD.same {H H':Hp} {A:Addr} {M:Str->Str->Option Int} {c:Nat} (h:MD H A M c) (s:Au H H'):MD H' A M c:=let ⟨kvs,a,b,d⟩:=h; ⟨kvs,s _ _ a,b,d⟩
theorem MD.get {H:Hp} {A t:Addr} {M:Str->Str->Option Int} {c:Nat} (h:MD H A M c) {x y:Str} (ht:H t=some (.tup [.str x,.str y])):BU H A (.ref t) ((M x y).map V.int):=by
 obtain ⟨kvs,a,_,d⟩:=h;rw [<-d x y];exact BU.t (k:=[Sum.inr x,Sum.inr y]) a ht
def JY (M:Str->Str->Option Int) (x y:Str) (n:Int):Str->Str->Option Int:=fun a b=>if a=x/\b=y then some n else M a b
def OX (K:XB):Sp:=fun vs H Q _=>∃ (q:Addr) (ps:List Str) (ws:List AG) (r x:Str),vs=[.ref q,.str x]/\IC H q ps ws r/\(∀ u ∈ ws,1<=u.2.2)/\(∀ x y l l',BL ws x y l->BL ws x y l'->l=l')/\x ∈ ps /\
 ∀ (H':Hp) (B:Addr) (nv:List (Str × V)),Au H H'->H B=none->H' B=some (.dK (sK nv))->nv.map (·.1)=ps->(∀ y v,(y,v) ∈ nv->∃ n,v=.int n/\Kz ws x y n)->Q (.ref B) H'
end L2
namespace L2
open PySem PySem.Spec PySem.W PyProof.Rows
theorem GP (f:Nat->Int):∀ k,argBest (fun i j=>decide (f i > f j)) k<=k/\∀ j,j<=k->f j<=f (argBest (fun i j=>decide (f i > f j)) k)
 | 0=>⟨XD _,fun j hj=>by
  have:j=0:=by lia
  subst this;exact YE _⟩
 | k + 1=>by
  obtain ⟨h1,h2⟩:=GP f k;simp only [argBest];by_cases hc:f (k + 1) > f (argBest (fun i j=>decide (f i > f j)) k)
  ·rw [if_pos (by simpa using hc)];refine ⟨XD _,fun j hj=>?_⟩;by_cases Hr:j<=k
   ·have:=h2 j Hr;lia
   ·have:j=k + 1:=by lia
    subst this;exact YE _
  ·rw [if_neg (by simpa using hc)];refine ⟨Zg h1,fun j hj=>?_⟩;by_cases Hr:j<=k
   ·exact h2 j Hr
   ·have:j=k + 1:=by lia
    subst this;lia
theorem DY:∀ {ns:List Int} {us:List Value},Ax (ns.map V.int) us->∀ (i:Nat) (v:Value),us[i]? = some v->∃ n t,ns[i]? = some n/\v=Value.int n t
 | [],_,.nil,i,v,e=>by simp at e
 | n :: ns,_,.cons r1 r2,0,v,e=>by
  obtain ⟨t,rfl⟩:=r1;simp only [YF,Yi.injEq] at e;exact ⟨n,t,rfl,e.symm⟩
 | n :: ns,_,.cons r1 r2,i + 1,v,e=>by simpa using DY r2 i v (by simpa using e)
theorem Qy {prog:Program} {w:World} {A:Around} {us:List Value} {ns:List Int} (rv:Ax (ns.map V.int) us):CmpOf prog w A .Gt (fun i v=>us.toArray[i]? = some v) (fun i j=>decide (ns.getD i 0 > ns.getD j 0)):=by
 intro i j vi vj s Q E hi hj hQ;obtain ⟨x,t,e1,rfl⟩:=DY rv i vi (by simpa using hi);obtain ⟨y,u,e2,rfl⟩:=DY rv j vj (by simpa using hj);dsimp only at hQ;rw [Yd,Yd,e1,e2] at hQ;exact PyProof.Rows.gt_int hQ
theorem Jc {X:Cx} (hc:X.calm=true):Bq X (.builtin "max") (fun xs H Q=>∃ (a:Addr) (ns:List Int),xs=[.ref a]/\AA X.K H a (ns.map V.int)/\ns ≠ [] /\
  ∀ m,m ∈ ns->(∀ x ∈ ns,x<=m)->Q (.int m) H):=by
 intro pins s σ H xs us Q I r h;obtain ⟨a,ns,rfl,ha,hne,q⟩:=h;obtain ⟨u,rfl,ru⟩:=B7 r;cases ru
 obtain ⟨Ao,rv,pl,hz⟩:=I.list ha;have hl:Ao.length=ns.length:=by rw [<-rv.length,X8]
 have hpos:0 < ns.length:=YV.mpr hne;refine call_max_walk (wpAny_pyIter_list pl.isList ?_);have hai:a < s.heap.objs.size:=by obtain ⟨o,ho,_⟩:=pl.isList; exact XE ho
 refine ⟨_,[s.heap.objs.size,a],[s.heap.objs.size],_,_,_,_,rfl,Walks.list (A:=X.A.in1) (I.ok.hd hc) _ a (XQ hai) Ao.toArray,⟨⟨_,XJ _ rfl,rfl,rfl⟩,pl.isList.push _⟩,fun c hc=>?_,by simpa [hl] using hpos,Qy rv,fun v h' tk hP hk=>?_⟩
 ·show c < (s.heap.push _).objs.size
  rw [Ys];rcases XC.mp hc with rfl | hc
  ·exact Ym _
  ·rcases XC.mp hc with rfl | hc
   ·exact Yl hai
   ·cases hc
 ·have hold:∀ c o,s.heap.get? c=some o->h'.get? c=some o:=fun c o e=>by
   refine hk c o (fun hm=>?_) (X9 _ e);rcases XC.mp hm with e1 | hm
   ·have:=XE e; rw [e1] at this; exact Yx _ this
   ·cases hm
  have hP':Ao[argBest (fun i j=>decide (ns.getD i 0 > ns.getD j 0)) (Ao.toArray.size - 1)]? = some v:=by rw [<-List.getElem?_toArray]; exact hP
  obtain ⟨x,t,e1,rfl⟩:=DY rv _ v hP';obtain ⟨b1,b2⟩:=GP (fun i=>ns.getD i 0) (Ao.toArray.size - 1);refine ⟨.int x,H,I.kept hold,⟨t,rfl⟩,q x (XG e1) fun y hy=>?_⟩;obtain ⟨j,hj,rfl⟩:=Yn hy;have:=b2 j (by simp only [Yf]; lia);have e2:ns.getD j 0=ns[j]:=by simp [hj]
  have e3:ns.getD (argBest (fun i j=>decide (ns.getD i 0 > ns.getD j 0)) (Ao.toArray.size - 1)) 0=x:=by
   rw [Yd,e1]; rfl
  rw [e2,e3] at this;exact this
end L2
namespace L2
open PySem PySem.Spec PyProof.Rows
theorem Ef {α:Type}:∀ {ys:List α} {k:Nat} {y:α},ys[k]? = some y->(y :: ys.eraseIdx k).Perm ys
 | [],k,y,e=>by simp at e
 | x :: ys,0,y,e=>by
  simp at e;subst e;exact List.Perm.refl _
 | x :: ys,k + 1,y,e=>by
  simp at e;exact (List.Perm.swap x y _).trans ((Ef e).cons x)
theorem JB {α β:Type} (f:α->β):∀ (ys:List α) (k:Nat),(ys.map f).eraseIdx k=(ys.eraseIdx k).map f
 | [],k=>by simp
 | x :: ys,0=>rfl
 | x :: ys,k + 1=>by
  show f x :: (ys.map f).eraseIdx k=f x :: (ys.eraseIdx k).map f
  rw [JB f ys k]
theorem K5:∀ {ss:List Str} {us:List Value},Ax (ss.map V.str) us->StrsAre us ss
 | [],_,.nil=>.nil
 | _ :: _,_,.cons r q=>by
  obtain ⟨t,rfl⟩:=r;exact .cons _ t (K5 q)
theorem Rr {X:Cx}:MtM X "str.join" (fun x vs H Q=>∃ (z:Str) (a:Addr) (ss:List Str),x=.str z/\vs=[.ref a]/\H a=some (.lst (ss.map V.str))/\z.length<=16/\(ss.map (·.length)).sum + ss.length<=1048576/\Q (.str (Txt.join z ss)) H):=by
 intro pins s σ H x vs v us Q I rx rv h;obtain ⟨z,a,ss,rfl,rfl,hH,hz,hw,q⟩:=h;obtain ⟨t,rfl⟩:=rx;obtain ⟨u,rfl,ru⟩:=rv.one;cases ru
 obtain ⟨_,Ao,n,r,_,e⟩:=I.lstM hH;refine join_listW (ys:=ss) ⟨_,e,rfl,n,rfl⟩ (by rw [aB]; exact K5 r) hz hw fun t' k=>?_
 exact ⟨.str (Txt.join z ss),H,I.tok k,⟨t',rfl⟩,q⟩
theorem KY (ss:List Str):(Txt.join (Str.ofString "") ss).cps.toList=(ss.map fun s=>s.cps.toList).flatten:=by
 unfold Txt.join;rw [PySem.StrLaws.glued_eq_join];induction ss with
 | nil=>rfl
 | cons x r ih=>
  cases r with
  | nil=>
   show x.cps.toList=_
   simp
  | cons y r=>
   have e:Str.join (Str.ofString "") (x :: y :: r)=x ++ Str.ofString "" ++ Str.join (Str.ofString "") (y :: r):=rfl;rw [e,Yj,aM,<-ih];show ((x.cps ++ #[]) ++ (Str.join (Str.ofString "") (y :: r)).cps).toList=_
   simp
theorem Qf {ss:List Str} (h:∀ s ∈ ss,s.length=1/\Q5 s):Q5 (Txt.join (Str.ofString "") ss)/\(Txt.join (Str.ofString "") ss).length=ss.length/\(ss.map (·.length)).sum=ss.length:=by
 have e:∀ l:List Str,(∀ s ∈ l,s.length=1/\Q5 s)->((l.map fun s=>s.cps.toList).flatten).length=l.length/\(l.map (·.length)).sum=l.length:=by
  intro l;induction l with
  | nil=>intro _; exact ⟨rfl,rfl⟩
  | cons x r ih=>
   intro h;obtain ⟨i1,i2⟩:=ih fun s hs=>h s (Yg _ hs)
   have hx:x.cps.size=1:=(h x (Yh ..)).1;constructor
   ·rw [Yj,aM,XI,i1,Yp,hx,Yv];lia
   ·rw [Yj,bo,i2,Yv];show x.cps.size + r.length=r.length + 1
    lia
 refine ⟨fun c hc=>?_,?_,(e ss h).2⟩
 ·rw [KY] at hc;obtain ⟨l,hl,hcl⟩:=List.mem_flatten.mp hc;obtain ⟨s,hs,rfl⟩:=Ya.mp hl;exact (h s hs).2 c hcl
 ·show (Txt.join (Str.ofString "") ss).cps.size=_
  rw [<-Yp,KY];exact (e ss h).1
theorem KR {xs:List Str} {hd:List Nat} {f:Nat->List Nat} (h:∀ i x,xs[i]? = some x->∃ tl,x.cps.toList=hd ++ (f i ++ tl)) (hf:∀ i j,i < j->j < xs.length->∀ tl S0,f i ++ tl ≠ f j ++ S0):xs.Nodup:=by
 refine YH.mpr fun i j hi hj hij e=>?_
 obtain ⟨tl,h1⟩:=h i _ (XA hi);obtain ⟨S0,h2⟩:=h j _ (XA hj);rw [e,h2] at h1;exact hf i j hij hj tl S0 (List.append_cancel_left h1).symm
def ND (n:Nat) (st sp:Int) (k:Nat):List Nat:=if 26 < n then [97 + ((st + sp * k) % 26).toNat,97 + k / 26] else [97 + ((st + sp * k) % 26).toNat]
theorem Tc {n:Nat} {st sp:Int} (hn:n<=52) (hs:sp ∈ ([1,3,5,7,9,11,15,17]:List Int)) {i j:Nat} (hij:i < j) (hj:j < n) (tl S0:List Nat):ND n st sp i ++ tl ≠ ND n st sp j ++ S0:=by
 have key:((st + sp * i) % 26).toNat=((st + sp * j) % 26).toNat->(j - i) % 26=0:=by
  intro e;have e2:(st + sp * i) % 26=(st + sp * j) % 26:=by
   have a1:=YK (st + sp * i) (show (26:Int) ≠ 0 by decide);have a2:=YK (st + sp * j) (show (26:Int) ≠ 0 by decide);lia
  have g:Int.gcd 26 sp=1:=by
   simp only [XC,XZ,or_false] at hs;rcases hs with rfl | rfl | rfl | rfl | rfl | rfl | rfl | rfl <;> rfl
  have d:(26:Int) ∣ sp * ((j:Int) - i):=by
   refine Int.dvd_of_emod_eq_zero ?_;have e3:sp * ((j:Int) - i)=(st + sp * j) - (st + sp * i):=by rw [Int.mul_sub]; lia
   rw [e3,Int.sub_emod,e2,Int.sub_self];rfl
  have d2:(26:Int) ∣ (j:Int) - i:=by
   rw [Int.mul_comm] at d;have e4:Nat.gcd 26 sp.natAbs=1:=g;have e5:(26:Nat) ∣ ((j:Int) - i).natAbs * sp.natAbs:=by rw [<-Int.natAbs_mul]; exact ao.mpr d
   exact ao.mp (Nat.Coprime.dvd_of_dvd_mul_right e4 e5)
  lia
 intro e;unfold ND at e;by_cases h:26 < n
 ·rw [if_pos h,if_pos h] at e;simp only [Zs,ZJ,Zi.injEq] at e;have:=key (by lia);lia
 ·rw [if_neg h,if_neg h] at e;simp only [Zs,ZJ,Zi.injEq] at e;have:=key (by lia);lia
theorem DX {i:Int} (h0:0<=i) (h1:i < 26):Jf FO.cps.toList i=some (97 + i.toNat):=by
 obtain ⟨n,rfl⟩:∃ n:Nat,i=(n:Int):=⟨i.toNat,by lia⟩
 have:∀ m:Fin 26,Jf FO.cps.toList (m.val:Int)=some (97 + ((m.val:Int)).toNat):=by decide +kernel
 exact this ⟨n,by lia⟩
theorem len1 {α:Type} {l:List α} (h:l.length=1):∃ a,l=[a]:=List.length_eq_one_iff.mp h
theorem lenS {α:Type} {n:Nat} {l:List α} (h:l.length=n + 1):∃ a r,l=a :: r/\r.length=n:=by
 cases l with
 | nil=>cases h
 | cons a r=>exact ⟨a,r,rfl,Nat.succ.inj h⟩
theorem len2 {α:Type} {l:List α} (h:l.length=2):∃ a b,l=[a,b]:=by
 obtain ⟨a,r,rfl,hr⟩:=lenS h;obtain ⟨b,rfl⟩:=len1 hr;exact ⟨a,b,rfl⟩
theorem len3 {α:Type} {l:List α} (h:l.length=3):∃ a b c,l=[a,b,c]:=by
 obtain ⟨a,r,rfl,hr⟩:=lenS h;obtain ⟨b,c,rfl⟩:=len2 hr;exact ⟨a,b,c,rfl⟩
theorem len4 {α:Type} {l:List α} (h:l.length=4):∃ a b c d,l=[a,b,c,d]:=by
 obtain ⟨a,r,rfl,hr⟩:=lenS h;obtain ⟨b,c,d,rfl⟩:=len3 hr;exact ⟨a,b,c,d,rfl⟩
section
variable {K:Type} [DecidableEq K] [BEq K] [LawfulBEq K]
def met (val:Nat->K) (i:Nat):List K:=((YS i).map val).foldl step_dedup []
theorem DG (val:Nat->K) (i:Nat):met val (i + 1)=step_dedup (met val i) (val i):=by
 unfold met; rw [aW,Yb,List.foldl_append]; rfl
theorem Jn (σ:List K) (v k:K):(step_dedup σ v).any (· == k)=(σ.any (· == k) || decide (k=v)):=by
 unfold step_dedup;by_cases h:σ.any (· == v)=true
 ·rw [if_pos h];by_cases e:k=v
  ·subst e; rw [h]; simp
  ·simp [e]
 ·rw [if_neg h,List.any_append];by_cases e:k=v
  ·subst e; simp
  ·have hb:(v == k)=false:=by simpa [beq_iff_eq] using (fun h':v=k=>e h'.symm)
   simp [hb,e]
theorem DQ (σ:List K) (v:K):(step_dedup σ v).length=if σ.any (· == v) then σ.length else σ.length + 1:=by
 unfold step_dedup; split <;> simp
theorem CA (val:Nat->K):∀ i,(met val i).length<=i
 | 0=>XD _
 | i + 1=>by
  rw [DG,DQ];have ih:=CA val i;split <;> lia
theorem J9 {val:Nat->K}:∀ i,(∀ a b,a < b->b < i->val a ≠ val b)->(met val i)=(YS i).map val
 | 0,_=>rfl
 | i + 1,h=>by
  rw [DG,J9 i fun a b x y=>h a b x (by lia),aW,Yb];unfold step_dedup;rw [if_neg]
  ·rfl
  ·intro z;rw [YT] at z;obtain ⟨x,hx,e⟩:=z;obtain ⟨a,ha,rfl⟩:=Ya.mp hx;exact h a i (Zc.mp ha) (Ym _) (eq_of_beq e)
end
section
variable {prog:Program} {w:World} {A:Around} {R:Result->Shared->Prop} {I:Addr} {fp wr:List Addr} {G:Array GenState->Array GenState->Prop} {n:Nat} {P:Nat->Value->Prop} {St:Nat->Shared->Prop}
variable {K:Type} [DecidableEq K] [BEq K] [LawfulBEq K] {knd:KeyKind prog w K}
theorem Nn (W:WalksS prog w A.in1 I fp wr G n P St) (S:Addr) (hSf:S ∉ fp)
  (val:Nat->K) (hval:∀ i v,P i v->knd.is (val i) v=true/\v.scannable=true) (hb:n + 1 < scanBound) :
  ∀ (k i:Nat) (s:Shared),n - i=k->i<=n->St i s ->
   s.heap.SetOf knd S (fun k'=>(met val i).any (· == k')) (met val i).length ->
   (∀ s',Moved (S :: wr) G s s'->s'.heap.SetOf knd S (fun k'=>(met val n).any (· == k')) (met val n).length->R (.ok (.ret .none)) s') ->
   codeAny (model prog w) A (.builtin "set.update.loop" ⟨[.ref S,.ref I],[]⟩) R s:=by
 have hSw:S ∉ wr:=fun h=>hSf (W.sub _ h)
 have hsub:∀ b ∈ wr,b ∈ S :: wr:=fun b hb=>Yg _ hb
 intro k;induction k with
 | zero=>
  intro i s hk hi hst hS hR;have hin:i=n:=by lia
  subst hin;refine codeAny_builtin F.entry_set_update_loop ?_;rw [Around.under_plainId F.plain_set_update_loop _];show wpAny _ A.in1 (pyNext (.ref I) >>= _) _ _ s
  refine wpAny_bind (W.done s _ _ hst fun s' hm=>?_);show wpAny _ A.in1 (ret Value.none) _ _ s'
  exact wpAny_pure (hR s' (hm.mono hsub) (by
   obtain ⟨o,es,ep,t,ho,rest⟩:=hS;exact ⟨o,es,ep,t,hm.heap S _ hSw ho,rest⟩))
 | succ k ih=>
  intro i s hk hi hst hS hR;have B0:i < n:=by lia
  refine codeAny_builtin F.entry_set_update_loop ?_;rw [Around.under_plainId F.plain_set_update_loop _];show wpAny _ A.in1 (pyNext (.ref I) >>= _) _ _ s
  refine wpAny_bind (W.item i s _ _ B0 hst fun v s' hP WL hm=>?_);obtain ⟨hkv,hsc⟩:=hval i v hP;have Hf:s'.heap.SetOf knd S (fun k'=>(met val i).any (· == k')) (met val i).length:=by
   obtain ⟨o,es,ep,tb,ho,rest⟩:=hS;exact ⟨o,es,ep,tb,hm.heap S _ hSw ho,rest⟩
  show wpAny _ A.in1 (holding [v] (setAdd S v) >>= _) _ _ s'
  refine wpAny_bind (wpAny_holding ?_);unfold setAdd;refine wpAny_holding ?_;refine wpAny_bind (knd.pyHash (k:=val i) hkv ?_);have hroom:(met val i).length + 1 < scanBound:=by have:=CA val i; lia
  refine wpAny_setAddHashed_of (knd:=knd) (s:={ s' with toks:=s'.toks + 1 }) hkv hsc Hf hroom fun h' hsb Ut=>?_
  have hSi:h'.SetOf knd S (fun k'=>(met val (i + 1)).any (· == k')) (met val (i + 1)).length:=
   SetOf_congr Ut (fun k'=>by rw [DG,Jn]) (by rw [DG,DQ])
  refine wpAny_pure ⟨plainId_quiet F.plain_set_update_loop _,ih (i + 1) _ (by lia) B0 (W.frame _ s' _ _ WL (Yt _) fun b hb o e=>?_) hSi fun SI WR WX=>?_⟩
  ·rw [hsb.2 b (fun h:b=S=>hSf (by rw [<-h]; exact hb))]; exact e
  ·refine hR SI (Moved.trans W.gtrans ((hm.mono hsub).then_heap (Yt _) fun b o hb e=>?_) WR) WX;rw [hsb.2 b (fun h:b=S=>hb (by rw [h]; exact Yh))]; exact e
end
section
variable {prog:Program} {w:World} {A:Around} {E:Value->Shared->Prop} {s:Shared}
variable {K:Type} [DecidableEq K] [BEq K] [LawfulBEq K] {knd:KeyKind prog w K}
open PySem.F in
theorem Np {l:Addr} {items:Array Value} {val:Nat->K} {Q:Value->Shared->Prop}
  (hh:A.handled=none) (hl:s.heap.IsList l items) (hi:∀ (i:Nat) v,items[i]? = some v->knd.is (val i) v=true/\v.scannable=true) (hb:items.size + 1 < scanBound)
  (h:∀ (h':Heap) (tk:Nat),h'.SetOf knd s.heap.objs.size (fun k'=>(met val items.size).any (· == k')) (met val items.size).length ->
   (∀ b o,b < s.heap.objs.size->s.heap.get? b=some o->h'.get? b=some o)->Q (.ref s.heap.objs.size) { s with heap:=h',toks:=tk }) :
  wpAny (model prog w) A (call (.type "set") [.ref l]) Q E s:=by
 obtain ⟨c,tl,hmro⟩:=F.called_set.mro;have hmade:=F.called_set.made;have hsub:=F.called_set.sub;refine wpAny_call (codeAny_of_tree ?_);show wpAny _ _ (callAny (.type "set") _) _ _ _
 refine wpAny_pure ⟨Code.quiet_builtin _ (by decide +kernel),codeAny_builtin F.entry_type_call ?_⟩;rw [Around.under_plain (weight_type_call_type "set" [.ref l] []) rfl];have h1:=F.called_set.notType;have h2:=F.called_set.canCreate;have hct:=F.typeCall_set_1 (.ref l);repeat (any_goals (first | assumption | wp_step))
 refine codeAny_mono (code_set_new_1 (.ref l) (E:=E) (Q₁:=fun obj A7=>∃ led:Bool,obj=.ref s.heap.objs.size/\A7 = { s with heap:=s.heap.push { cls:=.type "set",dict:=none,data:=.set #[] 0 (.fresh 0 0 led) } }) fun led=>⟨led,rfl,rfl⟩) fun r A7 hr=>?_
 cases r with
 | error e=>exact hr
 | ok fl=>
  cases fl with
  | ret obj=>
   obtain ⟨led,rfl,rfl⟩:=hr;have hS:(s.heap.push { cls:=.type "set",dict:=none,data:=.set #[] 0 (.fresh 0 0 led) }).get? s.heap.objs.size=some { cls:=.type "set",dict:=none,data:=.set #[] 0 (.fresh 0 0 led) }:=XJ _ rfl;have hT:Shared.TypeIs { s with heap:=s.heap.push { cls:=.type "set",dict:=none,data:=.set #[] 0 (.fresh 0 0 led) } } (.ref s.heap.objs.size) "set":=⟨_,hS,rfl⟩
   have hli:=F.called_set.init.lookup;have hbi:=F.called_set.init.bind (.ref s.heap.objs.size);repeat (any_goals (first | assumption | wp_step))
   refine codeAny_mono (codeAny_call_builtin (R:=wants (fun r Cr=>r=.none/\∃ h' tk,Cr = { s with heap:=h',toks:=tk } /\
     h'.SetOf knd s.heap.objs.size (fun k'=>(met val items.size).any (· == k')) (met val items.size).length /\
     (∀ b o,b < s.heap.objs.size->s.heap.get? b=some o->h'.get? b=some o)) E) F.called_set.init.plain F.entry_set_init (check_set_init_1 hT ?_)) fun SJ Cr Ii=>?_
   ·obtain ⟨ol,hol,hcl,nl,hdl⟩:=hl;obtain ⟨ocls,odict,odata,oslots⟩:=ol;simp only at hcl hdl;subst hcl; subst hdl;have WM:(s.heap.push { cls:=.type "set",dict:=none,data:=.set #[] 0 (.fresh 0 0 led) }).get? l=some { cls:=.type "list",dict:=odict,data:=.seq items nl,slots:=oslots }:=X9 _ hol;have hsls:=F.sub_list_set;have hslf:=F.sub_list_frozenset;have hne:(Value.type "list" == Value.type "dict")=false:=by decide
    have O3:(s.heap.push { cls:=.type "set",dict:=none,data:=.set #[] 0 (.fresh 0 0 led) }).IsList l items:=⟨_,WM,rfl,nl,rfl⟩
    unfold Builtin.«set.__init__» noKeywords Builtin.Frozenset.updateFrom;generalize hPI:pyIter=PI;wp_walk;subst hPI;refine wpAny_pyIter_list O3 ?_;refine wpAny_bind (wpAny_runValue ?_);have hlS:l < s.heap.objs.size:=XE hol;have hneI:l ≠ (s.heap.push { cls:=.type "set",dict:=none,data:=.set #[] 0 (.fresh 0 0 led) }).objs.size:=by
     rw [Ys]; exact XQ (Yl hlS)
    have hSf:s.heap.objs.size ∉ [(s.heap.push { cls:=.type "set",dict:=none,data:=.set #[] 0 (.fresh 0 0 led) }).objs.size,l]:=by
     rw [Ys]; simp only [XC,XY,XZ,or_false,not_or];exact ⟨XQ (Ym _),Yy hlS⟩
    refine Nn (knd:=knd) ((Walks.list (by simp [hh]) _ l hneI items).toS) s.heap.objs.size
     hSf val hi hb (items.size - 0) 0 _ (by lia) (Yr _)
     ⟨⟨_,XJ _ rfl,rfl,rfl⟩,(O3.push _)⟩ ?hS0 ?hR
    case hS0=>
     have hget:((s.heap.push { cls:=.type "set",dict:=none,data:=.set #[] 0 (.fresh 0 0 led) }).push { cls:=.type "list_iterator",data:=.fields #[.ref l,.int 0 0] }).get? s.heap.objs.size
       = some { cls:=.type "set",dict:=none,data:=.set #[] 0 (.fresh 0 0 led) }:=X9 _ hS
     exact SetOf_congr ((setObjOf_fresh (knd:=knd) led).setOf hget (by unfold scanBound; lia)) (fun _=>rfl) rfl
    case hR=>
     intro s' hm Hf;obtain ⟨h',g',d',RU,UN⟩:=s';have eg:g'=s.gens:=hm.gens;have ed:d'=s.drawn:=hm.drawn;have eo:UN=s.os:=hm.os;subst eg; subst ed; subst eo;show wpAny _ _ _ _ _ _
     refine wpAny_pure ?_;show wpAny _ _ (ret Value.none) _ _ _
     refine wpAny_pure ⟨rfl,h',RU,rfl,Hf,fun b o hb e=>?_⟩;have QC:b ≠ s.heap.objs.size:=XQ hb;have WT:b ≠ (s.heap.push { cls:=.type "set",dict:=none,data:=.set #[] 0 (.fresh 0 0 led) }).objs.size:=by
      rw [Ys]; exact XQ (Yl hb)
     exact hm.heap b o (by simp only [XC,XY,XZ,or_false,not_or]; exact ⟨QC,WT⟩) (X9 _ (X9 _ e))
   ·cases SJ with
    | error e=>exact Ii
    | ok Qq=>
     cases Qq with
     | ret r=>
      obtain ⟨rfl,h',tk,rfl,Hf,Lb⟩:=Ii;repeat (any_goals (first | assumption | wp_step))
      exact h _ _ Hf Lb
     | _=>exact Ii.elim
  | _=>exact hr.elim
end
def TY (P:Program) (w:World) (a:Addr) (S:Str->Bool) (n:Nat):HO:=.ext fun h=>h.SetOf (PySem.strKind P w) a S n
theorem FN (ss:List Str):met (fun i=>ss.getD i (Str.ofString "")) ss.length=ss.foldl step_dedup []:=by
 unfold met;congr 1;refine Zj (by simp) fun i h1 h2=>?_
 simp [Yd,XA h2]
theorem IZ {X:Cx} (hc:X.calm=true):Bq X (.type "set") (fun xs H Q=>∃ (a:Addr) (ss:List Str),xs=[.ref a]/\H a=some (.lst (ss.map V.str))/\ss.length<=1000 /\
  ∀ D,H D=none->Q (.ref D) (upd H D (TY X.prog X.w D (fun k=>(ss.foldl step_dedup []).any (· == k)) (ss.foldl step_dedup []).length))):=by
 intro pins s σ H xs us Q I r h;obtain ⟨a,ss,rfl,ha,hl,q⟩:=h;obtain ⟨u,rfl,ru⟩:=B7 r;cases ru
 obtain ⟨Ao,rv,⟨o,n,ho,F4,Oc,hdat⟩,hz⟩:=I.list (AA.of ha);have il:Ao.length=ss.length:=by rw [<-rv.length,X8]
 refine Np (knd:=PySem.strKind X.prog X.w) (val:=fun i=>ss.getD i (Str.ofString "")) (items:=Ao.toArray) (I.ok.hd hc) ⟨o,ho,F4,n,hdat⟩ (fun i v e=>?_) (by unfold scanBound; simp only [Yf]; lia) fun h' tk hS kk=>?_
 ·have e':Ao[i]? = some v:=by simpa using e
  have hi:i < Ao.length:=(XX.mp e').1;have e3:(ss.map V.str)[i]? = some (.str ss[i]):=by rw [XU,XA (by lia)]; rfl
  obtain ⟨v',e4,r4⟩:=rv.get e3;rw [e'] at e4;cases e4
  obtain ⟨t,rfl⟩:=r4;have:ss.getD i (Str.ofString "")=ss[i]:=by simp [Yd,XA (show i < ss.length by lia)]
  rw [this];exact ⟨by simp [PySem.strKind,Value.isStrOf],rfl⟩
 ·have es:Ao.toArray.size=ss.length:=by simpa using il
  rw [es,FN] at hS;have kk':∀ b o,s.heap.get? b=some o->h'.get? b=some o:=fun b o e=>kk b o (XE e) e
  obtain ⟨oS,e1,e2,e3,hoS,rest⟩:=id hS;refine ⟨.ref s.heap.objs.size,_,I.laid (a:=s.heap.objs.size) (o:=TY X.prog X.w s.heap.objs.size _ _) (t':=tk) kk' (XD _) ⟨hS,⟨_,hoS⟩,fun h1 h2 z st=>?_⟩,rfl,q _ (I.hok.fresh (XD _))⟩;obtain ⟨o5,x1,x2,x3,ho5,UK⟩:=z;exact ⟨o5,x1,x2,x3,st _ ho5,UK⟩
theorem Jd {X:Cx}:Bq X (.builtin "len") (fun xs H Q=>∃ (a:Addr) (S:Str->Bool) (n:Nat),xs=[.ref a]/\H a=some (TY X.prog X.w a S n)/\Q (.int n) H):=by
 intro pins s σ H xs us Q I r h;obtain ⟨a,S,n,rfl,ha,q⟩:=h;obtain ⟨u,rfl,ru⟩:=B7 r;cases ru
 obtain ⟨⟨o,es,ep,t,ho,hex,hd,hel,hmem,hb,hf,hn⟩,_⟩:=I.hok a _ ha;refine call_len_set ho hex hd hf (by have:scanBound=4096:=rfl; lia) ?_;subst hn;exact ⟨.int _,H,I.tok _,⟨_,rfl⟩,q⟩
theorem Ot {X:Cx} (hg:X.A.guards=some []) (hu:X.A.units + 64 < cLine):Bq X (.builtin "repr") (fun xs H Q=>∃ (a:Addr) (d:PyData),xs=[.ref a]/\GQ H (.ref a) d/\d.showable=true/\d.hasDict=false/\d.depth<=60/\d.shown.length<=sizeLine/\Q (.str d.shown) H):=by
 intro pins s σ H xs us Q I r h;obtain ⟨a,d,rfl,hd,hs,hn,hdp,hz,q⟩:=h;obtain ⟨u,rfl,ru⟩:=B7 r;obtain ⟨as,rds⟩:=hd.reads I ru;cases ru
 refine repr_of_reads' rds hs (fun z=>by rw [hn] at z; cases z) hg (by lia) (fun _ _ e=>e) (fun h' u tk kk=>?_) hz;exact ⟨.str d.shown,H,I.kept (t':=tk) kk,⟨u,rfl⟩,q⟩
theorem Qe {mask finger moves:Nat} {led plain:Bool} {hs:Array Int} {t:SetTable} {o:Array Nat} (h:SetTable.laid mask finger moves led plain hs=some (t,o)):t.led=led/\t.plain=plain:=by
 unfold SetTable.laid at h;cases e:SetTable.layClean mask hs with
 | none=>rw [e] at h; cases h
 | some ow=>
  rw [e] at h;injection h with h;injection h with h1 h2;subst h1;exact ⟨rfl,rfl⟩
theorem Nx (t:SetTable) (es:Array (Int × Value)) (wanted:Nat):(relayAll t es wanted).2.1.led=t.led/\(t.plain=false->(relayAll t es wanted).2.1.plain=false):=by
 unfold relayAll;split
 ·rename_i t' order e
  have:=Qe e;dsimp only;split
  ·exact ⟨this.1,fun z=>this.2.trans z⟩
  ·exact ⟨rfl,fun _=>rfl⟩
 ·exact ⟨rfl,fun _=>rfl⟩
theorem Rx (t:SetTable) (es:Array (Int × Value)) (h:Int) (x:Value):(layNew t es h x).2.1.led=t.led:=by
 unfold layNew;split
 ·dsimp only;unfold SetTable.orStandIn;split <;> rfl
 ·rfl
section
variable {prog:Program} {w:World} {A:Around} {E:Value->Shared->Prop} {s:Shared}
def Tab (w:World) (es:Array (Int × Value)) (t:SetTable):Prop:=t.led=(!w.params.followText "set-order")/\(0 < es.size->t.plain=false)
def Dk (prog:Program) (w:World) (h:Heap) (a:Addr) (S:Str->Bool) (n:Nat):Prop:=
 ∃ o es ep t,h.get? a=some o/\o.ExactSet/\o.data=.set es ep t/\ElemsOf (PySem.strKind prog w) es.toList/\(∀ k,S k=true ↔ ∃ e ∈ es.toList,(PySem.strKind prog w).is k e.2=true) /\
  es.size < scanBound/\t.fits es.size=true/\es.size=n/\Tab w es t
theorem Ph {a:Addr} {S:Str->Bool} {n:Nat} {k:Str} {tk:Tok} {Q:Bool->Shared->Prop} (hS:Dk prog w s.heap a S n) (room:n + 1 < scanBound)
  (h:∀ h',Heap.SameBut a s.heap h'->Dk prog w h' a (fun k'=>S k' || decide (k'=k)) (if S k then n else n + 1)->Q (!S k) { s with heap:=h' }) :
  wpAny (model prog w) A (setAddHashed a (.str k tk) ((PySem.strKind prog w).hash k)) Q E s:=by
 obtain ⟨o,es,ep,t,ho,ex,hd,el,mem,few,fit,hn,tab⟩:=hS;have is:(PySem.strKind prog w).is k (.str k tk)=true:=by simp [PySem.strKind,Value.isStrOf]
 have sc:(Value.str k tk).scannable=true:=rfl;have TJ:es.size + 1 < scanBound:=by lia
 unfold setAddHashed setAddHashedIn;refine wpAny_holding (wpAny_bind (wpAny_setState_of ho hd fit ?_));dsimp only;rw [if_pos (byScan_of sc few el)];unfold setAddByScan;refine wpAny_bind (wpAny_bind (wpAny_rule (wpAny_bind (wpAny_setScan_of is ho hd fit el ?_))));cases hr:List.findIdx? (fun e=>(PySem.strKind prog w).is k e.2) es.toList with
 | some j=>
  obtain ⟨hj,pj,_⟩:=List.findIdx?_eq_some_iff_getElem.mp hr;have there:S k=true:=(mem k).mpr ⟨es.toList[j],Y6 hj,pj⟩;refine wpAny_pure (wpAny_pure ?_);have q:=h s.heap (Heap.SameBut.refl a s.heap) ⟨o,es,ep,t,ho,ex,hd,el,fun k'=>?_,few,fit,by rw [there]; exact hn,tab⟩
  ·rw [there] at q; exact q
  ·rw [Bool.or_eq_true,decide_eq_true_eq,<-mem k'];exact ⟨fun z=>z.elim id fun e=>e ▸ there,.inl⟩
 | none=>
  have gone:S k=false:=by
   cases z:S k with
   | false=>rfl
   | true=>
    obtain ⟨e,he,hp⟩:=(mem k).mp z;have:=List.findIdx?_eq_none_iff.mp hr e he;rw [hp] at this;cases this
  dsimp only;have pm:=layNew_perm t es ((PySem.strKind prog w).hash k) (.str k tk);have ft:=layNew_fits t es ((PySem.strKind prog w).hash k) (.str k tk);have ld:=Rx t es ((PySem.strKind prog w).hash k) (.str k tk);generalize layNew t es ((PySem.strKind prog w).hash k) (.str k tk)=L at pm ft ld ⊢;obtain ⟨IJ,t1,dum,gv⟩:=L;dsimp only at pm ft ld ⊢;rw [aG] at pm;have el1:=(el.push is sc).perm pm;have PZ:=mem_push_iff is mem pm;have z1:IJ.size=n + 1:=by rw [<-Yp,pm.length_eq,XI,Yp,hn]; rfl
  have TH:IJ.size < scanBound:=by lia
  have fin:∀ (O6:Array (Int × Value)) (t2:SetTable) (h':Heap) (o':Obj) (Si:Nat),Heap.SameBut a s.heap h'->h'.get? a=some o'->o'.ExactSet->o'.data=.set O6 Si t2->O6.toList.Perm IJ.toList->t2.fits O6.size=true->t2.led=t.led->t2.plain=false->Q true { s with heap:=h' }:=by
   intro O6 t2 h' o' Si sb g x d p f l pl;have z2:O6.size=n + 1:=by rw [<-z1,<-Yp,p.length_eq,Yp]
   have q:=h h' sb ⟨o',O6,Si,t2,g,x,d,el1.perm p,fun k'=>(PZ k').trans ⟨fun ⟨e,he,r⟩=>⟨e,p.mem_iff.mpr he,r⟩,fun ⟨e,he,r⟩=>⟨e,p.mem_iff.mp he,r⟩⟩,by lia,f,by rw [gone]; exact z2,l.trans tab.1,fun _=>pl⟩;rw [gone] at q;exact q
  have gw:∀ (b:Bool) {A7:Shared} {R:Unit->Shared->Prop},R () A7->wpAny (model prog w) A (match b with | true=>rule "set.scan.the-table-gave-way" | false=>pure ()) R E A7:=fun b A7 R q=>by cases b <;> first | exact wpAny_pure q | exact wpAny_rule q
  refine wpAny_bind (gw gv ?_);have main:∀ t2:SetTable,t2.fits IJ.size=true->t2.led=t.led->t2.plain=false->wpAny (model prog w) A (do
    storeSet a IJ t2
    if (!dum && t2.tooFull)=true then do
      (match (relayAll t2 IJ (SetTable.grown IJ.size)).2.2 with | true=>rule "set.scan.the-table-gave-way" | false=>pure ())
      storeSet a (relayAll t2 IJ (SetTable.grown IJ.size)).1 (relayAll t2 IJ (SetTable.grown IJ.size)).2.1
      pure (some true)
     else pure (some true)) (fun r s'=>r=some true/\Q true s') E s:=by
   intro t2 f2 l2 p2;refine wpAny_bind (wpAny_storeSet_of ho hd ?_ (fits_of_scanBound TH));obtain ⟨g1,_⟩:=SetOf_store (knd:=PySem.strKind prog w) ho ex hd el1 PZ TH f2;have sb1:=Heap.SameBut.update s.heap a (Obj.putSet IJ t2);split
   ·have pr:=relayAll_perm t2 IJ (SetTable.grown IJ.size);have fr:=relayAll_fits t2 IJ (SetTable.grown IJ.size);have lr:=Nx t2 IJ (SetTable.grown IJ.size);generalize relayAll t2 IJ (SetTable.grown IJ.size)=R at pr fr lr ⊢;obtain ⟨O6,t3,gv2⟩:=R;dsimp only at pr fr lr ⊢;have z2:O6.size=IJ.size:=by rw [<-Yp,pr.length_eq,Yp]
    refine wpAny_bind (gw gv2 ?_);refine wpAny_bind (wpAny_storeSet_of g1 rfl ?_ (fits_of_scanBound (by rw [z2]; exact TH)));have g2:=Y3 (Obj.putSet O6 t3) g1 (by rw [putSet_of O6 t3 rfl]; rfl);rw [putSet_of O6 t3 rfl] at g2;exact wpAny_pure ⟨rfl,fin O6 t3 _ _ _ (sb1.trans (Heap.SameBut.update _ a _)) g2 ex rfl pr fr (lr.1.trans l2) (lr.2 p2)⟩
   ·exact wpAny_pure ⟨rfl,fin IJ t2 _ _ _ sb1 g1 ex rfl (.refl _) f2 l2 p2⟩
  by_cases pl:t1.plain=true
  ·rw [if_pos pl];refine wpAny_bind ?_;rw [hashByValue_scannable 8 sc];refine wpAny_pure ?_;refine wpAny_mono (main { t1 with plain:=false } (SetTable.fits_plain_off ft) ld rfl) (fun r s' z=>?_) fun _ _ z=>z
   obtain ⟨rfl,z⟩:=z;exact wpAny_pure z
  ·rw [if_neg pl];refine wpAny_bind (wpAny_pure ?_);refine wpAny_mono (main t1 ft ld (by simpa using pl)) (fun r s' z=>?_) fun _ _ z=>z
   obtain ⟨rfl,z⟩:=z;exact wpAny_pure z
end
section
variable {prog:Program} {w:World} {A:Around} {R:Result->Shared->Prop} {I:Addr} {fp wr:List Addr} {G:Array GenState->Array GenState->Prop} {n:Nat} {P:Nat->Value->Prop} {St:Nat->Shared->Prop}
theorem Dk.kept {h h':Heap} {a:Addr} {S:Str->Bool} {n:Nat} (hS:Dk prog w h a S n) (k:∀ o,h.get? a=some o->h'.get? a=some o):Dk prog w h' a S n:=by
 obtain ⟨o,es,ep,t,ho,r⟩:=hS;exact ⟨o,es,ep,t,k _ ho,r⟩
theorem Dk.as {h:Heap} {a:Addr} {S S':Str->Bool} {n n':Nat} (hS:Dk prog w h a S n) (e:∀ k,S' k=S k) (en:n'=n):Dk prog w h a S' n':=by
 subst en;have:S'=S:=funext e;rw [this];exact hS
theorem Nr (W:WalksS prog w A.in1 I fp wr G n P St) (D:Addr) (hD:D ∉ fp) (val:Nat->Str) (hv:∀ i v,P i v->∃ tk,v=.str (val i) tk) (few:n + 1 < scanBound) :
  ∀ (k i:Nat) (s:Shared),n - i=k->i<=n->St i s->Dk prog w s.heap D (fun k'=>(met val i).any (· == k')) (met val i).length ->
   (∀ s',Moved (D :: wr) G s s'->Dk prog w s'.heap D (fun k'=>(met val n).any (· == k')) (met val n).length->R (.ok (.ret .none)) s') ->
   codeAny (model prog w) A (.builtin "set.update.loop" ⟨[.ref D,.ref I],[]⟩) R s:=by
 have hw:D ∉ wr:=fun z=>hD (W.sub _ z)
 have up:∀ b ∈ wr,b ∈ D :: wr:=fun b z=>Yg _ z
 intro k;induction k with
 | zero=>
  intro i s hk hi st hS q;have e:i=n:=by lia
  subst e;refine codeAny_builtin F.entry_set_update_loop ?_;rw [Around.under_plainId F.plain_set_update_loop _];refine wpAny_bind (W.done s _ _ st fun s' m=>?_);exact wpAny_pure (q s' (m.mono up) (hS.kept fun o e=>m.heap D _ hw e))
 | succ k ih=>
  intro i s hk hi st hS q;have lt:i < n:=by lia
  refine codeAny_builtin F.entry_set_update_loop ?_;rw [Around.under_plainId F.plain_set_update_loop _];refine wpAny_bind (W.item i s _ _ lt st fun v s' pv AV m=>?_);obtain ⟨tk,rfl⟩:=hv i v pv;have Hf:=hS.kept (h':=s'.heap) fun o e=>m.heap D _ hw e
  refine wpAny_bind (wpAny_holding ?_);unfold setAdd;refine wpAny_holding ?_;refine wpAny_bind ((PySem.strKind prog w).pyHash (k:=val i) (by simp [PySem.strKind,Value.isStrOf]) ?_);refine Ph (s:={ s' with toks:=s'.toks + 1 }) Hf (by have:=CA val i; lia) fun h' sb Ut=>?_
  have nx:Dk prog w h' D (fun k'=>(met val (i + 1)).any (· == k')) (met val (i + 1)).length:=
   Ut.as (fun k'=>by rw [DG,Jn]) (by rw [DG,DQ])
  refine wpAny_pure ⟨plainId_quiet F.plain_set_update_loop _,ih (i + 1) _ (by lia) lt (W.frame _ s' _ _ AV (Yt _) fun b z o e=>?_) nx fun SI m2 WW=>?_⟩
  ·rw [sb.2 b fun y:b=D=>hD (y ▸ z)];exact e
  ·refine q SI (Moved.trans W.gtrans ((m.mono up).then_heap (Yt _) fun b o z e=>?_) m2) WW;rw [sb.2 b fun y:b=D=>z (y ▸ Yh)];exact e
end
section
variable {prog:Program} {w:World} {A:Around} {E:Value->Shared->Prop} {s:Shared}
theorem Pg (a:Value) {Q₁:Value->Shared->Prop}
  (h:Q₁ (.ref s.heap.objs.size) { s with heap:=s.heap.push { cls:=.type "set",dict:=none,data:=.set #[] 0 (.fresh 0 0 (!w.params.followText "set-order")) } }) :
  codeAny (model prog w) A (.call (.builtin "set.__new__") ⟨[.type "set",a],[]⟩) (wants Q₁ E) s:=by
 refine codeAny_of_tree ?_;show wpAny _ A.in1 (checkBuiltinCall "set.__new__" ⟨[.type "set",a],[]⟩ >>= fun _=>again (.builtin "set.__new__" ⟨[.type "set",a],[]⟩)) _ _ s
 refine wpAny_bind (wpAny_of_eq (F.newCall_set_1 a) (wpAny_pure ⟨plainId_quiet F.plain_set_new _,codeAny_builtin F.entry_set_new ?_⟩));rw [Around.under_plainId F.plain_set_new _];unfold Builtin.«set.__new__» Builtin.Frozenset.newClass;have hsub:=sub_set_self;obtain ⟨hp,g,d,tk,os⟩:=s;dsimp only;wp_walk;refine wpAny_askSetting (wpAny_pure ?_);dsimp only;simp only [newObj];refine wpAny_bind (wpAny_alloc (wpAny_pure ?_));exact wpAny_pure h
theorem Mu {a:Addr} {T:String} {o:Obj} {oI:Obj} {items:Array Value} {val:Nat->Str} {St:Addr->Nat->Heap->Prop} {Q:Value->Shared->Prop} (hh:A.handled=none)
  (ho:s.heap.get? a=some o) (hc:o.cls=.type T) (hnd:(Value.type T == Value.type "dict")=false) (hs1:isSubtype (.type T) (.type "set")=pure false) (Vg:isSubtype (.type T) (.type "frozenset")=pure false)
  (hit:∀ (B:Around) (E':Value->Shared->Prop) (s1:Shared) (Q':Value->Shared->Prop),(∀ b o,s.heap.get? b=some o->s1.heap.get? b=some o)->Q' (.ref s1.heap.objs.size) { s1 with heap:=s1.heap.push oI }->wpAny (model prog w) B (pyIter (.ref a)) Q' E' s1)
  (hW:∀ (B:Around) (I:Addr),B.handled=none->a ≠ I->Walks prog w B I [I,a] [I] items.size (fun i v=>items[i]? = some v) (St I))
  (hst:∀ h:Heap,(∀ b o,s.heap.get? b=some o->h.get? b=some o)->St h.objs.size 0 (h.push oI))
  (hi:∀ (i:Nat) v,items[i]? = some v->∃ tk,v=.str (val i) tk) (few:items.size + 1 < scanBound)
  (h:∀ (h':Heap) (tk:Nat),Dk prog w h' s.heap.objs.size (fun k'=>(met val items.size).any (· == k')) (met val items.size).length ->
   (∀ b o,s.heap.get? b=some o->h'.get? b=some o)->Q (.ref s.heap.objs.size) { s with heap:=h',toks:=tk }) :
  wpAny (model prog w) A (call (.type "set") [.ref a]) Q E s:=by
 obtain ⟨c,tl,hmro⟩:=F.called_set.mro;have hmade:=F.called_set.made;have hsub:=F.called_set.sub;refine wpAny_call (codeAny_of_tree ?_);show wpAny _ _ (callAny (.type "set") _) _ _ _
 refine wpAny_pure ⟨Code.quiet_builtin _ (by decide +kernel),codeAny_builtin F.entry_type_call ?_⟩;rw [Around.under_plain (weight_type_call_type "set" [.ref a] []) rfl];have h1:=F.called_set.notType;have h2:=F.called_set.canCreate;have hct:=F.typeCall_set_1 (.ref a);repeat (any_goals (first | assumption | wp_step))
 obtain ⟨fr,efr⟩:∃ fr:Obj,fr = { cls:=.type "set",dict:=none,data:=.set #[] 0 (.fresh 0 0 (!w.params.followText "set-order")) }:=⟨_,rfl⟩
 refine codeAny_mono (Pg (.ref a) (E:=E) (Q₁:=fun obj A7=>obj=.ref s.heap.objs.size/\A7 = { s with heap:=s.heap.push fr }) ⟨rfl,by rw [efr]⟩) fun r A7 hr=>?_
 have gS:(s.heap.push fr).get? s.heap.objs.size=some fr:=XJ _ (by rw [efr]; rfl);have cf:fr.cls=.type "set":=by rw [efr]
 have new:∀ h5:Heap,h5.get? s.heap.objs.size=some fr->Dk prog w h5 s.heap.objs.size (fun k'=>(met val 0).any (· == k')) (met val 0).length:=fun h5 g=>
  ⟨fr,#[],0,.fresh 0 0 (!w.params.followText "set-order"),g,by rw [efr]; exact ⟨rfl,rfl,rfl⟩,by rw [efr],fun e he=>by simp at he,fun k=>by simp [met],by decide,rfl,rfl,rfl,fun z=>by simp at z⟩
 cases r with
 | error e=>exact hr
 | ok fl=>
  cases fl with
  | ret obj=>
   obtain ⟨rfl,rfl⟩:=hr;have hT:Shared.TypeIs { s with heap:=s.heap.push fr } (.ref s.heap.objs.size) "set":=⟨_,gS,cf⟩
   have hli:=F.called_set.init.lookup;have hbi:=F.called_set.init.bind (.ref s.heap.objs.size);repeat (any_goals (first | assumption | wp_step))
   refine codeAny_mono (codeAny_call_builtin (R:=wants (fun r Cr=>r=.none/\∃ h' tk,Cr = { s with heap:=h',toks:=tk } /\
     Dk prog w h' s.heap.objs.size (fun k'=>(met val items.size).any (· == k')) (met val items.size).length /\
     (∀ b o,s.heap.get? b=some o->h'.get? b=some o)) E) F.called_set.init.plain F.entry_set_init (check_set_init_1 hT ?_)) fun SJ Cr Ii=>?_
   ·obtain ⟨ocls,odict,odata,oslots⟩:=o;simp only at hc;subst hc;have lt:a < s.heap.objs.size:=XE ho;have IW:(s.heap.push fr).get? a=some { cls:=.type T,dict:=odict,data:=odata,slots:=oslots }:=X9 _ ho;subst efr;unfold Builtin.«set.__init__» noKeywords Builtin.Frozenset.updateFrom;generalize hPI:pyIter=PI;wp_walk;subst hPI;refine hit _ _ _ _ (fun b o e=>X9 _ e) ?_;refine wpAny_bind (wpAny_runValue ?_);have ne:a ≠ (s.heap.push { cls:=.type "set",dict:=none,data:=.set #[] 0 (.fresh 0 0 (!w.params.followText "set-order")) }).objs.size:=by
     rw [Ys]; exact XQ (Yl lt)
    have nS:s.heap.objs.size ∉ [(s.heap.push { cls:=.type "set",dict:=none,data:=.set #[] 0 (.fresh 0 0 (!w.params.followText "set-order")) }).objs.size,a]:=by
     rw [Ys]; simp only [XC,XZ,or_false,not_or];exact ⟨XQ (Ym _),Yy lt⟩
    refine Nr ((hW _ _ (by simp [hh]) ne).toS) s.heap.objs.size nS val hi few (items.size - 0) 0 _ (by lia) (Yr _) (hst _ fun b o e=>X9 _ e) (new _ (X9 _ gS)) ?_;intro s' hm Hf;obtain ⟨h',g',d',RU,UN⟩:=s';have eg:g'=s.gens:=hm.gens;have ed:d'=s.drawn:=hm.drawn;have eo:UN=s.os:=hm.os;subst eg ed eo;refine wpAny_pure ?_;refine wpAny_pure ⟨rfl,h',RU,rfl,Hf,fun b o e=>?_⟩;have hb:=XE e;have QC:b ≠ s.heap.objs.size:=XQ hb;have WT:b ≠ (s.heap.push { cls:=.type "set",dict:=none,data:=.set #[] 0 (.fresh 0 0 (!w.params.followText "set-order")) }).objs.size:=by
     rw [Ys]; exact XQ (Yl hb)
    exact hm.heap b o (by simp only [XC,XZ,or_false,not_or]; exact ⟨QC,WT⟩) (X9 _ (X9 _ e))
   ·cases SJ with
    | error e=>exact Ii
    | ok Qq=>
     cases Qq with
     | ret r=>
      obtain ⟨rfl,h',tk,rfl,Hf,Lb⟩:=Ii;repeat (any_goals (first | assumption | wp_step))
      exact h _ _ Hf Lb
     | _=>exact Ii.elim
  | _=>exact hr.elim
end
theorem Il:entryFor table "set.__iter__"=some Builtin.«frozenset.__iter__»:=
 entryFor_alias (id':="frozenset.__iter__") (by kernel_rfl) rfl (by decide +kernel) (by kernel_rfl)
theorem BZ:entryFor table "set_iterator.__next__"=some Builtin.«set_iterator.__next__»:=entryFor_of_tree (by kernel_rfl)
theorem AD:Slot "set_iterator" "__next__" "set_iterator.__next__":=
 .of (owner:="set_iterator") (n:="__next__") (by rw [typeLookup_type,builtinLookup_eq_fast]; kernel_rfl) (by decide +kernel) (by decide +kernel) (by decide +kernel)
  (by first | exact .inl (by decide +kernel) | exact .inr (by decide +kernel)) (by rw [isSubtype_type]; kernel_rfl)
theorem Eo:Slot "set_iterator" "__iter__" "set_iterator.__iter__":=
 .of (owner:="set_iterator") (n:="__iter__") (by rw [typeLookup_type,builtinLookup_eq_fast]; kernel_rfl) (by decide +kernel) (by decide +kernel) (by decide +kernel)
  (by first | exact .inl (by decide +kernel) | exact .inr (by decide +kernel)) (by rw [isSubtype_type]; kernel_rfl)
theorem Co (a:Value):argsOk "set_iterator.__next__" ⟨[a],[]⟩:=by unfold argsOk; kernel_rfl
theorem I0 (a:Value):argsOk "set_iterator.__iter__" ⟨[a],[]⟩:=by unfold argsOk; kernel_rfl
theorem Hg:entryFor table "set_iterator.__iter__"=some Builtin.«dict_keyiterator.__iter__»:=
 entryFor_alias (id':="dict_keyiterator.__iter__") (by kernel_rfl) (by first | rfl | decide +kernel | (unfold String.splitOn; simp +decide [String.splitOnAux])) (by decide +kernel) (by kernel_rfl)
section
variable {prog:Program} {w:World} {A:Around} {E:Value->Shared->Prop} {s:Shared}
def Dm (x:Value) (i:Int) (a:Addr) (n ep:Nat):Obj:={ cls:=.type "set_iterator",data:=.fields #[x,.int i 0,.ref a,.int n 0,.int ep 0] }
theorem Ju {r a:Addr} {x:Value} {i:Int} {n ep:Nat} {Q:Value->Shared->Prop} (hr:s.heap.get? r=some (Dm x i a n ep)) (h:Q (.ref r) s):wpAny (model prog w) A (pyIter (.ref r)) Q E s:=by
 have hT:s.TypeIs (.ref r) "set_iterator":=⟨_,hr,rfl⟩
 refine wpAny_pyIter_slot hT Eo (wpAny_call_entry Eo hT Hg ?_ (I0 _));show wpAny _ _ (ret (.ref r)) _ _ s
 exact wpAny_pure ⟨_,rfl,"set_iterator",_,hT,AD.lookup,h⟩
def CJ (w:World) (a:Addr) (es:Array (Int × Value)) (ep:Nat) (t:SetTable) (slot given:Nat):Option (Value × Nat):=
 if w.params.followText "set-order"=true then ((pickOrder (w.params.setOrder a ep) es)[given]?).map fun e=>(e.2,slot) else
 match es[SetTable.below t.place slot]?,t.place[SetTable.below t.place slot]? with
  | some (_,x),some j=>some (x,j + 1)
  | _,_=>none
theorem KC {a:Addr} {o:Obj} {es:Array (Int × Value)} {ep:Nat} {t:SetTable} {slot given:Nat} {Q:Option (Value × Nat)->Shared->Prop} (ho:s.heap.get? a=some o) (hd:o.data=.set es ep t) (fit:t.fits es.size=true) (tab:Tab w es t)
  (few:w.params.followText "set-order"=false->es.size<=1) (h:Q (CJ w a es ep t slot given) s):wpAny (model prog w) A (setNext a slot given ep) Q E s:=by
 unfold setNext;refine wpAny_bind (wpAny_setState_of ho hd fit ?_);dsimp only;unfold setsByText;refine wpAny_bind (wpAny_bind (wpAny_askSetting (wpAny_pure ?_)));unfold CJ at h;show wpAny _ _ (if w.params.followText "set-order"=true then _ else _) _ _ _
 by_cases z:w.params.followText "set-order"=true
 ·rw [if_pos z] at h;rw [if_pos z,if_neg (by simp)];unfold setWalk;refine wpAny_bind (wpAny_bind (wpAny_setState_of ho hd fit ?_));dsimp only;unfold setsByText;refine wpAny_bind (wpAny_bind (wpAny_askSetting (wpAny_pure ?_)));show wpAny _ _ (if w.params.followText "set-order"=true then _ else _) _ _ _
  rw [if_pos z];refine wpAny_bind (wpAny_askSetting (wpAny_pure ?_));exact wpAny_pure h
 ·rw [if_neg z] at h;rw [if_neg z];have z':w.params.followText "set-order"=false:=by simpa using z
  have sm:=few z';show wpAny _ _ (if (!t.plain && decide (es.size > 1))=true then _ else _) _ _ _
  rw [if_neg (by simp; lia)];refine wpAny_bind ?_;show wpAny _ _ (if (!t.led && !es.isEmpty)=true then _ else _) _ _ _
  rw [if_neg (by rw [tab.1,z']; simp)];exact wpAny_pure (wpAny_pure h)
theorem Nk {r a:Addr} {slot i:Nat} {o:Obj} {es:Array (Int × Value)} {ep:Nat} {t:SetTable} {x:Value} {nx:Nat} {Q:Option Value->Shared->Prop}
  (hr:s.heap.get? r=some (Dm (.int slot 0) i a es.size ep)) (ho:s.heap.get? a=some o) (hd:o.data=.set es ep t) (fit:t.fits es.size=true) (tab:Tab w es t) (few:w.params.followText "set-order"=false->es.size<=1)
  (hx:CJ w a es ep t slot i=some (x,nx))
  (hQ:∀ h',h'.get? r=some (Dm (.int nx 0) (i + 1) a es.size ep)->Heap.SameBut r s.heap h'->Q (some x) { s with heap:=h' }) :
  wpAny (model prog w) A (pyNext (.ref r)) Q E s:=by
 have hT:s.TypeIs (.ref r) "set_iterator":=⟨_,hr,rfl⟩
 obtain ⟨hp,g,d,tk,os⟩:=s;unfold pyNext;refine wpAny_bind (wpAny_attempt (wpAny_callSpecial?_slot (name:=Str.ofString "__next__") hT AD
  (wpAny_call_entry AD hT BZ ?_ (Co _))))
 unfold Builtin.«set_iterator.__next__»;unfold Dm at hr;repeat (any_goals (first | assumption | (refine wpAny_setEntries_of ho hd fit ?_) | (refine KC (given:=i) (slot:=slot) ho hd fit tab few ?_) | wp_step))
 rw [show ((ep:Nat):Int).toNat=ep by simp,hx];repeat (any_goals (first | assumption | wp_step))
 refine ⟨_,rfl,wpAny_pure (hQ _ ?_ ((Heap.SameBut.update ..).trans (Heap.SameBut.update ..)))⟩;have e1:=Y3 (Obj.mapFields fun fs=>fs.setIfInBounds 0 (rawInt nx)) hr rfl;have e2:=Y3 (Obj.mapFields fun fs=>fs.setIfInBounds 1 (rawInt (i + 1))) e1 rfl;exact e2
theorem OZ {r a:Addr} {slot i:Nat} {o:Obj} {es:Array (Int × Value)} {ep:Nat} {t:SetTable} {Q:Option Value->Shared->Prop} (hh:A.handled=none)
  (hr:s.heap.get? r=some (Dm (.int slot 0) i a es.size ep)) (ho:s.heap.get? a=some o) (hd:o.data=.set es ep t) (fit:t.fits es.size=true) (tab:Tab w es t) (few:w.params.followText "set-order"=false->es.size<=1)
  (hx:CJ w a es ep t slot i=none)
  (hQ:∀ h',Heap.ExtBut r s.heap h'->Q none { s with heap:=h' }) :
  wpAny (model prog w) A (pyNext (.ref r)) Q E s:=by
 have hT:s.TypeIs (.ref r) "set_iterator":=⟨_,hr,rfl⟩
 obtain ⟨hp,g,d,tk,os⟩:=s;unfold pyNext;refine wpAny_bind (wpAny_attempt (wpAny_callSpecial?_slot (name:=Str.ofString "__next__") hT AD
  (wpAny_call_entry AD hT BZ ?_ (Co _))))
 unfold Builtin.«set_iterator.__next__»;unfold Dm at hr;repeat (any_goals (first | assumption | (refine wpAny_setEntries_of ho hd fit ?_) | (refine KC (given:=i) (slot:=slot) ho hd fit tab few ?_) | wp_step))
 rw [show ((ep:Nat):Int).toNat=ep by simp,hx];repeat (any_goals (first | assumption | wp_step))
 simp only [raiseNew];refine wpAny_bind (wpAny_handled ?_);rw [show A.in1.handled=none from hh];refine wpAny_bind (wpAny_pure (wpAny_throw ?_));refine wpAny_bind (wpAny_isInstance (T:="StopIteration") (b:=true) ⟨_,XJ _ rfl,rfl⟩ isSubtype_stop ?_);exact wpAny_pure (hQ _ fun b o hb e=>X9 _ (X9 _ ((Heap.SameBut.update ..).extBut b o hb e)))
end
section
variable {prog:Program} {w:World} {A:Around} {E:Value->Shared->Prop} {s:Shared}
def NG (is:List Nat) (c:Nat):Obj:={ cls:=.type "tuple",data:=.seq (is.map fun (i:Nat)=>rawInt i).toArray c }
theorem Nl {a:Addr} {o:Obj} {es:Array (Int × Value)} {ep:Nat} {t:SetTable} {j:Nat} {h:Int} {x:Value} {Q:Value->Shared->Prop} (ho:s.heap.get? a=some o) (hd:o.data=.set es ep t) (fit:t.fits es.size=true)
  (hx:es[j]? = some (h,x)) (q:Q x s):wpAny (model prog w) A (setNextDrawn a j ep) Q E s:=by
 unfold setNextDrawn;refine wpAny_bind (wpAny_setState_of ho hd fit ?_);dsimp only;rw [if_neg (by simp),hx];exact wpAny_pure q
theorem Nm {r a p:Addr} {i c:Nat} {o:Obj} {es:Array (Int × Value)} {ep:Nat} {t:SetTable} {is:List Nat} {j:Nat} {h:Int} {x:Value} {Q:Option Value->Shared->Prop}
  (hr:s.heap.get? r=some (Dm (.ref p) i a es.size ep)) (hp:s.heap.get? p=some (NG is c)) (ho:s.heap.get? a=some o) (hd:o.data=.set es ep t) (fit:t.fits es.size=true)
  (hj:is[i]? = some j) (hx:es[j]? = some (h,x))
  (hQ:∀ h',h'.get? r=some (Dm (.ref p) (i + 1) a es.size ep)->Heap.SameBut r s.heap h'->Q (some x) { s with heap:=h' }) :
  wpAny (model prog w) A (pyNext (.ref r)) Q E s:=by
 have hT:s.TypeIs (.ref r) "set_iterator":=⟨_,hr,rfl⟩
 have Hr:((is.map fun (i:Nat)=>rawInt i).toArray)[i]? = some (.int j 0):=by simp [hj,rawInt]
 obtain ⟨hp,g,d,tk,os⟩:=s;unfold pyNext;refine wpAny_bind (wpAny_attempt (wpAny_callSpecial?_slot (name:=Str.ofString "__next__") hT AD
  (wpAny_call_entry AD hT BZ ?_ (Co _))))
 unfold Builtin.«set_iterator.__next__»;unfold Dm at hr;unfold NG at hp;repeat (any_goals (first | assumption | (refine wpAny_setEntries_of ho hd fit ?_) | wp_step))
 rw [show ((i:Nat):Int).toNat=i by simp,Hr];dsimp only;refine wpAny_bind (Nl (h:=h) (x:=x) ho hd fit (by simpa using hx) ?_);repeat (any_goals (first | assumption | wp_step))
 refine ⟨_,rfl,wpAny_pure (hQ _ ?_ (Heap.SameBut.update ..))⟩;exact Y3 (Obj.mapFields fun fs=>fs.setIfInBounds 1 (rawInt (i + 1))) hr rfl
theorem Pd {r a p:Addr} {i c:Nat} {o:Obj} {es:Array (Int × Value)} {ep:Nat} {t:SetTable} {is:List Nat} {Q:Option Value->Shared->Prop} (hh:A.handled=none)
  (hr:s.heap.get? r=some (Dm (.ref p) i a es.size ep)) (hp:s.heap.get? p=some (NG is c)) (ho:s.heap.get? a=some o) (hd:o.data=.set es ep t) (fit:t.fits es.size=true)
  (hj:is[i]? = none) (hQ:∀ h',Heap.ExtBut r s.heap h'->Q none { s with heap:=h' }) :
  wpAny (model prog w) A (pyNext (.ref r)) Q E s:=by
 have hT:s.TypeIs (.ref r) "set_iterator":=⟨_,hr,rfl⟩
 have Hr:((is.map fun (i:Nat)=>rawInt i).toArray)[i]? = none:=by simpa using hj
 obtain ⟨hp,g,d,tk,os⟩:=s;unfold pyNext;refine wpAny_bind (wpAny_attempt (wpAny_callSpecial?_slot (name:=Str.ofString "__next__") hT AD
  (wpAny_call_entry AD hT BZ ?_ (Co _))))
 unfold Builtin.«set_iterator.__next__»;unfold Dm at hr;unfold NG at hp;repeat (any_goals (first | assumption | (refine wpAny_setEntries_of ho hd fit ?_) | wp_step))
 rw [show ((i:Nat):Int).toNat=i by simp,Hr];repeat (any_goals (first | assumption | wp_step))
 simp only [raiseNew];refine wpAny_bind (wpAny_handled ?_);rw [show A.in1.handled=none from hh];refine wpAny_bind (wpAny_pure (wpAny_throw ?_));refine wpAny_bind (wpAny_isInstance (T:="StopIteration") (b:=true) ⟨_,XJ _ rfl,rfl⟩ isSubtype_stop ?_);exact wpAny_pure (hQ _ fun b o hb e=>X9 _ (X9 _ ((Heap.SameBut.update ..).extBut b o hb ((Heap.SameBut.update ..).extBut b o hb e))))
theorem Ly (hh:A.handled=none) (I a:Addr) (ne:a ≠ I) {o:Obj} {es:Array (Int × Value)} {ep:Nat} {t:SetTable} (hd:o.data=.set es ep t) (fit:t.fits es.size=true) (tab:Tab w es t) (few:w.params.followText "set-order"=false->es.size<=1)
  (vs:List Value) (sl:Nat->Nat) (hs:∀ (i:Nat) (v:Value),vs[i]? = some v->CJ w a es ep t (sl i) i=some (v,sl (i + 1))) (he:CJ w a es ep t (sl vs.length) vs.length=none) :
  Walks prog w A I [I,a] [I] vs.length (fun i v=>vs[i]? = some v) (fun i h=>h.get? I=some (Dm (.int (sl i:Nat) 0) i a es.size ep)/\h.get? a=some o) where
 sub:=fun b hb=>by simp at hb; simp [hb]
 frame:=fun i h h' st k=>⟨k I (by simp) _ st.1,k a (by simp) _ st.2⟩
 item:=fun i s Q E hi st q=>by
  have e:vs[i]? = some vs[i]:=by simp [hi]
  refine Nk st.1 st.2 hd fit tab few (hs i _ e) fun h' hr sb=>q _ h' s.toks e ⟨hr,?_⟩ fun b o hb z=>?_
  ·rw [sb.2 a ne]; exact st.2
  ·rw [sb.2 b (by simpa using hb)]; exact z
 done:=fun s Q E st q=>OZ hh st.1 st.2 hd fit tab few he fun h' eb=>q h' s.toks fun b o hb z=>eb b o (by simpa using hb) z
 self:=fun i s Q E st q=>Ju st.1 q
theorem Lz (hh:A.handled=none) (I a p:Addr) (ne:a ≠ I) (np:p ≠ I) {o:Obj} {es:Array (Int × Value)} {ep c:Nat} {t:SetTable} (hd:o.data=.set es ep t) (fit:t.fits es.size=true)
  (is:List Nat) (vs:List Value) (hl:is.length=vs.length) (hs:∀ (i:Nat) (v:Value),vs[i]? = some v->∃ j h,is[i]? = some j/\es[j]? = some (h,v)) :
  Walks prog w A I [I,a,p] [I] vs.length (fun i v=>vs[i]? = some v) (fun i h=>h.get? I=some (Dm (.ref p) i a es.size ep)/\h.get? a=some o/\h.get? p=some (NG is c)) where
 sub:=fun b hb=>by simp at hb; simp [hb]
 frame:=fun i h h' st k=>⟨k I (by simp) _ st.1,k a (by simp) _ st.2.1,k p (by simp) _ st.2.2⟩
 item:=fun i s Q E hi st q=>by
  have e:vs[i]? = some vs[i]:=by simp [hi]
  obtain ⟨j,h,e1,e2⟩:=hs i _ e;refine Nm st.1 st.2.2 st.2.1 hd fit e1 e2 fun h' hr sb=>q _ h' s.toks e ⟨hr,?_,?_⟩ fun b o hb z=>?_
  ·rw [sb.2 a ne]; exact st.2.1
  ·rw [sb.2 p np]; exact st.2.2
  ·rw [sb.2 b (by simpa using hb)]; exact z
 done:=fun s Q E st q=>Pd hh st.1 st.2.2 st.2.1 hd fit (by simp [hl]) fun h' eb=>q h' s.toks fun b o hb z=>eb b o (by simpa using hb) z
 self:=fun i s Q E st q=>Ju st.1 q
theorem Ik {α:Type} {xs:List α} {i:Nat} {x:α} (h:xs[i]? = some x):(x :: xs.eraseIdx i).Perm xs:=by
 induction xs generalizing i with
 | nil=>simp at h
 | cons y ys ih=>
  cases i with
  | zero=>simp at h; subst h; exact .refl _
  | succ i=>
   simp only [ZO] at h;exact (List.Perm.swap _ _ _).trans ((ih h).cons _)
theorem Mb {α:Type} (n:Nat):∀ (xs:List α) (s:Shared) (Q:List α->Shared->Prop),n=xs.length->(∀ ys dr,ys.Perm xs->Q ys { s with drawn:=dr })->wpAny (model prog w) A (drawOrder n xs) Q E s:=by
 induction n with
 | zero=>
  intro xs s Q hn h;cases xs with
  | nil=>exact wpAny_pure (h [] s.drawn (.refl _))
  | cons x xs=>simp at hn
 | succ n ih=>
  intro xs s Q hn h;cases xs with
  | nil=>simp at hn
  | cons x xs=>
   unfold drawOrder;refine wpAny_bind ?_;intro Γ p hΓ;refine ⟨by simp,?_⟩;have lt:w.draws .order (s.drawn.get .order) % (x :: xs).length < (x :: xs).length:=bx _ (by simp);show wpAny (model prog w) A (match (x :: xs)[w.draws .order (s.drawn.get .order) % (x :: xs).length]? with
    | some y=>drawOrder n ((x :: xs).eraseIdx (w.draws .order (s.drawn.get .order) % (x :: xs).length)) >>= fun r=>pure (y :: r)
    | none=>unsupported "internal:drawOrder") Q E { s with drawn:=s.drawn.bump .order }
   generalize w.draws .order (s.drawn.get .order) % (x :: xs).length=i at lt;have e:(x :: xs)[i]? = some (x :: xs)[i]:=by simp
   rw [e];refine wpAny_bind (ih _ _ _ (by rw [au]; simp only [lt,if_true]; lia) fun ys dr pm=>?_);exact wpAny_pure (h _ dr ((pm.cons _).trans (Ik e)))
theorem M4 {α:Type} (next:Nat->Nat):∀ (fuel k:Nat) (left:List α) (out:Array α),fuel=left.length->(pickOrder.go next fuel k left out).toList.Perm (out.toList ++ left)
 | 0,k,[],out,_=>by unfold pickOrder.go; simp
 | fuel + 1,k,x :: xs,out,h=>by
  unfold pickOrder.go;have lt:next k % (x :: xs).length < (x :: xs).length:=bx _ (by simp);generalize next k % (x :: xs).length=i at lt;have e:(x :: xs)[i]? = some (x :: xs)[i]:=by simp
  rw [e];refine (M4 next fuel (k + 1) _ _ (by rw [au]; simp only [lt,if_true]; simp at h ⊢; lia)).trans ?_;rw [aG,YJ];exact (Ik e).append_left _
theorem N2 {α:Type} (next:Nat->Nat) (xs:Array α):(pickOrder next xs).toList.Perm xs.toList:=by
 unfold pickOrder;simpa using M4 next xs.size 0 xs.toList #[] (by simp)
end
theorem K6:∀ {vs:List Value},(∀ v ∈ vs,∃ x t,v=Value.str x t)->∃ ks,StrsAre vs ks
 | [],_=>⟨[],.nil⟩
 | v :: vs,h=>by
  obtain ⟨x,t,rfl⟩:=h v (by simp);obtain ⟨ks,r⟩:=K6 fun u hu=>h u (Yg _ hu)
  exact ⟨x :: ks,.cons x t r⟩
theorem OQ {P:Program} {w:World} {vs:List Value} {ks:List Str} (h:StrsAre vs ks) (k:Str):k ∈ ks ↔ ∃ v ∈ vs,(PySem.strKind P w).is k v=true:=by
 induction h with
 | nil=>simp
 | cons x t r ih=>
  rw [XC,ih];constructor
  ·rintro (rfl | ⟨v,hv,e⟩)
   ·exact ⟨_,Yh,by simp [PySem.strKind,Value.isStrOf]⟩
   ·exact ⟨v,Yg _ hv,e⟩
  ·rintro ⟨v,hv,e⟩;rcases XC.mp hv with rfl | hv
   ·refine .inl ?_;have e':Value.isStrOf k (.str x t)=true:=e;first | exact (eq_of_beq e').symm | exact eq_of_beq e' | exact of_decide_eq_true e' | exact (of_decide_eq_true e').symm
   ·exact .inr ⟨v,hv,e⟩
section
variable {prog:Program} {w:World} {A:Around} {E:Value->Shared->Prop} {s:Shared}
theorem Nq {a:Addr} {o:Obj} {es:Array (Int × Value)} {ep:Nat} {t:SetTable} {Q:Bool->Shared->Prop} (ho:s.heap.get? a=some o) (hd:o.data=.set es ep t) (fit:t.fits es.size=true)
  (h:Q (!w.params.followText "set-order" && (!t.plain && decide (es.size > 1))) s):wpAny (model prog w) A (setDrawn a) Q E s:=by
 unfold setDrawn;refine wpAny_bind (wpAny_setState_of ho hd fit ?_);dsimp only;unfold setsByText;exact wpAny_bind (wpAny_bind (wpAny_askSetting (wpAny_pure (wpAny_pure h))))
theorem Nt {a:Addr} {S:Str->Bool} {n:Nat} {Q:Value->Shared->Prop} (hS:Dk prog w s.heap a S n)
  (h:∀ (h':Heap) (dr:Drawn) (I:Addr) (fp:List Addr) (vs:List Value) (ks:List Str) (St:Nat->Heap->Prop),(∀ b o,s.heap.get? b=some o->h'.get? b=some o)->s.heap.objs.size<=I->(∀ b ∈ fp,b=a\/s.heap.objs.size<=b) ->
   StrsAre vs ks->(∀ k,S k=true ↔ k ∈ ks)->ks.length=n->(∀ B:Around,B.handled=none->Walks prog w B I fp [I] vs.length (fun i v=>vs[i]? = some v) St)->St 0 h'->Q (.ref I) { s with heap:=h',drawn:=dr }) :
  wpAny (model prog w) A (pyIter (.ref a)) Q E s:=by
 obtain ⟨o,es,ep,t,ho,ex,hd,el,mem,few,fit,hn,tab⟩:=hS;have lt:a < s.heap.objs.size:=XE ho;have strE:∀ e ∈ es.toList,∃ x tk,e.2=Value.str x tk:=fun e he=>by
  obtain ⟨⟨k,hk,_⟩,_⟩:=el e he;have Lb:Value.isStrOf k e.2=true:=hk;cases z:e.2 <;> rw [z] at Lb <;> first | exact ⟨_,_,rfl⟩ | (simp [Value.isStrOf] at Lb)
 have tx:∀ vs:List Value,vs.Perm (es.toList.map (·.2))->∃ ks,StrsAre vs ks/\(∀ k,S k=true ↔ k ∈ ks)/\ks.length=n:=fun vs pm=>by
  obtain ⟨ks,r⟩:=K6 (vs:=vs) fun v hv=>by
   obtain ⟨e,he,rfl⟩:=Ya.mp (pm.mem_iff.mp hv);exact strE e he
  refine ⟨ks,r,fun k=>?_,by rw [<-r.length,pm.length_eq,X8,Yp]; exact hn⟩;rw [mem,OQ (P:=prog) (w:=w) r];constructor
  ·rintro ⟨e,he,z⟩;exact ⟨e.2,pm.mem_iff.mpr (Ya.mpr ⟨e,he,rfl⟩),z⟩
  ·rintro ⟨v,hv,z⟩;obtain ⟨e,he,rfl⟩:=Ya.mp (pm.mem_iff.mp hv);exact ⟨e,he,z⟩
 have hT:s.TypeIs (.ref a) "set":=⟨o,ho,ex.1⟩
 refine wpAny_pyIter_slot hT F.slot_set_iter (wpAny_call_entry F.slot_set_iter hT Il ?_ (F.args_set_iter_1 _));unfold Builtin.«frozenset.__iter__» Builtin.Frozenset.slot0 slotArgs;simp only [List.isEmpty_nil,bp,Yu,↓reduceIte,bind_assoc,aV,bne_self_eq_false];unfold Builtin.Frozenset.addrOf Builtin.Frozenset.sizeOf;refine wpAny_bind (wpAny_pure ?_);try dsimp only
 refine wpAny_bind (wpAny_pure ?_);refine wpAny_bind (wpAny_bind (wpAny_setEntries_of ho hd fit (wpAny_pure ?_)));refine wpAny_bind (Nq ho hd fit ?_);by_cases z:(!w.params.followText "set-order" && (!t.plain && decide (es.size > 1)))=true
 ·rw [if_pos z];refine wpAny_bind (Mb es.size (YS es.size) _ _ (by rw [Zd]) fun is dr pm=>?_);refine wpAny_bind (wpAny_newTuple ?_ (by rw [X8,pm.length_eq,Zd]; exact fits_of_scanBound few));refine wpAny_bind (wpAny_setEpoch_of (X9 _ ho) hd fit ?_);refine wpAny_bind (wpAny_newObj_type (wpAny_pure ⟨_,rfl,"set_iterator",_,⟨_,XJ _ rfl,rfl⟩,AD.lookup,?_⟩));have rng:∀ j ∈ is,j < es.size:=fun j hj=>Zc.mp (pm.mem_iff.mp hj)
  have pv:(is.map fun j=>((es[j]?).map (·.2)).getD Value.none).Perm (es.toList.map (·.2)):=by
   refine (pm.map _).trans ?_;refine List.Perm.of_eq (Zj (by simp) fun i h1 h2=>?_);have:i < es.size:=by simpa using h2
   simp [this]
  obtain ⟨ks,r1,r2,r3⟩:=tx _ pv;refine h _ dr _ [(s.heap.push (NG is 0)).objs.size,a,s.heap.objs.size] _ ks _ (fun b o e=>X9 _ (X9 _ e)) (by rw [size_push']; exact Yt _) (fun b hb=>?_) r1 r2 r3
   (fun B hB=>Lz hB _ a s.heap.objs.size (by rw [size_push']; exact XQ (Yl lt)) (by rw [size_push']; exact XQ (Ym _)) hd fit is _ (by simp) fun i v e=>?_)
   ⟨XJ _ rfl,X9 _ (X9 _ ho),X9 _ (XJ _ rfl)⟩
  ·simp only [XC,XZ,or_false] at hb;rcases hb with rfl | rfl | rfl
   ·exact .inr (by rw [size_push']; exact Yt _)
   ·exact .inl rfl
   ·exact .inr (XD _)
  ·rw [XU] at e;cases ej:is[i]? with
   | none=>rw [ej] at e; cases e
   | some j=>
    rw [ej] at e;have hj:=rng j (XG ej);have e5:es[j]? = some es[j]:=by simp [hj]
    simp only [YX,e5,Option.getD_some,Yi.injEq] at e;exact ⟨j,es[j].1,rfl,by rw [e5,<-e]⟩
 ·rw [if_neg z];refine wpAny_bind (wpAny_pure ?_);refine wpAny_bind (wpAny_setEpoch_of ho hd fit ?_);refine wpAny_bind (wpAny_newObj_type (wpAny_pure ⟨_,rfl,"set_iterator",_,⟨_,XJ _ rfl,rfl⟩,AD.lookup,?_⟩));have TJ:w.params.followText "set-order"=false->es.size<=1:=fun q=>by
   rcases ZZ 1 es.size with y | y
   ·rw [q,tab.2 (by lia)] at z;simp [y] at z
   ·exact y
  have go:∀ (vs:List Value) (sl:Nat->Nat),sl 0=0->vs.Perm (es.toList.map (·.2))->(∀ (i:Nat) (v:Value),vs[i]? = some v->CJ w a es ep t (sl i) i=some (v,sl (i + 1)))->CJ w a es ep t (sl vs.length) vs.length=none ->
    Q (.ref s.heap.objs.size) { s with heap:=s.heap.push (Dm (rawInt 0) 0 a es.size ep) }:=fun vs sl s0 pm h1 h2=>by
   obtain ⟨ks,r1,r2,r3⟩:=tx _ pm;refine h _ s.drawn _ [s.heap.objs.size,a] vs ks _ (fun b o e=>X9 _ e) (XD _) (fun b hb=>?_) r1 r2 r3 (fun B hB=>Ly hB _ a (XQ lt) hd fit tab TJ vs sl h1 h2) ⟨?_,X9 _ ho⟩
   ·simp only [XC,XZ,or_false] at hb;rcases hb with rfl | rfl
    ·exact .inr (XD _)
    ·exact .inl rfl
   ·rw [s0]; exact XJ _ rfl
  by_cases ft:w.params.followText "set-order"=true
  ·refine go ((pickOrder (w.params.setOrder a ep) es).toList.map (·.2)) (fun _=>0) rfl ((N2 _ es).map _) (fun i v e=>?_) ?_
   ·unfold CJ;rw [if_pos ft];rw [XU,YQ] at e;cases y:(pickOrder (w.params.setOrder a ep) es)[i]? with
    | none=>rw [y] at e; cases e
    | some x=>rw [y] at e; cases e; rfl
   ·unfold CJ;rw [if_pos ft];simp
  ·have sm:=TJ (by simpa using ft);refine go (es.toList.map (·.2)) (fun i=>if i=0 then 0 else t.place.getD 0 0 + 1) rfl (.refl _) (fun i v e=>?_) ?_
   ·unfold CJ;rw [if_neg ft];have i0:i < es.size:=by
     have:=(XX.mp e).1;simpa using this
    have z1:es.size=1:=by lia
    have i1:i=0:=by lia
    subst i1;obtain ⟨x,rfl⟩:∃ x,es=#[x]:=⟨es[0],ZE (by simpa using z1) fun j a1 a2=>by
     have:j=0:=by lia
     subst this; rfl⟩
    have pz:t.place.size=1:=by
     simp only [SetTable.fits,YC,beq_iff_eq] at fit;exact fit.1
    obtain ⟨y,ey⟩:∃ y,t.place=#[y]:=⟨t.place[0],ZE (by simpa using pz) fun j a1 a2=>by
     have:j=0:=by lia
     subst this; rfl⟩
    rw [ey];simp at e;subst e;rfl
   ·unfold CJ;rw [if_neg ft];rcases Nat.eq_zero_or_pos es.size with z0 | z0
    ·have:es=#[]:=Array.eq_empty_of_size_eq_zero z0;subst this;rfl
    ·have z1:es.size=1:=by lia
     obtain ⟨x,rfl⟩:∃ x,es=#[x]:=⟨es[0],ZE (by simpa using z1) fun j a1 a2=>by
      have:j=0:=by lia
      subst this; rfl⟩
     have pz:t.place.size=1:=by
      simp only [SetTable.fits,YC,beq_iff_eq] at fit;exact fit.1
     obtain ⟨y,ey⟩:∃ y,t.place=#[y]:=⟨t.place[0],ZE (by simpa using pz) fun j a1 a2=>by
      have:j=0:=by lia
      subst this; rfl⟩
     rw [ey];simp [SetTable.below,SetTable.below.go]
end
section
variable {prog:Program} {w:World} {A:Around} {E:Value->Shared->Prop} {s:Shared}
theorem Pf {r:Addr} {Q:Bool->Shared->Prop} (hT:s.TypeIs (.ref r) "set") (h:∀ b,Q b s):wpAny (model prog w) A (Builtin.List.listLengthHint (.ref r)) Q E s:=by
 unfold Builtin.List.listLengthHint;refine wpAny_bind (wpAny_specialOf hT PySem.F.slot_set_len.lookup ?_);generalize hid:("set.__len__":String)=id0;wp_delta;rw [show splitId id0=some ("set","__len__") from by subst hid; decide +kernel];subst hid;refine wpAny_bind (wpAny_isInstance (T:="set") (b:=true) hT (by rw [isSubtype_type]; kernel_rfl) ?_);refine wpAny_ite_split (fun z=>absurd z (by decide)) (fun _=>?_);refine wpAny_ite_split (fun _=>?_) (fun z=>absurd (by decide +kernel) z);refine wpAny_bind (wpAny_typeOf hT ?_);exact wpAny_pure (h _)
theorem JX {a:Addr} {S:Str->Bool} {n:Nat} {R:List Value->Shared->Prop} (hh:A.handled=none) (hS:Dk prog w s.heap a S n)
  (h:∀ (h':Heap) (tk:Nat) (dr:Drawn) (vs:List Value) (ks:List Str),(∀ b o,s.heap.get? b=some o->h'.get? b=some o)->StrsAre vs ks->(∀ k,S k=true ↔ k ∈ ks)->ks.length=n->R vs { s with heap:=h',toks:=tk,drawn:=dr }) :
  wpAny (model prog w) A (collect (.ref a)) R E s:=by
 have hn:n < scanBound:=by obtain ⟨o,es,ep,t,ho,ex,hd,el,mem,few,fit,hn,tab⟩:=hS; lia
 have WQ:n<=sizeLine:=fits_of_scanBound hn;have lt:a < s.heap.objs.size:=by obtain ⟨o,es,ep,t,ho,r⟩:=hS; exact XE ho
 unfold collect;refine wpAny_bind (wpAny_runValue (codeAny_builtin entry_proto_collect' ?_));rw [Around.under_plainId PySem.F.plain_proto_collect _];show wpAny _ A.in1 (newList [] >>= fun l=>again (.builtin "list.__iadd__" ⟨[l,.ref a],[]⟩)) _ _ s
 refine wpAny_bind (wpAny_newObj_type ?_);refine wpAny_pure ⟨plainId_quiet PySem.F.plain_list_iadd _,codeAny_builtin entry_list_iadd' ?_⟩;rw [Around.under_plainId PySem.F.plain_list_iadd _];have e1:(s.heap.push { cls:=.type "list",data:=.seq ([]:List Value).toArray }).get? s.heap.objs.size=some { cls:=.type "list",data:=.seq #[] }:=XJ _ rfl;show wpAny _ A.in1 (Builtin.List.listExtendWith (.ref s.heap.objs.size) (.ref a) (.ref s.heap.objs.size)) _ _ _
 have T9:Dk prog w (s.heap.push { cls:=.type "list",data:=.seq ([]:List Value).toArray }) a S n:=hS.kept fun o e=>X9 _ e
 unfold Builtin.List.listExtendWith;have hT:Shared.TypeIs { s with heap:=s.heap.push { cls:=.type "list",data:=.seq ([]:List Value).toArray } } (.ref a) "set":=by
  obtain ⟨o,es,ep,t,ho,ex,r⟩:=T9;exact ⟨o,ho,ex.1⟩
 refine wpAny_bind (wpAny_typeOf hT ?_);have e2:Builtin.List.listSameRef (.ref s.heap.objs.size) (.ref a)=false:=by simp [Builtin.List.listSameRef,Yy lt]
 have e3:(Value.type "set" == Value.type "list")=false:=by decide
 have e4:(Value.type "set" == Value.type "tuple")=false:=by decide
 simp only [e2,e3,e4,bg,Yu,if_false];refine wpAny_bind (Nt T9 fun h1 dr I fp vs ks St kk hI hfp sv mem len hW st=>?_);have k1:∀ b o,s.heap.get? b=some o->h1.get? b=some o:=fun b o e=>kk b o (X9 _ e)
 have eS:=kk _ _ e1;have WV:Shared.TypeIs { s with heap:=h1,drawn:=dr } (.ref a) "set":=by
  obtain ⟨o,es,ep,t,ho,ex,r⟩:=hS;exact ⟨o,k1 _ _ ho,ex.1⟩
 have szI:(s.heap.push { cls:=.type "list",data:=.seq ([]:List Value).toArray }).objs.size=s.heap.objs.size + 1:=size_push' ..;have nf:s.heap.objs.size ∉ fp:=fun z=>by
  rcases hfp _ z with e | e
  ·exact absurd e (Yy lt)
  ·rw [szI] at e; exact absurd e (Nat.not_le_of_lt (Ym _))
 have vl:vs.length=n:=by rw [sv.length]; exact len
 have key:∀ (h2:Heap) (c tk:Nat),St 0 h2->(∀ b o,b ≠ s.heap.objs.size->h1.get? b=some o->h2.get? b=some o)->h2.get? s.heap.objs.size=some { cls:=.type "list",data:=.seq #[] c } ->
   codeAny (model prog w) A (.builtin "list.extend.loop" ⟨[.ref s.heap.objs.size,.ref I,.ref s.heap.objs.size],[]⟩) (fun (q:Result) (s':Shared)=>∃ (h':Heap) (tk:Nat) (acc:Array Value) (c':Nat),q=.ok (.ret (.ref s.heap.objs.size))/\s' = { s with heap:=h',toks:=tk,drawn:=dr } /\
    (∀ b o,s.heap.get? b=some o->h'.get? b=some o)/\h'.get? s.heap.objs.size=some { cls:=.type "list",dict:=none,data:=.seq acc c',slots:=#[] }/\ItemsOf (fun i v=>vs[i]? = some v) acc vs.length) { s with heap:=h2,toks:=tk,drawn:=dr }:=by
  intro h2 c tk Eh k2 g2;refine codeAny_extend_loopS (hW _ (by simp [hh])).toS (by rw [vl]; exact WQ) s.heap.objs.size nf (.ref s.heap.objs.size) vs.length 0 _ #[] c rfl (Yr _) Eh g2 (ItemsOf.nil _) fun s' acc c' m g' ia=>?_
  refine ⟨s'.heap,s'.toks,acc,c',rfl,?_,fun b o e=>?_,g',ia⟩
  ·rw [Moved.eq_with m]
  ·have lb:=XE e;refine m.heap b o (fun z=>?_) (k2 b o (XQ lb) (k1 b o e));rcases XC.mp z with y | y
   ·exact XQ lb y
   ·rw [XY.mp y] at lb;rw [szI] at hI;exact absurd lb (Nat.not_lt_of_le (Nat.le_of_succ_le hI))
 refine wpAny_mono (Q:=fun fin s'=>match fin with | .done f=>False | .again c'=>c'.quiet=true/\codeAny (model prog w) A c' (fun (q:Result) (s':Shared)=>∃ (h':Heap) (tk:Nat) (acc:Array Value) (c':Nat),q=.ok (.ret (.ref s.heap.objs.size))/\s' = { s with heap:=h',toks:=tk,drawn:=dr } /\
    (∀ b o,s.heap.get? b=some o->h'.get? b=some o)/\h'.get? s.heap.objs.size=some { cls:=.type "list",dict:=none,data:=.seq acc c',slots:=#[] }/\ItemsOf (fun i v=>vs[i]? = some v) acc vs.length) s') (E:=fun _ _=>False) ?_ (fun fin s' x=>?_) fun e s' x=>x.elim
 ·refine wpAny_bind (wpAny_holding (Pf WV fun b=>?_));refine wpAny_ite_split (fun _=>?_) (fun _=>wpAny_pure ⟨plainId_quiet PySem.F.plain_extend_loop _,key _ _ _ st (fun b o _ e=>e) eS⟩);refine wpAny_bind (wpAny_rule ?_);refine wpAny_bind ?_;show wpAny _ _ (updateSeq s.heap.objs.size (·.push .none) >>= fun _=>updateSeq s.heap.objs.size (·.pop)) _ _ _
  refine wpAny_bind (wpAny_updateSeq eS rfl ?_);have eS2:=Y3 (Obj.mapSeq (·.push Value.none)) eS rfl;refine wpAny_updateSeq (hz:=by seq_fits) eS2 rfl ?_;have eS3:=Y3 (Obj.mapSeq (·.pop)) eS2 rfl;have oth:∀ b o,b ≠ s.heap.objs.size->h1.get? b=some o->((h1.update s.heap.objs.size (Obj.mapSeq (·.push Value.none))).update s.heap.objs.size (Obj.mapSeq (·.pop))).get? b=some o:=fun b o hb e=>
   (Y0 _ _ (Ne.symm hb)).trans ((Y0 _ _ (Ne.symm hb)).trans e)
  refine wpAny_pure ⟨plainId_quiet PySem.F.plain_extend_loop _,key _ _ _ ?_ oth eS3⟩;exact (hW A (by simp [hh])).frame 0 _ _ st fun b hb o e=>oth b o (fun z=>nf (z ▸ hb)) e
 ·cases fin with
  | done f=>exact x.elim
  | again c₁=>
   refine ⟨x.1,codeAny_mono x.2 fun q Cr y=>?_⟩;obtain ⟨h',tk,acc,c',rfl,rfl,hk,Hf,ia⟩:=y;show wpAny _ A (load s.heap.objs.size >>= _) _ _ _
   refine wpAny_bind (wpAny_load Hf ?_);have:acc.toList=vs:=Zj (by rw [Yp]; exact ia.1) fun i h1 h2=>by
    have h3:i < acc.size:=by simpa using h1
    have this:vs[i]? = some acc[i]:=ia.2 i acc[i] (by simp [h3]);rw [XA h2] at this;simpa using (Yi.inj this).symm
   refine wpAny_pure ?_;have q:=h h' tk dr vs ks hk sv mem len;rw [<-this] at q;exact q
theorem KA {a:Addr} {S:Str->Bool} {n:Nat} {Q:Value->Shared->Prop} (hh:A.handled=none) (hS:Dk prog w s.heap a S n) (QE:n < 64)
  (h:∀ (h':Heap) (tk:Nat) (dr:Drawn) (l:Addr) (us:List Value) (e:Nat) (ss ks:List Str),(∀ b o,s.heap.get? b=some o->h'.get? b=some o)->s.heap.get? l=none->h'.get? l=some (seqObj "list" us.toArray e)->StrsAre us ss->ss.Perm ks->sortedS ss=true ->
   (∀ k,S k=true ↔ k ∈ ks)->ks.length=n->Q (.ref l) { s with heap:=h',toks:=tk,drawn:=dr }) :
  wpAny (model prog w) A (call (.builtin "sorted") [.ref a]) Q E s:=by
 refine Calls.call_function_entry kind_sorted plain_sorted entry_sorted (args_sorted1 _) ?_;unfold Builtin.«sorted»;refine wpAny_bind (m:=checkCount "sorted" 1 1 _) (wpAny_pure ?_);refine wpAny_bind (JX (A:=A.in1) hh hS fun h' tk dr vs ks hk sv mem len=>?_);have hl:vs.length=n:=by rw [sv.length]; exact len
 refine wpAny_bind (wpAny_newList ?_ (Yo (show vs.length<=64 by lia) (by decide)));have g:(h'.push (seqObj "list" vs.toArray 0)).get? h'.objs.size=some (seqObj "list" vs.toArray 0):=XJ _ rfl;show wpAny _ _ _ _ _ { s with heap:=h'.push (seqObj "list" vs.toArray 0),toks:=tk,drawn:=dr }
 refine wpAny_bind (wpAny_holding (wpAny_call_entry slot_list_sort ⟨_,g,rfl⟩ entry_list_sort (list_sort_treeK strKind_oneLt (s:={ s with heap:=h'.push (seqObj "list" vs.toArray 0),toks:=tk,drawn:=dr }) g sv.keysOf (fun v₁ v₂ rest e=>keyKind_strs (by rw [<-e]; exact sv)) (by rw [hl]; exact QE) fun AV a1 a2=>⟨_,rfl,?_⟩) (args_list_sort _)));refine wpAny_pure ⟨_,rfl,?_⟩;obtain ⟨ss,b1,b2,b3⟩:=sorted_out_str sv a1 a2;obtain ⟨e,he⟩:=sortedHeap_at (out:=(arrOf AV).map (·.2)) g;refine h _ tk dr h'.objs.size ((arrOf AV).map (·.2)).toList e ss ks (fun b o q=>?_) ?_ (by rw [aa]; exact he) b1 b2 b3 mem len
 ·have q':=hk b o q;have lt:=XE q';rw [sortedHeap_old (XQ lt) (by rw [size_push']; exact Yl lt)];exact X9 _ q'
 ·cases z:s.heap.get? h'.objs.size with
  | none=>rfl
  | some o=>exact absurd (XE (hk _ _ z)) (Yx _)
end
def SetW (P:Program) (w:World) (a:Addr) (S:Str->Bool) (n:Nat):HO:=.ext fun h=>Dk P w h a S n
theorem IP:isSubtype (.type "tuple") (.type "set")=pure false:=by rw [isSubtype_type]; kernel_rfl
theorem Fb:isSubtype (.type "tuple") (.type "frozenset")=pure false:=by rw [isSubtype_type]; kernel_rfl
def setS (P:Program) (w:World) (a:Addr) (ss:List Str):HO:=SetW P w a (fun k=>(ss.foldl step_dedup []).any (· == k)) (ss.foldl step_dedup []).length
theorem QV {X:Cx} {pins:List (Addr × Obj)} {σ:St} {H:Hp} {s:Shared} (I:An X pins σ H s) {h':Heap} {tk:Nat} {ss:List Str} (hS:Dk X.prog X.w h' s.heap.objs.size (fun k=>(ss.foldl step_dedup []).any (· == k)) (ss.foldl step_dedup []).length)
  (kk:∀ b o,s.heap.get? b=some o->h'.get? b=some o):An X pins σ (upd H s.heap.objs.size (setS X.prog X.w s.heap.objs.size ss)) { s with heap:=h',toks:=tk }:=by
 obtain ⟨oS,e1,e2,e3,hoS,rest⟩:=id hS;refine I.laid (a:=s.heap.objs.size) (o:=setS X.prog X.w s.heap.objs.size ss) (t':=tk) kk (XD _) ⟨hS,⟨_,hoS⟩,fun h1 h2 z st=>?_⟩;exact z.kept fun o e=>st _ e
theorem EG (K:XB) {X:Cx} (hK:X.K=K) (hc:X.calm=true):Bq X (.type "set") (fun xs H Q=>∃ (a:Addr) (ss:List Str),xs=[.ref a]/\(AA K H a (ss.map V.str)\/AM K H a (ss.map V.str))/\ss.length<=1000 /\
  ∀ D,H D=none->Q (.ref D) (upd H D (setS X.prog X.w D ss))):=by
 subst hK;intro pins s σ H xs us Q I r h;obtain ⟨a,ss,rfl,ha,hl,q⟩:=h;obtain ⟨u,rfl,ru⟩:=B7 r;cases ru
 have txt:∀ Ao:List Value,Ax (ss.map V.str) Ao->∀ (i:Nat) v,Ao.toArray[i]? = some v->∃ tk,v=.str (ss.getD i (Str.ofString "")) tk:=fun Ao rv i v e=>by
  have il:Ao.length=ss.length:=by rw [<-rv.length,X8]
  have e':Ao[i]? = some v:=by simpa using e
  have hi:i < Ao.length:=(XX.mp e').1;have e3:(ss.map V.str)[i]? = some (.str ss[i]):=by rw [XU,XA (by lia)]; rfl
  obtain ⟨v',e4,r4⟩:=rv.get e3;rw [e'] at e4;cases e4
  obtain ⟨t,rfl⟩:=r4;exact ⟨t,by simp [Yd,XA (show i < ss.length by lia)]⟩
 have fin:∀ Ao:List Value,Ax (ss.map V.str) Ao->∀ (h':Heap) (tk:Nat),Dk X.prog X.w h' s.heap.objs.size (fun k'=>(met (fun i=>ss.getD i (Str.ofString "")) Ao.toArray.size).any (· == k')) (met (fun i=>ss.getD i (Str.ofString "")) Ao.toArray.size).length ->
   (∀ b o,s.heap.get? b=some o->h'.get? b=some o)->∃ v H',An X pins σ H' { s with heap:=h',toks:=tk }/\A3 v (.ref s.heap.objs.size)/\Q v H':=fun Ao rv h' tk hS kk=>by
  have es:Ao.toArray.size=ss.length:=by rw [Yf,<-rv.length,X8]
  rw [es,FN] at hS;exact ⟨.ref s.heap.objs.size,_,QV I hS kk,rfl,q _ (I.hok.fresh (XD _))⟩
 have bnd:∀ Ao:List Value,Ax (ss.map V.str) Ao->Ao.toArray.size + 1 < scanBound:=fun Ao rv=>by
  rw [Yf,<-rv.length,X8];unfold scanBound;lia
 rcases ha with ha | ha
 ·obtain ⟨Ao,rv,pl,hz⟩:=I.list ha;have il:=pl.isList;obtain ⟨o,ho,hcl,n,hdat⟩:=id il;refine Mu (items:=Ao.toArray) (val:=fun i=>ss.getD i (Str.ofString "")) (St:=fun I' i h=>h.IsListIter I' a i/\h.IsList a Ao.toArray) (I.ok.hd hc) ho hcl (by decide) F.sub_list_set F.sub_list_frozenset
   (fun B E' s1 Q' k q'=>wpAny_pyIter_list ⟨o,k _ _ ho,hcl,n,hdat⟩ q') (fun B I' hB ne=>Walks.list hB I' a ne Ao.toArray) (fun h k=>⟨⟨_,XJ _ rfl,rfl,rfl⟩,⟨o,X9 _ (k _ _ ho),hcl,n,hdat⟩⟩) (txt Ao rv) (bnd Ao rv) fun h' tk hS kk=>?_
  exact fin Ao rv h' tk hS kk
 ·obtain ⟨Ao,rv,pl,hz⟩:=I.tuple ha;obtain ⟨o,ho,hcl,n,hdat⟩:=id pl;refine Mu (items:=Ao.toArray) (val:=fun i=>ss.getD i (Str.ofString "")) (St:=fun I' i h=>h.IsTupleIter I' a i/\h.IsTuple a Ao.toArray) (I.ok.hd hc) ho hcl (by decide) IP Fb
   (fun B E' s1 Q' k q'=>wpAny_pyIter_tuple ⟨o,k _ _ ho,hcl,n,hdat⟩ q') (fun B I' hB ne=>Walks.tuple hB I' a ne Ao.toArray) (fun h k=>⟨⟨_,XJ _ rfl,rfl,rfl⟩,⟨o,X9 _ (k _ _ ho),hcl,n,hdat⟩⟩) (txt Ao rv) (bnd Ao rv) fun h' tk hS kk=>?_
  exact fin Ao rv h' tk hS kk
theorem Ea (k:Str):∀ (ss σ:List Str),k ∈ ss.foldl step_dedup σ ↔ k ∈ σ\/k ∈ ss
 | [],σ=>by simp
 | x :: xs,σ=>by
  rw [aX,Ea k xs];have:k ∈ step_dedup σ x ↔ k ∈ σ\/k=x:=by
   unfold step_dedup;split
   ·rename_i h
    rw [YT] at h;obtain ⟨y,hy,e⟩:=h;have e:=eq_of_beq e;subst e;exact ⟨.inl,fun z=>z.elim id fun e=>e ▸ hy⟩
   ·simp
  rw [this,XC];exact or_assoc
theorem CW:∀ (ss σ:List Str),σ.Nodup->(ss.foldl step_dedup σ).Nodup
 | [],σ,h=>h
 | x :: xs,σ,h=>by
  rw [aX];refine CW xs _ ?_;unfold step_dedup;split
  ·exact h
  ·rename_i hn
   refine Ze.mpr ⟨h,by simp,fun a ha b hb e=>hn ?_⟩;rw [XY] at hb;subst hb e;exact YT.mpr ⟨_,ha,by simp⟩
theorem KG:∀ {l m:List Str},l.Nodup->(∀ x ∈ l,x ∈ m)->∃ r,m.Perm (l ++ r)
 | [],m,_,_=>⟨m,.refl _⟩
 | x :: l,m,nd,h=>by
  rw [Y5] at nd;have p:=List.perm_cons_erase (h x (by simp));obtain ⟨r,pr⟩:=KG (m:=m.erase x) nd.2 fun y hy=>(aj (fun e:y=x=>nd.1 (e ▸ hy))).mpr (h y (Yg _ hy))
  exact ⟨r,p.trans (pr.cons _)⟩
theorem KI {l m:List Str} (nd:l.Nodup) (h:∀ x ∈ l,x ∈ m) (e:m.length=l.length):m.Perm l:=by
 obtain ⟨r,p⟩:=KG nd h;have:=p.length_eq;rw [XI] at this;have:r=[]:=Zu.mp (by lia);subst this;simpa using p
theorem An.drew {X:Cx} {pins:List (Addr × Obj)} {σ:St} {H:Hp} {s:Shared} (I:An X pins σ H s) (dr:Drawn):An X pins σ H { s with drawn:=dr }:=
 ⟨I.ok,I.os,I.bare,I.base,I.loc,I.cell,I.free,I.freeC,I.pin,I.hok,I.len⟩
theorem Ca {X:Cx} (hc:X.calm=true):Bq X (.builtin "sorted") (fun xs H Q=>∃ (a:Addr) (ss:List Str),xs=[.ref a]/\H a=some (setS X.prog X.w a ss)/\ss.length < 64 /\
  ∀ (l:Addr) (Ei:List Str),H l=none->Ei.Nodup->(∀ k,k ∈ Ei ↔ k ∈ ss)->sortedS Ei=true->Q (.ref l) (upd H l (.lst (Ei.map V.str)))):=by
 intro pins s σ H xs us Q I r h;obtain ⟨a,ss,rfl,ha,QE,q⟩:=h;obtain ⟨u,rfl,ru⟩:=B7 r;cases ru
 have hS:Dk X.prog X.w s.heap a (fun k=>(ss.foldl step_dedup []).any (· == k)) (ss.foldl step_dedup []).length:=(I.hok a _ ha).1;have few:(ss.foldl step_dedup []).length<=ss.length:=by rw [<-FN]; exact CA _ _
 refine KA (I.ok.hd hc) hS (by lia) fun h' tk dr l us e Ei ks k1 k2 k3 k4 k5 k6 k7 k8=>?_
 obtain ⟨m,hlm⟩:=id I.loc;obtain ⟨oL,esL,epL,hoL,rL⟩:=id hlm.1;have fl:H l=none:=by
  cases z:H l with
  | none=>rfl
  | some u=>
   obtain ⟨ob,e⟩:=A9.there (I.hok l u z);rw [k2] at e;cases e
 have mk:∀ k,k ∈ ks ↔ k ∈ ss:=fun k=>by
  rw [<-k7,YT];have:=Ea k ss [];constructor
  ·rintro ⟨x,hx,e⟩;have e:=eq_of_beq e;subst e;exact (this.mp hx).resolve_left (by simp)
  ·intro z;exact ⟨k,this.mpr (.inr z),by simp⟩
 have pm:ks.Perm (ss.foldl step_dedup []):=KI (CW ss [] Z2) (fun x hx=>(mk x).mpr (((Ea x ss []).mp hx).resolve_left (by simp))) k8;have I2:=I.laidF (h2:=h') (D:=l) (o:=.lst (Ei.map V.str)) hlm ⟨oL,esL,epL,k1 _ _ hoL,rL⟩ (fun b ob _ q=>k1 b ob q) k2 (fun z=>by rw [z,hoL] at k2; cases k2)
  ⟨by rw [X8,k5.length_eq,k8,sizeLine_eq]; lia,us,e,Km k4,k3⟩
 exact ⟨.ref l,_,(I2.kept (t':=tk) fun b u q=>q).drew dr,rfl,q l Ei fl (k5.nodup_iff.mpr (pm.nodup_iff.mpr (CW ss [] Z2))) (fun k=>k5.mem_iff.trans (mk k)) k6⟩
end L2
namespace L2
open PySem PySem.W PyProof.Rows
section
variable {prog:Program} {w:World} {A:Around} {E:Value->Shared->Prop} {s:Shared} {κ:SortKind} {lt:Keyed->Keyed->Bool} {a0:Array Keyed}
theorem K2 {ρ:Type} {body:Nat->Option ρ × Nat × Nat->StateT SortSt Sem (ForInStep (Option ρ × Nat × Nat))} {n lo hi:Nat} {st:SortSt}
  (hs:∀ x l (R:ForInStep (Option ρ × Nat × Nat)->SortSt->Prop),R (.done (none,l,l)) st->wpS (model prog w) A E s (body x (none,l,l)) R st)
  (hg:∀ x l r (R:ForInStep (Option ρ × Nat × Nat)->SortSt->Prop),l < r->r<=n ->
   (R (.yield (none,l + (r - l) / 2 + 1,r)) st)->(R (.yield (none,l,l + (r - l) / 2)) st)->wpS (model prog w) A E s (body x (none,l,r)) R st)
  (hl:lo<=hi) (hn:hi<=n) :
  wpS (model prog w) A E s (forIn [0:n] (none,lo,hi) body) (fun c AV=>AV=st/\∃ r,c=(none,r,r)/\r<=n) st:=by
 refine wpS_forRange (I:=fun x c AV=>AV=st/\∃ l r,c=(none,l,r)/\l<=r/\r<=n/\r - l<=n - x) ?_ ?_ ⟨rfl,lo,hi,rfl,hl,hn,by lia⟩
 ·rintro x c AV _ hx ⟨rfl,l,r,rfl,q1,q2,q3⟩;by_cases hlr:l < r
  ·exact hg _ _ _ _ hlr q2 ⟨rfl,_,r,rfl,by lia,by lia,by lia⟩ ⟨rfl,l,_,rfl,by lia,by lia,by lia⟩
  ·have:l=r:=by lia
   subst this;exact hs _ _ _ ⟨rfl,l,rfl,q2⟩
 ·rintro c AV ⟨rfl,l,r,rfl,q1,q2,q3⟩;have:l=r:=by lia
  subst this;exact ⟨rfl,l,rfl,q2⟩
theorem IL {lo nrem:Nat} {Q:Option Nat->SortSt->Prop} {st:SortSt} (an:Uh prog w A s κ lt a0) (hk:kindOf st=κ) (hp:(arrOf st).Perm a0) (hn:lo + nrem<=a0.size) (h1:1<=nrem)
  (h:∀ m ys,Kp (arrOf st) ys lo->1<=m->m<=nrem->Q (some m) (setArr st ys)):wpS (model prog w) A E s (countRun' lo nrem) Q st:=by
 have hz:=hp.size_eq;refine wpS_bind (wpS_mono (Ml (f:=fun n=>lt (EW (arrOf st) (lo + n)) (EW (arrOf st) (lo + n - 1))) h1 ?_) ?_)
 ·intro x n R n1 n2 y1 y2;dsimp only;refine wpS_bind (CZ an hk hp (by lia) (by lia) ?_);dsimp only;cases e:lt (EW (arrOf st) (lo + n)) (EW (arrOf st) (lo + n - 1))
  ·exact wpS_pure (y2 e)
  ·exact wpS_pure (y1 e)
 rintro c AV ⟨rfl,n,rfl,n1,n2,q,hor⟩;dsimp only;by_cases hnn:n=nrem
 ·rw [if_pos (by simpa using hnn)];exact wpS_pure (h n _ (Kp.refl _ _) n1 n2)
 rw [if_neg (by simpa using hnn)];by_cases hgt:n > 1
 case' pos=>
  rw [if_pos hgt];refine wpS_bind (CZ an hk hp (by lia) (by lia) ?_);dsimp only;cases hrose:lt (EW (arrOf AV) lo) (EW (arrOf AV) (lo + n - 1))
  case' true=>
   simp only [if_true];exact wpS_pure (h n _ (Kp.refl _ _) n1 n2)
  case' false=>
   simp only [Yu,if_false];refine wpS_bind (F6 ?_);have kp:Kp (arrOf AV) (mirror (arrOf AV) lo (lo + n) ((lo + n - lo) / 2)) lo:=(Kp.refl _ _).mirror (by lia) (XD _);obtain ⟨ys,ey⟩:∃ ys,ys=mirror (arrOf AV) lo (lo + n) ((lo + n - lo) / 2):=⟨_,rfl⟩
   rw [<-ey] at kp;show wpS (model prog w) A E s _ Q (setArr AV (mirror (arrOf AV) lo (lo + n) ((lo + n - lo) / 2)))
   rw [<-ey]
 case' neg=>
  rw [if_neg hgt];obtain ⟨ys,ey⟩:∃ ys,ys=arrOf AV:=⟨_,rfl⟩
  have kp:Kp (arrOf AV) ys lo:=by rw [ey]; exact Kp.refl _ _
  show wpS (model prog w) A E s _ Q (setArr AV (arrOf AV))
  rw [<-ey]
 all_goals
  refine wpS_bind (wpS_lift (wpAny_rule ⟨rfl,?_⟩));refine wpS_bind (wpS_mono (wpS_forRange (I:=fun x c GX=>∃ neq ys,c=(none,x,neq)/\GX=setArr AV ys/\Kp (arrOf AV) ys lo/\neq + 1<=x)
   (Q:=fun c GX=>∃ m neq ys,c=(none,m,neq)/\GX=setArr AV ys/\Kp (arrOf AV) ys lo/\n + 1<=m/\m<=nrem/\neq + 1<=m) ?dstep ?dfin ?dinit) ?dpost)
  case dinit=>exact ⟨0,ys,rfl,rfl,kp,by lia⟩
  case dfin=>
   rintro c GX ⟨neq,ys,rfl,rfl,kp,a1⟩;have e:max (n + 1) nrem=nrem:=by lia
   rw [e] at a1 ⊢;exact ⟨nrem,neq,ys,rfl,rfl,kp,by lia,XD _,a1⟩
  case dstep=>
   rintro x c GX x1 x2 ⟨neq,ys,rfl,rfl,kp,a1⟩;dsimp only;have hzy:=kp.size;have hpy:(arrOf (setArr AV ys)).Perm a0:=kp.1.trans hp;refine wpS_bind (CZ (st:=setArr AV ys) an hk hpy (by lia) (by lia) ?_);dsimp only;cases hless:lt (EW ys (lo + x)) (EW ys (lo + x - 1))
   ·simp only [Yu,if_false];refine wpS_bind (CZ (st:=setArr AV ys) an hk hpy (by lia) (by lia) ?_);dsimp only;cases hlarger:lt (EW ys (lo + x - 1)) (EW ys (lo + x))
    ·simp only [Yu,if_false];exact wpS_pure ⟨neq + 1,ys,rfl,rfl,kp,by lia⟩
    ·simp only [if_true];exact wpS_pure ⟨x,neq,ys,rfl,rfl,kp,x1,by lia,a1⟩
   ·simp only [if_true];by_cases hq:neq > 0
    ·rw [if_pos hq];exact wpS_bind (F6 (wpS_pure ⟨0,_,rfl,rfl,kp.mirror (by lia) (by lia),by lia⟩))
    ·rw [if_neg hq];exact wpS_pure ⟨0,ys,rfl,rfl,kp,by lia⟩
  case dpost=>
   rintro c GX ⟨m,neq,zs,rfl,rfl,kz,m1,m2,a1⟩;dsimp only;have hzz:=kz.size;have last:∀ us,Kp (arrOf AV) us lo->∀ (vs:Array Keyed),Kp (arrOf AV) vs lo->∀ n',m<=n'->n'<=nrem->Q (some n') (setArr AV vs):=fun us ku vs kv n' b1 b2=>h n' vs kv (by lia) b2
   by_cases hq:neq > 0
   case' pos=>
    rw [if_pos hq];refine wpS_bind (F6 ?_);have UZ:Kp (arrOf AV) (mirror zs (lo + m - (neq + 1)) (lo + m) ((lo + m - (lo + m - (neq + 1))) / 2)) lo:=kz.mirror (by lia) (by lia);obtain ⟨us,eu⟩:∃ us,us=mirror zs (lo + m - (neq + 1)) (lo + m) ((lo + m - (lo + m - (neq + 1))) / 2):=⟨_,rfl⟩
    rw [<-eu] at UZ;show wpS (model prog w) A E s _ Q (setArr AV (mirror zs (lo + m - (neq + 1)) (lo + m) ((lo + m - (lo + m - (neq + 1))) / 2)))
    rw [<-eu]
   case' neg=>
    rw [if_neg hq];obtain ⟨us,eu⟩:∃ us,us=zs:=⟨_,rfl⟩
    have UZ:Kp (arrOf AV) us lo:=by rw [eu]; exact kz
    rw [<-eu]
   all_goals
    have hzu:=UZ.size;refine wpS_bind (F6 ?_);show wpS (model prog w) A E s _ Q (setArr AV (mirror us lo (lo + m) ((lo + m - lo) / 2)))
    have kv:Kp (arrOf AV) (mirror us lo (lo + m) ((lo + m - lo) / 2)) lo:=UZ.mirror (by lia) (XD _);obtain ⟨vs,ev⟩:∃ vs,vs=mirror us lo (lo + m) ((lo + m - lo) / 2):=⟨_,rfl⟩
    rw [<-ev] at kv;rw [<-ev];have hzv:=kv.size;refine wpS_bind (wpS_mono (Ml (f:=fun n=>lt (EW vs (lo + n)) (EW vs (lo + n - 1))) m2 ?_) ?_)
    ·intro x n R n1 n2 y1 y2;dsimp only;refine wpS_bind (CZ (st:=setArr AV vs) an hk (kv.1.trans hp) (by lia) (by lia) ?_);dsimp only;cases e:lt (EW vs (lo + n)) (EW vs (lo + n - 1))
     ·exact wpS_pure (y2 e)
     ·exact wpS_pure (y1 e)
    rintro c Ww ⟨rfl,n',rfl,b1,b2,b3,_⟩;exact wpS_pure (last us UZ vs kv n' b1 b2)
theorem GV {lo n ok:Nat} {Q:Bool->SortSt->Prop} {st:SortSt} (an:Uh prog w A s κ lt a0) (hk:kindOf st=κ) (hp:(arrOf st).Perm a0) (hn:lo + n<=a0.size) (h1:1<=ok) (hok:ok<=n)
  (h:∀ ys,Kp (arrOf st) ys lo->Q true (setArr st ys)):wpS (model prog w) A E s (binarySort' lo n ok) Q st:=by
 have hz:=hp.size_eq;refine wpS_bind (wpS_mono (wpS_forRange (I:=fun k c AV=>c=(none,())/\∃ ys,AV=setArr st ys/\Kp (arrOf st) ys lo)
  (Q:=fun c AV=>c=(none,())/\∃ ys,AV=setArr st ys/\Kp (arrOf st) ys lo) ?step ?fin ?init) ?post)
 case init=>exact ⟨rfl,arrOf st,rfl,Kp.refl _ _⟩
 case fin=>
  rintro c AV ⟨rfl,ys,rfl,kp⟩;exact ⟨rfl,ys,rfl,kp⟩
 case post=>
  rintro c AV ⟨rfl,ys,rfl,kp⟩;exact wpS_pure (h ys kp)
 case step=>
  rintro k c AV k1 k2 ⟨rfl,ys,rfl,kp⟩;dsimp only;have hzy:=kp.size;have hpy:(arrOf (setArr st ys)).Perm a0:=kp.1.trans hp;refine wpS_bind (wpS_mono (K2 (n:=k) ?_ ?_ (Yr _) (XD _)) ?_)
  ·intro x l R hR;dsimp only;rw [if_pos (XD _)];exact wpS_pure hR
  ·intro x l r R hlr hrk y1 y2;dsimp only;rw [if_neg (by lia),show (l + r) / 2=l + (r - l) / 2 by lia];refine wpS_bind (CZ (st:=setArr st ys) an hk hpy (by lia) (by lia) ?_);dsimp only;cases e:lt (EW ys (lo + k)) (EW ys (lo + (l + (r - l) / 2)))
   ·exact wpS_pure y1
   ·exact wpS_pure y2
  ·rintro c Eh ⟨rfl,r,rfl,r1⟩;refine wpS_bind ?_;rw [show (sortPriv% PySem.Builtin.moveDown)=moveDown' from rfl,moveDown'_eq];exact wpS_modify (wpS_pure ⟨rfl,bubble ys (lo + k) (lo + k - (lo + r)),rfl,kp.bubble (by lia) (by lia)⟩)
end
end L2
namespace L2
open PySem PySem.Spec PyProof.Rows
def Hk (h:Heap) (d:Addr) (es:Array DictEntry) (ep:Nat):Prop:=∃ o,h.get? d=some o/\o.ExactDict/\o.data=.dict es ep
theorem Hk.typeIs {s:Shared} {d:Addr} {es:Array DictEntry} {ep:Nat} (x:Hk s.heap d es ep):s.TypeIs (.ref d) "dict":=let ⟨o,h1,h2,_⟩:=x; ⟨o,h1,h2.1⟩
theorem Hk.at' {h h':Heap} {d:Addr} {es:Array DictEntry} {ep:Nat} (x:Hk h d es ep) (e:∀ o,h.get? d=some o->h'.get? d=some o):Hk h' d es ep:=let ⟨o,h1,r⟩:=x; ⟨o,e _ h1,r⟩
theorem Hk.lt {h:Heap} {d:Addr} {es:Array DictEntry} {ep:Nat} (x:Hk h d es ep):d < h.objs.size:=let ⟨_,h1,_⟩:=x; XE h1
section
variable {prog:Program} {w:World} {A:Around} {E:Value->Shared->Prop} {s:Shared}
theorem Pm {d:Addr} {es:Array DictEntry} {ep:Nat} {Q:Value->Shared->Prop} (hd:(d == sysModules)=false) (hm:Hk s.heap d es ep)
  (hQ:Q (.ref s.heap.objs.size) { s with heap:=s.heap.push { cls:=.type "dict_keyiterator",data:=.fields #[.ref d,.int 0 0,.int es.size 0,.int ep 0] } }) :
  wpAny (model prog w) A (pyIter (.ref d)) Q E s:=by
 obtain ⟨o,ho,hc,hdat⟩:=id hm;have hT:s.TypeIs (.ref d) "dict":=hm.typeIs;refine wpAny_pyIter_slot hT F.slot_dict_iter (wpAny_call_entry F.slot_dict_iter hT F.entry_dict_iter ?_ (F.args_dict_iter_1 _));unfold Builtin.«dict.__iter__»;refine wpAny_bind ?_;unfold Builtin.Dict.dictSlotNone;refine wpAny_bind (wpAny_notOrdered_dict hT ?_);show wpAny _ _ (pure (Value.ref d)) _ _ s
 refine wpAny_pure ?_;show wpAny _ _ (Builtin.Dict.showsAll d >>= _) _ _ s
 unfold Builtin.Dict.showsAll;rw [if_neg (by rw [hd]; exact Yc)];refine wpAny_bind (wpAny_pure ?_);refine wpAny_bind (wpAny_dictEntries ho hdat ?_);refine wpAny_bind (wpAny_dictEpoch ho hdat ?_);have hsz:es.size=es.size:=rfl;refine wpAny_bind (wpAny_newObj_type (wpAny_pure ⟨_,rfl,"dict_keyiterator",_,⟨_,XJ _ rfl,rfl⟩,F.slot_dict_keyiterator_next.lookup,?_⟩));simpa [rawInt] using hQ
theorem Pn {it d:Addr} {i ep:Nat} {es:Array DictEntry} {key:Value} {Q:Option Value->Shared->Prop} (hit:s.heap.IsKeyIter it d i es.size ep)
  (hm:Hk s.heap d es ep) (hx:es[i]?.map (·.key)=some key)
  (hQ:∀ h',h'.IsKeyIter it d (i + 1) es.size ep->Heap.SameBut it s.heap h'->Q (some key) { s with heap:=h' }) :
  wpAny (model prog w) A (pyNext (.ref it)) Q E s:=by
 obtain ⟨o,ho,hc,hd⟩:=id hit;obtain ⟨od,hod,hcd,hdd⟩:=id hm;unfold pyNext;refine wpAny_bind (wpAny_attempt (wpAny_callSpecial?_slot (name:=Str.ofString "__next__") hit.typeIs F.slot_dict_keyiterator_next
  (wpAny_call_entry F.slot_dict_keyiterator_next hit.typeIs F.entry_dict_keyiterator_next ?_ (F.args_dict_keyiterator_next_1 _))))
 refine wpAny_bind (wpAny_pure ?_);refine wpAny_bind ?_;refine wpAny_bind ?_;first | refine wpAny_bind (wpAny_typeNameOfWhole_keyiter hit.typeIs (wpAny_pure ?_)) | refine wpAny_bind (wpAny_typeNameOf_keyiter hit.typeIs (wpAny_pure ?_))
 refine wpAny_bind (wpAny_fieldsOf ho hd ?_);have hown:Builtin.Dict_items.ownsTuple "dict_keyiterator"=false:=by decide
 simp only [hown,Yu,if_false];show wpAny _ _ (if (Value.ref d == Value.none)=true then _ else _) _ _ s
 rw [if_neg (show ¬ ((Value.ref d == Value.none)=true) from Yc)];refine wpAny_bind (wpAny_pure ?_);refine wpAny_bind (wpAny_dictEntries hod hdd ?_);have hsz:es.size=es.size:=rfl;rw [if_neg (by rw [hsz]; simp)];refine wpAny_bind (wpAny_pure ?_);refine wpAny_bind (wpAny_dictEpoch hod hdd ?_);rw [if_neg (by simp)];refine wpAny_pure ?_;have Vl:i < es.size:=by
  rcases ZZ i es.size with h | h
  ·exact h
  ·rw [ZQ h] at hx; cases hx
 have hkey:es[i].key=key:=by rw [YU Vl] at hx; exact Yi.inj hx
 simp only [show ¬ ((i:Int) < 0) from by lia,if_false,aU,YU Vl];refine wpAny_bind ?_;first | refine wpAny_bind (wpAny_typeNameOfWhole_keyiter hit.typeIs (wpAny_pure ?_)) | refine wpAny_bind (wpAny_typeNameOf_keyiter hit.typeIs (wpAny_pure ?_))
 refine wpAny_bind (wpAny_isOneOf_keyiter hit.typeIs ?_);show wpAny _ _ (setField (.ref it) 1 (rawInt ((i:Int) + 1)) >>= _) _ _ s
 refine wpAny_bind (wpAny_setField ho hd (by simp) ?_);have R6:(s.heap.update it (Obj.mapFields (·.setIfInBounds 1 (rawInt ((i:Int) + 1))))).IsKeyIter it d (i + 1) es.size ep:=
  ⟨_,Y3 _ ho (Obj.isFreed_of_fields (Obj.data_mapFields hd _)),(Obj.cls_mapFields ..).trans hc,by rw [Obj.data_mapFields hd]; simp [rawInt]⟩
 refine wpAny_bind (wpAny_holding ?_);refine wpAny_bind (wpAny_isOneOf_keyiter (s:={ s with heap:=s.heap.update it (Obj.mapFields (·.setIfInBounds 1 (rawInt ((i:Int) + 1)))) }) R6.typeIs ?_);show wpAny _ _ (pure es[i].key) _ _ _
 exact wpAny_pure (wpAny_pure ⟨_,rfl,wpAny_pure (hkey ▸ hQ _ R6 (Heap.SameBut.update ..))⟩)
theorem QZ {it d:Addr} {i ep:Nat} {es:Array DictEntry} {Q:Option Value->Shared->Prop} (hh:A.handled=none) (hit:s.heap.IsKeyIter it d i es.size ep)
  (hm:Hk s.heap d es ep) (hx:es.size<=i)
  (hQ:∀ h',Heap.ExtBut it s.heap h'->Q none { s with heap:=h' }):wpAny (model prog w) A (pyNext (.ref it)) Q E s:=by
 obtain ⟨o,ho,hc,hd⟩:=id hit;obtain ⟨od,hod,hcd,hdd⟩:=id hm;unfold pyNext;refine wpAny_bind (wpAny_attempt (wpAny_callSpecial?_slot (name:=Str.ofString "__next__") hit.typeIs F.slot_dict_keyiterator_next
  (wpAny_call_entry F.slot_dict_keyiterator_next hit.typeIs F.entry_dict_keyiterator_next ?_ (F.args_dict_keyiterator_next_1 _))))
 refine wpAny_bind (wpAny_pure ?_);refine wpAny_bind ?_;refine wpAny_bind ?_;first | refine wpAny_bind (wpAny_typeNameOfWhole_keyiter hit.typeIs (wpAny_pure ?_)) | refine wpAny_bind (wpAny_typeNameOf_keyiter hit.typeIs (wpAny_pure ?_))
 refine wpAny_bind (wpAny_fieldsOf ho hd ?_);have hown:Builtin.Dict_items.ownsTuple "dict_keyiterator"=false:=by decide
 simp only [hown,Yu,if_false];show wpAny _ _ (if (Value.ref d == Value.none)=true then _ else _) _ _ s
 rw [if_neg (show ¬ ((Value.ref d == Value.none)=true) from Yc)];refine wpAny_bind (wpAny_pure ?_);refine wpAny_bind (wpAny_dictEntries hod hdd ?_);have hsz:es.size=es.size:=rfl;rw [if_neg (by rw [hsz]; simp)];refine wpAny_bind (wpAny_pure ?_);refine wpAny_bind (wpAny_dictEpoch hod hdd ?_);rw [if_neg (by simp)];refine wpAny_pure ?_;have hge:es.size<=i:=hx;simp only [show ¬ ((i:Int) < 0) from by lia,if_false,aU,ZQ hge];refine wpAny_bind ?_;first | refine wpAny_bind (wpAny_typeNameOfWhole_keyiter hit.typeIs (wpAny_pure ?_)) | refine wpAny_bind (wpAny_typeNameOf_keyiter hit.typeIs (wpAny_pure ?_))
 show wpAny _ _ (setField (.ref it) 0 .none >>= _) _ _ s
 refine wpAny_bind (wpAny_setField ho hd (by simp) ?_);show wpAny _ _ (newExc (.type "StopIteration") [] >>= _) _ _ _
 refine wpAny_bind ?_;simp only [newExc,newTuple];refine wpAny_bind (wpAny_newObj_type ?_ (by size_fits));refine wpAny_bind (m:=firstArgMember _ _) (wpAny_of_eq (a:=Value.none) (by first | rfl | (simp only [firstArgMember]; rfl)) ?_);refine wpAny_newObj_type ?_ (by size_fits);simp only [raiseNew];refine wpAny_bind (wpAny_handled ?_);rw [show A.in1.handled=none from hh];refine wpAny_bind (wpAny_pure (wpAny_throw ?_));refine wpAny_bind (wpAny_isInstance (T:="StopIteration") (b:=true) ⟨_,XJ _ rfl,rfl⟩ isSubtype_stop ?_);exact wpAny_pure (hQ _ (((Heap.SameBut.update ..).extBut.push _).push _))
theorem Nz (hh:A.handled=none) (I d:Addr) (hne:d ≠ I) (es:Array DictEntry) (ep:Nat) :
  Walks prog w A I [I,d] [I] es.size (fun i v=>es[i]?.map (·.key)=some v) (fun i h=>h.IsKeyIter I d i es.size ep/\Hk h d es ep) where
 sub:=fun b hb=>by simp at hb; simp [hb]
 frame:=fun _ _ _ st hk=>⟨st.1.at fun o e=>hk I (by simp) o e,st.2.at' fun o e=>hk d (by simp) o e⟩
 item:=fun i s Q E hi st hQ=>by
  have hx:es[i]?.map (·.key)=some es[i].key:=by rw [YU hi]; rfl
  refine Pn st.1 st.2 hx fun h' R6 Lu=>?_
  exact hQ _ h' s.toks hx ⟨R6,st.2.at' fun o e=>Lu.extBut d o hne e⟩ fun b o hb e=>Lu.extBut b o (fun h=>hb (by simp [h])) e
 done:=fun s Q E st hQ=>QZ hh st.1 st.2 (XD _) fun h' he'=>hQ h' s.toks fun b o hb e=>he' b o (fun h=>hb (by simp [h])) e
 self:=fun _ _ _ _ st hQ=>wpAny_pyIter_keyiter st.1 hQ
theorem QY {d:Addr} {es:Array DictEntry} {ep:Nat} (lo:(d == sysModules)=false):PySem.W.KdlSrc prog w "dict" d d es.size (fun i v=>es[i]?.map (·.key)=some v) (fun h=>Hk h d es ep) where
 type:=fun _ hm=>hm.typeIs
 there:=fun _ hm=>⟨hm.lt,hm.lt⟩
 keep:=fun _ _ hm hk=>hm.at' fun o e=>hk d (.inl rfl) o e
 notList:=by decide
 notTuple:=by decide
 hint:=fun _ _ _ _ hm hq=>PySem.W.kdl_hint_dict hm.typeIs hq
 iter:=fun _ _ hh hm=>⟨_,_,(fun _ _ hq=>Pm lo hm hq),Nz hh _ d (XQ hm.lt) es ep,⟨⟨_,XJ _ rfl,rfl,rfl⟩,hm.at' fun o e=>X9 _ e⟩⟩
end
structure Fn (K:XB) (mg:Str->Option Value) (nm:Str) (st:Stmt) (ps:List Str) (f:Addr) (fd:FuncData):Prop where
 F:Fz K nm nm st f fd
 mg:mg nm=some (.ref f)
 b:GU K fd ps []
theorem K3 {κ:Type} [DecidableEq κ] {kvs:List (κ × V)} {k:κ} {v:V} (h:(k,v) ∈ kvs):∃ v',Bi kvs k=some v'/\(k,v') ∈ kvs:=by
 induction kvs with
 | nil=>exact nomatch h
 | cons p r ih=>
  by_cases e:p.1=k
  ·exact ⟨p.2,B8 e,by rw [<-e]; exact Yh⟩
  ·rcases XC.mp h with z | z
   ·exact absurd (by rw [<-z]) e
   ·obtain ⟨v',a,b⟩:=ih z;exact ⟨v',by rw [Bw e]; exact a,Yg _ b⟩
structure MU (H:Hp) (m:Addr) (n:Nat) (xs:List Str) (ws:List AG):Prop where
 ex:∃ t1 t2:Addr,∃ vs:List V,H m=some (.tup [.ref t1,.ref t2])/\H t1=some (.tup (xs.map V.str))/\H t2=some (.tup vs)/\BM H vs (ws.map MX)
 len:xs.length=n
 nd:xs.Nodup
 nm:∀ x ∈ xs,Bb x=true
 wl:ws.length<=100
 wn:∀ u ∈ ws,Bb u.1=true/\Bb u.2.1=true/\1<=u.2.2/\u.2.2 < 10 ^ 30
def iSeq (K:XB) (tl:TE):TI:=fun σ H R=>tl σ H fun x H1=>∃ a,x=.ref a/\(((∃ xs,AA K H1 a xs)/\R (Ub K a) H1)\/((∃ xs,AM K H1 a xs)/\R (Oy K a) H1))
theorem SR {X:Cx} {tg l:Expr} {tl:TE} (hl:PE X l tl):PI X tg l (iSeq X.K tl):=by
 intro pins s σ H R I h;refine Bx (hl (pins:=pins) s σ H _ I h) fun v s1 ⟨x,H1,I1,r1,q1⟩=>?_
 obtain ⟨a,e,q1⟩:=q1;subst e;cases r1
 have fp:∀ b ∈ [s1.heap.objs.size],Dl X pins H1 b:=fun b hb=>by
  have e:b=s1.heap.objs.size:=by simpa using hb
  subst e;exact I1.fpOk (XD _) (I1.hok.fresh (XD _))
 rcases q1 with ⟨⟨xs,hq⟩,q⟩ | ⟨⟨xs,hq⟩,q⟩
 ·obtain ⟨Ao,rv,p,hz⟩:=I1.list hq;refine wpAny_pyIter_list p.isList ?_;exact ⟨s1.heap.objs.size,[s1.heap.objs.size],_,_,H1,rfl,I1.kept (t':=s1.toks) fun b o e=>X9 _ e,Jm a _,⟨_,XJ _ rfl,rfl,rfl⟩,fp,q⟩
 ·obtain ⟨Ao,rv,p,hz⟩:=I1.tuple hq;refine wpAny_pyIter_tuple (show s1.heap.IsTuple a Ao.toArray from p) ?_;exact ⟨s1.heap.objs.size,[s1.heap.objs.size],_,_,H1,rfl,I1.kept (t':=s1.toks) fun b o e=>X9 _ e,Hw a _,⟨_,XJ _ rfl,rfl,rfl⟩,fp,q⟩
structure Ox (J:It) (xs:List V) (S:Hp->Prop):Prop where
 go:∀ i H,S H->i < xs.length->J.go i H
 yld:∀ i H x H',S H->J.yld i H x H'->H'=H/\xs[i]? = some x
 stop:∀ H,S H->J.stop xs.length H
theorem Bk {K:XB} {a:Addr} {xs:List V}:Ox (Ub K a) xs (fun H=>AA K H a xs):=
 ⟨fun i H q B0=>⟨xs,xs[i],q,by simp [B0]⟩,fun i H x H' q y=>⟨y.1,y.2 xs q⟩,fun H q=>⟨xs,q,XD _⟩⟩
theorem DC {K:XB} {a:Addr} {xs:List V}:Ox (Oy K a) xs (fun H=>AM K H a xs):=
 ⟨fun i H q B0=>⟨xs,xs[i],q,by simp [B0]⟩,fun i H x H' q y=>⟨y.1,y.2 xs q⟩,fun H q=>⟨xs,q,XD _⟩⟩
theorem CF {J:It} {xs:List V} {S:Hp->Prop} {g:TG} {te:TE} {H:Hp} {σ0:St} {R:Addr->Hp->Prop} (ov:Ox J xs S) (I:Addr->Nat->St->Hp->List V->Prop) (big:xs.length < sizeLine)
  (h0:∀ D,H D=none->I D 0 σ0 (upd H D (.lst [])) [])
  (hs:∀ D i σ H' acc,H D=none->I D i σ H' acc->S H'/\H' D=some (.lst acc)/\acc.length=i)
  (turn:∀ D i σ H' acc x (B:St->V->Hp->Prop),H D=none->xs[i]? = some x->I D i σ H' acc->(∀ A6 v H5,H5 D=some (.lst acc)->I D (i + 1) A6 (upd H5 D (.lst (acc ++ [v]))) (acc ++ [v])->B A6 v H5)->g x σ H' fun A6 H3=>te A6 H3 (B A6))
  (fin:∀ D σ H' acc,H D=none->I D xs.length σ H' acc->R D H') :
  ∀ D,H D=none->∃ W:Nat->Nat->St->Hp->Prop,(∃ m,W 0 m σ0 (upd H D (.lst []))) /\
   ∀ i m Ar H',W i m Ar H'->(J.stop i H'/\R D H')\/(J.go i H'/\∀ x H2,J.yld i H' x H2->g x Ar H2 fun A6 H3=>JU A6 H3 fun b H4=>
    if b=true then te A6 H4 (fun v H5=>∃ acc,H5 D=some (.lst acc)/\acc.length < sizeLine/\∃ m',m' < m/\W (i + 1) m' A6 (upd H5 D (.lst (acc ++ [v])))) else ∃ m',m' < m/\W (i + 1) m' A6 H4):=by
 intro D hD;refine ⟨fun i m σ H'=>m=xs.length - i/\i<=xs.length/\∃ acc,I D i σ H' acc,⟨xs.length,rfl,Yr _,[],h0 D hD⟩,?_⟩;rintro i m σ H' ⟨rfl,hi,acc,p⟩;obtain ⟨s1,s2,s3⟩:=hs D i σ H' acc hD p;by_cases B0:i < xs.length
 ·refine .inr ⟨ov.go i H' s1 B0,fun x H2 y=>?_⟩;obtain ⟨rfl,ex⟩:=ov.yld i H' x H2 s1 y;have e:∀ (F:St->V->Hp->Prop) (G:St->Hp->Prop),(fun (A6:St) (H3:Hp)=>JU A6 H3 fun b H4=>if b=true then te A6 H4 (F A6) else G A6 H4)=fun A6 H3=>te A6 H3 (F A6):=by
   intro F G;funext A6 H3;show (if true=true then te A6 H3 (F A6) else G A6 H3)=_
   rw [if_pos rfl]
  rw [e (fun A6 v H5=>∃ acc,H5 D=some (.lst acc)/\acc.length < sizeLine/\∃ m',m' < xs.length - i/\(m'=xs.length - (i + 1)/\i + 1<=xs.length/\∃ IB,I D (i + 1) A6 (upd H5 D (.lst (acc ++ [v]))) IB)) (fun A6 H4=>∃ m',m' < xs.length - i/\(m'=xs.length - (i + 1)/\i + 1<=xs.length/\∃ IB,I D (i + 1) A6 H4 IB))];refine turn D i σ H2 acc x _ hD ex p fun A6 v H5 d5 p5=>?_
  exact ⟨acc,d5,by lia,xs.length - (i + 1),by lia,rfl,B0,_,p5⟩
 ·have e:i=xs.length:=by lia
  subst e;exact .inl ⟨ov.stop H' s1,fin D σ H' acc hD p⟩
structure Ky (d:PyData) (k b:Nat):Prop where
 lay:d.canLay0=true
 sho:d.showable=true
 nod:d.hasDict=false
 lv:d.leavesShort 200=true
 dp:d.depth<=k
 bu:d.bulk<=b
theorem Ky.none:Ky .none 0 0:=⟨rfl,rfl,rfl,rfl,XD _,XD _⟩
theorem Ky.int {i:Int} (h1:0<=i) (h2:i < 10 ^ 30):Ky (.int i) 0 0:=by
 have l:i.natAbs.log2 < 120:=by
  by_cases z:i.natAbs=0
  ·rw [z]; decide
  ·refine (Nat.log2_lt z).mpr (XH (m:=10 ^ 30) (by lia) (by decide))
 have e:PyData.leavesShort 200 (.int i)=decide ((PyData.shown (.int i)).length<=200):=by simp only [PyData.leavesShort]
 refine ⟨rfl,?_,rfl,?_,XD _,XD _⟩
 ·simp only [PyData.showable];exact decide_eq_true (by lia)
 ·rw [e];apply decide_eq_true;have q:=int_text_length_le (a:=i) (k:=120) (by decide) l;have e2:PyData.shown (.int i)=Str.ofString (toString i):=by simp only [PyData.shown]
  rw [e2,PySem.ofString_length];lia
abbrev Fx:=Str × Int
def HE (u:Fx):PyData:=.tuple [.str u.1,.int u.2]
structure ID (xs:List Str) (lo:Int) (rs:List Fx):Prop where
 sub:∀ r ∈ rs,r.1 ∈ xs
 nd:(rs.map (·.1)).Nodup
 lo:∀ r ∈ rs,lo<=r.2/\r.2 < 10 ^ 30
 one:1<=rs.length
theorem Pk {H:Hp} {v:V} {u:Fx} (h:GQ H v (HE u)):∃ t,v=.ref t/\H t=some (.tup [.str u.1,.int u.2]):=by
 unfold HE at h;cases h with
 | tup ha hd=>
  cases hd with
  | cons h1 r1=>
   cases r1 with
   | cons h2 r2=>
    cases r2
    cases h1
    cases h2
    exact ⟨_,rfl,ha⟩
theorem Mx {H:Hp} {t:Addr} {u:Fx} (h:H t=some (.tup [.str u.1,.int u.2])):GQ H (.ref t) (HE u):=.tup h (.cons (.str _) (.cons (.int _) .nil))
theorem Cj {H2 H3:Hp} {vs:List V} {rs:List Fx} (h:BM H2 vs (rs.map HE)) (ht:∀ b xs,H2 b=some (.tup xs)->H3 b=some (.tup xs)):BM H3 vs (rs.map HE):=by
 induction rs generalizing vs with
 | nil=>cases h; exact .nil
 | cons u rs ih=>
  cases h with
  | cons h1 r=>
   obtain ⟨t,rfl,e⟩:=Pk h1;exact .cons (Mx (ht _ _ e)) (ih r)
theorem BX {H:Hp}:∀ {vs:List V} {rs:List Fx} {i:Nat} {x:V},BM H vs (rs.map HE)->vs[i]? = some x->∃ u t,rs[i]? = some u/\x=.ref t/\H t=some (.tup [.str u.1,.int u.2])
 | _,[],i,x,.nil,e=>by simp at e
 | _,u :: rs,0,x,.cons h r,e=>by
  simp only [YF,Yi.injEq] at e;subst e;obtain ⟨t,rfl,q⟩:=Pk h;exact ⟨u,t,rfl,rfl,q⟩
 | _,u :: rs,i + 1,x,.cons h r,e=>by
  obtain ⟨u',t,a,b,c⟩:=BX r (by simpa using e);exact ⟨u',t,by simpa using a,b,c⟩
theorem Ci {H:Hp}:∀ {vs:List V} {rs:List Fx},BM H vs (rs.map HE)->vs.length=rs.length
 | _,[],.nil=>rfl
 | _,u :: rs,.cons h r=>by rw [Yv,Yv,Ci r]
def Lim (x:V) (d:PyData):Prop:=(x=.non/\d=.none)\/∃ i:Int,x=.int i/\d=.int i/\1<=i/\i < 10 ^ 30
theorem Li (ss:List Str) (h:ss.Nodup):ss.foldl step_dedup []=ss:=by
 rw [<-FN,J9]
 ·refine Zj (by simp) fun i h1 h2=>?_
  simp [Yd,XA h2]
 ·intro a b hab hb;rw [Yd,Yd,XA (by lia),XA hb];exact YH.mp h a b (by lia) hb hab
end L2
namespace L2
open PySem PySem.Spec PySem.W PyProof.Rows
theorem Mn {X:Cx} {pins:List (Addr × Obj)} {σ:St} {H:Hp} {s:Shared} (I:An X pins σ H s) {kd:Nat->Bool}:∀ {vs:List V} {Ao:List Value},Ax vs Ao->(∀ v ∈ vs,TV H kd v)->∀ u ∈ Ao,Me s.heap kd u
 | _,_,.nil,_,_,hu=>nomatch hu
 | _,_,.cons r1 r2,hk,u,hu=>by
  rcases XC.mp hu with rfl | hu
  ·exact (Sv I r1 (hk _ Yh)).1
  ·exact Mn I r2 (fun v hv=>hk v (Yg _ hv)) u hu
end L2
namespace L2
open PySem PySem.Spec PyProof.Rows
theorem MU.keepT {H H':Hp} {m:Addr} {n:Nat} {xs:List Str} {ws:List AG} (h:MU H m n xs ws) (t:∀ b ys,H b=some (.tup ys)->H' b=some (.tup ys)):MU H' m n xs ws:=by
 obtain ⟨ta,tb,vs,a,b,c,e⟩:=h.ex;exact ⟨⟨ta,tb,vs,t _ _ a,t _ _ b,t _ _ c,F7 e t⟩,h.len,h.nd,h.nm,h.wl,h.wn⟩
theorem L3 {x y x' y':Str} (p:[x',y'].Perm [x,y]) (h:sortedS [x',y']=true):x'=BG x y/\y'=BH x y:=by
 have h1:=Gg h;have h2:[BG x y,BH x y].Pairwise fun a b=>¬ b.cps.toList < a.cps.toList:=by
  refine List.pairwise_pair.mpr ?_;unfold BG BH;by_cases a:y.cps.toList < x.cps.toList
  ·rw [if_pos a,if_neg (fun z=>Cn _ (YR a z))];exact fun z=>Cn _ (YR a z)
  ·rw [if_neg a];by_cases b:x.cps.toList < y.cps.toList
   ·rw [if_pos b];exact a
   ·rw [if_neg b];exact Cn _
 have p2:[BG x y,BH x y].Perm [x,y]:=by
  unfold BG BH;by_cases a:y.cps.toList < x.cps.toList
  ·rw [if_pos a,if_neg (fun z=>Cn _ (YR a z))];exact .swap _ _ _
  ·rw [if_neg a];by_cases b:x.cps.toList < y.cps.toList
   ·rw [if_pos b]
   ·rw [if_neg b];have e:x=y:=Ce a b;rw [e]
 have e:=Js h1 h2 (p.trans p2.symm);simp only [Zi.injEq,and_true] at e;exact e
structure Fy (H:Hp) (m:Addr) (n:Nat) (ps:List Str) (ws:List AG):Prop where
 at':MU H m n ps ws
 dr:∃ (xs:List Str) (Ss:List AG),ps.Perm xs/\ws.Perm (Ss.map Ex)/\Fp xs Ss
 so:sortedS ps=true
 l64:ws.length < 64
theorem Fy.web {H:Hp} {m:Addr} {n:Nat} {ps:List Str} {ws:List AG} (h:Fy H m n ps ws) (n1:1<=n) (n30:n<=30) :
  ∃ r,IC H m ps ws r/\(∀ u ∈ ws,1<=u.2.2)/\(∀ x y l l',BL ws x y l->BL ws x y l'->l=l'):=by
 obtain ⟨xs,Ss,pp,wp,wof,sep,jn⟩:=h.dr;have pl:0 < ps.length:=by rw [h.at'.len]; lia
 have hr0:ps[0] ∈ xs:=pp.mem_iff.mp (Y6 pl);have en:=fun x y l=>JJ wp x y l
 refine ⟨ps[0],⟨⟨h.at'.ex⟩,h.at'.nd,by rw [h.at'.len]; lia,h.l64,fun u hu=>?_,XA pl,fun Sp hs hcl z hz=>?_⟩,fun u hu=>(h.at'.wn u hu).2.2.1,fun x y l l' e1 e2=>Oi sep ((en x y l).mp e1) ((en x y l').mp e2)⟩
 ·obtain ⟨q1,q2⟩:=JI wp (fun u hu=>⟨(wof u hu).1,(wof u hu).2.1⟩) u hu;exact ⟨pp.mem_iff.mpr q1,pp.mem_iff.mpr q2⟩
 ·exact Kx.all jn Sp (fun b c hbc=>hcl b c ((Q4 wp b c).mpr hbc)) hr0 hs z (pp.mem_iff.mp hz)
section
variable {prog:Program} {w:World} {A:Around} {R:Result->Shared->Prop} {g0:Heap} {D it l:Addr} {vs:List Value} {ps:List (Str × V)}
end
section
variable {prog:Program} {w:World} {A:Around} {E:Value->Shared->Prop} {s:Shared}
end
structure Lr (H:Hp) (c m:Addr) (n:Nat) (xs:List Str) (ws:List AG) (Bj Bc:List Fx) (x:V) (d:PyData):Prop where
 ex:∃ (t1 t2:Addr) (L1 F0:List V),H c=some (.tup [.ref m,.ref t1,.ref t2,x])/\H t1=some (.tup L1)/\BM H L1 (Bj.map HE)/\H t2=some (.tup F0)/\BM H F0 (Bc.map HE)
 map:Fy H m n xs ws
 n1:1<=n
 n30:n<=30
 ok1:ID xs 0 Bj
 ok2:ID xs 1 Bc
 l1:Bj.length<=10
 l2:Bc.length<=30
 lim:Lim x d
theorem Fy.keepT {H H':Hp} {m:Addr} {n:Nat} {xs:List Str} {ws:List AG} (h:Fy H m n xs ws) (t:∀ b ys,H b=some (.tup ys)->H' b=some (.tup ys)):Fy H' m n xs ws:=⟨h.at'.keepT t,h.dr,h.so,h.l64⟩
theorem Lr.keepT {H H':Hp} {c m:Addr} {n:Nat} {xs:List Str} {ws:List AG} {Bj Bc:List Fx} {x:V} {d:PyData} (h:Lr H c m n xs ws Bj Bc x d) (t:∀ b ys,H b=some (.tup ys)->H' b=some (.tup ys)):Lr H' c m n xs ws Bj Bc x d:=by
 obtain ⟨t1,t2,L1,F0,a,b,e,f,g⟩:=h.ex;exact ⟨⟨t1,t2,L1,F0,t _ _ a,t _ _ b,Cj e t,t _ _ f,Cj g t⟩,h.map.keepT t,h.n1,h.n30,h.ok1,h.ok2,h.l1,h.l2,h.lim⟩
section
variable {prog:Program} {w:World} {A:Around} {E:Value->Shared->Prop} {s:Shared}
end
section
variable {prog:Program} {w:World} {A:Around} {E:Value->Shared->Prop} {s:Shared}
end
def EM (H:Hp) (A:Addr) (xs:List Str) (ws:List AG):Prop:=∃ (M:Str->Str->Option Int) (c:Nat),MD H A M c/\∀ x ∈ xs,∀ y ∈ xs,∃ n,M x y=some n/\Kz ws x y n/\0<=n/\n < 2 ^ 300
theorem EM.same {H H':Hp} {A:Addr} {xs:List Str} {ws:List AG} (h:EM H A xs ws) (s:Au H H'):EM H' A xs ws:=let ⟨M,c,a,b⟩:=h; ⟨M,c,a.same s,b⟩
theorem Ds {J:It} {xs:List V} {S:Hp->Prop} {g:TG} {tt:TT} {te:TE} {H:Hp} {σ0:St} {R:Addr->Hp->Prop} (ov:Ox J xs S) (I:Addr->Nat->St->Hp->List V->Prop) (big:xs.length < sizeLine)
  (h0:∀ D,H D=none->I D 0 σ0 (upd H D (.lst [])) [])
  (hs:∀ D i σ H' acc,H D=none->I D i σ H' acc->S H'/\H' D=some (.lst acc)/\acc.length<=i)
  (turn:∀ D i σ H' acc x (B:St->V->Hp->Prop) (N:St->Hp->Prop),H D=none->xs[i]? = some x->I D i σ H' acc->(∀ A6 v H5,H5 D=some (.lst acc)->I D (i + 1) A6 (upd H5 D (.lst (acc ++ [v]))) (acc ++ [v])->B A6 v H5) ->
   (∀ A6 H4,I D (i + 1) A6 H4 acc->N A6 H4)->g x σ H' fun A6 H3=>tt A6 H3 fun b H4=>if b=true then te A6 H4 (B A6) else N A6 H4)
  (fin:∀ D σ H' acc,H D=none->I D xs.length σ H' acc->R D H') :
  ∀ D,H D=none->∃ W:Nat->Nat->St->Hp->Prop,(∃ m,W 0 m σ0 (upd H D (.lst []))) /\
   ∀ i m Ar H',W i m Ar H'->(J.stop i H'/\R D H')\/(J.go i H'/\∀ x H2,J.yld i H' x H2->g x Ar H2 fun A6 H3=>tt A6 H3 fun b H4=>
    if b=true then te A6 H4 (fun v H5=>∃ acc,H5 D=some (.lst acc)/\acc.length < sizeLine/\∃ m',m' < m/\W (i + 1) m' A6 (upd H5 D (.lst (acc ++ [v])))) else ∃ m',m' < m/\W (i + 1) m' A6 H4):=by
 intro D hD;refine ⟨fun i m σ H'=>m=xs.length - i/\i<=xs.length/\∃ acc,I D i σ H' acc,⟨xs.length,rfl,Yr _,[],h0 D hD⟩,?_⟩;rintro i m σ H' ⟨rfl,hi,acc,p⟩;obtain ⟨s1,s2,s3⟩:=hs D i σ H' acc hD p;by_cases B0:i < xs.length
 ·refine .inr ⟨ov.go i H' s1 B0,fun x H2 y=>?_⟩;obtain ⟨rfl,ex⟩:=ov.yld i H' x H2 s1 y;refine turn D i σ H2 acc x (fun A6 v H5=>∃ acc,H5 D=some (.lst acc)/\acc.length < sizeLine/\∃ m',m' < xs.length - i/\(m'=xs.length - (i + 1)/\i + 1<=xs.length/\∃ IB,I D (i + 1) A6 (upd H5 D (.lst (acc ++ [v]))) IB)) (fun A6 H4=>∃ m',m' < xs.length - i/\(m'=xs.length - (i + 1)/\i + 1<=xs.length/\∃ IB,I D (i + 1) A6 H4 IB)) hD ex p (fun A6 v H5 d5 p5=>?_) fun A6 H4 p4=>?_
  ·exact ⟨acc,d5,by lia,xs.length - (i + 1),by lia,rfl,B0,_,p5⟩
  ·exact ⟨xs.length - (i + 1),by lia,rfl,B0,_,p4⟩
 ·have e:i=xs.length:=by lia
  subst e;exact .inl ⟨ov.stop H' s1,fin D σ H' acc hD p⟩
theorem Bl.app' {ws:List AG} {x y z:Str} {m n:Int} (h:Bl ws x y m) (g:Bl ws y z n):Bl ws x z (m + n):=by
 induction h with
 | nil x=>rw [ZD]; exact g
 | cons e _ ih=>rw [ZP]; exact .cons e (ih g)
theorem LO {xs:List Str} {ws:List AG} (jn:Kx xs ws) {L:Int} (L0:0<=L) (hL:∀ u ∈ ws,u.2.2<=L) (hp:∀ u ∈ ws,1<=u.2.2) {r:Str} (hr:xs[0]? = some r):∀ (j:Nat) x,xs[j]? = some x->∃ m,Bl ws x r m/\0<=m/\m<=j * L:=by
 intro j;induction j using Nat.strongRecOn with
 | ind j ih=>
  intro x hx;by_cases z:j=0
  ·subst z;rw [hr] at hx;cases hx
   exact ⟨0,.nil _,YE _,by simp⟩
  ·obtain ⟨u,hu,i,hij,e1,e2⟩:=jn j (by lia) (XX.mp hx).1;rw [hx] at e2;cases e2
   obtain ⟨m,w,m0,ml⟩:=ih i hij _ e1;have hl:=hL u hu;have hq:=hp u hu;refine ⟨u.2.2 + m,.cons ⟨u,hu,.inr ⟨rfl,rfl⟩,rfl⟩ w,by lia,?_⟩;have:((i:Int) + 1) * L<=j * L:=ZG (by lia) L0;rw [Int.add_mul,Int.one_mul] at this;lia
theorem Fy.sums {H:Hp} {m:Addr} {n:Nat} {ps:List Str} {ws:List AG} (h:Fy H m n ps ws) (n1:1<=n) (n30:n<=30):∀ x ∈ ps,∀ y ∈ ps,∃ k,Bl ws x y k/\0<=k/\k < 2 ^ 300:=by
 obtain ⟨xs,Ss,pp,wp,wof,sep,jn⟩:=h.dr;have en:=fun x y l=>JJ wp x y l
 have xl:xs.length=n:=by rw [<-pp.length_eq]; exact h.at'.len
 have hr:xs[0]? = some (xs[0]'(by lia)):=XA _;have hL:∀ u ∈ Ss,u.2.2<=10 ^ 30:=fun u hu=>by
  have:=(h.at'.wn (Ex u) (wp.mem_iff.mpr (Ya.mpr ⟨u,hu,rfl⟩))).2.2.2;have e:(Ex u).2.2=u.2.2:=rfl;lia
 have one:∀ x ∈ ps,∃ k,Bl Ss x (xs[0]'(by lia)) k/\0<=k/\k<=30 * 10 ^ 30:=fun x hx=>by
  obtain ⟨j,hj,ej⟩:=Yn (pp.mem_iff.mp hx);obtain ⟨k,a,b,c⟩:=LO jn (by decide) hL (fun u hu=>(wof u hu).2.2.2) hr j x (by rw [XA hj,ej]);refine ⟨k,a,b,Int.le_trans c (ZG (by lia) (by decide))⟩
 intro x hx y hy;obtain ⟨k1,a1,b1,c1⟩:=one x hx;obtain ⟨k2,a2,b2,c2⟩:=one y hy;have a3:=(OA en).mpr (Bl.app' a1 a2.symm);exact ⟨k1 + k2,a3,by lia,by lia⟩
theorem Bl.pos' {ws:List AG} (hp:∀ u ∈ ws,1<=u.2.2) {x y:Str} {m:Int} (h:Bl ws x y m):0<=m:=by
 induction h with
 | nil=>exact YE _
 | cons e _ ih=>obtain ⟨u,hu,_,rfl⟩:=e; have:=hp u hu; lia
theorem Fy.bound {H:Hp} {m:Addr} {n:Nat} {ps:List Str} {ws:List AG} (h:Fy H m n ps ws) (n1:1<=n) (n30:n<=30) {x y:Str} (hx:x ∈ ps) (hy:y ∈ ps) {k:Int} (d:Kz ws x y k):0<=k/\k < 2 ^ 300:=by
 obtain ⟨k',a,_,c⟩:=h.sums n1 n30 x hx y hy;exact ⟨d.1.pos' fun u hu=>(h.at'.wn u hu).2.2.1,Int.lt_of_le_of_lt (d.2 k' a) c⟩
theorem FW.doneW {ws:List AG} {xs:List Str} (he:∀ u ∈ ws,u.1 ∈ xs/\u.2.1 ∈ xs) (ex:∀ x ∈ xs,∀ y ∈ xs,∃ m,Bl ws x y m) {M:Str->Str->Option Int} (h:FW ws xs xs.length M):∀ x ∈ xs,∀ y ∈ xs,∃ n,M x y=some n/\Kz ws x y n:=by
 intro x hx y hy;obtain ⟨m,hm⟩:=ex x hx y hy;have low:∀ m,Bl ws x y m->∃ n,M x y=some n/\n<=m:=fun m g=>by
  rcases g.wi he with ⟨rfl,rfl⟩ | g
  ·exact h.diag x hx
  ·refine h.comp x y m ?_;rw [Yq];exact g
 obtain ⟨n,e,_⟩:=low m hm;refine ⟨n,e,h.sound x y n e,fun m' g=>?_⟩;obtain ⟨n',e',l⟩:=low m' g;rw [e] at e';cases e'
 exact l
theorem Fy.apart {H:Hp} {m:Addr} {n:Nat} {ps:List Str} {ws:List AG} (h:Fy H m n ps ws) {u:AG} (hu:u ∈ ws):u.1 ≠ u.2.1:=by
 obtain ⟨xs,Ss,pp,wp,wof,_⟩:=h.dr;obtain ⟨v,hv,rfl⟩:=Ya.mp (wp.mem_iff.mp hu);have ne:=(wof v hv).2.2.1;show BG v.1 v.2.1 ≠ BH v.1 v.2.1
 unfold BG BH;by_cases a:v.2.1.cps.toList < v.1.cps.toList
 ·rw [if_pos a,if_neg (fun z=>Cn _ (YR a z))];exact fun z=>ne z.symm
 ·rw [if_neg a];by_cases b:v.1.cps.toList < v.2.1.cps.toList
  ·rw [if_pos b]; exact ne
  ·exact absurd (Ce a b) ne
end L2
namespace L2
open PySem
theorem Qp {K:XB} {a:Addr} {xs:List V} {g:TG} {tb:TS} {D:El} {σ:St} {H:Hp} (Pv:Nat->St->Hp->Prop) (h0:Pv 0 σ H) (hl:∀ i σ H,i<=xs.length->Pv i σ H->AM K H a xs)
  (hs:∀ i x σ H,xs[i]? = some x->Pv i σ H->∀ (rt:VK) (bk:St->Hp->Prop),g x σ H fun A6 H2=>tb ⟨Pv (i + 1),rt,bk,Pv (i + 1)⟩ A6 H2) (hd:∀ σ H,Pv xs.length σ H->D.nx σ H) :
  ∃ W:Nat->Nat->St->Hp->Prop,(∃ m,W 0 m σ H)/\∀ i m σ H,W i m σ H ->
   ((Oy K a).stop i H/\D.nx σ H)\/((Oy K a).go i H/\∃ N:St->Hp->Prop,(∀ Ar H',N Ar H'->∃ m',m' < m/\W (i + 1) m' Ar H')/\∀ x H',(Oy K a).yld i H x H'->g x σ H' fun A6 H2=>tb { D with nx:=N,ct:=N,bk:=D.nx } A6 H2):=
 Hs Pv h0 hl (fun i x σ H hx hp=>hs i x σ H hx hp D.rt D.nx) hd
theorem Og {a:Addr} {kvs:List (AO × V)} {o:Obj} {g:TG} {tb:TS} {D:El} {σ:St} {H:Hp} (Pv:Nat->St->Hp->Prop) (h0:Pv 0 σ H) (hl:∀ i σ H,i<=kvs.length->Pv i σ H->H a=some (.frz o (.dK kvs)))
  (hs:∀ i k v σ H,kvs[i]? = some (k,v)->Pv i σ H->∀ (rt:VK) (bk:St->Hp->Prop),g (kV k) σ H fun A6 H2=>tb ⟨Pv (i + 1),rt,bk,Pv (i + 1)⟩ A6 H2) (hd:∀ σ H,Pv kvs.length σ H->D.nx σ H) :
  ∃ W:Nat->Nat->St->Hp->Prop,(∃ m,W 0 m σ H)/\∀ i m σ H,W i m σ H ->
   ((RQ a kvs o).stop i H/\D.nx σ H)\/((RQ a kvs o).go i H/\∃ N:St->Hp->Prop,(∀ Ar H',N Ar H'->∃ m',m' < m/\W (i + 1) m' Ar H')/\∀ x H',(RQ a kvs o).yld i H x H'->g x σ H' fun A6 H2=>tb { D with nx:=N,ct:=N,bk:=D.nx } A6 H2):=
 Ld Pv h0 hl (fun i k v σ H hx hp=>hs i k v σ H hx hp D.rt D.nx) hd
theorem DJ {K:XB} {a:Addr} {xs:List V} {g:TG} {tb:TS} {D:El} {σ:St} {H:Hp} (Pv:Nat->St->Hp->Prop) (h0:Pv 0 σ H) (hl:∀ i σ H,i<=xs.length->Pv i σ H->AM K H a xs)
  (hs:∀ i x σ H,xs[i]? = some x->Pv i σ H->∀ (rt:VK) (bk N:St->Hp->Prop),(∀ σ H,Pv (i + 1) σ H->N σ H)->g x σ H fun A6 H2=>tb ⟨N,rt,bk,N⟩ A6 H2) (hd:∀ σ H,Pv xs.length σ H->D.nx σ H) :
  ∃ W:Nat->Nat->St->Hp->Prop,(∃ m,W 0 m σ H)/\∀ i m σ H,W i m σ H ->
   ((Oy K a).stop i H/\D.nx σ H)\/((Oy K a).go i H/\∃ N:St->Hp->Prop,(∀ Ar H',N Ar H'->∃ m',m' < m/\W (i + 1) m' Ar H')/\∀ x H',(Oy K a).yld i H x H'->g x σ H' fun A6 H2=>tb { D with nx:=N,ct:=N,bk:=D.nx } A6 H2):=
 Hs Pv h0 hl (fun i x σ H hx hp=>hs i x σ H hx hp D.rt D.nx _ fun _ _ z=>z) hd
end L2
namespace L2
open PySem PySem.Spec PyProof.Rows
theorem Fe {M:Model} {A:Around} {E:Value->Shared->Prop} {s:Shared} {scope:Scope} {globals:Addr} {closure:List (Str × Addr)} {qual:Str} {func:Option Addr} {code:Value} {outer:Env} {builtins:Addr} {Q:Env->Shared->Prop}
  (hQ:Q (newEnv scope s.heap.objs.size globals (cellsFrom (s.heap.objs.size + 1) scope.names closure) qual func code (some outer) builtins) { s with heap:=pushCells (s.heap.push { cls:=.type "dict",data:=.dict #[] }) scope.names }) :
  wpAny M A (newFunctionEnv scope globals closure [] qual func code (some outer) builtins) Q E s:=by
 simp only [newFunctionEnv,ai,if_true];refine wpAny_bind (wpAny_alloc ?_);refine wpAny_bind (wpAny_layCells _ (fun name kind cells=>by cases hkc:kind == NameKind.cell <;> simp [hkc]) _ _ _ _ ?_);rw [show ({ s with heap:=s.heap.push { cls:=.type "dict",data:=.dict #[] } }:Shared).heap.objs.size=s.heap.objs.size + 1 from Ys ..];refine wpAny_bind ?_;rw [List.forIn_nil];exact wpAny_pure (wpAny_pure hQ)
theorem EY:∀ (names:List (Str × NameKind)) (h:Heap) (acc:List (Str × Addr)) (lo:Nat),lo<=h.objs.size->(∀ x c,(x,c) ∈ acc->c < lo\/(lo<=c/\c < h.objs.size/\h.IsCell c none)) ->
  ∀ x c,(x,c) ∈ cellsFrom h.objs.size names acc->(x,c) ∈ acc\/(lo<=c/\(pushCells h names).IsCell c none)
 | [],h,acc,lo,_,_,x,c,hm=>.inl hm
 | (name,kind) :: r,h,acc,lo,hlo,ha,x,c,hm=>by
  unfold cellsFrom at hm;unfold pushCells;split at hm
  ·rename_i hk
   rw [if_pos hk];rw [show h.objs.size + 1=(h.push { cls:=.type "cell",data:=.cell none }).objs.size from (Ys ..).symm] at hm;rcases EY r (h.push { cls:=.type "cell",data:=.cell none }) ((name,h.objs.size) :: acc) lo (by rw [Ys]; lia) (fun y d hy=>by
    rcases XC.mp hy with e | hy
    ·cases e
     exact .inr ⟨hlo,by rw [Ys]; exact Ym _,_,XJ _ rfl,rfl⟩
    ·rcases ha y d hy with z | ⟨z1,z2,z3⟩
     ·exact .inl z
     ·exact .inr ⟨z1,by rw [Ys]; exact Yl z2,z3.keeps fun b o e=>X9 _ e⟩) x c hm with q | q
   ·rcases XC.mp q with e | q
    ·cases e
     exact .inr ⟨hlo,_,pushCells_keeps _ _ _ _ (XJ _ rfl),rfl⟩
    ·exact .inl q
   ·exact .inr q
  ·rename_i hk
   rw [if_neg hk];exact EY r h acc lo hlo ha x c hm
theorem Dz:∀ (names:List (Str × NameKind)) (n:Nat) (acc:List (Str × Addr)),(acc.Pairwise fun x y=>x.2 ≠ y.2)->(∀ x c,(x,c) ∈ acc->c < n)->(cellsFrom n names acc).Pairwise fun x y=>x.2 ≠ y.2
 | [],n,acc,h,_=>h
 | (name,kind) :: r,n,acc,h,ha=>by
  unfold cellsFrom;split
  ·refine Dz r (n + 1) ((name,n) :: acc) (YM.mpr ⟨fun y hy e=>?_,h⟩) fun x c hm=>?_
   ·have:=ha y.1 y.2 hy;have e':n=y.2:=e;exact absurd this (by rw [<-e']; exact Yx _)
   ·rcases XC.mp hm with e | hm
    ·cases e; exact Ym _
    ·exact Yl (ha x c hm)
  ·exact Dz r n acc h ha
theorem Cb {α:Type}:∀ {l:List (Str × α)} {x:Str} {c:α},(x,c) ∈ l->∃ d,l.lookup x=some d
 | (k,v) :: r,x,c,h=>by
  rw [Zt];cases hb:x == k with
  | true=>exact ⟨v,rfl⟩
  | false=>
   rcases XC.mp h with e | h
   ·cases e; simp at hb
   ·exact Cb h
theorem EZ:∀ (names:List (Str × NameKind)) (n:Nat) (acc:List (Str × Addr)) (x:Str),((x,NameKind.cell) ∈ names\/∃ c,(x,c) ∈ acc)->∃ c,(x,c) ∈ cellsFrom n names acc
 | [],n,acc,x,h=>by
  rcases h with h | h
  ·cases h
  ·exact h
 | (name,kind) :: r,n,acc,x,h=>by
  unfold cellsFrom;split
  ·rename_i hk
   refine EZ r (n + 1) ((name,n) :: acc) x ?_;rcases h with h | ⟨c,h⟩
   ·rcases XC.mp h with e | h
    ·cases e; exact .inr ⟨n,Yh⟩
    ·exact .inl h
   ·exact .inr ⟨c,Yg _ h⟩
  ·rename_i hk
   refine EZ r n acc x ?_;rcases h with h | h
   ·rcases XC.mp h with e | h
    ·cases e; exact absurd rfl hk
    ·exact .inl h
   ·exact .inr h
abbrev AB (X:Cx) (scope:Scope) (cl:List (Str × Addr)) (N:List Str) (s2:Shared) (H:Hp) (C:Addr) (fp:List Addr) (fn:Str->Bool):Cx:={ Am X scope cl N s2 H C fp with fn:=fn }
theorem EX (n0:Nat):∀ (names:List (Str × NameKind)) (n:Nat) (acc:List (Str × Addr)) (x:Str) (c:Addr),n0<=n->((x,NameKind.cell) ∈ names\/∃ d,acc.lookup x=some d/\n0<=d)->(cellsFrom n names acc).lookup x=some c->n0<=c
 | [],n,acc,x,c,_,h,e=>by
  rcases h with h | ⟨d,h1,h2⟩
  ·cases h
  ·have e':acc.lookup x=some c:=e;rw [h1] at e';cases e'
   exact h2
 | (name,kind) :: r,n,acc,x,c,hn,h,e=>by
  unfold cellsFrom at e;split at e
  ·rename_i hk
   refine EX n0 r (n + 1) ((name,n) :: acc) x c (Zg hn) ?_ e;by_cases ex:x=name
   ·refine .inr ⟨n,?_,hn⟩;rw [ex,Zt,beq_self_eq_true]
   ·have hb:(x == name)=false:=beq_eq_false_iff_ne.mpr ex;rcases h with h | ⟨d,h1,h2⟩
    ·rcases XC.mp h with z | z
     ·injection z with z1 z2;exact absurd z1 ex
     ·exact .inl z
    ·exact .inr ⟨d,by rw [Zt,hb]; exact h1,h2⟩
  ·rename_i hk
   refine EX n0 r n acc x c hn ?_ e;rcases h with h | h
   ·rcases XC.mp h with z | z
    ·cases z; exact absurd rfl hk
    ·exact .inl z
   ·exact .inr h
structure D3 (X:Cx) (scope:Scope) (cl:List (Str × Addr)):Prop where
 clos:closureFor scope X.env=pure cl
 kind:scope.kind=.function
 names:∀ y ∈ scope.names,y.2=.local->scope.names.lookup y.1=some .local
 sub:∀ x c,(x,c) ∈ cl->X.env.cells.lookup x=some c
 apart:(cl.Pairwise fun x y=>x.2 ≠ y.2)
 has:∀ x,((relabel scope X.env).names.lookup x=some .cell\/(relabel scope X.env).names.lookup x=some .free)->(x,NameKind.cell) ∈ scope.names\/∃ c,(x,c) ∈ cl
theorem DW:∀ (names:List (Str × NameKind)) (n:Nat) (acc:List (Str × Addr)) (x:Str) (c:Addr),(x,c) ∈ cellsFrom n names acc->(x,NameKind.cell) ∉ names->(x,c) ∈ acc
 | [],n,acc,x,c,h,_=>h
 | (name,kind) :: r,n,acc,x,c,h,hn=>by
  unfold cellsFrom at h;split at h
  ·rename_i hk
   have Lb:kind=.cell:=by cases kind <;> first | rfl | cases hk
   rcases XC.mp (DW r (n + 1) ((name,n) :: acc) x c h fun z=>hn (Yg _ z)) with e | e
   ·cases e
    exact absurd (by rw [Lb]; exact Yh) hn
   ·exact e
  ·exact DW r n acc x c h fun z=>hn (Yg _ z)
section
variable {X:Cx} {pins:List (Addr × Obj)} {σ Ar:St} {H H':Hp} {s2 s':Shared} {scope:Scope} {cl:List (Str × Addr)} {N:List Str} {fp:List Addr} {C D:Addr} {A5 h':Heap} {t':Nat}
theorem Lk {fn:Str->Bool} {Xs:List (Str × Addr)} (I:An X pins σ H s2) (hf:∀ b ∈ fp,Dl X pins H b) (hfo:∀ b ∈ fp,∃ o,s2.heap.get? b=some o) (co:D3 X scope Xs) (sub:∀ x c,cl.lookup x=some c->X.env.cells.lookup x=some c\/(s2.heap.objs.size<=c/\c ≠ D/\c ≠ C/\A5.IsCell c none)) (inj:∀ x y c,cl.lookup x=some c->cl.lookup y=some c->x=y) (own:∀ x c,fn x=true->cl.lookup x=some c->s2.heap.objs.size<=c)
  (has:∀ x,((relabel scope X.env).names.lookup x=some .cell\/(relabel scope X.env).names.lookup x=some .free)->∃ c,cl.lookup x=some c) (keepS:∀ (i:Nat) (x:Str) (v:V),N[i]? = some x->Ar[i]? = some (some v)->∀ c,cl.lookup x=some c->X.env.cells.lookup x=some c) (hσ:AU X cl scope N σ Ar)
  (k:∀ b o,s2.heap.get? b=some o->A5.get? b=some o) (hD:s2.heap.objs.size<=D) (hC:s2.heap.objs.size<=C) (hDC:C ≠ D)
  (new:A5.get? D=some { cls:=.type "list",data:=.seq ([]:List Value).toArray 0 }\/∃ n,A5.get? D=some { cls:=.type "list",data:=.seq ([]:List Value).toArray n }) {m:Str->Option Value} (hn:A5.Ns C m) :
  An (AB X scope cl N s2 H C fp fn) [] Ar (upd H D (.lst [])) { s2 with heap:=A5,toks:=t' }:=by
 have fD:H D=none:=I.hok.fresh hD;have fC:H C=none:=I.hok.fresh hC;have newO:A9 X.prog X.w (upd H D (.lst [])) A5 D (.lst []):=by
  refine ⟨Yr _,[],?_⟩;rcases new with e | ⟨n,e⟩
  ·exact ⟨0,.nil,e⟩
  ·exact ⟨n,.nil,e⟩
 have lts:∀ b ∈ fp,b < s2.heap.objs.size:=fun b hb=>let ⟨_,e⟩:=hfo b hb; XE e
 have ok:Cx.Ok (AB X scope cl N s2 H C fp fn):=by
  refine ⟨I.ok.mod,?_,I.ok.glob,I.ok.blt,hC,?_,?_,?_,I.ok.hd,I.ok.frames,.inl rfl,?_,I.bs,Yo I.ok.bsz I.sz,?_,?_,I.stack,I.stkFree⟩
  ·exact co.kind
  ·exact inj
  ·exact has
  ·exact own
  ·intro b hb;refine ⟨fun e=>?_,fun x c e=>by
    rcases sub x c e with z | ⟨z,_⟩
    ·exact (hf b hb).2.2.2.2.1 x c z
    ·exact Yy (XH (lts b hb) z)⟩
   have z:=lts b hb;exact absurd (XH z hC) (by rw [show b=C from e]; exact Yx _)
  ·intro b o e hb;have Gb:b ∈ fp:=hb;rcases (hf b Gb).2.2.2.1 with z | z
   ·exact I.ok.noex b o e z
   ·exact absurd (XH (XE e) (Yo I.ok.bsz z)) (Yx _)
  ·intro b hb hz;have Gb:b ∈ fp:=hb;obtain ⟨_,f1,f2,_⟩:=hf b Gb;rcases XC.mp (I.stkSub b hz) with e | e
   ·exact f1 e
   ·exact f2 e
 refine ⟨ok,rfl,I.bare,Un.laid k hD fD,?_,?_,?_,?_,?_,I.hok.laid k hD newO,hσ.1⟩
 ·refine ⟨m,hn,fun i x v e1 e2 _=>?_⟩;obtain ⟨⟨j,j1,j2⟩,kk,kr⟩:=hσ.2 i x v e1 e2;obtain ⟨mo,_,hl⟩:=I.loc;obtain ⟨u,r,l⟩:=hl j x v j1 j2 (by
   rcases kk with z | z
   ·exact .inr (.inl z)
   ·exact .inr (.inr z))
  refine ⟨u,r,.inr ⟨kr,?_⟩⟩;obtain ⟨c,hc⟩:=has x kr;rcases l with ⟨z,_⟩ | ⟨_,c',F4,hcell⟩
  ·rcases kk with q | q
   ·rw [z] at q; cases q
   ·rw [z] at q; cases q
  ·have e3:=keepS i x v e1 e2 c hc;rw [F4] at e3;have e4:c'=c:=Yi.inj e3;subst e4;obtain ⟨o,ho,hd⟩:=hcell;exact ⟨c',hc,o,k _ o ho,hd⟩
 ·intro x c e;rcases sub x c e with z | ⟨_,_,_,z⟩
  ·obtain ⟨v,o,ho,hd⟩:=I.cell x c z;exact ⟨v,o,k _ o ho,hd⟩
  ·exact ⟨YG,z⟩
 ·show upd H D (.lst []) C=none
  rw [Af hDC];exact fC
 ·intro x c e;rcases sub x c e with z | ⟨z1,z2,_,_⟩
  ·obtain ⟨v,q⟩:=I.cell x c z;rw [Af (XQ (XH q.lt hD))];exact I.freeC x c z
  ·rw [Af z2];exact I.hok.fresh z1
 ·intro p hp;cases hp
theorem JL {fn:Str->Bool} {pl:List (Addr × Obj)} (I:An X pins σ H s2) (hf:∀ b ∈ fp,Dl X pins H b) (hC:s2.heap.objs.size<=C) (I2:An (AB X scope cl N s2 H C fp fn) pl Ar H' s')
  (hs:Heap.SameBut C s'.heap h'):An X pins σ H' { s' with heap:=h' }:=by
 have nC:∀ b o,s2.heap.get? b=some o->b ≠ C:=fun b o e=>XQ (XH (XE e) hC)
 have u:=I2.base;refine I.call' (s':={ s' with heap:=h' }) (ch:=fp) I2.os ⟨?_,?_,u.free,?_,u.tups,u.frzs,u.tbls⟩ ?_ I2.bare fun b hb=>?_
 ·exact fun b o e n h1 h2=>(hs.2 b (nC b o e)).trans (u.keep b o e n h1 h2)
 ·intro b o e n h1 h2;obtain ⟨sl,q⟩:=u.slot b o e n h1 h2;exact ⟨sl,(hs.2 b (nC b o e)).trans q⟩
 ·intro b o e h2;obtain ⟨o',q⟩:=u.there b o e h2;exact ⟨o',(hs.2 b (nC b o e)).trans q⟩
 ·intro b ob e;have hfree:H' C=none:=I2.free;refine (I2.hok b ob e).stay (fun c w' hc q=>(hs.2 c ?_).trans q) (fun _ q=>q) fun _ _ q=>q
  rintro rfl;rcases hc with rfl | hc
  ·rw [hfree] at e; cases e
  ·rw [hfree] at hc; cases hc
 ·obtain ⟨_,f1,_,f3,f4,f5⟩:=hf b hb;exact ⟨f3,f1,f4,f5⟩
end
theorem Pz {X:Cx} (fn:Str->Bool) {tg iter elt:Expr} {ifs:List Expr} {scope:Scope} {cl:List (Str × Addr)} {N:List Str} {pos:Pos} {wi:TI} {g:TG} {tt:TT} {te:TE} {σ0:St->St} (hc:X.calm=true) (co:D3 X scope cl) (hfn:∀ x,fn x=true->(x,NameKind.cell) ∈ scope.names)
  (hσ:∀ σ,σ.length=X.N.length->AU X cl scope N σ (σ0 σ)) (hK:∀ (σ:St) (i:Nat) (x:Str) (v:V),N[i]? = some x->(σ0 σ)[i]? = some (some v)->(x,NameKind.cell) ∉ scope.names) (hi:PI X tg iter wi)
  (hb:∀ s2 H C fp,PG (AB X scope (cellsFrom (C + 1) scope.names cl) N s2 H C fp fn) tg g/\QF (AB X scope (cellsFrom (C + 1) scope.names cl) N s2 H C fp fn) ifs tt/\PE (AB X scope (cellsFrom (C + 1) scope.names cl) N s2 H C fp fn) elt te)
  (hs:∀ x,foldedSetIterable iter X.env x=pure x:=by intro _; rfl):PE X (.ListComp elt [⟨tg,iter,ifs,0⟩] scope pos) (Mo wi g tt te σ0):=by
 intro pins s σ H Q I h;rw [eval_ListComp];refine wpAny_comprehension_free (use:=none) rfl hs co.clos co.kind co.names (wpAny_mono (hi (pins:=pins) s σ H _ I h) (fun xv s1 h1=>wpAny_mono h1 (fun itv s2 h2=>?_) fun _ _ e=>e) fun _ _ e=>e);obtain ⟨it,fp,tn,J,H2,rfl,I2,T,Eh,f2,hW⟩:=h2;refine wpAny_newObj_type (Fe ?_);dsimp only;generalize Gq:s2.heap.push { cls:=.type "list",dict:=none,data:=.seq ([]:List Value).toArray } = HH;have AY:HH.objs.size=s2.heap.objs.size + 1:=by rw [<-Gq,Ys]
 obtain ⟨A5,EB⟩:∃ A5,A5=pushCells (HH.push { cls:=.type "dict",data:=.dict #[] }) scope.names:=⟨_,rfl⟩
 rw [<-EB];have Bo:A5.Ns HH.objs.size (fun _=>YG):=by
  rw [EB];exact (Heap.Ns.new HH (.type "dict")).keeps (pushCells_keeps _ _)
 have old:∀ b o,s2.heap.get? b=some o->A5.get? b=some o:=fun b o e=>by
  rw [EB];exact pushCells_keeps _ _ _ _ (X9 _ (Gq ▸ X9 _ e))
 have newD:∃ n,A5.get? s2.heap.objs.size=some { cls:=.type "list",data:=.seq ([]:List Value).toArray n }:=by
  refine ⟨0,?_⟩;rw [EB];exact pushCells_keeps _ _ _ _ (X9 _ (Gq ▸ XJ _ rfl))
 obtain ⟨DL,ecl⟩:∃ DL,DL=cellsFrom (HH.objs.size + 1) scope.names cl:=⟨_,rfl⟩
 have clt:∀ x c,(x,c) ∈ cl->c < s2.heap.objs.size:=fun x c e=>by
  obtain ⟨v,q⟩:=I2.cell x c (co.sub x c e);exact q.lt
 have HX:∀ x c,(x,c) ∈ DL->(x,c) ∈ cl\/(HH.objs.size + 1<=c/\A5.IsCell c YG):=fun x c hm=>by
  have hsz:(HH.push { cls:=.type "dict",data:=.dict #[] }).objs.size=HH.objs.size + 1:=Ys ..;rw [ecl,<-hsz] at hm;have q:=EY scope.names (HH.push { cls:=.type "dict",data:=.dict #[] }) cl (HH.objs.size + 1) (by rw [hsz]; exact XD _) (fun y d hy=>.inl (XH (clt y d hy) (by rw [AY]; lia))) x c hm;rw [EB];exact q
 have Xt:DL.Pairwise fun x y=>x.2 ≠ y.2:=by
  rw [ecl];exact Dz _ _ _ co.apart fun x c hm=>XH (clt x c hm) (by rw [AY]; lia)
 have OP:∀ x c,DL.lookup x=some c->X.env.cells.lookup x=some c\/(s2.heap.objs.size<=c/\c ≠ s2.heap.objs.size/\c ≠ HH.objs.size/\A5.IsCell c YG):=fun x c e=>by
  rcases HX x c (PySem.mem_of_lookup e) with q | ⟨q1,q2⟩
  ·exact .inl (co.sub x c q)
  ·exact .inr ⟨by rw [AY] at q1; exact Zv (XH (Yl (Ym _)) q1),Yy (by rw [AY] at q1; exact XH (Yl (Ym _)) q1),Yy (XH (Ym _) q1),q2⟩
 have Tx:∀ x y c,DL.lookup x=some c->DL.lookup y=some c->x=y:=fun x y c e1 e2=>name_of_addr Xt (PySem.mem_of_lookup e1) (PySem.mem_of_lookup e2)
 have Te:∀ x c,fn x=true->DL.lookup x=some c->s2.heap.objs.size<=c:=fun x c h e=>by
  rw [ecl] at e;exact EX s2.heap.objs.size scope.names (HH.objs.size + 1) cl x c (by rw [AY]; lia) (.inl (hfn x h)) e
 have T8:∀ x,((relabel scope X.env).names.lookup x=some .cell\/(relabel scope X.env).names.lookup x=some .free)->∃ c,DL.lookup x=some c:=fun x h=>by
  obtain ⟨c,hc⟩:=EZ scope.names (HH.objs.size + 1) cl x (co.has x h);rw [ecl];exact Cb hc
 have keepS:∀ (i:Nat) (x:Str) (v:V),N[i]? = some x->(σ0 σ)[i]? = some (some v)->∀ c,DL.lookup x=some c->X.env.cells.lookup x=some c:=fun i x v e1 e2 c e=>by
  rw [ecl] at e;have m2:=DW scope.names (HH.objs.size + 1) cl x c (PySem.mem_of_lookup e) (hK σ i x v e1 e2);exact co.sub x c m2
 obtain ⟨W,⟨m0,w0⟩,turn⟩:=hW s2.heap.objs.size I2.fresh;have hfo:∀ b ∈ fp,∃ o,s2.heap.get? b=some o:=fun b hb=>let ⟨o,e,_⟩:=T.obj _ _ Eh b hb; ⟨o,e⟩
 have T4:∀ σ,σ.length=X.N.length->AU X DL scope N σ (σ0 σ):=fun σ h=>hσ σ h
 have I3:An (AB X scope DL N s2 H2 HH.objs.size fp fn) [] (σ0 σ) (upd H2 s2.heap.objs.size (.lst [])) { s2 with heap:=A5,toks:=s2.toks }:=
  Lk I2 f2 hfo co OP Tx Te T8 keepS (T4 σ I.len) old (XD _) (by rw [AY]; exact Yt _) (Yy (by rw [AY]; exact Ym _)) (.inr newD) Bo
 have fC:s2.heap.objs.size<=HH.objs.size:=by rw [AY]; exact Yt _
 obtain ⟨hg,ht,he⟩:=hb s2 H2 HH.objs.size fp;rw [<-ecl] at hg ht he;have loop:∀ Bu:Shared,Bu = { s2 with heap:=A5,toks:=s2.toks } ->
   codeAny (model X.prog X.w) X.A (.compLoop (.ListComp elt [⟨tg,iter,ifs,0⟩] scope pos) 0 (.ref it) (.ref s2.heap.objs.size) (compEnvC scope DL HH.objs.size X.env))
    (compPost (model X.prog X.w) X.A X.xe none (EP X pins σ Q) (.ref s2.heap.objs.size) HH.objs.size) Bu:=by
  rintro Bu rfl;have stat:∀ {H':Hp} ,(∀ b ∈ fp,H' b=none)->∀ b ∈ fp,Dl (AB X scope DL N s2 H2 HH.objs.size fp fn) [] H' b:=fun hn b hb=>by
   refine ⟨hn b hb,?_,?_,.inl hb,?_,fun p hp=>by cases hp⟩
   ·obtain ⟨o,e⟩:=hfo b hb;exact XQ (show b < HH.objs.size by rw [AY]; exact Yl (XE e))
   ·intro hz;obtain ⟨_,q1,q2,_⟩:=f2 b hb;rcases XC.mp (I2.stkSub b hz) with e | e
    ·exact q1 e
    ·exact q2 e
   ·intro x c e;rcases OP x c e with z | ⟨z,_⟩
    ·exact (f2 b hb).2.2.2.2.1 x c z
    ·obtain ⟨o,eo⟩:=hfo b hb;exact Yy (XH (XE eo) z)
  refine BK (fun n s'=>∃ i Ar H',An (AB X scope DL N s2 H2 HH.objs.size fp fn) [] Ar H' s'/\tn i s'.heap/\(∀ b ∈ fp,H' b=none)/\W i n Ar H') ?_ m0
   ⟨0,σ0 σ,_,I3,T.keep _ _ _ Eh fun b hb o e=>old b o e,fun b hb=>?_,w0⟩
  ·rintro n s4 ⟨i,DP,H4,I4,Jo,JG,w4⟩;rcases turn i n DP H4 w4 with ⟨stop,qn⟩ | ⟨go,step⟩
   ·refine wpAny_mono (T.done (AB X scope DL N s2 H2 HH.objs.size fp fn) rfl rfl rfl hc i [] s4 DP H4 (fun _ _=>False) I4 (stat JG) Jo stop) (fun r s5 ⟨hr,I5⟩=>?_) fun _ _ z=>z.elim
    subst hr;obtain ⟨m5,Oa,_⟩:=id I5.loc;exact ⟨m5,Oa,fun h' Lu=>⟨.ref _,H4,JL I2 f2 fC I5 Lu,rfl,qn⟩⟩
   ·refine wpAny_mono (T.item (AB X scope DL N s2 H2 HH.objs.size fp fn) rfl rfl rfl hc i [] s4 DP H4 (fun _ _=>False) I4 (stat JG) Jo go) (fun r s5 ⟨u,hr,h5⟩=>?_) fun _ _ z=>z.elim
    subst hr;refine wpAny_mono h5 (fun _ s6 ⟨x,H6,I6,r6,y6,Gd,Of⟩=>?_) fun _ _ z=>z.elim
    have Oz:=I6.pinned (stat Of) (T.obj _ _ Gd);refine wpAny_mono (hg s6 DP H6 x u _ Oz r6 (step x H6 y6)) (fun _ s7 ⟨D8,H7,I7,q7⟩=>?_) fun _ _ z=>z.elim
    refine wpAny_mono (ht s7 D8 H7 _ I7 q7) (fun ok s8 ⟨H8,I8,q8⟩=>?_) fun _ _ z=>z.elim
    have again:∀ {s9:Shared} {DO:St} {H9:Hp} ,An (AB X scope DL N s2 H2 HH.objs.size fp fn) ([] ++ BF fp s6.heap) DO H9 s9->(∃ m',m' < n/\W (i + 1) m' DO H9)->∃ m,m < n/\∃ i Ar H',An (AB X scope DL N s2 H2 HH.objs.size fp fn) [] Ar H' s9/\tn i s9.heap/\(∀ b ∈ fp,H' b=none)/\W i m Ar H':=fun {s9 DO H9} I9 n9=>by
     obtain ⟨m',hm,w9⟩:=n9;refine ⟨m',hm,i + 1,DO,H9,I9.unpinned,T.keep _ _ _ Gd fun b hb o e=>(I9.pin (b,o) (XO _ (XO _ (A8 hb e)))).1,fun b hb=>?_,w9⟩;obtain ⟨o,e,d⟩:=T.obj _ _ Gd b hb;exact (I9.pin (b,o) (XO _ (XO _ (A8 hb e)))).2.1
    cases ok with
    | false=>
     rw [if_neg Yc] at q8 ⊢;exact again I8 q8
    | true=>
     rw [if_pos rfl] at q8 ⊢;refine wpAny_mono (he s8 D8 H8 _ I8 q8) (fun y s9 ⟨v,H9,I9,r9,acc,hacc,hsz,q9⟩=>?_) fun _ _ z=>z.elim
     refine wpAny_mono (BR (X:=AB X scope DL N s2 H2 HH.objs.size fp fn) s9 D8 H9 (.ref s2.heap.objs.size) [v] (.ref s2.heap.objs.size) [y] (fun _ Hl=>∃ m',m' < n/\W (i + 1) m' D8 Hl) I9 rfl (.cons r9 .nil) ⟨_,acc,v,rfl,rfl,hacc,hsz,q9⟩) (fun _ LD ⟨_,Hl,O0,_,Ls⟩=>?_) fun _ _ z=>z.elim
     exact again O0 Ls
  ·have z:=(f2 b hb).1;obtain ⟨o,e⟩:=hfo b hb;rw [Af (XQ (XE e))];exact z
 subst ecl;exact codeAny_compStart_list (loop _ rfl) (T.self _ 0 _ _ _ (T.keep _ _ _ Eh fun b hb o e=>old b o e) (loop _ rfl))
end L2
namespace L2
open PySem PySem.Spec PySem.W PyProof.Rows
end L2
namespace L2
open PySem PySem.Spec PyProof.Rows
theorem D3.caught {X:Cx} {scope:Scope} {cl:List (Str × Addr)} (clos:closureFor scope X.env=pure cl) (hkind:scope.kind=.function)
  (hnames:∀ y ∈ scope.names,y.2=.local->scope.names.lookup y.1=some .local) (hcl:∀ y ∈ cl,X.env.cells.lookup y.1=some y.2) (hap:cl.Pairwise fun x y=>x.2 ≠ y.2)
  (hfr:∀ y ∈ scope.names,y.2=.free->∃ c,(y.1,c) ∈ cl):D3 X scope cl:=by
 refine ⟨clos,hkind,hnames,fun x c h=>hcl _ h,hap,fun x h=>?_⟩;have key:∀ k,(relabel scope X.env).names.lookup x=some k->k=.cell\/k=.free->(x,NameKind.cell) ∈ scope.names\/∃ c,(x,c) ∈ cl:=by
  intro k e hk;have m:=Dh e;obtain ⟨⟨n,k'⟩,hm,e'⟩:=Ya.mp m;dsimp only at e';by_cases hf:k'=.free
  ·subst hf;have en:n=x:=by
    by_cases hc:(NameKind.free == NameKind.free && X.env.scope.kind == .function && X.env.kindOf n == some .cell)=true
    ·rw [if_pos hc] at e';injection e'
    ·rw [if_neg hc] at e';injection e'
   subst en;exact .inr (hfr _ hm rfl)
  ·have:(k' == NameKind.free)=false:=by
    cases k' <;> first | rfl | exact absurd rfl hf
   rw [this] at e';simp at e';obtain ⟨rfl,rfl⟩:=e';rcases hk with rfl | rfl
   ·exact .inl hm
   ·exact absurd rfl hf
 rcases h with h | h
 ·exact key _ h (.inl rfl)
 ·exact key _ h (.inr rfl)
theorem Av (K:XB) {X:Cx} (h:X.K=K):Bq X (.builtin "len") (fun xs H Q=>∃ p vs,xs=[V.ref p]/\(AA K H p vs\/AM K H p vs)/\Q (.int vs.length) H):=by subst h; exact Eb
theorem By (K:XB) {X:Cx} {tg l:Expr} {tl:TE} (h:X.K=K) (hl:PE X l tl):PI X tg l (Sf K tl):=by subst h; exact Rg hl
theorem Bs (K:XB) {X:Cx} {tg l:Expr} {tl:TE} (h:X.K=K) (hl:PE X l tl):PI X tg l (iTup K tl):=by subst h; exact SO hl
def GtAt (A:Around) (s:Shared) (x y:Value) (b:Bool):Prop:=∀ (prog:Program) (w:World) (E Q:Value->Shared->Prop),Q (.bool b) s->wpAny (model prog w) A (richCompare .Gt x y) Q E s
def Fd (k:Int × List Str):List IK:=.i k.1 :: k.2.map IK.s
theorem Ji {us vs:List Value} {xs:List Str} (r1:Ax (xs.map V.str) us) (j:Nat) (hj:j < us.length):∃ t x,xs[j]? = some x/\us[j]=.str x t:=by
 have l1:=r1.length;rw [X8] at l1;have e:(xs.map V.str)[j]? = some (V.str (xs[j]'(by lia))):=by rw [XU,XA (by lia)]; rfl
 obtain ⟨u,e1,r⟩:=r1.get e;obtain ⟨t,rfl⟩:=r;rw [XA hj] at e1;exact ⟨t,_,XA (by lia),Yi.inj e1⟩
theorem MY {us:List Value}:∀ {xs ys:List Str},Ax (xs.map V.str) us->Ax (ys.map V.str) us->xs=ys:=by
 induction us with
 | nil=>
  intro xs ys r1 r2;cases xs with
  | nil=>cases ys with | nil=>rfl | cons _ _=>cases r2
  | cons _ _=>cases r1
 | cons u us ih=>
  intro xs ys r1 r2;cases xs with
  | nil=>cases r1
  | cons x xs=>
   cases ys with
   | nil=>cases r2
   | cons y ys=>
    cases r1 with
    | cons a1 b1=>
     cases r2 with
     | cons a2 b2=>
      obtain ⟨t,e⟩:=a1;obtain ⟨t',e'⟩:=a2;rw [e] at e';cases e'
      rw [ih b1 b2]
def CmpsG (A:Around) (s:Shared) (z:Bool):List (Value × Value)->Bool->Prop
 | [],r=>r=z
 | p :: rest,r=>∃ e,SeqAt.EqAt A s p.1 p.2 e/\(e=false->GtAt A s p.1 p.2 r)/\(e=true->CmpsG A s z rest r)
section
open PySem.SeqAt
open PySem.AutoSeq1 (wpAny_loadPart')
open PySem.MeetsSeq PySem.MeetsSeq2 PySem.MeetsSeq3
end
def Ga (A:Around) (s:Shared) (z:Bool):List (Value × Value)->Bool->Prop
 | [],r=>r=z
 | p :: rest,r=>∃ e,SeqAt.EqAt A s p.1 p.2 e/\(e=false->Cc A s p.1 p.2 r)/\(e=true->Ga A s z rest r)
section
open PySem.SeqAt
open PySem.AutoSeq1 (wpAny_loadPart')
open PySem.MeetsSeq PySem.MeetsSeq2 PySem.MeetsSeq3
theorem Ni (l b:Addr) (xs ys:Array Value) (n n2:Nat) (dd Ku:Option Addr) (sl IS:Array (Option Value)) (r:Bool) :
  Meets (Builtin.«tuple.__lt__» ⟨[.ref l,.ref b],[]⟩)
   (fun A R s=>s.heap.get? l=some { cls:=.type "tuple",dict:=dd,data:=.seq xs n,slots:=sl }/\s.heap.get? b=some { cls:=.type "tuple",dict:=Ku,data:=.seq ys n2,slots:=IS } /\
    Ga A.in1 s (decide (xs.size < ys.size)) (xs.toList.zip ys.toList) r/\R (.ok (.ret (.bool r))) s):=
 .of_wp fun prog w A R s h=>by
  obtain ⟨hp,g,d,tk,os⟩:=s; obtain ⟨hl,hb,hc,h⟩:=h;have f2:=AutoSeq1.sub_tuple_tuple;wp_walk using wpAny_loadPart' hl,wpAny_loadPart' hb,wpAny_forIn_list _ (fun rest b s'=>b.1=none/\s'=⟨hp,g,d,tk,os⟩/\Ga A.in1 ⟨hp,g,d,tk,os⟩ (decide (xs.size < ys.size)) rest r) _
  case turn=>
   rintro ⟨y,x⟩ rest b s' ⟨Gb,rfl,e,he,h1,h2⟩;refine wpAny_bind (he prog w _ _ ?_);cases ee:e with
   | true=>
    wp_walk
    exact ⟨rfl,rfl,h2 ee⟩
   | false=>
    have hri:=h1 ee prog w;wp_walk using hri;exact ⟨_,rfl,by simpa using h⟩
  case fin=>
   rintro ⟨b1',b2'⟩ s' ⟨Gb,rfl,hz⟩;have Ig:r=decide (xs.size < ys.size):=hz;simp only at Gb;subst Gb Ig;wp_walk;exact ⟨_,rfl,by simpa [Builtin.Tuple.tupleCompareSizes] using h⟩
  case h=>
   exact ⟨rfl,rfl,hc⟩
end
theorem Cc.tupN {A:Around} {s:Shared} {l b:Addr} {xs ys:Array Value} {r:Bool} (hl:IsTup s.heap l xs) (hb:IsTup s.heap b ys) (hu:A.units < cLine) (hc:Ga A.in1 s (decide (xs.size < ys.size)) (xs.toList.zip ys.toList) r):Cc A s (.ref l) (.ref b) r:=fun prog w E Q h=>by
 obtain ⟨⟨cls,dd,data,sl⟩,ho,F4,n,hd⟩:=id hl;obtain ⟨⟨TN,Ku,data2,IS⟩,NZ,Od,n2,hd2⟩:=id hb;simp only at F4 hd Od hd2;subst F4 hd Od hd2;exact richCompare_meets_room (op:=.Lt) ⟨_,ho,rfl⟩ ⟨_,NZ,rfl⟩ PySem.F.slot_tuple_lt PySem.F.entry_tuple_lt (PySem.F.args_tuple_lt_2 _ _) (Ni l b xs ys n n2 dd Ku sl IS r)
  ⟨ho,NZ,hc,show Value.bool _ ≠ Value.notImplemented/\Q (.bool _) s from ⟨(fun x=>nomatch x),h⟩⟩ hu
theorem Iu {A:Around} {s:Shared}:∀ (xs ys:List Str) {us vs:List Value},Ax (xs.map V.str) us->Ax (ys.map V.str) vs->Ga A s (decide (xs.length < ys.length)) (us.zip vs) (Bz (xs.map IK.s) (ys.map IK.s))
 | [],[],_,_,r1,r2=>by cases r1; cases r2; rfl
 | [],y :: ys,_,_,r1,r2=>by cases r1; cases r2; rfl
 | x :: xs,[],_,_,r1,r2=>by cases r1; cases r2; rfl
 | x :: xs,y :: ys,_,_,r1,r2=>by
  cases r1 with
  | cons a1 b1=>
   cases r2 with
   | cons a2 b2=>
    obtain ⟨t,rfl⟩:=a1;obtain ⟨t',rfl⟩:=a2;refine ⟨x == y,SeqAt.EqAt.str_str _ _ _ _,fun e=>?_,fun e=>?_⟩
    ·have e:¬ x=y:=by simpa using e
     have:=Cc.str A s x t y t';rw [Yj,Yj];unfold Bz;rw [if_neg (by intro z; injection z with z; exact e z)];exact this
    ·have e:x=y:=by simpa using e
     rw [Yj,Yj];unfold Bz;rw [if_pos (by rw [e])];have:=Iu xs ys b1 b2 (A:=A) (s:=s);rw [Yv,Yv];simp only [Nat.add_lt_add_iff_right];exact this
section
variable {prog:Program} {w:World} {A:Around} {R:Result->Shared->Prop} {I:Addr} {fp wr:List Addr} {n:Nat} {P:Nat->Value->Prop} {St:Nat->Heap->Prop} {g0:Heap}
end
section
variable {prog:Program} {w:World} {A:Around} {E:Value->Shared->Prop} {s:Shared}
end
theorem GK (bt:Nat->Nat->Bool) (f:Nat->List IK) (h1:∀ i j,bt i j=Bz (f i) (f j)):∀ k,argBest bt k<=k/\∀ j,j<=k->Bz (f j) (f (argBest bt k))=false
 | 0=>⟨XD _,fun j hj=>by
  have:j=0:=by lia
  subst this; exact Hq _⟩
 | k + 1=>by
  obtain ⟨a1,a2⟩:=GK bt f h1 k;simp only [argBest];cases hc:bt (k + 1) (argBest bt k) with
  | true=>
   simp only [if_true];refine ⟨XD _,fun j hj=>?_⟩;by_cases Hr:j<=k
   ·have a3:=a2 j Hr;rw [h1] at hc;cases e:Bz (f j) (f (k + 1)) with
    | false=>rfl
    | true=>rw [MJ _ _ _ e hc] at a3; cases a3
   ·have:j=k + 1:=by lia
    subst this; exact Hq _
  | false=>
   simp only [Yu,if_false];refine ⟨Zg a1,fun j hj=>?_⟩;by_cases Hr:j<=k
   ·exact a2 j Hr
   ·have:j=k + 1:=by lia
    subst this; rw [<-h1]; exact hc
section
variable {X:Cx} {pins:List (Addr × Obj)} {σ:St} {H:Hp} {s:Shared}
end
theorem PQ (K:XB) {X:Cx} (h:X.K=K):EJ X (binaryOp .Add) (RZ K):=by subst h; exact Rj
theorem Jb {X:Cx} (hc:X.calm=true):Bq X (.builtin "min") (fun xs H Q=>∃ (a:Addr) (ns:List Int),xs=[.ref a]/\H a=some (.lst (ns.map V.int))/\ns ≠ [] /\
  ∀ m,m ∈ ns->(∀ x ∈ ns,m<=x)->Q (.int m) H):=by
 intro pins s σ H xs us Q I r h;obtain ⟨a,ns,rfl,ha,hne,q⟩:=h;obtain ⟨u,rfl,ru⟩:=B7 r;cases ru
 obtain ⟨Ao,rv,pl,hz⟩:=I.list (AA.of ha);have il:Ao.length=ns.length:=by rw [<-rv.length,X8]
 have pos:0 < ns.length:=YV.mpr hne;refine Gm (bt:=fun i j=>decide (ns.getD i 0 < ns.getD j 0)) (I.ok.hd hc) pl.isList (by lia) (fun i j vi vj s' Q' E' g hi hj hQ=>?_) fun v h2 tk hv k2=>?_
 ·obtain ⟨x,t,e1,rfl⟩:=DY rv i vi hi;obtain ⟨y,u,e2,rfl⟩:=DY rv j vj hj;dsimp only at hQ;rw [Yd,Yd,e1,e2] at hQ;exact Cc.int _ _ _ _ _ _ _ _ _ _ hQ
 ·obtain ⟨x,t,e1,rfl⟩:=DY rv _ v hv;obtain ⟨b1,b2⟩:=IA (fun i j=>decide (ns.getD i 0 < ns.getD j 0)) (fun i=>ns.getD i 0) (fun i j h=>by have:=of_decide_eq_true h; lia) (fun i j h=>by have:=of_decide_eq_false h; lia) (Ao.length - 1);refine ⟨.int x,H,I.kept k2,⟨t,rfl⟩,q x (XG e1) fun y hy=>?_⟩;obtain ⟨j,hj,rfl⟩:=Yn hy;have:=b2 j (by lia);have e2:ns.getD j 0=ns[j]:=by simp [hj]
  have e3:ns.getD (argBest (fun i j=>decide (ns.getD i 0 < ns.getD j 0)) (Ao.length - 1)) 0=x:=by
   rw [Yd,e1]; rfl
  rw [e2,e3] at this;exact this
def IG (H:Hp) (v:V) (xs:List Str) (ws:List AG) (s:Str):Prop:=∃ (B:Addr) (nb:List (Str × V)),v=.ref B/\H B=some (.dK (sK nb))/\nb.map (·.1)=xs/\∀ y u,(y,u) ∈ nb->∃ n,u=.int n/\Kz ws s y n
def HA:Sp:=fun vs H Q _=>∃ (c m:Addr) (n:Nat) (xs:List Str) (ws:List AG) (Bj Bc:List Fx) (x:V) (d:PyData),vs=[.ref c]/\Lr H c m n xs ws Bj Bc x d /\
 ∀ (H':Hp) (D:Addr) (nv:List (Str × V)),Au H H'->H D=none->H' D=some (.dK (sK nv))->nv.map (·.1)=Bj.map (·.1)->(∀ s v,(s,v) ∈ nv->IG H' v xs ws s)->Q (.ref D) H'
theorem Jx {J:It} {xs:List V} {S:Hp->Prop} {g:TG} {tk tv:TE} {H:Hp} {σ0:St} {R:Addr->Hp->Prop} (ov:Ox J xs S) (ks:List Str) (hk:ks.length=xs.length) (nd:ks.Nodup) (I:Addr->Nat->St->Hp->List (Str × V)->Prop) (big:xs.length < sizeLine)
  (h0:∀ D,H D=none->I D 0 σ0 (upd H D (.dK (sK []))) [])
  (hs:∀ D i σ H' nv,H D=none->I D i σ H' nv->S H'/\H' D=some (.dK (sK nv))/\nv.map (·.1)=ks.take i)
  (turn:∀ D i σ H' nv x k (B:St->V->V->Hp->Prop),H D=none->xs[i]? = some x->ks[i]? = some k->I D i σ H' nv->(∀ A6 v H6,H6 D=some (.dK (sK nv))->I D (i + 1) A6 (upd H6 D (.dK (sK (nv ++ [(k,v)])))) (nv ++ [(k,v)])->B A6 (.str k) v H6) ->
   g x σ H' fun A6 H3=>tk A6 H3 fun y H5=>tv A6 H5 fun v H6=>B A6 y v H6)
  (fin:∀ D σ H' nv,H D=none->I D xs.length σ H' nv->R D H') :
  ∀ D,H D=none->∃ W:Nat->Nat->St->Hp->Prop,(∃ m,W 0 m σ0 (upd H D (.dK []))) /\
   ∀ i m Ar H',W i m Ar H'->(J.stop i H'/\R D H')\/(J.go i H'/\∀ x H2,J.yld i H' x H2->g x Ar H2 fun A6 H3=>JU A6 H3 fun b H4=>
    if b=true then tk A6 H4 (fun y H5=>tv A6 H5 fun v H6=>∃ kvs k,y=kV k/\H6 D=some (.dK kvs)/\kvs.length < sizeLine/\∃ m',m' < m/\W (i + 1) m' A6 (upd H6 D (.dK (BC kvs k v)))) else ∃ m',m' < m/\W (i + 1) m' A6 H4):=by
 intro D hD;refine ⟨fun i m σ H'=>m=xs.length - i/\i<=xs.length/\∃ nv,I D i σ H' nv,⟨xs.length,rfl,Yr _,[],h0 D hD⟩,?_⟩;rintro i m σ H' ⟨rfl,hi,nv,p⟩;obtain ⟨s1,s2,s3⟩:=hs D i σ H' nv hD p;by_cases B0:i < xs.length
 ·refine .inr ⟨ov.go i H' s1 B0,fun x H2 y=>?_⟩;obtain ⟨rfl,ex⟩:=ov.yld i H' x H2 s1 y;have hki:i < ks.length:=by lia
  have ek:ks[i]? = some ks[i]:=XA hki;have nin:ks[i] ∉ nv.map (·.1):=by
   rw [s3];intro O2;obtain ⟨j,hj,e⟩:=Yn O2;rw [Yz] at hj;rw [Zf] at e;have:=GC nd (XA (show j < ks.length by lia)) (by rw [ek,e]);lia
  have nl:nv.length=i:=by
   have:=congrArg Zq s3;rw [X8,Yz] at this;lia
  have e:∀ (F:St->V->V->Hp->Prop) (G:St->Hp->Prop),(fun (A6:St) (H3:Hp)=>JU A6 H3 fun b H4=>if b=true then tk A6 H4 (fun y H5=>tv A6 H5 fun v H6=>F A6 y v H6) else G A6 H4)=fun A6 H3=>tk A6 H3 (fun y H5=>tv A6 H5 fun v H6=>F A6 y v H6):=by
   intro F G;funext A6 H3;show (if true=true then tk A6 H3 (fun y H5=>tv A6 H5 fun v H6=>F A6 y v H6) else G A6 H3)=_
   rw [if_pos rfl]
  rw [e (fun A6 y v H6=>∃ kvs k,y=kV k/\H6 D=some (.dK kvs)/\kvs.length < sizeLine/\∃ m',m' < xs.length - i/\(m'=xs.length - (i + 1)/\i + 1<=xs.length/\∃ DE,I D (i + 1) A6 (upd H6 D (.dK (BC kvs k v))) DE)) (fun A6 H4=>∃ m',m' < xs.length - i/\(m'=xs.length - (i + 1)/\i + 1<=xs.length/\∃ DE,I D (i + 1) A6 H4 DE))];refine turn D i σ H2 nv x ks[i] _ hD ex ek p fun A6 v H6 d6 p6=>?_
  exact ⟨_,Sum.inr ks[i],rfl,d6,by rw [BW]; lia,xs.length - (i + 1),by lia,rfl,B0,nv ++ [(ks[i],v)],by rw [Df nin]; exact p6⟩
 ·have e:i=xs.length:=by lia
  subst e;exact .inl ⟨ov.stop H' s1,fin D σ H' nv hD p⟩
theorem Pl {n:Nat} {g:TG} {te:TE} {H:Hp} {σ0:St} {R:Addr->Hp->Prop} (I:Addr->Nat->St->Hp->List V->Prop) (big:n < sizeLine)
  (h0:∀ D,H D=none->I D 0 σ0 (upd H D (.lst [])) [])
  (hs:∀ D i σ H' acc,H D=none->I D i σ H' acc->H' D=some (.lst acc)/\acc.length=i)
  (turn:∀ D i σ H' acc (B:St->V->Hp->Prop),H D=none->i < n->I D i σ H' acc->(∀ A6 v H5,H5 D=some (.lst acc)->I D (i + 1) A6 (upd H5 D (.lst (acc ++ [v]))) (acc ++ [v])->B A6 v H5)->g (.int (0 + (i:Int))) σ H' fun A6 H3=>te A6 H3 (B A6))
  (fin:∀ D σ H' acc,H D=none->I D n σ H' acc->R D H') :
  ∀ D,H D=none->∃ W:Nat->Nat->St->Hp->Prop,(∃ m,W 0 m σ0 (upd H D (.lst []))) /\
   ∀ i m Ar H',W i m Ar H'->((QI 0 n).stop i H'/\R D H')\/((QI 0 n).go i H'/\∀ x H2,(QI 0 n).yld i H' x H2->g x Ar H2 fun A6 H3=>JU A6 H3 fun b H4=>
    if b=true then te A6 H4 (fun v H5=>∃ acc,H5 D=some (.lst acc)/\acc.length < sizeLine/\∃ m',m' < m/\W (i + 1) m' A6 (upd H5 D (.lst (acc ++ [v])))) else ∃ m',m' < m/\W (i + 1) m' A6 H4):=by
 intro D hD;refine ⟨fun i m σ H'=>m=n - i/\i<=n/\∃ acc,I D i σ H' acc,⟨n,rfl,Yr _,[],h0 D hD⟩,?_⟩;rintro i m σ H' ⟨rfl,hi,acc,p⟩;obtain ⟨s2,s3⟩:=hs D i σ H' acc hD p;by_cases B0:i < n
 ·refine .inr ⟨B0,fun x H2 ⟨e1,e2⟩=>?_⟩;subst e1 e2;have e:∀ (F:St->V->Hp->Prop) (G:St->Hp->Prop),(fun (A6:St) (H3:Hp)=>JU A6 H3 fun b H4=>if b=true then te A6 H4 (F A6) else G A6 H4)=fun A6 H3=>te A6 H3 (F A6):=by
   intro F G;funext A6 H3;show (if true=true then te A6 H3 (F A6) else G A6 H3)=_
   rw [if_pos rfl]
  rw [e (fun A6 v H5=>∃ acc,H5 D=some (.lst acc)/\acc.length < sizeLine/\∃ m',m' < n - i/\(m'=n - (i + 1)/\i + 1<=n/\∃ IB,I D (i + 1) A6 (upd H5 D (.lst (acc ++ [v]))) IB)) (fun A6 H4=>∃ m',m' < n - i/\(m'=n - (i + 1)/\i + 1<=n/\∃ IB,I D (i + 1) A6 H4 IB))];refine turn D i σ H2 acc _ hD B0 p fun A6 v H5 d5 p5=>?_
  exact ⟨acc,d5,by lia,n - (i + 1),by lia,rfl,B0,_,p5⟩
 ·have e:i=n:=by lia
  subst e;exact .inl ⟨XD _,fin D σ H' acc hD p⟩
theorem Jt {z:Str} (l u:Option Int) (h:Q5 z):Q5 (Txt.slice z l u):=by
 unfold Txt.slice;split
 ·exact h
 ·intro c hc;have F4:c ∈ (Builtin.Str.strSliceIndices l u 1 z.length).filterMap (z.cps[·]?):=by simpa using hc
  obtain ⟨i,_,e⟩:=Zo.mp F4;exact h c (by rw [ZV]; exact ZR e)
theorem OY {z:Str} {a:Int} (h0:0<=a) (h1:a<=z.length):(Txt.slice z none (some a)).length<=a.toNat:=by
 have e:(Builtin.Str.strSliceIndices none (some a) 1 z.length).length=a.toNat:=by
  unfold Builtin.Str.strSliceIndices sliceRange;simp only [show (1:Int) > 0 by decide,if_true,X8,Zd];(split <;> (try split) <;> (try split) <;> (try simp only [bq]) <;> lia)
 unfold Txt.slice;split
 ·rename_i q
  rw [e] at q;have:a.toNat=z.length:=by simpa using q
  lia
 ·show (aZ _ (Builtin.Str.strSliceIndices none (some a) 1 z.length)).toArray.size<=_
  rw [Yf,<-e];exact ZN _ _
theorem L9 {z:Str} {a:Int} (h0:0<=a) (h1:a<=z.length):(Txt.slice z (some a) none).length<=z.length - a.toNat:=by
 have e:(Builtin.Str.strSliceIndices (some a) none 1 z.length).length=z.length - a.toNat:=by
  unfold Builtin.Str.strSliceIndices sliceRange;simp only [show (1:Int) > 0 by decide,if_true,X8,Zd];(split <;> (try split) <;> (try split) <;> (try simp only [bq]) <;> lia)
 unfold Txt.slice;split
 ·rename_i q
  rw [e] at q;have:z.length - a.toNat=z.length:=by simpa using q
  lia
 ·show (aZ _ (Builtin.Str.strSliceIndices (some a) none 1 z.length)).toArray.size<=_
  rw [Yf,<-e];exact ZN _ _
theorem PJ {X:Cx}:EJ X (binaryOp .Mult) (fun x y H Q=>∃ z n,x=.str z/\y=.int n/\(n=0\/n=1)/\Q (.str (if n=1 then z else Str.empty)) H):=by
 intro pins s σ H x y v u Q I rx ry h;obtain ⟨z,n,rfl,rfl,hn,q⟩:=h;obtain ⟨t,rfl⟩:=rx;obtain ⟨t',rfl⟩:=ry;rcases hn with rfl | rfl
 ·exact PySem.P.mul_str_none (by decide) (by decide) ⟨.str Str.empty,H,I.tok _,⟨_,rfl⟩,q⟩
 ·refine PySem.P.mul_str (by decide) (fun _ z=>by simp at z) (fun _ z=>by simp at z) ?_;rw [if_neg (by decide),if_pos (by simp)];exact ⟨.str z,H,I,⟨_,rfl⟩,q⟩
section
variable {prog:Program} {w:World} {A:Around} {E:Value->Shared->Prop} {s:Shared}
end
theorem J8 (a b:Str):BG a b=BG b a:=by
 unfold BG;split
 ·rename_i h
  rw [if_neg (fun z=>Zr h z)]
 ·rename_i h
  split
  ·rfl
  ·rename_i h'
   exact Ce h h'
theorem JA (a b:Str):BH a b=BH b a:=by
 unfold BH;split
 ·rename_i h
  rw [if_neg (fun z=>Zr h z)]
 ·rename_i h
  split
  ·rfl
  ·rename_i h'
   exact (Ce h h').symm
theorem Bp (K:XB) {X:Cx} (h:X.K=K):Bq X (.type "tuple") (fun xs H Q=>∃ p ys,xs=[.ref p]/\((AA K H p ys/\∀ l,H l=none->Q (.ref l) (upd H l (.tup ys)))\/(AM K H p ys/\Q (.ref p) H))):=by subst h; exact IY
end L2
namespace L2
open PySem PySem.Spec PySem.W PyProof.Rows
end L2
namespace L2
open PySem PySem.Spec PyProof.Rows
def CL (l:List Str):Prop:=l.Pairwise fun a b=>a.cps.toList < b.cps.toList
theorem CL.nodup {l:List Str} (h:CL l):l.Nodup:=List.Pairwise.imp (fun {a b} z e=>by subst e; exact Cn _ z) h
theorem CL.pw {l:List Str} (h:CL l):l.Pairwise fun a b=>¬ b.cps.toList < a.cps.toList:=List.Pairwise.imp (fun {a b} z=>Zr z) h
theorem Nw {l:List Str} (h:l.Pairwise fun a b=>¬ b.cps.toList < a.cps.toList) (nd:l.Nodup):CL l:=by
 induction l with
 | nil=>exact .nil
 | cons x l ih=>
  rw [YM] at h;rw [Y5] at nd;refine YM.mpr ⟨fun y hy=>?_,ih h.2 nd.2⟩;by_cases z:x.cps.toList < y.cps.toList
  ·exact z
  ·exact absurd (Ce (h.1 y hy) z) (fun e=>nd.1 (e ▸ hy))
theorem DT {ss Ei:List Str} (nd:Ei.Nodup) (mem:∀ k,k ∈ Ei ↔ k ∈ ss) (srt:sortedS Ei=true):Ei=ss ↔ CL ss:=
 ⟨fun e=>e ▸ Nw (Gg srt) nd,fun h=>Js (Gg srt) h.pw (KH nd h.nodup mem)⟩
theorem Ec.same {K:XB} {H H':Hp} {x:V} {t:Value} (h:Ec K H x t) (s:Au H H'):Ec K H' x t:=by
 cases h with
 | non=>exact .non
 | bl x=>exact .bl x
 | int i=>exact .int i
 | str x=>exact .str x
 | flt x=>exact .flt x
 | lst e=>exact .lst (s _ _ e)
 | frz e=>exact .frz (s _ _ e)
 | tup e=>exact .tup (s _ _ e)
 | dK e=>exact .dK (s _ _ e)
 | dT e=>exact .dT (s _ _ e)
 | ins e c h1 h2 h3 h4=>exact .ins (s _ _ e) c h1 h2 h3 h4
theorem Le:∀ (ss:List Str) (ds:List PyData),PyData.eqvAll (ss.map PyData.str) ds=true ↔ ds=ss.map PyData.str
 | [],[]=>by simp [PyData.eqvAll]
 | [],d :: ds=>by simp [PyData.eqvAll]
 | x :: ss,[]=>by simp [PyData.eqvAll]
 | x :: ss,d :: ds=>by
  rw [Yj,PyData.eqvAll,YC,Le ss ds];constructor
  ·rintro ⟨h,rfl⟩;cases d with
   | str y=>
    rw [PyData.eqv] at h;rw [eq_of_beq h]
   | _=>rw [PyData.eqv] at h; cases h
  ·intro e;injection e with e1 e2;subst e1;refine ⟨?_,e2⟩;rw [PyData.eqv];simp
theorem Lf (ss:List Str) (ds:List PyData):PyData.eqv (.list (ss.map PyData.str)) (.list ds)=true ↔ ds=ss.map PyData.str:=by
 rw [PyData.eqv]; exact Le ss ds
theorem Mq {ss Ei:List Str} (h:ss.map PyData.str=Ei.map PyData.str):ss=Ei:=by
 induction ss generalizing Ei with
 | nil=>cases Ei with
  | nil=>rfl
  | cons _ _=>cases h
 | cons x ss ih=>cases Ei with
  | nil=>cases h
  | cons y Ei=>
   injection h with h1 h2;injection h1 with h1;rw [h1,ih h2]
end L2
namespace HT
open PySem PySem.Spec PyProof.Rows
section
variable {prog:Program} {w:World} {A:Around} {E:Value->Shared->Prop} {s:Shared}
end
end HT
namespace L2
open PySem PySem.Spec PyProof.Rows
theorem MZ {xs:List V} {Ao:List Value} (r:Ax xs Ao):∀ {ys:List Value},(∀ (j:Nat) (y:Value),ys[j]? = some y->∃ i:Nat,Ao.toArray[i]? = some y)->∃ zs:List V,Ax zs ys/\∀ z ∈ zs,z ∈ xs:=by
 have back:∀ {xs:List V} {Ao:List Value},Ax xs Ao->∀ (i:Nat) (y:Value),Ao[i]? = some y->∃ z ∈ xs,A3 z y:=by
  intro xs Ao r;induction r with
  | nil=>intro i y e; simp at e
  | cons a b ih=>
   intro i y e;cases i with
   | zero=>
    simp only [YF,Yi.injEq] at e;subst e;exact ⟨_,Yh,a⟩
   | succ i=>
    obtain ⟨z,hz,q⟩:=ih i y (by simpa using e);exact ⟨z,Yg _ hz,q⟩
 intro ys;induction ys with
 | nil=>intro _; exact ⟨[],.nil,fun z hz=>nomatch hz⟩
 | cons y ys ih=>
  intro h;obtain ⟨i,e⟩:=h 0 y rfl;obtain ⟨z,hz,q⟩:=back r i y (by simpa using e);obtain ⟨zs,r2,m⟩:=ih fun j u e=>h (j + 1) u (by simpa using e)
  exact ⟨z :: zs,.cons q r2,fun v hv=>(XC.mp hv).elim (fun e=>e ▸ hz) (m v)⟩
section
variable {X:Cx} {Φ:St->Hp->Prop} {a b:Expr} {pos:Pos} {n m:Nat}
end
section
variable {Φ:St->Hp->Prop} {n:Nat}
end
theorem KN {X:Cx}:EJ X (compareOp .IsNot) (fun x y H Q=>∃ b c,x=.bl b/\y=.bl c/\Q (.bl (!(b == c))) H):=by
 intro pins s σ H x y v u Q I rx ry h;obtain ⟨b,c,rfl,rfl,q⟩:=h;cases rx
 cases ry
 have e:EP X pins σ Q (.bool (!(b == c))) s:=⟨.bl _,H,I,rfl,q⟩
 cases b <;> cases c <;> exact wpAny_pure e
def oI:Option Int->V
 | none=>.non
 | some n=>.int n
def MV (H:Hp) (A:Addr) (G:Str->Str->Option V) (c:Nat):Prop:=∃ kvs:List (List AO × V),H A=some (.dT kvs)/\kvs.length<=c/\∀ x y,Bi kvs [Sum.inr x,Sum.inr y]=G x y
theorem MV.same {H H':Hp} {A:Addr} {G:Str->Str->Option V} {c:Nat} (h:MV H A G c) (s:Au H H'):MV H' A G c:=let ⟨kvs,a,b,d⟩:=h; ⟨kvs,s _ _ a,b,d⟩
theorem MV.up {H:Hp} {A:Addr} {G:Str->Str->Option V} {c c':Nat} (h:MV H A G c) (l:c<=c'):MV H A G c':=let ⟨kvs,a,b,d⟩:=h; ⟨kvs,a,Yo b l,d⟩
def LA (G:Str->Str->Option V) (x y:Str) (v:V):Str->Str->Option V:=fun a b=>if a=x/\b=y then some v else G a b
theorem MV.get {H:Hp} {A t:Addr} {G:Str->Str->Option V} {c:Nat} (h:MV H A G c) {x y:Str} (ht:H t=some (.tup [.str x,.str y])):BU H A (.ref t) (G x y):=by
 obtain ⟨kvs,a,_,d⟩:=h;rw [<-d x y];exact BU.t (k:=[Sum.inr x,Sum.inr y]) a ht
theorem MV.put {H:Hp} {A t:Addr} {G:Str->Str->Option V} {c:Nat} (h:MV H A G c) (hc:c < sizeLine) {x y:Str} {v:V} (ht:H t=some (.tup [.str x,.str y])):∃ H',Em H A (.ref t) v H'/\MV H' A (LA G x y v) (c + 1)/\∃ kvs,H'=upd H A (.dT kvs):=by
 obtain ⟨kvs,a,b,d⟩:=h;refine ⟨_,Em.t (k:=[Sum.inr x,Sum.inr y]) a ht (by lia),⟨_,Ab,?_,fun p q=>?_⟩,_,rfl⟩
 ·have:=CG kvs [Sum.inr x,Sum.inr y] v;lia
 ·rw [OE];unfold LA;by_cases e:p=x/\q=y
  ·obtain ⟨rfl,rfl⟩:=e;simp
  ·have e':¬ ([Sum.inr p,Sum.inr q]:List AO)=[Sum.inr x,Sum.inr y]:=fun z=>by
    simp only [Zi.injEq,Sum.inr.injEq,and_true] at z;exact e z
   rw [if_neg e',if_neg e,d]
def MO (H:Hp) (A:Addr) (xs:List Str) (M:Str->Str->Option Int) (c:Nat):Prop:=∃ G,MV H A G c/\(∀ x ∈ xs,∀ y ∈ xs,G x y=some (oI (M x y)))/\∀ x y,¬ (x ∈ xs/\y ∈ xs)->G x y=none
theorem MO.same {H H':Hp} {A:Addr} {xs:List Str} {M:Str->Str->Option Int} {c:Nat} (h:MO H A xs M c) (s:Au H H'):MO H' A xs M c:=let ⟨G,a,b⟩:=h; ⟨G,a.same s,b⟩
theorem MO.up {H:Hp} {A:Addr} {xs:List Str} {M:Str->Str->Option Int} {c c':Nat} (h:MO H A xs M c) (l:c<=c'):MO H A xs M c':=let ⟨G,a,b⟩:=h; ⟨G,a.up l,b⟩
theorem MO.get {H:Hp} {A t:Addr} {xs:List Str} {M:Str->Str->Option Int} {c:Nat} (h:MO H A xs M c) {x y:Str} (hx:x ∈ xs) (hy:y ∈ xs) (ht:H t=some (.tup [.str x,.str y])):BU H A (.ref t) (some (oI (M x y))):=by
 obtain ⟨G,a,b,_⟩:=h;rw [<-b x hx y hy];exact a.get ht
theorem MO.put {H:Hp} {A t:Addr} {xs:List Str} {M:Str->Str->Option Int} {c:Nat} (h:MO H A xs M c) (hc:c < sizeLine) {x y:Str} (hx:x ∈ xs) (hy:y ∈ xs) {n:Int} (ht:H t=some (.tup [.str x,.str y])):∃ H',Em H A (.ref t) (.int n) H'/\MO H' A xs (JY M x y n) (c + 1)/\∃ kvs,H'=upd H A (.dT kvs):=by
 obtain ⟨G,a,b,d⟩:=h;obtain ⟨H',dp,mv,e⟩:=a.put hc (v:=.int n) ht;refine ⟨H',dp,⟨_,mv,fun p hp q hq=>?_,fun p q hn=>?_⟩,e⟩
 ·unfold LA JY;split
  ·rfl
  ·exact b p hp q hq
 ·unfold LA;rw [if_neg (fun z=>hn ⟨by rw [z.1]; exact hx,by rw [z.2]; exact hy⟩)];exact d p q hn
theorem MO.md {H:Hp} {A:Addr} {xs:List Str} {M:Str->Str->Option Int} {c:Nat} (h:MO H A xs M c) (full:∀ x ∈ xs,∀ y ∈ xs,∃ n,M x y=some n):MD H A (fun x y=>if x ∈ xs/\y ∈ xs then M x y else none) c:=by
 obtain ⟨G,⟨kvs,a,b,d⟩,e,f⟩:=h;refine ⟨kvs,a,b,fun x y=>?_⟩;rw [d x y];dsimp only;by_cases hxy:x ∈ xs/\y ∈ xs
 ·obtain ⟨n,hn⟩:=full x hxy.1 y hxy.2;rw [e x hxy.1 y hxy.2,if_pos hxy,hn];rfl
 ·rw [f x y hxy,if_neg hxy];rfl
open Classical in
noncomputable def dst (ws:List AG) (x y:Str):Int:=if h:∃ n,Kz ws x y n then h.choose else 0
theorem Kz.dst {ws:List AG} {x y:Str} {n:Int} (h:Kz ws x y n):dst ws x y=n:=by
 unfold L2.dst;rw [dif_pos ⟨n,h⟩];exact Kz.uniq (Exists.choose_spec (⟨n,h⟩:∃ n,Kz ws x y n)) h
theorem IG.get {H:Hp} {v:V} {xs:List Str} {ws:List AG} {s y:Str} (h:IG H v xs ws s) (nd:xs.Nodup) (hy:y ∈ xs):∃ B,v=.ref B/\BU H B (.str y) (some (.int (dst ws s y))):=by
 obtain ⟨B,nb,rfl,hB,ks,hd⟩:=h;rw [<-ks] at hy;obtain ⟨⟨z,u⟩,hm,e⟩:=Ya.mp hy;have e':z=y:=e;subst e';obtain ⟨n,rfl,d⟩:=hd z u hm;rw [d.dst];exact ⟨B,rfl,.inl ⟨_,Sum.inr z,.inl hB,rfl,(CV (nv:=nb) (by rw [ks]; exact nd) hm).symm⟩⟩
theorem EM.get {H:Hp} {A t:Addr} {xs:List Str} {ws:List AG} {y z:Str} (h:EM H A xs ws) (hy:y ∈ xs) (hz:z ∈ xs) (ht:H t=some (.tup [.str y,.str z])):BU H A (.ref t) (some (.int (dst ws z y)))/\0<=dst ws z y/\dst ws z y < 2 ^ 300:=by
 obtain ⟨M,c,md,hm⟩:=h;obtain ⟨n,e,d,n0,n1⟩:=hm y hy z hz;have:=md.get ht;rw [e] at this;rw [d.symm.dst];exact ⟨this,n0,n1⟩
end L2
namespace L2
open PySem PySem.Builtin.Str PySem.StrLaws
end L2
namespace L2
open PySem PySem.Spec PyProof.Rows PySem.NumText
theorem Je {X:Cx}:Bq X (.type "int") (fun xs H Q=>∃ (x:Str) (n:Int),xs=[.str x]/\PySem.intText? x=some n/\x.length<=640/\Q (.int n) H):=by
 intro pins s σ H xs us Q I r h;obtain ⟨x,n,rfl,e,l,q⟩:=h;obtain ⟨u,rfl,t,rfl⟩:=B7 r;exact PySem.W.KIN.call_text e l ⟨.int n,H,I.tok _,⟨_,rfl⟩,q⟩
end L2
namespace L2
open PySem PySem.Spec PyProof.Rows
theorem EL.same {K:XB} {H H':Hp} {v:V} (h:EL K H v) (s:Au H H'):EL K H' v:=let ⟨ty,a,b⟩:=h; ⟨ty,a.same s,b⟩
section
variable {prog:Program} {w:World} {A:Around} {E:Value->Shared->Prop} {s:Shared}
end
section
variable {prog:Program} {w:World} {A:Around} {E:Value->Shared->Prop} {s:Shared}
end
end L2
namespace HT
open PySem PySem.Spec PyProof.Rows
section
variable {prog:Program} {w:World} {A:Around} {E:Value->Shared->Prop} {s:Shared}
end
end HT
namespace L2
open PySem PySem.Spec PyProof.Rows
end L2
namespace L2
open PySem PySem.Spec PySem.W PyProof.Rows
section
variable {prog:Program} {w:World} {A:Around} {E:Value->Shared->Prop} {s:Shared} {κ:SortKind} {lt:Keyed->Keyed->Bool} {a0:Array Keyed}
theorem FL {n:Nat} (h1:1<=n) (QE:n < 64):(sortPriv% PySem.Builtin.minRun) n n 0=n:=by
 obtain ⟨f,hf⟩:∃ f,n=f + 1:=⟨n - 1,by lia⟩
 have:minRun' (f + 1) n 0=n:=by rw [minRun'_succ,if_pos QE]; rfl
 rw [<-hf] at this;exact this
theorem Hv {st:SortSt} {Q:Unit->SortSt->Prop} (an:Uh prog w A s κ lt a0) (hk:kindOf st=κ) (ha:arrOf st=a0) (hf:failedOf st=none) (hpe:pendingOf st=#[]) (h2:1<=a0.size) (QE:a0.size < 64)
  (h:∀ AV,(arrOf AV).Perm a0->failedOf AV=none->Q () AV):wpS (model prog w) A E s sortRuns' Q st:=by
 have hp:(arrOf st).Perm a0:=by rw [ha]
 refine wpS_bind (wpS_get ?_);dsimp only;have ez:((sortPriv% PySem.Builtin.SortState.a) st).size=a0.size:=by rw [show (sortPriv% PySem.Builtin.SortState.a) st=a0 from ha]
 rw [ez];refine wpS_bind (wpS_mono (wpS_forRange (I:=fun x c AV=>(x=0/\c=(none,0)/\AV=st)\/(1<=x/\c=(none,a0.size)/\(arrOf AV).Perm a0/\failedOf AV=none/\(pendingOf AV).size<=1 ))
  (Q:=fun c AV=>c=(none,a0.size)/\(arrOf AV).Perm a0/\failedOf AV=none/\(pendingOf AV).size<=1 ) ?step ?fin (.inl ⟨rfl,rfl,rfl⟩)) ?post)
 case fin=>
  rintro c AV (⟨hx,_,_⟩ | ⟨_,r⟩)
  ·lia
  ·exact r
 case step=>
  rintro x c AV _ hx (⟨rfl,rfl,rfl⟩ | ⟨_,rfl,r⟩)
  ·dsimp only;rw [if_neg (by lia)];refine wpS_bind (IL an hk hp (by lia) (by lia) fun m ys k1 m1 m2=>?_);dsimp only;have hpd:∀ zs,(pendingOf (setArr AV zs)).back? = none:=fun zs=>by
    show (pendingOf AV).back? = none
    rw [hpe];rfl
   by_cases hm:m < (sortPriv% PySem.Builtin.minRun) a0.size a0.size 0
   ·rw [if_pos hm];refine wpS_bind (wpS_lift (wpAny_rule ⟨rfl,?_⟩));refine wpS_bind (GV (st:=setArr AV ys) an hk (k1.1.trans hp) (by lia) m1 (by lia) fun zs k2=>?_);simp only [bp,Yu,if_false];refine wpS_bind (wpS_get ?_);rw [hpd];dsimp only;have emin:min (a0.size - 0) ((sortPriv% PySem.Builtin.minRun) a0.size a0.size 0)=a0.size:=by rw [FL h2 QE]; lia
    rw [emin];exact wpS_bind (wpS_modify (wpS_pure (.inr ⟨by lia,by rw [Zn],k2.1.trans (k1.1.trans hp),hf,by show ((pendingOf AV).push _).size<=1; rw [hpe]; exact XD 1 ⟩)))
   ·rw [if_neg hm];rw [FL h2 QE] at hm;have em:m=a0.size:=by lia
    refine wpS_bind (wpS_get ?_);rw [hpd];dsimp only;rw [em];exact wpS_bind (wpS_modify (wpS_pure (.inr ⟨by lia,by rw [Zn],k1.1.trans hp,hf,by show ((pendingOf AV).push _).size<=1; rw [hpe]; exact XD 1 ⟩)))
  ·dsimp only;rw [if_pos (XD _)];exact wpS_pure ⟨rfl,r⟩
 case post=>
  rintro c AV ⟨rfl,r1,r2,r3 ⟩;dsimp only;refine wpS_bind (wpS_mono (wpS_forRange (I:=fun _ c GX=>GX=AV/\c=(none,())) (Q:=fun c GX=>GX=AV/\c=(none,())) ?_ (fun _ _ hh=>hh) ⟨rfl,rfl⟩) ?_)
  ·rintro x c GX _ _ ⟨rfl,rfl⟩;refine wpS_bind (wpS_get ?_);rw [if_pos r3];exact wpS_pure ⟨rfl,rfl⟩
  ·rintro c GX ⟨rfl,rfl⟩;exact wpS_pure (h _ r1 r2 )
theorem LM {a:Addr} {vs:List Value} {n:Nat} {P:Fin->Shared->Prop} (lies:s.heap.get? a=some (seqObj "list" vs.toArray n)) (few:vs.length<=sizeLine) (QE:vs.length < 64)
  (cm:2<=vs.length->∀ h',(∀ b o,b ≠ a->s.heap.get? b=some o->h'.get? b=some o) ->
   ∃ κ,(∀ (Q:SortKind->Shared->Prop) (E:Value->Shared->Prop),Q κ { s with heap:=h' }->wpAny (model prog w) A (keyKind' vs.toArray) Q E { s with heap:=h' })/\Uh prog w A { s with heap:=h' } κ lt (pairsOf vs))
  (k:∀ out:List Value,out.Perm vs->P (.done (.ret .none)) { s with heap:=sortedHeap s.heap a vs out.toArray }) :
  wpAny (model prog w) A (Builtin.«list.sort» ⟨[.ref a],[]⟩) P E s:=by
 have alt:=XE lies;rw [list_sort_plain];refine wpAny_bind (listItems_at lies rfl (wpAny_bind (listUpdate_at lies rfl ?_ (by simpa using few) (Yr _))));obtain ⟨c,Se⟩:∃ c,(s.heap.update a (Obj.mapSeq fun _=>#[])).get? a=some (seqObj "list" #[] c):=⟨_,get?_update_seq lies (fun _=>#[])⟩
 refine wpAny_bind (seqEpoch_at Se rfl (wpAny_bind (wpAny_newTuple (wpAny_bind (wpAny_newList (wpAny_holding ?_) (Yr _))) (by simpa using few))));obtain ⟨h3,Wh⟩:∃ h3,h3=((s.heap.update a (Obj.mapSeq fun _=>(#[]:Array Value))).push (seqObj "tuple" vs.toArray 0)).push (seqObj "list" #[] 0):=⟨_,rfl⟩
 have MI:h3.get? a=some (seqObj "list" #[] c):=by
  rw [Wh];exact X9 _ (X9 _ Se)
 have Va:∀ b o,b ≠ a->s.heap.get? b=some o->h3.get? b=some o:=fun b o hb e=>by
  rw [Wh];exact X9 _ (X9 _ ((Heap.get?_update_ne _ _ _ _ hb).trans e))
 show wpAny (model prog w) A _ P E { s with heap:=((s.heap.update a (Obj.mapSeq fun _=>(#[]:Array Value))).push (seqObj "tuple" vs.toArray 0)).push (seqObj "list" #[] 0) }
 rw [<-Wh];have last:∀ AV:SortSt,(arrOf AV).Perm (pairsOf vs)->P (.done (.ret .none)) { s with heap:=h3.update a (Obj.mapSeq fun _=>(arrOf AV).map (·.2)) }:=fun AV hp=>by
  have e:(arrOf AV).map (·.2)=((arrOf AV).toList.map (·.2)).toArray:=by apply aL.mp; simp
  have q:=k _ (PH hp);rw [<-e] at q;rw [Wh];exact q
 have zl:∀ AV:SortSt,(arrOf AV).Perm (pairsOf vs)->((arrOf AV).map (·.2)).size<=sizeLine + 1:=fun AV hp=>by
  rw [Array.size_map,hp.size_eq,pairsOf_size];lia
 have zv:vs.toArray.size=vs.length:=rfl;dsimp only;rcases ZZ vs.toArray.size 2 with lo | hi
 ·rw [if_pos lo,if_pos lo];refine wpAny_bind (wpAny_pure ?_);rw [StateT.run_pure];refine wpAny_bind (wpAny_pure (wpAny_bind (seqEpoch_at MI rfl ?_)));have p0:(arrOf (SortSt.mk' general' (vs.toArray.zip vs.toArray) #[] 7 none)).Perm (pairsOf vs):=Array.Perm.refl _;refine wpAny_bind (listUpdate_at MI rfl ?_ (Yr _) (zl _ p0));rw [bne_self_eq_false];exact wpAny_pure (last _ p0)
 ·rw [if_neg (by lia),if_neg (by lia)];obtain ⟨κ,k1,k2⟩:=cm (by lia) h3 Va;refine wpAny_bind (k1 _ _ ?_);refine wpAny_bind (wpAny_mono (Hv (a0:=pairsOf vs) (st:=SortSt.mk' κ (vs.toArray.zip vs.toArray) #[] 7 none)
   (Q:=fun _ AV=>(arrOf AV).Perm (pairsOf vs)/\failedOf AV=none) k2 rfl rfl rfl rfl (by rw [pairsOf_size]; lia) (by rw [pairsOf_size]; lia) fun AV a1 a2=>⟨a1,a2⟩) ?_ fun _ _ e=>e)
  rintro ⟨u,AV⟩ s' ⟨rfl,hp,hf⟩;refine wpAny_bind (seqEpoch_at MI rfl (wpAny_bind (listUpdate_at MI rfl ?_ (Yr _) (zl _ hp))));dsimp only;rw [hf,bne_self_eq_false];exact wpAny_pure (last AV hp)
end
end L2
namespace L2
open PySem PySem.Spec PyProof.Rows
theorem NH (K:XB) {X:Cx} (h:X.K=K):EJ X (compareOp .NotIn) (fun x y H Q=>∃ p xs,y=.ref p/\(AA K H p xs\/AM K H p xs)/\E9 x=true/\xs.all E9=true/\Q (.bl (!inV x xs)) H):=by subst h; exact Kh
section
variable {H:Hp} {c m o t T:Addr} {n:Nat} {xs:List Str} {ws:List AG} {Bj Bc:List Fx} {x:V} {d:PyData} {ss:List Str} {zs:List (Str × Str)} {qs:List Fx} {lv:Int}
end
def Kf (a:Addr) (i l:Int):List V:=[.ref a,.int i,.int l]
theorem M3 (a:Addr) (i l:Int):Jf (Kf a i l) 0=some (.ref a):=rfl
theorem pn5_1 (a:Addr) (i l:Int):Jf (Kf a i l) 1=some (.int i):=rfl
theorem Pw (a:Addr) (i l:Int):Jf (Kf a i l) 2=some (.int l):=rfl
def CP (K:XB) (H:Hp) (p:Addr):Prop:=∃ (a:Addr) (ns:List Int) (i l:Int),H p=some (.lst (Kf a i l))/\Mf K H a (ns.map V.int)/\ns.length<=63/\0<=i/\0<=l
theorem CP.ne {K:XB} {H:Hp} {p q:Addr} (h:CP K H p) (e:H q=none):q ≠ p:=by
 obtain ⟨a,ns,i,l,h,_⟩:=h;intro z; subst z; rw [h] at e; cases e
theorem Mf.keep {K:XB} {H H':Hp} {a p:Addr} {xs:List V} {ys:List V} (h:Mf K H a xs) (hp:H p=some (.lst ys)) (k:AI p H H'):Mf K H' a xs:=by
 rcases h with ⟨ob,h⟩ | h
 ·refine .inl ⟨ob,k _ _ (fun z=>?_) h⟩;subst z;rw [hp] at h;cases h
 ·exact .inr h
theorem CP.same {K:XB} {H H':Hp} {p:Addr} (h:CP K H p) (s:Au H H'):CP K H' p:=by
 obtain ⟨a,ns,i,l,h,sc,r⟩:=h;exact ⟨a,ns,i,l,s _ _ h,sc.keep h (AI.of_same s),r⟩
theorem CP.other {K:XB} {H:Hp} {p D:Addr} {ys zs:List V} (h:CP K H p) (hD:H D=some (.lst ys)) (ne:D ≠ p):CP K (upd H D (.lst zs)) p:=by
 obtain ⟨a,ns,i,l,h,sc,r⟩:=h;refine ⟨a,ns,i,l,by rw [Af ne.symm]; exact h,?_,r⟩;rcases sc with ⟨ob,h'⟩ | h'
 ·refine .inl ⟨ob,?_⟩;rw [Af (by intro z; subst z; rw [hD] at h'; cases h')];exact h'
 ·exact .inr h'
theorem CP.put {K:XB} {H:Hp} {p a:Addr} {ns:List Int} {i l i' l':Int} (hp:H p=some (.lst (Kf a i l))) (sc:Mf K H a (ns.map V.int)) (ln:ns.length<=63) (i0:0<=i') (l0:0<=l'):CP K (upd H p (.lst (Kf a i' l'))) p:=
 ⟨a,ns,i',l',Ab,sc.keep hp AI.upd,ln,i0,l0⟩
theorem Cq {K:XB} {H H':Hp} {p:Addr} (hP:CP K H p) (k:AI p H H'):∀ b ys,H b=some (.tup ys)->H' b=some (.tup ys):=fun b ys z=>k b _ (by
 obtain ⟨_,_,_,_,q,_⟩:=hP;exact Ba z q (fun y=>by cases y)) z
def CQ (K:XB):Sp:=fun vs H Q _=>∃ (p:Addr) (m:Int),vs=[.ref p,.int m]/\CP K H p/\0 < m/\m < 1073741824/\∀ (d:Int) (H':Hp),CP K H' p->AI p H H'->0<=d->d < m->Q (.int d) H'
def L8 (K:XB):Sp:=fun vs H Q _=>∃ p:Addr,vs=[.ref p]/\CP K H p/\∀ (d:Int) (H':Hp),CP K H' p->AI p H H'->1<=d->d < 10 ^ 30->Q (.int d) H'
def K8 (K:XB):Sp:=fun vs H Q _=>∃ (p:Addr) (n:Nat),vs=[.ref p,.int n]/\CP K H p/\n<=26 /\
 ∀ (H':Hp) (D:Addr) (xs:List Str),CP K H' p->AI p H H'->H D=none->H' D=some (.lst (xs.map V.str))->xs.length=n->xs.Nodup->(∀ x ∈ xs,Bb x=true)->Q (.ref D) H'
def JV (K:XB):Sp:=fun vs H Q _=>∃ (p e:Addr) (xs:List Str) (m:Nat),vs=[.ref p,.ref e,.int m]/\CP K H p/\H e=some (.lst (xs.map V.str))/\e ≠ p/\xs.length<=30/\m<=xs.length /\
 ∀ (H':Hp) (D:Addr) (ys zs:List Str),CP K H' p->AI p H H'->H D=none->H' D=some (.lst (ys.map V.str))->(ys ++ zs).Perm xs->ys.length=m->sortedS ys=true->Q (.ref D) H'
def Jg:Nat->Str
 | 0=>Str.empty
 | n + 1=>⟨(Array.replicate (n + 1) 48)⟩
theorem MN:∀ k:Fin 30,PySem.intText? (Str.ofString "1" ++ Jg k.1)=some (10 ^ k.1)/\(Jg k.1).length=k.1:=by decide +kernel
theorem ON:∀ k:Fin 30,1<=(10:Int) ^ k.1/\(10:Int) ^ k.1 + 10<=10 ^ 30:=by decide +kernel
theorem O8:∀ k:Fin 30,(⟨(aY k.1 (Str.ofString "0").cps).foldl (· ++ ·) #[]⟩:Str)=Jg k.1:=by decide +kernel
theorem Ri {X:Cx}:EJ X (binaryOp .Mult) (fun x y H Q=>∃ n:Nat,x=.str (Str.ofString "0")/\y=.int n/\n < 30/\Q (.str (Jg n)) H):=by
 intro pins s σ H x y v u Q I rx ry h;obtain ⟨n,rfl,rfl,hn,q⟩:=h;obtain ⟨t,rfl⟩:=rx;obtain ⟨t',rfl⟩:=ry;have big:1000<=sizeLine:=by decide
 match n,hn,q with
 | 0,_,q=>exact PySem.P.mul_str_none (by decide) (by decide) ⟨.str Str.empty,H,I.tok _,⟨_,rfl⟩,q⟩
 | 1,_,q=>
  refine PySem.P.mul_str (by decide) (fun _ z=>by simp at z) (fun _ z=>by simp at z) ?_;rw [if_neg (by decide),if_pos (by simp)];exact ⟨.str _,H,I,⟨_,rfl⟩,by rw [show Str.ofString "0"=Jg 1 by decide +kernel]; exact q⟩
 | n + 2,hn,q=>
  have l1:(Str.ofString "0").length=1:=by decide +kernel
  have e:((n + 2:Nat):Int).toNat=n + 2:=rfl;refine PySem.P.mul_str (by rw [decide_eq_false (by lia),decide_eq_false (by lia)]; rfl) (fun _ _=>?_) (fun _ _=>?_) ?_
  ·rw [l1];have:(1:Int)<=(2 ^ 63 - 1) / ((n + 2:Nat):Int):=by
    rw [Int.le_ediv_iff_mul_le (by lia)];lia
   lia
  ·rw [l1,e];exact decide_eq_false (by show ¬ _; lia)
  ·rw [if_neg (by lia),if_neg (by rw [l1]; simp; lia),e,O8 ⟨n + 2,hn⟩];refine ⟨?_,⟨.str _,H,I.tok _,⟨_,rfl⟩,q⟩⟩;have:=(MN ⟨n + 2,hn⟩).2;lia
theorem GA {α β:Type} (f:α->β) {m out:List β} (p:m.Perm out):∀ xs:List α,m=xs.map f->∃ ys:List α,ys.Perm xs/\out=ys.map f:=by
 induction p with
 | nil=>
  intro xs e;cases xs with
  | nil=>exact ⟨[],.nil,rfl⟩
  | cons a xs=>cases e
 | cons a p ih=>
  intro xs e;cases xs with
  | nil=>cases e
  | cons b xs=>
   simp only [Yj,Zi.injEq] at e;obtain ⟨ys,h1,rfl⟩:=ih xs e.2;exact ⟨b :: ys,h1.cons b,by rw [e.1]; rfl⟩
 | swap a b l=>
  intro xs e;match xs,e with
  | [],e=>cases e
  | [_],e=>cases e
  | x :: y :: xs,e=>
   simp only [Yj,Zi.injEq] at e;exact ⟨y :: x :: xs,.swap _ _ _,by rw [e.1,e.2.1,e.2.2]; rfl⟩
 | trans p q ih1 ih2=>
  intro xs e;obtain ⟨ys,h1,e1⟩:=ih1 xs e;obtain ⟨zs,h2,e2⟩:=ih2 ys e1;exact ⟨zs,h2.trans h1,e2⟩
theorem Iv {X:Cx} (hc:X.calm=true):Bq X (.builtin "sorted") (fun xs H Q=>∃ (d:Addr) (kvs:List (List AO × V)) (kd:Nat->Bool),xs=[.ref d]/\H d=some (.dT kvs)/\(∀ p ∈ kvs,p.1 ≠ []/\∀ (i:Nat) k,p.1[i]? = some k->Lp (kd i) (kV k))/\kvs.length < 64 /\
  ∀ (l:Addr) (ts:List Addr) (ks:List (List AO)),H l=none->ks.Perm (kvs.map (·.1))->ts.length=ks.length->(∀ (i:Nat) t k,ts[i]? = some t->ks[i]? = some k->H t=some (.tup (k.map kV)))->Q (.ref l) (upd H l (.lst (ts.map V.ref)))):=by
 intro pins s σ H xs us Q I r h;obtain ⟨d,kvs,kd,rfl,hd,hk,QE,q⟩:=h;obtain ⟨u,rfl,ru⟩:=B7 r;cases ru
 obtain ⟨z,y,xs,rel,o,es,ep,h1,h2,h3,h4,h5⟩:=(show A9 X.prog X.w H s.heap d (.dT kvs) from I.hok d _ hd)
 have rl:=Paired.length rel;have hlen:es.size=kvs.length:=by
  rw [<-Yp,h4,X8];exact rl.symm
 have sm:∀ {l:List (List AO × V)} {m:List (List AO × Addr × Value)},Paired (fun (p:List AO × V) (q:List AO × Addr × Value)=>p.1=q.1/\H q.2.1=some (.tup (p.1.map kV))/\A3 p.2 q.2.2) l m->l.map (·.1)=m.map (·.1)/\∀ q ∈ m,H q.2.1=some (.tup (q.1.map kV)):=by
  intro l m r;induction r with
  | nil=>exact ⟨rfl,fun q hq=>nomatch hq⟩
  | cons a b ih=>
   refine ⟨by rw [Yj,Yj,a.1,ih.1],fun q hq=>?_⟩;rcases XC.mp hq with rfl | hq
   ·rw [<-a.1]; exact a.2.1
   ·exact ih.2 q hq
 obtain ⟨keq,kat⟩:=sm rel;have vals:∀ l:List (List AO × Addr × Value),Ax ((l.map (·.2.1)).map V.ref) (l.map fun q=>Value.ref q.2.1):=by
  intro l;induction l with
  | nil=>exact .nil
  | cons q l ih=>exact .cons rfl ih
 have tk:∀ v ∈ (xs.map (·.2.1)).map V.ref,TV H kd v:=fun v hv=>by
  obtain ⟨t,ht,rfl⟩:=Ya.mp hv;obtain ⟨q,hq,rfl⟩:=Ya.mp ht;have hm:q.1 ∈ kvs.map (·.1):=by rw [keq]; exact YW hq
  obtain ⟨p,hp,e⟩:=Ya.mp hm;obtain ⟨n1,n2⟩:=hk p hp;rw [e] at n1 n2;refine ⟨_,_,rfl,kat q hq,fun z=>n1 (List.map_eq_nil_iff.mp z),fun i y e=>?_⟩;rw [XU] at e;cases w:q.1[i]? with
  | none=>rw [w] at e; cases e
  | some k=>rw [w] at e; rw [<-Yi.inj e]; exact n2 i k w
 have tu:=Mn I (vals xs) tk;refine Calls.call_function_entry kind_sorted plain_sorted entry_sorted (args_sorted1 _) ?_;unfold Builtin.«sorted»;refine wpAny_bind (m:=checkCount "sorted" 1 1 _) (wpAny_pure ?_);refine wpAny_bind (PySem.W.kdu_collect (QY (es:=es) (ep:=ep) y) (I.ok.hd hc) ⟨o,h1,h2,h3⟩ (by rw [hlen]; exact z) fun h' tk acc Lb hacc=>?_);have key:∀ (i:Nat) v,acc.toList[i]? = some v->∃ q,xs[i]? = some q/\v=.ref q.2.1:=fun i v e=>by
  have e2:=hacc.2 i v (by rw [<-YQ]; exact e);dsimp only at e2;rw [<-YQ,h4,XU] at e2;cases z:xs[i]? with
  | none=>rw [z] at e2; cases e2
  | some q=>
   rw [z] at e2;exact ⟨q,rfl,(Yi.inj e2).symm⟩
 have al:acc.toList.length=xs.length:=by
  rw [Yp,hacc.1,<-Yp,h4,X8]
 have av:acc.toList=xs.map fun q=>Value.ref q.2.1:=by
  refine Zj (by rw [al,X8]) fun i i1 i2=>?_
  obtain ⟨q,e1,e2⟩:=key i _ (XA i1);rw [List.getElem_map];rw [XA (by rw [<-al]; exact i1)] at e1;rw [e2,Yi.inj e1]
 have big:100000 < sizeLine:=by decide
 refine wpAny_bind (wpAny_newList ?_ (by rw [al]; lia));have hoL:(h'.push (seqObj "list" acc.toList.toArray 0)).get? h'.objs.size=some (seqObj "list" acc.toList.toArray 0):=XJ _ rfl;have keep:∀ b o,s.heap.get? b=some o->(h'.push (seqObj "list" acc.toList.toArray 0)).get? b=some o:=fun b o q=>X9 _ (Lb b o q)
 show wpAny _ _ _ _ _ { s with heap:=h'.push (seqObj "list" acc.toList.toArray 0),toks:=tk }
 refine wpAny_bind (wpAny_holding (wpAny_call_entry slot_list_sort ⟨_,hoL,rfl⟩ entry_list_sort (LM (lt:=fun x y=>Bz (Dx s.heap x.1) (Dx s.heap y.1)) (s:={ s with heap:=h'.push (seqObj "list" acc.toList.toArray 0),toks:=tk }) hoL (by rw [al]; lia) (by rw [al]; lia) ?_ fun out o1=>⟨_,rfl,wpAny_pure ⟨_,rfl,?_⟩⟩) (args_list_sort _)))
 ·intro z2 h'' kp;exact Nh (s:={ s with toks:=tk }) (by rw [av]; exact tu) z2 _ h'' fun b o e=>kp b o (XQ (XE (Lb b o e))) (keep b o e)
 ·rw [av] at o1;obtain ⟨O9,px,rfl⟩:=GA _ o1.symm xs rfl;obtain ⟨e,he⟩:=sortedHeap_at (out:=(O9.map fun q=>Value.ref q.2.1).toArray) hoL;have gone:s.heap.get? h'.objs.size=none:=by
   cases z:s.heap.get? h'.objs.size with
   | none=>rfl
   | some o=>exact absurd (XE (Lb _ _ z)) (Yx _)
  have fl:H h'.objs.size=none:=by
   cases z:H h'.objs.size with
   | none=>rfl
   | some u=>
    obtain ⟨ob,e⟩:=A9.there (I.hok _ u z);rw [gone] at e;cases e
  obtain ⟨m,hlm⟩:=id I.loc;obtain ⟨oL,esL,epL,Vk,rL⟩:=id hlm.1;have old:∀ b o,s.heap.get? b=some o->(sortedHeap (h'.push (seqObj "list" acc.toList.toArray 0)) h'.objs.size acc.toList (O9.map fun q=>Value.ref q.2.1).toArray).get? b=some o:=fun b o q=>by
   have q':=Lb b o q;have lt:=XE q';rw [sortedHeap_old (XQ lt) (by rw [size_push']; exact Yl lt)];exact X9 _ q'
  have pl:=px.length_eq;have I2:=I.laidF (D:=h'.objs.size) (o:=.lst ((O9.map (·.2.1)).map V.ref)) hlm ⟨oL,esL,epL,old _ _ Vk,rL⟩ (fun b ob _ q=>old b ob q) gone (fun z=>by rw [z,Vk] at gone; cases gone)
   ⟨by rw [X8,X8,pl,<-rl]; exact z,_,e,vals O9,he⟩
  refine ⟨.ref h'.objs.size,_,I2.kept (t':=tk) fun b u q=>q,rfl,q h'.objs.size (O9.map (·.2.1)) (O9.map (·.1)) fl ?_ (by rw [X8,X8]) fun i t k e1 e2=>?_⟩
  ·rw [keq]; exact px.map _
  ·rw [XU] at e1 e2;cases w:O9[i]? with
   | none=>rw [w] at e1; cases e1
   | some q=>
    rw [w] at e1 e2;rw [<-Yi.inj e1,<-Yi.inj e2];exact kat q (px.mem_iff.mp (XG w))
theorem DM {X:Cx}:Bq X (.builtin "sorted") (fun xs H Q=>∃ (t:Addr) (x y:Str),xs=[.ref t]/\H t=some (.lst [.str x,.str y])/\∀ l,H l=none->Q (.ref l) (upd H l (.lst [.str (BG x y),.str (BH x y)]))):=by
 intro pins s σ H xs us Q I r h;obtain ⟨t,x,y,rfl,ht,q⟩:=h;refine Cw (pins:=pins) s σ H _ us Q I r ⟨t,[x,y],rfl,AA.of ht,by show 2 < 64; decide,fun l Ei hl pm so=>?_⟩;have len:=pm.length_eq;match Ei,len with
 | [a,b],_=>
  obtain ⟨rfl,rfl⟩:=L3 pm so;exact q l hl
def DH (u:AG):List AO:=[.inr (BG u.1 u.2.1),.inr (BH u.1 u.2.1)]
def NS (u:AG):List AO × V:=(DH u,.int u.2.2)
theorem HZ {u v:AG} (e:DH u=DH v):DN u v:=by
 unfold DH at e;simp only [Zi.injEq,Sum.inr.injEq,and_true] at e;obtain ⟨e1,e2⟩:=e;unfold BG at e1;unfold BH at e2;by_cases a:u.2.1.cps.toList < u.1.cps.toList <;> by_cases b:v.2.1.cps.toList < v.1.cps.toList
 ·rw [if_pos a,if_pos b] at e1;rw [if_neg (fun z=>Cn _ (YR a z)),if_neg (fun z=>Cn _ (YR b z))] at e2;exact .inl ⟨e2,e1⟩
 ·rw [if_pos a,if_neg b] at e1;rw [if_neg (fun z=>Cn _ (YR a z))] at e2;by_cases c:v.1.cps.toList < v.2.1.cps.toList
  ·rw [if_pos c] at e2;exact .inr ⟨e2,e1⟩
  ·rw [if_neg c] at e2;rw [e1,e2] at a;exact absurd a (Cn _)
 ·rw [if_neg a,if_pos b] at e1;rw [if_neg (fun z=>Cn _ (YR b z))] at e2;by_cases c:u.1.cps.toList < u.2.1.cps.toList
  ·rw [if_pos c] at e2;exact .inr ⟨e1,e2⟩
  ·rw [if_neg c] at e2;rw [<-e1,<-e2] at b;exact absurd b (Cn _)
 ·rw [if_neg a,if_neg b] at e1;by_cases c:u.1.cps.toList < u.2.1.cps.toList <;> by_cases d:v.1.cps.toList < v.2.1.cps.toList
  ·rw [if_pos c,if_pos d] at e2;exact .inl ⟨e1,e2⟩
  ·rw [if_pos c,if_neg d] at e2;rw [e1,e2] at c;exact absurd c (Cn _)
  ·rw [if_neg c,if_pos d] at e2;rw [<-e1,<-e2] at d;exact absurd d (Cn _)
  ·exact .inl ⟨e1,by rw [<-Ce a c,e1]; exact Ce b d⟩
theorem Mz {us:List AG} {x:AG} (no:∀ u ∈ us,¬ DN u x):BC (us.map NS) (DH x) (.int x.2.2)=(us ++ [x]).map NS:=by
 unfold BC;rw [if_neg,Yb]
 ·rfl
 ·intro z;obtain ⟨q,hq,e⟩:=YT.mp z;obtain ⟨u,hu,rfl⟩:=Ya.mp hq;exact no u hu (HZ (of_decide_eq_true e))
theorem valW {us:List AG} (sep:us.Pairwise fun u v=>¬ DN u v) {u:AG} (hu:u ∈ us):Bi (us.map NS) (DH u)=some (.int u.2.2):=by
 obtain ⟨v',h1,h2⟩:=K3 (YW (f:=NS) hu);rw [show Bi (us.map NS) (DH u)=Bi (us.map NS) (NS u).1 from rfl];have e1:(NS u).1=DH u:=rfl;obtain ⟨w,hw,e⟩:=Ya.mp h2;have ek:DH w=DH u:=congrArg Prod.fst e;have ev:V.int w.2.2=v':=congrArg Prod.snd e;have al:=HZ ek;have same:w=u:=by
  by_cases z:w=u
  ·exact z
  ·obtain ⟨i,hi⟩:=aw hw;obtain ⟨j,hj⟩:=aw hu;obtain ⟨Us,ei⟩:=XX.mp hi;obtain ⟨Hr,ej⟩:=XX.mp hj;rcases Nat.lt_trichotomy i j with l | l | l
   ·exact absurd (by rw [ei,ej]; exact al) (YH.mp sep i j Us Hr l)
   ·subst l;rw [ei] at ej;exact absurd ej z
   ·refine absurd ?_ (YH.mp sep j i Hr Us l);rw [ei,ej];rcases al with ⟨a,b⟩ | ⟨a,b⟩
    ·exact .inl ⟨a.symm,b.symm⟩
    ·exact .inr ⟨b.symm,a.symm⟩
 subst same;rw [<-ev] at h1;exact h1
theorem QN {us:List AG} {x:AG} (h:(Bi (us.map NS) (DH x)).isSome=false):∀ u ∈ us,¬ DN u x:=by
 intro u hu al;have ek:DH u=DH x:=by
  unfold DH;rcases al with ⟨a,b⟩ | ⟨a,b⟩
  ·rw [a,b]
  ·rw [a,b,J8,JA]
 obtain ⟨v',h1,_⟩:=K3 (YW (f:=NS) hu);have h2:Bi (us.map NS) (DH u)=some v':=h1;rw [ek] at h2;rw [h2] at h;cases h
theorem CP.dict {K:XB} {H:Hp} {p D:Addr} {ys zs:List (List AO × V)} (h:CP K H p) (hD:H D=some (.dT ys)):CP K (upd H D (.dT zs)) p:=by
 obtain ⟨a,ns,i,l,h,sc,r⟩:=h;refine ⟨a,ns,i,l,by rw [Af (Ba h hD (fun z=>by cases z))]; exact h,?_,r⟩;rcases sc with ⟨ob,h'⟩ | h'
 ·refine .inl ⟨ob,?_⟩;rw [Af (Ba h' hD (fun z=>by cases z))];exact h'
 ·exact .inr h'
structure M5 (K:XB) (H H':Hp) (p e W:Addr) (xs:List Str) (us:List AG):Prop where
 pn:CP K H' p
 he:H' e=some (.lst (xs.map V.str))
 hw:H' W=some (.dT (us.map NS))
 kp:AI p H H'
 ne:e ≠ p
 nw:W ≠ p
 fw:H W=none
theorem M5.step {K:XB} {H H' Ud:Hp} {p e W:Addr} {xs:List Str} {us:List AG} (h:M5 K H H' p e W xs us) (P:CP K Ud p) (k:AI p H' Ud):M5 K H Ud p e W xs us:=
 ⟨P,k _ _ h.ne h.he,k _ _ h.nw h.hw,h.kp.trans k,h.ne,h.nw,h.fw⟩
theorem M5.add {K:XB} {H H':Hp} {p e W q:Addr} {xs:List Str} {us:List AG} (h:M5 K H H' p e W xs us) (hq:H' q=none) (o:HO):M5 K H (upd H' q o) p e W xs us:=
 h.step (h.pn.same (Ac hq)) (AI.of_same (Ac hq))
theorem M5.put {K:XB} {H H':Hp} {p e W:Addr} {xs:List Str} {us:List AG} (h:M5 K H H' p e W xs us) (O1:List AG):M5 K H (upd H' W (.dT (O1.map NS))) p e W xs O1:=
 ⟨h.pn.dict h.hw,by rw [Af (Ba h.he h.hw (fun z=>by cases z))]; exact h.he,Ab,fun b o hb z=>by rw [Af (Ah z h.fw)]; exact h.kp b o hb z,h.ne,h.nw,h.fw⟩
theorem To {xs:List Str} {k:Nat} {ws:List AG} (h:Hj xs k ws) (hn:xs.Nodup) {x y:Str} {n:Int} (hy:xs[k]? = some y):∀ u ∈ ws,¬ DN u (x,y,n):=by
 intro u hu al;obtain ⟨i,j,a,b,c,d,_⟩:=h.of u hu;rcases al with ⟨_,e⟩ | ⟨e,_⟩
 ·have e':u.2.1=y:=e;rw [e'] at d;have:=Ey hn d hy;lia
 ·have e':u.1=y:=e;rw [e'] at c;have:=Ey hn c hy;lia
theorem OJ {xs:List Str} {k:Nat} {ws:List AG} (h:Hj xs k ws) (hn:xs.Nodup) {x y:Str} {n:Int} {i:Nat} (hi:i < k) (hx:xs[i]? = some x) (hy:xs[k]? = some y) (n1:1<=n):Hj xs (k + 1) (ws ++ [(x,y,n)]):=
 h.more hn (XX.mp hy).1 [i] (by simp) (by intro z hz; rw [XY.mp hz]; exact hi) (by simp) rfl (fun q u j e1 e2=>by
  cases q with
  | zero=>
   simp at e1 e2;subst e1 e2;exact ⟨hx,hy,n1⟩
  | succ q=>simp at e2)
theorem MW {xs:List Str} {us:List AG} {x y:Str} {n:Int} (h:Fp xs us) (hx:x ∈ xs) (hy:y ∈ xs) (ne:x ≠ y) (hn:1<=n) (no:∀ u ∈ us,¬ DN u (x,y,n)):Fp xs (us ++ [(x,y,n)]):=by
 refine h.snoc hx hy ne hn fun u hu ⟨a,b⟩=>no u hu ?_
 have uu:=(h.1 u hu).2.2.1;rcases a with a | a <;> rcases b with b | b
 ·exact absurd (a.trans b.symm) ne
 ·exact .inl ⟨a.symm,b.symm⟩
 ·exact .inr ⟨b.symm,a.symm⟩
 ·exact absurd (a.trans b.symm) ne
def OW (K:XB):Sp:=fun vs H Q _=>∃ (p e:Addr) (xs:List Str) (sh:Int),vs=[.ref p,.ref e,.int sh]/\CP K H p/\H e=some (.lst (xs.map V.str))/\e ≠ p/\xs.Nodup/\(∀ x ∈ xs,Bb x=true)/\1<=xs.length/\xs.length<=26/\0<=sh/\sh < 4 /\
 ∀ (H':Hp) (m:Addr) (ps:List Str) (ws:List AG),CP K H' p->AI p H H'->ps.Perm xs->Fy H' m xs.length ps ws->Q (.ref m) H'
structure R5 (K:XB) (H0 H':Hp) (p R:Addr) (rs:List Fx) (vs:List V):Prop where
 pn:CP K H' p
 kp:∀ b o,b ≠ p->b ≠ R->H0 b=some o->H' b=some o
 hR:H' R=some (.lst vs)
 dd:BM H' vs (rs.map HE)
 nR:R ≠ p
theorem R5.step {K:XB} {H0 H' Ud:Hp} {p R:Addr} {rs:List Fx} {vs:List V} (h:R5 K H0 H' p R rs vs) (P:CP K Ud p) (k:AI p H' Ud):R5 K H0 Ud p R rs vs:=
 ⟨P,fun b o hb Gb z=>k b o hb (h.kp b o hb Gb z),k _ _ h.nR h.hR,Cj h.dd (Cq h.pn k),h.nR⟩
theorem R5.add {K:XB} {H0 H':Hp} {p R q:Addr} {rs:List Fx} {vs:List V} (h:R5 K H0 H' p R rs vs) (hq:H' q=none) (o:HO):R5 K H0 (upd H' q o) p R rs vs:=
 h.step (h.pn.same (Ac hq)) (AI.of_same (Ac hq))
theorem R5.app {K:XB} {H0 H':Hp} {p R T:Addr} {rs:List Fx} {vs:List V} {y:Str} {l:Int} (h:R5 K H0 H' p R rs vs) (hT:H' T=some (.tup [.str y,.int l])):R5 K H0 (upd H' R (.lst (vs ++ [.ref T]))) p R (rs ++ [(y,l)]) (vs ++ [.ref T]):=by
 refine ⟨h.pn.other h.hR h.nR,fun b o hb Gb z=>by rw [Af Gb]; exact h.kp b o hb Gb z,Ab,?_,h.nR⟩;rw [Yb];refine EC (Cj h.dd fun b ys e=>?_) (.cons (Mx (u:=(y,l)) (by rw [Af (Ba hT h.hR (fun z=>by cases z))]; exact hT)) .nil);rw [Af (Ba e h.hR (fun z=>by cases z))];exact e
theorem FF {xs ys zs:List Str} {rs:List Fx} {lo:Int} (pm:(ys ++ zs).Perm xs) (nd:xs.Nodup) (rt:rs.map (·.1)=ys) (rl:∀ r ∈ rs,lo<=r.2/\r.2 < 10 ^ 30) (one:1<=rs.length) {ps:List Str} (pp:ps.Perm xs):ID ps lo rs:=
 ⟨fun r hr=>pp.mem_iff.mpr (pm.mem_iff.mp (YB _ (by rw [<-rt]; exact YW hr))),by rw [rt]; exact (Ze.mp (pm.nodup_iff.mpr nd)).1,rl,one⟩
structure Eg (H:Hp) (c m:Addr) (n:Nat) (xs:List Str) (ws:List AG) (Bj Bc:List Fx) (x:V) (d:PyData):Prop where
 cw:Lr H c m n xs ws Bj Bc x d
 n9:n<=9
 l6:Bj.length<=6
 l8:Bc.length<=8
 so1:sortedS (Bj.map (·.1))=true
 so2:sortedS (Bc.map (·.1))=true
theorem Eg.keepT {H H':Hp} {c m:Addr} {n:Nat} {xs:List Str} {ws:List AG} {Bj Bc:List Fx} {x:V} {d:PyData} (h:Eg H c m n xs ws Bj Bc x d) (t:∀ b ys,H b=some (.tup ys)->H' b=some (.tup ys)):Eg H' c m n xs ws Bj Bc x d:=⟨h.cw.keepT t,h.n9,h.l6,h.l8,h.so1,h.so2⟩
def Mt (K:XB):Sp:=fun vs H Q _=>∃ (p:Addr) (sh:Int),vs=[.ref p,.int sh]/\CP K H p/\0<=sh/\sh < 4 /\
 ∀ (H':Hp) (c m:Addr) (n:Nat) (xs:List Str) (ws:List AG) (Bj Bc:List Fx) (x:V) (d:PyData),CP K H' p->AI p H H'->Eg H' c m n xs ws Bj Bc x d->Q (.ref c) H'
def Mr:Sp:=fun vs H Q _=>∃ (m:Addr) (n:Nat) (xs:List Str) (ws:List AG),vs=[.ref m]/\Fy H m n xs ws/\1<=n/\n<=30/\∀ (H':Hp) (A:Addr),Au H H'->H A=none->EM H' A xs ws->Q (.ref A) H'
section
open PySem.SeqAt
open PySem.AutoSeq1 (wpAny_loadPart')
open PySem.MeetsSeq PySem.MeetsSeq2 PySem.MeetsSeq3
theorem KW (l b:Addr) (xs ys:Array Value) (n n2:Nat) (dd Ku:Option Addr) (sl IS:Array (Option Value)) (r:Bool) (k:Nat) :
  ∀ i:Nat,(xs.toList.zip ys.toList).length - i=k->Meets (Builtin.«list.__eq__.loop» ⟨[.ref l,.ref b,rawInt i,rawInt 0],[]⟩)
   (fun A R s=>s.heap.get? l=some { cls:=.type "list",dict:=dd,data:=.seq xs n,slots:=sl }/\s.heap.get? b=some { cls:=.type "list",dict:=Ku,data:=.seq ys n2,slots:=IS } /\
    Ga A.in1 s (decide (xs.size < ys.size)) ((xs.toList.zip ys.toList).drop i) r/\R (.ok (.ret (.bool r))) s):=by
 induction k with
 | zero=>
  intro i hk prog w A R s h;obtain ⟨hp,g,d,tk,os⟩:=s; obtain ⟨hl,hb,hc,h⟩:=h;rw [List.drop_eq_nil_of_le (by lia)] at hc;have hz:r=decide (xs.size < ys.size):=hc;subst hz;wp_walk using wpAny_loadPart' hl,wpAny_loadPart' hb;rw [ZK,Yp,Yp] at hk;have fin:∀ (a b:Option Value),xs[((i:Nat):Int).toNat]? = a->ys[((i:Nat):Int).toNat]? = b->a=none\/b=none:=fun a b ea eb=>by
   rcases Nat.le_total xs.size ys.size with z | z
   ·left;rw [<-ea];simp;lia
   ·right;rw [<-eb];simp;lia
  cases ea:xs[((i:Nat):Int).toNat]? with
  | none=>
   cases eb:ys[((i:Nat):Int).toNat]? with
   | none=>
    wp_walk using wpAny_loadPart' hl,wpAny_loadPart' hb
    exact h
   | some y=>
    wp_walk using wpAny_loadPart' hl,wpAny_loadPart' hb
    exact h
  | some x=>
   cases eb:ys[((i:Nat):Int).toNat]? with
   | none=>
    wp_walk using wpAny_loadPart' hl,wpAny_loadPart' hb
    exact h
   | some y=>rcases fin _ _ ea eb with z | z <;> cases z
 | succ k ih=>
  intro i hk prog w A R s h;obtain ⟨hp,g,d,tk,os⟩:=s; obtain ⟨hl,hb,hc,h⟩:=h;have hi:i < (xs.toList.zip ys.toList).length:=by lia
  rw [ZM hi] at hc;rw [ZK,Yp,Yp] at hi;obtain ⟨e,he,h1,h2⟩:=hc;rw [List.getElem_zip] at he h1;have B0:i < xs.size:=by lia
  have WS:i < ys.size:=by lia
  have h1':e=false->Cc A.in1 ⟨hp,g,d,tk,os⟩ xs[i] ys[i] r:=h1;wp_walk using wpAny_loadPart' hl,wpAny_loadPart' hb;have hi1:xs[((i:Nat):Int).toNat]? = some xs[i]:=by simp [B0]
  have R7:ys[((i:Nat):Int).toNat]? = some ys[i]:=by simp [WS]
  have hcc:((i:Int) + 1)=((i + 1:Nat):Int):=by push_cast; rfl
  rw [hi1,R7];refine wpAny_bind (he prog w _ _ ?_);cases ee:e with
  | true=>
   wp_walk
   rw [hcc];exact ⟨plainId_quiet plain_eq_loop _,codeAny_builtin entry_eq_loop (by
    rw [Around.under_plainId plain_eq_loop _];exact ih (i + 1) (by lia) prog w A R _ ⟨hl,hb,h2 ee,h⟩)⟩
  | false=>
   have hri:=h1' ee prog w;wp_walk using wpAny_loadPart' hl,wpAny_loadPart' hb;rw [hi1,R7];wp_walk using hri;exact h
theorem Qc (l b:Addr) (xs ys:Array Value) (n n2:Nat) (dd Ku:Option Addr) (sl IS:Array (Option Value)) (r:Bool) :
  Meets (Builtin.«list.__lt__» ⟨[.ref l,.ref b],[]⟩)
   (fun A R s=>s.heap.get? l=some { cls:=.type "list",dict:=dd,data:=.seq xs n,slots:=sl }/\s.heap.get? b=some { cls:=.type "list",dict:=Ku,data:=.seq ys n2,slots:=IS } /\
    Ga A.in1 s (decide (xs.size < ys.size)) (xs.toList.zip ys.toList) r/\R (.ok (.ret (.bool r))) s):=by
 intro prog w A R s h;obtain ⟨hp,g,d,tk,os⟩:=s; obtain ⟨hl,hb,hc,h⟩:=h;have f3:=AutoSeq1.sub_list_list;wp_walk using wpAny_loadPart' hl,wpAny_loadPart' hb;exact ⟨plainId_quiet plain_eq_loop _,codeAny_builtin entry_eq_loop (by
  rw [Around.under_plainId plain_eq_loop _];exact KW l b xs ys n n2 dd Ku sl IS r _ 0 rfl prog w A R _ ⟨hl,hb,by simpa using hc,h⟩)⟩
end
theorem Cc.lstN {A:Around} {s:Shared} {l b:Addr} {xs ys:Array Value} {r:Bool} (hl:s.heap.IsList l xs) (hb:s.heap.IsList b ys) (hu:A.units < cLine) (hc:Ga A.in1 s (decide (xs.size < ys.size)) (xs.toList.zip ys.toList) r):Cc A s (.ref l) (.ref b) r:=fun prog w E Q h=>by
 obtain ⟨⟨cls,dd,data,sl⟩,ho,F4,n,hd⟩:=id hl;obtain ⟨⟨TN,Ku,data2,IS⟩,NZ,Od,n2,hd2⟩:=id hb;simp only at F4 hd Od hd2;subst F4 hd Od hd2;exact richCompare_meets_room (op:=.Lt) ⟨_,ho,rfl⟩ ⟨_,NZ,rfl⟩ PySem.F.slot_list_lt PySem.F.entry_list_lt (PySem.F.args_list_lt_2 _ _) (Qc l b xs ys n n2 dd Ku sl IS r)
  ⟨ho,NZ,hc,show Value.bool _ ≠ Value.notImplemented/\Q (.bool _) s from ⟨(fun x=>nomatch x),h⟩⟩ hu
def Lo (h:Heap) (v:Value) (ss:List Str):Prop:=∃ a us,v=.ref a/\h.IsList a us.toArray/\Ax (ss.map V.str) us
def Mk (h:Heap) (v:Value) (k:Int × List Str):Prop:=∃ a l t,v=.ref a/\IsTup h a #[.int k.1 t,.ref l]/\Lo h (.ref l) k.2
theorem Lo.keep {h h':Heap} {v:Value} {p:List Str} (x:Lo h v p) (k:∀ b o,h.get? b=some o->h'.get? b=some o):Lo h' v p:=by
 obtain ⟨a,us,rfl,⟨o,ho,r⟩,z⟩:=x;exact ⟨a,us,rfl,⟨o,k _ _ ho,r⟩,z⟩
theorem Mk.keep {h h':Heap} {v:Value} {p:Int × List Str} (x:Mk h v p) (k:∀ b o,h.get? b=some o->h'.get? b=some o):Mk h' v p:=by
 obtain ⟨a,l,t,rfl,⟨o,ho,r⟩,z⟩:=x;exact ⟨a,l,t,rfl,⟨o,k _ _ ho,r⟩,z.keep k⟩
theorem Qr {A:Around} {s:Shared} {v w:Value} {xs ys:List Str} (hv:Lo s.heap v xs) (hw:Lo s.heap w ys) (hu:A.units < cLine):SeqAt.EqAt A s v w (decide (xs=ys)):=by
 obtain ⟨a,us,rfl,ha,r1⟩:=hv;obtain ⟨b,vs,rfl,hb,r2⟩:=hw;by_cases hab:a=b
 ·subst hab;have e:xs=ys:=by
   obtain ⟨o,ho,hc,n,hd⟩:=ha;obtain ⟨o',IW,F4,n',Oc⟩:=hb;rw [ho] at IW;cases IW
   rw [hd] at Oc;injection Oc with e1 e2;have e3:=congrArg Z9 e1;simp only at e3;subst e3;exact MY r1 r2
  rw [decide_eq_true e];intro prog w E Q h;unfold eqBool;refine wpAny_holding ?_;exact wpAny_ite_split (fun _=>wpAny_bind (wpAny_rule (wpAny_pure h))) (fun hn=>absurd (by simp) hn)
 ·have l1:=r1.length;have l2:=r2.length;rw [X8] at l1 l2;by_cases hz:us.length=vs.length
  ·have key:=SeqAt.RcAt.lists (A:=A) (s:=s) (e:=fun j=>xs[j]? == ys[j]?) ha hb (by simpa using hz) hu (fun j h1 h2=>by
    obtain ⟨t,x,e1,e2⟩:=Ji (vs:=us) r1 j (by simpa using h1);obtain ⟨t',y,e3,e4⟩:=Ji (vs:=vs) r2 j (by simpa using h2);rw [ax,ax,e2,e4,e1,e3];have:=SeqAt.EqAt.str_str x t y t' (A:=A.in1) (s:=s);exact this)
   have e:((YS us.toArray.size).all (fun j=>xs[j]? == ys[j]?))=decide (xs=ys):=by
    rw [YA,Y4,decide_eq_true_iff];simp only [Zc,Yf,beq_iff_eq];constructor
    ·intro h1;refine List.ext_getElem? fun j=>?_
     by_cases hj:j < us.length
     ·exact h1 j hj
     ·rw [ab (by lia),ab (by lia)]
    ·rintro rfl;exact fun j _=>rfl
   rw [e] at key;exact SeqAt.EqAt.of_refs hab key
  ·have key:=SeqAt.RcAt.lists_lengths (A:=A) (s:=s) ha hb (by simpa using hz) hu;have e:decide (xs=ys)=false:=decide_eq_false fun z=>hz (by rw [<-l1,<-l2,z])
   rw [e];exact SeqAt.EqAt.of_refs hab key
theorem Qb {A:Around} {s:Shared} {v w:Value} {xs ys:List Str} (hv:Lo s.heap v xs) (hw:Lo s.heap w ys) (hu:A.units < cLine):Cc A s v w (Bz (xs.map IK.s) (ys.map IK.s)):=by
 obtain ⟨a,us,rfl,ha,r1⟩:=hv;obtain ⟨b,vs,rfl,hb,r2⟩:=hw;refine Cc.lstN ha hb hu ?_;have l1:=r1.length;have l2:=r2.length;rw [X8] at l1 l2;have:=Iu (A:=A.in1) (s:=s) xs ys r1 r2;rw [l1,l2] at this;simpa using this
theorem lt_kl {A:Around} {s:Shared} {v w:Value} {p q:Int × List Str} (hv:Mk s.heap v p) (hw:Mk s.heap w q) (hu:A.units + 1 < cLine):Cc A s v w (Bz (Fd p) (Fd q)):=by
 obtain ⟨a,l,t,rfl,ha,h1⟩:=hv;obtain ⟨b,l',t',rfl,hb,h2⟩:=hw;refine Cc.tupN ha hb (by lia) ?_;show Ga A.in1 s _ [(.int p.1 t,.int q.1 t'),(.ref l,.ref l')] _
 refine ⟨p.1 == q.1,SeqAt.EqAt.int_int _ _ _ _,fun e=>?_,fun e=>⟨decide (p.2=q.2),Qr h1 h2 (by rw [PySem.Around.in1_units]; exact hu),fun e2=>?_,fun e2=>?_⟩⟩
 ·have e:¬ p.1=q.1:=by simpa using e
  have:=Cc.int A.in1 s p.1 t q.1 t';unfold Fd;unfold Bz;rw [if_neg (by intro z; injection z with z; exact e (by first | exact z | exact z.symm))];exact this
 ·have e:p.1=q.1:=by simpa using e
  have:=Qb (A:=A.in1) (s:=s) h1 h2 (by rw [PySem.Around.in1_units]; exact hu);unfold Fd;unfold Bz;rw [if_pos (by rw [e])];exact this
 ·have e:p.1=q.1:=by simpa using e
  have e2:p.2=q.2:=of_decide_eq_true e2;show Bz (Fd p) (Fd q)=_
  unfold Fd;rw [e,e2,Hq];rfl
def So (H:Hp) (v:V) (k:Int × List Str):Prop:=∃ t l,v=.ref t/\H t=some (.tup [.int k.1,.ref l])/\H l=some (.lst (k.2.map V.str))
theorem So.at {X:Cx} {pins:List (Addr × Obj)} {σ:St} {H:Hp} {s:Shared} {v:V} {u:Value} {k:Int × List Str} (I:An X pins σ H s) (r:A3 v u) (h:So H v k):Mk s.heap u k:=by
 obtain ⟨t,l,rfl,ht,hp⟩:=h;cases r
 obtain ⟨Ao,rv,pl,hz⟩:=I.tuple (AM.of ht);cases rv with
 | cons a1 b1=>
  cases b1 with
  | cons a2 b2=>
   cases b2
   cases a2
   obtain ⟨t2,rfl⟩:=a1;obtain ⟨Ao,rv,W4,hz⟩:=I.list (AA.of hp);exact ⟨t,l,t2,rfl,pl,⟨l,Ao,rfl,W4.isList,rv⟩⟩
section
variable {X:Cx} {pins:List (Addr × Obj)} {σ:St} {H:Hp} {s:Shared}
theorem Ry (I:An X pins σ H s) {vs:List V} {Ao:List Value} {ks:List (Int × List Str)} (rv:Ax vs Ao) (hl:vs.length=ks.length) (hk:∀ (i:Nat) v k,vs[i]? = some v->ks[i]? = some k->So H v k) :
  ∀ (i:Nat) (v:Value),Ao[i]? = some v->∃ k,ks[i]? = some k/\Mk s.heap v k/\∃ x,vs[i]? = some x/\A3 x v:=fun i v e=>by
 have il:Ao.length=ks.length:=by rw [<-rv.length,hl]
 have hi:i < Ao.length:=(XX.mp e).1;have e1:vs[i]? = some vs[i]:=XA (by lia);have e2:ks[i]? = some ks[i]:=XA (by lia);obtain ⟨v',e3,r3⟩:=rv.get e1;rw [e] at e3;cases e3
 exact ⟨_,e2,(hk i _ _ e1 e2).at I r3,_,e1,r3⟩
end
theorem Lm {X:Cx} (hc:X.calm=true) (hu:X.A.units + 64 < cLine):Bq X (.builtin "min") (fun xs H Q=>∃ (a:Addr) (vs:List V) (ks:List (Int × List Str)),xs=[.ref a]/\H a=some (.lst vs)/\vs.length=ks.length/\ks ≠ []/\(∀ (i:Nat) v k,vs[i]? = some v->ks[i]? = some k->So H v k) /\
  ∀ v k,k ∈ ks->So H v k->(∀ k' ∈ ks,Bz (Fd k') (Fd k)=false)->Q v H):=by
 intro pins s σ H xs us Q I r h;obtain ⟨a,vs,ks,rfl,ha,hl,hne,hk,q⟩:=h;obtain ⟨u,rfl,ru⟩:=B7 r;cases ru
 obtain ⟨Ao,rv,pl,hz⟩:=I.list (AA.of ha);have il:Ao.length=ks.length:=by rw [<-rv.length,hl]
 have pos:0 < ks.length:=YV.mpr hne;have kat:=Ry I rv hl hk;refine Gm (bt:=fun i j=>Bz (Fd (ks.getD i (0,[]))) (Fd (ks.getD j (0,[])))) (I.ok.hd hc) pl.isList (by lia) (fun i j vi vj s' Q' E' g hi hj hQ=>?_) fun v h2 tk hv k2=>?_
 ·obtain ⟨ki,e1,a1,_⟩:=kat i vi hi;obtain ⟨kj,e2,a2,_⟩:=kat j vj hj;have d1:ks.getD i (0,[])=ki:=by rw [Yd,e1]; rfl
  have d2:ks.getD j (0,[])=kj:=by rw [Yd,e2]; rfl
  dsimp only at hQ;rw [d1,d2] at hQ;exact lt_kl (a1.keep g) (a2.keep g) (by rw [PySem.Around.in1_units]; lia) _ _ _ _ hQ
 ·obtain ⟨k,e1,a1,x,e3,r3⟩:=kat _ v hv;obtain ⟨b1,b2⟩:=GK (fun i j=>Bz (Fd (ks.getD i (0,[]))) (Fd (ks.getD j (0,[])))) (fun i=>Fd (ks.getD i (0,[]))) (fun _ _=>rfl) (Ao.length - 1);refine ⟨x,H,I.kept k2,r3,q x k (XG e1) (hk _ x k e3 e1) fun k' Lb=>?_⟩;obtain ⟨j,hj,ej⟩:=Yn Lb;have:=b2 j (by lia);have d1:ks.getD (argBest (fun i j=>Bz (Fd (ks.getD i (0,[]))) (Fd (ks.getD j (0,[])))) (Ao.length - 1)) (0,[])=k:=by rw [Yd,e1]; rfl
  have d2:ks.getD j (0,[])=k':=by rw [Yd,XA hj,ej]; rfl
  rw [d1,d2] at this;exact this
section
variable {prog:Program} {w:World} {A:Around} {R:Result->Shared->Prop} {I:Addr} {fp wr:List Addr} {n:Nat} {P:Nat->Value->Prop} {St:Nat->Heap->Prop} {g0:Heap} {kw:List (Str × Value)}
end
section
variable {prog:Program} {w:World} {A:Around} {E:Value->Shared->Prop} {s:Shared}
end
noncomputable def Bn (ws:List AG) (mo:Int) (s p:Str):Bool:=decide (dst ws p s<=mo)
def CB (H:Hp) (S:Addr) (ws:List AG) (ss qs:List Str) (mo:Int):Prop:=∃ nv:List (Str × V),H S=some (.dK (sK nv))/\nv.map (·.1)=ss/\∀ q ∈ nv,∃ l,q.2=.ref l/\H l=some (.lst ((qs.filter (Bn ws mo q.1)).map V.str))
theorem CB.same {H H':Hp} {S:Addr} {ws:List AG} {ss qs:List Str} {mo:Int} (h:CB H S ws ss qs mo) (s:Au H H'):CB H' S ws ss qs mo:=by
 obtain ⟨nv,a,b,c⟩:=h;exact ⟨nv,s _ _ a,b,fun q hq=>let ⟨l,e1,e2⟩:=c q hq; ⟨l,e1,s _ _ e2⟩⟩
theorem Cz {K:XB} {H:Hp} {p l:Addr} {xs:List Str} (P:CP K H p) (h:H l=some (.lst (xs.map V.str))):l ≠ p:=by
 obtain ⟨a,ns,i,m,hp,_⟩:=P;intro z;subst z;rw [hp] at h;have e:=Yi.inj h;injection e with e;cases xs with
 | nil=>cases e
 | cons x xs=>cases e
theorem CB.keep {K:XB} {H H':Hp} {S p:Addr} {ws:List AG} {ss qs:List Str} {mo:Int} (h:CB H S ws ss qs mo) (P:CP K H p) (k:AI p H H'):CB H' S ws ss qs mo:=by
 obtain ⟨nv,a,b,c⟩:=h;refine ⟨nv,k _ _ ?_ a,b,fun q hq=>let ⟨l,e1,e2⟩:=c q hq; ⟨l,e1,k _ _ (Cz P e2) e2⟩⟩;obtain ⟨_,_,_,_,hp,_⟩:=P;exact Ba a hp (fun z=>by cases z)
def Jq:Sp:=fun vs H Q _=>∃ (c A m:Addr) (mo:Int) (n:Nat) (xs:List Str) (ws:List AG) (Bj Bc:List Fx) (x:V) (d:PyData),vs=[.ref c,.ref A,.int mo]/\Eg H c m n xs ws Bj Bc x d/\EM H A xs ws /\
 ∀ (H':Hp) (S:Addr),Au H H'->H S=none->CB H' S ws (Bj.map (·.1)) (Bc.map (·.1)) mo->Q (.ref S) H'
theorem AA.same5 {K:XB} {H H':Hp} {a:Addr} {xs:List V} (h:AA K H a xs) (s:Au H H'):AA K H' a xs:=by
 rcases h with (h | ⟨ob,h⟩) | h
 ·exact .inl (.inl (s _ _ h))
 ·exact .inl (.inr ⟨ob,s _ _ h⟩)
 ·exact .inr h
def EI (H:Hp) (us:List V) (ss:List Str):Prop:=∀ u ∈ us,∃ (l:Addr) (ys:List Str),u=.ref l/\H l=some (.lst (ys.map V.str))/\ys.Sublist ss
theorem EI.same {H H':Hp} {us:List V} {ss:List Str} (h:EI H us ss) (s:Au H H'):EI H' us ss:=fun u hu=>let ⟨l,ys,a,c,d⟩:=h u hu; ⟨l,ys,a,s _ _ c,d⟩
theorem EI.up {H:Hp} {us:List V} {ss Ei:List Str} (h:EI H us ss) (s:ss.Sublist Ei):EI H us Ei:=fun u hu=>let ⟨l,ys,a,c,d⟩:=h u hu; ⟨l,ys,a,c,d.trans s⟩
theorem EI.app {H:Hp} {us vs:List V} {ss:List Str} (h:EI H us ss) (h':EI H vs ss):EI H (us ++ vs) ss:=fun u hu=>(Ye.mp hu).elim (h u) (h' u)
theorem EI.one {H:Hp} {l:Addr} {ys ss:List Str} (h:H l=some (.lst (ys.map V.str))) (s:ys.Sublist ss):EI H [.ref l] ss:=fun u hu=>⟨l,ys,XY.mp hu,h,s⟩
theorem Jy {α β:Type} {R:α->β->Prop}:∀ (xs:List α),(∀ x ∈ xs,∃ y,R x y)->∃ ys:List β,xs.length=ys.length/\(∀ (i:Nat) x y,xs[i]? = some x->ys[i]? = some y->R x y)/\∀ y ∈ ys,∃ x ∈ xs,R x y
 | [],_=>⟨[],rfl,(fun i x y e=>by simp at e),(fun y hy=>nomatch hy)⟩
 | x :: xs,h=>by
  obtain ⟨y,hy⟩:=h x Yh;obtain ⟨ys,a,b,c⟩:=Jy xs fun z hz=>h z (Yg _ hz)
  refine ⟨y :: ys,by rw [Yv,Yv,a],fun i p q e1 e2=>?_,fun q hq=>?_⟩
  ·cases i with
   | zero=>simp at e1 e2; subst e1 e2; exact hy
   | succ i=>exact b i p q (by simpa using e1) (by simpa using e2)
  ·rcases XC.mp hq with rfl | hq
   ·exact ⟨x,Yh,hy⟩
   ·obtain ⟨z,hz,r⟩:=c q hq;exact ⟨z,Yg _ hz,r⟩
theorem Au.free0 {H H':Hp} {a:Addr} (s:Au H H') (h:H' a=none):H a=none:=by
 cases z:H a with
 | none=>rfl
 | some o=>rw [s _ _ z] at h; cases h
section
variable {X:Cx} {pins:List (Addr × Obj)} {σ Ar:St} {H H':Hp} {s2 s':Shared} {scope:Scope} {cl:List (Str × Addr)} {N:List Str} {fp:List Addr} {C D:Addr} {A5 h':Heap} {t':Nat}
theorem Kv {ob:HO} {fn:Str->Bool} {Xs:List (Str × Addr)} (I:An X pins σ H s2) (hf:∀ b ∈ fp,Dl X pins H b) (hfo:∀ b ∈ fp,∃ o,s2.heap.get? b=some o) (co:D3 X scope Xs) (sub:∀ x c,cl.lookup x=some c->X.env.cells.lookup x=some c\/(s2.heap.objs.size<=c/\c ≠ D/\c ≠ C/\A5.IsCell c none)) (inj:∀ x y c,cl.lookup x=some c->cl.lookup y=some c->x=y) (own:∀ x c,fn x=true->cl.lookup x=some c->s2.heap.objs.size<=c)
  (has:∀ x,((relabel scope X.env).names.lookup x=some .cell\/(relabel scope X.env).names.lookup x=some .free)->∃ c,cl.lookup x=some c) (keepS:∀ (i:Nat) (x:Str) (v:V),N[i]? = some x->Ar[i]? = some (some v)->∀ c,cl.lookup x=some c->X.env.cells.lookup x=some c) (hσ:AU X cl scope N σ Ar)
  (k:∀ b o,s2.heap.get? b=some o->A5.get? b=some o) (hD:s2.heap.objs.size<=D) (hC:s2.heap.objs.size<=C) (hDC:C ≠ D)
  (newO:A9 X.prog X.w (upd H D ob) A5 D ob) {m:Str->Option Value} (hn:A5.Ns C m) :
  An (AB X scope cl N s2 H C fp fn) [] Ar (upd H D ob) { s2 with heap:=A5,toks:=t' }:=by
 have fD:H D=none:=I.hok.fresh hD;have fC:H C=none:=I.hok.fresh hC;have lts:∀ b ∈ fp,b < s2.heap.objs.size:=fun b hb=>let ⟨_,e⟩:=hfo b hb; XE e
 have ok:Cx.Ok (AB X scope cl N s2 H C fp fn):=by
  refine ⟨I.ok.mod,?_,I.ok.glob,I.ok.blt,hC,?_,?_,?_,I.ok.hd,I.ok.frames,.inl rfl,?_,I.bs,Yo I.ok.bsz I.sz,?_,?_,I.stack,I.stkFree⟩
  ·exact co.kind
  ·exact inj
  ·exact has
  ·exact own
  ·intro b hb;refine ⟨fun e=>?_,fun x c e=>by
    rcases sub x c e with z | ⟨z,_⟩
    ·exact (hf b hb).2.2.2.2.1 x c z
    ·exact Yy (XH (lts b hb) z)⟩
   have z:=lts b hb;exact absurd (XH z hC) (by rw [show b=C from e]; exact Yx _)
  ·intro b o e hb;have Gb:b ∈ fp:=hb;rcases (hf b Gb).2.2.2.1 with z | z
   ·exact I.ok.noex b o e z
   ·exact absurd (XH (XE e) (Yo I.ok.bsz z)) (Yx _)
  ·intro b hb hz;have Gb:b ∈ fp:=hb;obtain ⟨_,f1,f2,_⟩:=hf b Gb;rcases XC.mp (I.stkSub b hz) with e | e
   ·exact f1 e
   ·exact f2 e
 refine ⟨ok,rfl,I.bare,Un.laid k hD fD,?_,?_,?_,?_,?_,I.hok.laid k hD newO,hσ.1⟩
 ·refine ⟨m,hn,fun i x v e1 e2 _=>?_⟩;obtain ⟨⟨j,j1,j2⟩,kk,kr⟩:=hσ.2 i x v e1 e2;obtain ⟨mo,_,hl⟩:=I.loc;obtain ⟨u,r,l⟩:=hl j x v j1 j2 (by
   rcases kk with z | z
   ·exact .inr (.inl z)
   ·exact .inr (.inr z))
  refine ⟨u,r,.inr ⟨kr,?_⟩⟩;obtain ⟨c,hc⟩:=has x kr;rcases l with ⟨z,_⟩ | ⟨_,c',F4,hcell⟩
  ·rcases kk with q | q
   ·rw [z] at q; cases q
   ·rw [z] at q; cases q
  ·have e3:=keepS i x v e1 e2 c hc;rw [F4] at e3;have e4:c'=c:=Yi.inj e3;subst e4;obtain ⟨o,ho,hd⟩:=hcell;exact ⟨c',hc,o,k _ o ho,hd⟩
 ·intro x c e;rcases sub x c e with z | ⟨_,_,_,z⟩
  ·obtain ⟨v,o,ho,hd⟩:=I.cell x c z;exact ⟨v,o,k _ o ho,hd⟩
  ·exact ⟨YG,z⟩
 ·show upd H D ob C=none
  rw [Af hDC];exact fC
 ·intro x c e;rcases sub x c e with z | ⟨z1,z2,_,_⟩
  ·obtain ⟨v,q⟩:=I.cell x c z;rw [Af (XQ (XH q.lt hD))];exact I.freeC x c z
  ·rw [Af z2];exact I.hok.fresh z1
 ·intro p hp;cases hp
end
theorem N4 {X:Cx} (fn:Str->Bool) {tg iter kx vx:Expr} {ifs:List Expr} {scope:Scope} {cl:List (Str × Addr)} {N:List Str} {pos:Pos} {wi:TI} {g:TG} {tt:TT} {tk tv:TE} {σ0:St->St} (hc:X.calm=true) (co:D3 X scope cl) (hfn:∀ x,fn x=true->(x,NameKind.cell) ∈ scope.names)
  (hσ:∀ σ,σ.length=X.N.length->AU X cl scope N σ (σ0 σ)) (hK:∀ (σ:St) (i:Nat) (x:Str) (v:V),N[i]? = some x->(σ0 σ)[i]? = some (some v)->(x,NameKind.cell) ∉ scope.names) (hi:PI X tg iter wi)
  (hb:∀ s2 H C fp,PG (AB X scope (cellsFrom (C + 1) scope.names cl) N s2 H C fp fn) tg g/\QF (AB X scope (cellsFrom (C + 1) scope.names cl) N s2 H C fp fn) ifs tt/\PE (AB X scope (cellsFrom (C + 1) scope.names cl) N s2 H C fp fn) kx tk/\PE (AB X scope (cellsFrom (C + 1) scope.names cl) N s2 H C fp fn) vx tv)
  (hs:∀ x,foldedSetIterable iter X.env x=pure x:=by intro _; rfl):PE X (.DictComp kx vx [⟨tg,iter,ifs,0⟩] scope pos) (L6 wi g tt tk tv σ0):=by
 intro pins s σ H Q I h;rw [arm_eval_DictComp];refine wpAny_comprehension_free (use:=none) rfl hs co.clos co.kind co.names (wpAny_mono (hi (pins:=pins) s σ H _ I h) (fun xv s1 h1=>wpAny_mono h1 (fun itv s2 h2=>?_) fun _ _ e=>e) fun _ _ e=>e);obtain ⟨it,fp,tn,J,H2,rfl,I2,T,Eh,f2,hW⟩:=h2;refine wpAny_newObj_type (Fe ?_);dsimp only;generalize Gq:s2.heap.push { cls:=.type "dict",dict:=none,data:=.dict #[] } = HH;have AY:HH.objs.size=s2.heap.objs.size + 1:=by rw [<-Gq,Ys]
 obtain ⟨A5,EB⟩:∃ A5,A5=pushCells (HH.push { cls:=.type "dict",data:=.dict #[] }) scope.names:=⟨_,rfl⟩
 rw [<-EB];have Bo:A5.Ns HH.objs.size (fun _=>YG):=by
  rw [EB];exact (Heap.Ns.new HH (.type "dict")).keeps (pushCells_keeps _ _)
 have old:∀ b o,s2.heap.get? b=some o->A5.get? b=some o:=fun b o e=>by
  rw [EB];exact pushCells_keeps _ _ _ _ (X9 _ (Gq ▸ X9 _ e))
 have newD:A9 X.prog X.w (upd H2 s2.heap.objs.size (.dK [])) A5 s2.heap.objs.size (.dK []):=
  let ⟨z,hd,vs,rel,o,es,ep,ho,r⟩:=FR (P:=X.prog) (w:=X.w) (H:=upd H2 s2.heap.objs.size (.dK [])) s2.heap I2.big
  ⟨z,hd,vs,rel,o,es,ep,by rw [EB]; exact pushCells_keeps _ _ _ _ (X9 _ (Gq ▸ ho)),r⟩
 obtain ⟨DL,ecl⟩:∃ DL,DL=cellsFrom (HH.objs.size + 1) scope.names cl:=⟨_,rfl⟩
 have clt:∀ x c,(x,c) ∈ cl->c < s2.heap.objs.size:=fun x c e=>by
  obtain ⟨v,q⟩:=I2.cell x c (co.sub x c e);exact q.lt
 have HX:∀ x c,(x,c) ∈ DL->(x,c) ∈ cl\/(HH.objs.size + 1<=c/\A5.IsCell c YG):=fun x c hm=>by
  have hsz:(HH.push { cls:=.type "dict",data:=.dict #[] }).objs.size=HH.objs.size + 1:=Ys ..;rw [ecl,<-hsz] at hm;have q:=EY scope.names (HH.push { cls:=.type "dict",data:=.dict #[] }) cl (HH.objs.size + 1) (by rw [hsz]; exact XD _) (fun y d hy=>.inl (XH (clt y d hy) (by rw [AY]; lia))) x c hm;rw [EB];exact q
 have Xt:DL.Pairwise fun x y=>x.2 ≠ y.2:=by
  rw [ecl];exact Dz _ _ _ co.apart fun x c hm=>XH (clt x c hm) (by rw [AY]; lia)
 have OP:∀ x c,DL.lookup x=some c->X.env.cells.lookup x=some c\/(s2.heap.objs.size<=c/\c ≠ s2.heap.objs.size/\c ≠ HH.objs.size/\A5.IsCell c YG):=fun x c e=>by
  rcases HX x c (PySem.mem_of_lookup e) with q | ⟨q1,q2⟩
  ·exact .inl (co.sub x c q)
  ·exact .inr ⟨by rw [AY] at q1; exact Zv (XH (Yl (Ym _)) q1),Yy (by rw [AY] at q1; exact XH (Yl (Ym _)) q1),Yy (XH (Ym _) q1),q2⟩
 have Tx:∀ x y c,DL.lookup x=some c->DL.lookup y=some c->x=y:=fun x y c e1 e2=>name_of_addr Xt (PySem.mem_of_lookup e1) (PySem.mem_of_lookup e2)
 have Te:∀ x c,fn x=true->DL.lookup x=some c->s2.heap.objs.size<=c:=fun x c h e=>by
  rw [ecl] at e;exact EX s2.heap.objs.size scope.names (HH.objs.size + 1) cl x c (by rw [AY]; lia) (.inl (hfn x h)) e
 have T8:∀ x,((relabel scope X.env).names.lookup x=some .cell\/(relabel scope X.env).names.lookup x=some .free)->∃ c,DL.lookup x=some c:=fun x h=>by
  obtain ⟨c,hc⟩:=EZ scope.names (HH.objs.size + 1) cl x (co.has x h);rw [ecl];exact Cb hc
 have keepS:∀ (i:Nat) (x:Str) (v:V),N[i]? = some x->(σ0 σ)[i]? = some (some v)->∀ c,DL.lookup x=some c->X.env.cells.lookup x=some c:=fun i x v e1 e2 c e=>by
  rw [ecl] at e;have m2:=DW scope.names (HH.objs.size + 1) cl x c (PySem.mem_of_lookup e) (hK σ i x v e1 e2);exact co.sub x c m2
 obtain ⟨W,⟨m0,w0⟩,turn⟩:=hW s2.heap.objs.size I2.fresh;have hfo:∀ b ∈ fp,∃ o,s2.heap.get? b=some o:=fun b hb=>let ⟨o,e,_⟩:=T.obj _ _ Eh b hb; ⟨o,e⟩
 have T4:∀ σ,σ.length=X.N.length->AU X DL scope N σ (σ0 σ):=fun σ h=>hσ σ h
 have I3:An (AB X scope DL N s2 H2 HH.objs.size fp fn) [] (σ0 σ) (upd H2 s2.heap.objs.size (.dK [])) { s2 with heap:=A5,toks:=s2.toks }:=
  Kv I2 f2 hfo co OP Tx Te T8 keepS (T4 σ I.len) old (XD _) (by rw [AY]; exact Yt _) (Yy (by rw [AY]; exact Ym _)) newD Bo
 have fC:s2.heap.objs.size<=HH.objs.size:=by rw [AY]; exact Yt _
 obtain ⟨hg,ht,hk,hv⟩:=hb s2 H2 HH.objs.size fp;rw [<-ecl] at hg ht hk hv;have loop:∀ Bu:Shared,Bu = { s2 with heap:=A5,toks:=s2.toks } ->
   codeAny (model X.prog X.w) X.A (.compLoop (.DictComp kx vx [⟨tg,iter,ifs,0⟩] scope pos) 0 (.ref it) (.ref s2.heap.objs.size) (compEnvC scope DL HH.objs.size X.env))
    (compPost (model X.prog X.w) X.A X.xe none (EP X pins σ Q) (.ref s2.heap.objs.size) HH.objs.size) Bu:=by
  rintro Bu rfl;have stat:∀ {H':Hp} ,(∀ b ∈ fp,H' b=none)->∀ b ∈ fp,Dl (AB X scope DL N s2 H2 HH.objs.size fp fn) [] H' b:=fun hn b hb=>by
   refine ⟨hn b hb,?_,?_,.inl hb,?_,fun p hp=>by cases hp⟩
   ·obtain ⟨o,e⟩:=hfo b hb;exact XQ (show b < HH.objs.size by rw [AY]; exact Yl (XE e))
   ·intro hz;obtain ⟨_,q1,q2,_⟩:=f2 b hb;rcases XC.mp (I2.stkSub b hz) with e | e
    ·exact q1 e
    ·exact q2 e
   ·intro x c e;rcases OP x c e with z | ⟨z,_⟩
    ·exact (f2 b hb).2.2.2.2.1 x c z
    ·obtain ⟨o,eo⟩:=hfo b hb;exact Yy (XH (XE eo) z)
  refine BI (fun n s'=>∃ i Ar H',An (AB X scope DL N s2 H2 HH.objs.size fp fn) [] Ar H' s'/\tn i s'.heap/\(∀ b ∈ fp,H' b=none)/\W i n Ar H') ?_ m0
   ⟨0,σ0 σ,_,I3,T.keep _ _ _ Eh fun b hb o e=>old b o e,fun b hb=>?_,w0⟩
  ·rintro n s4 ⟨i,DP,H4,I4,Jo,JG,w4⟩;rcases turn i n DP H4 w4 with ⟨stop,qn⟩ | ⟨go,step⟩
   ·refine wpAny_mono (T.done (AB X scope DL N s2 H2 HH.objs.size fp fn) rfl rfl rfl hc i [] s4 DP H4 (fun _ _=>False) I4 (stat JG) Jo stop) (fun r s5 ⟨hr,I5⟩=>?_) fun _ _ z=>z.elim
    subst hr;obtain ⟨m5,Oa,_⟩:=id I5.loc;exact ⟨m5,Oa,fun h' Lu=>⟨.ref _,H4,JL I2 f2 fC I5 Lu,rfl,qn⟩⟩
   ·refine wpAny_mono (T.item (AB X scope DL N s2 H2 HH.objs.size fp fn) rfl rfl rfl hc i [] s4 DP H4 (fun _ _=>False) I4 (stat JG) Jo go) (fun r s5 ⟨u,hr,h5⟩=>?_) fun _ _ z=>z.elim
    subst hr;refine wpAny_mono h5 (fun _ s6 ⟨x,H6,I6,r6,y6,Gd,Of⟩=>?_) fun _ _ z=>z.elim
    have Oz:=I6.pinned (stat Of) (T.obj _ _ Gd);refine wpAny_mono (hg s6 DP H6 x u _ Oz r6 (step x H6 y6)) (fun _ s7 ⟨D8,H7,I7,q7⟩=>?_) fun _ _ z=>z.elim
    refine wpAny_mono (ht s7 D8 H7 _ I7 q7) (fun ok s8 ⟨H8,I8,q8⟩=>?_) fun _ _ z=>z.elim
    have again:∀ {s9:Shared} {DO:St} {H9:Hp} ,An (AB X scope DL N s2 H2 HH.objs.size fp fn) ([] ++ BF fp s6.heap) DO H9 s9->(∃ m',m' < n/\W (i + 1) m' DO H9)->∃ m,m < n/\∃ i Ar H',An (AB X scope DL N s2 H2 HH.objs.size fp fn) [] Ar H' s9/\tn i s9.heap/\(∀ b ∈ fp,H' b=none)/\W i m Ar H':=fun {s9 DO H9} I9 n9=>by
     obtain ⟨m',hm,w9⟩:=n9;refine ⟨m',hm,i + 1,DO,H9,I9.unpinned,T.keep _ _ _ Gd fun b hb o e=>(I9.pin (b,o) (XO _ (XO _ (A8 hb e)))).1,fun b hb=>?_,w9⟩;obtain ⟨o,e,d⟩:=T.obj _ _ Gd b hb;exact (I9.pin (b,o) (XO _ (XO _ (A8 hb e)))).2.1
    cases ok with
    | false=>
     rw [if_neg Yc] at q8 ⊢;exact again I8 q8
    | true=>
     rw [if_pos rfl] at q8 ⊢;refine wpAny_mono (hk s8 D8 H8 _ I8 q8) (fun yk s9 ⟨k,H9,I9,r9,q9⟩=>?_) fun _ _ z=>z.elim
     refine wpAny_mono (hv s9 D8 H9 _ I9 q9) (fun yv LD ⟨v,Hl,O0,UL,kvs,key,ek,hacc,hsz,Ls⟩=>?_) fun _ _ z=>z.elim
     subst ek;exact Gr (X:=AB X scope DL N s2 H2 HH.objs.size fp fn) O0 hacc hsz r9 UL fun Q9 Sq=>again Sq Ls
  ·have z:=(f2 b hb).1;obtain ⟨o,e⟩:=hfo b hb;rw [Af (XQ (XE e))];exact z
 subst ecl;exact codeAny_compStart_dict (loop _ rfl) (T.self _ 0 _ _ _ (T.keep _ _ _ Eh fun b hb o e=>old b o e) (loop _ rfl))
theorem NF {a:Addr} {kvs:List (AO × V)} {o:Obj}:Ox (RQ a kvs o) (kvs.map fun p=>kV p.1) (fun H=>H a=some (.frz o (.dK kvs))):=
 ⟨fun i H q B0=>⟨q,by rwa [X8] at B0⟩,fun i H x H' q ⟨e,k,v,e1,e2⟩=>⟨e,by rw [XU,e1,e2]; rfl⟩,fun H q=>⟨q,by rw [X8]; exact XD _⟩⟩
theorem Qu (ws:List AG) (x y:Str):dst ws x y=dst ws y x:=by
 by_cases h:∃ n,Kz ws x y n
 ·obtain ⟨n,h⟩:=h;rw [h.dst,h.symm.dst]
 ·unfold dst;rw [dif_neg h,dif_neg (fun ⟨n,z⟩=>h ⟨n,z.symm⟩)]
def RN (H:Hp) (S:Addr) (ws:List AG) (ss qs:List Str) (mo:Int):Prop:=∃ nv:List (Str × V),H S=some (.dK (sK nv))/\nv.map (·.1)=qs/\∀ q ∈ nv,∃ l,q.2=.ref l/\H l=some (.lst ((ss.filter fun s=>Bn ws mo s q.1).map V.str))
def Jp:Sp:=fun vs H Q _=>∃ (c m:Addr) (mo:Int) (n:Nat) (xs:List Str) (ws:List AG) (Bj Bc:List Fx) (x:V) (d:PyData),vs=[.ref c,.int mo]/\Eg H c m n xs ws Bj Bc x d /\
 ∀ (H':Hp) (S:Addr),Au H H'->H S=none->RN H' S ws (Bj.map (·.1)) (Bc.map (·.1)) mo->Q (.ref S) H'
theorem EM.keep5 {K:XB} {H H':Hp} {A p:Addr} {xs:List Str} {ws:List AG} (h:EM H A xs ws) (P:CP K H p) (k:AI p H H'):EM H' A xs ws:=by
 obtain ⟨M,c,⟨kvs,a,b⟩,d⟩:=h;obtain ⟨_,_,_,_,hp,_⟩:=P;exact ⟨M,c,⟨kvs,k _ _ (Ba a hp (fun z=>by cases z)) a,b⟩,d⟩
def K9 (K:XB):Sp:=fun vs H Q _=>∃ (p c A m:Addr) (n:Nat) (xs:List Str) (ws:List AG) (Bj Bc:List Fx) (x:V) (d:PyData),vs=[.ref p,.ref c,.ref A]/\CP K H p/\Eg H c m n xs ws Bj Bc x d/\EM H A xs ws /\
 ∀ (H':Hp) (F:Addr) (ns:List Int),CP K H' p->AI p H H'->H F=none->H' F=some (.lst (ns.map V.int))->ns.length=13->Q (.ref F) H'
def IX (nv:List (Str × V)):PyData:=.dict (nv.map fun q=>(.str q.1,.bool true))
theorem KL {P:Program} {w:World} {h:Heap}:∀ {nv:List (Str × V)} {vs:List (AO × Value)} {es:List DictEntry},KV (sK nv) vs->Pairs (AK P w) es vs->(∀ q ∈ nv,q.2=.bl true) ->
  ReadsAll h (es.map (·.key)) (nv.map fun q=>.str q.1) []/\ReadsAll h (es.map (·.val)) (nv.map fun _=>.bool true) []:=by
 intro nv;induction nv with
 | nil=>
  intro vs es kv ps _;cases kv
  cases ps
  exact ⟨.nil,.nil⟩
 | cons q nv ih=>
  intro vs es kv ps hv;cases kv with
  | @cons _ v _ vs a b=>
   cases ps with
   | @cons e _ es _ c1 c2 d=>
    obtain ⟨i1,i2⟩:=ih b d fun q hq=>hv q (Yg _ hq)
    have hq:q.2=.bl true:=hv q Yh;obtain ⟨a1,a2⟩:=a;have ev:v.2=.bool true:=by
     have a2':A3 q.2 v.2:=a2;rw [hq] at a2';exact a2'
    have ek:∃ t,e.key=.str q.1 t:=by
     have a1':(Sum.inr q.1:AO)=v.1:=a1;rcases AZ (show GH v.1 e.key=true from c1) with ⟨i,t,z,_⟩ | ⟨y,t,z,y2⟩
     ·rw [<-a1'] at z; cases z
     ·rw [<-a1'] at z;cases z
      exact ⟨t,y2⟩
    obtain ⟨t,ek⟩:=ek;refine ⟨?_,?_⟩
    ·show ReadsAll h (e.key :: _) (.str q.1 :: _) ([] ++ [])
     rw [ek];exact .cons (.str _ _) i1
    ·show ReadsAll h (e.val :: _) (.bool true :: _) ([] ++ [])
     rw [c2,ev];exact .cons (.bool _) i2
theorem JK {X:Cx} {pins:List (Addr × Obj)} {σ:St} {H:Hp} {s:Shared} {a:Addr} {nv:List (Str × V)} (I:An X pins σ H s) (ha:H a=some (.dK (sK nv))) (hv:∀ q ∈ nv,q.2=.bl true):Reads s.heap (.ref a) (IX nv) [a]/\a ≠ sysModules:=by
 obtain ⟨z,hd,vs,rel,o,es,ep,h1,h2,h3,h4,h5,h6⟩:=MP I.hok ha;obtain ⟨r1,r2⟩:=KL (h:=s.heap) rel h5 hv;refine ⟨?_,fun e=>by rw [e] at hd; simp at hd⟩;have:=Reads.dict (kvs:=nv.map fun q=>(.str q.1,.bool true)) h1 h2.1 h3 (by rw [Y7]; exact r1) (by rw [Y7]; exact r2);exact this
def U7 (H:Hp) (v:V) (d:PyData):Prop:=(∃ x,v=.str x/\d=.str x)\/∃ b,v=.ref b/\H b=some (.dK (sK []))/\d=.dict []
theorem NW {X:Cx} {pins:List (Addr × Obj)} {σ:St} {H:Hp} {s:Shared} (I:An X pins σ H s):∀ {vs:List V} {us:List Value} {ds:List PyData},Paired (U7 H) vs ds->Ax vs us->∃ as,ReadsAll s.heap us ds as/\sysModules ∉ as:=by
 intro vs;induction vs with
 | nil=>
  intro us ds p r;cases p
  cases r
  exact ⟨[],.nil,by simp⟩
 | cons v vs ih=>
  intro us ds p r;cases p with
  | cons p1 p2=>
   cases r with
   | cons r1 r2=>
    obtain ⟨as,q1,q2⟩:=ih p2 r2;rcases p1 with ⟨x,rfl,rfl⟩ | ⟨b,rfl,hb,rfl⟩
    ·obtain ⟨t,rfl⟩:=r1;exact ⟨[] ++ as,.cons (.str _ _) q1,q2⟩
    ·cases r1
     obtain ⟨z1,z2⟩:=JK I hb (fun q hq=>nomatch hq);refine ⟨[b] ++ as,.cons z1 q1,fun hm=>?_⟩;rcases Ye.mp hm with hm | hm
     ·exact z2 (XY.mp hm).symm
     ·exact q2 hm
inductive Ow (H:Hp):V->Str->Prop
 | non:Ow H .non "None"
 | bl (b:Bool):Ow H (.bl b) (if b then "True" else "False")
 | int {i:Int}:i.natAbs.log2 < 1920->Ow H (.int i) (toString i)
 | str {x:Str}:(reprText x).length<=sizeLine->Ow H (.str x) (reprText x)
 | dat {a:Addr} {d:PyData}:GQ H (.ref a) d->d.showable=true->d.hasDict=false->d.depth<=60->d.shown.length<=sizeLine->Ow H (.ref a) d.shown
 | dic {a:Addr} {nv:List (Str × V)}:H a=some (.dK (sK nv))->(∀ q ∈ nv,q.2=.bl true)->(IX nv).showable=true->(IX nv).depth<=60->(IX nv).shown.length<=sizeLine->Ow H (.ref a) (IX nv).shown
 | lse {a:Addr} {vs:List V} {ds:List PyData}:H a=some (.lst vs)->Paired (U7 H) vs ds->(PyData.list ds).showable=true->(PyData.list ds).depth<=60->(PyData.list ds).shown.length<=sizeLine->Ow H (.ref a) (PyData.list ds).shown
theorem Iw {X:Cx} (hg:X.A.guards=some []) (hu:X.A.units + 64 < cLine):Bq X (.builtin "repr") (fun xs H Q=>∃ (v:V) (t:Str),xs=[v]/\Ow H v t/\Q (.str t) H):=by
 intro pins s σ H xs us Q I r h;obtain ⟨v,t,rfl,sh,q⟩:=h;cases sh with
 | non=>
  obtain ⟨u,rfl,ru⟩:=B7 r;cases ru
  exact PySem.P.repr_of_none ⟨.str _,H,I.tok _,⟨_,rfl⟩,q⟩
 | bl b=>
  obtain ⟨u,rfl,ru⟩:=B7 r;cases ru
  exact PySem.P.repr_of_bool ⟨.str _,H,I.tok _,⟨_,rfl⟩,q⟩
 | int hi=>
  obtain ⟨u,rfl,ru⟩:=B7 r;obtain ⟨t',rfl⟩:=ru;exact PySem.P.repr_of_int hi ⟨.str _,H,I.tok _,⟨_,rfl⟩,q⟩
 | str hz=>
  obtain ⟨u,rfl,ru⟩:=B7 r;obtain ⟨t',rfl⟩:=ru;exact PySem.P.repr_of_str ⟨.str _,H,I.tok _,⟨_,rfl⟩,q⟩ hz
 | dat h1 h2 h3 h4 h5=>exact Ot hg hu (pins:=pins) s σ H _ us Q I r ⟨_,_,rfl,h1,h2,h3,h4,h5,q⟩
 | dic h1 h2 h3 h4 h5=>
  obtain ⟨u,rfl,ru⟩:=B7 r;cases ru
  obtain ⟨rd,ns⟩:=JK I h1 h2;refine repr_of_reads' rd h3 (fun _ hm=>ns (XY.mp hm).symm) hg (by lia) (fun _ _ e=>e) (fun h' u tk kk=>?_) h5;exact ⟨.str _,H,I.kept (t':=tk) kk,⟨u,rfl⟩,q⟩
 | @lse a vs ds h1 h2 h3 h4 h5=>
  obtain ⟨u,rfl,ru⟩:=B7 r;cases ru
  obtain ⟨Ao,rv,pl,hz⟩:=I.list (AA.of h1);obtain ⟨as,ra,na⟩:=NW I h2 rv;obtain ⟨o,ho,hc,n,hd⟩:=pl.isList;have rd:Reads s.heap (.ref a) (.list ds) (a :: as):=.list ho hc hd ra;have Ig:(listText (PyData.shownAll ds)).length<=sizeLine:=by simpa only [PyData.shown] using h5
  obtain ⟨bs,hb,hk⟩:=ReprAllK.of_readsAll (prog:=X.prog) (w:=X.w) ra (by simpa [PyData.showable] using h3) (fun _ hm=>na hm) (fun t ht=>Yo (listText_mem_le ht) Ig);have hna:a ∉ bs:=not_mem_of_deeper rd (by simp only [PyData.depth]; lia) hb;refine call_repr_slot (by lia) ⟨o,ho,hc⟩ F.slot_list_repr.toG ?_;cases Ao with
  | nil=>
   cases ra
   refine call_list_repr_empty ⟨o,ho,hc⟩ ho hd ⟨_,_,rfl,.str _,H,I.tok _,⟨_,rfl⟩,?_⟩;exact q
  | cons y l=>
   simp only [PyData.depth] at h4;refine call_list_reprK ho hc hd hna (by simpa using hk.length_eq) (fun i y e=>hk.item i y (by simpa using e)) hg (fun b _=>Clear.nil b) (by rw [PySem.Around.in1_units]; lia) (fun _ _ e=>e) (fun h' u tk kk=>⟨_,_,rfl,.str _,H,I.kept (t':=tk) kk,⟨u,rfl⟩,?_⟩) Ig;simpa only [PyData.shown] using q
def Uc (K:XB) (H:Hp) (u:V):Prop:=(∃ y,u=.str y/\y.length<=1000)\/EL K H u
def IE (K:XB) (H:Hp) (x:V):Prop:=∃ ty,Ec K H x ty/\Zw K ty (.type "list")=some false
theorem IE.same {K:XB} {H H':Hp} {x:V} (h:IE K H x) (s:Au H H'):IE K H' x:=let ⟨ty,a,b⟩:=h; ⟨ty,a.same s,b⟩
theorem Uc.same {K:XB} {H H':Hp} {x:V} (h:Uc K H x) (s:Au H H'):Uc K H' x:=h.imp id fun z=>z.same s
def U5 (K:XB) (H:Hp) (v:V):Prop:=(∃ l xs,v=.ref l/\H l=some (.lst xs)/\(∀ u ∈ xs,Uc K H u)/\xs.length<=60)\/IE K H v
theorem U5.same {K:XB} {H H':Hp} {x:V} (h:U5 K H x) (s:Au H H'):U5 K H' x:=by
 rcases h with ⟨l,xs,a,b,c,d⟩ | h
 ·exact .inl ⟨l,xs,a,s _ _ b,fun u hu=>(c u hu).same s,d⟩
 ·exact .inr (h.same s)
def HU:V->Bool
 | .str s=>Bb s
 | _=>false
theorem HS:∀ {xs:List V},(xs.map HU).all id=true->∃ ss:List Str,xs=ss.map V.str/\∀ s ∈ ss,Bb s=true
 | [],_=>⟨[],rfl,fun s hs=>nomatch hs⟩
 | x :: xs,h=>by
  rw [Yj,Z7,YC] at h;obtain ⟨ss,rfl,hn⟩:=HS h.2;cases x with
  | str y=>
   refine ⟨y :: ss,rfl,fun s hs=>?_⟩;rcases XC.mp hs with rfl | hs
   ·exact h.1
   ·exact hn s hs
  | _=>exact absurd h.1 (by simp [HU])
theorem Mc {ss:List Str} (h:∀ s ∈ ss,Bb s=true):((ss.map V.str).map HU).all id=true:=by
 rw [Y7,ZU,Y4];intro s hs;exact h s hs
theorem NO {K:XB} {H:Hp} {x:V} (h:EL K H x):HU x=false:=by
 obtain ⟨ty,a,b⟩:=h;cases a with
 | str y=>exact absurd (show some true=some false from b) (fun z=>by cases z)
 | _=>rfl
def Jr (K:XB):Sp:=fun vs H Q _=>∃ (t:Addr) (xs:List V),vs=[.ref t]/\H t=some (.lst xs)/\(∀ u ∈ xs,Uc K H u)/\xs.length<=60 /\
 ∀ (b:Bool) (H':Hp),Au H H'->(b=true ↔ ∃ ss:List Str,xs=ss.map V.str/\(∀ s ∈ ss,Bb s=true)/\CL ss)->Q (.bl b) H'
def Gf (K:XB):Sp:=fun vs H Q _=>∃ (v:V) (pl:Addr) (ss:List Str),vs=[v,.ref pl]/\U5 K H v/\H pl=some (.lst (ss.map V.str))/\(∀ s ∈ ss,Bb s=true) /\
 ∀ (b:Bool) (H':Hp),Au H H'->(b=true ↔ ∃ (l:Addr) (ys:List Str),v=.ref l/\H l=some (.lst (ys.map V.str))/\(∀ y ∈ ys,y ∈ ss)/\CL ys)->Q (.bl b) H'
theorem F8:∀ {a b:List Str},a.map V.str=b.map V.str->a=b
 | [],[],_=>rfl
 | [],_ :: _,e=>by cases e
 | _ :: _,[],e=>by cases e
 | x :: a,y :: b,e=>by
  rw [Yj,Yj] at e;injection e with e1 e2;injection e1 with e1;rw [e1,F8 e2]
theorem LJ {K:XB} {H:Hp} {y:Str} (h:EL K H (.str y)):False:=by
 obtain ⟨ty,a,b⟩:=h;cases a
 exact absurd (show some true=some false from b) (fun z=>by cases z)
theorem Fs {K:XB} {H:Hp} {l:Addr} {xs:List V} (h:IE K H (.ref l)) (e2:H l=some (.lst xs)):False:=by
 obtain ⟨ty,h1,h2⟩:=h;cases h1 with
 | lst e=>exact absurd (show some true=some false from h2) (fun z=>by cases z)
 | frz e=>exact absurd (show some true=some false from h2) (fun z=>by cases z)
 | tup e=>rw [e2] at e; cases e
 | dK e=>rw [e2] at e; cases e
 | dT e=>rw [e2] at e; cases e
 | ins e=>rw [e2] at e; cases e
theorem PV {X:Cx}:MtR X "str.upper" (fun x vs H Q=>∃ t,x=.str t/\vs=[]/\(Txt.upper t).length<=1000/\Q (.str (Txt.upper t)) H):=by
 intro pins s σ H x vs v us Q I rx rv h;obtain ⟨t,rfl,rfl,hz,q⟩:=h;obtain ⟨tk,rfl⟩:=rx;have hus:=rv.zero;subst hus;have big:1000 < sizeLine:=by decide
 exact PySem.SC.upper (decide_eq_false (show ¬ (_:Nat) > sizeLine by lia)) ⟨.str _,H,I.tok _,⟨_,rfl⟩,q⟩
theorem Nb:∀ k:Fin 26,(Unicode.upperOf (97 + k.1)).length=1:=by decide +kernel
theorem Jl {x:Str} (h:Q5 x):(Txt.upper x).length=x.length:=by
 show (placed x fun _ c=>Unicode.upperOf c).size=x.cps.size
 unfold placed;rw [Array.size_flatten];have e:(x.cps.mapIdx fun i c=>(Unicode.upperOf c).toArray).map Array.size=x.cps.map fun _=>1:=by
  apply ZE
  ·simp
  ·intro i h1 h2;have hi:i < x.cps.size:=by simpa using h2
   have m:x.cps[i] ∈ x.cps.toList:=by simp
   have lo:=h _ m;simp only [Array.getElem_map,Array.getElem_mapIdx,Yf];have l2:97<=x.cps[i]/\x.cps[i]<=122:=by simpa [Fc] using lo
   have:=Nb ⟨x.cps[i] - 97,by lia⟩;rw [show 97 + (x.cps[i] - 97)=x.cps[i] by lia] at this;exact this
 rw [e];have su:∀ l:List Nat,(l.map fun _=>1).sum=l.length:=by
  intro l;induction l with
  | nil=>rfl
  | cons a l ih=>rw [Yj,bo,ih,Yv]; lia
 rw [<-Array.sum_toList,Array.toList_map,su,Yp]
structure FS (d:PyData) (k b:Nat):Prop where
 sho:d.showable=true
 lv:d.leavesShort 200=true
 dp:d.depth<=k
 bu:d.bulk<=b
theorem Ky.fs {d:PyData} {k b:Nat} (h:Ky d k b):FS d k b:=⟨h.sho,h.lv,h.dp,h.bu⟩
theorem FS.mono {d:PyData} {k b k' b':Nat} (h:FS d k b) (h1:k<=k') (h2:b<=b'):FS d k' b':=⟨h.sho,h.lv,Yo h.dp h1,Yo h.bu h2⟩
def Ek (x:Str):Prop:=x.length<=100/\∀ c ∈ x.cps.toList,c < 16 ^ 8
theorem FS.str {x:Str} (h:Ek x):FS (.str x) 0 100:=by
 refine ⟨rfl,?_,XD _,?_⟩
 ·have e:PyData.leavesShort 200 (.str x)=x.cps.toList.all fun c=>decide (c < 16 ^ 8):=by simp only [PyData.leavesShort]
  rw [e,Y4];exact fun c hc=>decide_eq_true (h.2 c hc)
 ·show PyData.bulk (.str x)<=100
  simp only [PyData.bulk];exact h.1
theorem FS.all {k b:Nat}:∀ {ds:List PyData},(∀ d ∈ ds,FS d k b)->PyData.showableAll ds=true/\PyData.leavesShortAll 200 ds=true/\PyData.depthAll ds<=k/\PyData.bulkAll ds<=ds.length * (b + 1)
 | [],_=>⟨rfl,rfl,Yr _,Yr _⟩
 | d :: ds,h=>by
  obtain ⟨a2,a4,a5,a6⟩:=FS.all (ds:=ds) fun e he=>h e (Yg _ he)
  have f:=h d Yh;have f5:=f.dp;have f6:=f.bu;refine ⟨by simp [PyData.showableAll,f.sho,a2],by simp [PyData.leavesShortAll,f.lv,a4],?_,?_⟩
  ·simp only [PyData.depthAll];lia
  ·simp only [PyData.bulkAll,Yv,ZX];lia
theorem FS.tuple {ds:List PyData} {k b:Nat} (h:∀ d ∈ ds,FS d k b):FS (.tuple ds) (k + 1) (ds.length * (b + 1)):=by
 obtain ⟨a2,a4,a5,a6⟩:=FS.all h;exact ⟨by simp only [PyData.showable]; exact a2,by simp only [PyData.leavesShort]; exact a4,by simp only [PyData.depth]; lia,by simp only [PyData.bulk]; exact a6⟩
theorem FS.list {ds:List PyData} {k b:Nat} (h:∀ d ∈ ds,FS d k b):FS (.list ds) (k + 1) (ds.length * (b + 1)):=by
 obtain ⟨a2,a4,a5,a6⟩:=FS.all h;exact ⟨by simp only [PyData.showable]; exact a2,by simp only [PyData.leavesShort]; exact a4,by simp only [PyData.depth]; lia,by simp only [PyData.bulk]; exact a6⟩
theorem FS.len {d:PyData} {k b:Nat} (h:FS d k b) (hb:b<=60000):d.shown.length<=sizeLine:=by
 have q:=PyData.shown_le_bulk 200 (by decide) d h.lv;have:=h.bu;have e:202 * d.bulk<=202 * 60000:=Nat.mul_le_mul_left _ (by lia);have:202 * 60000 + 200<=sizeLine:=by decide
 lia
def Tg (K:XB) (H:Hp) (v:V):Prop:=U5 K H v/\∃ t,Ow H v t
theorem FK {x:Str} (h:Bb x=true):Ek x:=by
 obtain ⟨l1,l2,lo⟩:=LL h;refine ⟨by lia,fun c hc=>?_⟩;have:=lo c hc;unfold Fc at this;simp at this;lia
theorem BS:∀ ys:List Str,PyData.hasDictAll (ys.map PyData.str)=false
 | []=>rfl
 | y :: ys=>by rw [Yj,PyData.hasDictAll,BS ys]; rfl
theorem Cy {K:XB} {H:Hp} {l:Addr} {ys:List Str} (h:H l=some (.lst (ys.map V.str))) (ok:∀ y ∈ ys,Ek y) (few:ys.length<=60):Tg K H (.ref l):=by
 refine ⟨.inl ⟨l,_,rfl,h,fun u hu=>?_,by rw [X8]; exact few⟩,?_⟩
 ·obtain ⟨y,hy,rfl⟩:=Ya.mp hu;exact .inl ⟨y,rfl,by have:=(ok y hy).1; lia⟩
 ·have fs:FS (.list (ys.map PyData.str)) 1 (60 * 101):=(FS.list (k:=0) (b:=100) fun d hd=>by
   obtain ⟨y,hy,rfl⟩:=Ya.mp hd;exact FS.str (ok y hy)).mono (XD _) (by rw [X8]; lia)
  exact ⟨_,.dat (.lst h (BE _ ys)) fs.sho (by simp only [PyData.hasDict]; exact BS ys) (Yo fs.dp (by decide)) (fs.len (by decide))⟩
theorem S2 {K:XB} {H:Hp}:Tg K H .non:=⟨.inr ⟨_,.non,rfl⟩,_,.non⟩
theorem tg_bl {K:XB} {H:Hp} (b:Bool):Tg K H (.bl b):=⟨.inr ⟨_,.bl b,rfl⟩,_,.bl b⟩
theorem S3 {K:XB} {H:Hp} {i:Int} (h:i.natAbs.log2 < 1920):Tg K H (.int i):=⟨.inr ⟨_,.int i,rfl⟩,_,.int h⟩
theorem OL {K:XB} {H:Hp} {x:Str} (h:Ek x):Tg K H (.str x):=⟨.inr ⟨_,.str x,rfl⟩,_,.str (by
 have:=(FS.str h).len (by decide);simpa only [PyData.shown] using this)⟩
theorem OK {K:XB} {H:Hp} {l:Addr} {ys:List Str} (h:H l=some (.tup (ys.map V.str))) (ok:∀ y ∈ ys,Ek y) (few:ys.length<=60):Tg K H (.ref l):=by
 refine ⟨.inr ⟨_,.tup h,rfl⟩,?_⟩;have fs:FS (.tuple (ys.map PyData.str)) 1 (60 * 101):=(FS.tuple (k:=0) (b:=100) fun d hd=>by
   obtain ⟨y,hy,rfl⟩:=Ya.mp hd;exact FS.str (ok y hy)).mono (XD _) (by rw [X8]; lia)
 exact ⟨_,.dat (.tup h (BE _ ys)) fs.sho (by simp only [PyData.hasDict]; exact BS ys) (Yo fs.dp (by decide)) (fs.len (by decide))⟩
def Mi (K:XB) (H:Hp) (v:V):Prop:=(∃ x,v=.str x/\Ek x)\/(EL K H v/\∃ d,GQ H v d/\FS d 1 200/\d.hasDict=false)\/∃ b,v=.ref b/\H b=some (.dK (sK []))
theorem Mi.same {K:XB} {H H':Hp} {v:V} (h:Mi K H v) (s:Au H H'):Mi K H' v:=by
 rcases h with h | ⟨ns,d,hd,r⟩ | ⟨b,e,hb⟩
 ·exact .inl h
 ·exact .inr (.inl ⟨ns.same s,d,hd.same s,r⟩)
 ·exact .inr (.inr ⟨b,e,s _ _ hb⟩)
theorem E7:∀ (a b:List PyData),PyData.hasDictAll (a ++ b)=(PyData.hasDictAll a || PyData.hasDictAll b)
 | [],b=>by rw [ZJ,PyData.hasDictAll]; rfl
 | x :: a,b=>by rw [Zs,PyData.hasDictAll,PyData.hasDictAll,E7 a b,Bool.or_assoc]
theorem Eu {H:Hp}:∀ ys:List Str,Paired (U7 H) (ys.map V.str) (ys.map PyData.str)
 | []=>.nil
 | y :: ys=>.cons (.inl ⟨y,rfl,rfl⟩) (Eu ys)
theorem HM {α β:Type} {R:α->β->Prop} {a c:List α} {b d:List β} (h:Paired R a b) (h2:Paired R c d):Paired R (a ++ c) (b ++ d):=by
 induction h with
 | nil=>exact h2
 | cons x _ ih=>exact .cons x ih
theorem TF:FS (.dict []) 1 200:=⟨by decide,by decide,by decide,by decide⟩
theorem Qn {xs zs:List Str} {d:PyData} (h:FS d 1 200) (o1:∀ x ∈ xs,Ek x) (o2:∀ x ∈ zs,Ek x) (few:xs.length + zs.length<=50):FS (.list (xs.map PyData.str ++ [d] ++ zs.map PyData.str)) 2 (60 * 201):=by
 refine (FS.list (k:=1) (b:=200) fun e he=>?_).mono (XD _) ?_
 ·rcases Ye.mp he with he | he
  ·rcases Ye.mp he with he | he
   ·obtain ⟨y,hy,rfl⟩:=Ya.mp he;exact (FS.str (o1 y hy)).mono (by decide) (by decide)
   ·rw [XY.mp he]; exact h
  ·obtain ⟨y,hy,rfl⟩:=Ya.mp he;exact (FS.str (o2 y hy)).mono (by decide) (by decide)
 ·rw [XI,XI,X8,X8,Y1];lia
theorem L5 {K:XB} {H:Hp} {l:Addr} {xs zs:List Str} {v:V} (h:H l=some (.lst (xs.map V.str ++ [v] ++ zs.map V.str))) (od:Mi K H v) (o1:∀ x ∈ xs,Ek x) (o2:∀ x ∈ zs,Ek x) (few:xs.length + zs.length<=50):Tg K H (.ref l):=by
 have itv:Uc K H v:=by
  rcases od with ⟨x,rfl,ok⟩ | ⟨ns,_⟩ | ⟨b,rfl,hb⟩
  ·exact .inl ⟨x,rfl,by have:=ok.1; lia⟩
  ·exact .inr ns
  ·exact .inr ⟨_,.dK hb,rfl⟩
 refine ⟨.inl ⟨l,_,rfl,h,fun u hu=>?_,by rw [XI,XI,X8,X8,Y1]; lia⟩,?_⟩
 ·rcases Ye.mp hu with hu | hu
  ·rcases Ye.mp hu with hu | hu
   ·obtain ⟨y,hy,rfl⟩:=Ya.mp hu;exact .inl ⟨y,rfl,by have:=(o1 y hy).1; lia⟩
   ·rw [XY.mp hu]; exact itv
  ·obtain ⟨y,hy,rfl⟩:=Ya.mp hu;exact .inl ⟨y,rfl,by have:=(o2 y hy).1; lia⟩
 ·have byD:∀ d,GQ H v d->FS d 1 200->d.hasDict=false->∃ t,Ow H (.ref l) t:=fun d hd fd nd=>by
   have fs:=Qn fd o1 o2 few;refine ⟨_,.dat (.lst h (EC (EC (BE _ xs) (.cons hd .nil)) (BE _ zs))) fs.sho ?_ (Yo fs.dp (by decide)) (fs.len (by decide))⟩;simp only [PyData.hasDict];rw [E7,E7,BS,BS];simp [PyData.hasDictAll,nd]
  rcases od with ⟨x,rfl,ok⟩ | ⟨_,d,hd,fd,nd⟩ | ⟨b,rfl,hb⟩
  ·exact byD _ (.str x) ((FS.str ok).mono (by decide) (by decide)) rfl
  ·exact byD d hd fd nd
  ·have fs:=Qn TF o1 o2 few;exact ⟨_,.lse h (HM (HM (Eu xs) (.cons (.inr ⟨b,rfl,hb,rfl⟩) .nil)) (Eu zs)) fs.sho (Yo fs.dp (by decide)) (fs.len (by decide))⟩
theorem S4 {K:XB} {H:Hp} {a:Addr} {ys:List Str} (h:H a=some (.dK (sK (ys.map fun y=>(y,V.bl true))))) (ok:∀ y ∈ ys,Ek y) (few:ys.length<=60):Tg K H (.ref a):=by
 refine ⟨.inr ⟨_,.dK h,rfl⟩,?_⟩;have tr:∀ q ∈ ys.map fun y=>(y,V.bl true),q.2=.bl true:=fun q hq=>by
  obtain ⟨y,_,rfl⟩:=Ya.mp hq;rfl
 have all:∀ {ys:List Str},(∀ y ∈ ys,Ek y)->PyData.showableKv ((ys.map fun y=>(y,V.bl true)).map fun q=>(PyData.str q.1,PyData.bool true))=true/\PyData.leavesShortKv 200 ((ys.map fun y=>(y,V.bl true)).map fun q=>(PyData.str q.1,PyData.bool true))=true /\
   PyData.depthKv ((ys.map fun y=>(y,V.bl true)).map fun q=>(PyData.str q.1,PyData.bool true))<=0/\PyData.bulkKv ((ys.map fun y=>(y,V.bl true)).map fun q=>(PyData.str q.1,PyData.bool true))<=ys.length * 102:=by
  intro ys;induction ys with
  | nil=>intro _; exact ⟨rfl,rfl,XD _,XD _⟩
  | cons y ys ih=>
   intro ok;obtain ⟨a1,a2,a3,a4⟩:=ih fun z hz=>ok z (Yg _ hz)
   have f:=FS.str (ok y Yh);have f3:=f.dp;have f4:=f.bu;rw [Yj,Yj];refine ⟨?_,?_,?_,?_⟩
   ·rw [PyData.showableKv,a1,f.sho]; rfl
   ·rw [PyData.leavesShortKv,a2,f.lv]; rfl
   ·simp only [PyData.depthKv];have:PyData.depth (.bool true)=0:=rfl;lia
   ·simp only [PyData.bulkKv,Yv,ZX];have:PyData.bulk (.bool true)=0:=by simp only [PyData.bulk]
    lia
 obtain ⟨a1,a2,a3,a4⟩:=all ok;have fs:FS (IX (ys.map fun y=>(y,V.bl true))) 1 (60 * 102):=⟨by unfold IX; simp only [PyData.showable]; exact a1,by unfold IX; simp only [PyData.leavesShort]; exact a2,by unfold IX; simp only [PyData.depth]; lia,by unfold IX; simp only [PyData.bulk]; lia⟩
 exact ⟨_,.dic h tr fs.sho (Yo fs.dp (by decide)) (fs.len (by decide))⟩
theorem OM {K:XB} {H:Hp} {l:Addr} {v:V} {d:PyData} (h:H l=some (.lst [v])) (hd:GQ H v d) (fd:FS d 1 (60 * 101)) (nd:d.hasDict=false) (it:Uc K H v):Tg K H (.ref l):=by
 refine ⟨.inl ⟨l,_,rfl,h,fun u hu=>by rw [XY.mp hu]; exact it,by show 1<=60; decide⟩,?_⟩;have fs:FS (.list [d]) 2 (1 * (60 * 101 + 1)):=FS.list (k:=1) (b:=60 * 101) fun e he=>by rw [XY.mp he]; exact fd
 exact ⟨_,.dat (.lst h (.cons hd .nil)) fs.sho (by simp only [PyData.hasDict,PyData.hasDictAll,nd]; rfl) (Yo fs.dp (by decide)) (fs.len (by decide))⟩
def SD (K:XB) (te:TE):TE:=fun σ H Q=>te σ H fun x H1=>∃ (a:Addr) (xs:List V),x=.ref a/\AA K H1 a xs/\∀ (p:Addr) (zs:List V),H1 p=none->zs.length<=xs.length->(∀ z ∈ zs,z ∈ xs)->Q (.ref p) (upd H1 p (.lst zs))
theorem PD {X:Cx} {e st:Expr} {te:TE} {pos p2:Pos} (he:PE X e te) (hst:PE X st (tUn (rU fun i=>.int (-i)) (tC (.int 1)))):PE X (.Subscript e (.Slice none none (some st) p2) pos) (SD X.K te):=by
 intro pins s σ H Q I h;refine Subscript_ (Bx (he (pins:=pins) s σ H _ I h) fun v s1 ⟨x,H1,I1,r1,q1⟩=>?_);obtain ⟨a,xs,rfl,ht,q⟩:=q1;cases r1
 refine wpAny_Slice ?_;rw [evalPart_none];refine wpAny_pure ?_;refine wpAny_pure ?_;rw [evalPart_some];refine Bx (hst (pins:=pins) s1 σ H1 (fun y H2=>y=.int (-1)/\H2=H1) I1 ⟨_,rfl,rfl,rfl⟩) fun u s2 ⟨y,H2,I2,r2,e2,e3⟩=>?_
 subst e2 e3;obtain ⟨tk,rfl⟩:=r2;have I3:An X pins σ H2 { s2 with heap:=s2.heap.push { cls:=.type "slice",data:=.fields #[.none,.none,.int (-1) tk] } }:=I2.kept (t':=s2.toks) fun b ob q=>X9 _ q
 obtain ⟨Ao,r,p,hz⟩:=I3.list ht;have hl:Ao.toArray.size=xs.length:=by rw [Yf]; exact r.length.symm
 refine tail_any (ops:=[.ref a,.ref s2.heap.objs.size]) p.isList.typeIs slot_list_getitem.lookup ?_ (by with_unfolding_all rfl);refine wpAny_getItem_list_slice p.isList (Heap.IsSliceOf.new ..) .none .none (.int (-1) tk) (by simp) ?_ (by rw [hl]; exact hz);have l1:(slicePick Ao.toArray none none (some (-1))).toList.length<=Ao.length:=by
  have:=slicePick_size_le Ao.toArray none none (some (-1));simpa using this
 have m1:∀ (j:Nat) (y:Value),(slicePick Ao.toArray none none (some (-1))).toList[j]? = some y->∃ i:Nat,Ao.toArray[i]? = some y:=fun j y e=>by
  have m:=XG e;unfold slicePick at m;simp only [aB] at m;obtain ⟨i,_,e2⟩:=Zo.mp m;exact ⟨i,e2⟩
 obtain ⟨zs,rz,mz⟩:=MZ r m1;have lz:=rz.length;refine ⟨.ref _,_,I3.laid (t':=s2.toks) (o:=.lst zs) (fun b ob q=>X9 _ q) (XD _) ?_,rfl,q _ zs (I3.hok.fresh (XD _)) (by have:=r.length; lia) mz⟩;exact ⟨by have:=r.length; lia,_,0,rz,by rw [aa]; exact XJ _ rfl⟩
def Ge (K:XB):Sp:=fun vs H Q _=>∃ (p c pl gd m:Addr) (n:Nat) (xs ss gs:List Str) (ws:List AG) (Bj Bc:List Fx) (x:V) (d:PyData),vs=[.ref p,.ref c,.ref pl,.ref gd]/\CP K H p/\Eg H c m n xs ws Bj Bc x d /\
 H pl=some (.lst (ss.map V.str))/\H gd=some (.lst (gs.map V.str))/\(∀ s ∈ ss,Bb s=true)/\(∀ s ∈ gs,Bb s=true)/\1<=ss.length/\ss.length<=10/\gs.length<=10/\gs.Nodup /\
 ∀ (H':Hp) (F:Addr) (us:List V),CP K H' p->AI p H H'->H' F=some (.lst us)->us.length<=60->(∀ u ∈ us,Tg K H' u)->Q (.ref F) H'
theorem Nc:∀ k:Fin 26,∀ c ∈ Unicode.upperOf (97 + k.1),c < 16 ^ 8:=by decide +kernel
theorem OG {x:Str} (h:Q5 x) (l:x.length<=100):Ek (Txt.upper x):=by
 refine ⟨by rw [Jl h]; exact l,fun c hc=>?_⟩;have F4:c ∈ (placed x fun _ c=>Unicode.upperOf c):=by
  have:c ∈ (placed x fun _ c=>Unicode.upperOf c).toList:=hc;simpa using this
 unfold placed at F4;obtain ⟨a,ha,hca⟩:=Array.mem_flatten.mp F4;obtain ⟨i,hi,e⟩:=Array.mem_mapIdx.mp ha;subst e;have m:x.cps[i] ∈ x.cps.toList:=by simp
 have l2:97<=x.cps[i]/\x.cps[i]<=122:=by simpa [Fc] using h _ m
 have:=Nc ⟨x.cps[i] - 97,by lia⟩;rw [show 97 + (x.cps[i] - 97)=x.cps[i] by lia] at this;exact this c (by simpa using hca)
theorem U7.same {H H':Hp} {v:V} {d:PyData} (h:U7 H v d) (s:Au H H'):U7 H' v d:=h.imp id fun ⟨b,a,c,e⟩=>⟨b,a,s _ _ c,e⟩
theorem NC {α β:Type} {R S:α->β->Prop} {a:List α} {b:List β} (h:Paired R a b) (f:∀ x y,R x y->S x y):Paired S a b:=by
 induction h with
 | nil=>exact .nil
 | cons x _ ih=>exact .cons (f _ _ x) ih
theorem Ow.same {H H':Hp} {v:V} {t:Str} (h:Ow H v t) (s:Au H H'):Ow H' v t:=by
 cases h with
 | non=>exact .non
 | bl b=>exact .bl b
 | int h=>exact .int h
 | str h=>exact .str h
 | dat a b c d e=>exact .dat (a.same s) b c d e
 | dic a b c d e=>exact .dic (s _ _ a) b c d e
 | lse a b c d e=>exact .lse (s _ _ a) (NC b fun _ _ z=>z.same s) c d e
theorem Tg.same {K:XB} {H H':Hp} {v:V} (h:Tg K H v) (s:Au H H'):Tg K H' v:=⟨h.1.same s,let ⟨t,z⟩:=h.2; ⟨t,z.same s⟩⟩
def Lx (K:XB) (H:Hp) (us:List V):Prop:=∀ u ∈ us,Tg K H u
theorem Lx.same {K:XB} {H H':Hp} {us:List V} (h:Lx K H us) (s:Au H H'):Lx K H' us:=fun u hu=>(h u hu).same s
theorem Lx.nil {K:XB} {H:Hp}:Lx K H []:=fun u hu=>nomatch hu
theorem Lx.cons {K:XB} {H:Hp} {u:V} {us:List V} (h:Tg K H u) (t:Lx K H us):Lx K H (u :: us):=fun x hx=>(XC.mp hx).elim (fun e=>by rw [e]; exact h) (t x)
theorem Lx.app {K:XB} {H:Hp} {us vs:List V} (h:Lx K H us) (t:Lx K H vs):Lx K H (us ++ vs):=fun x hx=>(Ye.mp hx).elim (h x) (t x)
theorem ED (gs:List Str) (lo hi:Option Int):∃ zs:List Str,DK (gs.map V.str) lo hi=zs.map V.str/\zs.length<=gs.length/\∀ z ∈ zs,z ∈ gs:=by
 unfold DK;refine ⟨(gs.drop (HT.sIx (gs.map V.str).length 0 lo)).take (HT.sIx (gs.map V.str).length (gs.map V.str).length hi - HT.sIx (gs.map V.str).length 0 lo),?_,?_,?_⟩
 ·rw [List.map_take,List.map_drop]
 ·rw [Yz,aP];lia
 ·intro z hz;exact List.mem_of_mem_drop (ay hz)
theorem Mp {ss:List Str}:∀ {zs:List V},(∀ z ∈ zs,z ∈ ss.map V.str)->∃ ys:List Str,zs=ys.map V.str/\∀ y ∈ ys,y ∈ ss
 | [],_=>⟨[],rfl,fun y hy=>nomatch hy⟩
 | z :: zs,h=>by
  obtain ⟨ys,rfl,hy⟩:=Mp (ss:=ss) (zs:=zs) fun u hu=>h u (Yg _ hu)
  obtain ⟨y,ym,rfl⟩:=Ya.mp (h z Yh);exact ⟨y :: ys,rfl,fun u hu=>(XC.mp hu).elim (fun e=>by rw [e]; exact ym) (hy u)⟩
theorem Er {A B:Hp} {a:Addr} {o:HO} (s:Au A B) (n:A a=none):Au A (upd B a o):=fun b u e=>by rw [Af (Ah e n)]; exact s _ _ e
theorem FT (P:Program) (w:World) (K:XB) {X:Cx} (hP:X.prog=P) (hw:X.w=w) (hK:X.K=K) (hc:X.calm=true):Bq X (.type "set") (fun xs H Q=>∃ (a:Addr) (ss:List Str),xs=[.ref a]/\(AA K H a (ss.map V.str)\/AM K H a (ss.map V.str))/\ss.length<=1000 /\
  ∀ D,H D=none->Q (.ref D) (upd H D (setS P w D ss))):=by
 subst hP hw;exact EG K hK hc
section
variable {prog:Program} {w:World} {A:Around} {R:Result->Shared->Prop} {s:Shared}
theorem QP (elt tg iter EN Bd:Expr) (ifs Cv:List Expr) (scope:Scope) (pos:Pos) (it acc:Value) (env:Env) :
  compTurn (.ListComp elt [⟨tg,iter,ifs,0⟩,⟨EN,Bd,Cv,0⟩] scope pos) 0 it acc env=(do
   standAt iter.pos
   match <- pyNext it with
   | none=>pure (.done .next)
   | some v=>
    letOwnedTupleGo tg it v
    assign tg env v
    let mut ok:=true
    for c in ifs do
     if ok then ok <- isTrue c env (eval c env)
    if ok then
     let x <- eval Bd env
     standAt Bd.pos
     let x <- foldedSetIterable Bd env x
     let _ <- runOwn (.compStart (.ListComp elt [⟨tg,iter,ifs,0⟩,⟨EN,Bd,Cv,0⟩] scope pos) 1 (<- holding [x] (pyIter x)) acc env) env
    again (.compLoop (.ListComp elt [⟨tg,iter,ifs,0⟩,⟨EN,Bd,Cv,0⟩] scope pos) 0 it acc env)):=by rfl
theorem QO (elt tg iter EN Bd:Expr) (ifs Cv:List Expr) (scope:Scope) (pos:Pos) (it acc:Value) (env:Env) :
  compTurn (.ListComp elt [⟨tg,iter,ifs,0⟩,⟨EN,Bd,Cv,0⟩] scope pos) 1 it acc env=(do
   standAt Bd.pos
   match <- pyNext it with
   | none=>pure (.done .next)
   | some v=>
    letOwnedTupleGo EN it v
    assign EN env v
    let mut ok:=true
    for c in Cv do
     if ok then ok <- isTrue c env (eval c env)
    if ok then
     (do let _ <- call (.builtin "list.append") [acc,<-eval elt env])
    again (.compLoop (.ListComp elt [⟨tg,iter,ifs,0⟩,⟨EN,Bd,Cv,0⟩] scope pos) 1 it acc env)):=by rfl
theorem Rw {elt tg iter EN Bd:Expr} {ifs Cv:List Expr} {scope:Scope} {pos:Pos} {it acc:Value} {env:Env} (hs:∀ x,foldedSetIterable Bd env x=pure x) (I:Nat->Shared->Prop)
  (turn:∀ n s,I n s->wpAny (model prog w) A (pyNext it) (fun r A7=>match r with
   | none=>R (.ok .next) A7
   | some v=>wpAny (model prog w) A (letOwnedTupleGo tg it v) (fun _ En=>wpAny (model prog w) A (assign tg env v) (fun _ Cr=>
     wpAny (model prog w) A (forIn ifs true fun c r=>if r=true then do let ok <- isTrue c env (eval c env); pure (ForInStep.yield ok) else pure (ForInStep.yield r)) (fun ok Bu=>
      if ok=true then wpAny (model prog w) A (eval Bd env) (fun x Hy=>wpAny (model prog w) A (pyIter x) (fun Up Hx=>
       codeAny (model prog w) A (.compStart (.ListComp elt [⟨tg,iter,ifs,0⟩,⟨EN,Bd,Cv,0⟩] scope pos) 1 Up acc env) (fun r s'=>match r with
        | .ok _=>∃ m,m < n/\I m s'
        | .error _=>False) Hx) (fun _ _=>False) Hy) (fun _ _=>False) Bu
      else ∃ m,m < n/\I m Bu) (fun _ _=>False) Cr) (fun _ _=>False) En) (fun _ _=>False) A7) (fun _ _=>False) s)
  (n:Nat) (h:I n s) :
  codeAny (model prog w) A (.compLoop (.ListComp elt [⟨tg,iter,ifs,0⟩,⟨EN,Bd,Cv,0⟩] scope pos) 0 it acc env) R s:=by
 refine codeAny_loop rfl I (fun n s hI=>?_) n h;show wpAny _ A ((compTurn (.ListComp elt [⟨tg,iter,ifs,0⟩,⟨EN,Bd,Cv,0⟩] scope pos) 0 it acc env).onRaise (fun x=>do noteFrame x env; theTreesLotGoes x)) _ _ s
 refine wpAny_noted ?_;rw [QP];refine wpAny_bind (wpAny_standAt (wpAny_bind (wpAny_mono (turn n s hI) (fun r A7 A5=>?_) fun _ _ h'=>h'.elim)));cases r with
 | none=>exact wpAny_pure A5
 | some v=>
  refine wpAny_bind (wpAny_mono A5 (fun _ En Ie=>?_) fun _ _ h'=>h'.elim);refine wpAny_bind (wpAny_mono Ie (fun _ Cr Ic=>wpAny_bind (wpAny_mono Ic (fun ok Bu Gp=>?_) fun _ _ h'=>h'.elim)) fun _ _ h'=>h'.elim);cases ok with
  | false=>exact wpAny_pure ⟨rfl,Gp⟩
  | true=>
   refine wpAny_bind (wpAny_mono Gp (fun x Hy LV=>wpAny_bind (wpAny_standAt (wpAny_bind (wpAny_of_eq (hs x) (wpAny_bind (wpAny_holding (wpAny_mono LV (fun Up Hx LU=>?_) fun _ _ h'=>h'.elim))))))) fun _ _ h'=>h'.elim);refine wpAny_bind (wpAny_mono (wpAny_runOwn (Q:=fun _ s'=>∃ m,m < n/\I m s') (codeAny_mono LU fun r s' h'=>?_)) (fun _ SE Tz=>wpAny_pure ⟨rfl,Tz⟩) fun _ _ e=>e);cases r with
   | ok f=>exact h'
   | error x=>exact h'.elim
theorem Rv {elt tg iter EN Bd:Expr} {ifs Cv:List Expr} {scope:Scope} {pos:Pos} {it acc:Value} {env:Env} (I:Nat->Shared->Prop)
  (turn:∀ n s,I n s->wpAny (model prog w) A (pyNext it) (fun r A7=>match r with
   | none=>R (.ok .next) A7
   | some v=>wpAny (model prog w) A (letOwnedTupleGo EN it v) (fun _ En=>wpAny (model prog w) A (assign EN env v) (fun _ Cr=>
     wpAny (model prog w) A (forIn Cv true fun c r=>if r=true then do let ok <- isTrue c env (eval c env); pure (ForInStep.yield ok) else pure (ForInStep.yield r)) (fun ok Bu=>
      if ok=true then wpAny (model prog w) A (eval elt env) (fun x Hy=>
       wpAny (model prog w) A (call (.builtin "list.append") [acc,x]) (fun _ Hx=>∃ m,m < n/\I m Hx) (fun _ _=>False) Hy) (fun _ _=>False) Bu
      else ∃ m,m < n/\I m Bu) (fun _ _=>False) Cr) (fun _ _=>False) En) (fun _ _=>False) A7) (fun _ _=>False) s)
  (n:Nat) (h:I n s) :
  codeAny (model prog w) A (.compLoop (.ListComp elt [⟨tg,iter,ifs,0⟩,⟨EN,Bd,Cv,0⟩] scope pos) 1 it acc env) R s:=by
 refine codeAny_loop rfl I (fun n s hI=>?_) n h;show wpAny _ A ((compTurn (.ListComp elt [⟨tg,iter,ifs,0⟩,⟨EN,Bd,Cv,0⟩] scope pos) 1 it acc env).onRaise (fun x=>do noteFrame x env; theTreesLotGoes x)) _ _ s
 refine wpAny_noted ?_;rw [QO];refine wpAny_bind (wpAny_standAt (wpAny_bind (wpAny_mono (turn n s hI) (fun r A7 A5=>?_) fun _ _ h'=>h'.elim)));cases r with
 | none=>exact wpAny_pure A5
 | some v=>
  refine wpAny_bind (wpAny_mono A5 (fun _ En Ie=>?_) fun _ _ h'=>h'.elim);refine wpAny_bind (wpAny_mono Ie (fun _ Cr Ic=>wpAny_bind (wpAny_mono Ic (fun ok Bu Gp=>?_) fun _ _ h'=>h'.elim)) fun _ _ h'=>h'.elim);cases ok with
  | false=>exact wpAny_pure ⟨rfl,Gp⟩
  | true=>
   exact wpAny_bind (wpAny_bind (wpAny_mono Gp (fun x Hy LV=>wpAny_bind (wpAny_mono LV (fun _ Hx LU=>wpAny_pure (wpAny_pure ⟨rfl,LU⟩)) fun _ _ h'=>h'.elim)) fun _ _ h'=>h'.elim))
theorem OS {elt tg iter EN Bd:Expr} {ifs Cv:List Expr} {scope:Scope} {pos:Pos} {it acc:Value} {env:Env}
  (h0:codeAny (model prog w) A (.compLoop (.ListComp elt [⟨tg,iter,ifs,0⟩,⟨EN,Bd,Cv,0⟩] scope pos) 1 it acc env) R s)
  (h:wpAny (model prog w) A (pyIter it) (fun WE s'=>codeAny (model prog w) A (.compLoop (.ListComp elt [⟨tg,iter,ifs,0⟩,⟨EN,Bd,Cv,0⟩] scope pos) 1 WE acc env) R s') (notedBy (model prog w) A env fun x s'=>R (.error x) s') s) :
  codeAny (model prog w) A (.compStart (.ListComp elt [⟨tg,iter,ifs,0⟩,⟨EN,Bd,Cv,0⟩] scope pos) 1 it acc env) R s:=by
 refine codeAny_of_tree ?_;show wpAny _ _ ((compStart (.ListComp elt [⟨tg,iter,ifs,0⟩,⟨EN,Bd,Cv,0⟩] scope pos) 1 it acc env).onRaise (fun x=>do noteFrame x env; standAt theWindowsPlace)) _ _ s
 refine wpAny_notedAt ?_;unfold compStart;show wpAny _ _ (ask >>= _) _ _ s
 refine wpAny_bind (wpAny_askSetting (wpAny_ite ?_));split
 ·first
   | exact wpAny_bind (wpAny_pure (wpAny_pure (And.intro rfl h0)))
   | exact wpAny_pure (And.intro rfl h0)
 ·first
   | exact wpAny_bind (wpAny_rule (wpAny_bind (wpAny_standAt (wpAny_bind (wpAny_mono h (fun WE s' h'=>wpAny_pure (And.intro rfl h')) fun _ _ x=>x)))))
   | (refine wpAny_bind (wpAny_rule ?_); show wpAny _ _ (standAt Bd.pos >>= _) _ _ s; exact wpAny_bind (wpAny_standAt (wpAny_bind (wpAny_mono h (fun WE s' h'=>wpAny_pure (And.intro rfl h')) fun _ _ x=>x))))
end
def S9 (wi:TI) (g:TG) (tt:TT) (V9:TI) (g2:TG) (VC:TT) (te:TE) (σ0:St->St):TE:=fun σ H Q=>wi σ H fun J H1=>∀ D,H1 D=none->∃ W:Nat->Nat->St->Hp->Prop,(∃ m,W 0 m (σ0 σ) (upd H1 D (.lst []))) /\
 ∀ i m Ar H',W i m Ar H'->(J.stop i H'/\Q (.ref D) H')\/(J.go i H'/\∀ x H2,J.yld i H' x H2->g x Ar H2 fun A6 H3=>tt A6 H3 fun b H4=>
  if b=true then V9 A6 H4 (fun J2 H5=>∃ W2:Nat->Nat->St->Hp->Prop,(∃ m2,W2 0 m2 A6 H5)/\∀ j m2 K0 H6,W2 j m2 K0 H6->(J2.stop j H6/\∃ m',m' < m/\W (i + 1) m' K0 H6)\/(J2.go j H6/\∀ y H7,J2.yld j H6 y H7->g2 y K0 H7 fun DP H8=>VC DP H8 fun b H9=>
   if b=true then te DP H9 (fun v Hl=>∃ acc,Hl D=some (.lst acc)/\acc.length < sizeLine/\∃ UX,UX < m2/\W2 (j + 1) UX DP (upd Hl D (.lst (acc ++ [v])))) else ∃ UX,UX < m2/\W2 (j + 1) UX DP H9))
  else ∃ m',m' < m/\W (i + 1) m' A6 H4)
theorem Pu {X:Cx} {ix:Nat} {x:Str} {px spos:Pos} {tg iter EN Bd elt:Expr} {ifs Cv:List Expr} {scope:Scope} {cl:List (Str × Addr)} {N:List Str} {pos:Pos} {wi V9:TI} {g g2:TG} {tt VC:TT} {te:TE} {σ0:St->St} (hN:X.N.Nodup) (hix:X.N[ix]? = some x) (hlx:Ua X.env.scope x) (hc:X.calm=true) (co:AS X scope cl)
  (hσ:∀ σ,σ.length=X.N.length->AU X cl scope N σ (σ0 σ)) (hi:PI X tg iter wi)
  (hb:∀ s2 H C fp,PG (Am X scope cl N s2 H C fp) tg g/\QF (Am X scope cl N s2 H C fp) ifs tt/\PI (Am X scope cl N s2 H C fp) EN Bd V9/\PG (Am X scope cl N s2 H C fp) EN g2/\QF (Am X scope cl N s2 H C fp) Cv VC/\PE (Am X scope cl N s2 H C fp) elt te)
  (hsw:swapsWith (.ListComp elt [⟨tg,iter,ifs,0⟩,⟨EN,Bd,Cv,0⟩] scope pos) (some (.Name x px)) spos.line X.env=pure true:=by rfl)
  (hs:∀ x,foldedSetIterable iter X.env x=pure x:=by intro _; rfl) (Vg:∀ env x,foldedSetIterable Bd env x=pure x:=by intro _ _; rfl) (hf:X.fn x=true\/X.env.scope.names.lookup x=some .local:=by first | exact .inl rfl | exact .inr rfl | assumption) :
  PS X (.Assign [.Name x px] (.ListComp elt [⟨tg,iter,ifs,0⟩,⟨EN,Bd,Cv,0⟩] scope pos) spos) (OO (S9 wi g tt V9 g2 VC te σ0) (Ij ix)):=by
 intro pins s σ H DD I h;rw [exec_Assign_Name_used _ _ _ _ hsw];refine wpAny_bind (wpAny_standAt (wpAny_bind ?_));show wpAny _ X.A (do let _ <- comprehension (.ListComp elt [⟨tg,iter,ifs,0⟩,⟨EN,Bd,Cv,0⟩] scope pos) scope X.env _ (newList []) false (eval iter X.env) (some (assign (.Name x px) X.env))) _ _ s
 refine wpAny_bind (wpAny_mono (wpAny_comprehension_free (use:=some (assign (.Name x px) X.env)) (Q:=fun _ s'=>SP X pins DD .next s') rfl hs co.clos co.kind co.names
  (wpAny_mono (hi (pins:=pins) s σ H _ I h) (fun xv s1 h1=>wpAny_mono h1 (fun itv s2 h2=>?_) fun _ _ e=>e) fun _ _ e=>e)) (fun _ s' hq=>wpAny_pure (wpAny_pure hq)) fun _ _ e=>e)
 obtain ⟨it,fp,tn,J,H2,rfl,I2,T,Eh,f2,hW⟩:=h2;refine wpAny_newObj_type (wpAny_newFunctionEnv co.cell (by intro y hy; cases hy) (fun A5 Bo Bf=>?_) co.kind);dsimp only at Bo Bf ⊢;generalize Gq:s2.heap.push { cls:=.type "list",dict:=none,data:=.seq ([]:List Value).toArray } = HH at Bo Bf ⊢;have AY:HH.objs.size=s2.heap.objs.size + 1:=by rw [<-Gq,Ys]
 have old:∀ b o,s2.heap.get? b=some o->A5.get? b=some o:=fun b o e=>
  Bf.extBut b o (XQ (by rw [AY]; exact Yl (XE e))) (X9 _ (Gq ▸ X9 _ e))
 have newD:∃ n,A5.get? s2.heap.objs.size=some { cls:=.type "list",data:=.seq ([]:List Value).toArray n }:=
  ⟨_,Bf.extBut _ _ (XQ (by rw [AY]; exact Ym _)) (X9 _ (Gq ▸ XJ _ rfl))⟩
 obtain ⟨W,⟨m0,w0⟩,turn⟩:=hW s2.heap.objs.size I2.fresh;have hfo:∀ b ∈ fp,∃ o,s2.heap.get? b=some o:=fun b hb=>let ⟨o,e,_⟩:=T.obj _ _ Eh b hb; ⟨o,e⟩
 have I3:An (Am X scope cl N s2 H2 HH.objs.size fp) [] (σ0 σ) (upd H2 s2.heap.objs.size (.lst [])) { s2 with heap:=A5,toks:=s2.toks + ([]:List (Str × Value)).length }:=
  Fw I2 f2 hfo co (hσ σ I.len) old (XD _) (by rw [AY]; exact Yt _) (Yy (by rw [AY]; exact Ym _)) (.inr newD) Bo
 have fC:s2.heap.objs.size<=HH.objs.size:=by rw [AY]; exact Yt _
 obtain ⟨hg,ht,R7,hg2,Fo,he⟩:=hb s2 H2 HH.objs.size fp;have loop:∀ Bu:Shared,Bu = { s2 with heap:=A5,toks:=s2.toks + ([]:List (Str × Value)).length } ->
   codeAny (model X.prog X.w) X.A (.compLoop (.ListComp elt [⟨tg,iter,ifs,0⟩,⟨EN,Bd,Cv,0⟩] scope pos) 0 (.ref it) (.ref s2.heap.objs.size) (compEnvC scope cl HH.objs.size X.env))
    (compPost (model X.prog X.w) X.A X.xe (some (assign (.Name x px) X.env)) (fun _ s'=>SP X pins DD .next s') (.ref s2.heap.objs.size) HH.objs.size) Bu:=by
  rintro Bu rfl;have stat:∀ {H':Hp} ,(∀ b ∈ fp,H' b=none)->∀ b ∈ fp,Dl (Am X scope cl N s2 H2 HH.objs.size fp) [] H' b:=fun hn b hb=>by
   refine ⟨hn b hb,?_,?_,.inl hb,?_,fun p hp=>by cases hp⟩
   ·obtain ⟨o,e⟩:=hfo b hb;exact XQ (show b < HH.objs.size by rw [AY]; exact Yl (XE e))
   ·intro hz;obtain ⟨_,q1,q2,_⟩:=f2 b hb;rcases XC.mp (I2.stkSub b hz) with e | e
    ·exact q1 e
    ·exact q2 e
   ·exact fun x c e=>(f2 b hb).2.2.2.2.1 x c (co.sub x c e)
  refine Rw (Vg _) (fun n s'=>∃ i Ar H',An (Am X scope cl N s2 H2 HH.objs.size fp) [] Ar H' s'/\tn i s'.heap/\(∀ b ∈ fp,H' b=none)/\W i n Ar H') ?_ m0
   ⟨0,σ0 σ,_,I3,T.keep _ _ _ Eh fun b hb o e=>old b o e,fun b hb=>?_,w0⟩
  ·rintro n s4 ⟨i,DP,H4,I4,Jo,JG,w4⟩;rcases turn i n DP H4 w4 with ⟨stop,qn⟩ | ⟨go,step⟩
   ·refine wpAny_mono (T.done (Am X scope cl N s2 H2 HH.objs.size fp) rfl rfl rfl hc i [] s4 DP H4 (fun _ _=>False) I4 (stat JG) Jo stop) (fun r s5 ⟨hr,I5⟩=>?_) fun _ _ z=>z.elim
    subst hr;obtain ⟨m5,Oa,_⟩:=id I5.loc;have I6:An X pins σ H4 s5:=EF (h':=s5.heap) I2 f2 fC I5 (Heap.SameBut.refl _ _);have cC:∀ y c,X.env.cells.lookup y=some c->c ≠ HH.objs.size:=fun y c e=>by
     obtain ⟨v,q⟩:=I2.cell y c e;exact XQ (XH q.lt fC)
    have lC:X.env.locals ≠ HH.objs.size:=XQ (XH I2.lt fC);show wpAny _ X.A (assign (.Name x px) X.env (.ref s2.heap.objs.size)) _ X.xe s5
    refine wpAny_assign_Name (EO I6 hN hix hlx (v:=.ref s2.heap.objs.size) rfl (fun s7 I7 ⟨a,sb,ha⟩=>?_) hf);have aC:a ≠ HH.objs.size:=by
     rcases ha with rfl | ha
     ·exact lC
     ·exact cC _ _ ha
    refine ⟨m5,Oa.sameBut sb (Ne.symm aC),fun h' Lu=>⟨_,H4,?_,qn⟩⟩;exact I7.turned (t':=s7.toks) (it:=HH.objs.size) (fun b o hb e=>(Lu.2 b hb).trans e) I5.free (Ne.symm lC) (.inr (Yo I2.sz fC)) cC fun p hp z=>by
     have e:=(I2.pin p hp).1;exact absurd (XH (XE e) fC) (by rw [z]; exact Yx _)
   ·refine wpAny_mono (T.item (Am X scope cl N s2 H2 HH.objs.size fp) rfl rfl rfl hc i [] s4 DP H4 (fun _ _=>False) I4 (stat JG) Jo go) (fun r s5 ⟨u,hr,h5⟩=>?_) fun _ _ z=>z.elim
    subst hr;refine wpAny_mono h5 (fun _ s6 ⟨x,H6,I6,r6,y6,Gd,Of⟩=>?_) fun _ _ z=>z.elim
    have Oz:=I6.pinned (stat Of) (T.obj _ _ Gd);refine wpAny_mono (hg s6 DP H6 x u _ Oz r6 (step x H6 y6)) (fun _ s7 ⟨D8,H7,I7,q7⟩=>?_) fun _ _ z=>z.elim
    refine wpAny_mono (ht s7 D8 H7 _ I7 q7) (fun ok s8 ⟨H8,I8,q8⟩=>?_) fun _ _ z=>z.elim
    have again:∀ {s9:Shared} {DO:St} {H9:Hp} ,An (Am X scope cl N s2 H2 HH.objs.size fp) ([] ++ BF fp s6.heap) DO H9 s9->(∃ m',m' < n/\W (i + 1) m' DO H9)->∃ m,m < n/\∃ i Ar H',An (Am X scope cl N s2 H2 HH.objs.size fp) [] Ar H' s9/\tn i s9.heap/\(∀ b ∈ fp,H' b=none)/\W i m Ar H':=fun {s9 DO H9} I9 n9=>by
     obtain ⟨m',hm,w9⟩:=n9;refine ⟨m',hm,i + 1,DO,H9,I9.unpinned,T.keep _ _ _ Gd fun b hb o e=>(I9.pin (b,o) (XO _ (XO _ (A8 hb e)))).1,fun b hb=>?_,w9⟩;obtain ⟨o,e,d⟩:=T.obj _ _ Gd b hb;exact (I9.pin (b,o) (XO _ (XO _ (A8 hb e)))).2.1
    cases ok with
    | false=>
     rw [if_neg Yc] at q8 ⊢;exact again I8 q8
    | true=>
     rw [if_pos rfl] at q8 ⊢;refine wpAny_mono (R7 s8 D8 H8 _ I8 q8) (fun xv s9 h9=>wpAny_mono h9 (fun itv LD h10=>?_) fun _ _ z=>z.elim) fun _ _ z=>z.elim
     obtain ⟨Up,V3,tn2,J2,Hl,rfl,O0,T2,UE,V4,W2,⟨k0,w20⟩,UB⟩:=h10;have OR:∀ {H':Hp},(∀ b ∈ V3,H' b=none)->∀ b ∈ V3,Dl (Am X scope cl N s2 H2 HH.objs.size fp) ([] ++ BF fp s6.heap) H' b:=fun hn b hb=>⟨hn b hb,(V4 b hb).2⟩
     have Sd:codeAny (model X.prog X.w) X.A (.compLoop (.ListComp elt [⟨tg,iter,ifs,0⟩,⟨EN,Bd,Cv,0⟩] scope pos) 1 (.ref Up) (.ref s2.heap.objs.size) (compEnvC scope cl HH.objs.size X.env)) (fun r s'=>match r with
        | .ok _=>∃ m,m < n/\∃ i Ar H',An (Am X scope cl N s2 H2 HH.objs.size fp) [] Ar H' s'/\tn i s'.heap/\(∀ b ∈ fp,H' b=none)/\W i m Ar H'
        | .error _=>False) LD:=by
      refine Rv (fun n2 s'=>∃ j Ar H',An (Am X scope cl N s2 H2 HH.objs.size fp) ([] ++ BF fp s6.heap) Ar H' s'/\tn2 j s'.heap/\(∀ b ∈ V3,H' b=none)/\W2 j n2 Ar H') ?_ k0 ⟨0,D8,Hl,O0,UE,fun b hb=>(V4 b hb).1,w20⟩;rintro n2 Q9 ⟨j,QK,Lq,Sq,UD,V2,VA⟩;rcases UB j n2 QK Lq VA with ⟨stop,qn⟩ | ⟨go,UC⟩
      ·refine wpAny_mono (T2.done (Am X scope cl N s2 H2 HH.objs.size fp) rfl rfl rfl hc j ([] ++ BF fp s6.heap) Q9 QK Lq (fun _ _=>False) Sq (OR V2) UD stop) (fun r s12 ⟨hr,I12⟩=>?_) fun _ _ z=>z.elim
       subst hr;exact again I12 qn
      ·refine wpAny_mono (T2.item (Am X scope cl N s2 H2 HH.objs.size fp) rfl rfl rfl hc j ([] ++ BF fp s6.heap) Q9 QK Lq (fun _ _=>False) Sq (OR V2) UD go) (fun r s12 ⟨u,hr,h12⟩=>?_) fun _ _ z=>z.elim
       subst hr;refine wpAny_mono h12 (fun _ s13 ⟨y,Xz,I13,r13,Ws,SF,Xi⟩=>?_) fun _ _ z=>z.elim
       have Xy:=I13.pinned (OR Xi) (T2.obj _ _ SF);refine wpAny_mono (hg2 s13 QK Xz y u _ Xy r13 (UC y Xz Ws)) (fun _ s14 ⟨QJ,Wo,I14,q14⟩=>?_) fun _ _ z=>z.elim
       refine wpAny_mono (Fo s14 QJ Wo _ I14 q14) (fun ok VL ⟨H15,I15,VO⟩=>?_) fun _ _ z=>z.elim
       have Q2:∀ {s9:Shared} {DO:St} {H9:Hp},An (Am X scope cl N s2 H2 HH.objs.size fp) (([] ++ BF fp s6.heap) ++ BF V3 s13.heap) DO H9 s9->(∃ m',m' < n2/\W2 (j + 1) m' DO H9)->∃ m,m < n2/\∃ j Ar H',An (Am X scope cl N s2 H2 HH.objs.size fp) ([] ++ BF fp s6.heap) Ar H' s9/\tn2 j s9.heap/\(∀ b ∈ V3,H' b=none)/\W2 j m Ar H':=fun {s9 DO H9} I9 n9=>by
        obtain ⟨m',hm,w9⟩:=n9;refine ⟨m',hm,j + 1,DO,H9,I9.unpinned,T2.keep _ _ _ SF fun b hb o e=>(I9.pin (b,o) (XO _ (XO _ (A8 hb e)))).1,fun b hb=>?_,w9⟩;obtain ⟨o,e,d⟩:=T2.obj _ _ SF b hb;exact (I9.pin (b,o) (XO _ (XO _ (A8 hb e)))).2.1
       cases ok with
       | false=>
        rw [if_neg Yc] at VO ⊢;exact Q2 I15 VO
       | true=>
        rw [if_pos rfl] at VO ⊢;refine wpAny_mono (he VL QJ H15 _ I15 VO) (fun y s16 ⟨v,H16,I16,r16,acc,hacc,hsz,W3⟩=>?_) fun _ _ z=>z.elim
        refine wpAny_mono (BR (X:=(Am X scope cl N s2 H2 HH.objs.size fp)) s16 QJ H16 (.ref s2.heap.objs.size) [v] (.ref s2.heap.objs.size) [y] (fun _ H17=>∃ m',m' < n2/\W2 (j + 1) m' QJ H17) I16 rfl (.cons r16 .nil) ⟨_,acc,v,rfl,rfl,hacc,hsz,W3⟩) (fun _ W0 ⟨_,H17,I17,_,q17⟩=>?_) fun _ _ z=>z.elim
        exact Q2 I17 q17
     exact OS Sd (T2.self _ 0 _ _ _ UE Sd)
  ·have z:=(f2 b hb).1;obtain ⟨o,e⟩:=hfo b hb;rw [Af (XQ (XE e))];exact z
 exact codeAny_compStart_list (loop _ rfl) (T.self _ 0 _ _ _ (T.keep _ _ _ Eh fun b hb o e=>old b o e) (loop _ rfl))
theorem Qm {i:Nat} {v:V} {σ:St} {H:Hp} {F G:St->Hp->Prop} (h:F (σ.set i (some v)) H):Ij i v σ H (fun A6 H3=>JU A6 H3 fun b H4=>if b=true then F A6 H4 else G A6 H4):=by
 show (if true=true then F (σ.set i (some v)) H else G (σ.set i (some v)) H)
 rw [if_pos rfl];exact h
noncomputable def Cp (ws:List AG) (mo:Int) (ss ys:List Str):Bool:=ss.all fun s=>decide ((ys.filter (Bn ws mo s)).length<=1)
theorem Ol {ss:List Str}:(ss.foldl step_dedup []).length=ss.length ↔ ss.Nodup:=by
 constructor
 ·intro e;have nd:=CW ss [] Z2;have pm:=KI (l:=ss.foldl step_dedup []) (m:=ss) nd (fun x hx=>by simpa using (Ea x ss []).mp hx) e.symm;exact pm.nodup_iff.mpr nd
 ·intro h;rw [Li ss h]
theorem Fv {ss:List Str} (nd:ss.Nodup) (f:Str->Str->Bool) (s:Str) (hs:s ∈ ss):∀ ys:List Str,(ys.flatMap fun p=>ss.filter fun s=>f s p).count s=(ys.filter (f s)).length
 | []=>rfl
 | p :: ys=>by
  rw [aN,List.count_append,Fv nd f s hs ys];by_cases h:f s p=true
  ·have c1:(ss.filter fun s=>f s p).count s=1:=by
    rw [List.count_filter (p:=fun s=>f s p) h];have c1:=az.mp nd s;have c2:=List.count_pos_iff.mpr hs;lia
   rw [c1,List.filter_cons_of_pos h,Yv];lia
  ·have c0:(ss.filter fun s=>f s p).count s=0:=aH.mpr fun hm=>h (YI.mp hm).2
   rw [c0,List.filter_cons_of_neg h];lia
theorem Ln {ws:List AG} {mo:Int} {ss ys:List Str} (nd:ss.Nodup):(ys.flatMap fun p=>ss.filter fun s=>Bn ws mo s p).Nodup ↔ Cp ws mo ss ys=true:=by
 unfold Cp;rw [az,Y4];constructor
 ·intro h s hs;have:=h s;rw [Fv nd (Bn ws mo) s hs] at this;exact decide_eq_true this
 ·intro h s;by_cases hs:s ∈ ss
  ·rw [Fv nd (Bn ws mo) s hs];exact of_decide_eq_true (h s hs)
  ·rw [aH.mpr fun hm=>?_]
   ·lia
   obtain ⟨p,_,hp⟩:=List.mem_flatMap.mp hm;exact hs (YI.mp hp).1
def ER (K:XB):Sp:=fun vs H Q _=>∃ (S L:Addr) (mo:Int) (ws:List AG) (ss qs ys:List Str),vs=[.ref S,.ref L]/\CB H S ws ss qs mo/\ss.Nodup/\ss.length<=1000 /\
 AA K H L (ys.map V.str)/\(∀ y ∈ ys,y ∈ qs)/\ys.length<=1000/\∀ (H':Hp),Au H H'->Q (.bl (Cp ws mo ss ys)) H'
def HB:Sp:=fun vs H Q _=>∃ (c S m:Addr) (mo:Int) (n:Nat) (xs:List Str) (ws:List AG) (Bj Bc:List Fx) (x:V) (d:PyData),vs=[.ref c,.ref S]/\Eg H c m n xs ws Bj Bc x d/\CB H S ws (Bj.map (·.1)) (Bc.map (·.1)) mo /\
 ∀ (H':Hp) (L:Addr) (ys:List Str),Au H H'->H' L=some (.lst (ys.map V.str))->ys.Sublist (Bc.map (·.1))->Q (.ref L) H'
def DR (K:XB):Sp:=fun vs H Q _=>∃ (c m:Addr) (v:V) (mo:Int) (n:Nat) (xs:List Str) (ws:List AG) (Bj Bc:List Fx) (x:V) (d:PyData),vs=[.ref c,.int mo,v]/\Eg H c m n xs ws Bj Bc x d/\U5 K H v /\
 ∀ (b:Bool) (H':Hp),Au H H'->(b=true ↔ ∃ (l:Addr) (ys:List Str),v=.ref l/\H l=some (.lst (ys.map V.str))/\(∀ s ∈ ys,Bb s=true)/\CL ys/\(∀ y ∈ ys,y ∈ Bc.map (·.1))/\Cp ws mo (Bj.map (·.1)) ys=true)->Q (.bl b) H'
section
variable {bb:Bool} {h h':Heap} {a b i l:Addr} {k:Nat} {items:Array Value}
end
section
variable {prog:Program} {w:World} {A:Around} {E:Value->Shared->Prop} {s:Shared}
end
section
variable {prog:Program} {w:World} {A:Around} {E:Value->Shared->Prop} {s:Shared}
end
end L2
namespace K49
open PySem L2
def top (i:Nat):Stmt:=PySem.Challenge.pw_openhouses_k49_what_stands_apart.main.body.getD i (.Pass ⟨0,0,0,0⟩)
abbrev EU:Stmt:=top 2
theorem LB:AL ["thing"] ["thing"] (Ap EU):=⟨rfl,rfl,rfl,by decide +kernel,rfl,by decide +kernel,by decide +kernel⟩
abbrev CU:Stmt:=top 3
theorem Fj:AL ["things"] ["things"] (Ap CU):=⟨rfl,rfl,rfl,by decide +kernel,rfl,by decide +kernel,by decide +kernel⟩
abbrev CS:Stmt:=top 5
theorem Ff:AL ["web","places","ways","beside","one","other","length"] ["web"] (Ap CS):=⟨rfl,rfl,rfl,by decide +kernel,rfl,by decide +kernel,by decide +kernel⟩
abbrev Ka:Stmt:=top 7
theorem Mv:AL ["web","place","told"] ["web","place"] (Ap Ka):=⟨rfl,rfl,rfl,by decide +kernel,rfl,by decide +kernel,by decide +kernel⟩
abbrev Dn:Stmt:=top 8
theorem F9:AL ["case"] ["case"] (Ap Dn):=⟨rfl,rfl,rfl,by decide +kernel,rfl,by decide +kernel,by decide +kernel⟩
abbrev ET:Stmt:=top 9
theorem HD:AL ["web","starts","beside","reached","settled","so_far","start","here","name","by_here"] ["web","starts"] (Ap ET):=⟨rfl,rfl,rfl,by decide +kernel,rfl,by decide +kernel,by decide +kernel⟩
abbrev Ct:Stmt:=top 11
theorem Gy:AL ["case","far","thing","served","serving"] ["case","far","thing"] (Ap Ct):=⟨rfl,rfl,rfl,by decide +kernel,rfl,by decide +kernel,by decide +kernel⟩
abbrev BY:Stmt:=top 12
theorem D9:AL ["case","far","aways"] ["case","far"] (Ap BY):=⟨rfl,rfl,rfl,by decide +kernel,rfl,by decide +kernel,by decide +kernel⟩
abbrev AE:Stmt:=top 14
theorem CC:AL ["_law_pen","_law_many","_law_place","_law_cell","_law_number","_law_digit"] ["_law_pen","_law_many"] (Ap AE):=⟨rfl,rfl,rfl,by decide +kernel,rfl,by decide +kernel,by decide +kernel⟩
abbrev Dp:Stmt:=top 15
theorem FA:AL ["_law_pen","_law_many","_law_letters","_law_first","_law_base","_law_at","_law_more","_law_found","_law_k","_law_letter"] ["_law_pen","_law_many"] (Ap Dp):=⟨rfl,rfl,rfl,by decide +kernel,rfl,by decide +kernel,by decide +kernel⟩
abbrev Cg:Stmt:=top 16
theorem Fi:AL ["_law_pen","_law_way"] ["_law_pen"] (Ap Cg):=⟨rfl,rfl,rfl,by decide +kernel,rfl,by decide +kernel,by decide +kernel⟩
abbrev Cs:Stmt:=top 17
theorem Fq:AL ["_law_pen","_law_names_here","_law_shape","_law_ways","_law_k","_law_other","_law_turn","_law_pair"] ["_law_pen","_law_names_here","_law_shape"] (Ap Cs):=⟨rfl,rfl,rfl,by decide +kernel,rfl,by decide +kernel,by decide +kernel⟩
abbrev De:Stmt:=top 18
theorem Gw:AL ["_law_pen","_law_names_here","_law_many","_law_left","_law_found","_law_k"] ["_law_pen","_law_names_here","_law_many"] (Ap De):=⟨rfl,rfl,rfl,by decide +kernel,rfl,by decide +kernel,by decide +kernel⟩
abbrev DS:Stmt:=top 19
theorem Gx:AL ["_law_pen","_law_shape","_law_names_here","_law_plan","_law_way","_law_sites","_law_place","_law_folk","_law_limit"] ["_law_pen","_law_shape"] (Ap DS):=⟨rfl,rfl,rfl,by decide +kernel,rfl,by decide +kernel,by decide +kernel⟩
abbrev C0:Stmt:=top 20
theorem Ep:AL ["_law_plan","_law_found","_law_one","_law_other","_law_length_here","_law_amid","_law_here","_law_there","_law_old"] ["_law_plan"] (Ap C0):=⟨rfl,rfl,rfl,by decide +kernel,rfl,by decide +kernel,by decide +kernel⟩
abbrev CT:Stmt:=top 21
theorem Fh:AL ["_law_case_here","_law_lengths_here","_law_most","_law_found","_law_site","_law_amount"] ["_law_case_here","_law_lengths_here","_law_most"] (Ap CT):=⟨rfl,rfl,rfl,by decide +kernel,rfl,by decide +kernel,by decide +kernel⟩
abbrev AX:Stmt:=top 22
theorem CM:AL ["_law_served_here","_law_some_here","_law_site"] ["_law_served_here","_law_some_here"] (Ap AX):=⟨rfl,rfl,rfl,by decide +kernel,rfl,by decide +kernel,by decide +kernel⟩
abbrev CD:Stmt:=top 23
theorem FD:AL ["_law_case_here","_law_served_here","_law_found","_law_place","_law_many"] ["_law_case_here","_law_served_here"] (Ap CD):=⟨rfl,rfl,rfl,by decide +kernel,rfl,by decide +kernel,by decide +kernel⟩
abbrev Dq:Stmt:=top 24
theorem FC:AL ["_law_pen","_law_case_here","_law_lengths_here","_law_all_far","_law_found","_law_k","_law_site","_law_here"] ["_law_pen","_law_case_here","_law_lengths_here"] (Ap Dq):=⟨rfl,rfl,rfl,by decide +kernel,rfl,by decide +kernel,by decide +kernel⟩
abbrev BD:Stmt:=top 25
theorem DA:AL ["_law_thing","_law_places","_law_one"] ["_law_thing","_law_places"] (Ap BD):=⟨rfl,rfl,rfl,by decide +kernel,rfl,by decide +kernel,by decide +kernel⟩
abbrev Cf:Stmt:=top 26
theorem Fg:AL ["_law_pen","_law_case_here","_law_places","_law_good","_law_one","_law_drawn","_law_odd","_law_beyond","_law_spot","_law_found"] ["_law_pen","_law_case_here","_law_places","_law_good"] (Ap Cf):=⟨rfl,rfl,rfl,by decide +kernel,rfl,by decide +kernel,by decide +kernel⟩
abbrev FE:Stmt:=top 27
theorem JZ:AL ["_law_script","_law_pen","_law_turn","_law_case_here","_law_lengths_here","_law_folk","_law_most","_law_served_here","_law_thing","_law_due","_law_kept","_law_found"] ["_law_script"] (Ap FE):=⟨rfl,rfl,rfl,by decide +kernel,rfl,by decide +kernel,by decide +kernel⟩
def Ms (K:XB):Sp:=fun vs H Q _=>∃ (a:Addr) (ns:List Int),vs=[.ref a]/\Mf K H a (ns.map V.int)/\ns.length<=63/\∀ H',Q (.bl true) H'
section
variable {P:Program} {w:World} {K:XB} {mg:Str->Option Value} {base:Heap}
theorem lawB (h_isinstance:mg "isinstance"=none) (h_bool:mg "bool"=none) (h_repr:mg "repr"=none) {fIC:Addr} {fdIC:FuncData} (XIC:Fn K mg "is_apart" Ct ["case","far","thing"] fIC fdIC) (GIC:AJ P w K mg base BN 6 fIC fdIC ["case","far","thing"] (DR K))
  {f:Addr} {cdv:Value} {A:Around} {outer:List Env} {s:Shared} {H:Hp} {E:XK} (hr:D6 6 (A.deeper (PyProof.Rows.envOfC "law" (Ap FE) s.heap.objs.size f cdv))) :
  ∃ tl,Kw (Hh BN P w K mg base ["_law_script","_law_pen","_law_turn","_law_case_here","_law_lengths_here","_law_folk","_law_most","_law_served_here","_law_thing","_law_due","_law_kept","_law_found"] "law" (Ap FE) f cdv A outer s H E).nox ((FQ ((FQ ((FQ ((BJ FE).getD 1 (.Pass ⟨0,0,0,0⟩))).getD 3 (.Pass ⟨0,0,0,0⟩))).getD 2 (.Pass ⟨0,0,0,0⟩))).drop 1) tl /\
   ∀ (W:El) (H6:Hp) (c m:Addr) (mo:Int) (n:Nat) (xs:List Str) (ws:List AG) (Bj Bc:List Fx) (x:V) (d:PyData) (u:V) (due:Bool) (v0 v1 v2 v4 v5 v7 v11 IH:Option V),Eg H6 c m n xs ws Bj Bc x d->Tg K H6 u->(due=true ↔ (∃ (l:Addr) (ys:List Str),u=.ref l/\H6 l=some (.lst (ys.map V.str))/\(∀ s ∈ ys,Bb s=true)/\CL ys/\(∀ y ∈ ys,y ∈ Bc.map (·.1))/\Cp ws mo (Bj.map (·.1)) ys=true))->(∀ (H':Hp) (v11 IH:Option V),Au H6 H'->W.nx [v0,v1,v2,some (.ref c),v4,v5,some (.int mo),v7,some u,some (.bl due),v11,IH] H')->tl W [v0,v1,v2,some (.ref c),v4,v5,some (.int mo),v7,some u,some (.bl due),v11,IH] H6:=by
 have nd:=JZ.nd;have Ih:=hr.units;have big:100000 < sizeLine:=by decide
 refine ⟨_,(Ae (Aq (i:=10) nd rfl (Or.inl rfl) (Ai (Iw hr.gd Ih) (by rfl) h_repr PyProof.Rows.boot_repr (Aa (pv 8) Ad)))
  (Ae (Aq (i:=11) nd rfl (Or.inl rfl) (Aj GIC (hr.mono (by decide)) (by rfl) XIC.mg XIC.F.kp XIC.b .nil Aw (Aa (pv 3) (Aa (pv 6) (Aa (pv 8) Ad)))))
  (Ak (CN (HF (Et (Es (Ai CH (by rfl) h_isinstance PyProof.Rows.boot_isinstance (Aa (pv 11) (Aa (FJ (v:=.ty "bool") (by rfl) h_bool PyProof.Rows.boot_bool rfl) Ad))))) (HF (B5 PM (pv 11) (pv 9) (B9 _)) (Gh (B5 PM (Ai (Iw hr.gd Ih) (by rfl) h_repr PyProof.Rows.boot_repr (Aa (pv 8) Ad)) (pv 10) (B9 _))))).pt
  (Ak (AH Dv))
  B6)))),?_⟩
 intro W H6 c m mo n xs ws Bj Bc x d u due v0 v1 v2 v4 v5 v7 v11 IH cs tg hd fin;obtain ⟨th,t,sh⟩:=tg;refine ⟨_,rfl,u,t,rfl,sh,?_⟩;refine ⟨_,rfl,_,rfl,_,rfl,c,m,u,mo,n,xs,ws,Bj,Bc,x,d,rfl,cs,th,fun b H7 s7 hb=>?_⟩;have e:b=due:=YA.mpr (hb.trans hd.symm);subst e;refine ⟨_,rfl,_,"bool",_,_,rfl,.bl b,rfl,_,rfl,?_⟩;refine Ej ?_;refine ⟨_,rfl,_,rfl,rfl,_,rfl,?_⟩;rw [show (!decide (V.bl b=V.bl b))=false by simp];refine Ej ?_;refine ⟨_,rfl,u,t,rfl,sh.same s7,_,rfl,rfl,_,rfl,?_⟩;rw [show (!decide (V.str t=V.str t))=false by simp];refine Ej ?_;exact fin _ _ _ s7
theorem lawA (h_isinstance:mg "isinstance"=none) (h_bool:mg "bool"=none) (h_repr:mg "repr"=none) {fSA:Addr} {fdSA:FuncData} (XSA:Fn K mg "_law_stands_apart" AX ["_law_served_here","_law_some_here"] fSA fdSA) (GSA:AJ P w K mg base BN 1 fSA fdSA ["_law_served_here","_law_some_here"] (ER K)) {fTH:Addr} {fdTH:FuncData} (XTH:Fn K mg "_law_things" Cf ["_law_pen","_law_case_here","_law_places","_law_good"] fTH fdTH) (GTH:AJ P w K mg base BN 3 fTH fdTH ["_law_pen","_law_case_here","_law_places","_law_good"] (Ge K)) {fIL:Addr} {fdIL:FuncData} (XIL:Fn K mg "_law_is_listed" BD ["_law_thing","_law_places"] fIL fdIL) (GIL:AJ P w K mg base BN 1 fIL fdIL ["_law_thing","_law_places"] (Gf K)) {fAP:Addr} {fdAP:FuncData} (XAP:Fn K mg "_law_apart" CD ["_law_case_here","_law_served_here"] fAP fdAP) (GAP:AJ P w K mg base BN 2 fAP fdAP ["_law_case_here","_law_served_here"] HB) {fIC:Addr} {fdIC:FuncData} (XIC:Fn K mg "is_apart" Ct ["case","far","thing"] fIC fdIC) (GIC:AJ P w K mg base BN 6 fIC fdIC ["case","far","thing"] (DR K))
  {f:Addr} {cdv:Value} {A:Around} {outer:List Env} {s:Shared} {H:Hp} {E:XK} (hr:D6 6 (A.deeper (PyProof.Rows.envOfC "law" (Ap FE) s.heap.objs.size f cdv))) :
  ∃ tl,Kw (Hh BN P w K mg base ["_law_script","_law_pen","_law_turn","_law_case_here","_law_lengths_here","_law_folk","_law_most","_law_served_here","_law_thing","_law_due","_law_kept","_law_found"] "law" (Ap FE) f cdv A outer s H E).nox ((FQ ((FQ ((BJ FE).getD 1 (.Pass ⟨0,0,0,0⟩))).getD 3 (.Pass ⟨0,0,0,0⟩))).drop 2) tl /\
   ∀ (W:El) (H6:Hp) (p c m S D:Addr) (mo:Int) (n:Nat) (xs:List Str) (ws:List AG) (Bj Bc:List Fx) (x:V) (d:PyData) (v0 v2 v4 v9 v10 v11 IH:Option V),CP K H6 p->Eg H6 c m n xs ws Bj Bc x d->CB H6 S ws (Bj.map (·.1)) (Bc.map (·.1)) mo->H6 D=some (.lst ((Bc.map (·.1)).map V.str))->(∀ (H':Hp) (v9 v10 v11 IH:Option V),CP K H' p->AI p H6 H'->W.nx [v0,some (.ref p),v2,some (.ref c),v4,some (.ref D),some (.int mo),some (.ref S),v9,v10,v11,IH] H')->tl W [v0,some (.ref p),v2,some (.ref c),v4,some (.ref D),some (.int mo),some (.ref S),v9,v10,v11,IH] H6:=by
 have nd:=JZ.nd;have hu:=Dy hr;have big:100000 < sizeLine:=by decide
 obtain ⟨tlB,htB,rdB⟩:=lawB (P:=P) (w:=w) (K:=K) (mg:=mg) (base:=base) h_isinstance h_bool h_repr XIC GIC (f:=f) (cdv:=cdv) (A:=A) (outer:=outer) (s:=s) (H:=H) (E:=E) hr;refine ⟨_,(Ak (Bv PassesOwn.never rfl (By K rfl (Aj GTH (hr.mono (by decide)) (by rfl) XTH.mg XTH.F.kp XTH.b .nil Aw (Aa (pv 1) (Aa (pv 3) (Aa (pv 5) (Aa (Aj GAP (hr.mono (by decide)) (by rfl) XAP.mg XAP.F.kp XAP.b .nil Aw (Aa (pv 3) (Aa (pv 7) Ad))) Ad)))))) (Al (i:=8) nd rfl (Or.inl rfl))
  (Ae (Aq (i:=9) nd rfl (Or.inl rfl) (PF (Aj GIL (hr.mono (by decide)) (by rfl) XIL.mg XIL.F.kp XIL.b .nil Aw (Aa (pv 8) (Aa (pv 5) Ad))) (Px (Aj GSA (hr.mono (by decide)) (by rfl) XSA.mg XSA.F.kp XSA.b .nil Aw (Aa (pv 7) (Aa (pv 8) Ad))))))
  htB))),?_⟩
 intro W H6 p c m S D mo n xs ws Bj Bc x d v0 v2 v4 v9 v10 v11 IH P6 cs sv hD fin;have sn:∀ s ∈ Bc.map (·.1),Bb s=true:=fun s hs=>by
  obtain ⟨r,hr,e⟩:=Ya.mp hs;have e':r.1=s:=e;rw [<-e'];exact cs.cw.map.at'.nm _ (cs.cw.ok2.sub r hr)
 have l8:=cs.l8;have W6:=cs.cw.ok2.one;refine ⟨_,rfl,_,rfl,_,rfl,_,rfl,_,rfl,c,S,m,mo,n,xs,ws,Bj,Bc,x,d,rfl,cs,sv,fun H65 G gs VJ hG sub=>?_⟩;have gsub:∀ y ∈ gs,y ∈ Bc.map (·.1):=fun y hy=>sub.mem hy
 have gl:gs.length<=8:=by
  have:=sub.length_le;rw [X8] at this;lia
 refine ⟨p,c,D,G,m,n,xs,Bc.map (·.1),gs,ws,Bj,Bc,x,d,rfl,P6.same VJ,cs.keepT (fun b ys z=>VJ _ _ z),VJ _ _ hD,hG,sn,fun y hy=>sn y (gsub y hy),by rw [X8]; lia,by rw [X8]; lia,by lia,sub.nodup cs.cw.ok2.nd,fun H7 F us P7 k65 hF few tg=>?_⟩;have k7:AI p H6 H7:=(AI.of_same VJ).trans k65;have nD:=Cz P6 hD;have t7:=Cq P6 k7;have V7:=cs.keepT t7;have sv7:=sv.keep P6 k7;have Uw:=k7 _ _ nD hD;refine ⟨F,rfl,⟨_,AA.of hF⟩,?_⟩;refine E8 (xs:=us) (fun i σ H'=>∃ (v9 v10 v11 IH:Option V),σ=[v0,some (.ref p),v2,some (.ref c),v4,some (.ref D),some (.int mo),some (.ref S),v9,v10,v11,IH]/\Au H7 H')
  ⟨_,_,_,_,rfl,Au.refl _⟩ (fun i σ H' _ ⟨_,_,_,_,_,sa⟩=>AA.of (sa _ _ hF)) ?_ ?_
 ·rintro i u σ H' hu ⟨v9,v10,v11,IH,rfl,sa⟩;have tu:=(tg u (XG hu)).same sa;refine ⟨_,rfl,_,rfl,u,D,Bc.map (·.1),rfl,tu.1,sa _ _ Uw,sn,fun b1 H8 s8 QC=>⟨_,rfl,?_⟩⟩;have UI:=sa.trans s8;have dueOf:∀ (H9:Hp),Au H8 H9->∀ (due:Bool),(due=true ↔ ∃ (l:Addr) (ys:List Str),u=.ref l/\H' l=some (.lst (ys.map V.str))/\(∀ y ∈ ys,y ∈ Bc.map (·.1))/\CL ys/\Cp ws mo (Bj.map (·.1)) ys=true)->(due=true ↔ ∃ (l:Addr) (ys:List Str),u=.ref l/\H9 l=some (.lst (ys.map V.str))/\(∀ s ∈ ys,Bb s=true)/\CL ys/\(∀ y ∈ ys,y ∈ Bc.map (·.1))/\Cp ws mo (Bj.map (·.1)) ys=true):=fun H9 s9 due hd=>by
   rw [hd];constructor
   ·rintro ⟨l,ys,e1,e2,e3,e4,e5⟩;exact ⟨l,ys,e1,(s8.trans s9) _ _ e2,fun s hs=>sn s (e3 s hs),e4,e3,e5⟩
   ·rintro ⟨l,ys,e1,e2,e3,e4,e5,e6⟩;subst e1;rcases tu.1 with ⟨l',O1,e7,e8,_⟩ | nl
    ·cases e7
     rw [(s8.trans s9) _ _ e8] at e2;injection e2 with e2;injection e2 with e2;exact ⟨l,ys,rfl,by rw [e8,e2],e5,e4,e6⟩
    ·exact (Fs (nl.same (s8.trans s9)) e2).elim
  refine DI (fun hz=>?_) (fun hz=>?_)
  ·obtain ⟨l,ys,rfl,e2,e3,e4⟩:=QC.mp hz;refine ⟨_,rfl,_,rfl,S,l,mo,ws,Bj.map (·.1),Bc.map (·.1),ys,rfl,sv7.same UI,cs.cw.ok1.nd,by rw [X8]; have:=cs.l6; lia,AA.of (s8 _ _ e2),e3,?_,fun H9 s9=>?_⟩
   ·have:=Bh (e4.nodup) e3;rw [X8] at this;lia
   ·refine rdB _ H9 c m mo n xs ws Bj Bc x d _ _ v0 (some (.ref p)) v2 v4 (some (.ref D)) (some (.ref S)) v11 IH (V7.keepT fun b ys z=>(UI.trans s9) _ _ z) (tu.same (s8.trans s9)) (dueOf H9 s9 _ ⟨fun z=>⟨l,ys,rfl,e2,e3,e4,z⟩,?_⟩) fun Hl VA w12 LD=>⟨_,_,_,_,rfl,(UI.trans s9).trans LD⟩
    rintro ⟨l',UA,f1,f2,f3,f4,f5⟩;cases f1
    rw [e2] at f2;injection f2 with f2;injection f2 with f2;rw [F8 f2];exact f5
  ·refine rdB _ H8 c m mo n xs ws Bj Bc x d _ _ v0 (some (.ref p)) v2 v4 (some (.ref D)) (some (.ref S)) v11 IH (V7.keepT fun b ys z=>(UI.trans (Au.refl _)) _ _ z) (tu.same (s8.trans (Au.refl _))) (dueOf H8 (Au.refl _) _ ⟨(fun z=>by cases z),?_⟩) fun Hl VA w12 LD=>⟨_,_,_,_,rfl,(UI.trans (Au.refl _)).trans LD⟩
   rintro ⟨l',UA,f1,f2,f3,f4,f5⟩;exact absurd (QC.mpr ⟨l',UA,f1,f2,f3,f4⟩) hz
 ·rintro σ H' ⟨v9,v10,v11,IH,rfl,sa⟩;exact fin _ _ _ _ _ (P7.same sa) (k7.trans (AI.of_same sa))
theorem Ti (h_isinstance:mg "isinstance"=none) (h_bool:mg "bool"=none) (h_len:mg "len"=none) (h_range:mg "range"=none) (h_repr:mg "repr"=none) {fT:Addr} {fdT:FuncData} (XT:Fn K mg "_law_take" AE ["_law_pen","_law_many"] fT fdT) (GT:AJ P w K mg base BN 1 fT fdT ["_law_pen","_law_many"] (CQ K)) {fCA:Addr} {fdCA:FuncData} (XCA:Fn K mg "_law_case" DS ["_law_pen","_law_shape"] fCA fdCA) (GCA:AJ P w K mg base BN 4 fCA fdCA ["_law_pen","_law_shape"] (Mt K)) {fLs:Addr} {fdLs:FuncData} (XLs:Fn K mg "_law_lengths" C0 ["_law_plan"] fLs fdLs) (GLs:AJ P w K mg base BN 1 fLs fdLs ["_law_plan"] Mr) {fMO:Addr} {fdMO:FuncData} (XMO:Fn K mg "_law_mosts" Dq ["_law_pen","_law_case_here","_law_lengths_here"] fMO fdMO) (GMO:AJ P w K mg base BN 2 fMO fdMO ["_law_pen","_law_case_here","_law_lengths_here"] (K9 K)) {fSV:Addr} {fdSV:FuncData} (XSV:Fn K mg "_law_served" CT ["_law_case_here","_law_lengths_here","_law_most"] fSV fdSV) (GSV:AJ P w K mg base BN 1 fSV fdSV ["_law_case_here","_law_lengths_here","_law_most"] Jq) {fSA:Addr} {fdSA:FuncData} (XSA:Fn K mg "_law_stands_apart" AX ["_law_served_here","_law_some_here"] fSA fdSA) (GSA:AJ P w K mg base BN 1 fSA fdSA ["_law_served_here","_law_some_here"] (ER K)) {fAP:Addr} {fdAP:FuncData} (XAP:Fn K mg "_law_apart" CD ["_law_case_here","_law_served_here"] fAP fdAP) (GAP:AJ P w K mg base BN 2 fAP fdAP ["_law_case_here","_law_served_here"] HB) {fTH:Addr} {fdTH:FuncData} (XTH:Fn K mg "_law_things" Cf ["_law_pen","_law_case_here","_law_places","_law_good"] fTH fdTH) (GTH:AJ P w K mg base BN 3 fTH fdTH ["_law_pen","_law_case_here","_law_places","_law_good"] (Ge K)) {fIL:Addr} {fdIL:FuncData} (XIL:Fn K mg "_law_is_listed" BD ["_law_thing","_law_places"] fIL fdIL) (GIL:AJ P w K mg base BN 1 fIL fdIL ["_law_thing","_law_places"] (Gf K)) {fIC:Addr} {fdIC:FuncData} (XIC:Fn K mg "is_apart" Ct ["case","far","thing"] fIC fdIC) (GIC:AJ P w K mg base BN 6 fIC fdIC ["case","far","thing"] (DR K)) {f:Addr} {fd:FuncData}
  (F:Fz K "law" "law" FE f fd):AJ P w K mg base BN 7 f fd ["_law_script"] (Ms K):=by
 refine F.ok JZ (fun vs H Q E h=>?_) (fun cdv A outer s H vs Q E hr h=>?_)
 ·obtain ⟨a,ns,rfl,_⟩:=h;rfl
 ·obtain ⟨a,ns,rfl,hS,hlen,k⟩:=h;have nd:=JZ.nd;have hu:=Dy hr;have big:100000 < sizeLine:=by decide
  obtain ⟨tlA,htA,rdA⟩:=lawA (P:=P) (w:=w) (K:=K) (mg:=mg) (base:=base) h_isinstance h_bool h_repr XSA GSA XTH GTH XIL GIL XAP GAP XIC GIC (f:=f) (cdv:=cdv) (A:=A) (outer:=outer) (s:=s) (H:=H) (E:=E) hr;refine ⟨_,(Ae (Aq (i:=1) nd rfl (Or.inl rfl) (AN (Aa (pv 0) (Aa Ag (Aa Ag Ad)))))
  (Ae (Bv PassesOwn.never rfl (Dc (by rfl) h_range (Aa Ag Ad)) (Al (i:=2) nd rfl (Or.inl rfl))
  (Ae (Aq (i:=3) nd rfl (Or.inl rfl) (Aj GCA (hr.mono (by decide)) (by rfl) XCA.mg XCA.F.kp XCA.b .nil Aw (Aa (pv 1) (Aa (Aj GT (hr.mono (by decide)) (by rfl) XT.mg XT.F.kp XT.b .nil Aw (Aa (pv 1) (Aa Ag Ad))) Ad))))
  (Ae (Aq (i:=4) nd rfl (Or.inl rfl) (Aj GLs (hr.mono (by decide)) (by rfl) XLs.mg XLs.F.kp XLs.b .nil Aw (Aa (A4 (Ay K rfl) (pv 3) Ag (fun _ _=>rfl)) Ad)))
  (Ae (Rf (ix:=5) (N:=["_law_place","_law_many"]) (σ0:=fun _=>[none,none]) nd rfl (Or.inl rfl) rfl (AS.plain (by decide +kernel) (by decide +kernel) rfl (by decide +kernel)) (fun σ _=>AU.none _ _ _ ["_law_place","_law_many"] σ) (Bs K rfl (A4 (Ay K rfl) (pv 3) Ag (fun _ _=>rfl)))
   (fun s2 H C fp=>⟨(BP K rfl (n:=2) rfl (Az (Al (i:=0) (show (["_law_place","_law_many"]:List Str).Nodup by decide +kernel) rfl (Or.inl rfl)) (Az (Al (i:=1) (show (["_law_place","_law_many"]:List Str).Nodup by decide +kernel) rfl (Or.inl rfl)) BO))),Br,(pv 0)⟩))
  (Ak (Bv PassesOwn.never rfl (By K rfl (Aj GMO (hr.mono (by decide)) (by rfl) XMO.mg XMO.F.kp XMO.b .nil Aw (Aa (pv 1) (Aa (pv 3) (Aa (pv 4) Ad))))) (Al (i:=6) nd rfl (Or.inl rfl))
  (Ae (Aq (i:=7) nd rfl (Or.inl rfl) (Aj GSV (hr.mono (by decide)) (by rfl) XSV.mg XSV.F.kp XSV.b .nil Aw (Aa (pv 3) (Aa (pv 4) (Aa (pv 6) Ad)))))
  (Ae (CN (B5 KN (Aj GIC (hr.mono (by decide)) (by rfl) XIC.mg XIC.F.kp XIC.b .nil Aw (Aa (pv 3) (Aa (pv 6) (Aa (AN Ad) Ad)))) Dv (B9 _))
  (Ak (AH Dv))
  B6)
  htA))))))))
  (Ak (AH Dv)))),?_⟩
  refine ⟨_,rfl,(by show 3<=sizeLine; lia),fun p hp=>?_⟩;have P0:CP K (upd H p (.lst [.ref a,.int 0,.int 0])) p:=⟨a,ns,0,0,Ab,hS.same (Ac hp),hlen,by decide,by decide⟩
  generalize upd H p (.lst [.ref a,.int 0,.int 0])=H0 at P0;refine ⟨2,rfl,by decide,by decide,Dd (n:=2) (fun _ σ H'=>∃ v2 v3 v4 v5 v6 v7 v9 v10 v11 IH,σ=[some (.ref a),some (.ref p),v2,v3,v4,v5,v6,v7,v9,v10,v11,IH]/\CP K H' p) ⟨_,_,_,_,_,_,_,_,_,_,rfl,P0⟩ ?_ (fun σ H' _=>k H')⟩;rintro j σ H1 hj ⟨v2,v3,v4,v5,v6,v7,v9,v10,v11,IH,rfl,P1⟩;refine ⟨_,rfl,_,rfl,p,4,rfl,P1,by decide,by decide,fun sh H2 P2 k2 VG sh1=>?_⟩;refine ⟨p,sh,rfl,P2,VG,sh1,fun H3 c m n xs ws Bj Bc x d P3 k3 cs=>?_⟩;obtain ⟨t1,t2,L1,F0,hc,La,O4,Fo,hd2⟩:=id cs.cw.ex;have Q7:=Ci hd2;have l8:=cs.l8;have W6:=cs.cw.ok2.one;have n1:=cs.cw.n1;have n9:=cs.n9;refine ⟨_,rfl,c,_,_,_,rfl,rfl,AM.of hc,rfl,m,n,xs,ws,rfl,cs.cw.map,n1,by lia,fun H4 A0 s4 fA kn=>?_⟩;refine ⟨_,rfl,c,_,_,_,rfl,rfl,AM.of (s4 _ _ hc),rfl,t2,rfl,⟨_,AM.of (s4 _ _ Fo)⟩,?_⟩;refine CF DC (xs:=F0) (fun D i Ar H' acc=>∃ v0 v1:Option V,Ar=[v0,v1]/\Au H4 H'/\H' D=some (.lst acc)/\acc=((Bc.map (·.1)).take i).map V.str/\acc.length=i)
   (by lia) (fun D hD=>⟨_,_,rfl,Ac hD,Ab,rfl,rfl⟩) (fun D i Ar H' acc hD ⟨v0,v1,_,sa,BB,_,al⟩=>⟨AM.of (sa _ _ (s4 _ _ Fo)),BB,al⟩) ?_ ?_
  ·rintro D i Ar H' acc x' B hD ex ⟨v0,v1,rfl,sa,BB,ea,al⟩ hB;obtain ⟨r,t,er,rfl,ht⟩:=BX hd2 ex;refine ⟨t,_,rfl,AM.of (sa _ _ (s4 _ _ ht)),rfl,_,_,rfl,_,_,rfl,rfl,?_⟩;refine ⟨_,rfl,hB _ _ _ BB ⟨_,_,rfl,Er sa hD,Ab,?_,by rw [XI,al]; rfl⟩⟩;rw [ea,Yk,XU,er,Yb];rfl
  rintro D Ar H5 acc hD ⟨v0,v1,rfl,s5,BB,ea,_⟩;rw [Q7,<-X8 (f:=(·.1)) (as:=Bc),Yq] at ea;subst ea;have s35:=s4.trans s5;have P5:=P3.same s35;have cs5:=cs.keepT fun b ys z=>s35 _ _ z
  have kn5:=kn.same s5;refine ⟨_,rfl,_,rfl,_,rfl,p,c,A0,m,n,xs,ws,Bj,Bc,x,d,rfl,P5,cs5,kn5,fun H6 Fm ms P6 k6 fF hF ml=>?_⟩;have t6:=Cq P5 k6;have cs6:=cs5.keepT t6;have kn6:=kn5.keep5 P5 k6;have Vy:=k6 _ _ (Cz P5 BB) BB;have nF:Fm ≠ p:=fun e=>by
   obtain ⟨_,_,_,_,z,_⟩:=P5;rw [e,z] at fF;cases fF
  refine ⟨Fm,rfl,⟨_,AA.of hF⟩,?_⟩;refine E8 (xs:=ms.map V.int) (fun i σ H'=>∃ v6 v7 v9 v10 v11 IH:Option V,σ=[some (.ref a),some (.ref p),some (.int (0 + (j:Int))),some (.ref c),some (.ref A0),some (.ref D),v6,v7,v9,v10,v11,IH]/\CP K H' p/\AI p H6 H')
   ⟨_,_,_,_,_,_,rfl,P6,AI.refl _ _⟩ (fun i σ H' _ ⟨_,_,_,_,_,_,_,_,ka⟩=>AA.of (ka _ _ nF hF)) ?_ ?_
  ·rintro i v σ H7 hv ⟨v6,v7,v9,v10,v11,IH,rfl,P7,k7⟩;obtain ⟨mo,rfl⟩:∃ mo:Int,v=.int mo:=by
    obtain ⟨mo,_,e⟩:=Ya.mp (XG hv);exact ⟨mo,e.symm⟩
   have t7:=Cq P6 k7;have V7:=cs6.keepT t7;have kn7:=kn6.keep5 P6 k7;have Uw:=k7 _ _ (Cz P6 Vy) Vy;refine ⟨_,rfl,_,rfl,_,rfl,c,A0,m,mo,n,xs,ws,Bj,Bc,x,d,rfl,V7,kn7,fun H8 S s8 fS sv=>?_⟩;have P8:=P7.same s8;have cs8:=V7.keepT fun b ys z=>s8 _ _ z
   refine ⟨_,rfl,_,rfl,(by show 0<=sizeLine; lia),fun E0 hE0=>?_⟩;have s9:=Ac (o:=.lst []) hE0;have hE:(upd H8 E0 (.lst [])) E0=some (.lst (([]:List Str).map V.str)):=Ab;generalize upd H8 E0 (.lst [])=H9 at s9 hE;have cs9:=cs8.keepT fun b ys z=>s9 _ _ z
   refine ⟨c,m,.ref E0,mo,n,xs,ws,Bj,Bc,x,d,rfl,cs9,.inl ⟨E0,_,rfl,hE,(fun u hu=>nomatch hu),by decide⟩,fun b Hl LD hb=>?_⟩;have eb:b=true:=hb.mpr ⟨E0,[],rfl,hE,(fun s hs=>nomatch hs),List.Pairwise.nil,(fun y hy=>nomatch hy),by unfold Cp; rw [Y4]; intro s _; rfl⟩;subst eb;refine ⟨_,_,rfl,rfl,_,rfl,?_⟩;refine Ej ?_;have Wx:=s9.trans LD;have s70:=s8.trans Wx;refine rdA _ Hl p c m S D mo n xs ws Bj Bc x d _ _ _ _ _ _ _ (P8.same Wx) (cs9.keepT fun b ys z=>LD _ _ z) (sv.same Wx) (s70 _ _ Uw) fun X0 w9 VB VA w12 Wn k12=>?_
   exact ⟨_,_,_,_,_,_,rfl,Wn,k7.trans ((AI.of_same s70).trans k12)⟩
  ·rintro σ H7 ⟨v6,v7,v9,v10,v11,IH,rfl,P7,k7⟩;exact ⟨_,_,_,_,_,_,_,_,_,_,rfl,P7⟩
end
section
variable {P:Program} {w:World} {K:XB} {mg:Str->Option Value} {base:Heap}
theorem KP (h_all:mg "all"=none) (h_isinstance:mg "isinstance"=none) (h_len:mg "len"=none) (h_list:mg "list"=none) (h_set:mg "set"=none) {fR:Addr} {fdR:FuncData} (XR:Fn K mg "are_rising" CU ["things"] fR fdR) (GR:AJ P w K mg base BN 2 fR fdR ["things"] (Jr K)) {fW:Addr} {fdW:FuncData} (XW:Fn K mg "served_within" BY ["case","far"] fW fdW) (GW:AJ P w K mg base BN 5 fW fdW ["case","far"] Jp) {f:Addr} {fd:FuncData} (F:Fz K "is_apart" "is_apart" Ct f fd):AJ P w K mg base BN 6 f fd ["case","far","thing"] (DR K):=by
 refine F.ok Gy (fun vs H Q E h=>?_) (fun cdv A outer s H vs Q E hr h=>?_)
 ·obtain ⟨c,m,v,mo,n,xs,ws,Bj,Bc,x,d,rfl,_⟩:=h;rfl
 ·obtain ⟨c,m,v,mo,n,xs,ws,Bj,Bc,x,d,rfl,cs,th,k⟩:=h;have nd:=Gy.nd;have hu:=Dy hr;have big:100000 < sizeLine:=by decide
  refine ⟨_,(Ae (CN (HF (Et (Es (Ai CH (by rfl) h_isinstance PyProof.Rows.boot_isinstance (Aa (pv 2) (Aa (FJ (v:=.ty "list") (by rfl) h_list PyProof.Rows.boot_list rfl) Ad))))) (Gh (Et (Es (Aj GR (hr.mono (by decide)) (by rfl) XR.mg XR.F.kp XR.b .nil Aw (Aa (pv 2) Ad)))))).pt
  (Ak (AH Dv))
  B6)
  (Ae (Aq (i:=3) nd rfl (Or.inr rfl) (Aj GW (hr.mono (by decide)) (by rfl) XW.mg XW.F.kp XW.b .nil Aw (Aa (pv 0) (Aa (pv 1) Ad))))
  (Ae (CN (Et (Es (Ai (EH rfl) (by rfl) h_all PyProof.Rows.boot_all (Aa (BQ (N:=["place","served"]) (σ0:=fun σ=>[none,some 3].map fun j=>j.bind fun j=>(σ[j]?).join) rfl (AS.caught (by rfl) (by decide +kernel) rfl (by decide +kernel) (by intro y hy; simp only [XC,XZ,or_false] at hy; rcases hy with rfl <;> rfl)
   (by intro y hy e; simp only [XC,XZ,or_false] at hy; rcases hy with rfl | rfl | rfl <;> first | exact ⟨_,rfl⟩ | cases e)) (fun σ _=>AU.of [none,some 3] rfl (by
   intro i j x h1 h2;match i,h1,h2 with
   | 0,_,h2=>cases h2
   | 1,h1,h2=>cases h1; cases h2; exact ⟨rfl,.inl rfl,.inl rfl⟩
   | n + 2,h1,_=>cases h1)) (By K rfl (pv 2))
   (fun s2 H C fp=>⟨(Al (i:=0) (show (["place","served"]:List Str).Nodup by decide +kernel) rfl (Or.inl rfl)),Br,(SV (SY hu (pv 0) (pv 1)))⟩)) Ad))))
  (Ak (AH Dv))
  B6)
  (Ae (Pu (ix:=4) (N:=["place","site","served"]) (σ0:=fun σ=>[none,none,some 3].map fun j=>j.bind fun j=>(σ[j]?).join) nd rfl (Or.inl rfl) rfl (AS.caught (by rfl) (by decide +kernel) rfl (by decide +kernel) (by intro y hy; simp only [XC,XZ,or_false] at hy; rcases hy with rfl <;> rfl)
   (by intro y hy e; simp only [XC,XZ,or_false] at hy; rcases hy with rfl | rfl | rfl | rfl <;> first | exact ⟨_,rfl⟩ | cases e)) (fun σ _=>AU.of [none,none,some 3] rfl (by
   intro i j x h1 h2;match i,h1,h2 with
   | 0,_,h2=>cases h2
   | 1,_,h2=>cases h2
   | 2,h1,h2=>cases h1; cases h2; exact ⟨rfl,.inl rfl,.inl rfl⟩
   | n + 3,h1,_=>cases h1)) (By K rfl (pv 2))
   (fun s2 H C fp=>⟨(Al (i:=0) (show (["place","site","served"]:List Str).Nodup by decide +kernel) rfl (Or.inl rfl)),Br,(By K rfl (Bt hu (pv 2) (pv 0) (fun _ _=>rfl))),(Al (i:=1) (show (["place","site","served"]:List Str).Nodup by decide +kernel) rfl (Or.inl rfl)),Br,(pv 1)⟩))
  (Ak (AH (EV MB (Ai Jd (by rfl) h_len PySem.boot_len (Aa (AF (IZ rfl) (by rfl) h_set PyProof.Rows.boot_set (Aa (pv 4) Ad)) Ad)) (Ai Eb (by rfl) h_len PySem.boot_len (Aa (pv 4) Ad)) (B9 _)))))))),?_⟩
  have l6:=cs.l6;have l8:=cs.l8;rcases th with ⟨l,us,rfl,hl,it,few⟩ | ⟨ty,h1,h2⟩
  ·refine ⟨_,rfl,_,"list",_,_,rfl,.lst hl,rfl,_,rfl,?_⟩;refine Ej ?_;refine ⟨_,rfl,l,us,rfl,hl,it,few,fun b H1 s1 hb=>⟨_,rfl,?_⟩⟩;cases b with
   | false=>
    refine FP (k false H1 s1 ⟨(fun z=>by cases z),fun ⟨l',ys,e1,e2,e3,e4,_⟩=>?_⟩);cases e1
    rw [hl] at e2;injection e2 with e2;injection e2 with e2;exact hb.mpr ⟨ys,e2,e3,e4⟩
   | true=>
    refine Ej ?_;obtain ⟨ys,rfl,nm,ri⟩:=hb.mp rfl;rw [X8] at few;have only:∀ {b:Bool} {H':Hp},Au H H'->(b=true ↔ (∀ y ∈ ys,y ∈ Bc.map (·.1))/\Cp ws mo (Bj.map (·.1)) ys=true)->Q (.bl b) H':=fun {b H'} sa hb=>by
     refine k b H' sa (hb.trans ⟨fun ⟨z1,z2⟩=>⟨l,ys,rfl,hl,nm,ri,z1,z2⟩,fun ⟨l',UA,e1,e2,_,_,e5,e6⟩=>?_⟩);cases e1
     rw [hl] at e2;injection e2 with e2;injection e2 with e2;have e7:ys=UA:=F8 e2;subst e7;exact ⟨e5,e6⟩
    refine ⟨_,rfl,_,rfl,c,m,mo,n,xs,ws,Bj,Bc,x,d,rfl,cs.keepT (fun b ys z=>s1 _ _ z),fun H2 S s2 fS wi=>?_⟩;have s02:=s1.trans s2;obtain ⟨nv,hS,nk,nl⟩:=wi;have Kq:=s02 _ _ hl;refine ⟨_,rfl,l,rfl,⟨_,AA.of Kq⟩,?_⟩;refine CF Bk (xs:=ys.map V.str) (fun D i Ar H3 acc=>∃ v0:Option V,Ar=[v0,some (.ref S)]/\Au H2 H3/\H3 D=some (.lst acc)/\acc=((ys.take i).map fun y=>decide (y ∈ Bc.map (·.1))).map V.bl/\acc.length=i)
     (by rw [X8]; lia) (fun D hD=>⟨_,rfl,Ac hD,Ab,rfl,rfl⟩) (fun D i Ar H3 acc hD ⟨v0,_,sa,BB,_,al⟩=>⟨AA.of (sa _ _ Kq),BB,al⟩) ?_ ?_
    ·rintro D i Ar H3 acc x' Y hD ex ⟨v0,rfl,sa,BB,ea,al⟩ hY;obtain ⟨y,ey,rfl⟩:∃ y,ys[i]? = some y/\x'=.str y:=by
      rw [XU] at ex;cases z:ys[i]? with
      | none=>rw [z] at ex; cases ex
      | some y=>rw [z] at ex; exact ⟨y,rfl,(Yi.inj ex).symm⟩
     refine ⟨_,rfl,_,rfl,S,_,rfl,BU.k (k:=Sum.inr y) (sa _ _ hS),?_⟩;rw [Gz,nk];refine hY _ _ _ BB ⟨_,rfl,Er sa hD,Ab,?_,by rw [XI,al]; rfl⟩;rw [ea,Yk,ey,Yb,Yb];rfl
    ·rintro D Ar H3 acc hD ⟨v0,rfl,sa,BB,ea,al⟩;rw [X8,Yq] at ea;have s3:=s02.trans sa;refine ⟨D,_,rfl,AA.of (by rw [BB,ea]),_,rfl,?_⟩;cases hz:(ys.map fun y=>decide (y ∈ Bc.map (·.1))).all id with
     | false=>
      refine FP (only s3 ⟨(fun z=>by cases z),fun ⟨z1,_⟩=>?_⟩);have:(ys.map fun y=>decide (y ∈ Bc.map (·.1))).all id=true:=Y4.mpr fun b hb=>by
       obtain ⟨y,hy,rfl⟩:=Ya.mp hb;exact decide_eq_true (z1 y hy)
      rw [this] at hz;cases hz
     | true=>
      refine Ej ?_;have yin:∀ y ∈ ys,y ∈ Bc.map (·.1):=fun y hy=>by
       have:=Y4.mp hz _ (YW (f:=fun y=>decide (y ∈ Bc.map (·.1))) hy);exact of_decide_eq_true this
      have hl3:=s3 _ _ hl;have WW:=sa _ _ hS;have ssl:∀ p,((Bj.map (·.1)).filter fun s=>Bn ws mo s p).length<=6:=fun p=>Yo (ZW _ _) (by rw [X8]; exact l6)
      have fll:∀ zs:List Str,(zs.flatMap fun p=>(Bj.map (·.1)).filter fun s=>Bn ws mo s p).length<=6 * zs.length:=fun zs=>by
       induction zs with
       | nil=>exact XD _
       | cons z zs ih=>
        rw [aN,XI,Yv];have:=ssl z;lia
      refine ⟨_,rfl,l,rfl,⟨_,AA.of hl3⟩,?_⟩;intro G hG;refine ⟨fun i m σ H'=>m=ys.length - i/\i<=ys.length/\∃ v0 v1:Option V,σ=[v0,v1,some (.ref S)]/\Au H3 H'/\H' G=some (.lst (((ys.take i).flatMap fun p=>(Bj.map (·.1)).filter fun s=>Bn ws mo s p).map V.str)),⟨_,rfl,Yr _,_,_,rfl,Ac hG,Ab⟩,?_⟩;rintro i m σ H' ⟨rfl,hi,v0,v1,rfl,sb,hGG⟩;have Vn:=sb _ _ hl3;by_cases B0:i < ys.length
      ·refine .inr ⟨Bk.go (xs:=ys.map V.str) i H' (AA.of Vn) (by rw [X8]; exact B0),fun x' H4 yy=>?_⟩;obtain ⟨rfl,ex⟩:=Bk.yld (xs:=ys.map V.str) i H' x' H4 (AA.of Vn) yy;obtain ⟨y,ey,rfl⟩:∃ y,ys[i]? = some y/\x'=.str y:=by
        rw [XU] at ex;cases z:ys[i]? with
        | none=>rw [z] at ex; cases ex
        | some y=>rw [z] at ex; exact ⟨y,rfl,(Yi.inj ex).symm⟩
       obtain ⟨q,hq,eq1⟩:=Ya.mp (show y ∈ nv.map (·.1) by rw [nk]; exact yin y (XG ey));obtain ⟨y',v⟩:=q;have eq2:y'=y:=eq1;subst eq2;obtain ⟨lz,e2,hlz⟩:=nl (y',v) hq;have Sj:v=.ref lz:=e2;subst Sj;have T6:=sb _ _ (sa _ _ hlz);have dg:BU H4 S (.str y') (some (.ref lz)):=.inl ⟨_,Sum.inr y',.inl (sb _ _ WW),rfl,(CV (nv:=nv) (by rw [nk]; exact cs.cw.ok2.nd) hq).symm⟩;refine Qm ?_;refine ⟨_,rfl,_,rfl,S,_,rfl,dg,lz,rfl,⟨_,AA.of T6⟩,?_⟩;have zl:=ssl y';have pl:=fll (ys.take i);rw [Yz] at pl;generalize hzs:((Bj.map (·.1)).filter fun s=>Bn ws mo s y')=zs at T6 zl;generalize hpr:((ys.take i).flatMap fun p=>(Bj.map (·.1)).filter fun s=>Bn ws mo s p)=pr at hGG pl;have nlG:lz ≠ G:=fun e=>by
        have:=sa _ _ hlz;rw [e,hG] at this;cases this
       refine ⟨fun j m2 K0 H6=>m2=zs.length - j/\j<=zs.length/\∃ w1:Option V,K0=[some (.str y'),w1,some (.ref S)]/\(∀ b o,b ≠ G->H4 b=some o->H6 b=some o)/\H6 G=some (.lst ((pr ++ zs.take j).map V.str)),⟨_,rfl,Yr _,_,rfl,fun b o _ z=>z,by rw [bc,Zx]; exact hGG⟩,?_⟩;rintro j m2 K0 H6 ⟨rfl,hj,w1,rfl,kb,hG6⟩;have T5:=kb _ _ nlG T6;by_cases hjl:j < zs.length
       ·refine .inr ⟨Bk.go (xs:=zs.map V.str) j H6 (AA.of T5) (by rw [X8]; exact hjl),fun x2 H7 y7=>?_⟩;obtain ⟨rfl,Oh⟩:=Bk.yld (xs:=zs.map V.str) j H6 x2 H7 (AA.of T5) y7;obtain ⟨z,ez,rfl⟩:∃ z,zs[j]? = some z/\x2=.str z:=by
         rw [XU] at Oh;cases z:zs[j]? with
         | none=>rw [z] at Oh; cases Oh
         | some y=>rw [z] at Oh; exact ⟨y,rfl,(Yi.inj Oh).symm⟩
        refine Qm ?_;refine ⟨_,rfl,_,hG6,by rw [X8,XI,Yz]; lia,zs.length - (j + 1),by lia,rfl,hjl,_,rfl,fun b o hb z=>by rw [Af hb]; exact kb b o hb z,?_⟩;rw [Ab,Yk,ez,<-YJ,Yb (l₂:=(some z).toList)];rfl
       ·have ej:j=zs.length:=by lia
        subst ej;refine .inl ⟨Bk.stop (xs:=zs.map V.str) H6 (AA.of T5) |> fun z=>by rw [X8] at z; exact z,ys.length - (i + 1),by lia,rfl,B0,_,_,rfl,fun b o z=>kb b o (Ah z hG) (sb _ _ z),?_⟩;rw [hG6,Yq,Yk,ey,List.flatMap_append,hpr];simp [hzs]
      ·have ei:i=ys.length:=by lia
       subst ei;rw [Yq] at hGG;refine .inl ⟨Bk.stop (xs:=ys.map V.str) H' (AA.of Vn) |> fun z=>by rw [X8] at z; exact z,?_⟩;have fl:=fll ys;have nq:=Ln (ws:=ws) (mo:=mo) (ys:=ys) cs.cw.ok1.nd;generalize (ys.flatMap fun p=>(Bj.map (·.1)).filter fun s=>Bn ws mo s p)=fls at hGG fl nq;refine ⟨_,rfl,G,fls,rfl,hGG,by lia,fun D5 Lv=>⟨D5,_,_,rfl,Ab,?_⟩⟩;refine ⟨_,rfl,G,_,rfl,.inl (AA.of (Ac Lv _ _ hGG)),rfl,?_⟩;refine only ((s3.trans sb).trans (Ac Lv)) ?_;rw [X8,decide_eq_true_iff,<-nq,<-Ol];constructor
       ·intro e;injection e with e;exact ⟨yin,by lia⟩
       ·rintro ⟨_,e⟩;rw [e]
  ·refine ⟨_,rfl,v,"list",ty,false,rfl,h1,h2,_,rfl,?_⟩;refine FP ?_;refine FP (k false H (Au.refl _) ⟨(fun z=>by cases z),fun ⟨l',ys,e1,e2,_⟩=>?_⟩);subst e1;exact (Fs ⟨ty,h1,h2⟩ e2).elim
end
section
variable {P:Program} {w:World} {K:XB} {mg:Str->Option Value} {base:Heap}
theorem Kl (h_len:mg "len"=none) (h_min:mg "min"=none) {fSA:Addr} {fdSA:FuncData} (XSA:Fn K mg "_law_stands_apart" AX ["_law_served_here","_law_some_here"] fSA fdSA) (GSA:AJ P w K mg base BN 1 fSA fdSA ["_law_served_here","_law_some_here"] (ER K)) {f:Addr} {fd:FuncData} (F:Fz K "_law_apart" "_law_apart" CD f fd):AJ P w K mg base BN 2 f fd ["_law_case_here","_law_served_here"] HB:=by
 refine F.ok FD (fun vs H Q E h=>?_) (fun cdv A outer s H vs Q E hr h=>?_)
 ·obtain ⟨c,S,m,mo,n,xs,ws,Bj,Bc,x,d,rfl,_⟩:=h;rfl
 ·obtain ⟨c,S,m,mo,n,xs,ws,Bj,Bc,x,d,rfl,cs,sv,ks⟩:=h;have nd:=FD.nd;have hu:=Dy hr;have Ih:=hr.units;have big:100000 < sizeLine:=by decide
  refine ⟨_,(Ae (Aq (i:=2) nd rfl (Or.inl rfl) (AN (Aa (AN Ad) Ad)))
  (Ae (Bv PassesOwn.never rfl (Bs K rfl (A4 (Ay K rfl) (pv 0) Ag (fun _ _=>rfl))) (BP K rfl rfl (Az (Al (i:=3) nd rfl (Or.inr rfl)) (Az (Al (i:=4) nd rfl (Or.inl rfl)) BO)))
  (Ak (Aq (i:=2) nd rfl (Or.inl rfl) (As Cu (pv 2) (BQ (N:=["_law_one","_law_place"]) (σ0:=fun σ=>[none,some 3].map fun j=>j.bind fun j=>(σ[j]?).join) rfl (AS.caught (by rfl) (by decide +kernel) rfl (by decide +kernel) (by intro y hy; simp only [XC,XZ,or_false] at hy; rcases hy with rfl <;> rfl)
   (by intro y hy e; simp only [XC,XZ,or_false] at hy; rcases hy with rfl | rfl | rfl <;> first | exact ⟨_,rfl⟩ | cases e)) (fun σ _=>AU.of [none,some 3] rfl (by
   intro i j x h1 h2;match i,h1,h2 with
   | 0,_,h2=>cases h2
   | 1,h1,h2=>cases h1; cases h2; exact ⟨rfl,.inl rfl,.inl rfl⟩
   | n + 2,h1,_=>cases h1)) (By K rfl (pv 2))
   (fun s2 H C fp=>⟨(Al (i:=0) (show (["_law_one","_law_place"]:List Str).Nodup by decide +kernel) rfl (Or.inl rfl)),Br,(As Cu (pv 0) (AN (Aa (pv 1) Ad)))⟩))))))
  (Ak (AH (A4 (Ay K rfl) (Ai (Lm rfl Ih) (by rfl) h_min PyProof.Rows.boot_min (Aa (BQ (N:=["_law_one","_law_served_here"]) (σ0:=fun σ=>[none,some 1].map fun j=>j.bind fun j=>(σ[j]?).join) rfl (AS.caught (by rfl) (by decide +kernel) rfl (by decide +kernel) (by intro y hy; simp only [XC,XZ,or_false] at hy; rcases hy with rfl <;> rfl)
   (by intro y hy e; simp only [XC,XZ,or_false] at hy; rcases hy with rfl | rfl | rfl | rfl | rfl <;> first | exact ⟨_,rfl⟩ | cases e)) (fun σ _=>AU.of [none,some 1] rfl (by
   intro i j x h1 h2;match i,h1,h2 with
   | 0,_,h2=>cases h2
   | 1,h1,h2=>cases h1; cases h2; exact ⟨rfl,.inl rfl,.inl rfl⟩
   | n + 2,h1,_=>cases h1)) (By K rfl (pv 2))
   (fun s2 H C fp=>⟨(Al (i:=0) (show (["_law_one","_law_served_here"]:List Str).Nodup by decide +kernel) rfl (Or.inl rfl)),(Hn (Es (Aj GSA (hr.mono (by decide)) (by rfl) XSA.mg XSA.F.kp XSA.b .nil Aw (Aa (pv 1) (Aa (pv 0) Ad))))),(Bm (Aa (As Ew Ag (Ai (Av K rfl) (by rfl) h_len PySem.boot_len (Aa (pv 0) Ad))) (Aa (pv 0) Ad)))⟩)) Ad)) Ag (fun _ _=>rfl)))))),?_⟩
  obtain ⟨t1,t2,L1,F0,hc,La,O4,Fo,hd2⟩:=cs.cw.ex;have Q7:=Ci hd2;have l8:=cs.l8;refine ⟨(by show 0<=sizeLine; lia),fun L0 hL0=>⟨(by show 1<=sizeLine; lia),fun F hF=>?_⟩⟩;have s0:=(Ac (o:=.lst []) hL0).trans (Ac (o:=.lst [.ref L0]) hF);have hFF:(upd (upd H L0 (.lst [])) F (.lst [.ref L0])) F=some (.lst [.ref L0]):=Ab;have sl0:EI (upd (upd H L0 (.lst [])) F (.lst [.ref L0])) [.ref L0] []:=EI.one (ys:=[]) (Ac hF _ _ Ab) (List.Sublist.refl _);have Vv:(upd (upd H L0 (.lst [])) F (.lst [.ref L0])) L0=some (.lst []):=Ac hF _ _ Ab;generalize upd (upd H L0 (.lst [])) F (.lst [.ref L0])=H1 at s0 hFF sl0 Vv;refine ⟨_,rfl,c,_,_,_,rfl,rfl,AM.of (s0 _ _ hc),rfl,t2,rfl,⟨_,AM.of (s0 _ _ Fo)⟩,?_⟩;refine Hs (xs:=F0) (fun i σ H'=>∃ (F:Addr) (us:List V) (v3 v4:Option V),σ=[some (.ref c),some (.ref S),some (.ref F),v3,v4]/\Au H H'/\H' F=some (.lst us)/\EI H' us ((Bc.map (·.1)).take i)/\us.length=2 ^ i/\∃ l0,us[0]? = some (.ref l0)/\H' l0=some (.lst []))
   ⟨F,_,_,_,rfl,s0,hFF,by rw [bc]; exact sl0,rfl,L0,rfl,Vv⟩ (fun i σ H' _ ⟨_,_,_,_,_,sa,_⟩=>AM.of (sa _ _ Fo)) ?_ ?_
  ·rintro i v σ H' hv ⟨F,us,v3,v4,rfl,sa,hF,sl,ul,l0,VX,T7⟩;obtain ⟨r,t,er,rfl,ht⟩:=BX hd2 hv;have er':(Bc.map (·.1))[i]? = some r.1:=by rw [XU,er]; rfl
   have hi:=(XX.mp er).1;have p2:2 ^ i<=256:=Yo (aD (by decide) (show i<=8 by lia)) (by decide);have tk:(Bc.map (·.1)).take (i + 1)=(Bc.map (·.1)).take i ++ [r.1]:=by rw [Yk,er']; rfl
   refine ⟨t,_,rfl,AM.of (sa _ _ ht),rfl,_,_,rfl,_,_,rfl,rfl,?_⟩;refine ⟨_,rfl,_,rfl,F,rfl,⟨_,AA.of hF⟩,?_⟩;refine CF Bk (xs:=us) (fun D j Ar H2 acc=>∃ v0:Option V,Ar=[v0,some (.str r.1)]/\Au H' H2/\H2 D=some (.lst acc)/\(∀ u ∈ acc,u ≠ .ref D)/\EI H2 acc ((Bc.map (·.1)).take (i + 1))/\acc.length=j)
    (by lia) (fun D hD=>⟨_,rfl,Ac hD,Ab,(fun u hu=>nomatch hu),(fun u hu=>nomatch hu),rfl⟩)
    (fun D j Ar H2 acc hD ⟨v0,_,sb,BB,_,_,al⟩=>⟨AA.of (sb _ _ hF),BB,al⟩) ?_ ?_
   ·rintro D j Ar H2 acc x' B hD ex ⟨v0,rfl,sb,BB,nD,IS,al⟩ hB;obtain ⟨l,ys,rfl,hl,su⟩:=sl x' (XG ex);have Kq:=sb _ _ hl;have yl:ys.length<=8:=by
     have:=su.length_le;rw [Yz,X8] at this;lia
    refine ⟨_,rfl,_,rfl,(by show 1<=sizeLine; lia),fun T hT=>⟨l,T,_,_,rfl,rfl,Ac hT _ _ Kq,Ab,by rw [X8]; show ys.length + 1<=sizeLine; lia,fun N hN=>?_⟩⟩;have sN:=(Ac (o:=.lst [.str r.1]) hT).trans (Ac (o:=.lst (ys.map V.str ++ [.str r.1])) hN);have hNN:(upd (upd H2 T (.lst [.str r.1])) N (.lst (ys.map V.str ++ [.str r.1]))) N=some (.lst ((ys ++ [r.1]).map V.str)):=by rw [Yb]; exact Ab
    have Oe:=sN _ _ BB;have nND:N ≠ D:=fun z=>by
     rw [z] at hN;rw [Ac hT _ _ BB] at hN;cases hN
    show B _ _ (upd (upd H2 T (.lst [.str r.1])) N (.lst (ys.map V.str ++ [.str r.1])))
    generalize upd (upd H2 T (.lst [.str r.1])) N (.lst (ys.map V.str ++ [.str r.1]))=H3 at sN hNN Oe;refine hB _ _ _ Oe ⟨_,rfl,fun b o z=>by rw [Af (Ah z hD)]; exact sN _ _ (sb _ _ z),Ab,fun u hu=>?_,fun u hu=>?_,by rw [XI,al]; rfl⟩
    ·rcases Ye.mp hu with hu | hu
     ·exact nD u hu
     ·rw [XY.mp hu];intro z;cases z
      exact nND rfl
    ·rcases Ye.mp hu with hu | hu
     ·obtain ⟨l2,y2,e1,e2,e3⟩:=IS u hu;refine ⟨l2,y2,e1,?_,e3⟩;rw [Af (fun z=>nD u hu (by rw [e1,z]))];exact sN _ _ e2
     ·refine ⟨N,ys ++ [r.1],XY.mp hu,by rw [Af nND]; exact hNN,?_⟩;rw [tk];exact su.append (List.Sublist.refl _)
   ·rintro D Ar H2 acc hD ⟨v0,rfl,sb,BB,nD,IS,al⟩;refine ⟨F,D,_,_,rfl,rfl,sb _ _ hF,BB,by lia,fun F2 QD=>?_⟩;have s3:=sb.trans (Ac (o:=.lst (us ++ acc)) QD);refine ⟨F2,us ++ acc,_,_,rfl,sa.trans s3,Ab,?_,by rw [XI,al,ul,Nat.pow_succ]; lia,l0,by rw [Y8 (XX.mp VX).1]; exact VX,s3 _ _ T7⟩;refine EI.app ((sl.same s3).up ?_) (IS.same (Ac QD));rw [tk];exact List.sublist_append_left _ _
  ·rintro σ H2 ⟨F,us,v3,v4,rfl,sa,hF,sl,ul,l0,VX,T7⟩;rw [Q7,<-X8 (f:=(·.1)),Yq] at sl;have p2:us.length<=256:=by rw [ul,Q7]; exact Yo (aD (by decide) l8) (by decide)
   refine ⟨_,rfl,F,rfl,⟨_,AA.of hF⟩,?_⟩;refine Ds Bk (xs:=us) (fun D j Ar H3 acc=>∃ v0:Option V,Ar=[v0,some (.ref S)]/\Au H2 H3/\H3 D=some (.lst acc)/\(∀ v ∈ acc,∃ k:Int × List Str,So H3 v k/\k.2.Sublist (Bc.map (·.1))/\∃ l,H2 l=some (.lst (k.2.map V.str))/\∀ t,v=.ref t->H3 t=some (.tup [.int k.1,.ref l]))/\acc.length<=j/\(1<=j->acc ≠ []))
    (by lia) (fun D hD=>⟨_,rfl,Ac hD,Ab,(fun u hu=>nomatch hu),XD _,fun z=>absurd z (by lia)⟩)
    (fun D j Ar H3 acc hD ⟨v0,_,sb,BB,_,al,_⟩=>⟨AA.of (sb _ _ hF),BB,al⟩) ?_ ?_
   ·rintro D j Ar H3 acc x' B N hD ex ⟨v0,rfl,sb,BB,gd,al,ane⟩ hB hN;obtain ⟨l,ys,rfl,hl,su⟩:=sl x' (XG ex);have yl:ys.length<=8:=by
     have:=su.length_le;rw [X8] at this;lia
    have sab:=sa.trans sb;refine ⟨_,rfl,_,rfl,S,l,mo,ws,Bj.map (·.1),Bc.map (·.1),ys,rfl,sv.same sab,cs.cw.ok1.nd,by rw [X8]; have:=cs.l6; lia,AA.of (sb _ _ hl),fun y hy=>su.subset hy,by lia,fun H4 s4=>⟨_,rfl,?_⟩⟩;have sc:=sb.trans s4;have gd4:∀ {H5:Hp},Au H4 H5->∀ v ∈ acc,∃ k:Int × List Str,So H5 v k/\k.2.Sublist (Bc.map (·.1))/\∃ l,H2 l=some (.lst (k.2.map V.str))/\∀ t,v=.ref t->H5 t=some (.tup [.int k.1,.ref l]):=fun s5 v hv=>by
     obtain ⟨k,⟨t,l,e1,e2,e3⟩,e4,l',e5,e6⟩:=gd v hv;have Wy:=s4.trans s5;exact ⟨k,⟨t,l,e1,Wy _ _ e2,Wy _ _ e3⟩,e4,l',e5,fun t e=>Wy _ _ (e6 t e)⟩
    refine DI (fun hz=>?_) (fun hz=>?_)
    ·refine ⟨_,rfl,l,_,rfl,.inl (AA.of (sc _ _ hl)),_,_,rfl,rfl,_,rfl,(by show 2<=sizeLine; lia),fun T hT=>?_⟩;have s5:=Ac (o:=.tup [.int (0 - ((ys.map V.str).length:Int)),.ref l]) hT;have Ks:(upd H4 T (.tup [.int (0 - ((ys.map V.str).length:Int)),.ref l])) T=some (.tup [.int (0 - ((ys.map V.str).length:Int)),.ref l]):=Ab;have Lv:=s5 _ _ (s4 _ _ BB);have hl5:=s5 _ _ (sc _ _ hl);have V1:=gd4 s5;have sd:=sc.trans s5;show B _ _ (upd H4 T (.tup [.int (0 - ((ys.map V.str).length:Int)),.ref l]))
     generalize upd H4 T (.tup [.int (0 - ((ys.map V.str).length:Int)),.ref l])=H5 at Ks Lv hl5 V1 sd;have nlD:∀ l',H2 l'=some (.lst (ys.map V.str))->l' ≠ D:=fun l' z=>Ah z hD
     refine hB _ _ _ Lv ⟨_,rfl,fun b o z=>by rw [Af (Ah z hD)]; exact sd _ _ z,Ab,fun v hv=>?_,by rw [XI]; simp; lia,fun _ z=>by simp at z⟩;rcases Ye.mp hv with hv | hv
     ·obtain ⟨k,⟨t,l',e1,e2,e3⟩,e4,l2,e5,e6⟩:=V1 v hv;have e7:=e6 t e1;have tD:t ≠ D:=Ba e7 Lv (fun z=>by cases z);refine ⟨k,⟨t,l2,e1,by rw [Af tD]; exact e7,by rw [Af (Ah e5 hD)]; exact sd _ _ e5⟩,e4,l2,e5,fun t' e=>?_⟩;have:t'=t:=by rw [e1] at e; cases e; rfl
      rw [this,Af tD];exact e7
     ·rw [XY.mp hv];have tD:T ≠ D:=Ba Ks Lv (fun z=>by cases z);refine ⟨((0 - ((ys.map V.str).length:Int)),ys),⟨T,l,rfl,by rw [Af tD]; exact Ks,by rw [Af (Ah hl hD)]; exact hl5⟩,su,l,hl,fun t' e=>?_⟩;have:t'=T:=by cases e; rfl
      rw [this,Af tD];exact Ks
    ·refine hN _ _ ⟨_,rfl,sc,s4 _ _ BB,gd4 (Au.refl _),by lia,fun _=>?_⟩;by_cases j0:j=0
     ·subst j0;rw [VX] at ex;cases ex
      rw [T7] at hl;have ey:ys=[]:=by
       cases ys with
       | nil=>rfl
       | cons y ys=>cases hl
      subst ey;exact absurd (show Cp ws mo (Bj.map (·.1)) []=true by unfold Cp; rw [Y4]; intro s _; rfl) hz
     ·exact ane (by lia)
   ·rintro D Ar H3 acc hD ⟨v0,rfl,sb,BB,gd,al,ane⟩;have sz:=sa.trans sb;obtain ⟨kl,e1,e2,e3⟩:=Jy (R:=fun v (k:Int × List Str)=>So H3 v k/\k.2.Sublist (Bc.map (·.1))) acc fun v hv=>by
     obtain ⟨k,⟨t,l,a1,a2,a3⟩,a4,_⟩:=gd v hv;exact ⟨k,⟨t,l,a1,a2,a3⟩,a4⟩
    have an:=ane (by rw [ul]; exact Nat.pos_of_ne_zero (by simp));refine ⟨D,acc,kl,rfl,BB,e1,fun z=>an (Zu.mp (by rw [e1,z]; rfl)),fun i v k h1 h2=>(e2 i v k h1 h2).1,fun v k hk hv _=>?_⟩;obtain ⟨t,l,rfl,ht,hl⟩:=hv;obtain ⟨_,_,_,su⟩:=e3 k hk;exact ⟨t,_,_,.ref l,rfl,rfl,AM.of ht,rfl,ks _ l k.2 sz hl su⟩
end
section
variable {P:Program} {w:World} {K:XB} {mg:Str->Option Value} {base:Heap}
theorem CO (h_len:mg "len"=none)  {f:Addr} {fd:FuncData} (F:Fz K "_law_stands_apart" "_law_stands_apart" AX f fd):AJ P w K mg base BN 1 f fd ["_law_served_here","_law_some_here"] (ER K):=by
 refine F.ok CM (fun vs H Q E h=>?_) (fun cdv A outer s H vs Q E hr h=>?_)
 ·obtain ⟨S,L,mo,ws,ss,qs,ys,rfl,_⟩:=h;rfl
 ·obtain ⟨S,L,mo,ws,ss,qs,ys,rfl,sv,snd,sl,hL,yin,yl,k⟩:=h;have nd:=CM.nd;have hu:=Dy hr;have big:100000 < sizeLine:=by decide
  refine ⟨_,(Ae (Bv PassesOwn.never rfl (Ho (pv 0)) (Al (i:=2) nd rfl (Or.inr rfl))
  (Ak (CN (B5 PN (Ai Eb (by rfl) h_len PySem.boot_len (Aa (BQ (N:=["_law_place","_law_served_here","_law_site"]) (σ0:=fun σ=>[none,some 0,some 2].map fun j=>j.bind fun j=>(σ[j]?).join) rfl (AS.caught (by rfl) (by decide +kernel) rfl (by decide +kernel) (by intro y hy; simp only [XC,XZ,or_false] at hy; rcases hy with rfl | rfl <;> rfl)
   (by intro y hy e; simp only [XC,XZ,or_false] at hy; rcases hy with rfl | rfl | rfl | rfl <;> first | exact ⟨_,rfl⟩ | cases e)) (fun σ _=>AU.of [none,some 0,some 2] rfl (by
   intro i j x h1 h2;match i,h1,h2 with
   | 0,_,h2=>cases h2
   | 1,h1,h2=>cases h1; cases h2; exact ⟨rfl,.inl rfl,.inl rfl⟩
   | 2,h1,h2=>cases h1; cases h2; exact ⟨rfl,.inl rfl,.inl rfl⟩
   | n + 3,h1,_=>cases h1)) (By K rfl (pv 1))
   (fun s2 H C fp=>⟨(Al (i:=0) (show (["_law_place","_law_served_here","_law_site"]:List Str).Nodup by decide +kernel) rfl (Or.inl rfl)),(Hn (B5 (Tf K rfl) (pv 0) (Bt hu (pv 1) (pv 2) (fun _ _=>rfl)) (by rfl))),(pv 0)⟩)) Ad)) Ag (B9 _))
  (Ak (AH (Kg Dv)))
  B6)))
  (Ak (AH (Kg Dv)))),?_⟩
  obtain ⟨nv,hS,nk,nl⟩:=sv;have nvl:nv.length=ss.length:=by rw [<-nk,X8]
  refine ⟨_,rfl,S,_,rfl,.inl hS,fun o H1 fz=>?_⟩;have T9:=fz.at;have VU:∀ b u,b ≠ S->H b=some u->H1 b=some u:=fun b u hb z=>by rw [fz.ne hb]; exact z
  have back:∀ {H':Hp},Au H1 H'->Au H (upd H' S (.dK (sK nv))):=fun {H'} sa b u z=>by
   by_cases e:b=S
   ·subst e;rw [hS] at z;cases z
    exact Ab
   ·rw [Af e];exact sa _ _ (VU _ _ e z)
  have nf:∀ (ob:Obj) (w:HO),H S ≠ some (.frz ob w):=fun ob w z=>by rw [hS] at z; cases z
  have Uu:AA K H1 L (ys.map V.str):=by
   rcases hL with (h | ⟨ob,h⟩) | h
   ·exact .inl (.inl (VU _ _ (Ba h hS (fun z=>by cases z)) h))
   ·exact .inl (.inr ⟨ob,VU _ _ (Ba h hS (fun z=>by cases z)) h⟩)
   ·exact .inr h
  refine Ld (kvs:=sK nv) (fun i σ H'=>∃ v2:Option V,σ=[some (.ref S),some (.ref L),v2]/\Au H1 H'/\(ss.take i).all (fun s=>decide ((ys.filter (Bn ws mo s)).length<=1))=true)
   ⟨_,rfl,Au.refl _,rfl⟩ (fun i σ H' _ ⟨_,_,sa,_⟩=>sa _ _ T9) ?_ ?_
  ·rintro i ky v σ H' hv ⟨v2,rfl,sa,al⟩;obtain ⟨s,e1,rfl⟩:=Mw hv;have sm:=XG e1;have es:ss[i]? = some s:=by rw [<-nk,XU,e1]; rfl
   obtain ⟨l,e2,hl⟩:=nl (s,v) sm;have Sj:v=.ref l:=e2;subst Sj;have Vn:=sa _ _ (VU _ _ (Ba hl hS (fun z=>by cases z)) hl);refine ⟨_,rfl,L,rfl,⟨_,Uu.same5 sa⟩,?_⟩;refine Ds Bk (xs:=ys.map V.str) (fun D j Ar H2 acc=>∃ v0:Option V,Ar=[v0,some (.ref S),some (.str s)]/\Au H' H2/\H2 D=some (.lst acc)/\acc=((ys.take j).filter (Bn ws mo s)).map V.str/\acc.length<=j)
    (by rw [X8]; lia) (fun D hD=>⟨_,rfl,Ac hD,Ab,rfl,XD _⟩)
    (fun D j Ar H2 acc hD ⟨v0,_,sb,BB,_,al⟩=>⟨(Uu.same5 sa).same5 sb,BB,al⟩) ?_ ?_
   ·rintro D j Ar H2 acc x' B N hD ex ⟨v0,rfl,sb,BB,ea,al⟩ hB hN;obtain ⟨y,ey,rfl⟩:∃ y,ys[j]? = some y/\x'=.str y:=by
     rw [XU] at ex;cases z:ys[j]? with
     | none=>rw [z] at ex; cases ex
     | some y=>rw [z] at ex; exact ⟨y,rfl,(Yi.inj ex).symm⟩
    have dg:BU H2 S (.str s) (some (.ref l)):=.inl ⟨_,Sum.inr s,.inr ⟨o,sb _ _ (sa _ _ T9)⟩,rfl,(CV (nv:=nv) (by rw [nk]; exact snd) sm).symm⟩;refine ⟨_,rfl,_,rfl,_,rfl,S,_,rfl,dg,l,_,rfl,.inl (AA.of (sb _ _ Vn)),rfl,JH _,_,rfl,?_⟩;rw [KZ];have im:(decide (y ∈ qs.filter (Bn ws mo s)))=Bn ws mo s y:=by
     rw [YA,decide_eq_true_iff,YI];exact ⟨fun z=>z.2,fun z=>⟨yin y (XG ey),z⟩⟩
    rw [im];refine DI (fun hz=>?_) (fun hz=>?_)
    ·have Ig:Bn ws mo s y=true:=by simpa using hz
     refine ⟨_,rfl,?_⟩;refine hB _ _ _ BB ⟨_,rfl,Er sb hD,Ab,?_,by rw [XI]; simp; lia⟩;rw [ea,Yk,ey,YN,Yb];simp [Ig]
    ·have Ig:Bn ws mo s y=false:=by
      cases q:Bn ws mo s y with
      | false=>rfl
      | true=>rw [q] at hz; exact absurd rfl hz
     refine hN _ _ ⟨_,rfl,sb,BB,?_,by lia⟩;rw [ea,Yk,ey,YN,Yb];simp [Ig]
   ·rintro D Ar H2 acc hD ⟨v0,rfl,sb,BB,ea,al'⟩;rw [X8,Yq] at ea;have sab:=sa.trans sb;refine ⟨D,_,rfl,.inl (AA.of BB),_,_,rfl,rfl,_,rfl,?_⟩;rw [ea,X8];refine DI (fun hz=>?_) (fun hz=>?_)
    ·refine ⟨S,o,sK nv,sab _ _ T9,nf,?_⟩;have e:Cp ws mo ss ys=false:=by
      unfold Cp;rw [List.all_eq_false];refine ⟨s,XG es,?_⟩;have:=of_decide_eq_true hz;rw [decide_eq_true_iff];lia
     have q:=k _ (back sab);rw [e] at q;exact q
    ·refine ⟨_,rfl,sab,?_⟩;rw [Yk,es,List.all_append,al];have z:¬ ((1:Int) < ((ys.filter (Bn ws mo s)).length:Int)):=fun y=>hz (decide_eq_true y)
     simp;lia
  ·rintro σ H' ⟨v2,rfl,sa,al⟩;rw [BW,nvl,Yq] at al;refine ⟨S,o,sK nv,sa _ _ T9,nf,?_⟩;have q:=k _ (back sa);unfold Cp at q;rw [al] at q;exact q
end
section
variable {P:Program} {w:World} {K:XB} {mg:Str->Option Value} {base:Heap}
theorem HN {f:Addr} {fd:FuncData} (F:Fz K "neighbours" "neighbours" CS f fd):AJ P w K mg base BN 1 f fd ["web"] (OU K):=by
 refine F.ok Ff (fun vs H Q E h=>?_) (fun cdv A outer s H vs Q E hr h=>?_)
 ·obtain ⟨q,ps,ws,r,rfl,_⟩:=h;rfl
 ·obtain ⟨q,ps,ws,r,rfl,ok,k⟩:=h;obtain ⟨tp,tw,us,hq,htp,htw,hD⟩:=ok.web.ex;have nd:=Ff.nd;have hu:=Dy hr;have big:1000 < sizeLine:=by decide
  have l30:=ok.l30;have l64:=ok.l64;refine ⟨_,Ae (HI (pv 0) (BP K rfl rfl (Az (Al (i:=1) nd rfl (Or.inl rfl)) (Az (Al (i:=2) nd rfl (Or.inl rfl)) BO))))
   (Ae (Pt (ix:=3) (N:=["place"]) (σ0:=fun _=>[none]) nd rfl (Or.inl rfl) rfl (AS.plain (by decide +kernel) (by decide +kernel) rfl (by decide +kernel)) (fun σ _=>AU.none _ _ _ ["place"] σ) (Bs K rfl (pv 1))
    (fun s2 H C fp=>⟨Al (i:=0) (show (["place"]:List Str).Nodup by decide +kernel) rfl (Or.inl rfl),Br,pv 0,FI⟩))
   (Ae (Bv PassesOwn.never rfl (Bs K rfl (pv 2)) (BP K rfl rfl (Az (Al (i:=4) nd rfl (Or.inl rfl)) (Az (Al (i:=5) nd rfl (Or.inl rfl)) (Az (Al (i:=6) nd rfl (Or.inl rfl)) BO))))
    (Ae (Ck hu (Bt hu (pv 3) (pv 4) (fun _ _=>rfl)) (pv 5) (pv 6) rfl) (Ak (Ck hu (Bt hu (pv 3) (pv 5) (fun _ _=>rfl)) (pv 4) (pv 6) rfl))))
   (Ak (AH (pv 3))))),?_⟩
  refine ⟨_,rfl,q,_,rfl,AM.of hq,rfl,_,_,rfl,_,_,rfl,rfl,?_⟩;refine ⟨_,rfl,tp,rfl,⟨_,AM.of htp⟩,fun C hC=>⟨fun i m Ar H'=>m=ps.length - i/\i<=ps.length/\(∃ v,Ar=[v])/\∃ ds:List Addr,Au H H'/\ds.length=i/\ds.Nodup/\C ∉ ds/\(∀ d ∈ ds,H d=none/\H' d=some (.dK []))/\H' C=some (.dK (sK (ME (ps.take i) ds))),
   ⟨_,rfl,Yr _,⟨_,rfl⟩,[],Ac hC,rfl,.nil,by simp,by simp,Ab⟩,?_⟩⟩
  rintro i m Ar H' ⟨rfl,hi,⟨v,rfl⟩,ds,s1,dl,dn,dC,dH,Lw⟩;have LX:=s1 _ _ htp;by_cases B0:i < ps.length
  ·refine .inr ⟨⟨_,V.str ps[i],AM.of LX,by rw [XU,XA B0]; rfl⟩,?_⟩;rintro x H6 ⟨rfl,hx⟩;have LW:=hx _ (AM.of LX);rw [XU,XA B0] at LW;cases LW
   have tl:(ps.take i).length=i:=by rw [Yz]; lia
   have np:ps[i] ∉ (ME (ps.take i) ds).map (·.1):=by
    rw [HR (by lia)];intro hm;obtain ⟨j,hj,e⟩:=Yn hm;rw [Zf] at e;have:=GC ok.nd (XA (show j < ps.length by lia)) (by rw [XA B0,e]);lia
   refine ⟨_,rfl,fun d hd=>⟨_,Sum.inr ps[i],rfl,Ac hd _ _ Lw,?_,_,by lia,rfl,B0,⟨_,rfl⟩,ds ++ [d],fun b o z=>?_,by simp [dl],?_,?_,fun c hc=>?_,?_⟩⟩
   ·rw [BW];unfold ME;rw [X8,ZK];lia
   ·rw [Af (Ah z hC)];exact Ac hd _ _ (s1 _ _ z)
   ·refine Ze.mpr ⟨dn,Y5.mpr ⟨by simp,.nil⟩,fun a ha b hb=>?_⟩;have e:b=d:=by simpa using hb
    subst e;rintro rfl;rw [(dH _ ha).2] at hd;cases hd
   ·rw [Ye,not_or];refine ⟨dC,fun hm=>?_⟩;have e:C=d:=by simpa using hm
    rw [<-e,Lw] at hd;cases hd
   ·rcases Ye.mp hc with hc | hc
    ·refine ⟨(dH c hc).1,?_⟩;rw [Af (fun z=>dC (by rw [<-z]; exact hc))];exact Ac hd _ _ (dH c hc).2
    ·have e:c=d:=by simpa using hc
     subst e;refine ⟨s1.free hd,?_⟩;rw [Af (fun z=>by rw [z,Lw] at hd; cases hd)];exact Ab
   ·rw [Ab,Df np];have e1:ps.take (i + 1)=ps.take i ++ [ps[i]]:=by rw [Yk,XA B0]; rfl
    have e2:ME (ps.take (i + 1)) (ds ++ [d])=ME (ps.take i) ds ++ [(ps[i],.ref d)]:=by
     unfold ME;rw [e1,List.zip_append (by lia),Yb];rfl
    rw [e2]
  ·have e0:i=ps.length:=by lia
   subst e0;rw [Yq] at Lw;refine .inl ⟨⟨_,AM.of LX,by rw [X8]; exact XD _⟩,?_⟩;have NB0:NB H' C ps ds (K1 (ws.take 0)) 0:=⟨Lw,dl,dn,dC,fun j p d e1 e2=>⟨[],(dH d (XG e2)).2,XD _,fun y=>⟨fun z=>absurd z XZ,fun ⟨u,hu,_⟩=>absurd hu XZ⟩⟩⟩
   have Xx:QG H' ps ds (BL (ws.take 0)):=fun j p d nv e1 e2 hr y v hy=>by
    have:nv=[]:=Rd.inj hr (.inl (dH d (XG e2)).2);subst this;cases hy
   have hwl:us.length=ws.length:=by rw [Ir hD,X8]
   refine ⟨_,rfl,tw,rfl,⟨_,AM.of (s1 _ _ htw)⟩,Qp (xs:=us) (fun i σ H2=>(∃ v4 v5 v6,σ=[some (.ref q),some (.ref tp),some (.ref tw),some (.ref C),v4,v5,v6])/\Au H H2/\NB H2 C ps ds (K1 (ws.take i)) (2 * i)/\QG H2 ps ds (BL (ws.take i))) ⟨⟨_,_,_,rfl⟩,s1,NB0,Xx⟩ (fun i σ H2 _ hP=>AM.of (hP.2.1 _ _ htw)) (fun i x σ H2 hx hP rt bk=>?_) (fun σ H2 hP=>?_)⟩
   ·obtain ⟨⟨v4,v5,v6,rfl⟩,s2,nb,nbv⟩:=hP;obtain ⟨u,t,gu,rfl,ht⟩:=Iq hD hx;have R7:i < ws.length:=(XX.mp gu).1;have hu2:=ok.ends u (XG gu);refine ⟨t,_,rfl,AM.of (s2 _ _ ht),rfl,_,_,rfl,_,_,rfl,_,_,rfl,rfl,?_⟩;obtain ⟨j,d,nv,a1,a2,a3,a4,a5,a6⟩:=nb.get ok.nd hu2.1;obtain ⟨DE,b1,b2,b3⟩:=LC nv u.2.1 (.int u.2.2);have dH1:∀ c ∈ ds,H c=none:=fun c hc=>(dH c hc).1
    refine ⟨_,rfl,_,rfl,_,rfl,C,_,rfl,?_,_,rfl,d,_,rfl,Em.k (k:=Sum.inr u.2.1) a4 (by rw [BW]; lia),?_⟩
    ·have:=BU.k (k:=Sum.inr u.1) nb.top;rw [a3] at this;exact this
    rw [b1];have PR:=nb.put ok.nd a1 a2 a4 b2 b3 a6 a5;have UQ:=nbv.put ok.nd nb.nd a1 a2 a4 b1 (fun _ _ _=>Oj) (Lg gu);have s3:Au H (upd H2 d (.dK (sK DE))):=fun b o z=>by
     rw [Af (Ah z (dH1 d (XG a2)))];exact s2 _ _ z
    generalize upd H2 d (.dK (sK DE))=H3 at PR UQ s3 ⊢;obtain ⟨j',d',mv,c1,c2,c3,c4,c5,c6⟩:=PR.get ok.nd hu2.2;obtain ⟨mv',e1,e2,e3⟩:=LC mv u.1 (.int u.2.2);refine ⟨_,rfl,_,rfl,_,rfl,C,_,rfl,?_,_,rfl,d',_,rfl,Em.k (k:=Sum.inr u.1) c4 (by rw [BW]; lia),?_⟩
    ·have:=BU.k (k:=Sum.inr u.2.1) PR.top;rw [c3] at this;exact this
    rw [e1];have nb3:=PR.put ok.nd c1 c2 c4 e2 e3 c6 c5;have W8:=UQ.put (Ed':=BL (ws.take (i + 1))) ok.nd PR.nd c1 c2 c4 e1 (fun _ _ _ h=>h) (Lg gu).symm;refine ⟨⟨_,_,_,rfl⟩,fun b o z=>?_,nb3.mono (fun a b=>(Q3 gu a b).symm) (by lia),W8⟩;rw [Af (Ah z (dH1 d' (XG c2)))];exact s3 _ _ z
   ·obtain ⟨⟨v4,v5,v6,rfl⟩,s2,nb,nbv⟩:=hP;rw [hwl,Yq] at nb nbv;exact ⟨_,rfl,k H2 C ds s2 (nb.mono (fun _ _=>Iff.rfl) (by lia)) nbv hC fun d hd=>(dH d hd).1⟩
end
section
variable {P:Program} {w:World} {K:XB} {mg:Str->Option Value} {base:Heap}
structure NbF (K:XB) (mg:Str->Option Value) (f:Addr) (fd:FuncData):Prop where
 F:Fz K "neighbours" "neighbours" CS f fd
 mg:mg "neighbours"=some (.ref f)
 b:GU K fd ["web"] []
theorem LH {f fN:Addr} {fd fdN:FuncData} (NK:NbF K mg fN fdN) (hmi:mg "min"=none) (F:Fz K "nearest" "nearest" ET f fd):AJ P w K mg base BN 2 f fd ["web","starts"] (OT K):=by
 have GN:AJ P w K mg base BN 1 fN fdN ["web"] (OU K):=HN NK.F;refine F.ok HD (fun vs H Q E h=>?_) (fun cdv A outer s H vs Q E hr h=>?_)
 ·obtain ⟨q,st,ps,ss,ws,r,rfl,_⟩:=h;rfl
 ·obtain ⟨q,st,ps,ss,ws,r,rfl,ok,pos,uniq,hst,ssne,ssn,sssub,k⟩:=h;have nd:=HD.nd;have hu:=Dy hr;have Ih:=hr.units;have big:1000 < sizeLine:=by decide
  have l30:=ok.l30;have ssl:ss.length<=30:=by
   have:=Bh ssn sssub;lia
  refine ⟨_,Ae (Aq (i:=2) nd rfl (Or.inl rfl) (Aj GN hr (by rfl) NK.mg NK.F.kp NK.b .nil Aw (Aa (pv 0) Ad)))
   (Ae (Aq (i:=3) nd rfl (Or.inr rfl) (HK (N:=["start"]) (σ0:=fun _=>[none]) rfl (AS.plain (by decide +kernel) (by decide +kernel) rfl (by decide +kernel)) (fun σ _=>AU.none _ _ _ ["start"] σ) (PI.or (By K rfl (pv 1)) (Bs K rfl (pv 1)))
    (fun s2 H C fp=>⟨Al (i:=0) (show (["start"]:List Str).Nodup by decide +kernel) rfl (Or.inl rfl),Br,pv 0,Bm (Aa Ag (Aa (pv 0) Ad))⟩)))
   (Ae (Aq (i:=4) nd rfl (Or.inl rfl) FI)
   (Ae (Pr PassesOwn.never (Pp (pv 3) (fun _=>rfl))
    (Ae (HI (Kg (Ai (Iy rfl Ih) (by rfl) hmi PyProof.Rows.boot_min (Aa
      (BQ (N:=["name","reached"]) (σ0:=fun σ=>[none,some 3].map fun j=>j.bind fun j=>(σ[j]?).join) rfl
       (AS.caught (by rfl) (by decide +kernel) rfl (by decide +kernel) (by intro y hy; simp only [XC,XZ,or_false] at hy; rcases hy with rfl <;> rfl)
        (by intro y hy e; simp only [XC,XZ,or_false] at hy; rcases hy with rfl | rfl | rfl <;> first | exact ⟨_,rfl⟩ | cases e))
       (fun σ _=>AU.of [none,some 3] rfl (by
        intro i j x h1 h2;match i,h1,h2 with
        | 0,_,h2=>cases h2
        | 1,h1,h2=>cases h1; cases h2; exact ⟨rfl,.inl rfl,.inl rfl⟩
        | n + 2,h1,_=>cases h1)) (Ho (pv 3))
       (fun s2 H C fp=>⟨Al (i:=0) (show (["name","reached"]:List Str).Nodup by decide +kernel) rfl (Or.inl rfl),Br,Bm (Aa (Bt hu (pv 1) (pv 0) (fun _ _=>rfl)) (Aa (pv 0) Ad))⟩)) Ad)))
      (BP K rfl rfl (Az (BP K rfl rfl (Az (Al (i:=5) nd rfl (Or.inl rfl)) (Az (Al (i:=6) nd rfl (Or.inl rfl)) BO))) (Az (Al (i:=7) nd rfl (Or.inl rfl)) BO))))
    (Ae (Rc (pv 3) (pv 7))
    (Ae (Ck hu (pv 4) (pv 7) (Bm (Aa (pv 5) (Aa (pv 6) Ad))) rfl)
    (Ak (Bv PassesOwn.never rfl (Ho (Bt hu (pv 2) (pv 7) (fun _ _=>rfl))) (Al (i:=8) nd rfl (Or.inl rfl))
     (Ak (CN (HG (Jz hu (pv 8) (pv 4)))
      (Ae (Aq (i:=9) nd rfl (Or.inl rfl) (Bm (Aa (As Be (pv 5) (Bt hu (Bt hu (pv 2) (pv 7) (fun _ _=>rfl)) (pv 8) (fun _ _=>rfl))) (Aa (pv 6) Ad))))
      (Ak (Ck hu (pv 3) (pv 8) (Ai (Ja rfl Ih) (by rfl) hmi PyProof.Rows.boot_min (Aa (pv 9) (Aa (Py hu (pv 3) (pv 8) (pv 9) ⟨rfl,rfl,rfl,rfl⟩) Ad))) rfl))) B6))))))))
   (Ak (AH (pv 4)))))),?_⟩
  refine ⟨_,rfl,q,ps,ws,r,rfl,ok,fun H1 B ds s1 nb nbv hB hds=>?_⟩;have nbAt:∀ a,a ∈ ds->∃ u,H1 a=some u:=fun a hm=>by
   obtain ⟨i,hi,e⟩:=Yn hm;have R7:i < ps.length:=by rw [<-nb.len]; exact hi
   obtain ⟨nv,a1,_⟩:=nb.inner i ps[i] a (XA R7) (by rw [XA hi,e]);exact ⟨_,a1⟩
  have RC:=nb.top;rcases hst with hst | hst
  case' inl=>
   refine .inl ⟨_,rfl,st,rfl,⟨_,AA.of (s1 _ _ hst)⟩,fun RA hRA=>?_⟩
  case' inr=>
   refine .inr ⟨_,rfl,st,rfl,⟨_,AM.of (s1 _ _ hst)⟩,fun RA hRA=>?_⟩
  all_goals
   refine ⟨fun i m Ar H'=>m=ss.length - i/\i<=ss.length/\(∃ v,Ar=[v])/\∃ nv:List (Str × V),Au H1 H'/\H' RA=some (.dK (sK nv))/\nv.map (·.1)=ss.take i/\∀ y v,(y,v) ∈ nv->JR H' v (0,y),
    ⟨_,rfl,Yr _,⟨_,rfl⟩,[],Ac hRA,Ab,rfl,fun y v hy=>absurd hy XZ⟩,?_⟩
   rintro i m Ar H' ⟨rfl,hi,⟨v,rfl⟩,nv,s2,Lw,nk,np⟩;have LY:=s2 _ _ (s1 _ _ hst);by_cases B0:i < ss.length
   ·refine .inr ⟨⟨_,V.str ss[i],by first | exact AA.of LY | exact AM.of LY,by rw [XU,XA B0]; rfl⟩,?_⟩;rintro x H6 ⟨rfl,hx⟩;have LW:=hx _ (by first | exact AA.of LY | exact AM.of LY);rw [XU,XA B0] at LW;cases LW
    have nn:ss[i] ∉ nv.map (·.1):=by
     rw [nk];intro hm;obtain ⟨j,hj,e⟩:=Yn hm;rw [Yz] at hj;rw [Zf] at e;have:=GC ssn (XA (show j < ss.length by lia)) (by rw [XA B0,e]);lia
    have nl:nv.length=i:=by
     have:=congrArg Zq nk;rw [X8,Yz] at this;lia
    refine ⟨_,rfl,_,rfl,(by show 2<=sizeLine; lia),fun t ht=>⟨_,Sum.inr ss[i],rfl,Ac ht _ _ Lw,by rw [BW]; lia,_,by lia,rfl,B0,⟨_,rfl⟩,nv ++ [(ss[i],.ref t)],fun b o z=>?_,by rw [Ab,Df nn],?_,fun y v hy=>?_⟩⟩
    ·rw [Af (Ah z hRA)];exact Ac ht _ _ (s2 _ _ z)
    ·rw [Yb,nk,Yk,XA B0]; rfl
    ·have tk:∀ b xs,(upd H6 t (.tup [.int 0,.str ss[i]])) b=some (.tup xs)->(upd (upd H6 t (.tup [.int 0,.str ss[i]])) RA (.dK (BC (sK nv) (Sum.inr ss[i]:AO) (.ref t)))) b=some (.tup xs):=fun b xs z=>by
      rw [Af (Ba z (Ac ht _ _ Lw) (by intro z; cases z))]; exact z
     rcases Ye.mp hy with hy | hy
     ·exact (np y v hy).same fun b xs z=>tk b xs (Ac ht _ _ z)
     ·simp only [XY,Prod.mk.injEq] at hy;obtain ⟨rfl,rfl⟩:=hy;exact ⟨t,rfl,tk _ _ Ab⟩
   ·have e0:i=ss.length:=by lia
    subst e0;rw [Yq] at nk;refine .inl ⟨⟨_,by first | exact AA.of LY | exact AM.of LY,by rw [X8]; exact XD _⟩,fun SA hSA=>?_⟩;have sS:=Ac (o:=.dK []) hSA;have aR:RA ∉ ds/\RA ≠ B/\RA ≠ SA/\H RA=none:=⟨(fun hm=>by obtain ⟨u,e⟩:=nbAt RA hm; rw [hRA] at e; cases e),(fun z=>by rw [z,RC] at hRA; cases hRA),(fun z=>by rw [<-z,Lw] at hSA; cases hSA),s1.free hRA⟩
    have aS:SA ∉ ds/\SA ≠ B/\SA ≠ RA/\H SA=none:=⟨(fun hm=>by obtain ⟨u,e⟩:=nbAt SA hm; rw [s2 _ _ e] at hSA; cases hSA),(fun z=>by rw [z,s2 _ _ RC] at hSA; cases hSA),(fun z=>aR.2.2.1 z.symm),(s1.trans s2).free hSA⟩
    have s3:Au H1 (upd H' SA (.dK [])):=s2.trans sS;have N0:NI H (upd H' SA (.dK [])) ps ws B RA SA ds nv [] (fun _ _=>False) (fun y p=>y ∈ ss/\p=(0,y)):=by
     refine ⟨s1.trans s3,nb.r.same s3,nbv.of nb.r (fun d _ nv z=>by rcases z with a | ⟨o,a⟩; exact .inl (s3 _ _ a); exact .inr ⟨o,s3 _ _ a⟩),sS _ _ Lw,Ab,⟨by rw [nk]; exact ssn,fun y v hy=>⟨(0,y),(np y v hy).same fun b xs z=>sS _ _ z,by rw [<-nk]; exact Ya.mpr ⟨_,hy,rfl⟩,rfl⟩,fun y p hp=>?_⟩,⟨.nil,fun y v hy=>absurd hy XZ,fun y p hp=>hp.elim⟩,fun y hy=>sssub y (by rw [<-nk]; exact hy),fun y hy=>absurd hy XZ⟩;obtain ⟨hy,rfl⟩:=hp;rw [<-nk] at hy;obtain ⟨⟨z,v⟩,a,b⟩:=Ya.mp hy;have b':z=y:=b;subst b';exact ⟨v,a,(np z v a).same fun b xs z=>sS _ _ z⟩
    have D0:RS ws ss (fun _ _=>False) (fun y p=>y ∈ ss/\p=(0,y)):=⟨fun _ _ h=>h.elim,fun y p ⟨h1,h2⟩=>by subst h2; exact ⟨h1,.nil y⟩,fun _ _ _ _ h=>h.elim,fun s hs=>.inr ⟨(0,s),⟨hs,rfl⟩,Dw.refl _⟩⟩
    clear Lw LY np;generalize upd H' SA (.dK [])=H5 at N0 ⊢;refine ⟨fun m σ H2=>∃ nvR nvS S R v5 v6 v7 v8 v9,m=ps.length - nvS.length/\σ=[some (.ref q),some (.ref st),some (.ref B),some (.ref RA),some (.ref SA),v5,v6,v7,v8,v9]/\NI H H2 ps ws B RA SA ds nvR nvS S R/\RS ws ss S R/\∀ y p,R y p->∀ q,¬ S y q,
     ⟨_,nv,[],_,_,_,_,_,_,_,rfl,rfl,N0,D0,fun _ _ _ _ h=>h⟩,?_⟩
    clear N0 D0 hSA sS s3 s2 nk;rintro m σ H2 ⟨nvR,nvS,S,R,v5,v6,v7,v8,v9,rfl,rfl,N,Dj,dis⟩;refine ⟨_,rfl,_,.inr (.inr ⟨_,N.dR,rfl⟩),?_⟩;by_cases hne:nvR=[]
    ·subst hne;refine Ej ?_;have all:∀ x ∈ ps,∃ q,S x q:=Dj.done (fun y p h=>by obtain ⟨v,a,_⟩:=N.pR.2.2 y p h; cases a) ssne ok.con (fun T x hx tx cl=>ok.con (fun z=>T z->T r) (fun h=>h) (fun a b hab h tb=>h (cl b a hab.symm tb)) x hx tx) sssub;refine ⟨_,rfl,k H2 SA nvS N.same aS.2.2.2 N.dS N.pS.1 (fun x=>⟨N.subS x,fun hx=>N.inS.mpr (all x hx)⟩) fun y v hy=>?_⟩;obtain ⟨p,h1,h2⟩:=N.pS.2.1 y v hy;exact ⟨p,h1,Dj.near y p h2⟩
    ·have WO:(!(sK nvR).isEmpty)=true:=by cases nvR with
      | nil=>exact absurd rfl hne
      | cons=>rfl
     rw [WO];refine FP ?_;obtain ⟨NN,hNN⟩:∃ NN:St->Hp->Prop,NN=fun Ar H'=>∃ m',m' < ps.length - nvS.length/\∃ nvR nvS S R v5 v6 v7 v8 v9,m'=ps.length - nvS.length/\Ar=[some (.ref q),some (.ref st),some (.ref B),some (.ref RA),some (.ref SA),v5,v6,v7,v8,v9]/\NI H H' ps ws B RA SA ds nvR nvS S R/\RS ws ss S R/\∀ y p,R y p->∀ q,¬ S y q:=⟨_,rfl⟩
     refine ⟨NN,fun Ar H' z=>by rw [hNN] at z; exact z,?_⟩;have lR:=N.lenR;have lS:=N.lenS;refine ⟨_,rfl,RA,_,rfl,.inl N.dR,fun o H3 fz C hC=>?_⟩;have fz':H3=upd H2 RA (.frz o (.dK (sK nvR))):=by
      rcases fz with ⟨_,e⟩ | ⟨e,_⟩
      ·exact e
      ·rw [N.dR] at e; cases e
     have hR3:=fz.at;have Wu:∀ b xs,H2 b=some (.tup xs)->H3 b=some (.tup xs):=fun b xs z=>by
      rw [fz.ne (Ba z N.dR (by intro z; cases z))]; exact z
     refine ⟨fun i m Ar H'=>m=nvR.length - i/\i<=nvR.length/\(∃ v,Ar=[v,some (.ref RA)])/\∃ (acc:List V) (ks:List ((Int × Str) × Str)),Au H3 H'/\H' C=some (.lst acc)/\acc.length=i/\ks.length=i/\(∀ (j:Nat) v k,acc[j]? = some v->ks[j]? = some k->Sn H' v k)/\(∀ (j:Nat) y v,j < i->nvR[j]? = some (y,v)->∃ p,JR H3 v p/\ks[j]? = some (p,y)),
      ⟨_,rfl,Yr _,⟨_,rfl⟩,[],[],Ac hC,Ab,rfl,rfl,fun j v k h=>(by simp at h),fun j y v hj=>absurd hj (YZ _)⟩,?_⟩
     rintro i m Ar H' ⟨rfl,hi,⟨v,rfl⟩,acc,ks,s4,Lw,al,kl,hky,hks⟩;have Vr:=s4 _ _ hR3;have nCR:RA ≠ C:=Ah hR3 hC;by_cases B0:i < nvR.length
     ·refine .inr ⟨⟨Vr,by rw [BW]; exact B0⟩,?_⟩;rintro z H6 ⟨rfl,key,v2,ek,rfl⟩;obtain ⟨y,ey,rfl⟩:=Mw ek;have hm:=XG ey;obtain ⟨p,hp,hRp⟩:=N.pR.2.1 y v2 hm;have hp3:=hp.same Wu;refine ⟨_,rfl,_,rfl,RA,v2,rfl,.inl ⟨_,Sum.inr y,.inr ⟨o,Vr⟩,rfl,(CV N.pR.1 hm).symm⟩,_,rfl,(by show 2<=sizeLine; lia),fun t ht=>?_⟩;have st:=Ac (o:=.tup [v2,.str y]) ht;have Wc:=st _ _ Lw;have tC:∀ b xs,(upd H6 t (.tup [v2,.str y])) b=some (.tup xs)->(upd (upd H6 t (.tup [v2,.str y])) C (.lst (acc ++ [.ref t]))) b=some (.tup xs):=fun b xs z=>by
       rw [Af (Ba z Wc (by intro z; cases z))]; exact z
      refine ⟨acc,Wc,by lia,_,by lia,rfl,B0,⟨_,rfl⟩,acc ++ [.ref t],ks ++ [(p,y)],fun b u z=>?_,Ab,by simp [al],by simp [kl],fun j v k h1 h2=>?_,fun j y' v' hj h=>?_⟩
      ·rw [Af (Ah z hC)];exact st _ _ (s4 _ _ z)
      ·by_cases hj:j < acc.length
       ·rw [Y8 hj] at h1;rw [Y8 (by lia)] at h2;exact (hky j v k h1 h2).same fun b xs z=>tC b xs (st _ _ z)
       ·rw [YD (by lia)] at h1;rw [YD (by lia)] at h2;have j0:j - acc.length=0:=by
         have:=(XX.mp h1).1;simp at this;lia
        have j1:j - ks.length=0:=by lia
        rw [j0] at h1;rw [j1] at h2;cases h1
        cases h2
        obtain ⟨t2,e2,g2⟩:=hp3;subst e2;exact ⟨t,t2,rfl,tC _ _ Ab,t2,rfl,tC _ _ (st _ _ (s4 _ _ g2))⟩
      ·by_cases ej:j=i
       ·subst ej;rw [ey] at h;cases h
        exact ⟨p,hp3,by rw [YD (by lia),kl,ae]; rfl⟩
       ·obtain ⟨p',a1,a2⟩:=hks j y' v' (by lia) h;exact ⟨p',a1,by rw [Y8 (by lia)]; exact a2⟩
     ·have e0:i=nvR.length:=by lia
      subst e0;have ksne:ks ≠ []:=by
       intro z;rw [z] at kl;exact hne (Zu.mp kl.symm)
      refine .inl ⟨⟨Vr,by rw [BW]; exact XD _⟩,C,acc,ks,rfl,Lw,by lia,ksne,hky,fun v kk hk hKy hmin=>?_⟩;refine ⟨RA,o,sK nvR,Vr,fun ob w z=>?_,?_⟩
      ·have z':H RA=some (.frz ob w):=z;rw [aR.2.2.2] at z';cases z'
      obtain ⟨⟨d0,Hz⟩,here⟩:=kk;obtain ⟨t,t2,rfl,ht,t2',e2,Fo⟩:=hKy;cases e2
      have t45:∀ b xs,H' b=some (.tup xs)->(upd H' RA (.dK (sK nvR))) b=some (.tup xs):=fun b xs z=>by
       rw [Af (Ba z Vr (by intro z; cases z))]; exact z
      have s25:Au H2 (upd H' RA (.dK (sK nvR))):=fun b u z=>by
       by_cases eb:b=RA
       ·subst eb;rw [N.dR] at z;cases z
        exact Ab
       ·rw [Af eb];refine s4 _ _ ?_;rw [fz.ne eb]; exact z
      have N5:=N.grow s25;have ht5:=t45 _ _ ht;have Vf:=t45 _ _ Fo;have inR:∀ j y p,ks[j]? = some (p,y)->R y p:=fun j y p h=>by
       have hj:j < nvR.length:=by
        have:=(XX.mp h).1;lia
       obtain ⟨p',a1,a2⟩:=hks j nvR[j].1 nvR[j].2 hj (XA hj);rw [h] at a2;cases a2
       obtain ⟨p'',b1,b2⟩:=N.pR.2.1 _ _ (Y6 hj);rw [a1.fn (b1.same Wu)];exact b2
      have hRh:R here (d0,Hz):=by
       obtain ⟨j,hj,ej⟩:=Yn hk;exact inR j here (d0,Hz) (by rw [XA hj,ej])
      have least:∀ z p,R z p->Dw (d0,Hz) p:=fun z p hz=>by
       obtain ⟨v,a,b⟩:=N.pR.2.2 z p hz;obtain ⟨j,hj,ej⟩:=Yn a;obtain ⟨p',a1,a2⟩:=hks j z v hj (by rw [XA hj,ej]);have:=a1.fn (b.same Wu);subst this;exact hmin _ (XG a2)
      have nSh:∀ q,¬ S here q:=dis here _ hRh;have nearH:Mj ws ss here (d0,Hz):=Dj.pick pos hRh nSh least;refine ⟨t,_,rfl,AM.of ht5,rfl,_,_,rfl,t2,_,rfl,AM.of Vf,rfl,_,_,rfl,_,_,rfl,rfl,_,_,rfl,rfl,?_⟩;generalize upd H' RA (.dK (sK nvR))=H5 at N5 ht5 Vf s25 ⊢;have hin:here ∈ nvR.map (·.1):=N5.inR.mpr ⟨_,hRh⟩;have hps:here ∈ ps:=N5.subR here hin;refine ⟨_,rfl,_,rfl,RA,_,Sum.inr here,rfl,N5.dR,rfl,by rw [Gz,decide_eq_true hin],?_⟩;rw [QX];have N6:=N5.setR aR (N5.pR.drop here) (fun y hy=>by
       obtain ⟨e,he,ee⟩:=Ya.mp hy;exact N5.subR y (Ya.mpr ⟨e,(YI.mp he).1,ee⟩))
      generalize upd H5 RA (.dK (sK (nvR.filter fun q=>decide (q.1 ≠ here))))=H6 at N6 ⊢;have nhS:here ∉ nvS.map (·.1):=fun h=>by
       obtain ⟨q,hq⟩:=N6.inS.mp h;exact nSh q hq
      refine ⟨_,rfl,_,rfl,(by show 2<=sizeLine; lia),fun t3 WJ=>?_⟩;have N7:=N6.grow (Ac (o:=.tup [.int d0,.str Hz]) WJ);have Ve:(upd H6 t3 (.tup [.int d0,.str Hz])) t3=some (.tup [.int d0,.str Hz]):=Ab;generalize upd H6 t3 (.tup [.int d0,.str Hz])=H7 at N7 Ve ⊢;refine ⟨_,rfl,_,rfl,SA,_,rfl,Em.k (k:=Sum.inr here) N7.dS (by rw [BW]; have:=N7.lenS; lia),?_⟩;rw [Df nhS];have N8:=N7.setS aS (N7.pS.put (Df nhS) (p:=(d0,Hz)) ⟨t3,rfl,Ve⟩) (fun y hy=>by
       rw [Yb] at hy;rcases Ye.mp hy with hy | hy
       ·exact N7.subS y hy
       ·have:y=here:=by simpa using hy
        rw [this]; exact hps)
      generalize upd H7 SA (.dK (sK (nvS ++ [(here,.ref t3)])))=H8 at N8 ⊢;obtain ⟨S',Hf⟩:∃ S':Str->Int × Str->Prop,S'=fun z q=>(z=here/\q=(d0,Hz))\/(z ≠ here/\S z q):=⟨_,rfl⟩
      obtain ⟨NM,hnvS⟩:∃ NM:List (Str × V),NM=nvS ++ [(here,.ref t3)]:=⟨_,rfl⟩
      rw [<-Hf,<-hnvS] at N8;have nSl:NM.length=nvS.length + 1:=by rw [hnvS]; simp
      have nearS:∀ y q,S' y q->Mj ws ss y q:=fun y q h=>by
       rw [Hf] at h;rcases h with ⟨rfl,rfl⟩ | ⟨_,h⟩
       ·exact nearH
       ·exact Dj.near y q h
      have hSh:S' here (d0,Hz):=by rw [Hf]; exact .inl ⟨rfl,rfl⟩
      have toS:∀ y q,S y q->∃ q',S' y q':=fun y q h=>by
       by_cases e:y=here
       ·rw [e]; exact ⟨_,hSh⟩
       ·exact ⟨q,by rw [Hf]; exact .inr ⟨e,h⟩⟩
      obtain ⟨i0,d,Rq,a1,a2,a3,a4,a5⟩:=N8.nr.get ok.nd hps;have dm:=XG a2;refine ⟨_,rfl,_,rfl,B,.ref d,rfl,?_,d,sK Rq,rfl,a4,fun o9 H9 fz9=>?_⟩
      ·have:=BU.k (k:=Sum.inr here) N8.nr.top;rw [a3] at this;exact this
      have N9:=N8.frz aR.1 aS.1 hds a1 a2 fz9 a5;obtain ⟨Pv,hPv⟩:∃ Pv:Nat->St->Hp->Prop,Pv=fun i σ H'=>∃ GY R' v8 v9,σ=[some (.ref q),some (.ref st),some (.ref B),some (.ref RA),some (.ref SA),some (.int d0),some (.str Hz),some (.str here),v8,v9]/\NI H H' ps ws B RA SA ds GY NM S' R'/\H' d=some (.frz o9 (.dK (sK Rq))) /\
        (∀ y p,R' y p->p.2 ∈ ss/\Bl ws p.2 y p.1)/\(∀ s ∈ ss,(∃ q,S' s q)\/∃ q,R' s q/\Dw q (0,s)) /\
        (∀ x q y l,S' x q->BL ws x y l->(∃ q',S' y q')\/(∃ q',R' y q'/\Dw q' (q.1 + l,q.2))\/(x=here/\∀ (j:Nat) (v:V),j < i->Rq[j]? ≠ some (y,v)))/\(∀ y p,R' y p->∀ q,¬ S' y q):=⟨_,rfl⟩
      refine Og (a:=d) (o:=o9) (kvs:=sK Rq) Pv ?_ (fun i σ H' _ hP=>by rw [hPv] at hP; obtain ⟨_,_,_,_,_,_,z,_⟩:=hP; exact z) (fun i key v σ H' hx hP rt bk=>?_) (fun σ H' hP=>?_)
      ·rw [hPv];refine ⟨_,_,_,_,rfl,N9,fz9.at,fun y p h=>Dj.reach y p h.2,fun s hs=>?_,fun x qq y l hx he=>?_,fun y p h qq hq=>?_⟩
       ·rcases Dj.start s hs with ⟨qq,h⟩ | ⟨qq,h,le⟩
        ·exact .inl (toS s qq h)
        ·by_cases e:s=here
         ·rw [e]; exact .inl ⟨_,hSh⟩
         ·exact .inr ⟨qq,⟨e,h⟩,le⟩
       ·by_cases ex:x=here
        ·exact .inr (.inr ⟨ex,fun j v hj=>absurd hj (YZ _)⟩)
        ·rw [Hf] at hx;rcases hx with ⟨h,_⟩ | ⟨_,hx⟩
         ·exact absurd h ex
         ·rcases Dj.relax x qq y l hx he with ⟨q',h⟩ | ⟨q',h,le⟩
          ·exact .inl (toS y q' h)
          ·by_cases e:y=here
           ·rw [e]; exact .inl ⟨_,hSh⟩
           ·exact .inr (.inl ⟨q',⟨e,h⟩,le⟩)
       ·rw [Hf] at hq;rcases hq with ⟨h2,_⟩ | ⟨_,h2⟩
        ·exact h.1 h2
        ·exact dis y p h.2 qq h2
      ·rw [hPv] at hP;obtain ⟨GY,R',v8,v9,rfl,QH,hf,rch,sta,rel,RJ⟩:=hP;obtain ⟨y,e1,rfl⟩:=Mw hx;have hym:=XG e1;obtain ⟨w0,hw0⟩:∃ w0,Bi (sK Rq) (Sum.inr y:AO)=some w0:=by
        have:(Bi (sK Rq) (Sum.inr y:AO)).isSome=true:=by rw [Gz,decide_eq_true (Ya.mpr ⟨_,hym,rfl⟩)]
        exact Zp.mp this
       obtain ⟨l,rfl,ed⟩:=QH.nbv i0 here d Rq a1 a2 (.inr ⟨o9,hf⟩) y w0 (Jv hw0);have hyp:y ∈ ps:=by
        obtain ⟨u,hu,e⟩:=ed.adj;obtain ⟨q1,q2⟩:=ok.ends u hu;rcases e with ⟨_,e⟩ | ⟨e,_⟩
        ·rw [<-e]; exact q2
        ·rw [<-e]; exact q1
       refine ⟨_,rfl,_,rfl,SA,_,rfl,BU.k (k:=Sum.inr y) QH.dS,_,rfl,?_⟩;rw [Gz];have step:∀ {z:Str},(∀ (j:Nat) (v:V),j < i->Rq[j]? ≠ some (z,v))->z ≠ y->∀ (j:Nat) (v:V),j < i + 1->Rq[j]? ≠ some (z,v):=fun h2 hz j v hj e=>by
        by_cases ej:j=i
        ·subst ej;rw [e1] at e;cases e
         exact hz rfl
        ·exact h2 j v (by lia) e
       by_cases hy:y ∈ NM.map (·.1)
       ·rw [decide_eq_true hy];refine Ej ?_;show Pv (i + 1) _ _
        rw [hPv];refine ⟨GY,R',_,_,rfl,QH,hf,rch,sta,fun x qq z l' LW he=>?_,RJ⟩;rcases rel x qq z l' LW he with h | h | ⟨h1,h2⟩
        ·exact .inl h
        ·exact .inr (.inl h)
        ·by_cases ez:z=y
         ·rw [ez]; exact .inl (QH.inS.mp hy)
         ·exact .inr (.inr ⟨h1,step h2 ez⟩)
       ·rw [decide_eq_false hy];refine FP ?_;have nSy:∀ qq,¬ S' y qq:=fun qq h=>hy (QH.inS.mpr ⟨qq,h⟩)
        have dgT:BU H' B (.str here) (some (.ref d)):=by
         have:=BU.k (k:=Sum.inr here) QH.nr.top;rw [a3] at this;exact this
        refine ⟨_,rfl,_,rfl,_,rfl,B,.ref d,rfl,dgT,_,rfl,d,.int l,rfl,.inl ⟨_,Sum.inr y,.inr ⟨o9,hf⟩,rfl,hw0.symm⟩,_,_,rfl,rfl,_,rfl,(by show 2<=sizeLine; lia),fun t4 ht4=>?_⟩;have s4':=Ac (o:=.tup [.int (d0 + l),.str Hz]) ht4;have O7:=QH.grow s4';have Vo:=s4' _ _ hf;have Vd:(upd H' t4 (.tup [.int (d0 + l),.str Hz])) t4=some (.tup [.int (d0 + l),.str Hz]):=Ab;generalize upd H' t4 (.tup [.int (d0 + l),.str Hz])=Lq at O7 Vo Vd ⊢;have cand:JR Lq (.ref t4) (d0 + l,Hz):=⟨t4,rfl,Vd⟩
        have candW:Hz ∈ ss/\Bl ws Hz y (d0 + l):=⟨nearH.1.1,nearH.1.2.snoc ed⟩
        have lR':=O7.lenR;have fin:∀ (x:V) (pn:Int × Str),JR Lq x pn->Dw pn (d0 + l,Hz)->(∀ old,R' y old->Dw pn old)->(pn.2 ∈ ss/\Bl ws pn.2 y pn.1) ->
          Pv (i + 1) [some (.ref q),some (.ref st),some (.ref B),some (.ref RA),some (.ref SA),some (.int d0),some (.str Hz),some (.str here),some (.str y),some (.ref t4)] (upd Lq RA (.dK (BC (sK GY) (Sum.inr y:AO) x))):=by
         intro x pn hx1 hle hold hW;obtain ⟨nv2,p1,p2,p3⟩:=LC GY y x;rw [p1,hPv];have N12:=O7.setR aR (O7.pR.put p1 hx1) (fun z hz=>by
          rcases (p3 z).mp hz with hz | rfl
          ·exact O7.subR z hz
          ·exact hyp)
         refine ⟨nv2,_,_,_,rfl,N12,?_,fun z p hz=>?_,fun s hs=>?_,fun x' qq z l' LW he=>?_,fun z p hz qq hq=>?_⟩
         ·rw [Af (fun z=>aR.1 (by rw [<-z]; exact dm))]; exact Vo
         ·rcases hz with ⟨rfl,rfl⟩ | ⟨_,hz⟩
          ·exact hW
          ·exact rch z p hz
         ·rcases sta s hs with h | ⟨qq,h,le⟩
          ·exact .inl h
          ·by_cases e:s=y
           ·subst e;exact .inr ⟨pn,.inl ⟨rfl,rfl⟩,(hold qq h).trans le⟩
           ·exact .inr ⟨qq,.inr ⟨e,h⟩,le⟩
         ·rcases rel x' qq z l' LW he with h | ⟨q',h,le⟩ | ⟨h1,h2⟩
          ·exact .inl h
          ·by_cases e:z=y
           ·subst e;exact .inr (.inl ⟨pn,.inl ⟨rfl,rfl⟩,(hold q' h).trans le⟩)
           ·exact .inr (.inl ⟨q',.inr ⟨e,h⟩,le⟩)
          ·by_cases e:z=y
           ·subst e;subst h1;have e2:=uniq _ _ _ _ he ed;subst e2;have e3:=O7.pS.fn LW hSh;subst e3;exact .inr (.inl ⟨pn,.inl ⟨rfl,rfl⟩,hle⟩)
           ·exact .inr (.inr ⟨h1,step h2 e⟩)
         ·rcases hz with ⟨rfl,rfl⟩ | ⟨_,hz⟩
          ·exact nSy qq hq
          ·exact RJ z p hz qq hq
        have put:∀ {x:V},Em Lq RA (.str y) x (upd Lq RA (.dK (BC (sK GY) (Sum.inr y:AO) x))):=fun {x}=>Em.k (k:=Sum.inr y) O7.dR (by rw [BW]; lia)
        obtain ⟨w1,pq,ew,hw1,hold,hWq⟩:∃ w1 pq,(Bi (sK GY) (Sum.inr y:AO)).getD (.ref t4)=w1/\JR Lq w1 pq/\(∀ old,R' y old->Dw pq old)/\(pq.2 ∈ ss/\Bl ws pq.2 y pq.1):=by
         cases hv:Bi (sK GY) (Sum.inr y:AO) with
         | none=>
          refine ⟨_,_,rfl,cand,fun old h=>?_,candW⟩;have h1:y ∈ GY.map (·.1):=O7.inR.mpr ⟨old,h⟩;have h2:(Bi (sK GY) (Sum.inr y:AO)).isSome=true:=by rw [Gz,decide_eq_true h1]
          rw [hv] at h2;cases h2
         | some w1=>
          obtain ⟨pq,h1,h2⟩:=O7.pR.2.1 y w1 (Jv hv);exact ⟨w1,pq,rfl,h1,fun old h=>by rw [O7.pR.fn h2 h]; exact Dw.refl _,rch y pq h2⟩
        refine ⟨_,rfl,_,rfl,RA,rfl,.inl ⟨_,.inl O7.dR⟩,_,rfl,_,rfl,_,BU.k (k:=Sum.inr y) O7.dR,_,_,(d0 + l,Hz),pq,rfl,cand,(by rw [ew]; exact hw1),fun le=>⟨_,rfl,_,rfl,RA,_,rfl,put,?_⟩,fun le=>⟨_,rfl,_,rfl,RA,_,rfl,put,?_⟩⟩
        ·rw [ew];exact fin w1 pq hw1 le hold hWq
        ·exact fin (.ref t4) _ cand (Dw.refl _) (fun old h=>le.trans (hold old h)) candW
      ·rw [hPv] at hP;obtain ⟨GY,R',v8,v9,rfl,QH,hf,rch,sta,rel,RJ⟩:=hP;show NN _ _
       rw [hNN];refine ⟨_,?_,GY,NM,S',R',_,_,_,_,_,rfl,rfl,QH,⟨nearS,rch,fun x qq y l hx he=>?_,sta⟩,RJ⟩
       ·have:=QH.lenS;lia
       ·rcases rel x qq y l hx he with h | h | ⟨rfl,h2⟩
        ·exact .inl h
        ·exact .inr h
        ·exfalso
         obtain ⟨⟨z,v⟩,O2,e⟩:=Ya.mp ((a5 y).mpr he.adj);have e':z=y:=e;subst e';obtain ⟨j,hj,e2⟩:=Yn O2;exact h2 j v (by rw [BW]; exact hj) (by rw [XA hj,e2])
end
section
variable {P:Program} {w:World} {K:XB} {mg:Str->Option Value} {base:Heap}
structure NeF (K:XB) (mg:Str->Option Value) (fN:Addr) (fdN:FuncData) (f:Addr) (fd:FuncData):Prop where
 N:NbF K mg fN fdN
 mi:mg "min"=none
 F:Fz K "nearest" "nearest" ET f fd
 mg:mg "nearest"=some (.ref f)
 b:GU K fd ["web","starts"] []
theorem Rn {f fN fE:Addr} {fd fdN fdE:FuncData} (EK:NeF K mg fN fdN fE fdE) (F:Fz K "fars" "fars" Ka f fd):AJ P w K mg base BN 3 f fd ["web","place"] (OX K):=by
 have GE:AJ P w K mg base BN 2 fE fdE ["web","starts"] (OT K):=LH EK.N EK.mi EK.F;refine F.ok Mv (fun vs H Q E h=>?_) (fun cdv A outer s H vs Q E hr h=>?_)
 ·obtain ⟨q,ps,ws,r,x,rfl,_⟩:=h;rfl
 ·obtain ⟨q,ps,ws,r,x,rfl,ok,pos,uniq,hx,k⟩:=h;have hu:=Dy hr;have nd:=Mv.nd;have big:1000 < sizeLine:=by decide
  have l30:=ok.l30;refine ⟨_,Ae (Aq (i:=2) nd rfl (Or.inr rfl) (Aj GE hr (by rfl) EK.mg EK.F.kp EK.b .nil Aw (Aa (pv 0) (Aa (AN (Aa (pv 1) Ad)) Ad))))
   (Ak (AH (HK (N:=["name","told"]) (σ0:=fun σ=>[none,some 2].map fun j=>j.bind fun j=>(σ[j]?).join) rfl
      (AS.caught (by rfl) (by decide +kernel) rfl (by decide +kernel) (by intro y hy; simp only [XC,XZ,or_false] at hy; rcases hy with rfl <;> rfl)
       (by intro y hy e; simp only [XC,XZ,or_false] at hy; rcases hy with rfl | rfl | rfl <;> first | exact ⟨_,rfl⟩ | cases e))
      (fun σ _=>AU.of [none,some 2] rfl (by
       intro i j x h1 h2;match i,h1,h2 with
       | 0,_,h2=>cases h2
       | 1,h1,h2=>cases h1; cases h2; exact ⟨rfl,.inl rfl,.inl rfl⟩
       | n + 2,h1,_=>cases h1)) (Bs K rfl (A4 (Ay K rfl) (pv 0) Ag (fun _ _=>rfl)))
      (fun s2 H C fp=>⟨Al (i:=0) (show (["name","told"]:List Str).Nodup by decide +kernel) rfl (Or.inl rfl),Br,pv 0,A4 (Ay K rfl) (Bt hu (pv 1) (pv 0) (fun _ _=>rfl)) Ag (fun _ _=>rfl)⟩)))),?_⟩
  refine ⟨_,rfl,_,rfl,(by show 1<=sizeLine; lia),fun st hst=>?_⟩;have s0:=Ac (o:=.lst [.str x]) hst;refine ⟨q,st,ps,[x],ws,r,rfl,ok.same s0,pos,uniq,.inl Ab,by simp,Y5.mpr ⟨by simp,.nil⟩,by simpa using hx,fun H1 B nv s1 hB RC nn nk nr=>?_⟩;have UJ:=s0.trans s1;obtain ⟨tp,tw,us,hq,htp,htw,hD⟩:=ok.web.ex;refine ⟨_,rfl,q,_,0,.ref tp,rfl,rfl,AM.of (UJ _ _ hq),CY (j:=0) rfl,tp,rfl,⟨_,AM.of (UJ _ _ htp)⟩,fun C hC=>?_⟩;refine ⟨fun i m Ar H2=>m=ps.length - i/\i<=ps.length/\(∃ v,Ar=[v,some (.ref B)])/\∃ nc:List (Str × V),H2=upd H1 C (.dK (sK nc))/\nc.map (·.1)=ps.take i/\∀ y v,(y,v) ∈ nc->∃ n,v=.int n/\Kz ws x y n,⟨_,rfl,Yr _,⟨_,rfl⟩,[],rfl,rfl,fun y v hy=>absurd hy XZ⟩,?_⟩;rintro i m Ar H2 ⟨rfl,hi,⟨v,rfl⟩,nc,rfl,ncK,ncV⟩;have sC:=Ac (o:=.dK (sK nc)) hC;have LX:=sC _ _ (UJ _ _ htp);by_cases B0:i < ps.length
  ·refine .inr ⟨⟨_,V.str ps[i],AM.of LX,by rw [XU,XA B0]; rfl⟩,?_⟩;rintro z H6 ⟨rfl,hz⟩;have Ig:=hz _ (AM.of LX);rw [XU,XA B0] at Ig;cases Ig
   obtain ⟨⟨y,v2⟩,hm,e⟩:=Ya.mp ((nk ps[i]).mpr (Y6 B0));have e':y=ps[i]:=e;subst e';obtain ⟨p,⟨t,e2,ht⟩,hnr⟩:=nr ps[i] v2 hm;subst e2;have Uy:=sC _ _ RC;have Fo:=sC _ _ ht;have nn':ps[i] ∉ nc.map (·.1):=by
    rw [ncK];intro O2;obtain ⟨j,hj,e⟩:=Yn O2;rw [Yz] at hj;rw [Zf] at e;have:=GC ok.nd (XA (show j < ps.length by lia)) (by rw [XA B0,e]);lia
   have ncl:nc.length=i:=by
    have:=congrArg Zq ncK;rw [X8,Yz] at this;lia
   refine ⟨_,rfl,_,rfl,_,rfl,B,.ref t,rfl,.inl ⟨_,Sum.inr ps[i],.inl Uy,rfl,(CV nn hm).symm⟩,t,_,0,.int p.1,rfl,rfl,AM.of Fo,CY (j:=0) rfl,_,Sum.inr ps[i],rfl,Ab,by rw [BW]; lia,_,by lia,rfl,B0,⟨_,rfl⟩,nc ++ [(ps[i],.int p.1)],by rw [JS,Df nn'],?_,fun y v hy=>?_⟩
   ·rw [Yb,ncK,Yk,XA B0]; rfl
   ·rcases Ye.mp hy with hy | hy
    ·exact ncV y v hy
    ·simp only [XY,Prod.mk.injEq] at hy;obtain ⟨rfl,rfl⟩:=hy;exact ⟨p.1,rfl,hnr.dst.2⟩
  ·have e0:i=ps.length:=by lia
   subst e0;rw [Yq] at ncK;exact .inl ⟨⟨_,AM.of LX,by rw [X8]; exact XD _⟩,k _ C nc (UJ.trans sC) (UJ.free hC) Ab ncK ncV⟩
end
structure TxtN (K:XB) (mg:Str->Option Value):Prop where
 len:mg "len"=none
 isin:mg "isinstance"=none
 str:mg "str"=none
 all:mg "all"=none
 most:∃ t,mg "MOST_LETTERS"=some (.int 6 t)
section
variable {P:Program} {w:World} {K:XB} {mg:Str->Option Value} {base:Heap}
theorem Rm {f:Addr} {fd:FuncData} (T:TxtN K mg) (F:Fz K "is_name" "is_name" EU f fd):AJ P w K mg base BN 1 f fd ["thing"] (OV K):=by
 refine F.ok LB (fun vs H Q E h=>?_) (fun cdv A outer s H vs Q E hr h=>?_)
 ·obtain ⟨x,rfl,_⟩:=h;rfl
 ·obtain ⟨x,rfl,h⟩:=h;obtain ⟨tk,hmost⟩:=T.most;refine ⟨_,Ae (CN (HF (Et (Es (Ai CH (by rfl) T.isin PyProof.Rows.boot_isinstance (Aa (pv 0) (Aa (FJ (v:=.ty "str") (by rfl) T.str PyProof.Rows.boot_str rfl) Ad)))))
    (Gh (Et (Pq M9 M9 Ag (Ai FV (by rfl) T.len PySem.boot_len (Aa (pv 0) Ad)) (Rh (v:=.int 6) (by rfl) hmost ⟨_,rfl⟩))))).pt
    (Ak (AH Dv)) B6)
   (Ak (AH (Ai (EH rfl) (by rfl) T.all PyProof.Rows.boot_all (Aa
    (BQ (N:=["letter"]) (σ0:=fun _=>[none]) rfl (AS.plain (by decide +kernel) (by decide +kernel) rfl (by decide +kernel)) (fun σ _=>AU.none _ _ _ ["letter"] σ) (SQ (pv 0))
     (fun s2 H C fp=>⟨Al (i:=0) (show (["letter"]:List Str).Nodup by decide +kernel) rfl (Or.inl rfl),Br,PB J6 J6 CK (pv 0) CK⟩)) Ad)))),?_⟩
  rcases h with ⟨t,rfl,ht,k⟩ | ⟨⟨ty,h1,h2⟩,k⟩
  ·refine ⟨_,rfl,_,"str",_,_,rfl,Ec.str t,rfl,_,rfl,?_⟩;refine Ej ?_;refine ⟨_,rfl,t,rfl,Yo ht (by decide),_,_,rfl,rfl,_,rfl,?_⟩;have last:∀ (h1:1<=t.length) (h2:t.length<=6),Mo (iStr (QQ 0)) (Ij 0) JU (L7 (fun x y H Q=>∃ i j,x=.str i/\y=.str j/\Q (.bl (!(decide (j.cps.toList < i.cps.toList)))) H) (fun x y H Q=>∃ i j,x=.str i/\y=.str j/\Q (.bl (!(decide (j.cps.toList < i.cps.toList)))) H) (tC (.str "a")) (QQ 0) (tC (.str "z"))) (fun _=>[none]) [some (V.str t)] H
     (fun x H1=>∃ (p:Addr) (bs:List Bool),[x]=[V.ref p]/\AA K H1 p (bs.map V.bl)/\Q (.bl (bs.all id)) H1):=by
    intro h1 h2;refine ⟨_,rfl,t,rfl,fun D hD=>⟨fun i m Ar H'=>m=t.cps.size - i/\i<=t.cps.size/\(∃ v,Ar=[v])/\H'=upd H D (.lst ((t.cps.toList.take i).map fun c=>V.bl (Fc c))),⟨_,rfl,Yr _,⟨_,rfl⟩,rfl⟩,?_⟩⟩;rintro i m Ar H' ⟨rfl,hi,⟨v,rfl⟩,rfl⟩;by_cases B0:i < t.cps.size
    ·refine .inr ⟨B0,?_⟩;rintro x H2 ⟨rfl,c,hc,rfl⟩;have F4:t.cps.toList[i]? = some c:=by simpa using hc
     have step:∀ b,b=Fc c->∃ acc,(upd H D (.lst ((t.cps.toList.take i).map fun c=>V.bl (Fc c)))) D=some (.lst acc)/\acc.length < sizeLine/\∃ m',m' < t.cps.size - i/\(m'=t.cps.size - (i + 1)/\i + 1<=t.cps.size/\(∃ v,[some (V.str ⟨#[c]⟩)]=[v]) /\
       upd (upd H D (.lst ((t.cps.toList.take i).map fun c=>V.bl (Fc c)))) D (.lst (acc ++ [V.bl b]))=upd H D (.lst ((t.cps.toList.take (i + 1)).map fun c=>V.bl (Fc c)))):=by
      rintro b rfl;refine ⟨_,Ab,?_,_,?_,rfl,B0,⟨_,rfl⟩,?_⟩
      ·rw [X8,Yz];have:t.length=t.cps.size:=rfl;have:1000 < sizeLine:=by decide
       lia
      ·lia
      ·rw [JS,IM _ _ _ _ F4]
     refine ⟨_,rfl,_,_,rfl,rfl,_,rfl,?_⟩;rw [leA];refine DI (fun ha=>?_) (fun ha=>?_)
     ·refine ⟨_,_,rfl,rfl,?_⟩;rw [leZ];exact step _ (by unfold Fc; rw [ha]; rfl)
     ·exact step _ (by unfold Fc; rw [Bool.not_eq_true] at ha; rw [ha]; rfl)
    ·have e:i=t.cps.size:=by lia
     subst e;refine .inl ⟨XD _,D,t.cps.toList.map Fc,rfl,.inl (.inl ?_),?_⟩
     ·rw [Ab,List.take_of_length_le (by simp),Y7];rfl
     ·have e2:(t.cps.toList.map Fc).all id=Bb t:=by
       unfold Bb;rw [ZU,decide_eq_true h1,decide_eq_true h2];rfl
      rw [e2];exact k _ (Ac hD)
   refine DI (fun h1=>?_) (fun h1=>?_)
   ·refine ⟨_,_,rfl,rfl,_,rfl,?_⟩;rw [decide_eq_true_eq] at h1;refine DI (fun h2=>?_) (fun h2=>?_)
    ·have e:Bb t=false:=by
      unfold Bb;have:¬ t.length<=6:=by
       intro z;rw [decide_eq_true (show ((t.length:Nat):Int)<=6 by lia)] at h2;cases h2
      rw [decide_eq_false this,Bool.and_false,Z1]
     rw [<-e];exact k _ (Au.refl _)
    ·refine last (by lia) ?_;by_cases z:t.length<=6
     ·exact z
     ·rw [decide_eq_false (show ¬ ((t.length:Nat):Int)<=6 by lia)] at h2;exact absurd rfl h2
   ·refine ⟨_,rfl,?_⟩;refine FP ?_;have e:Bb t=false:=by
     unfold Bb;rw [decide_eq_true_eq] at h1;rw [decide_eq_false (show ¬ 1<=t.length by lia),Z1,Z1]
    show Q (.bl false) H
    rw [<-e];exact k _ (Au.refl _)
  ·refine ⟨_,rfl,_,"str",_,_,rfl,h1,h2,_,rfl,?_⟩;exact k
end
section
variable {P:Program} {w:World} {K:XB} {mg:Str->Option Value} {base:Heap}
theorem Ki {fF:Addr} {fdF:FuncData} (XF:Fn K mg "fars" Ka ["web","place"] fF fdF) (GF:AJ P w K mg base BN 3 fF fdF ["web","place"] (OX K)) {f:Addr} {fd:FuncData} (F:Fz K "site_fars" "site_fars" Dn f fd):AJ P w K mg base BN 4 f fd ["case"] HA:=by
 refine F.ok F9 (fun vs H Q E h=>?_) (fun cdv A outer s H vs Q E hr h=>?_)
 ·obtain ⟨c,m,n,xs,ws,Bj,Bc,x,d,rfl,_⟩:=h;rfl
 ·obtain ⟨c,m,n,xs,ws,Bj,Bc,x,d,rfl,cw,k⟩:=h;have nd:=F9.nd;have big:100000 < sizeLine:=by decide
  refine ⟨_,(Ak (AH (HK (N:=["place","price","case"]) (σ0:=fun σ=>[none,none,some 0].map fun j=>j.bind fun j=>(σ[j]?).join) rfl (AS.caught (by rfl) (by decide +kernel) rfl (by decide +kernel) (by intro y hy; simp only [XC,XZ,or_false] at hy; rcases hy with rfl <;> rfl)
   (by intro y hy e; simp only [XC,XZ,or_false] at hy; rcases hy with rfl | rfl | rfl | rfl | rfl <;> first | exact ⟨_,rfl⟩ | cases e)) (fun σ _=>AU.of [none,none,some 0] rfl (by
   intro i j x h1 h2;match i,h1,h2 with
   | 0,_,h2=>cases h2
   | 1,_,h2=>cases h2
   | 2,h1,h2=>cases h1; cases h2; exact ⟨rfl,.inl rfl,.inl rfl⟩
   | n + 3,h1,_=>cases h1)) (Bs K rfl (A4 (Ay K rfl) (pv 0) Ag (fun _ _=>rfl)))
   (fun s2 H C fp=>⟨(BP K rfl (n:=2) rfl (Az (Al (i:=0) (show (["place","price","case"]:List Str).Nodup by decide +kernel) rfl (Or.inl rfl)) (Az (Al (i:=1) (show (["place","price","case"]:List Str).Nodup by decide +kernel) rfl (Or.inl rfl)) BO))),Br,(pv 0),(Aj GF (hr.mono (by decide)) (by rfl) XF.mg XF.F.kp XF.b .nil Aw (Aa (A4 (Ay K rfl) (pv 2) Ag (fun _ _=>rfl)) (Aa (pv 0) Ad)))⟩)))),?_⟩
  obtain ⟨t1,t2,L1,F0,hc,La,O4,Fo,hd2⟩:=cw.ex;obtain ⟨r,okw,pos,uni⟩:=cw.map.web cw.n1 cw.n30;have ul:=Ci O4;have l1:=cw.l1;refine ⟨_,rfl,c,_,_,_,rfl,rfl,AM.of hc,rfl,t1,rfl,⟨_,AM.of La⟩,?_⟩;refine Jx DC (xs:=L1) (Bj.map (·.1)) (by rw [X8,ul]) cw.ok1.nd (fun D i σ H' nv=>∃ (v0 v1:Option V),σ=[v0,v1,some (.ref c)]/\Au H H'/\H' D=some (.dK (sK nv))/\nv.map (·.1)=(Bj.map (·.1)).take i/\∀ s v,(s,v) ∈ nv->IG H' v xs ws s)
   (by lia) (fun D hD=>⟨_,_,rfl,Ac hD,Ab,rfl,fun s v hm=>nomatch hm⟩) (fun D i σ H' nv hD ⟨v0,v1,_,sa,BB,nk,_⟩=>⟨AM.of (sa _ _ La),BB,nk⟩) ?_ ?_
  ·rintro D i σ H' nv x' kk B hD ex ek ⟨v0,v1,rfl,sa,BB,nk,nf⟩ hB;obtain ⟨u,t,eu,rfl,ht⟩:=BX O4 ex;have e:kk=u.1:=by
    rw [XU,eu] at ek;exact (Yi.inj ek).symm
   subst e;refine ⟨t,_,rfl,AM.of (sa _ _ ht),rfl,_,_,rfl,_,_,rfl,rfl,?_⟩;refine ⟨_,rfl,_,rfl,c,_,_,_,rfl,rfl,AM.of (sa _ _ hc),rfl,_,rfl,m,xs,ws,r,u.1,rfl,okw.same sa,pos,uni,cw.ok1.sub u (XG eu),fun H1 B1 nb s1 fB RC nbK nbV=>?_⟩;have Sh:=s1 _ _ BB;refine hB _ _ _ Sh ⟨_,_,rfl,fun b o' z=>by rw [Af (Ah z hD)]; exact s1 _ _ (sa _ _ z),Ab,?_,fun s v hm=>?_⟩
   ·rw [Yb,nk,Yk,ek];rfl
   ·have nB:∀ {b:Addr} {kv:List (AO × V)},b ≠ D->H1 b=some (.dK kv)->(upd H1 D (.dK (sK (nv ++ [(u.1,.ref B1)])))) b=some (.dK kv):=fun nb z=>by rw [Af nb]; exact z
    rcases Ye.mp hm with hm | hm
    ·obtain ⟨B2,PR,rfl,z1,z2,z3⟩:=nf s v hm;by_cases e:B2=D
     ·subst e;rw [BB] at z1;have e:=HO.dK.inj (Yi.inj z1);have Ur:((Sum.inr s:AO),V.ref B2) ∈ sK PR:=by rw [<-e]; exact Ya.mpr ⟨_,hm,rfl⟩
      obtain ⟨⟨y,u'⟩,h1,h2⟩:=Ya.mp Ur;cases h2
      obtain ⟨n',e',_⟩:=z3 _ _ h1;cases e'
     ·exact ⟨B2,PR,rfl,nB e (s1 _ _ z1),z2,z3⟩
    ·simp only [XY,Prod.mk.injEq] at hm;obtain ⟨rfl,rfl⟩:=hm;exact ⟨B1,nb,rfl,nB (fun z=>by rw [z,BB] at fB; cases fB) RC,nbK,nbV⟩
  ·rintro D σ H' nv hD ⟨v0,v1,rfl,sa,BB,nk,nf⟩;rw [ul,show Bj.length=(Bj.map (·.1)).length by rw [X8],Yq] at nk;exact k H' D nv sa hD BB nk nf
end
section
variable {P:Program} {w:World} {K:XB} {mg:Str->Option Value} {base:Heap}
theorem IT (h_dict:mg "dict"=none) (h_len:mg "len"=none) (h_set:mg "set"=none) (h_sorted:mg "sorted"=none) (h_tuple:mg "tuple"=none) {fT:Addr} {fdT:FuncData} (XT:Fn K mg "_law_take" AE ["_law_pen","_law_many"] fT fdT) (GT:AJ P w K mg base BN 1 fT fdT ["_law_pen","_law_many"] (CQ K)) {fS:Addr} {fdS:FuncData} (XS:Fn K mg "_law_some" De ["_law_pen","_law_names_here","_law_many"] fS fdS) (GS:AJ P w K mg base BN 2 fS fdS ["_law_pen","_law_names_here","_law_many"] (JV K)) {f:Addr} {fd:FuncData} (F:Fz K "_law_things" "_law_things" Cf f fd):AJ P w K mg base BN 3 f fd ["_law_pen","_law_case_here","_law_places","_law_good"] (Ge K):=by
 refine F.ok Fg (fun vs H Q E h=>?_) (fun cdv A outer s H vs Q E hr h=>?_)
 ·obtain ⟨p,c,pl,gd,m,n,xs,ss,gs,ws,Bj,Bc,x,d,rfl,_⟩:=h;rfl
 ·obtain ⟨p,c,pl,gd,m,n,xs,ss,gs,ws,Bj,Bc,x,d,rfl,hP,cs,hpl,hgd,sn,gn,s1,LD,g10,gnd,k⟩:=h;have nd:=Fg.nd;have big:100000 < sizeLine:=by decide
  refine ⟨_,(Ae (Aq (i:=4) nd rfl (Or.inl rfl) (A4 (AQ K rfl) (pv 2) (Aj GT (hr.mono (by decide)) (by rfl) XT.mg XT.F.kp XT.b .nil Aw (Aa (pv 0) (Aa (Ai (Av K rfl) (by rfl) h_len PySem.boot_len (Aa (pv 2) Ad)) Ad))) (fun _ _=>rfl)))
  (Ae (Aq (i:=5) nd rfl (Or.inl rfl) (Aj GS (hr.mono (by decide)) (by rfl) XS.mg XS.F.kp XS.b .nil Aw (Aa (pv 0) (Aa (pv 2) (Aa (Aj GT (hr.mono (by decide)) (by rfl) XT.mg XT.F.kp XT.b .nil Aw (Aa (pv 0) (Aa (As Be (Ai (Av K rfl) (by rfl) h_len PySem.boot_len (Aa (pv 2) Ad)) Ag) Ad))) Ad)))))
  (Ae (Aq (i:=6) nd rfl (Or.inl rfl) (A4 (AQ K rfl) (AN (Aa HJ (Aa Ag (Aa Dv (Aa (Bm (Aa CK Ad)) (Aa (AN (Aa (pv 4) Ad)) (Aa FI (Aa CK (Aa (As Dg (pv 4) CK) (Aa CK (Aa (SW PySem.F.plainAttrs_str PySem.F.slot_str_upper PySem.F.type_str_upper PV (pv 4)) Ad))))))))))) (Aj GT (hr.mono (by decide)) (by rfl) XT.mg XT.F.kp XT.b .nil Aw (Aa (pv 0) (Aa Ag Ad))) (fun _ _=>rfl)))
  (Ae (Aq (i:=7) nd rfl (Or.inl rfl) (A4 (Ay K rfl) (A4 (Ay K rfl) (A4 (Ay K rfl) (pv 1) Ag (fun _ _=>rfl)) Ag (fun _ _=>rfl)) (Aj GT (hr.mono (by decide)) (by rfl) XT.mg XT.F.kp XT.b .nil Aw (Aa (pv 0) (Aa (Ai (Av K rfl) (by rfl) h_len PySem.boot_len (Aa (A4 (Ay K rfl) (A4 (Ay K rfl) (pv 1) Ag (fun _ _=>rfl)) Ag (fun _ _=>rfl)) Ad)) Ad))) (fun _ _=>rfl)))
  (Ae (Aq (i:=8) nd rfl (Or.inl rfl) (Aj GT (hr.mono (by decide)) (by rfl) XT.mg XT.F.kp XT.b .nil Aw (Aa (pv 0) (Aa (As Be (Ai (Av K rfl) (by rfl) h_len PySem.boot_len (Aa (pv 3) Ad)) Ag) Ad))))
  (Ae (Aq (i:=9) nd rfl (Or.inl rfl) (AN (Aa (pv 3) (Aa (pv 5) (Aa (pv 2) (Aa (DB ES (pv 3) (Dt Ag) Du) (Aa (DB ES (pv 3) Du (Dt (M6 JT Ag))) (Aa (Ai (Ca rfl) (by rfl) h_sorted PyProof.Rows.boot_sorted (Aa (AF (FT P w K rfl rfl rfl rfl) (by rfl) h_set PyProof.Rows.boot_set (Aa (As Cu (pv 3) (AN (Aa (pv 4) Ad))) Ad)) Ad)) (Aa (Ai (Ca rfl) (by rfl) h_sorted PyProof.Rows.boot_sorted (Aa (AF (FT P w K rfl rfl rfl rfl) (by rfl) h_set PyProof.Rows.boot_set (Aa (As Cu (pv 5) (AN (Aa (pv 7) Ad))) Ad)) Ad)) Ad)))))))))
  (Ae (Aq (i:=9) nd rfl (Or.inl rfl) (As Cu (pv 9) (AN (Aa (PD (pv 2) (M6 JT Ag)) (Aa (As Cu (pv 3) (DB ES (pv 3) (Dt (M6 JT Ag)) Du)) (Aa (As Cu (DB ES (pv 3) (Dt (M6 JT Ag)) Du) (pv 3)) (Aa (AF (Bp K rfl) (by rfl) h_tuple PyProof.Rows.boot_tuple (Aa (pv 3) Ad)) (Aa (As Cu (pv 3) (AN (Aa (pv 6) Ad))) (Aa (As Cu (AN (Aa (pv 6) Ad)) (pv 3)) Ad)))))))))
  (Ae (FG (HL PySem.F.plainAttrs_list PySem.F.slot_list_append PySem.F.type_list_append BR (pv 9) (Aa (As Cu (As Cu (DB ES (pv 3) Du (Dt (pv 8))) (AN (Aa (pv 6) Ad))) (DB ES (pv 3) (Dt (pv 8)) Du)) Ad)))
  (Ae (Aq (i:=9) nd rfl (Or.inl rfl) (As Cu (pv 9) (AN (Aa HJ (Aa CK (Aa (pv 4) (Aa (AF (Hi rfl) (by rfl) h_dict PyProof.Rows.boot_dict (Aa (BQ (N:=["_law_place"]) (σ0:=fun _=>[none]) rfl (AS.plain (by decide +kernel) (by decide +kernel) rfl (by decide +kernel)) (fun σ _=>AU.none _ _ _ ["_law_place"] σ) (By K rfl (pv 3))
   (fun s2 H C fp=>⟨(Al (i:=0) (show (["_law_place"]:List Str).Nodup by decide +kernel) rfl (Or.inl rfl)),Br,(Bm (Aa (pv 0) (Aa Dv Ad)))⟩)) Ad)) (Aa Ag (Aa Dv (Aa (Bm Ad) (Aa (AN (Aa (pv 3) Ad)) (Aa (AN (Aa HJ Ad)) Ad))))))))))))
  (Ak (AH (pv 9)))))))))))),?_⟩
  have npl:=Cz hP hpl;have ngd:=Cz hP hgd;have ll:((ss.map V.str).length:Int)=ss.length:=by rw [X8]
  have lg:((gs.map V.str).length:Int)=gs.length:=by rw [X8]
  have nameAt:∀ {zs:List Str} (e:Int),0<=e->e < (zs.length:Int)->∃ y ∈ zs,Jf (zs.map V.str) e=some (.str y):=fun {zs} e e0 e1=>by
   obtain ⟨j,rfl⟩:∃ j:Nat,e=j:=⟨e.toNat,by lia⟩
   have hj:j < zs.length:=by lia
   exact ⟨zs[j],Y6 hj,CY (by rw [XU,XA hj]; rfl)⟩
  refine ⟨_,rfl,_,rfl,_,rfl,pl,_,rfl,.inl (AA.of hpl),p,_,rfl,hP,by lia,by lia,fun e1 H1 P1 k1 Xn Wk=>?_⟩;rw [ll] at Wk;obtain ⟨one,om,oa⟩:=nameAt e1 Xn Wk;have onm:=sn one om;have Vi:=k1 _ _ npl hpl;refine ⟨pl,_,_,_,rfl,rfl,AA.of Vi,oa,?_⟩;refine ⟨_,rfl,_,rfl,_,rfl,_,rfl,pl,_,rfl,.inl (AA.of Vi),_,_,rfl,rfl,p,_,rfl,P1,by lia,by lia,fun e2 H2 P2 k2 e20 Xm=>?_⟩;rw [ll] at Xm;obtain ⟨m2,rfl⟩:∃ m2:Nat,e2=m2:=⟨e2.toNat,by lia⟩
  have q2:=k1.trans k2;refine ⟨p,pl,ss,m2,rfl,P2,q2 _ _ npl hpl,npl,by lia,by lia,fun H3 Dr ys zs P3 k3 fD hD pm yl so=>?_⟩;have q3:=q2.trans k3;have ysub:∀ y ∈ ys,Bb y=true:=fun y hy=>sn y (pm.mem_iff.mp (YB _ hy))
  refine ⟨(by show 1<=sizeLine; lia),fun Ta hTa=>?_⟩;have sa:=Ac (o:=.tup [.str "a"]) hTa;refine ⟨_,rfl,(by show 1<=sizeLine; lia),fun Tb hTb=>?_⟩;have sb:=sa.trans (Ac (o:=.lst [.str one]) hTb);intro Td hTd;have sd:=sb.trans (Ac (o:=.dK []) hTd);have hA:(upd (upd (upd H3 Ta (.tup [.str "a"])) Tb (.lst [.str one])) Td (.dK [])) Ta=some (.tup [.str "a"]):=Ac hTd _ _ (Ac hTb _ _ Ab);have hB:(upd (upd (upd H3 Ta (.tup [.str "a"])) Tb (.lst [.str one])) Td (.dK [])) Tb=some (.lst [.str one]):=Ac hTd _ _ Ab;have hDd:(upd (upd (upd H3 Ta (.tup [.str "a"])) Tb (.lst [.str one])) Td (.dK [])) Td=some (.dK (sK [])):=Ab;generalize upd (upd (upd H3 Ta (.tup [.str "a"])) Tb (.lst [.str one])) Td (.dK [])=H4 at sd hA hB hDd;obtain ⟨o1,o2,olo⟩:=LL onm;have upl:=Jl olo;refine ⟨_,rfl,_,_,rfl,rfl,(by show one.length + 1<=sizeLine; lia),_,rfl,rfl,one,rfl,rfl,by lia,(by show 10<=sizeLine; lia),fun T hT=>?_⟩;have s5:=sd.trans (Ac (o:=.lst [.non,.int 7,.bl true,.ref Ta,.ref Tb,.ref Td,.str "",.str (one ++ "q"),.str "Q",.str (Txt.upper one)]) hT);have P5:=P3.same s5;have nT:T ≠ p:=(P3.same sd).ne hT;have nA:=Ac (o:=.lst [.non,.int 7,.bl true,.ref Ta,.ref Tb,.ref Td,.str "",.str (one ++ "q"),.str "Q",.str (Txt.upper one)]) hT;refine ⟨_,rfl,p,10,rfl,P5,by decide,by decide,fun e3 H6 P6 k6 e30 e31=>?_⟩;have q6:=(q3.trans (AI.of_same s5)).trans k6;have Ks:=k6 _ _ nT (show (upd H4 T (.lst [.non,.int 7,.bl true,.ref Ta,.ref Tb,.ref Td,.str "",.str (one ++ "q"),.str "Q",.str (Txt.upper one)])) T=some (.lst [.non,.int 7,.bl true,.ref Ta,.ref Tb,.ref Td,.str "",.str (one ++ "q"),.str "Q",.str (Txt.upper one)]) from Ab);have okOne:=FK onm;have hA6:=Cq P5 k6 _ _ (nA _ _ hA);have Vz:=nA _ _ hB;have Wd:=k6 _ _ (Cz P5 (xs:=[one]) Vz) Vz;have Vy:H6 Td=some (.dK (sK [])):=k6 _ _ (by obtain ⟨_,_,_,_,y,_⟩:=P5; exact Ba (nA _ _ hDd) y (fun z=>by cases z)) (nA _ _ hDd);obtain ⟨odd,ho,od⟩:∃ odd:V,Jf [V.non,.int 7,.bl true,.ref Ta,.ref Tb,.ref Td,.str "",.str (one ++ "q"),.str "Q",.str (Txt.upper one)] e3=some odd/\∀ H',AI p H6 H'->Mi K H' odd:=by
   have cc:e3=0\/e3=1\/e3=2\/e3=3\/e3=4\/e3=5\/e3=6\/e3=7\/e3=8\/e3=9:=by lia
   have okS:∀ y:Str,Ek y->∀ H',AI p H6 H'->Mi K H' (.str y):=fun y h _ _=>.inl ⟨y,rfl,h⟩
   rcases cc with rfl | rfl | rfl | rfl | rfl | rfl | rfl | rfl | rfl | rfl
   ·exact ⟨_,rfl,fun _ _=>.inr (.inl ⟨⟨_,.non,rfl⟩,_,.non,Ky.none.fs.mono (by decide) (by decide),rfl⟩)⟩
   ·exact ⟨_,rfl,fun _ _=>.inr (.inl ⟨⟨_,.int 7,rfl⟩,_,.int 7,(Ky.int (by decide) (by decide)).fs.mono (by decide) (by decide),rfl⟩)⟩
   ·exact ⟨_,rfl,fun _ _=>.inr (.inl ⟨⟨_,.bl true,rfl⟩,_,.bl true,⟨by decide,by decide,by decide,by decide⟩,rfl⟩)⟩
   ·refine ⟨_,rfl,fun _ kk=>.inr (.inl ⟨⟨_,.tup (Cq P6 kk _ _ hA6),rfl⟩,_,.tup (Cq P6 kk _ _ hA6) (.cons (.str _) .nil),?_,by decide⟩)⟩;exact ⟨by decide,by decide +kernel,by decide,by decide +kernel⟩
   ·refine ⟨_,rfl,fun _ kk=>.inr (.inl ⟨⟨_,.lst (kk _ _ (Cz P6 (xs:=[one]) Wd) Wd),rfl⟩,_,.lst (kk _ _ (Cz P6 (xs:=[one]) Wd) Wd) (.cons (.str one) .nil),?_,?_⟩)⟩
    ·exact (FS.list (k:=0) (b:=100) fun d hd=>by rw [XY.mp hd]; exact FS.str okOne).mono (by decide) (by show 1 * 101<=200; decide)
    ·simp only [PyData.hasDict,PyData.hasDictAll]; rfl
   ·exact ⟨_,rfl,fun _ kk=>.inr (.inr ⟨Td,rfl,kk _ _ (by obtain ⟨_,_,_,_,y,_⟩:=P6; exact Ba Vy y (fun z=>by cases z)) Vy⟩)⟩
   ·exact ⟨_,rfl,okS _ ⟨by decide,by decide⟩⟩
   ·refine ⟨_,rfl,okS _ ⟨?_,fun c hc=>?_⟩⟩
    ·rw [Str.length_append];have:(Str.ofString "q").length=1:=by decide +kernel
     lia
    ·rw [Str.cps_append,Zl] at hc;rcases Ye.mp hc with hc | hc
     ·exact okOne.2 c hc
     ·have e:(Str.ofString "q").cps.toList=[113]:=by decide +kernel
      rw [e] at hc;rw [XY.mp hc];decide
   ·exact ⟨_,rfl,okS _ ⟨by decide +kernel,by decide +kernel⟩⟩
   ·exact ⟨_,rfl,okS _ (OG olo (by lia))⟩
  refine ⟨T,_,_,odd,rfl,rfl,AA.of Ks,ho,?_⟩;obtain ⟨t1,t2,L1,F0,hc,_⟩:=cs.cw.ex;obtain ⟨c1,c2,cv,hm,VY,_⟩:=cs.cw.map.at'.ex;have xl:=cs.cw.map.at'.len;have n9:=cs.n9;have n1:=cs.cw.n1;have lx:((xs.map V.str).length:Int)=xs.length:=by rw [X8]
  have t6:=Cq hP q6;refine ⟨_,rfl,c,_,_,_,rfl,rfl,AM.of (t6 _ _ hc),rfl,m,_,_,_,rfl,rfl,AM.of (t6 _ _ hm),rfl,_,rfl,_,rfl,c,_,_,_,rfl,rfl,AM.of (t6 _ _ hc),rfl,m,_,_,_,rfl,rfl,AM.of (t6 _ _ hm),rfl,c1,_,rfl,.inr (AM.of (t6 _ _ VY)),p,_,rfl,P6,by lia,by lia,fun e4 H7 P7 k7 e40 e41=>?_⟩;rw [lx] at e41;obtain ⟨bey,bm,ba⟩:=nameAt e4 e40 e41;have bnm:=cs.cw.map.at'.nm bey bm;have q7:=q6.trans k7;refine ⟨c1,_,_,_,rfl,rfl,AM.of (Cq hP q7 _ _ VY),ba,?_⟩;refine ⟨_,rfl,_,rfl,gd,_,rfl,.inl (AA.of (q7 _ _ ngd hgd)),_,_,rfl,rfl,p,_,rfl,P7,by lia,by lia,fun sp H8 P8 k8 sp0 sp1=>?_⟩;rw [lg] at sp1;have q8:=q7.trans k8;have Vh:=q8 _ _ npl hpl;have Qi:=q8 _ _ ngd hgd;have nDr:=Cz P3 hD;have Uv:H8 Dr=some (.lst (ys.map V.str)):=k8 _ _ nDr (k7 _ _ nDr (k6 _ _ nDr (s5 _ _ hD)));refine ⟨_,rfl,_,rfl,_,rfl,_,rfl,_,rfl,gd,_,rfl,AA.of Qi,fun A1 hA1=>?_⟩;have r1:=Ac (o:=.lst (DK (gs.map V.str) (some 1) none)) hA1;refine ⟨_,rfl,_,rfl,_,rfl,gd,_,rfl,AA.of (r1 _ _ Qi),fun A2 hA2=>?_⟩;have r2:=r1.trans (Ac (o:=.lst (DK (gs.map V.str) none (some (-1)))) hA2);refine ⟨_,rfl,_,rfl,(by show 1<=sizeLine; lia),fun B1 RC=>?_⟩;have r3:=r2.trans (Ac (o:=.lst [.str one]) RC);refine ⟨gd,B1,_,_,rfl,rfl,r3 _ _ Qi,Ab,by rw [X8]; show gs.length + 1<=sizeLine; lia,fun B2 Uy=>?_⟩;have r4:=r3.trans (Ac (o:=.lst (gs.map V.str ++ [.str one])) Uy);refine ⟨B2,gs ++ [one],rfl,.inl (AA.of (by rw [Yb]; exact Ab)),by rw [XI,Y1]; lia,fun D2 II=>⟨D2,gs ++ [one],rfl,Ab,by rw [XI,Y1]; lia,fun l1 UG O3 nd1 PZ srt1=>?_⟩⟩;have gok:∀ y ∈ gs,Ek y:=fun y hy=>FK (gn y hy)
  have sok:∀ y ∈ ss,Ek y:=fun y hy=>FK (sn y hy)
  have yok:∀ y ∈ ys,Ek y:=fun y hy=>FK (ysub y hy)
  have r6:=(r4.trans (Ac (o:=setS P w D2 (gs ++ [one])) II)).trans (Ac (o:=.lst (UG.map V.str)) O3);have w1:Au (upd (upd H8 A1 (.lst (DK (gs.map V.str) (some 1) none))) A2 (.lst (DK (gs.map V.str) none (some (-1))))) (upd (upd (upd (upd (upd (upd H8 A1 (.lst (DK (gs.map V.str) (some 1) none))) A2 (.lst (DK (gs.map V.str) none (some (-1))))) B1 (.lst [.str one])) B2 (.lst (gs.map V.str ++ [.str one]))) D2 (setS P w D2 (gs ++ [one]))) l1 (.lst (UG.map V.str))):=(((Ac RC).trans (Ac Uy)).trans (Ac II)).trans (Ac O3);have RE:=w1 _ _ (Ac (o:=.lst (DK (gs.map V.str) none (some (-1)))) hA2 _ _ (Ab (H:=H8) (a:=A1) (o:=.lst (DK (gs.map V.str) (some 1) none))));have RD:=w1 _ _ (Ab (H:=upd H8 A1 (.lst (DK (gs.map V.str) (some 1) none))) (a:=A2) (o:=.lst (DK (gs.map V.str) none (some (-1)))));have Uu:(upd (upd (upd (upd (upd (upd H8 A1 (.lst (DK (gs.map V.str) (some 1) none))) A2 (.lst (DK (gs.map V.str) none (some (-1))))) B1 (.lst [.str one])) B2 (.lst (gs.map V.str ++ [.str one]))) D2 (setS P w D2 (gs ++ [one]))) l1 (.lst (UG.map V.str))) l1=some (.lst (UG.map V.str)):=Ab;generalize upd (upd (upd (upd (upd (upd H8 A1 (.lst (DK (gs.map V.str) (some 1) none))) A2 (.lst (DK (gs.map V.str) none (some (-1))))) B1 (.lst [.str one])) B2 (.lst (gs.map V.str ++ [.str one]))) D2 (setS P w D2 (gs ++ [one]))) l1 (.lst (UG.map V.str))=H9 at r6 RE RD Uu;refine ⟨_,rfl,_,rfl,(by show 1<=sizeLine; lia),fun B3 hB3=>?_⟩;have t3:=Ac (o:=.lst [.str bey]) hB3;have Uk:ys.length<=10:=by lia
  refine ⟨Dr,B3,_,_,rfl,rfl,t3 _ _ (r6 _ _ Uv),Ab,by rw [X8]; show ys.length + 1<=sizeLine; lia,fun B4 hB4=>?_⟩;have t4:=t3.trans (Ac (o:=.lst (ys.map V.str ++ [.str bey])) hB4);refine ⟨B4,ys ++ [bey],rfl,.inl (AA.of (by rw [Yb]; exact Ab)),by rw [XI,Y1]; lia,fun D4 Ql=>⟨D4,ys ++ [bey],rfl,Ab,by rw [XI,Y1]; lia,fun l2 VF Kq nd2 UW srt2=>?_⟩⟩;have t6:=(t4.trans (Ac (o:=setS P w D4 (ys ++ [bey])) Ql)).trans (Ac (o:=.lst (VF.map V.str)) Kq);have Xb:(upd (upd (upd (upd H9 B3 (.lst [.str bey])) B4 (.lst (ys.map V.str ++ [.str bey]))) D4 (setS P w D4 (ys ++ [bey]))) l2 (.lst (VF.map V.str))) l2=some (.lst (VF.map V.str)):=Ab;generalize upd (upd (upd (upd H9 B3 (.lst [.str bey])) B4 (.lst (ys.map V.str ++ [.str bey]))) D4 (setS P w D4 (ys ++ [bey]))) l2 (.lst (VF.map V.str))=Hl at t6 Xb;have Ls:=r6.trans t6;refine ⟨(by show 7<=sizeLine; lia),fun F1 hF1=>?_⟩;obtain ⟨z1,ez1,zl1,zm1⟩:=ED gs (some 1) none;obtain ⟨z2,ez2,zl2,zm2⟩:=ED gs none (some (-1));rw [ez1] at RE;rw [ez2] at RD;have tg1:Lx K Hl [.ref gd,.ref Dr,.ref pl,.ref A1,.ref A2,.ref l1,.ref l2]:=by
   refine .cons (Cy (Ls _ _ Qi) gok (by lia)) (.cons (Cy (Ls _ _ Uv) yok (by lia)) (.cons (Cy (Ls _ _ Vh) sok (by lia)) (.cons (Cy (t6 _ _ RE) (fun y hy=>gok y (zm1 y hy)) (by lia)) (.cons (Cy (t6 _ _ RD) (fun y hy=>gok y (zm2 y hy)) (by lia)) (.cons (Cy (t6 _ _ Uu) (fun y hy=>?_) ?_) (.cons (Cy Xb (fun y hy=>?_) ?_) .nil))))))
   ·rcases Ye.mp ((PZ y).mp hy) with h | h
    ·exact gok y h
    ·rw [XY.mp h]; exact okOne
   ·have:=Bh nd1 (fun y hy=>(PZ y).mp hy);rw [XI,Y1] at this;lia
   ·rcases Ye.mp ((UW y).mp hy) with h | h
    ·exact yok y h
    ·rw [XY.mp h]; exact FK bnm
   ·have:=Bh nd2 (fun y hy=>(UW y).mp hy);rw [XI,Y1] at this;lia
  have sF:=Ac (o:=.lst [.ref gd,.ref Dr,.ref pl,.ref A1,.ref A2,.ref l1,.ref l2]) hF1;have hF:(upd Hl F1 (.lst [.ref gd,.ref Dr,.ref pl,.ref A1,.ref A2,.ref l1,.ref l2])) F1=some (.lst [.ref gd,.ref Dr,.ref pl,.ref A1,.ref A2,.ref l1,.ref l2]):=Ab;have EN:=tg1.same sF;have Rb:=Ls.trans sF;generalize upd Hl F1 (.lst [.ref gd,.ref Dr,.ref pl,.ref A1,.ref A2,.ref l1,.ref l2])=Lq at sF hF EN Rb;have Lc:=Rb _ _ Qi;have W5:=Rb _ _ Vh;have Tj:Mi K Lq odd:=(od _ (k7.trans k8)).same Rb;clear sF tg1 Xb t6 t4 t3 Uu RE RD r6;refine ⟨_,rfl,_,rfl,pl,_,rfl,AA.of W5,fun C1 zs3 Lw zl3 zm3=>?_⟩;obtain ⟨z3,rfl,zn3⟩:=Mp zm3;have c1:=Ac (o:=.lst (z3.map V.str)) Lw;have X7:(upd Lq C1 (.lst (z3.map V.str))) C1=some (.lst (z3.map V.str)):=Ab;generalize upd Lq C1 (.lst (z3.map V.str))=G1 at c1 X7;obtain ⟨z4,ez4,zl4,zm4⟩:=ED gs (some (-1)) none;refine ⟨_,rfl,_,rfl,_,rfl,_,rfl,gd,_,rfl,AA.of (c1 _ _ Lc),fun C2 Wc=>?_⟩;rw [ez4];have c2:=Ac (o:=.lst (z4.map V.str)) Wc;refine ⟨gd,C2,_,_,rfl,rfl,c2 _ _ (c1 _ _ Lc),Ab,by rw [X8,X8]; lia,fun C3 hC3=>?_⟩;rw [<-Yb];have c3:=c2.trans (Ac (o:=.lst ((gs ++ z4).map V.str)) hC3);have X6:(upd (upd G1 C2 (.lst (z4.map V.str))) C3 (.lst ((gs ++ z4).map V.str))) C3=some (.lst ((gs ++ z4).map V.str)):=Ab;generalize upd (upd G1 C2 (.lst (z4.map V.str))) C3 (.lst ((gs ++ z4).map V.str))=G2 at c3 X6;clear c2;refine ⟨_,rfl,_,rfl,_,rfl,gd,_,rfl,AA.of (c3 _ _ (c1 _ _ Lc)),fun C4 hC4=>?_⟩;rw [ez4];have c4:=Ac (o:=.lst (z4.map V.str)) hC4;refine ⟨_,rfl,C4,gd,_,_,rfl,rfl,Ab,c4 _ _ (c3 _ _ (c1 _ _ Lc)),by rw [X8,X8]; lia,fun C5 hC5=>?_⟩;rw [<-Yb];have c5:=c4.trans (Ac (o:=.lst ((z4 ++ gs).map V.str)) hC5);have X5:(upd (upd G2 C4 (.lst (z4.map V.str))) C5 (.lst ((z4 ++ gs).map V.str))) C5=some (.lst ((z4 ++ gs).map V.str)):=Ab;generalize upd (upd G2 C4 (.lst (z4.map V.str))) C5 (.lst ((z4 ++ gs).map V.str))=G3 at c5 X5;clear c4;have d5:=(c1.trans c3).trans c5;refine ⟨_,rfl,gd,_,rfl,.inl ⟨AA.of (d5 _ _ Lc),fun C6 hC6=>?_⟩⟩;have c6:=Ac (o:=.tup (gs.map V.str)) hC6;have X4:(upd G3 C6 (.tup (gs.map V.str))) C6=some (.tup (gs.map V.str)):=Ab;generalize upd G3 C6 (.tup (gs.map V.str))=G4 at c6 X4;have d6:=d5.trans c6;refine ⟨_,rfl,_,rfl,(by show 1<=sizeLine; lia),fun C7 hC7=>?_⟩;have c7:=Ac (o:=.lst [odd]) hC7;refine ⟨gd,C7,_,_,rfl,rfl,c7 _ _ (d6 _ _ Lc),Ab,by rw [X8]; show gs.length + 1<=sizeLine; lia,fun C8 hC8=>?_⟩;have c8:=c7.trans (Ac (o:=.lst (gs.map V.str ++ [odd])) hC8);have X3:(upd (upd G4 C7 (.lst [odd])) C8 (.lst (gs.map V.str ++ [odd]))) C8=some (.lst (gs.map V.str ++ [odd] ++ ([]:List Str).map V.str)):=by rw [ZT,Zx]; exact Ab
  generalize upd (upd G4 C7 (.lst [odd])) C8 (.lst (gs.map V.str ++ [odd]))=G5 at c8 X3;clear c7;have d8:=d6.trans c8;refine ⟨_,rfl,(by show 1<=sizeLine; lia),fun C9 hC9=>?_⟩;have c9:=Ac (o:=.lst [odd]) hC9;refine ⟨_,rfl,C9,gd,_,_,rfl,rfl,Ab,c9 _ _ (d8 _ _ Lc),by rw [X8]; show 1 + gs.length<=sizeLine; lia,fun Sr Xd=>?_⟩;have c10:=c9.trans (Ac (o:=.lst ([odd] ++ gs.map V.str)) Xd);have Ug:(upd (upd G5 C9 (.lst [odd])) Sr (.lst ([odd] ++ gs.map V.str))) Sr=some (.lst (([]:List Str).map V.str ++ [odd] ++ gs.map V.str)):=Ab;generalize upd (upd G5 C9 (.lst [odd])) Sr (.lst ([odd] ++ gs.map V.str))=G6 at c10 Ug;clear c9;have U0:=d8.trans c10;refine ⟨(by show 6<=sizeLine; lia),fun C11 Xc=>?_⟩;have e6:=c8.trans c10;have e5:=c6.trans e6;have e3:=c5.trans e5;have e1:=c3.trans e3;have U8:∀ y ∈ z4,Ek y:=fun y hy=>gok y (zm4 y hy)
  have z3l:z3.length<=10:=by rw [X8,X8] at zl3; lia
  have W7:=Tj.same U0;have tg3:Lx K G6 [.ref C1,.ref C3,.ref C5,.ref C6,.ref C8,.ref Sr]:=
   .cons (Cy (e1 _ _ X7) (fun y hy=>sok y (zn3 y hy)) (by lia)) (.cons (Cy (e3 _ _ X6) (fun y hy=>(Ye.mp hy).elim (gok y) (U8 y)) (by rw [XI]; lia)) (.cons (Cy (e5 _ _ X5) (fun y hy=>(Ye.mp hy).elim (U8 y) (gok y)) (by rw [XI]; lia)) (.cons (OK (e6 _ _ X4) gok (by lia)) (.cons (L5 (c10 _ _ X3) W7 gok (fun y hy=>nomatch hy) (by show gs.length + 0<=50; lia)) (.cons (L5 Ug W7 (fun y hy=>nomatch hy) gok (by show 0 + gs.length<=50; lia)) .nil)))))
  have Q9:=Ac (o:=.lst [.ref C1,.ref C3,.ref C5,.ref C6,.ref C8,.ref Sr]) Xc;have Qx:=U0.trans Q9;have VD:=(EN.same Qx).app (tg3.same Q9);refine ⟨F1,C11,_,_,rfl,rfl,Qx _ _ hF,Ab,by show 7 + 6<=sizeLine; lia,fun F2 QD=>?_⟩;generalize upd G6 C11 (.lst [.ref C1,.ref C3,.ref C5,.ref C6,.ref C8,.ref Sr])=G7 at Q9 Qx VD QD;clear X7 c1 X6 c3 X5 c5 d5 X4 c6 d6 X3 c8 d8 Ug c10 U0 e6 e5 e3 e1 tg3 W7;have Xg:=Qx _ _ Lc;have od7:=Tj.same Qx;have Su:([V.ref gd,.ref Dr,.ref pl,.ref A1,.ref A2,.ref l1,.ref l2] ++ [V.ref C1,.ref C3,.ref C5,.ref C6,.ref C8,.ref Sr]:List V).length=13:=rfl;generalize ([V.ref gd,.ref Dr,.ref pl,.ref A1,.ref A2,.ref l1,.ref l2] ++ [V.ref C1,.ref C3,.ref C5,.ref C6,.ref C8,.ref Sr]:List V)=F0 at VD Su;obtain ⟨z5,ez5,zl5,zm5⟩:=ED gs none (some sp);obtain ⟨z6,ez6,zl6,zm6⟩:=ED gs (some sp) none;have RW:=Ac (o:=.lst F0) QD;have Qk:(upd G7 F2 (.lst F0)) F2=some (.lst F0):=Ab;generalize upd G7 F2 (.lst F0)=G8 at RW Qk;refine ⟨_,rfl,.inl ⟨rfl,_,AA.of Qk⟩,_,rfl,_,rfl,_,rfl,gd,_,rfl,AA.of (RW _ _ Xg),fun E1 hE1=>?_⟩;rw [ez5];have x1:=Ac (o:=.lst (z5.map V.str)) hE1;refine ⟨_,rfl,(by show 1<=sizeLine; lia),fun E2 hE2=>?_⟩;have x2:=Ac (o:=.lst [odd]) hE2;refine ⟨E1,E2,_,_,rfl,rfl,x2 _ _ Ab,Ab,by rw [X8]; show z5.length + 1<=sizeLine; lia,fun E3 hE3=>?_⟩;have x3:=(x1.trans x2).trans (Ac (o:=.lst (z5.map V.str ++ [odd])) hE3);have X2:(upd (upd (upd G8 E1 (.lst (z5.map V.str))) E2 (.lst [odd])) E3 (.lst (z5.map V.str ++ [odd]))) E3=some (.lst (z5.map V.str ++ [odd])):=Ab;generalize upd (upd (upd G8 E1 (.lst (z5.map V.str))) E2 (.lst [odd])) E3 (.lst (z5.map V.str ++ [odd]))=G9 at x3 X2;clear x1 x2;refine ⟨_,rfl,_,rfl,_,rfl,gd,_,rfl,AA.of (x3 _ _ (RW _ _ Xg)),fun E4 hE4=>?_⟩;rw [ez6];have x4:=Ac (o:=.lst (z6.map V.str)) hE4;refine ⟨E3,E4,_,_,rfl,rfl,x4 _ _ X2,Ab,by rw [XI,X8,X8]; show z5.length + 1 + z6.length<=sizeLine; lia,fun E5 hE5=>?_⟩;have x5:=(x3.trans x4).trans (Ac (o:=.lst (z5.map V.str ++ [odd] ++ z6.map V.str)) hE5);have X1:(upd (upd G9 E4 (.lst (z6.map V.str))) E5 (.lst (z5.map V.str ++ [odd] ++ z6.map V.str))) E5=some (.lst (z5.map V.str ++ [odd] ++ z6.map V.str)):=Ab;have nE5:E5 ≠ F2:=fun e=>by
   have:=(x3.trans x4) _ _ Qk;rw [<-e,hE5] at this;cases this
  generalize upd (upd G9 E4 (.lst (z6.map V.str))) E5 (.lst (z5.map V.str ++ [odd] ++ z6.map V.str))=Wq at x5 X1;refine ⟨F2,_,_,rfl,rfl,x5 _ _ Qk,by lia,?_⟩;have sA:=Er (o:=.lst (F0 ++ [.ref E5])) (RW.trans x5) QD;have E5g:(upd Wq F2 (.lst (F0 ++ [.ref E5]))) E5=some (.lst (z5.map V.str ++ [odd] ++ z6.map V.str)):=by rw [Af nE5]; exact X1
  have Vx:(upd Wq F2 (.lst (F0 ++ [.ref E5]))) F2=some (.lst (F0 ++ [.ref E5])):=Ab;have tg5:Lx K (upd Wq F2 (.lst (F0 ++ [.ref E5]))) (F0 ++ [.ref E5]):=(VD.same sA).app (.cons (L5 E5g (od7.same sA) (fun y hy=>gok y (zm5 y hy)) (fun y hy=>gok y (zm6 y hy)) (by lia)) .nil);generalize upd Wq F2 (.lst (F0 ++ [.ref E5]))=J1 at sA Vx tg5;have Xf:=sA _ _ Xg;have P1':CP K J1 p:=((P8.same Rb).same Qx).same sA;have kAll:AI p H J1:=q8.trans (AI.of_same ((Rb.trans Qx).trans sA));clear x3 x4 x5 X2 X1 E5g Qk RW Qx Q9 od7 Tj EN VD;refine ⟨_,rfl,_,rfl,_,rfl,gd,rfl,⟨_,AA.of Xf⟩,?_⟩;refine CF Bk (xs:=gs.map V.str) (fun D i Ar H' acc=>∃ v0:Option V,Ar=[v0]/\Au J1 H'/\H' D=some (.lst acc)/\acc.length=i/\∀ (j:Nat) v y,acc[j]? = some v->gs[j]? = some y->∃ t,v=.ref t/\t ≠ D/\H' t=some (.tup [.str y,.bl true]))
   (by rw [X8]; lia) (fun D hD=>⟨_,rfl,Ac hD,Ab,rfl,fun j v y e=>by cases e⟩) (fun D i Ar H' acc hD ⟨v0,_,sa,BB,al,_⟩=>⟨AA.of (sa _ _ Xf),BB,al⟩) ?_ ?_
  ·rintro D i Ar H' acc x' Y hD ex ⟨v0,rfl,sa,BB,al,hac⟩ hY;obtain ⟨y,ey,rfl⟩:∃ y,gs[i]? = some y/\x'=.str y:=by
    rw [XU] at ex;cases z:gs[i]? with
    | none=>rw [z] at ex; cases ex
    | some y=>rw [z] at ex; exact ⟨y,rfl,(Yi.inj ex).symm⟩
   refine ⟨_,rfl,(by show 2<=sizeLine; lia),fun T hT=>?_⟩;have sT:=Ac (o:=.tup [.str y,.bl true]) hT;have nT:T ≠ D:=fun e=>by rw [e,BB] at hT; cases hT
   refine hY _ _ _ (sT _ _ BB) ⟨_,rfl,Er (sa.trans sT) hD,Ab,by rw [XI,al]; rfl,fun j v y' e1 e2=>?_⟩;by_cases hj:j < i
   ·rw [Y8 (by lia)] at e1;obtain ⟨t,rfl,nt,ht⟩:=hac j v y' e1 e2;exact ⟨t,rfl,nt,by rw [Af nt]; exact sT _ _ ht⟩
   ·have hj2:j=i:=by
     have:=(XX.mp e1).1;rw [XI,Y1] at this;lia
    subst hj2;rw [YD (by lia),al,ae] at e1;cases e1
    rw [ey] at e2;cases e2
    exact ⟨T,rfl,nT,by rw [Af nT]; exact Ab⟩
  ·rintro D Ar H' acc hD ⟨v0,rfl,sa,BB,al,hac⟩;rw [X8] at al;refine ⟨D,acc,gs.map fun y=>(y,V.bl true),rfl,BB,by rw [X8,al],fun j v q e1 e2=>?_,by rw [Y7,show ((fun x:Str × V=>x.fst) ∘ fun y:Str=>(y,V.bl true))=id from rfl,List.map_id]; exact gnd,by rw [X8]; lia,fun Di hDi=>?_⟩
   ·rw [XU] at e2;cases z:gs[j]? with
    | none=>rw [z] at e2; cases e2
    | some y=>
     rw [z] at e2;cases e2
     obtain ⟨t,e,_,ht⟩:=hac j v y e1 z;exact ⟨t,e,ht⟩
   have b1:=sa.trans (Ac (o:=.dK (sK (gs.map fun y=>(y,V.bl true)))) hDi);have Dif:(upd H' Di (.dK (sK (gs.map fun y=>(y,V.bl true))))) Di=some (.dK (sK (gs.map fun y=>(y,V.bl true)))):=Ab;generalize upd H' Di (.dK (sK (gs.map fun y=>(y,V.bl true))))=J2 at b1 Dif;refine ⟨(by show 0<=sizeLine; lia),fun U1 hU1=>?_⟩;have b2:=Ac (o:=.tup []) hU1;have U1f:(upd J2 U1 (.tup [])) U1=some (.tup (([]:List Str).map V.str)):=Ab;generalize upd J2 U1 (.tup [])=J3 at b2 U1f;refine ⟨_,rfl,(by show 1<=sizeLine; lia),fun U2 hU2=>?_⟩;have b3:=Ac (o:=.lst [.ref gd]) hU2;have U2f:(upd J3 U2 (.lst [.ref gd])) U2=some (.lst [.ref gd]):=Ab;generalize upd J3 U2 (.lst [.ref gd])=J4 at b3 U2f;refine ⟨(by show 1<=sizeLine; lia),fun U3 hU3=>?_⟩;have b4:=Ac (o:=.lst [.non]) hU3;have U3f:(upd J4 U3 (.lst [.non])) U3=some (.lst [.non]):=Ab;generalize upd J4 U3 (.lst [.non])=J5 at b4 U3f;have b24:=(b2.trans b3).trans b4;have b14:=b1.trans b24;refine ⟨(by show 9<=sizeLine; lia),fun U4 hU4=>?_⟩;have V1:=b14 _ _ Xf;have fsg:FS (.list (gs.map PyData.str)) 1 (60 * 101):=(FS.list (k:=0) (b:=100) fun d hd=>by
    obtain ⟨y,hy,rfl⟩:=Ya.mp hd;exact FS.str (gok y hy)).mono (XD _) (by rw [X8]; lia)
   have tg6:Lx K J5 [.non,.str "",.str one,.ref Di,.int 3,.bl true,.ref U1,.ref U2,.ref U3]:=
    .cons S2 (.cons (OL ⟨by decide,by decide⟩) (.cons (OL okOne) (.cons (S4 (b24 _ _ Dif) gok (by lia)) (.cons (S3 (by decide)) (.cons (tg_bl true) (.cons (OK (b4 _ _ (b3 _ _ U1f)) (fun y hy=>nomatch hy) (by decide)) (.cons (OM (b4 _ _ U2f) (.lst V1 (BE _ gs)) fsg (by simp only [PyData.hasDict]; exact BS gs) (.inr ⟨_,.lst V1,rfl⟩)) (.cons (OM U3f .non (Ky.none.fs.mono (by decide) (by decide)) rfl (.inr ⟨_,.non,rfl⟩)) .nil))))))))
   have b5:=Ac (o:=.lst [.non,.str "",.str one,.ref Di,.int 3,.bl true,.ref U1,.ref U2,.ref U3]) hU4;have b15:=b14.trans b5;refine ⟨F2,U4,_,_,rfl,rfl,b15 _ _ Vx,Ab,by rw [XI,Su]; show 13 + 1 + 9<=sizeLine; lia,fun F3 Vw=>?_⟩;have b6:=Ac (o:=.lst (F0 ++ [.ref E5] ++ [.non,.str "",.str one,.ref Di,.int 3,.bl true,.ref U1,.ref U2,.ref U3])) Vw;have bb:=b15.trans b6;refine ⟨_,rfl,k _ F3 _ (P1'.same bb) (kAll.trans (AI.of_same bb)) Ab ?_ ((tg5.same bb).app (tg6.same (b5.trans b6)))⟩;rw [XI,XI,Su];show 13 + 1 + 9<=60
   decide
end
section
variable {P:Program} {w:World} {K:XB} {mg:Str->Option Value} {base:Heap}
theorem Gj (h_isinstance:mg "isinstance"=none) (h_list:mg "list"=none) (h_set:mg "set"=none) (h_sorted:mg "sorted"=none) (h_str:mg "str"=none) {f:Addr} {fd:FuncData} (F:Fz K "_law_is_listed" "_law_is_listed" BD f fd):AJ P w K mg base BN 1 f fd ["_law_thing","_law_places"] (Gf K):=by
 refine F.ok DA (fun vs H Q E h=>?_) (fun cdv A outer s H vs Q E hr h=>?_)
 ·obtain ⟨v,pl,ss,rfl,_⟩:=h;rfl
 ·obtain ⟨v,pl,ss,rfl,th,hp,nm,k⟩:=h;have nd:=DA.nd;have Ih:=hr.units;have big:100000 < sizeLine:=by decide
  refine ⟨_,(Ae (CN (Et (Es (Ai CH (by rfl) h_isinstance PyProof.Rows.boot_isinstance (Aa (pv 0) (Aa (FJ (v:=.ty "list") (by rfl) h_list PyProof.Rows.boot_list rfl) Ad))))) (Ak (AH Dv)) B6)
  (Ae (Bv PassesOwn.never rfl (By K rfl (pv 0)) (Al (i:=2) nd rfl (Or.inl rfl))
  (Ak (CN (HF (Et (Es (Ai CH (by rfl) h_isinstance PyProof.Rows.boot_isinstance (Aa (pv 2) (Aa (FJ (v:=.ty "str") (by rfl) h_str PyProof.Rows.boot_str rfl) Ad))))) (Gh (B5 (NH K rfl) (pv 2) (pv 1) (by rfl)))).pt (Ak (AH Dv)) B6)))
  (Ak (AH (EV (J7 Ih) (pv 0) (Ai (Ca rfl) (by rfl) h_sorted PyProof.Rows.boot_sorted (Aa (AF (EG K rfl rfl) (by rfl) h_set PyProof.Rows.boot_set (Aa (pv 0) Ad)) Ad)) (B9 _)))))),?_⟩
  rcases th with ⟨l,us,rfl,hl,it,few⟩ | nl
  ·refine ⟨_,rfl,_,"list",_,_,rfl,.lst hl,rfl,_,rfl,?_⟩;refine Ej ?_;have no:∀ {x:V},x ∈ us->(∀ y,x=.str y->y ∉ ss)->Q (.bl false) H:=fun {x} hx z=>by
    refine k false H (Au.refl _) ⟨(fun q=>by cases q),fun ⟨l',ys,e1,e2,e3,_⟩=>?_⟩;cases e1
    rw [hl] at e2;injection e2 with e2;injection e2 with e2;rw [e2] at hx;obtain ⟨y,hy,rfl⟩:=Ya.mp hx;exact absurd (e3 y hy) (z y rfl)
   refine ⟨_,rfl,l,rfl,⟨_,AA.of hl⟩,?_⟩;refine E8 (xs:=us) (fun i σ H'=>∃ (v2:Option V) (ys:List Str),σ=[some (.ref l),some (.ref pl),v2]/\H'=H/\us.take i=ys.map V.str/\∀ y ∈ ys,y ∈ ss)
    ⟨_,[],rfl,rfl,rfl,fun y hy=>nomatch hy⟩ (fun i σ H' _ ⟨_,_,_,e,_⟩=>by rw [e]; exact AA.of hl) ?_ ?_
   ·rintro i x σ H' hx ⟨v2,ys,rfl,rfl,ut,yin⟩;have xm:=XG hx;rcases it x xm with ⟨y,rfl,yl⟩ | ns
    ·refine ⟨_,rfl,_,"str",_,_,rfl,.str y,rfl,_,rfl,?_⟩;refine Ej ?_;refine ⟨_,rfl,_,rfl,pl,_,rfl,.inl (AA.of hp),rfl,JH ss,_,rfl,?_⟩;rw [KZ];refine DI (fun z=>?_) (fun z=>?_)
     ·exact no xm fun y' e=>by cases e; simpa using z
     ·have ym:y ∈ ss:=by simpa using z
      refine ⟨_,ys ++ [y],rfl,rfl,by rw [Yk,hx,ut,Yb]; rfl,fun y' hy=>?_⟩;rcases Ye.mp hy with hy | hy
      ·exact yin y' hy
      ·rw [XY.mp hy]; exact ym
    ·obtain ⟨ty,h1,h2⟩:=id ns;refine ⟨_,rfl,x,"str",ty,false,rfl,h1,h2,_,rfl,?_⟩;refine FP (FP ?_);exact no xm fun y' e=>by subst e; exact (LJ ns).elim
   ·rintro σ H' ⟨v2,ys,rfl,rfl,ut,yin⟩;rw [Yq] at ut;subst ut;rw [X8] at few;have yn:∀ y ∈ ys,Bb y=true:=fun y hy=>nm y (yin y hy)
    refine ⟨_,rfl,_,rfl,l,ys,rfl,.inl (AA.of hl),by lia,fun D2 II=>⟨D2,ys,rfl,Ab,by lia,fun l2 Ei Kq UP HX srt=>?_⟩⟩;have s2:=Ac (o:=setS P w D2 ys) II;have s3:=Ac (o:=.lst (Ei.map V.str)) Kq;refine ⟨_,_,.lst (s3 _ _ (s2 _ _ hl)) (BE _ ys),.lst Ab (BE _ Ei),by simp only [PyData.canLay0]; exact E6 yn,by simp only [PyData.canLay0]; exact E6 (fun s hs=>yn s ((HX s).mp hs)),?_,?_⟩
    ·simp only [PyData.depth,Fu];decide
    ·refine k _ _ (s2.trans s3) ?_;rw [Lf];refine ⟨fun e=>⟨l,ys,rfl,hl,yin,(DT UP HX srt).mp (Mq e)⟩,?_⟩;rintro ⟨l',UA,e1,e2,_,r5⟩;cases e1
     rw [hl] at e2;injection e2 with e2;injection e2 with e2;have e6:=F8 e2;subst e6;rw [(DT UP HX srt).mpr r5]
  ·obtain ⟨ty,h1,h2⟩:=id nl;refine ⟨_,rfl,v,"list",ty,false,rfl,h1,h2,_,rfl,?_⟩;refine FP (k false H (Au.refl _) ⟨(fun z=>by cases z),fun ⟨l',ys,e1,e2,_⟩=>?_⟩);subst e1;exact (Fs nl e2).elim
end
section
variable {P:Program} {w:World} {K:XB} {mg:Str->Option Value} {base:Heap}
theorem IV (h_all:mg "all"=none) (h_list:mg "list"=none) (h_sorted:mg "sorted"=none) (h_set:mg "set"=none) {fN:Addr} {fdN:FuncData} (XN:Fn K mg "is_name" EU ["thing"] fN fdN) (GN:AJ P w K mg base BN 1 fN fdN ["thing"] (OV K)) {f:Addr} {fd:FuncData} (F:Fz K "are_rising" "are_rising" CU f fd):AJ P w K mg base BN 2 f fd ["things"] (Jr K):=by
 refine F.ok Fj (fun vs H Q E h=>?_) (fun cdv A outer s H vs Q E hr h=>?_)
 ·obtain ⟨t,xs,rfl,_⟩:=h;rfl
 ·obtain ⟨t,xs,rfl,ht,it,few,k⟩:=h;have nd:=Fj.nd;have Ih:=hr.units;have big:100000 < sizeLine:=by decide
  refine ⟨_,(Ak (AH (PF (Ai (EH rfl) (by rfl) h_all PyProof.Rows.boot_all (Aa (BQ (N:=["thing"]) (σ0:=fun _=>[none]) rfl (AS.plain (by decide +kernel) (by decide +kernel) rfl (by decide +kernel)) (fun σ _=>AU.none _ _ _ ["thing"] σ) (SR (pv 0))
   (fun s2 H C fp=>⟨Al (i:=0) (show (["thing"]:List Str).Nodup by decide +kernel) rfl (Or.inl rfl),Br,(Aj GN (hr.mono (by decide)) (by rfl) XN.mg XN.F.kp XN.b .nil Aw (Aa (pv 0) Ad))⟩)) Ad))
   (Px (EV (J7 Ih) (AF FU (by rfl) h_list PyProof.Rows.boot_list (Aa (pv 0) Ad)) (Ai (Ca rfl) (by rfl) h_sorted PyProof.Rows.boot_sorted (Aa (AF (EG K rfl rfl) (by rfl) h_set PyProof.Rows.boot_set (Aa (pv 0) Ad)) Ad)) (B9 _)))))),?_⟩
  have seq:∀ H',Au H H'->AA K H' t xs\/AM K H' t xs:=fun H' sa=>.inl (AA.of (sa _ _ ht))
  refine ⟨_,rfl,t,rfl,.inl ⟨⟨_,AA.of ht⟩,?_⟩⟩;refine CF Bk (xs:=xs) (fun D i σ H' acc=>∃ v0:Option V,σ=[v0]/\Au H H'/\H' D=some (.lst acc)/\acc=((xs.take i).map HU).map V.bl/\acc.length=i)
    (by lia) (fun D hD=>⟨_,rfl,Ac hD,Ab,rfl,rfl⟩) (fun D i σ H' acc hD ⟨v0,_,sa,BB,_,al⟩=>⟨AA.of (sa _ _ ht),BB,al⟩) ?_ ?_
  ·rintro D i σ H' acc x B hD ex ⟨v0,rfl,sa,BB,rfl,al⟩ hB;have step:∀ H5,Au H' H5->B [some x] (.bl (HU x)) H5:=fun H5 s5=>by
    refine hB _ _ _ (s5 _ _ BB) ⟨_,rfl,fun b o e=>?_,Ab,?_,by rw [XI,al]; rfl⟩
    ·rw [Af (Ah e hD)];exact s5 _ _ (sa _ _ e)
    ·rw [Yk,ex,Yb,Yb];rfl
   refine ⟨_,rfl,x,rfl,?_⟩;rcases it x (XG ex) with ⟨y,rfl,yl⟩ | ns
   ·exact .inl ⟨y,rfl,yl,step⟩
   ·have z:=step _ (Au.refl _);rw [NO ns] at z;exact .inr ⟨ns.same sa,z⟩
  ·rintro D σ H' acc hD ⟨v0,rfl,sa,BB,rfl,al⟩;rw [Yq] at BB;refine ⟨D,xs.map HU,rfl,AA.of BB,_,rfl,?_⟩;refine DI (fun z=>?_) (fun z=>?_)
   ·obtain ⟨ss,rfl,hn⟩:=HS z;rw [X8] at few;refine ⟨_,rfl,t,_,rfl,seq _ sa,fun l hl=>?_⟩;have s1:=Ac (o:=.lst (ss.map V.str)) hl;refine ⟨_,rfl,t,ss,rfl,seq _ (sa.trans s1),by lia,fun D2 II=>⟨D2,ss,rfl,Ab,by lia,fun l2 Ei Kq UP HX srt=>?_⟩⟩;have s2:=Ac (o:=setS P w D2 ss) II;have s3:=Ac (o:=.lst (Ei.map V.str)) Kq;refine ⟨_,_,.lst (s3 _ _ (s2 _ _ Ab)) (BE _ ss),.lst Ab (BE _ Ei),by simp only [PyData.canLay0]; exact E6 hn,by simp only [PyData.canLay0]; exact E6 (fun s hs=>hn s ((HX s).mp hs)),?_,?_⟩
    ·simp only [PyData.depth,Fu];decide
    ·refine k _ _ (sa.trans (s1.trans (s2.trans s3))) ?_;rw [Lf];refine ⟨fun e=>⟨ss,rfl,hn,(DT UP HX srt).mp (Mq e)⟩,?_⟩;rintro ⟨s5,e5,_,r5⟩;have e6:ss=s5:=by
      have inj:∀ {a b:List Str},a.map V.str=b.map V.str->a=b:=by
       intro a;induction a with
       | nil=>intro b e; cases b with | nil=>rfl | cons _ _=>cases e
       | cons x a ih=>
        intro b e;cases b with
        | nil=>cases e
        | cons y b=>
         rw [Yj,Yj] at e;injection e with e1 e2;injection e1 with e1;rw [e1,ih e2]
      exact inj e5
     subst e6;rw [(DT UP HX srt).mpr r5]
   ·refine k _ _ sa ⟨fun q=>absurd q (by decide),fun ⟨ss,e,hn,_⟩=>?_⟩;rw [e] at z;exact absurd (Mc hn) z
end
section
variable {P:Program} {w:World} {K:XB} {mg:Str->Option Value} {base:Heap}
theorem Kk (h_len:mg "len"=none) (h_max:mg "max"=none) (h_min:mg "min"=none) (h_range:mg "range"=none) {fT:Addr} {fdT:FuncData} (XT:Fn K mg "_law_take" AE ["_law_pen","_law_many"] fT fdT) (GT:AJ P w K mg base BN 1 fT fdT ["_law_pen","_law_many"] (CQ K)) {f:Addr} {fd:FuncData} (F:Fz K "_law_mosts" "_law_mosts" Dq f fd):AJ P w K mg base BN 2 f fd ["_law_pen","_law_case_here","_law_lengths_here"] (K9 K):=by
 refine F.ok FC (fun vs H Q E h=>?_) (fun cdv A outer s H vs Q E hr h=>?_)
 ·obtain ⟨p,c,A0,m,n,xs,ws,Bj,Bc,x,d,rfl,_⟩:=h;rfl
 ·obtain ⟨p,c,A0,m,n,xs,ws,Bj,Bc,x,d,rfl,hP,cs,kn,k⟩:=h;have nd:=FC.nd;have hu:=Dy hr;have big:100000 < sizeLine:=by decide
  refine ⟨_,(Ae (Aq (i:=3) nd rfl (Or.inl rfl) (Ai (Jc rfl) (by rfl) h_max PyProof.Rows.boot_max (Aa (Pz (fun x=>decide (x=("_law_place":Str))) (N:=["_law_place","_law_many","_law_case_here","_law_lengths_here"]) (σ0:=fun σ=>[none,none,some 1,some 2].map fun j=>j.bind fun j=>(σ[j]?).join) rfl (D3.caught (by rfl) rfl (by decide +kernel) (by intro y hy; simp only [XC,XZ,or_false] at hy; rcases hy with rfl | rfl <;> rfl) (by refine List.Pairwise.cons (fun y hy=>?_) (Za _ _); rw [XY.mp hy]; show @Ne Nat _ _; lia)
   (by intro y hy e; simp only [XC,XZ,or_false] at hy; rcases hy with rfl | rfl | rfl | rfl | rfl | rfl <;> first | exact ⟨_,Yh⟩ | exact ⟨_,Yg _ Yh⟩ | cases e)) (by intro x h; have h':=of_decide_eq_true h; subst h'; decide +kernel) (fun σ _=>AU.of [none,none,some 1,some 2] rfl (by
   intro i j x h1 h2;match i,h1,h2 with
   | 0,_,h2=>cases h2
   | 1,_,h2=>cases h2
   | 2,h1,h2=>cases h1; cases h2; exact ⟨rfl,.inl rfl,.inl rfl⟩
   | 3,h1,h2=>cases h1; cases h2; exact ⟨rfl,.inl rfl,.inl rfl⟩
   | n + 4,h1,_=>cases h1)) (by
   intro σ i x v h1 h2;match i,h1,h2 with
   | 0,_,h2=>cases h2
   | 1,_,h2=>cases h2
   | 2,h1,h2=>cases h1; decide +kernel
   | 3,h1,h2=>cases h1; decide +kernel
   | n + 4,h1,_=>cases h1) (Bs K rfl (A4 (Ay K rfl) (pv 1) Ag (fun _ _=>rfl)))
   (fun s2 H C fp=>⟨(BP K rfl (n:=2) rfl (Az (Al (i:=0) (show (["_law_place","_law_many","_law_case_here","_law_lengths_here"]:List Str).Nodup by decide +kernel) rfl (Or.inr rfl) (.inl (by dsimp only; exact decide_eq_true rfl))) (Az (Al (i:=1) (show (["_law_place","_law_many","_law_case_here","_law_lengths_here"]:List Str).Nodup by decide +kernel) rfl (Or.inl rfl)) BO))),Br,(Ai (Jb rfl) (by rfl) h_min PyProof.Rows.boot_min (Aa (BQ (N:=["_law_site","_law_amount","_law_place","_law_lengths_here"]) (σ0:=fun σ=>[none,none,some 0,some 3].map fun j=>j.bind fun j=>(σ[j]?).join) rfl (AS.caught (by rfl) (by decide +kernel) rfl (by decide +kernel) (by intro y hy; simp only [XC,XZ,or_false] at hy; rcases hy with rfl | rfl <;> rfl)
   (by intro y hy e; simp only [XC,XZ,or_false] at hy; rcases hy with rfl | rfl | rfl | rfl | rfl <;> first | exact ⟨_,rfl⟩ | cases e)) (fun σ _=>AU.of [none,none,some 0,some 3] rfl (by
   intro i j x h1 h2;match i,h1,h2 with
   | 0,_,h2=>cases h2
   | 1,_,h2=>cases h2
   | 2,h1,h2=>cases h1; cases h2; exact ⟨rfl,.inl rfl,.inl rfl⟩
   | 3,h1,h2=>cases h1; cases h2; exact ⟨rfl,.inl rfl,.inl rfl⟩
   | n + 4,h1,_=>cases h1)) (Bs K rfl (A4 (Ay K rfl) (pv 2) Ag (fun _ _=>rfl)))
   (fun s2 H C fp=>⟨(BP K rfl (n:=2) rfl (Az (Al (i:=0) (show (["_law_site","_law_amount","_law_place","_law_lengths_here"]:List Str).Nodup by decide +kernel) rfl (Or.inl rfl)) (Az (Al (i:=1) (show (["_law_site","_law_amount","_law_place","_law_lengths_here"]:List Str).Nodup by decide +kernel) rfl (Or.inl rfl)) BO))),Br,(Bt hu (pv 3) (Bm (Aa (pv 0) (Aa (pv 2) Ad))) (fun _ _=>rfl))⟩)) Ad))⟩)) Ad)))
  (Ae (Aq (i:=4) nd rfl (Or.inl rfl) (AN (Aa Ag (Aa (As Ew (As PK Ag Ag) Ag) (Aa (pv 3) (Aa (Ai (Gs rfl) (by rfl) h_max PyProof.Rows.boot_max (Aa Ag (Aa (As Ew (pv 3) Ag) Ad))) Ad))))))
  (Ae (Bv PassesOwn.never rfl (Dc (by rfl) h_range (Aa Ag Ad)) (Al (i:=5) nd rfl (Or.inl rfl))
  (Ae (Aq (i:=6) nd rfl (Or.inl rfl) (A4 (Ay K rfl) (A4 (Ay K rfl) (A4 (Ay K rfl) (pv 1) Ag (fun _ _=>rfl)) (Aj GT (hr.mono (by decide)) (by rfl) XT.mg XT.F.kp XT.b .nil Aw (Aa (pv 0) (Aa (Ai (Av K rfl) (by rfl) h_len PySem.boot_len (Aa (A4 (Ay K rfl) (pv 1) Ag (fun _ _=>rfl)) Ad)) Ad))) (fun _ _=>rfl)) Ag (fun _ _=>rfl)))
  (Ae (Aq (i:=7) nd rfl (Or.inl rfl) (Bt hu (pv 2) (Bm (Aa (pv 6) (Aa (A4 (Ay K rfl) (A4 (Ay K rfl) (A4 (Ay K rfl) (pv 1) Ag (fun _ _=>rfl)) (Aj GT (hr.mono (by decide)) (by rfl) XT.mg XT.F.kp XT.b .nil Aw (Aa (pv 0) (Aa (Ai (Av K rfl) (by rfl) h_len PySem.boot_len (Aa (A4 (Ay K rfl) (pv 1) Ag (fun _ _=>rfl)) Ad)) Ad))) (fun _ _=>rfl)) Ag (fun _ _=>rfl)) Ad))) (fun _ _=>rfl)))
  (Ak (Aq (i:=4) nd rfl (Or.inl rfl) (As Cu (pv 4) (AN (Aa (pv 7) (Aa (Ai (Gs rfl) (by rfl) h_max PyProof.Rows.boot_max (Aa Ag (Aa (As Ew (pv 7) Ag) Ad))) (Aa (As Be (pv 7) Ag) Ad))))))))))
  (Ak (AH (pv 4)))))),?_⟩
  obtain ⟨t1,t2,L1,F0,hc,La,O4,Fo,hd2⟩:=cs.cw.ex;have ul1:=Ci O4;have Q7:=Ci hd2;have l6:=cs.l6;have l8:=cs.l8;have o1:=cs.cw.ok1.one;have o2:=cs.cw.ok2.one;refine ⟨_,rfl,c,_,_,_,rfl,rfl,AM.of hc,rfl,t2,rfl,⟨_,AM.of Fo⟩,?_⟩;refine CF DC (xs:=F0) (fun D i Ar H' acc=>∃ (v0 v1:Option V) (ns:List Int),Ar=[v0,v1,some (.ref c),some (.ref A0)]/\Au H H'/\H' D=some (.lst acc)/\acc=ns.map V.int/\acc.length=i)
   (by lia) (fun D hD=>⟨_,_,[],rfl,Ac hD,Ab,rfl,rfl⟩) (fun D i Ar H' acc hD ⟨v0,v1,ns,_,sa,BB,_,al⟩=>⟨AM.of (sa _ _ Fo),BB,al⟩) ?_ ?_
  ·rintro D i Ar H' acc x' B hD ex ⟨v0,v1,ns,rfl,sa,BB,ea,al⟩ hB;obtain ⟨r,t,er,rfl,ht⟩:=BX hd2 ex;have rx:=cs.cw.ok2.sub r (XG er);refine ⟨t,_,rfl,AM.of (sa _ _ ht),rfl,_,_,rfl,_,_,rfl,rfl,?_⟩;refine ⟨_,rfl,c,_,_,_,rfl,rfl,AM.of (sa _ _ hc),rfl,t1,rfl,⟨_,AM.of (sa _ _ La)⟩,?_⟩;refine CF DC (xs:=L1) (fun D2 j A6 H2 Ou=>∃ (w0 w1:Option V) (Tn:List Int),A6=[w0,w1,some (.str r.1),some (.ref A0)]/\Au H' H2/\H2 D2=some (.lst Ou)/\Ou=Tn.map V.int/\Ou.length=j)
    (by lia) (fun D2 II=>⟨_,_,[],rfl,Ac II,Ab,rfl,rfl⟩) (fun D2 j A6 H2 Ou II ⟨w0,w1,Tn,_,sb,h2,_,al⟩=>⟨AM.of (sb _ _ (sa _ _ La)),h2,al⟩) ?_ ?_
   ·rintro D2 j A6 H2 Ou x2 B2 II Oh ⟨w0,w1,Tn,rfl,sb,h2,Wj,Wm⟩ Uy;obtain ⟨u,t',eu,rfl,Uq⟩:=BX O4 Oh;have ux:=cs.cw.ok1.sub u (XG eu);refine ⟨t',_,rfl,AM.of (sb _ _ (sa _ _ Uq)),rfl,_,_,rfl,_,_,rfl,rfl,?_⟩;refine ⟨_,rfl,_,rfl,_,rfl,(by show 2<=sizeLine; lia),fun T hT=>?_⟩;have sT:=sb.trans (Ac (o:=.tup [.str u.1,.str r.1]) hT);have g:=((kn.same sa).same sT).get (y:=u.1) (z:=r.1) (t:=T) ux rx Ab;have h2T:=Ac (o:=.tup [.str u.1,.str r.1]) hT _ _ h2;generalize upd H2 T (.tup [.str u.1,.str r.1])=H3 at sT g h2T;refine ⟨A0,_,rfl,g.1,?_⟩;refine Uy _ _ _ h2T ⟨_,_,Tn ++ [_],rfl,fun b o' z=>by rw [Af (Ah z II)]; exact sT _ _ z,Ab,by rw [Wj,Yb]; rfl,by rw [XI,Wm]; rfl⟩
   ·rintro D2 A6 H2 Ou II ⟨w0,w1,Tn,rfl,sb,h2,Wj,Wm⟩;have n2:Tn ≠ []:=by
     rintro rfl;rw [Wj] at Wm;have:(0:Nat)=L1.length:=Wm;lia
    refine ⟨D2,Tn,rfl,by rw [h2,Wj],n2,fun mn _ _=>?_⟩;refine hB _ _ _ (sb _ _ BB) ⟨_,_,ns ++ [mn],rfl,fun b o' z=>by rw [Af (Ah z hD)]; exact sb _ _ (sa _ _ z),Ab,by rw [ea,Yb]; rfl,by rw [XI,al]; rfl⟩
  rintro D Ar H1 acc hD ⟨v0,v1,ns,rfl,s1,BB,ea,al⟩;have n1:ns ≠ []:=by
   rintro rfl;rw [ea] at al;have:(0:Nat)=F0.length:=al;lia
  refine ⟨D,ns,rfl,AA.of (by rw [BB,ea]),n1,fun far _ _=>?_⟩;refine ⟨_,_,rfl,rfl,(by refine ⟨?_,?_,?_⟩ <;> decide),_,_,rfl,rfl,_,rfl,_,rfl,_,_,rfl,rfl,_,_,rfl,(by show 4<=sizeLine; lia),fun F hF=>?_⟩;have P1:=hP.same s1;have P2:=P1.same (Ac (o:=.lst [.int 0,.int ((10:Int) ^ (30:Int).toNat - 1),.int far,.int (if far - 1 > 0 then far - 1 else 0)]) hF);have s2:=s1.trans (Ac (o:=.lst [.int 0,.int ((10:Int) ^ (30:Int).toNat - 1),.int far,.int (if far - 1 > 0 then far - 1 else 0)]) hF);have hFF:(upd H1 F (.lst [.int 0,.int ((10:Int) ^ (30:Int).toNat - 1),.int far,.int (if far - 1 > 0 then far - 1 else 0)])) F=some (.lst (([0,(10:Int) ^ (30:Int).toNat - 1,far,(if far - 1 > 0 then far - 1 else 0)]:List Int).map V.int)):=Ab;have fF:=s1.free0 hF;generalize upd H1 F (.lst [.int 0,.int ((10:Int) ^ (30:Int).toNat - 1),.int far,.int (if far - 1 > 0 then far - 1 else 0)])=H2 at P2 s2 hFF;obtain ⟨VR,en0,n04⟩:∃ VR:List Int,([0,(10:Int) ^ (30:Int).toNat - 1,far,(if far - 1 > 0 then far - 1 else 0)]:List Int)=VR/\VR.length=4:=⟨_,rfl,rfl⟩
  rw [en0] at hFF;have rowAt:∀ {us:List V} {rs:List Fx} {HH:Hp} (e:Int),BM HH us (rs.map HE)->0<=e->e < (us.length:Int)->∃ r t,r ∈ rs/\Jf us e=some (.ref t)/\HH t=some (.tup [.str r.1,.int r.2]):=fun {us rs HH} e dd e0 e1=>by
   obtain ⟨j,rfl⟩:∃ j:Nat,e=j:=⟨e.toNat,by lia⟩
   have hj:j < us.length:=by lia
   obtain ⟨r,t,er,et,ht⟩:=BX dd (XA hj);exact ⟨r,t,XG er,by rw [CY (XA hj),et],ht⟩
  refine ⟨_,rfl,by decide,by decide,?_⟩;refine Dd (n:=3) (lo:=0) (fun i σ H'=>∃ (F':Addr) (ns:List Int) (v5 v6 v7:Option V),σ=[some (.ref p),some (.ref c),some (.ref A0),some (.int far),some (.ref F'),v5,v6,v7]/\CP K H' p/\AI p H H'/\H F'=none/\H' F'=some (.lst (ns.map V.int))/\ns.length=4 + 3 * i)
   ⟨F,VR,_,_,_,rfl,P2,AI.of_same s2,fF,hFF,n04⟩ ?_ ?_
  ·rintro i σ H3 hi ⟨F',ns,v5,v6,v7,rfl,P3,k3,Xj,Vw,nl⟩;have t3:=Cq hP k3;have hc3:=t3 _ _ hc;have WK:=t3 _ _ La;have ht23:=t3 _ _ Fo;refine ⟨_,rfl,c,_,_,_,rfl,rfl,AM.of hc3,rfl,_,rfl,_,rfl,c,_,_,_,rfl,rfl,AM.of hc3,rfl,t1,_,rfl,.inr (AM.of WK),p,_,rfl,P3,by lia,by lia,fun e H4 P4 k4 e0 e1=>?_⟩;have k34:=k3.trans k4;have t4:=Cq hP k34;obtain ⟨r,tr,rm,ar,htr⟩:=rowAt e O4 e0 e1;have rx:=cs.cw.ok1.sub r rm;refine ⟨t1,_,_,_,rfl,rfl,AM.of (t4 _ _ La),ar,tr,_,_,_,rfl,rfl,AM.of (t4 _ _ htr),rfl,?_⟩;refine ⟨_,rfl,_,rfl,_,rfl,c,_,_,_,rfl,rfl,AM.of (t4 _ _ hc),rfl,_,rfl,_,rfl,c,_,_,_,rfl,rfl,AM.of (t4 _ _ hc),rfl,t2,_,rfl,.inr (AM.of (t4 _ _ Fo)),p,_,rfl,P4,by lia,by lia,fun e' H5 P5 k5 e0' RI=>?_⟩;have WD:=k34.trans k5;have t5:=Cq hP WD;obtain ⟨q,tq,qm,aq,htq⟩:=rowAt e' hd2 e0' RI;have qx:=cs.cw.ok2.sub q qm;refine ⟨t2,_,_,_,rfl,rfl,AM.of (t5 _ _ Fo),aq,tq,_,_,_,rfl,rfl,AM.of (t5 _ _ htq),rfl,(by show 2<=sizeLine; lia),fun T hT=>?_⟩;have sT:=Ac (o:=.tup [.str r.1,.str q.1]) hT;have g:=((kn.keep5 hP WD).same sT).get (y:=r.1) (z:=q.1) (t:=T) rx qx Ab;have P6:=P5.same sT;have k6:=WD.trans (AI.of_same sT);have nF:F' ≠ p:=hP.ne Xj;have hF6:=sT _ _ (k5 _ _ nF (k4 _ _ nF Vw));generalize upd H5 T (.tup [.str r.1,.str q.1])=H6 at g P6 k6 hF6;refine ⟨A0,_,rfl,g.1,?_⟩;generalize dst ws q.1 r.1=dd;refine ⟨_,rfl,_,rfl,_,rfl,_,_,rfl,rfl,_,_,rfl,_,rfl,_,_,rfl,rfl,(by show 3<=sizeLine; lia),fun T2 O5=>?_⟩;have VI:=Ac (o:=.lst [.int dd,.int (if dd - 1 > 0 then dd - 1 else 0),.int (dd + 1)]) O5;refine ⟨F',T2,_,_,rfl,rfl,VI _ _ hF6,Ab,by rw [X8]; show ns.length + 3<=sizeLine; lia,fun F2 QD=>?_⟩;have RW:=VI.trans (Ac (o:=.lst (ns.map V.int ++ [.int dd,.int (if dd - 1 > 0 then dd - 1 else 0),.int (dd + 1)])) QD);have nF2:F2 ≠ p:=(P6.same VI).ne QD;have k7:=k6.trans (AI.of_same RW);refine ⟨F2,ns ++ [dd,(if dd - 1 > 0 then dd - 1 else 0),dd + 1],_,_,_,rfl,P6.same RW,k7,?_,by rw [Yb]; exact Ab,by rw [XI,nl]; show 4 + 3 * i + 3=_; lia⟩;cases z:H F2 with
   | none=>rfl
   | some o=>
    have:=VI _ _ (k6 _ _ nF2 z);rw [QD] at this;cases this
  ·rintro σ H3 ⟨F',ns,v5,v6,v7,rfl,P3,k3,Xj,Vw,nl⟩;exact ⟨_,rfl,k H3 F' ns P3 k3 Xj Vw nl⟩
end
section
variable {P:Program} {w:World} {K:XB} {mg:Str->Option Value} {base:Heap}
theorem Gi  {fSF:Addr} {fdSF:FuncData} (XSF:Fn K mg "site_fars" Dn ["case"] fSF fdSF) (GSF:AJ P w K mg base BN 4 fSF fdSF ["case"] HA) {f:Addr} {fd:FuncData} (F:Fz K "served_within" "served_within" BY f fd):AJ P w K mg base BN 5 f fd ["case","far"] Jp:=by
 refine F.ok D9 (fun vs H Q E h=>?_) (fun cdv A outer s H vs Q E hr h=>?_)
 ·obtain ⟨c,m,mo,n,xs,ws,Bj,Bc,x,d,rfl,_⟩:=h;rfl
 ·obtain ⟨c,m,mo,n,xs,ws,Bj,Bc,x,d,rfl,cs,k⟩:=h;have nd:=D9.nd;have hu:=Dy hr;have big:100000 < sizeLine:=by decide
  refine ⟨_,(Ae (Aq (i:=2) nd rfl (Or.inr rfl) (Aj GSF (hr.mono (by decide)) (by rfl) XSF.mg XSF.F.kp XSF.b .nil Aw (Aa (pv 0) Ad)))
  (Ak (AH (N4 (fun x=>decide (x=("place":Str))) (N:=["place","many","far","aways"]) (σ0:=fun σ=>[none,none,some 1,some 2].map fun j=>j.bind fun j=>(σ[j]?).join) rfl (D3.caught (by rfl) rfl (by decide +kernel) (by intro y hy; simp only [XC,XZ,or_false] at hy; rcases hy with rfl | rfl <;> rfl) (by refine List.Pairwise.cons (fun y hy=>?_) (Za _ _); rw [XY.mp hy]; show @Ne Nat _ _; lia)
   (by intro y hy e; simp only [XC,XZ,or_false] at hy; rcases hy with rfl | rfl | rfl | rfl | rfl <;> first | exact ⟨_,Yh⟩ | exact ⟨_,Yg _ Yh⟩ | cases e)) (by intro x h; have h':=of_decide_eq_true h; subst h'; decide +kernel) (fun σ _=>AU.of [none,none,some 1,some 2] rfl (by
   intro i j x h1 h2;match i,h1,h2 with
   | 0,_,h2=>cases h2
   | 1,_,h2=>cases h2
   | 2,h1,h2=>cases h1; cases h2; exact ⟨rfl,.inl rfl,.inl rfl⟩
   | 3,h1,h2=>cases h1; cases h2; exact ⟨rfl,.inl rfl,.inl rfl⟩
   | n + 4,h1,_=>cases h1)) (by
   intro σ i x v h1 h2;match i,h1,h2 with
   | 0,_,h2=>cases h2
   | 1,_,h2=>cases h2
   | 2,h1,h2=>cases h1; decide +kernel
   | 3,h1,h2=>cases h1; decide +kernel
   | n + 4,h1,_=>cases h1) (Bs K rfl (A4 (Ay K rfl) (pv 0) Ag (fun _ _=>rfl)))
   (fun s2 H C fp=>⟨(BP K rfl (n:=2) rfl (Az (Al (i:=0) (show (["place","many","far","aways"]:List Str).Nodup by decide +kernel) rfl (Or.inr rfl) (.inl (by dsimp only; exact decide_eq_true rfl))) (Az (Al (i:=1) (show (["place","many","far","aways"]:List Str).Nodup by decide +kernel) rfl (Or.inl rfl)) BO))),Br,(pv 0),(BQ (N:=["site","place","far","aways"]) (σ0:=fun σ=>[none,some 0,some 2,some 3].map fun j=>j.bind fun j=>(σ[j]?).join) rfl (AS.caught (by rfl) (by decide +kernel) rfl (by decide +kernel) (by intro y hy; simp only [XC,XZ,or_false] at hy; rcases hy with rfl | rfl | rfl <;> rfl)
   (by intro y hy e; simp only [XC,XZ,or_false] at hy; rcases hy with rfl | rfl | rfl | rfl | rfl <;> first | exact ⟨_,rfl⟩ | cases e)) (fun σ _=>AU.of [none,some 0,some 2,some 3] rfl (by
   intro i j x h1 h2;match i,h1,h2 with
   | 0,_,h2=>cases h2
   | 1,h1,h2=>cases h1; cases h2; exact ⟨rfl,.inl rfl,.inl rfl⟩
   | 2,h1,h2=>cases h1; cases h2; exact ⟨rfl,.inl rfl,.inl rfl⟩
   | 3,h1,h2=>cases h1; cases h2; exact ⟨rfl,.inl rfl,.inl rfl⟩
   | n + 4,h1,_=>cases h1)) (Ho (pv 3))
   (fun s2 H C fp=>⟨(Al (i:=0) (show (["site","place","far","aways"]:List Str).Nodup by decide +kernel) rfl (Or.inl rfl)),(Hn (B5 M9 (Bt hu (Bt hu (pv 3) (pv 0) (fun _ _=>rfl)) (pv 1) (fun _ _=>rfl)) (pv 2) (B9 _))),(pv 0)⟩))⟩))))),?_⟩
  obtain ⟨t1,t2,L1,F0,hc,La,O4,Fo,hd2⟩:=cs.cw.ex;have Q7:=Ci hd2;have l6:=cs.l6;have l8:=cs.l8;refine ⟨_,rfl,c,m,n,xs,ws,Bj,Bc,x,d,rfl,cs.cw,fun H1 AW nvA s1 fA hA nkA fars=>?_⟩;have nvl:nvA.length=Bj.length:=by
   have:=congrArg Zq nkA;rw [X8,X8] at this;exact this
  have nBA:∀ s v,(s,v) ∈ nvA->∀ {H':Hp},(∀ b o,b ≠ AW->H1 b=some o->H' b=some o)->IG H' v xs ws s:=fun s v hm H' kp=>by
   obtain ⟨B2,PR,rfl,z1,z2,z3⟩:=fars s v hm;refine ⟨B2,PR,rfl,kp _ _ (fun e=>?_) z1,z2,z3⟩;subst e;rw [hA] at z1;have e:=HO.dK.inj (Yi.inj z1);have Ur:((Sum.inr s:AO),V.ref B2) ∈ sK PR:=by rw [<-e]; exact Ya.mpr ⟨_,hm,rfl⟩
   obtain ⟨⟨y,u'⟩,h1,h2⟩:=Ya.mp Ur;cases h2
   obtain ⟨n',e',_⟩:=z3 _ _ h1;cases e'
  refine ⟨_,rfl,c,_,_,_,rfl,rfl,AM.of (s1 _ _ hc),rfl,t2,rfl,⟨_,AM.of (s1 _ _ Fo)⟩,?_⟩;have tA:∀ {b:Addr} {ys:List V},H1 b=some (.tup ys)->b ≠ AW:=fun z=>Ba z hA (fun q=>by cases q)
  refine Jx DC (xs:=F0) (Bc.map (·.1)) (by rw [X8,Q7]) cs.cw.ok2.nd (fun D i σ H' nv=>∃ (v0 v1:Option V),σ=[v0,v1,some (.int mo),some (.ref AW)]/\(∀ b o,b ≠ AW->H1 b=some o->H' b=some o)/\Rd H' AW (.dK (sK nvA))/\H' D=some (.dK (sK nv))/\nv.map (·.1)=(Bc.map (·.1)).take i/\∀ q ∈ nv,∃ l,q.2=.ref l/\H' l=some (.lst (((Bj.map (·.1)).filter fun s=>Bn ws mo s q.1).map V.str)))
   (by lia) (fun D hD=>⟨_,_,rfl,fun b o _ z=>Ac hD _ _ z,.inl (Ac hD _ _ hA),Ab,rfl,fun q hq=>nomatch hq⟩) (fun D i σ H' nv hD ⟨v0,v1,_,kp,_,BB,nk,_⟩=>⟨AM.of (kp _ _ (tA (s1 _ _ Fo)) (s1 _ _ Fo)),BB,nk⟩) ?_ ?_
  ·rintro D i σ H' nv x' kk Y hD ex ek ⟨v0,v1,rfl,kp,rd,BB,nk,nl⟩ hY;obtain ⟨u,t,eu,rfl,ht⟩:=BX hd2 ex;have e:kk=u.1:=by
    rw [XU,eu] at ek;exact (Yi.inj ek).symm
   subst e;have ux:=cs.cw.ok2.sub u (XG eu);have nDA:D ≠ AW:=(Ah hA hD).symm;refine ⟨t,_,rfl,AM.of (kp _ _ (tA (s1 _ _ ht)) (s1 _ _ ht)),rfl,_,_,rfl,_,_,rfl,rfl,?_⟩;refine ⟨_,rfl,_,rfl,AW,_,rfl,rd,fun o H3 fz=>?_⟩;have Xe:=fz.at;refine Ds NF (xs:=(sK nvA).map fun p=>kV p.1) (fun D2 j Ar H4 acc=>∃ w0:Option V,Ar=[w0,some (.str u.1),some (.int mo),some (.ref AW)]/\Au H3 H4/\H4 D2=some (.lst acc)/\acc=(((Bj.map (·.1)).take j).filter fun s=>Bn ws mo s u.1).map V.str/\acc.length<=j)
    (by rw [X8,BW]; lia) (fun D2 II=>⟨_,rfl,Ac II,Ab,rfl,XD _⟩)
    (fun D2 j Ar H4 acc II ⟨w0,_,sb,h2,_,al⟩=>⟨sb _ _ Xe,h2,al⟩) ?_ ?_
   ·rintro D2 j Ar H4 acc x2 B N II Oh ⟨w0,rfl,sb,h2,ea,al⟩ hB hN;obtain ⟨s,v,e1,rfl⟩:∃ s v,nvA[j]? = some (s,v)/\x2=.str s:=by
     rw [XU] at Oh;cases z:(sK nvA)[j]? with
     | none=>rw [z] at Oh; cases Oh
     | some p=>
      rw [z] at Oh;obtain ⟨ky,v⟩:=p;obtain ⟨y,e1,rfl⟩:=Mw z;exact ⟨y,v,e1,(Yi.inj Oh).symm⟩
    have sm:=XG e1;have es:(Bj.map (·.1))[j]? = some s:=by rw [<-nkA,XU,e1]; rfl
    have kp4:∀ b o,b ≠ AW->H1 b=some o->H4 b=some o:=fun b o hb z=>sb _ _ (by rw [fz.ne hb]; exact kp b o hb z)
    obtain ⟨B2,rfl,dg⟩:=(nBA s v sm kp4).get cs.cw.map.at'.nd ux;have dgA:BU H4 AW (.str s) (some (.ref B2)):=.inl ⟨_,Sum.inr s,.inr ⟨o,sb _ _ Xe⟩,rfl,(CV (nv:=nvA) (by rw [nkA]; exact cs.cw.ok1.nd) sm).symm⟩;refine ⟨_,rfl,_,rfl,AW,_,rfl,dgA,_,rfl,B2,_,rfl,dg,_,rfl,_,_,rfl,rfl,_,rfl,?_⟩;rw [Qu ws s u.1];refine DI (fun hz=>?_) (fun hz=>?_)
    ·have Ig:Bn ws mo s u.1=true:=hz;refine ⟨_,rfl,?_⟩;refine hB _ _ _ h2 ⟨_,rfl,fun b o' z=>by rw [Af (Ah z II)]; exact sb _ _ z,Ab,?_,by rw [XI]; simp; lia⟩;rw [ea,Yk,es,YN,Yb];simp [Ig]
    ·have Ig:Bn ws mo s u.1=false:=by
      cases q:Bn ws mo s u.1 with
      | false=>rfl
      | true=>exact absurd q hz
     refine hN _ _ ⟨_,rfl,sb,h2,?_,by lia⟩;rw [ea,Yk,es,YN,Yb];simp [Ig]
   ·rintro D2 Ar H4 acc II ⟨w0,rfl,sb,h2,ea,al⟩;rw [X8,BW,nvl,<-X8 (f:=(·.1)),Yq] at ea;have Ql:H4 D=some (.dK (sK nv)):=sb _ _ (by rw [fz.ne nDA]; exact BB);have VT:D2 ≠ D:=Ba h2 Ql (fun z=>by cases z);refine hY _ _ _ Ql ⟨_,_,rfl,fun b o' hb z=>?_,.inr ⟨o,by rw [Af nDA.symm]; exact sb _ _ Xe⟩,Ab,?_,fun q hq=>?_⟩
    ·rw [Af (Ah z hD)];exact sb _ _ (by rw [fz.ne hb]; exact kp b o' hb z)
    ·rw [Yb,nk,Yk,ek];rfl
    ·rcases Ye.mp hq with hq | hq
     ·obtain ⟨l,e1,e2⟩:=nl q hq;have lA:l ≠ AW:=by
       rcases rd with z | ⟨o',z⟩
       ·exact Ba e2 z (fun q=>by cases q)
       ·exact Ba e2 z (fun q=>by cases q)
      have e4:H4 l=some (.lst (((Bj.map (·.1)).filter fun s=>Bn ws mo s q.1).map V.str)):=sb _ _ (by rw [fz.ne lA]; exact e2);exact ⟨l,e1,by rw [Af (Ba e4 Ql (fun z=>by cases z))]; exact e4⟩
     ·rw [XY.mp hq];refine ⟨D2,rfl,?_⟩;rw [Af VT,h2,ea]
  ·rintro D σ H' nv hD ⟨v0,v1,rfl,kp,rd,BB,nk,nl⟩;rw [Q7,<-X8 (f:=(·.1)),Yq] at nk;exact k H' D (fun b o z=>kp b o (Ah z fA) (s1 _ _ z)) (s1.free0 hD) ⟨nv,BB,nk,nl⟩
end
section
variable {P:Program} {w:World} {K:XB} {mg:Str->Option Value} {base:Heap}
theorem IU   {f:Addr} {fd:FuncData} (F:Fz K "_law_served" "_law_served" CT f fd):AJ P w K mg base BN 1 f fd ["_law_case_here","_law_lengths_here","_law_most"] Jq:=by
 refine F.ok Fh (fun vs H Q E h=>?_) (fun cdv A outer s H vs Q E hr h=>?_)
 ·obtain ⟨c,A0,m,mo,n,xs,ws,Bj,Bc,x,d,rfl,_⟩:=h;rfl
 ·obtain ⟨c,A0,m,mo,n,xs,ws,Bj,Bc,x,d,rfl,cs,kn,k⟩:=h;have nd:=Fh.nd;have hu:=Dy hr;have big:100000 < sizeLine:=by decide
  refine ⟨_,(Ae (Aq (i:=3) nd rfl (Or.inl rfl) FI)
  (Ae (Bv PassesOwn.never rfl (Bs K rfl (A4 (Ay K rfl) (pv 0) Ag (fun _ _=>rfl))) (BP K rfl rfl (Az (Al (i:=4) nd rfl (Or.inr rfl)) (Az (Al (i:=5) nd rfl (Or.inl rfl)) BO)))
  (Ak (Ck hu (pv 3) (pv 4) (BQ (N:=["_law_place","_law_many","_law_lengths_here","_law_most","_law_site"]) (σ0:=fun σ=>[none,none,some 1,some 2,some 4].map fun j=>j.bind fun j=>(σ[j]?).join) rfl (AS.caught (by rfl) (by decide +kernel) rfl (by decide +kernel) (by intro y hy; simp only [XC,XZ,or_false] at hy; rcases hy with rfl | rfl | rfl <;> rfl)
   (by intro y hy e; simp only [XC,XZ,or_false] at hy; rcases hy with rfl | rfl | rfl | rfl | rfl | rfl <;> first | exact ⟨_,rfl⟩ | cases e)) (fun σ _=>AU.of [none,none,some 1,some 2,some 4] rfl (by
   intro i j x h1 h2;match i,h1,h2 with
   | 0,_,h2=>cases h2
   | 1,_,h2=>cases h2
   | 2,h1,h2=>cases h1; cases h2; exact ⟨rfl,.inl rfl,.inl rfl⟩
   | 3,h1,h2=>cases h1; cases h2; exact ⟨rfl,.inl rfl,.inl rfl⟩
   | 4,h1,h2=>cases h1; cases h2; exact ⟨rfl,.inl rfl,.inl rfl⟩
   | n + 5,h1,_=>cases h1)) (Bs K rfl (A4 (Ay K rfl) (pv 0) Ag (fun _ _=>rfl)))
   (fun s2 H C fp=>⟨(BP K rfl (n:=2) rfl (Az (Al (i:=0) (show (["_law_place","_law_many","_law_lengths_here","_law_most","_law_site"]:List Str).Nodup by decide +kernel) rfl (Or.inl rfl)) (Az (Al (i:=1) (show (["_law_place","_law_many","_law_lengths_here","_law_most","_law_site"]:List Str).Nodup by decide +kernel) rfl (Or.inl rfl)) BO))),(Hn (B5 M9 (Bt hu (pv 2) (Bm (Aa (pv 4) (Aa (pv 0) Ad))) (fun _ _=>rfl)) (pv 3) (B9 _))),(pv 0)⟩)) rfl)))
  (Ak (AH (pv 3))))),?_⟩
  obtain ⟨t1,t2,L1,F0,hc,La,O4,Fo,hd2⟩:=cs.cw.ex;have ul1:=Ci O4;have Q7:=Ci hd2;have l6:=cs.l6;have l8:=cs.l8;intro S hS;have s0:=Ac (o:=.dK []) hS;have hSS:(upd H S (.dK [])) S=some (.dK (sK [])):=Ab;generalize upd H S (.dK [])=H1 at s0 hSS;refine ⟨_,rfl,c,_,_,_,rfl,rfl,AM.of (s0 _ _ hc),rfl,t1,rfl,⟨_,AM.of (s0 _ _ La)⟩,?_⟩;refine Hs (xs:=L1) (fun i σ H'=>∃ (v4 v5:Option V) (nv:List (Str × V)),σ=[some (.ref c),some (.ref A0),some (.int mo),some (.ref S),v4,v5]/\Au H H'/\H' S=some (.dK (sK nv))/\nv.map (·.1)=(Bj.map (·.1)).take i/\∀ q ∈ nv,∃ l,q.2=.ref l/\H' l=some (.lst (((Bc.map (·.1)).filter (Bn ws mo q.1)).map V.str)))
   ⟨_,_,[],rfl,s0,hSS,rfl,fun q hq=>nomatch hq⟩ (fun i σ H' _ ⟨_,_,_,_,sa,_⟩=>AM.of (sa _ _ La)) ?_ ?_
  ·rintro i v σ H' hv ⟨v4,v5,nv,rfl,sa,Hf,nk,nl⟩;obtain ⟨r,t,er,rfl,ht⟩:=BX O4 hv;have rx:=cs.cw.ok1.sub r (XG er);refine ⟨t,_,rfl,AM.of (sa _ _ ht),rfl,_,_,rfl,_,_,rfl,rfl,?_⟩;refine ⟨_,rfl,c,_,_,_,rfl,rfl,AM.of (sa _ _ hc),rfl,t2,rfl,⟨_,AM.of (sa _ _ Fo)⟩,?_⟩;refine Ds DC (xs:=F0) (fun D j Ar H2 acc=>∃ v0 v1:Option V,Ar=[v0,v1,some (.ref A0),some (.int mo),some (.str r.1)]/\Au H' H2/\H2 D=some (.lst acc)/\acc=(((Bc.map (·.1)).take j).filter (Bn ws mo r.1)).map V.str/\acc.length<=j)
    (by lia) (fun D hD=>⟨_,_,rfl,Ac hD,Ab,rfl,XD _⟩)
    (fun D j Ar H2 acc hD ⟨v0,v1,_,sb,BB,_,al⟩=>⟨AM.of (sb _ _ (sa _ _ Fo)),BB,al⟩) ?_ ?_
   ·rintro D j Ar H2 acc x' B N hD ex ⟨v0,v1,rfl,sb,BB,ea,al⟩ hB hN;obtain ⟨u,t',eu,rfl,Uq⟩:=BX hd2 ex;have ux:=cs.cw.ok2.sub u (XG eu);have eu':(Bc.map (·.1))[j]? = some u.1:=by rw [XU,eu]; rfl
    refine ⟨t',_,rfl,AM.of (sb _ _ (sa _ _ Uq)),rfl,_,_,rfl,_,_,rfl,rfl,?_⟩;refine ⟨_,rfl,_,rfl,_,rfl,(by show 2<=sizeLine; lia),fun T hT=>?_⟩;have sT:=sb.trans (Ac (o:=.tup [.str r.1,.str u.1]) hT);have hDT:=Ac (o:=.tup [.str r.1,.str u.1]) hT _ _ BB;have g:=((kn.same sa).same sT).get (y:=r.1) (z:=u.1) (t:=T) rx ux Ab;generalize upd H2 T (.tup [.str r.1,.str u.1])=H3 at sT hDT g;refine ⟨A0,_,rfl,g.1,_,rfl,_,_,rfl,rfl,_,rfl,?_⟩;refine DI (fun hz=>?_) (fun hz=>?_)
    ·have Ig:Bn ws mo r.1 u.1=true:=hz;refine ⟨_,rfl,?_⟩;refine hB _ _ _ hDT ⟨_,_,rfl,fun b o' z=>by rw [Af (Ah z hD)]; exact sT _ _ z,Ab,?_,by rw [XI]; simp; lia⟩;rw [ea,Yk,eu',YN,Yb];simp [Ig]
    ·have Ig:Bn ws mo r.1 u.1=false:=by
      cases q:Bn ws mo r.1 u.1 with
      | false=>rfl
      | true=>exact absurd q hz
     refine hN _ _ ⟨_,_,rfl,sT,hDT,?_,by lia⟩;rw [ea,Yk,eu',YN,Yb];simp [Ig]
   ·rintro D Ar H2 acc hD ⟨v0,v1,rfl,sb,BB,ea,al⟩;rw [Q7,<-X8 (f:=(·.1)),Yq] at ea;have sc:=sa.trans sb;have Ut:=sb _ _ Hf;have nvl:nv.length<=6:=by
     have:=congrArg Zq nk;rw [X8,Yz,X8] at this;lia
    have new:r.1 ∉ nv.map (·.1):=by
     rw [nk];intro z;obtain ⟨j,hj,ej⟩:=Yn z;rw [Yz] at hj;rw [Zf] at ej;have e1:(Bj.map (·.1))[j]? = some r.1:=by rw [XA (by lia),ej]
     have e2:(Bj.map (·.1))[i]? = some r.1:=by rw [XU,er]; rfl
     have:=Ey cs.cw.ok1.nd e1 e2;lia
    refine ⟨_,rfl,_,rfl,S,_,rfl,Em.k (k:=Sum.inr r.1) Ut (by rw [BW]; lia),?_⟩;rw [Df new];have nSD:D ≠ S:=Ah Hf hD |>.symm;refine ⟨_,_,nv ++ [(r.1,.ref D)],rfl,fun b o z=>by rw [Af (Ah z hS)]; exact sc _ _ z,Ab,?_,fun q hq=>?_⟩
    ·rw [Yb,nk,Yk,XU,er];rfl
    ·rcases Ye.mp hq with hq | hq
     ·obtain ⟨l,e1,e2⟩:=nl q hq;refine ⟨l,e1,?_⟩;rw [Af (Ba (sb _ _ e2) Ut (fun z=>by cases z))];exact sb _ _ e2
     ·rw [XY.mp hq];refine ⟨D,rfl,?_⟩;rw [Af nSD,BB,ea]
  ·rintro σ H' ⟨v4,v5,nv,rfl,sa,Hf,nk,nl⟩;rw [ul1,<-X8 (f:=(·.1)),Yq] at nk;exact ⟨_,rfl,k H' S sa hS ⟨nv,Hf,nk,nl⟩⟩
end
section
variable {P:Program} {w:World} {K:XB} {mg:Str->Option Value} {base:Heap}
theorem HP (h_int:mg "int"=none) {f:Addr} {fd:FuncData} (F:Fz K "_law_lengths" "_law_lengths" C0 f fd):AJ P w K mg base BN 1 f fd ["_law_plan"] Mr:=by
 refine F.ok Ep (fun vs H Q E h=>?_) (fun cdv A outer s H vs Q E hr h=>?_)
 ·obtain ⟨q,n,xs,ws,rfl,_⟩:=h;rfl
 ·obtain ⟨q,n,xs,ws,rfl,mw,VS,Rp,k⟩:=h;have hu:=Dy hr;have nd:=Ep.nd;have big:16000000 < sizeLine:=by decide
  have two:2<=sizeLine:=by decide
  obtain ⟨r0,okw,pos,uni⟩:=mw.web VS Rp;obtain ⟨D,e,us,hq,hD,hE,hW⟩:=mw.at'.ex;have ends:=okw.ends;have x30:xs.length<=30:=okw.l30;have w64:=okw.l64;have wof:∀ u ∈ ws,u.1 ∈ xs/\u.2.1 ∈ xs/\u.1 ≠ u.2.1/\1<=u.2.2:=fun u hu=>⟨(ends u hu).1,(ends u hu).2,mw.apart hu,pos u hu⟩
  have hwl:us.length=ws.length:=by rw [Ir hW,X8]
  refine ⟨_,(Ae (Aq (i:=1) nd rfl (Or.inl rfl) KJ)
  (Ae (Bv PassesOwn.never rfl (Bs K rfl (A4 (Ay K rfl) (pv 0) Ag (fun _ _=>rfl))) (Al (i:=2) nd rfl (Or.inl rfl))
  (Ak (Bv PassesOwn.never rfl (Bs K rfl (A4 (Ay K rfl) (pv 0) Ag (fun _ _=>rfl))) (Al (i:=3) nd rfl (Or.inl rfl))
  (Ak (Ck hu (pv 1) (Bm (Aa (pv 2) (Aa (pv 3) Ad))) (A4 (AQ K rfl) (AN (Aa HJ (Aa Ag Ad))) (AF Gu (by rfl) h_int PyProof.Rows.boot_int (Aa (EV MB (pv 2) (pv 3) (B9 _)) Ad)) (fun _ _=>rfl)) rfl)))))
  (Ae (Bv PassesOwn.never rfl (Bs K rfl (A4 (Ay K rfl) (pv 0) Ag (fun _ _=>rfl))) (BP K rfl rfl (Az (Al (i:=2) nd rfl (Or.inl rfl)) (Az (Al (i:=3) nd rfl (Or.inl rfl)) (Az (Al (i:=4) nd rfl (Or.inl rfl)) BO))))
  (Ae (Ck hu (pv 1) (Bm (Aa (pv 2) (Aa (pv 3) Ad))) (pv 4) rfl)
  (Ak (Ck hu (pv 1) (Bm (Aa (pv 3) (Aa (pv 2) Ad))) (pv 4) rfl))))
  (Ae (Bv PassesOwn.never rfl (Bs K rfl (A4 (Ay K rfl) (pv 0) Ag (fun _ _=>rfl))) (Al (i:=5) nd rfl (Or.inl rfl))
  (Ak (Bv PassesOwn.never rfl (Bs K rfl (A4 (Ay K rfl) (pv 0) Ag (fun _ _=>rfl))) (Al (i:=2) nd rfl (Or.inl rfl))
  (Ak (Bv PassesOwn.never rfl (Bs K rfl (A4 (Ay K rfl) (pv 0) Ag (fun _ _=>rfl))) (Al (i:=3) nd rfl (Or.inl rfl))
  (Ae (Aq (i:=6) nd rfl (Or.inl rfl) (Bt hu (pv 1) (Bm (Aa (pv 2) (Aa (pv 5) Ad))) (fun _ _=>rfl)))
  (Ae (Aq (i:=7) nd rfl (Or.inl rfl) (Bt hu (pv 1) (Bm (Aa (pv 5) (Aa (pv 3) Ad))) (fun _ _=>rfl)))
  (Ae (Aq (i:=8) nd rfl (Or.inl rfl) (Bt hu (pv 1) (Bm (Aa (pv 2) (Aa (pv 3) Ad))) (fun _ _=>rfl)))
  (Ak (CN (LF (HG (M7 (pv 6))) (LF (HG (M7 (pv 7))) (My (HF (HG (SX (pv 8))) (Gh (B5 M8 (As Be (pv 6) (pv 7)) (pv 8) (B9 _)))).pt))).pt
  (Ak (Ck hu (pv 1) (Bm (Aa (pv 2) (Aa (pv 3) Ad))) (As Be (pv 6) (pv 7)) rfl))
  B6))))))))))
  (Ak (AH (pv 1))))))),?_⟩
  intro A hA;have V0:MV (upd H A (.dT [])) A (fun _ _=>none) 0:=⟨[],Ab,XD _,fun x y=>rfl⟩
  have nAD:∀ {b:Addr} {u:HO},H b=some u->b ≠ A:=fun z=>Ah z hA
  have strAt:∀ {i:Nat} {v:V},(xs.map V.str)[i]? = some v->∃ x,xs[i]? = some x/\v=.str x/\i < xs.length:=fun {i v} h=>by
   rw [XU] at h;cases ex:xs[i]? with
   | none=>rw [ex] at h; cases h
   | some x=>rw [ex] at h; exact ⟨x,rfl,(Yi.inj h).symm,(XX.mp ex).1⟩
  refine ⟨_,rfl,q,_,_,_,rfl,rfl,AM.of (Ac hA _ _ hq),rfl,D,rfl,⟨_,AM.of (Ac hA _ _ hD)⟩,DJ (xs:=xs.map V.str) (fun i σ H2=>(∃ v4 v5 v6 v7 v8 v9 v10,σ=[some (.ref q),some (.ref A),v4,v5,v6,v7,v8,v9,v10])/\Au H H2/\∃ G,MV H2 A G (i * 30)/\(∀ x y v,G x y=some v->x ∈ xs/\y ∈ xs/\v=oI (if x=y then some 0 else none))/\∀ (a:Nat) x,a < i->xs[a]? = some x->∀ y ∈ xs,∃ v,G x y=some v)
   ⟨⟨_,_,_,_,_,_,_,rfl⟩,Ac hA,_,V0.up (Yr _),fun x y v h=>(by cases h),fun j x hj=>absurd hj (YZ _)⟩ (fun i σ H2 _ hP=>AM.of (hP.2.1 _ _ hD)) (fun i v σ H2 hv hP rt bk N hNi=>?_) (fun σ H2 hP=>?_)⟩
  ·obtain ⟨⟨v4,v5,v6,v7,v8,v9,v10,rfl⟩,s2,G0,hG0,m1,m2⟩:=hP;obtain ⟨one,eone,rfl,ilt⟩:=strAt hv;refine ⟨_,rfl,q,_,_,_,rfl,rfl,AM.of (s2 _ _ hq),rfl,D,rfl,⟨_,AM.of (s2 _ _ hD)⟩,DJ (xs:=xs.map V.str) (fun j σ H3=>(∃ v5 v6 v7 v8 v9 v10,σ=[some (.ref q),some (.ref A),some (.str one),v5,v6,v7,v8,v9,v10])/\Au H H3/\∃ G,MV H3 A G (i * 30 + j)/\(∀ x y v,G x y=some v->x ∈ xs/\y ∈ xs/\v=oI (if x=y then some 0 else none))/\(∀ (a:Nat) x,a < i->xs[a]? = some x->∀ y ∈ xs,∃ v,G x y=some v)/\∀ (b:Nat) y,b < j->xs[b]? = some y->∃ v,G one y=some v)
    ⟨⟨_,_,_,_,_,_,rfl⟩,s2,G0,hG0.up (by lia),m1,m2,fun b y hb=>absurd hb (YZ _)⟩ (fun i σ H3 _ hP=>AM.of (hP.2.1 _ _ hD)) (fun j v σ H3 hv hP rt bk N hNj=>?_) (fun σ H3 hP=>?_)⟩
   ·obtain ⟨⟨v5,v6,v7,v8,v9,v10,rfl⟩,s3,G1,Wa,m3,m4,m5⟩:=hP;obtain ⟨oth,eoth,rfl,jlt⟩:=strAt hv;have cb:i * 30 + j < 16000000:=by
     have:i * 30<=30 * 30:=Z4 _ (by lia);lia
    refine ⟨(by show 2<=sizeLine; lia),fun L hL=>?_⟩;have q1:=Ac (o:=.lst [.non,.int 0]) hL;have hL':(upd H3 L (.lst [.non,.int 0])) L=some (.lst [.non,.int 0]):=Ab;generalize upd H3 L (.lst [.non,.int 0])=H4 at q1 hL' ⊢;have ix:Jf [V.non,.int 0] (if decide (V.str one=V.str oth)=true then 1 else 0)=some (oI (if one=oth then some 0 else none)):=by
     by_cases z:one=oth
     ·subst z;rw [if_pos (decide_eq_true rfl),if_pos rfl];rfl
     ·rw [if_neg (fun h=>z (by have:=of_decide_eq_true h; injection this)),if_neg z];rfl
    refine ⟨_,rfl,_,rfl,rfl,.inr ⟨_,rfl,L,_,_,_,rfl,rfl,AA.of hL',ix,?_⟩⟩;refine ⟨_,rfl,_,rfl,_,rfl,two,fun t ht=>?_⟩;have q2:=q1.trans (Ac (o:=.tup [.str one,.str oth]) ht);obtain ⟨H5,dp,hG5,kvs,e5⟩:=(Wa.same q2).put (by lia) (v:=oI (if one=oth then some 0 else none)) (t:=t) (x:=one) (y:=oth) Ab;refine ⟨A,H5,rfl,dp,hNj _ _ ⟨⟨_,_,_,_,_,_,rfl⟩,fun b u z=>?_,_,hG5.up (by lia),fun x y v h=>?_,fun a x ha ex y hy=>?_,fun b y hb ey=>?_⟩⟩
    ·rw [e5,Af (nAD z)];exact q2 _ _ (s3 _ _ z)
    ·unfold LA at h;split at h
     ·rename_i hc
      obtain ⟨rfl,rfl⟩:=hc;cases h
      exact ⟨XG eone,XG eoth,rfl⟩
     ·exact m3 x y v h
    ·unfold LA;split
     ·exact ⟨_,rfl⟩
     ·exact m4 a x ha ex y hy
    ·unfold LA;split
     ·exact ⟨_,rfl⟩
     ·rename_i hc
      refine m5 b y ?_ ey;have:b ≠ j:=by
       rintro rfl;rw [eoth] at ey;exact hc ⟨rfl,(Yi.inj ey).symm⟩
      lia
   ·obtain ⟨⟨v5,v6,v7,v8,v9,v10,rfl⟩,s3,G1,Wa,m3,m4,m5⟩:=hP;rw [X8] at Wa m5;refine hNi _ _ ⟨⟨_,_,_,_,_,_,_,rfl⟩,s3,G1,Wa.up (by lia),m3,fun a x ha ex y hy=>?_⟩;by_cases ea:a=i
    ·subst ea;rw [eone] at ex;cases ex
     obtain ⟨b,hb,eb⟩:=Yn hy;exact m5 b y hb (by rw [XA hb,eb])
    ·exact m4 a x (by lia) ex y hy
  obtain ⟨⟨v4,v5,v6,v7,v8,v9,v10,rfl⟩,s2,G,hG,m1,m2⟩:=hP;rw [X8] at hG m2;obtain ⟨M,hMe⟩:∃ M:Str->Str->Option Int,M=fun x y=>if x=y/\x ∈ xs then some 0 else none:=⟨_,rfl⟩
  have hM:MO H2 A xs M 1000:=by
   refine ⟨G,hG.up (by lia),fun x hx y hy=>?_,fun x y hn=>?_⟩
   ·obtain ⟨a,ha,ea⟩:=Yn hx;obtain ⟨v,hv⟩:=m2 a x ha (by rw [XA ha,ea]) y hy;rw [hv,(m1 x y v hv).2.2,hMe];by_cases z:x=y
    ·rw [if_pos z];show _=some (oI (if x=y/\x ∈ xs then some 0 else none))
     rw [if_pos ⟨z,hx⟩]
    ·rw [if_neg z];show _=some (oI (if x=y/\x ∈ xs then some 0 else none))
     rw [if_neg (fun h=>z h.1)]
   ·cases hg:G x y with
    | none=>rfl
    | some v=>exact absurd ⟨(m1 x y v hg).1,(m1 x y v hg).2.1⟩ hn
  have m1:∀ x y n,M x y=some n->x=y/\n=0:=fun x y n h=>by
   rw [hMe] at h;dsimp only at h;split at h
   ·rename_i hc
    cases h
    exact ⟨hc.1,rfl⟩
   ·cases h
  have V5:∀ x ∈ xs,M x x=some 0:=fun x hx=>by
   rw [hMe];exact if_pos ⟨rfl,hx⟩
  refine ⟨_,rfl,q,_,_,_,rfl,rfl,AM.of (s2 _ _ hq),rfl,e,rfl,⟨_,AM.of (s2 _ _ hE)⟩,DJ (xs:=us) (fun i σ H3=>(∃ v4 v5 v6 v7 v8 v9 v10,σ=[some (.ref q),some (.ref A),v4,v5,v6,v7,v8,v9,v10])/\Au H H3/\∃ M,MO H3 A xs M (1000 + 2 * i)/\(∀ x y n,M x y=some n->(x=y/\n=0)\/BL ws x y n)/\(∀ x ∈ xs,M x x=some 0)/\∀ x y n,BL (ws.take i) x y n->M x y=some n)
   ⟨⟨_,_,_,_,_,_,_,rfl⟩,s2,M,(hM.up (by lia)),fun x y n h=>.inl (m1 x y n h),V5,fun x y n h=>(by obtain ⟨u,hu,_⟩:=h; exact absurd hu XZ)⟩ (fun i σ H3 _ hP=>AM.of (hP.2.1 _ _ hE)) (fun i v σ H3 hv hP rt bk N hN=>?_) (fun σ H3 hP=>?_)⟩
  ·obtain ⟨⟨v4,v5,v6,v7,v8,v9,v10,rfl⟩,s3,M,hM,n1,n2,n3⟩:=hP;obtain ⟨u,tt,gu,rfl,htt⟩:=Iq hW hv;have um:=XG gu;have une:u.1 ≠ u.2.1:=(wof u um).2.2.1;have hi:i < ws.length:=(XX.mp gu).1;refine ⟨tt,_,rfl,AM.of (s3 _ _ htt),rfl,_,_,rfl,_,_,rfl,_,_,rfl,rfl,?_⟩;refine ⟨_,rfl,_,rfl,_,rfl,_,rfl,two,fun t ht=>?_⟩;obtain ⟨H4,dp,hM4,kvs,e4⟩:=(hM.same (Ac (o:=.tup [.str u.1,.str u.2.1]) ht)).put (by lia) (wof u um).1 (wof u um).2.1 (n:=u.2.2) (t:=t) (x:=u.1) (y:=u.2.1) Ab;have s4:Au H H4:=fun b o z=>by
    rw [e4,Af (nAD z)];exact Ac ht _ _ (s3 _ _ z)
   refine ⟨A,H4,rfl,dp,?_⟩;refine ⟨_,rfl,_,rfl,_,rfl,_,rfl,two,fun t2 Fo=>?_⟩;obtain ⟨H5,dp2,hM5,kvs2,e5⟩:=(hM4.same (Ac (o:=.tup [.str u.2.1,.str u.1]) Fo)).put (by lia) (wof u um).2.1 (wof u um).1 (n:=u.2.2) (t:=t2) (x:=u.2.1) (y:=u.1) Ab;refine ⟨A,H5,rfl,dp2,hN _ _ ⟨⟨_,_,_,_,_,_,_,rfl⟩,fun b o z=>?_,_,(hM5.up (by lia)),fun a b n h=>?_,fun x hx=>?_,fun a b n h=>?_⟩⟩
   ·rw [e5,Af (nAD z)];exact Ac Fo _ _ (s4 _ _ z)
   ·unfold JY at h;split at h
    ·rename_i hc
     cases h
     exact .inr ⟨u,um,.inr ⟨hc.2.symm,hc.1.symm⟩,rfl⟩
    ·split at h
     ·rename_i hc
      cases h
      exact .inr ⟨u,um,.inl ⟨hc.1.symm,hc.2.symm⟩,rfl⟩
     ·exact n1 a b n h
   ·unfold JY;rw [if_neg (fun z=>une (z.2.symm.trans z.1)),if_neg (fun z=>une (z.1.symm.trans z.2))];exact n2 x hx
   ·have hE':BL ws a b n:=by
     obtain ⟨v,hv,r⟩:=h;exact ⟨v,ay hv,r⟩
    unfold JY;split
    ·rename_i hc
     have:=uni _ _ _ _ hE' ⟨u,um,.inr ⟨hc.2.symm,hc.1.symm⟩,rfl⟩;rw [this]
    ·rename_i VY
     split
     ·rename_i hc
      have:=uni _ _ _ _ hE' ⟨u,um,.inl ⟨hc.1.symm,hc.2.symm⟩,rfl⟩;rw [this]
     ·rename_i Od
      refine n3 a b n ?_;obtain ⟨v,hv,ev,el⟩:=h;rw [Yk,gu] at hv;rcases Ye.mp hv with hv | hv
      ·exact ⟨v,hv,ev,el⟩
      ·have:v=u:=by simpa using hv
       subst this;rcases ev with ⟨x1,x2⟩ | ⟨x1,x2⟩
       ·exact absurd ⟨x1.symm,x2.symm⟩ Od
       ·exact absurd ⟨x2.symm,x1.symm⟩ VY
  obtain ⟨⟨v4,v5,v6,v7,v8,v9,v10,rfl⟩,s3,M,hM,n1,n2,n3⟩:=hP;rw [hwl,Yq] at n3;have FW0:FW ws xs 0 M:=by
   refine ⟨fun x y n h=>?_,fun x y m g=>?_,fun x hx=>⟨0,n2 x hx,YE _⟩⟩
   ·rcases n1 x y n h with ⟨rfl,rfl⟩ | h
    ·exact .nil x
    ·have:=Bl.cons h (.nil y);rwa [ZY] at this
   ·cases g with
    | edge e=>exact ⟨m,n3 x y m e,YE _⟩
    | cons _ h _=>exact absurd h XZ
  refine ⟨_,rfl,q,_,_,_,rfl,rfl,AM.of (s3 _ _ hq),rfl,D,rfl,⟨_,AM.of (s3 _ _ hD)⟩,DJ (xs:=xs.map V.str) (fun t σ H4=>(∃ v4 v5 v6 v7 v8 v9 v10,σ=[some (.ref q),some (.ref A),v4,v5,v6,v7,v8,v9,v10])/\Au H H4/\∃ M,MO H4 A xs M (2000 + t * 1000)/\FW ws xs t M)
   ⟨⟨_,_,_,_,_,_,_,rfl⟩,s3,M,(hM.up (by lia)),FW0⟩ (fun i σ H4 _ hP=>AM.of (hP.2.1 _ _ hD)) (fun t v σ H4 hv hP rt bk N hNt=>?_) (fun σ H4 hP=>?_)⟩
  ·obtain ⟨⟨v4,v5,v6,v7,v8,v9,v10,rfl⟩,s4,M0,hM0,fw⟩:=hP;have strAt:∀ {i:Nat} {v:V},(xs.map V.str)[i]? = some v->∃ x,xs[i]? = some x/\v=.str x/\i < xs.length:=fun {i v} h=>by
    rw [XU] at h;cases ex:xs[i]? with
    | none=>rw [ex] at h; cases h
    | some x=>rw [ex] at h; exact ⟨x,rfl,(Yi.inj h).symm,(XX.mp ex).1⟩
   obtain ⟨mid,emid,rfl,tlt⟩:=strAt hv;refine ⟨_,rfl,q,_,_,_,rfl,rfl,AM.of (s4 _ _ hq),rfl,D,rfl,⟨_,AM.of (s4 _ _ hD)⟩,DJ (xs:=xs.map V.str) (fun i σ H5=>(∃ v4 v5 v6 v8 v9 v10,σ=[some (.ref q),some (.ref A),v4,v5,v6,some (.str mid),v8,v9,v10])/\Au H H5/\∃ M,MO H5 A xs M (2000 + t * 1000 + i * 30)/\FZ M0 M/\(∀ x y n,M x y=some n->Bl ws x y n)/\∀ (a:Nat) x,a < i->xs[a]? = some x->∀ y ∈ xs,∀ p1 p2,M0 x mid=some p1->M0 mid y=some p2->∃ n,M x y=some n/\n<=p1 + p2)
    ⟨⟨_,_,_,_,_,_,rfl⟩,s4,M0,(hM0.up (by lia)),FZ.refl _,fw.sound,fun a x ha=>absurd ha (YZ _)⟩ (fun i σ H5 _ hP=>AM.of (hP.2.1 _ _ hD)) (fun i v σ H5 hv hP rt bk N hNi=>?_) (fun σ H5 hP=>?_)⟩
   ·obtain ⟨⟨v4,v5,v6,v8,v9,v10,rfl⟩,s5,M1,TB,UU,so1,QM⟩:=hP;obtain ⟨one,eone,rfl,ilt⟩:=strAt hv;refine ⟨_,rfl,q,_,_,_,rfl,rfl,AM.of (s5 _ _ hq),rfl,D,rfl,⟨_,AM.of (s5 _ _ hD)⟩,DJ (xs:=xs.map V.str) (fun j σ H6=>(∃ v5 v6 v8 v9 v10,σ=[some (.ref q),some (.ref A),some (.str one),v5,v6,some (.str mid),v8,v9,v10])/\Au H H6/\∃ M,MO H6 A xs M (2000 + t * 1000 + i * 30 + j)/\FZ M1 M/\(∀ x y n,M x y=some n->Bl ws x y n)/\∀ (b:Nat) y,b < j->xs[b]? = some y->∀ p1 p2,M0 one mid=some p1->M0 mid y=some p2->∃ n,M one y=some n/\n<=p1 + p2)
     ⟨⟨_,_,_,_,_,rfl⟩,s5,M1,(TB.up (by lia)),FZ.refl _,so1,fun b y hb=>absurd hb (YZ _)⟩ (fun i σ H6 _ hP=>AM.of (hP.2.1 _ _ hD)) (fun j v σ H6 hv hP rt bk N hNj=>?_) (fun σ H6 hP=>?_)⟩
    ·obtain ⟨⟨v5,v6,v8,v9,v10,rfl⟩,s6,M2,Sg,Ul,so2,OC⟩:=hP;obtain ⟨oth,eoth,rfl,jlt⟩:=strAt hv;have cb:2000 + t * 1000 + i * 30 + j < 16000000:=by
      have:t * 1000<=30 * 1000:=Z4 _ (by lia);have:i * 30<=30 * 30:=Z4 _ (by lia);lia
     have moAll:=UU.trans Ul;have hone:one ∈ xs:=XG eone;have hoth:oth ∈ xs:=XG eoth;have hmid:mid ∈ xs:=XG emid;have keepM:∀ {H7:Hp} (v8 v9 v10:Option V),Au H6 H7->(∀ p1 p2,M0 one mid=some p1->M0 mid oth=some p2->∃ n,M2 one oth=some n/\n<=p1 + p2) ->
       (∃ w5 w6 w8 w9 VB,([some (.ref q),some (.ref A),some (.str one),some (.str oth),v6,some (.str mid),v8,v9,v10]:St)=[some (.ref q),some (.ref A),some (.str one),w5,w6,some (.str mid),w8,w9,VB])/\Au H H7/\∃ M,MO H7 A xs M (2000 + t * 1000 + i * 30 + (j + 1))/\FZ M1 M/\(∀ x y n,M x y=some n->Bl ws x y n)/\∀ (b:Nat) y,b < j + 1->xs[b]? = some y->∀ p1 p2,M0 one mid=some p1->M0 mid y=some p2->∃ n,M one y=some n/\n<=p1 + p2:=by
      intro H7 v8 v9 v10 s7 hv2;refine ⟨⟨_,_,_,_,_,rfl⟩,s6.trans s7,M2,((Sg.same s7).up (by lia)),Ul,so2,fun b y hb ey p1 p2 q1 q2=>?_⟩;by_cases eb:b=j
      ·subst eb;rw [eoth] at ey;cases ey
       exact hv2 p1 p2 q1 q2
      ·exact OC b y (by lia) ey p1 p2 q1 q2
     refine ⟨_,rfl,_,rfl,_,rfl,two,fun t1 La=>?_⟩;have z1:=Ac (o:=.tup [.str one,.str mid]) La;refine ⟨A,_,rfl,(Sg.same z1).get hone hmid Ab,?_⟩;refine ⟨_,rfl,_,rfl,_,rfl,two,fun t2 Fo=>?_⟩;have z2:=z1.trans (Ac (o:=.tup [.str mid,.str oth]) Fo);refine ⟨A,_,rfl,(Sg.same z2).get hmid hoth Ab,?_⟩;refine ⟨_,rfl,_,rfl,_,rfl,two,fun t3 WJ=>?_⟩;have z3:=z2.trans (Ac (o:=.tup [.str one,.str oth]) WJ);refine ⟨A,_,rfl,(Sg.same z3).get hone hoth Ab,?_⟩;generalize upd (upd (upd H6 t1 (.tup [.str one,.str mid])) t2 (.tup [.str mid,.str oth])) t3 (.tup [.str one,.str oth])=H7 at z3;refine ⟨_,rfl,_,rfl,?_⟩;cases eo:M2 one mid with
     | none=>
      refine Ej (Ej ?_);refine hNj _ _ (keepM _ _ _ z3 fun p1 p2 q1 _=>?_);obtain ⟨n',e',_⟩:=moAll one mid p1 q1;rw [eo] at e';cases e'
     | some a1=>
      refine FP ?_;refine ⟨_,rfl,_,rfl,?_⟩;cases em:M2 mid oth with
      | none=>
       refine Ej (Ej ?_);refine hNj _ _ (keepM _ _ _ z3 fun p1 p2 _ q2=>?_);obtain ⟨n',e',_⟩:=moAll mid oth p2 q2;rw [em] at e';cases e'
      | some a2=>
       refine FP ?_;have low:∀ p1 p2,M0 one mid=some p1->M0 mid oth=some p2->a1 + a2<=p1 + p2:=fun p1 p2 q1 q2=>by
        obtain ⟨n1',RI,l1'⟩:=moAll one mid p1 q1;obtain ⟨n2',Sj,l2'⟩:=moAll mid oth p2 q2;rw [eo] at RI;rw [em] at Sj;cases RI
        cases Sj
        lia
       have putM:∀ (v10:Option V),(∀ n,M2 one oth=some n->a1 + a2<=n)->∀ t6,H7 t6=none->∃ a H8,V.ref A=.ref a/\Em (upd H7 t6 (.tup [.str one,.str oth])) a (.ref t6) (.int (a1 + a2)) H8 /\
         ((∃ w5 w6 w8 w9 VB,([some (.ref q),some (.ref A),some (.str one),some (.str oth),v6,some (.str mid),some (.int a1),some (.int a2),v10]:St)=[some (.ref q),some (.ref A),some (.str one),w5,w6,some (.str mid),w8,w9,VB])/\Au H H8/\∃ M,MO H8 A xs M (2000 + t * 1000 + i * 30 + (j + 1))/\FZ M1 M/\(∀ x y n,M x y=some n->Bl ws x y n)/\∀ (b:Nat) y,b < j + 1->xs[b]? = some y->∀ p1 p2,M0 one mid=some p1->M0 mid y=some p2->∃ n,M one y=some n/\n<=p1 + p2):=by
        intro v10 hle t6 Vc;have hws:=(so2 _ _ _ eo).app (so2 _ _ _ em);have z6:=z3.trans (Ac (o:=.tup [.str one,.str oth]) Vc);obtain ⟨H8,dp,hM8,kvs,e8⟩:=(Sg.same z6).put (by lia) hone hoth (n:=a1 + a2) (t:=t6) (x:=one) (y:=oth) Ab;have mo8:FZ M2 (JY M2 one oth (a1 + a2)):=fun x y n h=>by
         unfold JY;split
         ·rename_i hc
          obtain ⟨rfl,rfl⟩:=hc;exact ⟨_,rfl,hle n h⟩
         ·exact ⟨n,h,YE _⟩
        refine ⟨A,H8,rfl,dp,⟨_,_,_,_,_,rfl⟩,fun b o z=>?_,_,hM8,Ul.trans mo8,fun x y n h=>?_,fun b y hb ey p1 p2 q1 q2=>?_⟩
        ·rw [e8,Af (nAD z)];exact z6 _ _ (s6 _ _ z)
        ·unfold JY at h;split at h
         ·rename_i hc
          obtain ⟨rfl,rfl⟩:=hc;cases h
          exact hws
         ·exact so2 x y n h
        ·by_cases eb:b=j
         ·subst eb;rw [eoth] at ey;cases ey
          refine ⟨a1 + a2,?_,low p1 p2 q1 q2⟩;unfold JY;rw [if_pos ⟨rfl,rfl⟩]
         ·obtain ⟨n,en,ln⟩:=OC b y (by lia) ey p1 p2 q1 q2;obtain ⟨n',Xk,ln'⟩:=mo8 one y n en;exact ⟨n',Xk,by lia⟩
       refine ⟨_,rfl,_,rfl,?_⟩;cases ez:M2 one oth with
       | none=>
        refine FP (FP ?_);refine ⟨_,rfl,_,rfl,_,_,rfl,rfl,_,rfl,_,rfl,_,rfl,two,fun t6 Vc=>?_⟩;exact (putM _ (fun n h=>by rw [ez] at h; cases h) t6 Vc).imp fun _ h=>h.imp fun _ h=>⟨h.1,h.2.1,hNj _ _ h.2.2⟩
       | some a3=>
        refine Ej ?_;refine ⟨_,rfl,_,rfl,_,_,rfl,rfl,_,rfl,_,_,rfl,rfl,_,rfl,?_⟩;refine DI (fun B0=>?_) (fun B0=>?_)
        ·have B0:=of_decide_eq_true B0;refine ⟨_,rfl,_,rfl,_,_,rfl,rfl,_,rfl,_,rfl,_,rfl,two,fun t6 Vc=>?_⟩;exact (putM _ (fun n h=>by rw [ez] at h; cases h; lia) t6 Vc).imp fun _ h=>h.imp fun _ h=>⟨h.1,h.2.1,hNj _ _ h.2.2⟩
        ·have B0:¬ a1 + a2 < a3:=fun z=>B0 (decide_eq_true z)
         refine hNj _ _ (keepM _ _ _ z3 fun p1 p2 q1 q2=>⟨a3,ez,?_⟩);have:=low p1 p2 q1 q2;lia
    ·obtain ⟨⟨v5,v6,v8,v9,v10,rfl⟩,s6,M2,Sg,Ul,so2,OC⟩:=hP;rw [X8] at Sg OC;refine hNi _ _ ⟨⟨_,_,_,_,_,_,rfl⟩,s6,M2,(Sg.up (by lia)),UU.trans Ul,so2,fun a x ha ex y hy p1 p2 q1 q2=>?_⟩;by_cases ea:a=i
     ·subst ea;rw [eone] at ex;cases ex
      obtain ⟨b,hb,eb⟩:=Yn hy;exact OC b y hb (by rw [XA hb,eb]) p1 p2 q1 q2
     ·obtain ⟨n,en,ln⟩:=QM a x (by lia) ex y hy p1 p2 q1 q2;obtain ⟨n',Xk,ln'⟩:=Ul x y n en;exact ⟨n',Xk,by lia⟩
   ·obtain ⟨⟨v4,v5,v6,v8,v9,v10,rfl⟩,s5,M1,TB,UU,so1,QM⟩:=hP;rw [X8] at TB QM;refine hNt _ _ ⟨⟨_,_,_,_,_,_,_,rfl⟩,s5,M1,(TB.up (by lia)),fw.next pos ends emid UU so1 fun x hx y hy p1 p2 q1 q2=>?_⟩;obtain ⟨a,ha,ea⟩:=Yn hx;exact QM a x ha (by rw [XA ha,ea]) y hy p1 p2 q1 q2
  ·obtain ⟨⟨v4,v5,v6,v7,v8,v9,v10,rfl⟩,s4,M1,TB,fw⟩:=hP;rw [X8] at TB fw;exact ⟨_,rfl,k H4 A s4 hA ⟨_,_,TB.md (fun x hx y hy=>let ⟨nn,e,_⟩:=fw.doneW ends (fun x hx y hy=>let ⟨kk,a,_⟩:=mw.sums VS Rp x hx y hy; ⟨kk,a⟩) x hx y hy; ⟨nn,e⟩),fun x hx y hy=>(fw.doneW ends (fun x hx y hy=>let ⟨kk,a,_⟩:=mw.sums VS Rp x hx y hy; ⟨kk,a⟩) x hx y hy).imp fun nn h=>⟨by rw [if_pos ⟨hx,hy⟩]; exact h.1,h.2,mw.bound VS Rp hx hy h.2⟩⟩⟩
end
section
variable {P:Program} {w:World} {K:XB} {mg:Str->Option Value} {base:Heap}
theorem KO (h_int:mg "int"=none) (h_len:mg "len"=none) (h_min:mg "min"=none) (h_tuple:mg "tuple"=none) {fT:Addr} {fdT:FuncData} (XT:Fn K mg "_law_take" AE ["_law_pen","_law_many"] fT fdT) (GT:AJ P w K mg base BN 1 fT fdT ["_law_pen","_law_many"] (CQ K)) {fN:Addr} {fdN:FuncData} (XN:Fn K mg "_law_names" Dp ["_law_pen","_law_many"] fN fdN) (GN:AJ P w K mg base BN 2 fN fdN ["_law_pen","_law_many"] (K8 K)) {fL:Addr} {fdL:FuncData} (XL:Fn K mg "_law_length" Cg ["_law_pen"] fL fdL) (GL:AJ P w K mg base BN 2 fL fdL ["_law_pen"] (L8 K)) {fS:Addr} {fdS:FuncData} (XS:Fn K mg "_law_some" De ["_law_pen","_law_names_here","_law_many"] fS fdS) (GS:AJ P w K mg base BN 2 fS fdS ["_law_pen","_law_names_here","_law_many"] (JV K)) {fM:Addr} {fdM:FuncData} (XM:Fn K mg "_law_map" Cs ["_law_pen","_law_names_here","_law_shape"] fM fdM) (GM:AJ P w K mg base BN 3 fM fdM ["_law_pen","_law_names_here","_law_shape"] (OW K)) {f:Addr} {fd:FuncData} (F:Fz K "_law_case" "_law_case" DS f fd):AJ P w K mg base BN 4 f fd ["_law_pen","_law_shape"] (Mt K):=by
 refine F.ok Gx (fun vs H Q E h=>?_) (fun cdv A outer s H vs Q E hr h=>?_)
 ·obtain ⟨p,sh,rfl,_⟩:=h;rfl
 ·obtain ⟨p,sh,rfl,hP,VG,sh4,k⟩:=h;have nd:=Gx.nd;have big:100000 < sizeLine:=by decide
  refine ⟨_,(Ae (Aq (i:=2) nd rfl (Or.inl rfl) (Aj GN (hr.mono (by decide)) (by rfl) XN.mg XN.F.kp XN.b .nil Aw (Aa (pv 0) (Aa (As Be Ag (Aj GT (hr.mono (by decide)) (by rfl) XT.mg XT.F.kp XT.b .nil Aw (Aa (pv 0) (Aa Ag Ad)))) Ad))))
  (Ae (Aq (i:=3) nd rfl (Or.inl rfl) (Aj GM (hr.mono (by decide)) (by rfl) XM.mg XM.F.kp XM.b .nil Aw (Aa (pv 0) (Aa (pv 2) (Aa (pv 1) Ad)))))
  (Ae (Aq (i:=4) nd rfl (Or.inl rfl) (Aj GT (hr.mono (by decide)) (by rfl) XT.mg XT.F.kp XT.b .nil Aw (Aa (pv 0) (Aa Ag Ad))))
  (Ae (Aq (i:=5) nd rfl (Or.inl rfl) (AN Ad))
  (Ae (Bv PassesOwn.never rfl (By K rfl (Aj GS (hr.mono (by decide)) (by rfl) XS.mg XS.F.kp XS.b .nil Aw (Aa (pv 0) (Aa (pv 2) (Aa (As Be Ag (Aj GT (hr.mono (by decide)) (by rfl) XT.mg XT.F.kp XT.b .nil Aw (Aa (pv 0) (Aa (Ai (JM rfl) (by rfl) h_min PyProof.Rows.boot_min (Aa Ag (Aa (Ai (Av K rfl) (by rfl) h_len PySem.boot_len (Aa (pv 2) Ad)) Ad))) Ad)))) Ad))))) (Al (i:=6) nd rfl (Or.inl rfl))
  (Ak (FG (HL PySem.F.plainAttrs_list PySem.F.slot_list_append PySem.F.type_list_append BR (pv 5) (Aa (Bm (Aa (pv 6) (Aa (A4 (AQ K rfl) (AN (Aa Ag (Aa (Aj GT (hr.mono (by decide)) (by rfl) XT.mg XT.F.kp XT.b .nil Aw (Aa (pv 0) (Aa Ag Ad))) (Aa (Aj GT (hr.mono (by decide)) (by rfl) XT.mg XT.F.kp XT.b .nil Aw (Aa (pv 0) (Aa Ag Ad))) (Aa (As Ew (Aj GL (hr.mono (by decide)) (by rfl) XL.mg XL.F.kp XL.b .nil Aw (Aa (pv 0) Ad)) Ag) Ad))))) (pv 4) (fun _ _=>rfl)) Ad))) Ad)))))
  (Ae (Aq (i:=7) nd rfl (Or.inl rfl) (AN Ad))
  (Ae (Bv PassesOwn.never rfl (By K rfl (Aj GS (hr.mono (by decide)) (by rfl) XS.mg XS.F.kp XS.b .nil Aw (Aa (pv 0) (Aa (pv 2) (Aa (As Be Ag (Aj GT (hr.mono (by decide)) (by rfl) XT.mg XT.F.kp XT.b .nil Aw (Aa (pv 0) (Aa (Ai (JM rfl) (by rfl) h_min PyProof.Rows.boot_min (Aa Ag (Aa (Ai (Av K rfl) (by rfl) h_len PySem.boot_len (Aa (pv 2) Ad)) Ad))) Ad)))) Ad))))) (Al (i:=6) nd rfl (Or.inl rfl))
  (Ak (FG (HL PySem.F.plainAttrs_list PySem.F.slot_list_append PySem.F.type_list_append BR (pv 7) (Aa (Bm (Aa (pv 6) (Aa (A4 (AQ K rfl) (AN (Aa (As Be Ag (Aj GT (hr.mono (by decide)) (by rfl) XT.mg XT.F.kp XT.b .nil Aw (Aa (pv 0) (Aa Ag Ad)))) (Aa (Aj GL (hr.mono (by decide)) (by rfl) XL.mg XL.F.kp XL.b .nil Aw (Aa (pv 0) Ad)) Ad))) (AF Gu (by rfl) h_int PyProof.Rows.boot_int (Aa (EV MB (Aj GT (hr.mono (by decide)) (by rfl) XT.mg XT.F.kp XT.b .nil Aw (Aa (pv 0) (Aa Ag Ad))) Ag (B9 _)) Ad)) (fun _ _=>rfl)) Ad))) Ad)))))
  (Ae (Aq (i:=8) nd rfl (Or.inl rfl) (A4 (AQ K rfl) (AN (Aa HJ (Aa (As Be Ag (Aj GT (hr.mono (by decide)) (by rfl) XT.mg XT.F.kp XT.b .nil Aw (Aa (pv 0) (Aa (Ai (Av K rfl) (by rfl) h_len PySem.boot_len (Aa (pv 5) Ad)) Ad)))) (Aa (As Be Ag (Aj GT (hr.mono (by decide)) (by rfl) XT.mg XT.F.kp XT.b .nil Aw (Aa (pv 0) (Aa Ag Ad)))) Ad)))) (Aj GT (hr.mono (by decide)) (by rfl) XT.mg XT.F.kp XT.b .nil Aw (Aa (pv 0) (Aa Ag Ad))) (fun _ _=>rfl)))
  (Ak (AH (Bm (Aa (pv 3) (Aa (AF (Bp K rfl) (by rfl) h_tuple PyProof.Rows.boot_tuple (Aa (pv 5) Ad)) (Aa (AF (Bp K rfl) (by rfl) h_tuple PyProof.Rows.boot_tuple (Aa (pv 7) Ad)) (Aa (pv 8) Ad))))))))))))))),?_⟩
  have t30:(100:Int) < 10 ^ 30:=by decide
  refine ⟨_,rfl,_,rfl,p,9,rfl,hP,by decide,by decide,fun d1 H1 P1 k1 U0 Qx=>⟨_,_,rfl,rfl,?_⟩⟩;obtain ⟨n1,rfl⟩:∃ n:Nat,d1=n:=⟨d1.toNat,by lia⟩
  refine ⟨p,1 + n1,rfl,P1,by lia,fun H2 D xs P2 k2 fD hD xl xnd xnm=>?_⟩;have nD:D ≠ p:=P1.ne fD;refine ⟨_,rfl,_,rfl,_,rfl,p,D,xs,sh,rfl,P2,hD,nD,xnd,xnm,by lia,by lia,VG,sh4,fun H3 m ps ws P3 k3 pp mw=>?_⟩;have Oe:=k3 _ _ nD hD;have q3:=(k1.trans k2).trans k3;refine ⟨_,rfl,p,4,rfl,P3,by decide,by decide,fun wy H4 P4 k4 wy0 wy4=>?_⟩;have q4:=q3.trans k4;have mw4:=mw.keepT (Cq P3 k4);have Ql:=k4 _ _ nD Oe;clear mw Oe hD k1 k2 k3 k4 q3 P1 P2 P3 fD;refine ⟨(by show 0<=sizeLine; lia),fun R hR=>?_⟩;have nR:R ≠ p:=P4.ne hR;have nRD:R ≠ D:=fun z=>by rw [z,Ql] at hR; cases hR
  have s5:=Ac (o:=.lst []) hR;have P5:=P4.same s5;have WA:=mw4.keepT (fun b ys z=>s5 _ _ z);have Lv:=s5 _ _ Ql;have VZ:(upd H4 R (.lst [])) R=some (.lst []):=Ab;have q5:AI p H (upd H4 R (.lst [])):=q4.trans (AI.of_same s5);have frR:H R=none:=by
   cases z:H R with
   | none=>rfl
   | some o=>rw [q4 _ _ nR z] at hR; cases hR
  generalize upd H4 R (.lst [])=H5 at P5 WA Lv VZ q5;clear mw4 Ql hR s5 P4 q4;have lx:((xs.map V.str).length:Int)=1 + (n1:Int):=by rw [X8,xl]; lia
  refine ⟨_,rfl,_,rfl,_,rfl,_,rfl,D,_,rfl,.inl (AA.of Lv),_,_,rfl,p,_,rfl,P5,by rw [lx]; split <;> lia,by rw [lx]; split <;> lia,fun d2 H6 P6 k6 d20 Wl=>⟨_,_,rfl,rfl,?_⟩⟩;rw [lx] at Wl;obtain ⟨n2,rfl⟩:∃ n:Nat,d2=n:=⟨d2.toNat,by lia⟩
  have n2b:1 + n2<=xs.length/\n2 < 6:=by
   rw [xl];split at Wl <;> lia
  refine ⟨p,D,xs,1 + n2,rfl,P6,k6 _ _ nD Lv,nD,by lia,n2b.1,fun H7 D1 ys zs P7 k7 Wf Sh pm yl so=>⟨D1,rfl,⟨_,AA.of Sh⟩,?_⟩⟩;have Vb:=k6.trans k7;have mw7:=WA.keepT (Cq P5 Vb);have Uw:=Vb _ _ nD Lv;have Xa:=Vb _ _ nR VZ;have q7:=q5.trans Vb;have nD1:D1 ≠ p:=P6.ne Wf;have nDR:D1 ≠ R:=fun z=>by rw [z,k6 _ _ nR VZ] at Wf; cases Wf
  clear WA Lv VZ q5 k6 k7 Vb P5 P6 Wf;refine E8 (xs:=ys.map V.str) (fun i σ H'=>∃ (v6:Option V) (rs:List Fx) (vs:List V),σ=[some (.ref p),some (.int sh),some (.ref D),some (.ref m),some (.int wy),some (.ref R),v6,none,none]/\R5 K H7 H' p R rs vs/\rs.map (·.1)=ys.take i/\vs.length=i/\∀ r ∈ rs,0<=r.2/\r.2 < 10 ^ 30)
   ⟨_,[],[],rfl,⟨P7,fun b o _ _ z=>z,Xa,.nil,nR⟩,rfl,rfl,fun r hr=>nomatch hr⟩ (fun i σ H' _ ⟨_,_,_,_,r5,_⟩=>AA.of (r5.kp _ _ nD1 nDR Sh)) ?_ ?_
  ·rintro i v σ H' hv ⟨v6,rs,vs,rfl,r5,rt,vl,rl⟩;obtain ⟨y,ey,rfl⟩:∃ y,ys[i]? = some y/\v=.str y:=by
    rw [XU] at hv;cases ex:ys[i]? with
    | none=>rw [ex] at hv; cases hv
    | some x=>rw [ex] at hv; exact ⟨x,rfl,(Yi.inj hv).symm⟩
   have ii:=(XX.mp ey).1;refine ⟨_,rfl,.inl ⟨rfl,_,AA.of r5.hR⟩,_,rfl,_,rfl,p,5,rfl,r5.pn,by decide,by decide,fun e1 Ha Pa ka Xn Wk=>?_⟩;refine ⟨_,rfl,p,40,rfl,Pa,by decide,by decide,fun e2 Hb Pb kb e20 Xm=>?_⟩;refine ⟨_,rfl,p,rfl,Pb,fun le Hc Pc kc le1 UY=>⟨_,_,rfl,rfl,(by show 4<=sizeLine; lia),fun T hT=>?_⟩⟩;have rc:=r5.step Pc ((ka.trans kb).trans kc);obtain ⟨a,ha,a0,Xu⟩:∃ a:Int,Jf [V.int 0,V.int e1,V.int e2,V.int (le - 1)] wy=some (.int a)/\0<=a/\a < 10 ^ 30:=by
    have c:wy=0\/wy=1\/wy=2\/wy=3:=by lia
    rcases c with rfl | rfl | rfl | rfl
    ·exact ⟨0,rfl,by lia,by lia⟩
    ·exact ⟨e1,rfl,by lia,by lia⟩
    ·exact ⟨e2,rfl,by lia,by lia⟩
    ·exact ⟨le - 1,rfl,by lia,by lia⟩
   have rd:=rc.add hT (.lst [.int 0,.int e1,.int e2,.int (le - 1)]);refine ⟨_,rfl,T,_,_,_,rfl,rfl,AA.of Ab,ha,(by show 2<=sizeLine; lia),fun T2 O5=>?_⟩;have re:=rd.add O5 (.tup [.str y,.int a]);refine ⟨R,_,_,rfl,rfl,re.hR,by lia,?_⟩;refine ⟨_,rs ++ [(y,a)],_,rfl,re.app Ab,by rw [Yb,rt,Yk,ey]; rfl,by rw [XI,vl]; rfl,fun r hr=>?_⟩;rcases Ye.mp hr with hr | hr
   ·exact rl r hr
   ·rw [XY.mp hr]; exact ⟨a0,Xu⟩
  rintro σ H8 ⟨v6,Bj,vs1,rfl,r8,VN,vl1,rl1⟩;rw [X8,Yq] at VN;rw [X8] at vl1;have rs1l:Bj.length=ys.length:=by rw [<-VN,X8]
  have tp8:∀ b xs,H7 b=some (.tup xs)->H8 b=some (.tup xs):=fun b xs z=>r8.kp b _ (by obtain ⟨_,_,_,_,y,_⟩:=P7; exact Ba z y (fun q=>by cases q)) (Ba z Xa (fun q=>by cases q)) z
  have mw8:=mw7.keepT tp8;have Uv:=r8.kp _ _ nD nRD.symm Uw;have q8:AI p H H8:=fun b o hb z=>r8.kp b o hb (Ah z frR) (q7 b o hb z)
  have P8:=r8.pn;have WZ:=r8.hR;have dd8:=r8.dd;have ok1:ID ps 0 Bj:=FF pm xnd VN rl1 (by lia) pp;clear r8 mw7 Uw Xa tp8 Sh nDR nD1 q7 P7;refine ⟨(by show 0<=sizeLine; lia),fun R2 RB=>?_⟩;have UR:R2 ≠ p:=P8.ne RB;have nR2D:R2 ≠ D:=fun z=>by rw [z,Uv] at RB; cases RB
  have nRR:R ≠ R2:=fun z=>by rw [<-z,WZ] at RB; cases RB
  have s9:=Ac (o:=.lst []) RB;have P9:=P8.same s9;have W9:=mw8.keepT (fun b ys z=>s9 _ _ z);have Wb:=s9 _ _ Uv;have WY:=s9 _ _ WZ;have Xp:=Cj dd8 (fun b ys z=>s9 _ _ z);have R9:(upd H8 R2 (.lst [])) R2=some (.lst []):=Ab;have q9:AI p H (upd H8 R2 (.lst [])):=q8.trans (AI.of_same s9);have Xh:H R2=none:=by
   cases z:H R2 with
   | none=>rfl
   | some o=>rw [q8 _ _ UR z] at RB; cases RB
  generalize upd H8 R2 (.lst [])=H9 at P9 W9 Wb WY Xp R9 q9;clear mw8 Uv WZ dd8 q8 P8 s9 RB;refine ⟨_,rfl,_,rfl,_,rfl,_,rfl,D,_,rfl,.inl (AA.of Wb),_,_,rfl,p,_,rfl,P9,by rw [lx]; split <;> lia,by rw [lx]; split <;> lia,fun d3 Hl Xw k10 d30 d31=>⟨_,_,rfl,rfl,?_⟩⟩;rw [lx] at d31;obtain ⟨n3,rfl⟩:∃ n:Nat,d3=n:=⟨d3.toNat,by lia⟩
  have n3b:1 + n3<=xs.length/\n3 < 8:=by
   rw [xl];split at d31 <;> lia
  refine ⟨p,D,xs,1 + n3,rfl,Xw,k10 _ _ nD Wb,nD,by lia,n3b.1,fun Lq D2 U9 zs2 Xv k11 We II VP yl2 so2=>⟨D2,rfl,⟨_,AA.of II⟩,?_⟩⟩;have NV:=k10.trans k11;have UT:=W9.keepT (Cq P9 NV);have Vu:=NV _ _ nR WY;have V6:=Cj Xp (Cq P9 NV);have Qj:=NV _ _ UR R9;have Rb:=q9.trans NV;have VT:D2 ≠ p:=Xw.ne We;have US:D2 ≠ R2:=fun z=>by rw [z,k10 _ _ UR R9] at We; cases We
  clear W9 Wb WY Xp R9 q9 P9 Xw k10 k11 NV We;refine E8 (xs:=U9.map V.str) (fun i σ H'=>∃ (v6:Option V) (rs:List Fx) (vs:List V),σ=[some (.ref p),some (.int sh),some (.ref D),some (.ref m),some (.int wy),some (.ref R),v6,some (.ref R2),none]/\R5 K Lq H' p R2 rs vs/\rs.map (·.1)=U9.take i/\vs.length=i/\∀ r ∈ rs,1<=r.2/\r.2 < 10 ^ 30)
   ⟨_,[],[],rfl,⟨Xv,fun b o _ _ z=>z,Qj,.nil,UR⟩,rfl,rfl,fun r hr=>nomatch hr⟩ (fun i σ H' _ ⟨_,_,_,_,r5,_⟩=>AA.of (r5.kp _ _ VT US II)) ?_ ?_
  ·rintro i v σ H' hv ⟨v6,rs,vs,rfl,r5,rt,vl,rl⟩;obtain ⟨y,ey,rfl⟩:∃ y,U9[i]? = some y/\v=.str y:=by
    rw [XU] at hv;cases ex:U9[i]? with
    | none=>rw [ex] at hv; cases hv
    | some x=>rw [ex] at hv; exact ⟨x,rfl,(Yi.inj hv).symm⟩
   have ii:=(XX.mp ey).1;refine ⟨_,rfl,.inl ⟨rfl,_,AA.of r5.hR⟩,_,rfl,_,rfl,p,4,rfl,r5.pn,by decide,by decide,fun e1 Ha Pa ka Xn Wk=>⟨_,_,rfl,rfl,?_⟩⟩;refine ⟨_,rfl,p,rfl,Pa,fun le Hc Pc kc le1 UY=>⟨(by show 2<=sizeLine; lia),fun T hT=>?_⟩⟩;have rd:=(r5.step Pc (ka.trans kc)).add hT (.lst [.int (1 + e1),.int le]);have nT:T ≠ p:=Pc.ne hT;have Ks:(upd Hc T (.lst [.int (1 + e1),.int le])) T=some (.lst [.int (1 + e1),.int le]):=Ab;generalize upd Hc T (.lst [.int (1 + e1),.int le])=Hd at rd Ks;refine ⟨_,rfl,p,5,rfl,rd.pn,by decide,by decide,fun e3 He Pe ke e30 e31=>⟨rfl,.inr ⟨_,rfl,?_⟩⟩⟩;have re:=rd.step Pe ke;have hTe:=ke _ _ nT Ks;obtain ⟨a,ha,a0,Xu⟩:∃ a:Int,Jf [V.int (1 + e1),V.int le] (if decide (V.int e3=V.int 0)=true then 1 else 0)=some (.int a)/\1<=a/\a < 10 ^ 30:=by
    split
    ·exact ⟨le,rfl,le1,UY⟩
    ·exact ⟨1 + e1,rfl,by lia,by lia⟩
   refine ⟨T,_,_,_,rfl,rfl,AA.of hTe,ha,(by show 2<=sizeLine; lia),fun T2 O5=>?_⟩;have rf:=re.add O5 (.tup [.str y,.int a]);refine ⟨R2,_,_,rfl,rfl,rf.hR,by lia,?_⟩;refine ⟨_,rs ++ [(y,a)],_,rfl,rf.app Ab,by rw [Yb,rt,Yk,ey]; rfl,by rw [XI,vl]; rfl,fun r hr=>?_⟩;rcases Ye.mp hr with hr | hr
   ·exact rl r hr
   ·rw [XY.mp hr]; exact ⟨a0,Xu⟩
  rintro σ X0 ⟨v6',Bc,vs2,rfl,SN,VM,vl2,rl2⟩;rw [X8,Yq] at VM;rw [X8] at vl2;have rs2l:Bc.length=U9.length:=by rw [<-VM,X8]
  have Sz:∀ b xs,Lq b=some (.tup xs)->X0 b=some (.tup xs):=fun b xs z=>SN.kp b _ (by obtain ⟨_,_,_,_,y,_⟩:=Xv; exact Ba z y (fun q=>by cases q)) (Ba z Qj (fun q=>by cases q)) z
  have WB:=UT.keepT Sz;have Vt:=SN.kp _ _ nR nRR Vu;have Xq:=Cj V6 Sz;have q12:AI p H X0:=fun b o hb z=>SN.kp b o hb (Ah z Xh) (Rb b o hb z)
  have Wn:=SN.pn;have Vs:=SN.hR;have Xo:=SN.dd;have ok2:ID ps 1 Bc:=FF VP xnd VM rl2 (by lia) pp;clear SN UT Vu V6 Qj Rb Xv Sz II VT US;refine ⟨_,rfl,_,rfl,R,_,rfl,.inl (AA.of Vt),p,_,rfl,Wn,by lia,by lia,fun f1 Xz P13 k13 V4 f11=>⟨_,_,rfl,rfl,?_⟩⟩;refine ⟨_,rfl,p,12,rfl,P13,by decide,by decide,fun f2 Wo P14 k14 f20 f21=>⟨_,_,rfl,rfl,(by show 3<=sizeLine; lia),fun T hT=>?_⟩⟩;have VL:=Ac (o:=.lst [.non,.int (1 + f1),.int (1 + f2)]) hT;have P15:=P14.same VL;have nT:T ≠ p:=P14.ne hT;have Ks:(upd Wo T (.lst [.non,.int (1 + f1),.int (1 + f2)])) T=some (.lst [.non,.int (1 + f1),.int (1 + f2)]):=Ab;have k15:=(k13.trans k14).trans (AI.of_same VL);generalize upd Wo T (.lst [.non,.int (1 + f1),.int (1 + f2)])=H15 at P15 Ks k15;refine ⟨_,rfl,p,3,rfl,P15,by decide,by decide,fun f3 H16 P16 k16 f30 f31=>?_⟩;obtain ⟨x,d,hx,lim⟩:∃ (x:V) (d:PyData),Jf [V.non,V.int (1 + f1),V.int (1 + f2)] f3=some x/\Lim x d:=by
   have c:f3=0\/f3=1\/f3=2:=by lia
   rcases c with rfl | rfl | rfl
   ·exact ⟨_,_,rfl,.inl ⟨rfl,rfl⟩⟩
   ·exact ⟨_,_,rfl,.inr ⟨1 + f1,rfl,rfl,by lia,by lia⟩⟩
   ·exact ⟨_,_,rfl,.inr ⟨1 + f2,rfl,rfl,by lia,by lia⟩⟩
  refine ⟨T,_,_,x,rfl,rfl,AA.of (k16 _ _ nT Ks),hx,?_⟩;have kk:=k15.trans k16;have tt:=Cq Wn kk;have W3:=q12.trans kk;refine ⟨_,rfl,_,rfl,R,_,rfl,.inl ⟨AA.of (kk _ _ nR Vt),fun t1 La=>?_⟩⟩;have W0:=Ac (o:=.tup vs1) La;refine ⟨_,rfl,R2,_,rfl,.inl ⟨AA.of (W0 _ _ (kk _ _ UR Vs)),fun t2 Fo=>?_⟩⟩;have s18:=Ac (o:=.tup vs2) Fo;refine ⟨_,rfl,(by show 4<=sizeLine; lia),fun c hc=>?_⟩;have Wz:=Ac (o:=.tup [.ref m,.ref t1,.ref t2,x]) hc;have sa:=W0.trans (s18.trans Wz);refine k _ c m (1 + n1) ps ws Bj Bc x d (P16.same sa) (W3.trans (AI.of_same sa)) ⟨⟨⟨t1,t2,vs1,vs2,Ab,Wz _ _ (s18 _ _ Ab),Cj Xq fun b ys z=>sa _ _ (tt _ _ z),Wz _ _ Ab,Cj Xo fun b ys z=>sa _ _ (tt _ _ z)⟩,by rw [<-xl]; exact WB.keepT fun b ys z=>sa _ _ (tt _ _ z),by lia,by lia,ok1,ok2,by lia,by lia,lim⟩,by lia,by lia,by lia,by rw [VN]; exact so,by rw [VM]; exact so2⟩
end
section
variable {P:Program} {w:World} {K:XB} {mg:Str->Option Value} {base:Heap}
theorem Tp (h_sorted:mg "sorted"=none) (h_tuple:mg "tuple"=none) {f:Addr} {cdv:Value} {A:Around} {outer:List Env} {s:Shared} {H:Hp} {E:XK} (hr:D6 2 (A.deeper (PyProof.Rows.envOfC "_law_map" (Ap Cs) s.heap.objs.size f cdv))) :
  ∃ tl,Kw (Hh BN P w K mg base ["_law_pen","_law_names_here","_law_shape","_law_ways","_law_k","_law_other","_law_turn","_law_pair"] "_law_map" (Ap Cs) f cdv A outer s H E).nox ((BJ Cs).drop 3) tl /\
   ∀ (W:El) (H0 H1:Hp) (p e D:Addr) (xs:List Str) (us:List AG) (v2 v4 v5 v6 v7:Option V),M5 K H0 H1 p e D xs us->Fp xs us->us.length<=31->(∀ u ∈ us,u.2.2 < 10 ^ 30)->xs.Nodup->(∀ x ∈ xs,Bb x=true)->xs.length<=26 ->
    (∀ (H':Hp) (m:Addr) (ps:List Str) (ws:List AG),CP K H' p->AI p H0 H'->ps.Perm xs->Fy H' m xs.length ps ws->W.rt (.ref m) H')->tl W [some (.ref p),some (.ref e),v2,some (.ref D),v4,v5,v6,v7] H1:=by
 have nd:=Fq.nd;have hu:=Dy hr;have big:100000 < sizeLine:=by decide
 refine ⟨_,(Ak (AH (Bm (Aa (AF (Bp K rfl) (by rfl) h_tuple PyProof.Rows.boot_tuple (Aa (Ai Cw (by rfl) h_sorted PyProof.Rows.boot_sorted (Aa (pv 1) Ad)) Ad)) (Aa (AF (Bp K rfl) (by rfl) h_tuple PyProof.Rows.boot_tuple (Aa (BQ (N:=["_law_pair","_law_ways"]) (σ0:=fun σ=>[none,some 3].map fun j=>j.bind fun j=>(σ[j]?).join) rfl (AS.caught (by rfl) (by decide +kernel) rfl (by decide +kernel) (by intro y hy; simp only [XC,XZ,or_false] at hy; rcases hy with rfl <;> rfl)
   (by intro y hy e; simp only [XC,XZ,or_false] at hy; rcases hy with rfl | rfl | rfl <;> first | exact ⟨_,rfl⟩ | cases e)) (fun σ _=>AU.of [none,some 3] rfl (by
   intro i j x h1 h2;match i,h1,h2 with
   | 0,_,h2=>cases h2
   | 1,h1,h2=>cases h1; cases h2; exact ⟨rfl,.inl rfl,.inl rfl⟩
   | n + 2,h1,_=>cases h1)) (By K rfl (Ai (Iv rfl) (by rfl) h_sorted PyProof.Rows.boot_sorted (Aa (pv 3) Ad)))
   (fun s2 H C fp=>⟨(Al (i:=0) (show (["_law_pair","_law_ways"]:List Str).Nodup by decide +kernel) rfl (Or.inl rfl)),Br,(As (PQ K rfl) (pv 0) (Bm (Aa (Bt hu (pv 1) (pv 0) (fun _ _=>rfl)) Ad)))⟩)) Ad)) Ad))))),?_⟩
 intro W H0 H1 p e D xs us v2 v4 v5 v6 v7 mi wc ul Q8 xnd xnm x26 k;refine ⟨_,rfl,e,xs,rfl,AA.of mi.he,by lia,fun l ps hl pm so=>⟨l,_,rfl,.inl ⟨AA.of Ab,fun T1 WV=>?_⟩⟩⟩;have m1:=(mi.add hl (.lst (ps.map V.str))).add WV (.tup (ps.map V.str));have Vq:(upd (upd H1 l (.lst (ps.map V.str))) T1 (.tup (ps.map V.str))) T1=some (.tup (ps.map V.str)):=Ab;generalize upd (upd H1 l (.lst (ps.map V.str))) T1 (.tup (ps.map V.str))=H2 at m1 Vq;refine ⟨_,rfl,D,_,fun _=>true,rfl,m1.hw,fun q hq=>?_,by rw [X8]; lia,fun l2 ts ks Kq pk tl tt=>⟨l2,rfl,⟨_,AA.of Ab⟩,?_⟩⟩
 ·obtain ⟨u,_,rfl⟩:=Ya.mp hq;refine ⟨(fun z=>by cases z),fun i y ey=>?_⟩;have hm:=XG ey;have Ur:y ∈ [Sum.inr (BG u.1 u.2.1),Sum.inr (BH u.1 u.2.1)]:=hm;simp only [XC,XZ,or_false] at Ur;rcases Ur with rfl | rfl
  ·exact ⟨_,rfl⟩
  ·exact ⟨_,rfl⟩
 have m2:=m1.add Kq (.lst (ts.map V.ref));have Vm:(upd H2 l2 (.lst (ts.map V.ref))) l2=some (.lst (ts.map V.ref)):=Ab;have s2:=Ac (o:=.lst (ts.map V.ref)) Kq;have Vp:=s2 _ _ Vq;generalize upd H2 l2 (.lst (ts.map V.ref))=H3 at m2 Vm s2 Vp;rw [Y7] at pk;obtain ⟨O1,pu,rfl⟩:=GA _ pk.symm us rfl;have ulen:=pu.length_eq;rw [X8] at tl;refine CF Bk (xs:=ts.map V.ref) (fun B i σ H' acc=>∃ v0:Option V,σ=[v0,some (.ref D)]/\Au H3 H'/\H' B=some (.lst acc)/\acc.length=i/\BM H' acc (((O1.take i).map Ex).map MX))
  (by rw [X8]; lia) (fun B hB=>⟨_,rfl,Ac hB,Ab,rfl,.nil⟩) (fun B i σ H' acc hB ⟨v0,_,kp,Ux,al,_⟩=>⟨AA.of (kp _ _ Vm),Ux,al⟩) ?_ ?_
 ·rintro B i σ H' acc x' Y hB ex ⟨v0,rfl,kp,Ux,al,dd⟩ hY;obtain ⟨t,et,rfl⟩:∃ t,ts[i]? = some t/\x'=.ref t:=by
   rw [XU] at ex;cases z:ts[i]? with
   | none=>rw [z] at ex; cases ex
   | some t=>rw [z] at ex; exact ⟨t,rfl,(Yi.inj ex).symm⟩
  have hi:i < O1.length:=by rw [<-tl]; exact (XX.mp et).1
  obtain ⟨u,eu⟩:∃ u,O1[i]? = some u:=⟨_,XA hi⟩
  have ht:H2 t=some (.tup [.str (BG u.1 u.2.1),.str (BH u.1 u.2.1)]):=tt i t (DH u) et (by rw [XU,eu]; rfl);have Uq:=kp _ _ (s2 _ _ ht);have um:u ∈ us:=pu.mem_iff.mp (XG eu);have dg:BU H' D (.ref t) (some (.int u.2.2)):=by
   rw [<-valW wc.2.1 um];exact BU.t (k:=DH u) (kp _ _ m2.hw) Uq
  refine ⟨_,rfl,_,rfl,_,rfl,D,_,rfl,dg,(by show 1<=sizeLine; lia),fun T2 O5=>?_⟩;refine ⟨t,T2,_,_,rfl,rfl,AM.of (Ac O5 _ _ Uq),AM.of Ab,by simp,by show 2 + 1<=sizeLine; lia,(fun z=>by cases z),fun _ T hT=>?_⟩;have s4:=(Ac (o:=.tup [.int u.2.2]) O5).trans (Ac (o:=.tup [.str (BG u.1 u.2.1),.str (BH u.1 u.2.1),.int u.2.2]) hT);have Ks:(upd (upd H' T2 (.tup [.int u.2.2])) T (.tup [.str (BG u.1 u.2.1),.str (BH u.1 u.2.1),.int u.2.2])) T=some (.tup [.str (BG u.1 u.2.1),.str (BH u.1 u.2.1),.int u.2.2]):=Ab;show Y _ _ (upd (upd H' T2 (.tup [.int u.2.2])) T (.tup [.str (BG u.1 u.2.1),.str (BH u.1 u.2.1),.int u.2.2]))
  generalize upd (upd H' T2 (.tup [.int u.2.2])) T (.tup [.str (BG u.1 u.2.1),.str (BH u.1 u.2.1),.int u.2.2])=H5 at s4 Ks;have Vz:=s4 _ _ Ux;have nT:T ≠ B:=Ba Ks Vz (fun z=>by cases z);refine hY _ _ _ Vz ⟨_,rfl,fun b o z=>by rw [Af (Ah z hB)]; exact s4 _ _ (kp _ _ z),Ab,by rw [XI,al]; rfl,?_⟩;rw [Yk,eu,Option.toList_some,Yb,Yb];refine EC (F7 dd fun b ys z=>?_) (.cons (.tup (vs:=[.str (BG u.1 u.2.1),.str (BH u.1 u.2.1),.int u.2.2]) (by rw [Af nT]; exact Ks) ?_) .nil)
  ·rw [Af (Ba z Ux (fun y=>by cases y))];exact s4 _ _ z
  ·exact .cons (.str _) (.cons (.str _) (.cons (.int _) .nil))
 ·rintro B σ H' acc hB ⟨v0,rfl,kp,Ux,al,dd⟩;rw [X8,tl,Yq] at dd;refine ⟨B,_,rfl,.inl ⟨AA.of Ux,fun T hT=>⟨(by show 2<=sizeLine; lia),fun m hm=>?_⟩⟩⟩;have s5:=(Ac (o:=.tup acc) hT).trans (Ac (o:=.tup [.ref T1,.ref T]) hm);have s6:=kp.trans s5;have m6:=m2.step (m2.pn.same s6) (AI.of_same s6);have pw:(O1.map Ex).Perm (us.map Ex):=pu.map _;refine k _ m ps (O1.map Ex) m6.pn m6.kp pm ⟨⟨⟨T1,T,acc,Ab,s6 _ _ Vp,Ac hm _ _ Ab,F7 dd fun b ys z=>s5 _ _ z⟩,pm.length_eq,pm.nodup_iff.mpr xnd,fun x hx=>xnm x (pm.mem_iff.mp hx),by rw [X8]; lia,fun w hw=>?_⟩,⟨xs,us,pm,pw,wc⟩,so,by rw [X8]; lia⟩;have hn:=JI pw (fun u hu=>⟨(wc.1 u hu).1,(wc.1 u hu).2.1⟩) w hw;obtain ⟨u,WH,rfl⟩:=Ya.mp hw;have um:=pu.mem_iff.mp WH;exact ⟨xnm _ hn.1,xnm _ hn.2,(wc.1 u um).2.2.2,Q8 u um⟩
theorem LI (h_int:mg "int"=none) (h_len:mg "len"=none) (h_max:mg "max"=none) (h_range:mg "range"=none) (h_sorted:mg "sorted"=none) (h_tuple:mg "tuple"=none) {fT:Addr} {fdT:FuncData} (XT:Fn K mg "_law_take" AE ["_law_pen","_law_many"] fT fdT) (GT:AJ P w K mg base BN 1 fT fdT ["_law_pen","_law_many"] (CQ K)) {fL:Addr} {fdL:FuncData} (XL:Fn K mg "_law_length" Cg ["_law_pen"] fL fdL) (GL:AJ P w K mg base BN 2 fL fdL ["_law_pen"] (L8 K)) {f:Addr} {fd:FuncData} (F:Fz K "_law_map" "_law_map" Cs f fd):AJ P w K mg base BN 3 f fd ["_law_pen","_law_names_here","_law_shape"] (OW K):=by
 refine F.ok Fq (fun vs H Q E h=>?_) (fun cdv A outer s H vs Q E hr h=>?_)
 ·obtain ⟨p,e,xs,sh,rfl,_⟩:=h;rfl
 ·obtain ⟨p,e,xs,sh,rfl,P0,he,nep,xnd,xnm,x1,x26,VG,sh4,k⟩:=h;have nd:=Fq.nd;have hu:=Dy hr;have big:100000 < sizeLine:=by decide
  obtain ⟨tE,hE,kE⟩:=Tp (P:=P) (w:=w) (K:=K) (mg:=mg) (base:=base) h_sorted h_tuple (f:=f) (cdv:=cdv) (A:=A) (outer:=outer) (s:=s) (H:=H) (E:=E) hr;refine ⟨_,(Ae (Aq (i:=3) nd rfl (Or.inr rfl) KJ)
  (Ae (Bv PassesOwn.never rfl (N3 (by rfl) h_range (Aa Ag (Aa (Ai (Av K rfl) (by rfl) h_len PySem.boot_len (Aa (pv 1) Ad)) Ad))) (Al (i:=4) nd rfl (Or.inl rfl))
  (Ae (Aq (i:=5) nd rfl (Or.inl rfl) (A4 (AQ K rfl) (AN (Aa (As Ew (pv 4) Ag) (Aa (Aj GT (hr.mono (by decide)) (by rfl) XT.mg XT.F.kp XT.b .nil Aw (Aa (pv 0) (Aa (pv 4) Ad))) (Aa (Ai (Gs rfl) (by rfl) h_max PyProof.Rows.boot_max (Aa Ag (Aa (As Ew (As Ew (pv 4) Ag) (Aj GT (hr.mono (by decide)) (by rfl) XT.mg XT.F.kp XT.b .nil Aw (Aa (pv 0) (Aa Ag Ad)))) Ad))) (Aa Ag Ad))))) (pv 2) (fun _ _=>rfl)))
  (Ak (Ck hu (pv 3) (AF (Bp K rfl) (by rfl) h_tuple PyProof.Rows.boot_tuple (Aa (Ai DM (by rfl) h_sorted PyProof.Rows.boot_sorted (Aa (AN (Aa (A4 (AQ K rfl) (pv 1) (pv 4) (fun _ _=>rfl)) (Aa (A4 (AQ K rfl) (pv 1) (pv 5) (fun _ _=>rfl)) Ad))) Ad)) Ad)) (Aj GL (hr.mono (by decide)) (by rfl) XL.mg XL.F.kp XL.b .nil Aw (Aa (pv 0) Ad)) rfl))))
  (Ae (Bv PassesOwn.never rfl (Dc (by rfl) h_range (Aa (As DU (Aj GT (hr.mono (by decide)) (by rfl) XT.mg XT.F.kp XT.b .nil Aw (Aa (pv 0) (Aa Ag Ad))) (AF Gu (by rfl) h_int PyProof.Rows.boot_int (Aa (EV PN (pv 2) Ag (B9 _)) Ad))) Ad)) (Al (i:=6) nd rfl (Or.inl rfl))
  (Ae (Aq (i:=7) nd rfl (Or.inl rfl) (AF (Bp K rfl) (by rfl) h_tuple PyProof.Rows.boot_tuple (Aa (Ai DM (by rfl) h_sorted PyProof.Rows.boot_sorted (Aa (AN (Aa (A4 (AQ K rfl) (pv 1) (Aj GT (hr.mono (by decide)) (by rfl) XT.mg XT.F.kp XT.b .nil Aw (Aa (pv 0) (Aa (Ai (Av K rfl) (by rfl) h_len PySem.boot_len (Aa (pv 1) Ad)) Ad))) (fun _ _=>rfl)) (Aa (A4 (AQ K rfl) (pv 1) (Aj GT (hr.mono (by decide)) (by rfl) XT.mg XT.F.kp XT.b .nil Aw (Aa (pv 0) (Aa (Ai (Av K rfl) (by rfl) h_len PySem.boot_len (Aa (pv 1) Ad)) Ad))) (fun _ _=>rfl)) Ad))) Ad)) Ad)))
  (Ak (CN (LF (B5 PM (A4 (Ay K rfl) (pv 7) Ag (fun _ _=>rfl)) (A4 (Ay K rfl) (pv 7) Ag (fun _ _=>rfl)) (B9 _)) (My (HG (Jz hu (pv 7) (pv 3))))).pt
  (Ak (Ck hu (pv 3) (pv 7) (Aj GL (hr.mono (by decide)) (by rfl) XL.mg XL.F.kp XL.b .nil Aw (Aa (pv 0) Ad)) rfl))
  B6))))
  hE))),?_⟩
  intro D hD;have m0:M5 K H (upd H D (.dT [])) p e D xs []:=⟨P0.same (Ac hD),Ac hD _ _ he,Ab,AI.of_same (Ac hD),nep,P0.ne hD,hD⟩
  generalize upd H D (.dT [])=H1 at m0;refine ⟨_,rfl,e,_,rfl,.inl (AA.of m0.he),_,_,rfl,⟨by lia,by lia,by rw [X8]; lia,by rw [X8]; lia⟩,?_⟩;refine Dd (lo:=1) (fun j σ H'=>∃ (v4 v5 v6 v7:Option V) (us:List AG),σ=[some (.ref p),some (.ref e),some (.int sh),some (.ref D),v4,v5,v6,v7]/\M5 K H H' p e D xs us/\us.length=j/\Hj xs (j + 1) us/\∀ u ∈ us,u.2.2 < 10 ^ 30)
   ⟨_,_,_,_,[],rfl,m0,rfl,Hj.nil xs,fun u hu=>nomatch hu⟩ ?_ ?_
  ·rintro j σ H' hj ⟨v4,v5,v6,v7,us,rfl,mi,ul,tr,Q8⟩;rw [X8] at hj;have Hr:j + 1 < xs.length:=by lia
   refine ⟨_,rfl,_,_,rfl,rfl,_,rfl,_,rfl,p,_,rfl,mi.pn,by lia,by lia,fun d H2 P2 k2 d0 d1=>?_⟩;refine ⟨_,rfl,_,_,rfl,rfl,_,rfl,p,2,rfl,P2,by decide,by decide,fun d' H3 P3 k3 d'0 d'1=>⟨_,_,rfl,rfl,_,_,rfl,?_⟩⟩;have Uo:=mi.step P3 (k2.trans k3);clear mi P2 k2 k3;refine ⟨(by show 4<=sizeLine; lia),fun T hT=>?_⟩;have Um:=Uo.add hT (.lst [.int (1 + (j:Int) - 1),.int d,.int (if 1 + (j:Int) - 1 - d' > 0 then 1 + (j:Int) - 1 - d' else 0),.int 0]);have Ks:(upd H3 T (.lst [.int (1 + (j:Int) - 1),.int d,.int (if 1 + (j:Int) - 1 - d' > 0 then 1 + (j:Int) - 1 - d' else 0),.int 0])) T=some (.lst [.int (1 + (j:Int) - 1),.int d,.int (if 1 + (j:Int) - 1 - d' > 0 then 1 + (j:Int) - 1 - d' else 0),.int 0]):=Ab;obtain ⟨o,hv,o0⟩:∃ o:Nat,Jf [V.int (1 + (j:Int) - 1),V.int d,V.int (if 1 + (j:Int) - 1 - d' > 0 then 1 + (j:Int) - 1 - d' else 0),V.int 0] sh=some (.int (o:Int))/\o < j + 1:=by
    have c:sh=0\/sh=1\/sh=2\/sh=3:=by lia
    rcases c with rfl | rfl | rfl | rfl
    ·exact ⟨j,by show some (V.int _)=_; rw [show 1 + (j:Int) - 1=(j:Int) by lia],by lia⟩
    ·exact ⟨d.toNat,by show some (V.int _)=_; rw [aI d0],by lia⟩
    ·refine ⟨(if 1 + (j:Int) - 1 - d' > 0 then 1 + (j:Int) - 1 - d' else 0).toNat,?_,?_⟩
     ·show some (V.int _)=_
      rw [aI (by split <;> lia)]
     ·split <;> lia
    ·exact ⟨0,rfl,by lia⟩
   generalize upd H3 T (.lst [.int (1 + (j:Int) - 1),.int d,.int (if 1 + (j:Int) - 1 - d' > 0 then 1 + (j:Int) - 1 - d' else 0),.int 0])=H4 at Um Ks;refine ⟨_,rfl,T,_,_,_,rfl,rfl,AA.of Ks,hv,?_⟩;refine ⟨_,rfl,p,rfl,Um.pn,fun le H5 P5 k5 l1 l30=>?_⟩;have WC:=Um.step P5 k5;have ea:(xs.map V.str)[j + 1]? = some (.str xs[j + 1]):=by rw [XU,XA Hr]; rfl
   have eo:(xs.map V.str)[o]? = some (.str (xs[o]'(by lia))):=by rw [XU,XA (by lia)]; rfl
   have e1j:(1 + (j:Int))=((j + 1:Nat):Int):=by lia
   have xo:xs[o]? = some (xs[o]'(by lia)):=XA _;have xj:xs[j + 1]? = some xs[j + 1]:=XA _;generalize (xs[o]'(by lia))=x at eo xo;generalize xs[j + 1]=y at ea xj;refine ⟨_,rfl,_,rfl,_,rfl,e,_,_,_,rfl,rfl,AA.of WC.he,(by rw [e1j]; exact CY ea),_,rfl,_,rfl,e,_,_,_,rfl,rfl,AA.of WC.he,CY eo,(by show 2<=sizeLine; lia),fun T2 O5=>⟨T2,y,x,rfl,Ab,fun l hl=>⟨l,_,rfl,.inl ⟨AA.of Ab,fun T3 WU=>?_⟩⟩⟩⟩;have QA:=((WC.add O5 (.lst [.str y,.str x])).add hl (.lst [.str (BG y x),.str (BH y x)])).add WU (.tup [.str (BG y x),.str (BH y x)]);have pn:=Mz (To tr xnd (x:=x) (n:=le) xj);have hk:(upd (upd (upd H5 T2 (.lst [.str y,.str x])) l (.lst [.str (BG y x),.str (BH y x)])) T3 (.tup [.str (BG y x),.str (BH y x)])) T3=some (.tup ((DH (x,y,le)).map kV)):=by
    rw [J8 y x,JA y x];exact Ab
   generalize upd (upd (upd H5 T2 (.lst [.str y,.str x])) l (.lst [.str (BG y x),.str (BH y x)])) T3 (.tup [.str (BG y x),.str (BH y x)])=H6 at QA hk;refine ⟨D,_,rfl,Em.t QA.hw hk (by rw [X8]; lia),?_⟩;rw [show V.int le=V.int (x,y,le).2.2 from rfl,pn];refine ⟨_,_,_,_,us ++ [(x,y,le)],rfl,QA.put _,by rw [XI,ul]; rfl,OJ tr xnd o0 xo xj l1,fun u hu=>?_⟩;rcases Ye.mp hu with hu | hu
   ·exact Q8 u hu
   ·rw [XY.mp hu]; exact l30
  ·rintro σ H' ⟨v4,v5,v6,v7,us,rfl,mi,ul,tr,Q8⟩;rw [X8] at ul tr;rw [show ((xs.length:Int) - 1).toNat + 1=xs.length by lia] at tr;have wc:=(tr.ways xnd).c;refine ⟨_,rfl,p,6,rfl,mi.pn,by decide,by decide,fun d H2 P2 k2 d0 d1=>?_⟩;have mi2:=mi.step P2 k2;clear mi P2 k2;refine ⟨_,rfl,_,_,rfl,rfl,.inr ⟨_,rfl,?_⟩⟩;have i01:∀ b:Bool,(if b=true then (1:Int) else 0)=0\/(if b=true then (1:Int) else 0)=1:=fun b=>by cases b <;> simp
   have i1:=i01 (decide (1 < sh));generalize (if decide (1 < sh)=true then (1:Int) else 0)=i at i1;have mb:0<=d * i/\d * i<=5:=by rcases i1 with rfl | rfl <;> lia
   refine ⟨_,_,rfl,rfl,.inl ⟨by lia,by lia⟩,_,rfl,by lia,by lia,?_⟩;generalize d * i=m at mb;refine Dd (lo:=0) (fun j σ H'=>∃ (v4 v5 v6 v7:Option V) (us:List AG),σ=[some (.ref p),some (.ref e),some (.int sh),some (.ref D),v4,v5,v6,v7]/\M5 K H H' p e D xs us/\us.length<=26 + j/\Fp xs us/\∀ u ∈ us,u.2.2 < 10 ^ 30)
    ⟨_,_,_,_,us,rfl,mi2,by lia,wc,Q8⟩ ?_ ?_
   ·rintro j σ H' hj ⟨v4,v5,v6,v7,us,rfl,mi,ul,wc,Q8⟩;have xl0:(0:Int) < ((xs.map V.str).length:Int):=by rw [X8]; lia
    have xlB:((xs.map V.str).length:Int) < 1073741824:=by rw [X8]; lia
    refine ⟨_,rfl,_,rfl,_,rfl,e,_,rfl,.inl (AA.of mi.he),p,_,rfl,mi.pn,xl0,xlB,fun g H3 P3 k3 g0 g1=>?_⟩;rw [X8] at g1;have Uo:=mi.step P3 k3;obtain ⟨gn,rfl⟩:∃ n:Nat,g=n:=⟨g.toNat,by lia⟩
    have hgn:gn < xs.length:=by lia
    have eg:(xs.map V.str)[gn]? = some (.str xs[gn]):=by rw [XU,XA hgn]; rfl
    refine ⟨e,_,_,_,rfl,rfl,AA.of Uo.he,CY eg,?_⟩;refine ⟨_,rfl,_,rfl,_,rfl,e,_,rfl,.inl (AA.of Uo.he),p,_,rfl,Uo.pn,xl0,xlB,fun h H4 P4 k4 h0 h1=>?_⟩;rw [X8] at h1;have Um:=Uo.step P4 k4;obtain ⟨hn,rfl⟩:∃ n:Nat,h=n:=⟨h.toNat,by lia⟩
    have hhn:hn < xs.length:=by lia
    have eh:(xs.map V.str)[hn]? = some (.str xs[hn]):=by rw [XU,XA hhn]; rfl
    refine ⟨e,_,_,_,rfl,rfl,AA.of Um.he,CY eh,(by show 2<=sizeLine; lia),fun T2 O5=>?_⟩;have mx:xs[gn] ∈ xs:=Y6 hgn;have my:xs[hn] ∈ xs:=Y6 hhn;generalize xs[gn]=x at mx;generalize xs[hn]=y at my;refine ⟨T2,x,y,rfl,Ab,fun l hl=>⟨l,_,rfl,.inl ⟨AA.of Ab,fun T3 WU=>?_⟩⟩⟩;have QA:=((Um.add O5 (.lst [.str x,.str y])).add hl (.lst [.str (BG x y),.str (BH x y)])).add WU (.tup [.str (BG x y),.str (BH x y)]);have hk:(upd (upd (upd H4 T2 (.lst [.str x,.str y])) l (.lst [.str (BG x y),.str (BH x y)])) T3 (.tup [.str (BG x y),.str (BH x y)])) T3=some (.tup [.str (BG x y),.str (BH x y)]):=Ab;generalize upd (upd (upd H4 T2 (.lst [.str x,.str y])) l (.lst [.str (BG x y),.str (BH x y)])) T3 (.tup [.str (BG x y),.str (BH x y)])=H6 at QA hk;refine ⟨_,rfl,T3,_,_,_,rfl,rfl,AM.of hk,rfl,_,rfl,T3,_,_,_,rfl,rfl,AM.of hk,rfl,rfl,_,rfl,?_⟩;have stay:∀ v4 v5 v6 v7:Option V,∃ (v4' v5' v6' v7':Option V) (us:List AG),[some (.ref p),some (.ref e),some (.int sh),some (.ref D),v4,v5,v6,v7]=[some (.ref p),some (.ref e),some (.int sh),some (.ref D),v4',v5',v6',v7']/\M5 K H H6 p e D xs us/\us.length<=26 + (j + 1)/\Fp xs us/\∀ u ∈ us,u.2.2 < 10 ^ 30:=fun v4 v5 v6 v7=>⟨_,_,_,_,us,rfl,QA,by lia,wc,Q8⟩
    refine DI (fun z1=>?_) (fun _=>Ej (stay _ _ _ _));have ne:x ≠ y:=by
     intro z;subst z;simp [BG,BH] at z1
    refine ⟨_,rfl,_,rfl,D,_,rfl,BU.t (k:=DH (x,y,1)) QA.hw hk,_,rfl,?_⟩;refine DI (fun z2=>?_) (fun _=>stay _ _ _ _);refine ⟨_,rfl,p,rfl,QA.pn,fun le H7 P7 k7 l1 l30=>?_⟩;have mi7:=QA.step P7 k7;have hk7:=Cq QA.pn k7 _ _ hk;have no:∀ u ∈ us,¬ DN u (x,y,le):=fun u WH al=>QN (x:=(x,y,1)) (by simpa using z2) u WH al
    have pn:=Mz no;refine ⟨_,rfl,_,rfl,D,_,rfl,Em.t (k:=DH (x,y,le)) mi7.hw hk7 (by rw [X8]; lia),?_⟩;rw [show V.int le=V.int (x,y,le).2.2 from rfl,pn];refine ⟨_,_,_,_,us ++ [(x,y,le)],rfl,mi7.put _,by rw [XI]; simp; lia,MW wc mx my ne l1 no,fun u hu=>?_⟩;rcases Ye.mp hu with hu | hu
    ·exact Q8 u hu
    ·rw [XY.mp hu]; exact l30
   ·rintro σ H' ⟨v4,v5,v6,v7,us,rfl,mi,ul,wc,Q8⟩;exact kE _ H H' p e D xs us _ _ _ _ _ mi wc (by lia) Q8 xnd xnm x26 fun H' m ps ws a b c d=>k H' m ps ws a b c d
end
section
variable {P:Program} {w:World} {K:XB} {mg:Str->Option Value} {base:Heap}
theorem Kj (h_len:mg "len"=none) (h_range:mg "range"=none) {fT:Addr} {fdT:FuncData} (XT:Fn K mg "_law_take" AE ["_law_pen","_law_many"] fT fdT) (GT:AJ P w K mg base BN 1 fT fdT ["_law_pen","_law_many"] (CQ K)) {f:Addr} {fd:FuncData} (F:Fz K "_law_names" "_law_names" Dp f fd):AJ P w K mg base BN 2 f fd ["_law_pen","_law_many"] (K8 K):=by
 refine F.ok FA (fun vs H Q E h=>?_) (fun cdv A outer s H vs Q E hr h=>?_)
 ·obtain ⟨p,n,rfl,_⟩:=h;rfl
 ·obtain ⟨p,n,rfl,hP,hn,k⟩:=h;have nd:=FA.nd;have big:100000 < sizeLine:=by decide
  refine ⟨_,(Ae (Aq (i:=2) nd rfl (Or.inr rfl) CK)
  (Ae (Aq (i:=3) nd rfl (Or.inl rfl) (Aj GT (hr.mono (by decide)) (by rfl) XT.mg XT.F.kp XT.b .nil Aw (Aa (pv 0) (Aa Ag Ad))))
  (Ae (Aq (i:=4) nd rfl (Or.inl rfl) (HL PySem.F.plainAttrs_str PySem.F.slot_str_join PySem.F.type_str_join Rr CK (Aa (BQ (N:=["_law_k","_law_pen","_law_letters"]) (σ0:=fun σ=>[none,some 0,some 2].map fun j=>j.bind fun j=>(σ[j]?).join) rfl (AS.caught (by rfl) (by decide +kernel) rfl (by decide +kernel) (by intro y hy; simp only [XC,XZ,or_false] at hy; rcases hy with rfl | rfl <;> rfl)
   (by intro y hy e; simp only [XC,XZ,or_false] at hy; rcases hy with rfl | rfl | rfl | rfl | rfl <;> first | exact ⟨_,rfl⟩ | cases e)) (fun σ _=>AU.of [none,some 0,some 2] rfl (by
   intro i j x h1 h2;match i,h1,h2 with
   | 0,_,h2=>cases h2
   | 1,h1,h2=>cases h1; cases h2; exact ⟨rfl,.inl rfl,.inl rfl⟩
   | 2,h1,h2=>cases h1; cases h2; exact ⟨rfl,.inl rfl,.inl rfl⟩
   | n + 3,h1,_=>cases h1)) (Dc (by rfl) h_range (Aa (Aj GT (hr.mono (by decide)) (by rfl) XT.mg XT.F.kp XT.b .nil Aw (Aa (pv 0) (Aa Ag Ad))) Ad))
   (fun s2 H C fp=>⟨(Al (i:=0) (show (["_law_k","_law_pen","_law_letters"]:List Str).Nodup by decide +kernel) rfl (Or.inl rfl)),Br,(A4 Qg (pv 2) (Aj GT (hr.mono (by decide)) (by rfl) XT.mg XT.F.kp XT.b .nil Aw (Aa (pv 1) (Aa Ag Ad))) (fun _ _=>rfl))⟩)) Ad)))
  (Ae (Aq (i:=5) nd rfl (Or.inl rfl) (Aj GT (hr.mono (by decide)) (by rfl) XT.mg XT.F.kp XT.b .nil Aw (Aa (pv 0) (Aa (As Be (Ai FV (by rfl) h_len PySem.boot_len (Aa (pv 4) Ad)) Ag) Ad))))
  (Ae (Aq (i:=6) nd rfl (Or.inl rfl) (Aj GT (hr.mono (by decide)) (by rfl) XT.mg XT.F.kp XT.b .nil Aw (Aa (pv 0) (Aa Ag Ad))))
  (Ae (Aq (i:=7) nd rfl (Or.inl rfl) (AN Ad))
  (Ae (Bv PassesOwn.never rfl (Dc (by rfl) h_range (Aa (pv 1) Ad)) (Al (i:=8) nd rfl (Or.inl rfl))
  (Ae (Aq (i:=9) nd rfl (Or.inl rfl) (A4 Qg (pv 2) (As DV (As Be (pv 3) (As DU Ag (pv 8))) Ag) (fun _ _=>rfl)))
  (Ak (FG (HL PySem.F.plainAttrs_list PySem.F.slot_list_append PySem.F.type_list_append BR (pv 7) (Aa (As Dg (As Dg (As Dg (FH (pv 4) Du (Dt (pv 5))) (pv 9)) (FH (pv 4) (Dt (pv 5)) Du)) (As PJ CK (As DU (pv 6) (As DV (pv 8) Ag)))) Ad))))))
  (Ak (AH (pv 7)))))))))),?_⟩
  refine ⟨_,rfl,p,26,rfl,hP,by decide,by decide,fun st H0 P0 k0 Hz st1=>?_⟩;refine ⟨rfl,_,rfl,p,5,rfl,P0,by decide,by decide,fun d H1 P1 k1 da db=>⟨_,rfl,by lia,by lia,?_⟩⟩;have q1:=k0.trans k1;refine Pl (n:=d.toNat) (fun D i σ H' acc=>∃ (v0:Option V) (ss:List Str),σ=[v0,some (.ref p),some (.str FO)]/\CP K H' p/\AI p H1 H'/\H' D=some (.lst acc)/\acc=ss.map V.str/\acc.length=i/\∀ s ∈ ss,s.length=1/\Q5 s)
   (by lia) (fun D hD=>⟨_,[],rfl,P1.same (Ac hD),AI.of_same (Ac hD),Ab,rfl,rfl,fun s hs=>nomatch hs⟩) (fun D i σ H' acc hD ⟨v0,ss,_,_,_,BB,_,al,_⟩=>⟨BB,al⟩) ?_ ?_
  ·rintro D i σ H' acc B hD hi ⟨v0,ss,rfl,P2,q2,BB,ea,al,lo⟩ hB;have nD:=P1.ne hD;refine ⟨_,rfl,_,rfl,p,26,rfl,P2,by decide,by decide,fun e H3 P3 k3 Xl Wi=>?_⟩;have lc:=GG _ (Q0 (DX Xl Wi));have Oe:=k3 _ _ nD BB;refine ⟨_,_,_,rfl,rfl,by decide,DX Xl Wi,?_⟩;refine hB _ _ _ Oe ⟨_,ss ++ [⟨#[97 + e.toNat]⟩],rfl,P3.other Oe nD,fun b' o hb z=>?_,Ab,by rw [ea,Yb]; rfl,by rw [XI,al]; rfl,fun s hs=>?_⟩
   ·rw [Af (Ah z hD)];exact k3 _ _ hb (q2 b' o hb z)
   ·rcases Ye.mp hs with hs | hs
    ·exact lo s hs
    ·rw [XY] at hs;subst hs;refine ⟨rfl,fun c hc=>?_⟩;have:c=97 + e.toNat:=by simpa using hc
     subst this;exact lc
  rintro D0 σ0 H2 acc hD0 ⟨v0,ss,rfl,P2,q2,BB,ea,al,lo⟩;obtain ⟨j1,j2,j3⟩:=Qf lo;have sl:ss.length=d.toNat:=by rw [<-al,ea,X8]
  refine ⟨_,D0,ss,rfl,rfl,by rw [BB,ea],by decide,by lia,?_⟩;generalize Txt.join (Str.ofString "") ss=bs at j1 j2;have bl:bs.length<=4:=by lia
  refine ⟨_,rfl,_,rfl,bs,rfl,by lia,_,_,rfl,rfl,p,_,rfl,P2,by lia,by lia,fun at' H3 P3 k3 at0 at1=>?_⟩;refine ⟨_,rfl,p,2,rfl,P3,by decide,by decide,fun mo H5 P5 k5 mo0 UU=>?_⟩;have q5:AI p H H5:=((q1.trans q2).trans k3).trans k5;refine ⟨(by show 0<=sizeLine; lia),fun D hD=>?_⟩;have nD:D ≠ p:=P5.ne hD;have fD:H D=none:=by
   cases z:H D with
   | none=>rfl
   | some o=>rw [q5 _ _ nD z] at hD; cases hD
  have spm:(7:Int) ∈ ([1,3,5,7,9,11,15,17]:List Int):=by simp
  refine ⟨_,rfl,n,rfl,by lia,by lia,?_⟩;refine Dd (n:=n) (lo:=0) (fun j σ H'=>∃ (xs:List Str) (v9 v10:Option V),σ=[some (.ref p),some (.int n),some (.str FO),some (.int st),some (.str bs),some (.int at'),some (.int mo),some (.ref D),v9,v10]/\H'=upd H5 D (.lst (xs.map V.str))/\xs.length=j/\(∀ x ∈ xs,Bb x=true)/\∀ (i:Nat) x,xs[i]? = some x->∃ tl,x.cps.toList=(Txt.slice bs none (some at')).cps.toList ++ (ND n st 7 i ++ tl))
   ⟨[],_,_,rfl,rfl,rfl,(fun x hx=>nomatch hx),(fun i x e=>by simp at e)⟩ ?_ ?_
  ·rintro j σ H' hj ⟨xs,v9,v10,rfl,rfl,xl,nm,sh⟩;have r0:0<=(st + 7 * (0 + (j:Int))) % 26:=YK _ (by decide);have r1:(st + 7 * (0 + (j:Int))) % 26 < 26:=YO _ (by decide);refine ⟨_,rfl,_,rfl,_,rfl,_,_,rfl,rfl,.inl ⟨by decide,by decide⟩,_,_,rfl,rfl,_,_,rfl,rfl,(by show (0:Int) < 26; decide),_,_,_,rfl,rfl,by decide,DX r0 r1,?_⟩;have lc:=GG _ (Q0 (DX r0 r1));have s1:=OY (z:=bs) at0 (by lia);have s2:=L9 (z:=bs) at0 (by lia);have w1:=Jt (z:=bs) none (some at') j1;have w2:=Jt (z:=bs) (some at') none j1;have dD:(upd H5 D (.lst (xs.map V.str))) D=some (.lst (xs.map V.str)):=Ab;have m01:mo * ((0 + (j:Int)) % 2)=0\/mo * ((0 + (j:Int)) % 2)=1:=by
    have e1:mo=0\/mo=1:=by lia
    have e2:(0 + (j:Int)) % 2=0\/(0 + (j:Int)) % 2=1:=by lia
    rcases e1 with rfl | rfl <;> rcases e2 with e2 | e2 <;> rw [e2] <;> simp
   have hz:∀ z:Str,z=(if mo * ((0 + (j:Int)) % 2)=1 then Str.ofString "z" else Str.empty)->z.length<=1/\Q5 z:=fun z e=>by
    subst e;split
    ·refine ⟨by decide,fun c hc=>?_⟩;have e:(Str.ofString "z").cps.toList=[122]:=by decide +kernel
     rw [e,XY] at hc;subst hc;decide
    ·exact ⟨by decide,fun c hc=>by cases hc⟩
   obtain ⟨zz,ezz⟩:∃ zz,zz=(if mo * ((0 + (j:Int)) % 2)=1 then Str.ofString "z" else Str.empty):=⟨_,rfl⟩
   obtain ⟨z1,z2⟩:=hz zz ezz;have fin:∀ (x:Str),x=Txt.slice bs none (some at') ++ ⟨#[97 + ((st + 7 * (0 + (j:Int))) % 26).toNat]⟩ ++ Txt.slice bs (some at') none ++ zz->Bb x=true/\∃ tl,x.cps.toList=(Txt.slice bs none (some at')).cps.toList ++ (ND n st 7 j ++ tl):=fun x e=>by
    have ec:x.cps.toList=(Txt.slice bs none (some at')).cps.toList ++ ([97 + ((st + 7 * (0 + (j:Int))) % 26).toNat] ++ ((Txt.slice bs (some at') none).cps.toList ++ zz.cps.toList)):=by
     rw [e,Str.cps_append,Str.cps_append,Str.cps_append,Zl,Zl,Zl,YJ,YJ]
    have el:x.length=(Txt.slice bs none (some at')).length + 1 + (Txt.slice bs (some at') none).length + zz.length:=by
     rw [e,Str.length_append,Str.length_append,Str.length_append];rfl
    refine ⟨PU (by lia) (by lia) fun c hc=>?_,?_⟩
    ·rw [ec,Ye,Ye,Ye,XY] at hc;rcases hc with hc | hc | hc | hc
     ·exact w1 c hc
     ·rw [hc]; exact lc
     ·exact w2 c hc
     ·exact z2 c hc
    ·refine ⟨(Txt.slice bs (some at') none).cps.toList ++ zz.cps.toList,?_⟩;rw [ec];unfold ND;rw [if_neg (by lia),ZD]
   refine ⟨_,rfl,.inl ⟨rfl,_,AA.of dD⟩,_,rfl,_,rfl,_,rfl,bs,rfl,by lia,_,rfl,_,_,rfl,rfl,?_,_,rfl,_,rfl,_,rfl,bs,rfl,by lia,_,_,rfl,rfl,?_,_,rfl,_,rfl,_,_,rfl,rfl,(by show (0:Int) < 2; decide),_,_,rfl,rfl,.inl ⟨by lia,by lia⟩,_,_,rfl,rfl,m01,_,_,rfl,rfl,?_,D,_,_,rfl,rfl,dD,(by rw [X8]; lia),?_⟩
   ·show (Txt.slice bs none (some at')).length + 1<=sizeLine
    lia
   ·rw [Str.length_append];show (Txt.slice bs none (some at')).length + 1 + _<=sizeLine
    lia
   ·rw [<-ezz,Str.length_append,Str.length_append];show (Txt.slice bs none (some at')).length + 1 + _ + _<=sizeLine
    lia
   rw [<-ezz];obtain ⟨f1,f2⟩:=fin _ rfl;refine ⟨xs ++ [_],_,_,rfl,by rw [JS,Yb]; rfl,by rw [XI,xl]; rfl,fun x hx=>?_,fun i x e=>?_⟩
   ·rcases Ye.mp hx with hx | hx
    ·exact nm x hx
    ·rw [XY.mp hx];exact f1
   ·by_cases hi:i < xs.length
    ·rw [Y8 hi] at e;exact sh i x e
    ·have R7:i=j:=by
      have:=(XX.mp e).1;rw [XI,Y1] at this;lia
     subst R7;rw [YD (by lia),xl,ae,YF] at e;rw [<-Yi.inj e];exact f2
  ·rintro σ H' ⟨xs,v9,v10,rfl,rfl,xl,nm,sh⟩;exact ⟨_,rfl,k _ D xs (P5.same (Ac hD)) (fun b' o hb z=>by rw [Af (Ah z fD)]; exact q5 _ _ hb z) fD Ab xl (KR sh fun i j hij hj tl S0=>Tc (by lia) spm hij (by lia) tl S0) nm⟩
end
section
variable {P:Program} {w:World} {K:XB} {mg:Str->Option Value} {base:Heap}
theorem Fl (h_int:mg "int"=none) {fT:Addr} {fdT:FuncData} (XT:Fn K mg "_law_take" AE ["_law_pen","_law_many"] fT fdT) (GT:AJ P w K mg base BN 1 fT fdT ["_law_pen","_law_many"] (CQ K)) {f:Addr} {fd:FuncData} (F:Fz K "_law_length" "_law_length" Cg f fd):AJ P w K mg base BN 2 f fd ["_law_pen"] (L8 K):=by
 refine F.ok Fi (fun vs H Q E h=>?_) (fun cdv A outer s H vs Q E hr h=>?_)
 ·obtain ⟨p,rfl,_⟩:=h;rfl
 ·obtain ⟨p,rfl,hP,k⟩:=h;have nd:=Fi.nd;have big:100000 < sizeLine:=by decide
  refine ⟨_,(Ae (Aq (i:=1) nd rfl (Or.inl rfl) (Aj GT (hr.mono (by decide)) (by rfl) XT.mg XT.F.kp XT.b .nil Aw (Aa (pv 0) (Aa Ag Ad))))
  (Ae (CN (B5 M8 (pv 1) Ag (B9 _))
  (Ak (AH (As Be Ag (Aj GT (hr.mono (by decide)) (by rfl) XT.mg XT.F.kp XT.b .nil Aw (Aa (pv 0) (Aa Ag Ad))))))
  B6)
  (Ae (CN (B5 M8 (pv 1) Ag (B9 _))
  (Ak (AH (As Be Ag (Aj GT (hr.mono (by decide)) (by rfl) XT.mg XT.F.kp XT.b .nil Aw (Aa (pv 0) (Aa Ag Ad))))))
  B6)
  (Ak (AH (As Be (AF Je (by rfl) h_int PyProof.Rows.boot_int (Aa (As Dg CK (As Ri CK (Aj GT (hr.mono (by decide)) (by rfl) XT.mg XT.F.kp XT.b .nil Aw (Aa (pv 0) (Aa Ag Ad))))) Ad)) (Aj GT (hr.mono (by decide)) (by rfl) XT.mg XT.F.kp XT.b .nil Aw (Aa (pv 0) (Aa Ag Ad))))))))),?_⟩
  have ten:(100:Int) < 10 ^ 30:=by decide
  refine ⟨_,rfl,p,12,rfl,hP,by decide,by decide,fun d H1 P1 k1 d0 d1=>?_⟩;refine ⟨_,rfl,_,_,rfl,rfl,_,rfl,?_⟩;refine DI (fun _=>?_) (fun _=>?_)
  ·exact ⟨_,rfl,p,3,rfl,P1,by decide,by decide,fun e H2 P2 k2 e0 e1=>⟨_,_,rfl,rfl,k _ H2 P2 (k1.trans k2) (by lia) (by lia)⟩⟩
  refine ⟨_,rfl,_,_,rfl,rfl,_,rfl,?_⟩;refine DI (fun _=>?_) (fun _=>?_)
  ·exact ⟨_,rfl,p,30,rfl,P1,by decide,by decide,fun e H2 P2 k2 e0 e1=>⟨_,_,rfl,rfl,k _ H2 P2 (k1.trans k2) (by lia) (by lia)⟩⟩
  refine ⟨_,rfl,p,30,rfl,P1,by decide,by decide,fun e H2 P2 k2 e0 e1=>?_⟩;obtain ⟨n,rfl⟩:∃ n:Nat,e=(n:Int):=⟨e.toNat,by lia⟩
  have hn:n < 30:=by lia
  have it:=MN ⟨n,hn⟩;have l1:(Str.ofString "1").length=1:=by decide +kernel
  have zl:(Jg n).length=n:=it.2;refine ⟨n,rfl,rfl,hn,_,_,rfl,rfl,(by lia),_,_,rfl,it.1,(by rw [Str.length_append,l1,zl]; lia),_,rfl,p,10,rfl,P2,by decide,by decide,fun e2 H3 P3 k3 e20 Xm=>⟨_,_,rfl,rfl,k _ H3 P3 (k1.trans (k2.trans k3)) ?_ ?_⟩⟩
  ·have:(1:Int)<=10 ^ n:=(ON ⟨n,hn⟩).1;show 1<=(10:Int) ^ n + e2
   lia
  ·have h1:(10:Int) ^ n + 10<=10 ^ 30:=(ON ⟨n,hn⟩).2;show (10:Int) ^ n + e2 < 10 ^ 30
   lia
theorem GB (h_len:mg "len"=none) (h_list:mg "list"=none) (h_range:mg "range"=none) (h_sorted:mg "sorted"=none) {fT:Addr} {fdT:FuncData} (XT:Fn K mg "_law_take" AE ["_law_pen","_law_many"] fT fdT) (GT:AJ P w K mg base BN 1 fT fdT ["_law_pen","_law_many"] (CQ K)) {f:Addr} {fd:FuncData} (F:Fz K "_law_some" "_law_some" De f fd):AJ P w K mg base BN 2 f fd ["_law_pen","_law_names_here","_law_many"] (JV K):=by
 refine F.ok Gw (fun vs H Q E h=>?_) (fun cdv A outer s H vs Q E hr h=>?_)
 ·obtain ⟨p,e,xs,m,rfl,_⟩:=h;rfl
 ·obtain ⟨p,e,xs,m,rfl,P0,he,nep,x30,mx,k⟩:=h;have nd:=Gw.nd;have big:100000 < sizeLine:=by decide
  refine ⟨_,(Ae (Aq (i:=3) nd rfl (Or.inl rfl) (AF FU (by rfl) h_list PyProof.Rows.boot_list (Aa (pv 1) Ad)))
  (Ae (Aq (i:=4) nd rfl (Or.inl rfl) (AN Ad))
  (Ae (Bv PassesOwn.never rfl (Dc (by rfl) h_range (Aa (pv 2) Ad)) (Al (i:=5) nd rfl (Or.inl rfl))
  (Ak (FG (HL PySem.F.plainAttrs_list PySem.F.slot_list_append PySem.F.type_list_append BR (pv 4) (Aa (HL PySem.F.plainAttrs_list PySem.F.slot_list_pop PySem.F.type_list_pop PX (pv 3) (Aa (Aj GT (hr.mono (by decide)) (by rfl) XT.mg XT.F.kp XT.b .nil Aw (Aa (pv 0) (Aa (Ai (Av K rfl) (by rfl) h_len PySem.boot_len (Aa (pv 3) Ad)) Ad))) Ad)) Ad)))))
  (Ak (AH (Ai Cw (by rfl) h_sorted PyProof.Rows.boot_sorted (Aa (pv 4) Ad))))))),?_⟩
  refine ⟨_,rfl,e,_,rfl,.inl (AA.of he),fun PL hPL=>?_⟩;have s0:=Ac (o:=.lst (xs.map V.str)) hPL;have nPL:PL ≠ p:=P0.ne hPL;have P1:=P0.same s0;have hPP:(upd H PL (.lst (xs.map V.str))) PL=some (.lst (xs.map V.str)):=Ab;generalize upd H PL (.lst (xs.map V.str))=H1 at s0 P1 hPP ⊢;refine ⟨(by show 0<=sizeLine; lia),fun D hD=>?_⟩;have s1:=Ac (o:=.lst []) hD;have BB:(upd H1 D (.lst [])) D=some (.lst []):=Ab;have nD:D ≠ p:=P1.ne hD;have nDP:D ≠ PL:=fun z=>by rw [z,hPP] at hD; cases hD
  have P2:=P1.same s1;have frD:H D=none:=s0.free hD;generalize upd H1 D (.lst [])=H2 at s1 BB P2 ⊢;refine ⟨_,rfl,m,rfl,by lia,by lia,Dd (n:=m) (fun i σ H'=>∃ (v5:Option V) (ys left:List Str),σ=[some (.ref p),some (.ref e),some (.int (m:Int)),some (.ref PL),some (.ref D),v5]/\CP K H' p/\(∀ b o,b ≠ p->H b=some o->H' b=some o)/\H' PL=some (.lst (left.map V.str))/\H' D=some (.lst (ys.map V.str))/\ys.length=i/\(ys ++ left).Perm xs)
   ⟨_,[],xs,rfl,P2,fun b o _ z=>s1 _ _ (s0 _ _ z),s1 _ _ hPP,BB,rfl,List.Perm.refl _⟩ ?_ (fun σ H' hP=>?_)⟩
  ·rintro i σ H3 hi ⟨v5,ys,left,rfl,P3,k3,h3,Oe,yl,pm⟩;have ll:ys.length + left.length=xs.length:=by rw [<-XI]; exact pm.length_eq
   refine ⟨_,rfl,.inl ⟨rfl,_,AA.of Oe⟩,_,rfl,.inl ⟨rfl,_,AA.of h3⟩,_,rfl,_,rfl,PL,_,rfl,.inl (AA.of h3),p,_,rfl,P3,?_,?_,fun e' H4 P4 k4 Xl Wi=>?_⟩
   ·rw [X8]; lia
   ·rw [X8]; lia
   rw [X8] at Wi;obtain ⟨q,rfl⟩:∃ q:Nat,e'=(q:Int):=⟨e'.toNat,by lia⟩
   have hq:q < left.length:=by lia
   have hget:left[q]? = some left[q]:=XA hq;have h4:=k4 _ _ nPL h3;have Ql:=k4 _ _ nD Oe;refine ⟨PL,_,_,q,.str left[q],rfl,rfl,h4,by lia,by lia,?_,by rw [XU,hget]; rfl,?_⟩
   ·rw [X8];exact (Ko (by show R1 left.length (q:Int)=some q; unfold R1; rw [if_pos (by lia),if_pos (by lia)]; rfl)).1
   rw [JB];have P5:=P4.other (zs:=(left.eraseIdx q).map V.str) h4 nPL;have Lv:(upd H4 PL (.lst ((left.eraseIdx q).map V.str))) D=some (.lst (ys.map V.str)):=by rw [Af nDP]; exact Ql
   refine ⟨D,_,_,rfl,rfl,Lv,by rw [X8]; lia,?_⟩;refine ⟨_,ys ++ [left[q]],left.eraseIdx q,rfl,P5.other Lv nD,fun b' o hb z=>?_,?_,by rw [Ab,Yb]; rfl,by rw [XI,yl]; rfl,?_⟩
   ·rw [Af (Ah z frD),Af (Ah z hPL)];exact k4 _ _ hb (k3 b' o hb z)
   ·rw [Af nDP.symm];exact Ab
   ·refine List.Perm.trans ?_ pm;rw [YJ];exact List.Perm.append_left _ (Ef hget)
  ·obtain ⟨v5,ys,left,rfl,P3,k3,h3,Oe,yl,pm⟩:=hP;have ll:ys.length + left.length=xs.length:=by rw [<-XI]; exact pm.length_eq
   refine ⟨_,rfl,D,ys,rfl,AA.of Oe,by lia,fun l ss hl VP srt=>?_⟩;have sl:=Ac (o:=.lst (ss.map V.str)) hl;exact k _ l ss left (P3.same sl) (fun b o hb z=>sl _ _ (k3 b o hb z)) (by
    cases z:H l with
    | none=>rfl
    | some o=>
     by_cases hb:l=p
     ·subst hb;obtain ⟨_,_,_,_,q,_⟩:=P3;rw [q] at hl;cases hl
     ·rw [k3 l o hb z] at hl;cases hl) Ab ((VP.append_right left).trans pm) (by rw [VP.length_eq]; exact yl) srt
end
section
variable {P:Program} {w:World} {K:XB} {mg:Str->Option Value} {base:Heap}
theorem takeB {f:Addr} {cdv:Value} {A:Around} {outer:List Env} {s:Shared} {H:Hp} {E:XK} :
  ∃ tl,Kw (Hh BN P w K mg base ["_law_pen","_law_many","_law_place","_law_cell","_law_number","_law_digit"] "_law_take" (Ap AE) f cdv A outer s H E).nox ((BJ AE).drop 1) tl /\
   ∀ (W:El) (H6:Hp) (p a:Addr) (ns:List Int) (i l m:Int) (v2 v3 v4 v5:Option V),H6 p=some (.lst (Kf a i l))->Mf K H6 a (ns.map V.int)->ns.length<=63->0<=i->0<=l->0 < m->m < 1073741824->(∀ (d:Int) (H':Hp),CP K H' p->AI p H6 H'->0<=d->d < m->W.rt (.int d) H')->tl W [some (.ref p),some (.int m),v2,v3,v4,v5] H6:=by
 have nd:=CC.nd;refine ⟨_,(Ae (Aq (i:=5) nd rfl (Or.inl rfl) (As DV (A4 (AQ K rfl) (pv 0) Ag (fun _ _=>rfl)) (pv 1)))
  (Ae (HI (As MA (A4 (AQ K rfl) (pv 0) Ag (fun _ _=>rfl)) (pv 1)) (LG (pv 0) Ag HC))
  (Ak (AH (pv 5))))),?_⟩
 intro W H6 p a ns i l m v2 v3 v4 v5 hp sc ln i0 l0 hm O2 k;have sq:∀ {H':Hp} {a:Addr} {i l:Int},H' p=some (.lst (Kf a i l))->AA K H' p (Kf a i l):=fun h=>.inl (.inl h)
 refine ⟨_,rfl,p,_,_,_,rfl,rfl,sq hp,Pw _ _ _,_,rfl,_,_,rfl,rfl,hm,?_⟩;refine ⟨_,rfl,p,_,_,_,rfl,rfl,sq hp,Pw _ _ _,_,rfl,_,_,rfl,rfl,⟨hm,O2⟩,_,rfl,p,_,_,2,rfl,rfl,hp,rfl,_,rfl,?_⟩;exact k _ _ (CP.put hp sc ln i0 (Int.ediv_nonneg l0 (by lia))) AI.upd (YK _ (by lia)) (YO _ hm)
theorem takeD {f:Addr} {cdv:Value} {A:Around} {outer:List Env} {s:Shared} {H:Hp} {E:XK} :
  ∃ tl,Kw (Hh BN P w K mg base ["_law_pen","_law_many","_law_place","_law_cell","_law_number","_law_digit"] "_law_take" (Ap AE) f cdv A outer s H E).nox (LS ((LS ((BJ AE).getD 0 (.Pass ⟨0,0,0,0⟩))).getD 4 (.Pass ⟨0,0,0,0⟩))) tl /\
   ∀ (W:El) (H6:Hp) (p:Addr) (m i c:Int) (v4 v5:Option V),0 < m->0<=i->(∀ d:Int,0<=d->d < m->W.rt (.int d) H6)->tl W [some (.ref p),some (.int m),some (.int i),some (.int c),v4,v5] H6:=by
 have nd:=CC.nd;refine ⟨_,(Ae (Aq (i:=4) nd rfl (Or.inl rfl) (As DV (As DU (As Be (As Be (As DV (pv 3) Ag) (As DU Ag (pv 2))) Ag) Ag) Ag))
  (Ae (Aq (i:=4) nd rfl (Or.inl rfl) (As DV (As Be (As Be (As DU (pv 4) (pv 4)) (As DU Ag (pv 4))) (pv 2)) Ag))
  (Ak (AH (As DV (As MA (As DV (As Be (As Be (As DU (pv 4) (pv 4)) (As DU Ag (pv 4))) Ag) Ag) Ag) (pv 1)))))),?_⟩
 intro W H6 p m i c v4 v5 hm i0 k;refine ⟨_,rfl,_,_,rfl,rfl,(by show (0:Int) < 2147483629; decide),_,rfl,_,_,rfl,rfl,.inl ⟨by decide,by decide⟩,_,_,rfl,rfl,_,_,rfl,rfl,_,_,rfl,rfl,.inr ⟨by decide,by decide⟩,_,_,rfl,rfl,(by show (0:Int) < 2147483647; decide),?_⟩;have h0:0<=(c % 2147483629 + 40503 * i + 977) * 48271 % 2147483647:=YK _ (by decide);have h1:(c % 2147483629 + 40503 * i + 977) * 48271 % 2147483647 < 2147483647:=YO _ (by decide);have big:∀ z:Int,0<=z->z < 2147483647->-(2 ^ 64) < z/\z < 2 ^ 64:=fun z a b=>⟨Int.lt_of_lt_of_le (b:=0) (by decide) a,br b (by decide)⟩
 refine ⟨_,rfl,_,rfl,_,_,rfl,rfl,.inl (big _ h0 h1),_,rfl,_,_,rfl,rfl,.inl ⟨by decide,by decide⟩,_,_,rfl,rfl,_,rfl,_,_,rfl,rfl,_,_,rfl,rfl,(by show (0:Int) < 2147483587; decide),?_⟩;obtain ⟨u,eu,u0,u1⟩:∃ u:Int,((c % 2147483629 + 40503 * i + 977) * 48271 % 2147483647 * ((c % 2147483629 + 40503 * i + 977) * 48271 % 2147483647) + 69621 * ((c % 2147483629 + 40503 * i + 977) * 48271 % 2147483647) + i) % 2147483587=u/\0<=u/\u < 2147483647:=⟨_,rfl,YK _ (by decide),br (YO _ (by decide)) (by decide)⟩
 refine ⟨_,rfl,_,rfl,_,_,rfl,rfl,.inl (big _ (by rw [eu]; exact u0) (by rw [eu]; exact u1)),_,rfl,_,_,rfl,rfl,.inl ⟨by decide,by decide⟩,_,_,rfl,rfl,_,_,rfl,rfl,_,_,rfl,rfl,(by show (0:Int) < 2147483563; decide),_,_,rfl,rfl,⟨by decide,by decide⟩,_,rfl,_,_,rfl,rfl,hm,?_⟩;exact k _ (YK _ (by lia)) (YO _ hm)
theorem takeC (h_len:mg "len"=none) {f:Addr} {cdv:Value} {A:Around} {outer:List Env} {s:Shared} {H:Hp} {E:XK} :
  ∃ tl,Kw (Hh BN P w K mg base ["_law_pen","_law_many","_law_place","_law_cell","_law_number","_law_digit"] "_law_take" (Ap AE) f cdv A outer s H E).nox ((LS ((BJ AE).getD 0 (.Pass ⟨0,0,0,0⟩))).drop 4) tl /\
   ∀ (W:El) (H6:Hp) (p a:Addr) (ns:List Int) (i l m c:Int) (v4 v5:Option V),H6 p=some (.lst (Kf a (i + 1) l))->Mf K H6 a (ns.map V.int)->ns.length<=63->0<=i->0<=l->0 < m->m < 1073741824->0<=c->(∀ d:Int,0<=d->d < m->W.rt (.int d) H6)->(∀ (c':Int) (v4:Option V),0<=c'->W.nx [some (.ref p),some (.int m),some (.int i),some (.int c),v4,v5] (upd H6 p (.lst (Kf a (i + 1) c'))))->tl W [some (.ref p),some (.int m),some (.int i),some (.int c),v4,v5] H6:=by
 have nd:=CC.nd;obtain ⟨tlD,htD,rdD⟩:=takeD (P:=P) (w:=w) (K:=K) (mg:=mg) (base:=base) (f:=f) (cdv:=cdv) (A:=A) (outer:=outer) (s:=s) (H:=H) (E:=E);refine ⟨_,(Ae (CN (HF (B5 op_ge (pv 2) (Ai (Av K rfl) (by rfl) h_len PySem.boot_len (Aa (A4 (AQ K rfl) (pv 0) Ag (fun _ _=>rfl)) Ad)) (B9 _)) (Gh (B5 M8 (pv 3) (As PK Ag Ag) (B9 _)))).pt
  htD
  B6)
  (Ak (HI (pv 3) (LG (pv 0) Ag HC)))),?_⟩
 intro W H6 p a ns i l m c v4 v5 hp sc ln i0 l0 hm O2 c0 kr kn;have sq:∀ {H':Hp} {a:Addr} {i l:Int},H' p=some (.lst (Kf a i l))->AA K H' p (Kf a i l):=fun h=>.inl (.inl h)
 refine ⟨_,rfl,_,rfl,p,_,_,_,rfl,rfl,sq hp,M3 _ _ _,a,_,rfl,.inl sc.sq,_,_,rfl,rfl,_,rfl,?_⟩;refine DI (fun _=>rdD _ H6 p m i c v4 v5 hm i0 kr) (fun _=>?_);refine ⟨_,rfl,_,_,rfl,rfl,⟨by decide,by decide,by decide⟩,_,_,rfl,rfl,_,rfl,?_⟩;refine DI (fun _=>rdD _ H6 p m i c v4 v5 hm i0 kr) (fun _=>?_);refine ⟨_,rfl,_,rfl,p,_,_,2,rfl,rfl,hp,rfl,?_⟩;exact kn c _ c0
theorem Bg (h_abs:mg "abs"=none) (h_len:mg "len"=none) {f:Addr} {fd:FuncData} (F:Fz K "_law_take" "_law_take" AE f fd):AJ P w K mg base BN 1 f fd ["_law_pen","_law_many"] (CQ K):=by
 refine F.ok CC (fun vs H Q E h=>?_) (fun cdv A outer s H vs Q E hr h=>?_)
 ·obtain ⟨p,m,rfl,_⟩:=h;rfl
 ·obtain ⟨p,m,rfl,⟨a,ns,i,l,hp,sc,ln,i0,l0⟩,hm,O2,k⟩:=h;have nd:=CC.nd;have big:100000 < sizeLine:=by decide
  obtain ⟨tlC,htC,rdC⟩:=takeC (P:=P) (w:=w) (K:=K) (mg:=mg) (base:=base) h_len (f:=f) (cdv:=cdv) (A:=A) (outer:=outer) (s:=s) (H:=H) (E:=E);obtain ⟨tlB,htB,rdB⟩:=takeB (P:=P) (w:=w) (K:=K) (mg:=mg) (base:=base) (f:=f) (cdv:=cdv) (A:=A) (outer:=outer) (s:=s) (H:=H) (E:=E);refine ⟨_,(Ae (CN (B5 MB (A4 (AQ K rfl) (pv 0) Ag (fun _ _=>rfl)) Ag (B9 _))
  (Ae (Aq (i:=2) nd rfl (Or.inl rfl) (A4 (AQ K rfl) (pv 0) Ag (fun _ _=>rfl)))
  (Ae (HI (As Be (pv 2) Ag) (LG (pv 0) Ag HC))
  (Ae (Aq (i:=3) nd rfl (Or.inl rfl) Ag)
  (Ae (CN (B5 PN (Ai (Av K rfl) (by rfl) h_len PySem.boot_len (Aa (A4 (AQ K rfl) (pv 0) Ag (fun _ _=>rfl)) Ad)) Ag (B9 _))
  (Ak (Aq (i:=3) nd rfl (Or.inl rfl) (Ai Qz (by rfl) h_abs PyProof.Rows.boot_abs (Aa (A4 (AQ K rfl) (A4 (AQ K rfl) (pv 0) Ag (fun _ _=>rfl)) (As DV (pv 2) (Ai (Av K rfl) (by rfl) h_len PySem.boot_len (Aa (A4 (AQ K rfl) (pv 0) Ag (fun _ _=>rfl)) Ad))) (fun _ _=>rfl)) Ad))))
  B6)
  htC))))
  B6)
  htB),?_⟩
  have sq:∀ {H':Hp} {a:Addr} {i l:Int},H' p=some (.lst (Kf a i l))->AA K H' p (Kf a i l):=fun h=>.inl (.inl h)
  refine ⟨_,rfl,p,_,_,_,rfl,rfl,sq hp,Pw _ _ _,rfl,_,rfl,?_⟩;refine DI (fun z0=>?_) (fun _=>rdB _ H p a ns i l m _ _ _ _ hp sc ln i0 l0 hm O2 k);refine ⟨_,rfl,p,_,_,_,rfl,rfl,sq hp,pn5_1 _ _ _,?_⟩;refine ⟨_,rfl,_,_,rfl,rfl,_,rfl,p,_,_,1,rfl,rfl,hp,rfl,?_⟩;have Vj:(upd H p (.lst (Kf a (i + 1) l))) p=some (.lst (Kf a (i + 1) l)):=Ab;have UH:Mf K (upd H p (.lst (Kf a (i + 1) l))) a (ns.map V.int):=sc.keep hp AI.upd;have fin:∀ (c:Int),0<=c->tlC ⟨fun σ H'=>tlB ⟨fun _ H'=>Q .non H',Q,fun _ _=>False,fun _ _=>False⟩ σ H',Q,fun _ _=>False,fun _ _=>False⟩ [some (.ref p),some (.int m),some (.int i),some (.int c),none,none] (upd H p (.lst (Kf a (i + 1) l))):=fun c c0=>by
   refine rdC _ _ p a ns i l m c _ _ Vj UH ln i0 l0 hm O2 c0 (fun d d0 d1=>?_) fun c' v4 c0'=>?_
   ·exact k d _ (CP.put hp sc ln (by lia) l0) AI.upd d0 d1
   ·refine rdB _ _ p a ns (i + 1) c' m _ _ _ _ Ab (UH.keep Vj AI.upd) ln (by lia) c0' hm O2 fun d H' P' k' d0 d1=>k d H' P' ((AI.upd.trans AI.upd).trans k') d0 d1
  refine ⟨_,rfl,p,_,_,_,rfl,rfl,sq Vj,M3 _ _ _,a,_,rfl,.inl UH.sq,_,_,rfl,rfl,_,rfl,?_⟩;refine DI (fun zl=>?_) (fun _=>fin 0 (YE _));have zl':0 < ns.length:=by have:=of_decide_eq_true zl; rw [X8] at this; lia
  have j0:0<=i % ((ns.map V.int).length:Int):=YK _ (by rw [X8]; lia);have j1:i % ((ns.map V.int).length:Int) < (ns.map V.int).length:=YO _ (by rw [X8]; lia);obtain ⟨j,ej⟩:∃ j:Nat,i % ((ns.map V.int).length:Int)=(j:Int):=⟨(i % ((ns.map V.int).length:Int)).toNat,by lia⟩
  have jl:j < ns.length:=by rw [ej,X8] at j1; lia
  refine ⟨_,rfl,p,_,_,_,rfl,rfl,sq Vj,M3 _ _ _,_,rfl,_,rfl,p,_,_,_,rfl,rfl,sq Vj,M3 _ _ _,a,_,rfl,.inl UH.sq,_,_,rfl,rfl,(by show (0:Int) < ((ns.map V.int).length:Int); rw [X8]; lia),a,_,_,.int ns[j],rfl,rfl,UH.sq,(by rw [ej]; exact CY (by rw [XU,XA jl]; rfl)),?_⟩;refine ⟨_,rfl,?_⟩;exact fin _ (by first | exact Int.natCast_nonneg _ | exact Int.ofNat_nonneg _ | (split <;> lia))
end
end K49
namespace L2
open PySem PySem.Spec PyProof.Rows
def At (K:XB) (n:Str) (st:Stmt) (f:Addr) (fd:FuncData):Prop:=Y2 K mainGlobals n=some (some (.ref f))/\Fz K n n st f fd
section
variable {K:XB} {h:Heap} {mg:Str->Option Value} {n p q r t u:Str} {st:Stmt} {f:Addr} {fd:FuncData}
theorem at_mk {oc:Value} {od an:Option Addr} {osl:Array (Option Value)} {kV doc pm cdv ct:Value} (a:Y2 K mainGlobals n=some (some (.ref f))) (l:K.lookup f=some ⟨oc,od,.func (YL n n (DZ st) (BJ st) (Ap st) .none kV doc pm an cdv ct),osl⟩)
  (c:Zz K cdv n=true) (k:Zy K (.ref f)=true):At K n st f (YL n n (DZ st) (BJ st) (Ap st) .none kV doc pm an cdv ct):=⟨a,TC l c k⟩
abbrev BA (n:Str) (st:Stmt) (us:List Value) (ps:List (Str × Value)):Prop:=∀ (kV doc pm:Value) (an:Option Addr) (cdv ct:Value),bindArgs (YL n n (DZ st) (BJ st) (Ap st) .none kV doc pm an cdv ct) ⟨us,[]⟩=pure ps
theorem Uz (X:K.In h) (G:h.Ns mainGlobals mg) (A:At K n st f fd) (hb:∀ x,BA n st [x] [(p,x)]):Fn K mg n st [p] f fd:=⟨A.2,Zh X G A.1,A.2.binds fun _ _ _ _ _ _ us hl=>by obtain ⟨x,rfl⟩:=len1 hl; exact hb ..⟩
theorem RF (X:K.In h) (G:h.Ns mainGlobals mg) (A:At K n st f fd) (hb:∀ x y,BA n st [x,y] [(p,x),(q,y)]):Fn K mg n st [p,q] f fd:=⟨A.2,Zh X G A.1,A.2.binds fun _ _ _ _ _ _ us hl=>by obtain ⟨x,y,rfl⟩:=len2 hl; exact hb ..⟩
theorem fa3 (X:K.In h) (G:h.Ns mainGlobals mg) (A:At K n st f fd) (hb:∀ x y z,BA n st [x,y,z] [(p,x),(q,y),(r,z)]):Fn K mg n st [p,q,r] f fd:=⟨A.2,Zh X G A.1,A.2.binds fun _ _ _ _ _ _ us hl=>by obtain ⟨x,y,z,rfl⟩:=len3 hl; exact hb ..⟩
theorem fa4 (X:K.In h) (G:h.Ns mainGlobals mg) (A:At K n st f fd) (hb:∀ x y z w,BA n st [x,y,z,w] [(p,x),(q,y),(r,z),(t,w)]):Fn K mg n st [p,q,r,t] f fd:=⟨A.2,Zh X G A.1,A.2.binds fun _ _ _ _ _ _ us hl=>by obtain ⟨x,y,z,w,rfl⟩:=len4 hl; exact hb ..⟩
end
end L2
namespace K49
open PySem L2
theorem all_mk {l:ZC} {w:World} {K:XB} {h:Heap} {mg:Str->Option Value} {fa f1 f2 f3 f4 f5 f6 f7 f8 f9 V4 f11 f12 f13 f14 f15 f16 f17 f18 f19 f20 f21 f22:Addr} {d1 d2 d3 d4 d5 d6 d7 d8 d9 U0 Qx d12 d13 d14 d15 d16 d17 d18 d19 d20 Wl d22:FuncData} (X:K.In h) (G:h.Ns mainGlobals mg) (hfa:mg "law"=some (.ref fa))
  (a1:At K "is_name" EU f1 d1) (a2:At K "are_rising" CU f2 d2) (a3:At K "neighbours" CS f3 d3) (a4:At K "fars" Ka f4 d4) (a5:At K "site_fars" Dn f5 d5) (a6:At K "nearest" ET f6 d6) (a7:At K "is_apart" Ct f7 d7) (a8:At K "served_within" BY f8 d8) (a9:At K "_law_take" AE f9 d9) (a10:At K "_law_names" Dp V4 U0) (a11:At K "_law_length" Cg f11 Qx) (a12:At K "_law_map" Cs f12 d12) (a13:At K "_law_some" De f13 d13) (a14:At K "_law_case" DS f14 d14) (a15:At K "_law_lengths" C0 f15 d15) (a16:At K "_law_served" CT f16 d16) (a17:At K "_law_stands_apart" AX f17 d17) (a18:At K "_law_apart" CD f18 d18) (a19:At K "_law_mosts" Dq f19 d19) (a20:At K "_law_is_listed" BD f20 d20) (a21:At K "_law_things" Cf f21 Wl) (a22:At K "law" FE f22 d22)
  (z1:Y2 K mainGlobals "isinstance"=some none) (z2:Y2 K mainGlobals "bool"=some none) (z3:Y2 K mainGlobals "len"=some none) (z4:Y2 K mainGlobals "range"=some none) (z5:Y2 K mainGlobals "repr"=some none) (z6:Y2 K mainGlobals "abs"=some none) (z7:Y2 K mainGlobals "int"=some none) (z8:Y2 K mainGlobals "min"=some none) (z9:Y2 K mainGlobals "tuple"=some none) (z10:Y2 K mainGlobals "list"=some none) (z11:Y2 K mainGlobals "sorted"=some none) (z12:Y2 K mainGlobals "max"=some none) (z13:Y2 K mainGlobals "dict"=some none) (z14:Y2 K mainGlobals "set"=some none) (z15:Y2 K mainGlobals "str"=some none) (z16:Y2 K mainGlobals "all"=some none) {tc1:Tok} (w1:Y2 K mainGlobals "MOST_LETTERS"=some (some (.int 6 tc1))) :
  ∃ fd:FuncData,(∀ (s:Shared) (v:Value),BindsTo s fd ⟨[v],[]⟩ [("_law_script",v)])/\∀ base:Heap,K.In base->base.Ns mainGlobals mg->AJ l.prog w K mg base BN 7 fa fd ["_law_script"] (Ms K):=by
 cases hfa.symm.trans (Zh X G a22.1)
 have y1:=Yw X G z1;have y2:=Yw X G z2;have y3:=Yw X G z3;have y4:=Yw X G z4;have y5:=Yw X G z5;have y6:=Yw X G z6;have y7:=Yw X G z7;have y8:=Yw X G z8;have y9:=Yw X G z9;have Uk:=Yw X G z10;have Uj:=Yw X G z11;have y12:=Yw X G z12;have Ws:=Yw X G z13;have V8:=Yw X G z14;have y15:=Yw X G z15;have Wr:=Yw X G z16;have n1:=Uz X G a1 (p:="thing") fun _ _ _ _ _ _ _=>rfl
 have n2:=Uz X G a2 (p:="things") fun _ _ _ _ _ _ _=>rfl
 have n3:=Uz X G a3 (p:="web") fun _ _ _ _ _ _ _=>rfl
 have n4:=RF X G a4 (p:="web") (q:="place") fun _ _ _ _ _ _ _ _=>rfl
 have n5:=Uz X G a5 (p:="case") fun _ _ _ _ _ _ _=>rfl
 have n6:=RF X G a6 (p:="web") (q:="starts") fun _ _ _ _ _ _ _ _=>rfl
 have n7:=fa3 X G a7 (p:="case") (q:="far") (r:="thing") fun _ _ _ _ _ _ _ _ _=>rfl
 have n8:=RF X G a8 (p:="case") (q:="far") fun _ _ _ _ _ _ _ _=>rfl
 have n9:=RF X G a9 (p:="_law_pen") (q:="_law_many") fun _ _ _ _ _ _ _ _=>rfl
 have n10:=RF X G a10 (p:="_law_pen") (q:="_law_many") fun _ _ _ _ _ _ _ _=>rfl
 have n11:=Uz X G a11 (p:="_law_pen") fun _ _ _ _ _ _ _=>rfl
 have n12:=fa3 X G a12 (p:="_law_pen") (q:="_law_names_here") (r:="_law_shape") fun _ _ _ _ _ _ _ _ _=>rfl
 have n13:=fa3 X G a13 (p:="_law_pen") (q:="_law_names_here") (r:="_law_many") fun _ _ _ _ _ _ _ _ _=>rfl
 have n14:=RF X G a14 (p:="_law_pen") (q:="_law_shape") fun _ _ _ _ _ _ _ _=>rfl
 have n15:=Uz X G a15 (p:="_law_plan") fun _ _ _ _ _ _ _=>rfl
 have n16:=fa3 X G a16 (p:="_law_case_here") (q:="_law_lengths_here") (r:="_law_most") fun _ _ _ _ _ _ _ _ _=>rfl
 have n17:=RF X G a17 (p:="_law_served_here") (q:="_law_some_here") fun _ _ _ _ _ _ _ _=>rfl
 have n18:=RF X G a18 (p:="_law_case_here") (q:="_law_served_here") fun _ _ _ _ _ _ _ _=>rfl
 have n19:=fa3 X G a19 (p:="_law_pen") (q:="_law_case_here") (r:="_law_lengths_here") fun _ _ _ _ _ _ _ _ _=>rfl
 have n20:=RF X G a20 (p:="_law_thing") (q:="_law_places") fun _ _ _ _ _ _ _ _=>rfl
 have n21:=fa4 X G a21 (p:="_law_pen") (q:="_law_case_here") (r:="_law_places") (t:="_law_good") fun _ _ _ _ _ _ _ _ _ _=>rfl
 obtain ⟨oc,od,kV,doc,pm,an,cdv,ct,osl,e,lk,hcd⟩:=a22.2.ex;exact ⟨d22,fun s v=>by subst e; exact .of_eq rfl,fun base _ _=>Ti y1 y2 y3 y4 y5 n9 (Bg y6 y3 a9.2) n14 (KO y7 y3 y8 y9 n9 (Bg y6 y3 a9.2) n10 (Kj y3 y4 n9 (Bg y6 y3 a9.2) a10.2) n11 (Fl y7 n9 (Bg y6 y3 a9.2) a11.2) n13 (GB y3 Uk y4 Uj n9 (Bg y6 y3 a9.2) a13.2) n12 (LI y7 y3 y12 y4 Uj y9 n9 (Bg y6 y3 a9.2) n11 (Fl y7 n9 (Bg y6 y3 a9.2) a11.2) a12.2) a14.2) n15 (HP y7 a15.2) n19 (Kk y3 y12 y8 y4 n9 (Bg y6 y3 a9.2) a19.2) n16 (IU a16.2) n17 (CO y3 a17.2) n18 (Kl y3 y8 n17 (CO y3 a17.2) a18.2) n21 (IT Ws y3 V8 Uj y9 n9 (Bg y6 y3 a9.2) n13 (GB y3 Uk y4 Uj n9 (Bg y6 y3 a9.2) a13.2) a21.2) n20 (Gj y1 Uk V8 Uj y15 a20.2) n7 (KP Wr y1 y3 Uk V8 n2 (IV Wr Uk Uj V8 n1 (Rm ⟨y3,y1,y15,Wr,⟨_,Zh X G w1⟩⟩ a1.2) a2.2) n8 (Gi n5 (Ki n4 (Rn ⟨⟨n3.F,n3.mg,n3.b⟩,y8,n6.F,n6.mg,n6.b⟩ a4.2) a5.2) a8.2) a7.2) a22.2⟩
theorem SG {K:XB} {H:Hp} {a:Addr} {xs:List V} (o:RP H) (h:AA K H a xs):Mf K H a xs:=by
 rcases h with (h | ⟨ob,h⟩) | h
 ·rcases o a with z | ⟨ob,ys,z⟩ <;> (rw [h] at z; cases z)
 ·exact .inl ⟨ob,h⟩
 ·exact .inr h
theorem walk {l:ZC} {q:Program} {loose:List Str} {XP:(Str->Option Value)->Heap->Prop} {YP:World->Heap->Prop} {d:DefRec} {K:Params->XB} (hn:l.most=some 63) (hdf:d.params.defaults=[])
  (hY:∀ (w:World) (h:Heap),YP w h->(K w.params).In h)
  (F:∀ (w:World) (mg:Str->Option Value) (fa:Addr) (h:Heap),(K w.params).In h->h.Ns mainGlobals mg->mg d.name=some (.ref fa) ->
   ∃ fd:FuncData,(∀ (s:Shared) (u:Value),BindsTo s fd ⟨[u],[]⟩ [("_law_script",u)])/\∀ base:Heap,(K w.params).In base->base.Ns mainGlobals mg->AJ l.prog w (K w.params) mg base BN 7 fa fd ["_law_script"] (Ms (K w.params))) :
  aT q loose XP YP l.row.toRowW d [] (fun f vs=>PySem.call f vs):=
 L2.walk_of (n:=63) (k:=7) (x:="_law_script") (CX:=fun _=>BN) (sp:=fun w=>Ms (K w.params)) hn (by decide) hdf ⟨rfl,by decide,by decide,rfl⟩ hY F (fun _ _ a ns hl ho hS=>⟨a,ns,rfl,SG ho hS,hl,fun _=>rfl⟩) fun _ _ _ _ _ z=>z
end K49
structure PySem.W.Fast:Prop where
  (tw12021669025418703543 tw13938843592904352185 tw11081674640972633458 tw17554645626188403002 tw17954935547106918518 tw9151342978033328758 tw13384456249525219089 tw5403653125023321398 tw10833475273101598056 tw9702723057973684793 tw1829037964357060482 tw1752653322761533568 tw15919650730844124132 tw11596275587928639579 tw9832795357363899015 tw12367056101799736261 tw5496242759676020324 tw16797336381207775619 tw10143695661785026510 tw8205973903093077206 tw7316832534753910113 tw11598936047723936547 tw7658839694449915681 tw17727655294361966391 tw14624058401996092156 tw12976348029936221222 tw15750361408874901250 tw17588265269696930619 tw12114770091635555825 tw12778617448598499591 tw3106304837887272254 tw12140034183604985644 tw8105278330770566795 tw11173952448629935999 tw10580904037357069762 tw16061391060344455786 tw8423173560962861548 tw972736573256983823 tw14402587019269239002 tw7791867201636788303 tw18299487556195512249 tw17697927849148429539 tw2166039154113952391 tw15914573567582381053 tw953359627468676450 tw3250689009908372620 tw4834820265551812750 tw2666228025161332279 tw9852964631213294559 tw12366306016651887360 tw3203618370000712339 tw6839115505128196659 tw4971004703467782460 tw13863118915731739941 tw7085070603328754748 tw8044803423582102585 tw3907479412725522458 tw10980536265017246443 tw13379961705785542458 tw8994847642992773454 tw17038266450603857919 tw1011411564534372362 tw17851684941906904508 tw7077784836506913056 tw17092537022380347695 tw4598262624149661165:True)
open PySem PySem.W PyProof.Rows
set_option maxRecDepth 100000 in
set_option maxHeartbeats 0 in
theorem PySem.Challenge.cw_openhouses_k49_what_stands_apart_holds : PySem.Challenge.rw_openhouses_k49_what_stands_apart.Holds := by
 w_on; o_law; k_head; (case hw=>w_witness2)
 k_fill
 refine K49.walk (l:=PySem.Challenge.rw_openhouses_k49_what_stands_apart) rfl rfl (fun w h Y=>PySem.W.kIn_of Y) ?F
 case F=>
  intro w mg fa h KX G hmg;refine' K49.all_mk KX G hmg (L2.at_mk ?a1 ?l1 ?c1 ?k1) (L2.at_mk ?a2 ?l2 ?c2 ?k2) (L2.at_mk ?a3 ?l3 ?c3 ?k3) (L2.at_mk ?a4 ?l4 ?c4 ?k4) (L2.at_mk ?a5 ?l5 ?c5 ?k5) (L2.at_mk ?a6 ?l6 ?c6 ?k6) (L2.at_mk ?a7 ?l7 ?c7 ?k7) (L2.at_mk ?a8 ?l8 ?c8 ?k8) (L2.at_mk ?a9 ?l9 ?c9 ?k9) (L2.at_mk ?a10 ?l10 ?c10 ?k10) (L2.at_mk ?a11 ?l11 ?c11 ?k11) (L2.at_mk ?a12 ?l12 ?c12 ?k12) (L2.at_mk ?a13 ?l13 ?c13 ?k13) (L2.at_mk ?a14 ?l14 ?c14 ?k14) (L2.at_mk ?a15 ?l15 ?c15 ?k15) (L2.at_mk ?a16 ?l16 ?c16 ?k16) (L2.at_mk ?a17 ?l17 ?c17 ?k17) (L2.at_mk ?a18 ?l18 ?c18 ?k18) (L2.at_mk ?a19 ?l19 ?c19 ?k19) (L2.at_mk ?a20 ?l20 ?c20 ?k20) (L2.at_mk ?a21 ?l21 ?c21 ?k21) (L2.at_mk ?a22 ?l22 ?c22 ?k22) ?z1 ?z2 ?z3 ?z4 ?z5 ?z6 ?z7 ?z8 ?z9 ?z10 ?z11 ?z12 ?z13 ?z14 ?z15 ?z16 ?w1;any_goals k_is
