import PyProof.Rows.All
import Wide.All
import OpenK.AllK
import Wide.FinOn
import Lean
import PyProof.EqAt
import PyProof.EqKinds
import PyProof.TupleCall
import PyProof.P3Eq
import PyProof.NeData
import PyProof.P3In
import PyProof.StrLawsChain
import KE.KIntText
import KE.IntTextLaws
import PyProof.Rows.StrJoinMade
import PyProof.Rows.FStr
import PyProof.ListMulRoad
import PyProof.EnumStmt
import PySem.Challenge.RW_openhouses_k50_the_least_far
open List renaming length_map→Wj,getElem?_eq_getElem→Wk,mem_cons→Wn,mem_of_getElem?→Wo,getElem?_eq_some_iff→Wt,not_mem_nil→Wu,getD_eq_getElem?_getD→Wv,length_append→Ww,mem_append_right→Wx,getElem?_map→Wy,mem_singleton→Wz,getElem_of_mem→W2,map_append→W3,mem_map→W4,take_add_one→W5,mem_cons_self→W7,mem_append→W9,size_toArray→WC,take_length→WD,map_cons→WG,mem_cons_of_mem→WH,mem_append_left→WN,length_cons→WO,getElem?_append_right→WQ,getElem?_append_left→WS,length_take→WW,getElem_mem→Xb,range→Xc,length_singleton→Xe,mem_filter→Xf,filter_append→Xj,nodup_cons→Xm,all_eq_true→Xo,map_map→Xp,nodup_append→Xq,any_eq_true→Xr,append_assoc→Xw,length_pos_iff→Xz,pairwise_singleton→X1,getElem?_cons_zero→X2,sublist_nil→X3,length_eq_zero_iff→X4,lt_trans→X7,mem_range→X8,filter_cons→X9,drop_eq_getElem_cons→XA,extract_eq_take_drop→XB,pairwise_iff_getElem→XD,find?_cons→XG,length→XI,not_lt→XO,length_range→XU,getElem_take→XW,length_filter_le→XY,getElem?_eq_none→XZ,cons→Ya,any_cons→Yc,getElem_toArray→Yg,append_nil→Yh,map_congr_left→Yj,reverse_append→Yk,mem_map_of_mem→Yl,pairwise_cons→Yn,lookup_cons→Yu,take_of_length_le→Yw,getElem?_set_self→Yx,filter_nil→Yz,take_append_drop→Y0,lt_irrefl→Y2,getElem?_of_mem→Y3,filterMap_cons→Y6,filter_sublist→Y7,map_eq_nil_iff→Y9,all_cons→YB,lt_asymm→YC,mem_filterMap→YD,ext_getElem?→YF,cons_append→YI,nil_sublist→YJ,of_mem_zip→YL,length_zip→YM,exists_cons_of_ne_nil→YQ,getElem?_eq_none_iff→YR,getElem?_take_of_lt→YS,length_filterMap_le→YT,sublist_append_left→YU,sublist_append_iff→YX,map_nil→YZ,length_pos_of_mem→Za,perm_append_comm→Zc,getElem?_set_ne→Zg,pairwise_append→Zi,reverse_reverse→Zk,map_inj_right→Zn,take_sublist→Zp,flatten_cons→Zq,getElem_inj→Zs,nil_append→Zw,take_succ→Zy,replicate→Zz,filterMap→Z0,take_zero→Z1,le_trans→Z3,all_map→Z5,foldl→ZA
open PySem.Heap renaming get?_push_of_some→Wl,lt_size→Wr,get?_push_size→W0,get?_update_other→WE,get?_update_self→WU,size_push→WY,get?_update_ne→Y8
open PySem.W renaming Frag→Wm,mg_none_of→Xd,nsIn→Xi,fnOf→Xn,kla_obj→Xs,codeHdIn→Xy,keepIn→XH,codeIn→XJ,tabObj→XQ,cellsFrom_some→Ys,kla_fn→Yy,codeHd_of_K→Y1,mg_of→Y4,methodObj→YA,OpenLaw→YH,WalkO→Zu
open Nat renaming le_refl→Wq,lt_of_lt_of_le→Ws,ne_of_lt→W6,le_trans→WJ,lt_succ_of_lt→WK,lt_succ_self→WM,zero_le→WR,lt_irrefl→WT,le_succ→WX,ne_of_gt→Xa,not_lt_zero→Xl,pow_le_pow_right→Xx,zero_add→XC,sub_self→XE,le_succ_of_le→XX,not_lt→Yd,le_of_lt→Ym,mul_le_mul_right→Y5,add_sub_cancel→YE,lt_or_ge→Zd,pow_succ→Zf,succ_ne_self→Zv,add_assoc→Z4,succ_mul→Z7,le_of_eq→Z8,succ→ZC
open Bool renaming false_ne_true→W8,false_eq_true→WB,eq_iff_iff→Xg,and_eq_true→X0,not_true→Yr,and_true→Z2
open Option renaming some→WA,none→Xu,map_some→Yf,toList→Yo,isSome_iff_exists→Yp,isSome_some→Zh,isSome_map→Zl
open Array renaming length_toList→WL,toList_append→WV,size_push→WZ,getElem?_toList→Xh,getElem?_eq_getElem→Xt,size_extract→X5,toList_push→XR,toList_extract→Yb,toList_reverse→Ye,getD_eq_getD_getElem?→Yi,size_append→Yq,toList_inj→Yt,toList→Yv,toList_setIfInBounds→YN,perm_iff_toList_perm→YO,getElem?_eq_none→YW,mem_of_getElem?→YY,size_reverse→Zm,size_map→Zx,getD→Z6
open Int renaming le_refl→Xk,emod_nonneg→Xv,emod_lt_of_pos→X6,zero_add→YG,mul_le_mul_of_nonneg_right→YK,add_assoc→YV,add_zero→Zb,lt_trans→Ze,natAbs_dvd_natAbs→Zj,toNat_of_nonneg→Zo,lt_of_le_of_lt→Zr,toNat_natCast→Zt,ediv_one→Z9
local macro_rules|`(tactic|exists $es,*)=>`(tactic|refine ⟨$es,*, ?_⟩)
set_option Elab.async false
set_option linter.all false
set_option maxRecDepth 100000
set_option maxHeartbeats 4000000
namespace L2
open PySem PySem.W PyProof.Rows
section
variable {lt:Keyed->Keyed->Bool}
end
def Bm (xs:Array Keyed) (i:Nat):Keyed:=xs.getD i (Value.none,Value.none)
theorem LY {xs:Array Keyed} {i:Nat} (h:i < xs.size):xs[i]? = some (Bm xs i):=by
 unfold Bm;simp [Z6,h]
theorem FA {xs ys:Array Keyed} {i j:Nat} (h:xs[i]? = ys[j]?):Bm xs i=Bm ys j:=by
 unfold Bm;rw [Yi,Yi,h]
theorem Jm {xs:Array Keyed} {i:Nat} (h:i < xs.size):Bm xs i ∈ xs:=YY (LY h)
def Ln (prog:Program) (w:World) (A:Around) (s:Shared) (κ:SortKind) (lt:Keyed->Keyed->Bool) (a0:Array Keyed):Prop:=
 ∀ x y,x ∈ a0->y ∈ a0->∀ (Q:Bool->Shared->Prop) (E:Value->Shared->Prop),Q (lt x y) s->wpAny (model prog w) A (keyLt' κ x.1 y.1) Q E s
section
variable {prog:Program} {w:World} {A:Around} {E:Value->Shared->Prop} {s:Shared} {κ:SortKind} {lt:Keyed->Keyed->Bool} {a0:Array Keyed}
theorem A2 {xs:Array Keyed} {i:Nat} {Q:Keyed->SortSt->Prop} {st:SortSt} (hi:i < xs.size) (h:Q (Bm xs i) st):wpS (model prog w) A E s (elem' xs i) Q st:=by
 rw [elem'_eq,LY hi];exact wpS_pure h
theorem ES {x y:Keyed} {Q:Option Bool->SortSt->Prop} {st:SortSt} (an:Ln prog w A s κ lt a0) (hk:kindOf st=κ) (hx:x ∈ a0) (hy:y ∈ a0) (h:Q (some (lt x y)) st) :
  wpS (model prog w) A E s (lt' x y) Q st:=by
 rw [lt'_eq];refine wpS_bind (wpS_get ?_);rw [hk];refine wpS_bind (wpS_lift (wpAny_attempt (an x y hx hy _ _ ⟨rfl,?_⟩)));exact wpS_pure h
theorem CF {i j:Nat} {Q:Option Bool->SortSt->Prop} {st:SortSt} (an:Ln prog w A s κ lt a0) (hk:kindOf st=κ) (hp:(arrOf st).Perm a0) (hi:i < a0.size) (hj:j < a0.size)
  (h:Q (some (lt (Bm (arrOf st) i) (Bm (arrOf st) j))) st):wpS (model prog w) A E s (ltAt' i j) Q st:=by
 rw [ltAt'_eq];refine wpS_bind (wpS_get ?_);have e:=hp.size_eq;refine wpS_bind (A2 (by lia) (wpS_bind (A2 (by lia) ?_)));exact ES an hk ((Array.Perm.mem_iff hp).mp (Jm (by lia))) ((Array.Perm.mem_iff hp).mp (Jm (by lia))) h
def QH:Bool->Keyed->Array Keyed->Nat->Nat->Nat->StateT SortSt Sem (Option Nat):=sortPriv% PySem.Builtin.gallop
def Ru (lt:Keyed->Keyed->Bool) (left:Bool) (key x:Keyed):Bool:=if left=true then lt x key else !(lt key x)
def SG (left:Bool) (key:Keyed) (arr:Array Keyed) (base i:Nat):StateT SortSt Sem (Option Bool):=do
 let x <- elem' arr (base + i)
 if left=true then lt' x key else do
  let r <- lt' key x
  pure (Option.map (fun b=>!b) r)
theorem N4 {left:Bool} {key:Keyed} {arr:Array Keyed} {base i:Nat} {Q:Option Bool->SortSt->Prop} {st:SortSt} (an:Ln prog w A s κ lt a0) (hk:kindOf st=κ)
  (hkey:key ∈ a0) (hx:Bm arr (base + i) ∈ a0) (hi:base + i < arr.size) (h:Q (some (Ru lt left key (Bm arr (base + i)))) st):wpS (model prog w) A E s (SG left key arr base i) Q st:=by
 unfold SG;refine wpS_bind (A2 hi ?_);unfold Ru at h;cases left with
 | true=>
  simp only [if_true] at h ⊢;exact ES an hk hx hkey h
 | false=>
  simp only [WB,if_false] at h ⊢;exact wpS_bind (ES an hk hkey hx (wpS_pure h))
end
section lists
variable {lt:Keyed->Keyed->Bool}
theorem GZ {xs:Array Keyed} {i:Nat} (h:i < xs.toList.length):xs.toList[i]=Bm xs i:=by
 have h':i < xs.size:=by simpa using h
 unfold Bm;simp [Z6,h']
theorem Hk {xs:Array Keyed} {i:Nat} (h:i < xs.size):xs.toList.drop i=Bm xs i :: xs.toList.drop (i + 1):=by
 rw [XA (by simpa using h),GZ]
theorem J8 {xs:Array Keyed} {i:Nat} (h:i < xs.size):xs.toList.take (i + 1)=xs.toList.take i ++ [Bm xs i]:=by
 rw [Zy,Wk (by simpa using h),GZ];rfl
theorem IA (xs:Array Keyed) (i k:Nat):xs.toList.drop i=(xs.extract i (i + k)).toList ++ xs.toList.drop (i + k):=by
 rw [Yb,XB,Nat.add_sub_cancel_left,<-List.drop_drop];exact (Y0 _ _).symm
theorem Eh {xs:Array Keyed} {i j:Nat} (h:i<=j):xs.toList.take j=xs.toList.take i ++ (xs.extract i j).toList:=by
 rw [Yb,XB];have:j=i + (j - i):=by lia
 rw [this,List.take_add,<-this]
theorem En (xs:Array Keyed) (i:Nat):(xs.extract i).toList=xs.toList.drop i:=by
 rw [Yb,XB];exact Yw (by simp)
theorem Em (xs:Array Keyed) (i:Nat):(xs.extract 0 i).toList=xs.toList.take i:=by
 rw [Yb,XB];rfl
end lists
section
variable {prog:Program} {w:World} {A:Around} {E:Value->Shared->Prop} {s:Shared} {κ:SortKind} {lt:Keyed->Keyed->Bool} {a0:Array Keyed}
def O9:Array Keyed->Array Keyed->StateT SortSt Sem (Array Keyed):=sortPriv% PySem.Builtin.mergeLo
abbrev Cn (st:SortSt) (g:Nat):SortSt:=SortSt.mk' (kindOf st) (arrOf st) (pendingOf st) g (failedOf st)
theorem Bp {α:Type} {c:Prop} [Decidable c] {t e:StateT SortSt Sem α} {Q:α->SortSt->Prop} {st:SortSt} (hp:c->wpS (model prog w) A E s t Q st) (hn:¬ c->wpS (model prog w) A E s e Q st):wpS (model prog w) A E s (if c then t else e) Q st:=by
 by_cases h:c
 ·rw [if_pos h]; exact hp h
 ·rw [if_neg h]; exact hn h
theorem Bw {α:Type} {m n:Nat} {t e:StateT SortSt Sem α} {Q:α->SortSt->Prop} {st:SortSt} (hp:m=n->wpS (model prog w) A E s t Q st) (hn:¬ m=n->wpS (model prog w) A E s e Q st):wpS (model prog w) A E s (if (m == n)=true then t else e) Q st:=
 Bp (fun h=>hp (by simpa using h)) (fun h=>hn (by simpa using h))
theorem dup1 {G:Prop} {α:Type} {T:α->Prop} (main:(∀ x,T x)->G) (leaf:∀ x,T x):G:=main leaf
theorem QP {G:Prop} {α β:Type} {T:α->β->Prop} (C:α->β->Prop) (main:(∀ x y,C x y->T x y)->G) (leaf:∀ x y,C x y->T x y):G:=main leaf
end
section
variable {prog:Program} {w:World} {A:Around} {E:Value->Shared->Prop} {s:Shared} {κ:SortKind} {lt:Keyed->Keyed->Bool} {a0:Array Keyed}
def OA:Array Keyed->Array Keyed->StateT SortSt Sem (Array Keyed):=sortPriv% PySem.Builtin.mergeHi
end
section segs
variable {lt:Keyed->Keyed->Bool}
theorem KP {xs:Array Keyed} {i j:Nat} (hj:j<=xs.size) (k:Nat):Bm (mirror xs i j ((j - i) / 2)) k=if i<=k/\k < j then Bm xs (i + j - 1 - k) else Bm xs k:=by
 have e:=getElem?_mirror_all (i:=i) hj k;split at e
 ·rw [if_pos ‹_›]; exact FA e
 ·rw [if_neg ‹_›]; exact FA e
theorem KQ {xs:Array Keyed} {src d:Nat} (hs:src < xs.size) (hd:d<=src) (k:Nat) :
  Bm (bubble xs src d) k=if k=src - d then Bm xs src else if src - d < k/\k<=src then Bm xs (k - 1) else Bm xs k:=by
 have e:=getElem?_bubble hs d hd k;by_cases h1:k=src - d
 ·rw [if_pos h1] at e ⊢; exact FA e
 ·by_cases h2:src - d < k/\k<=src
  ·rw [if_neg h1,if_pos h2] at e ⊢; exact FA e
  ·rw [if_neg h1,if_neg h2] at e ⊢; exact FA e
def Kp (xs ys:Array Keyed) (lo:Nat):Prop:=ys.Perm xs/\∀ k,k < lo->Bm ys k=Bm xs k
theorem Kp.refl (xs:Array Keyed) (lo:Nat):Kp xs xs lo:=⟨Array.Perm.refl _,fun _ _=>rfl⟩
theorem Kp.size {xs ys:Array Keyed} {lo:Nat} (h:Kp xs ys lo):ys.size=xs.size:=h.1.size_eq
theorem Kp.mirror {xs ys:Array Keyed} {lo i j:Nat} (h:Kp xs ys lo) (hj:j<=xs.size) (hi:lo<=i):Kp xs (PyProof.Rows.mirror ys i j ((j - i) / 2)) lo:=by
 refine ⟨(mirror_perm _ _ _ _).trans h.1,fun k hk=>?_⟩;rw [KP (by rw [h.size]; exact hj),if_neg (by lia)];exact h.2 k hk
theorem Kp.bubble {xs ys:Array Keyed} {lo src d:Nat} (h:Kp xs ys lo) (hs:src < xs.size) (hd:lo + d<=src):Kp xs (PyProof.Rows.bubble ys src d) lo:=by
 refine ⟨(bubble_perm _ _ _).trans h.1,fun k hk=>?_⟩;rw [KQ (by rw [h.size]; exact hs) (by lia),if_neg (by lia),if_neg (by lia)];exact h.2 k hk
end segs
section
variable {prog:Program} {w:World} {A:Around} {E:Value->Shared->Prop} {s:Shared} {κ:SortKind} {lt:Keyed->Keyed->Bool} {a0:Array Keyed}
theorem ER {i j:Nat} {Q:Unit->SortSt->Prop} {st:SortSt} (h:Q () (setArr st (mirror (arrOf st) i j ((j - i) / 2)))):wpS (model prog w) A E s (reverseSlice' i j) Q st:=by
 rw [reverseSlice'_eq];exact wpS_modify h
theorem Lo {body:Nat->Option (Option Nat) × Nat->StateT SortSt Sem (ForInStep (Option (Option Nat) × Nat))} {f:Nat->Bool} {a nrem:Nat} {st:SortSt} (ha:a<=nrem)
  (hb:∀ x n (R:ForInStep (Option (Option Nat) × Nat)->SortSt->Prop),a<=n->n < nrem->(f n=true->R (.done (none,n)) st)->(f n=false->R (.yield (none,n + 1)) st)->wpS (model prog w) A E s (body x (none,n)) R st) :
  wpS (model prog w) A E s (forIn [a:nrem] (none,a) body) (fun c Ay=>Ay=st/\∃ n,c=(none,n)/\a<=n/\n<=nrem/\(∀ i,a<=i->i < n->f i=false)/\(n=nrem\/f n=true)) st:=by
 refine wpS_forRange (I:=fun x c Ay=>Ay=st/\c=(none,x)/\(∀ i,a<=i->i < x->f i=false)) ?_ ?_ ⟨rfl,rfl,fun i h1 h2=>by lia⟩
 ·rintro x c Ay h1 h2 ⟨rfl,rfl,q⟩;refine hb _ _ _ h1 h2 (fun e=>⟨rfl,x,rfl,h1,by lia,q,.inr e⟩) (fun e=>⟨rfl,rfl,fun i i1 i2=>?_⟩);by_cases z:i=x
  ·rw [z]; exact e
  ·exact q i i1 (by lia)
 ·rintro c Ay ⟨rfl,rfl,q⟩;rw [Nat.max_eq_right ha] at q ⊢;exact ⟨rfl,nrem,rfl,ha,Wq _,q,.inl rfl⟩
end
section
variable {lt:Keyed->Keyed->Bool}
theorem Fq (xs:Array Keyed) (i:Nat):Bm xs i=xs.toList.getD i (Value.none,Value.none):=by
 unfold Bm;rw [Yi,Wv,Xh]
theorem FR {xs:Array Keyed} {a b i:Nat} (h1:a + i < b) (h2:b<=xs.size):Bm (xs.extract a b) i=Bm xs (a + i):=by
 apply FA;rw [Array.getElem?_extract,if_pos (by lia)]
theorem JJ (base:Nat):∀ (l:List Keyed) (off:Nat) (xs:Array Keyed),base + off + l.length<=xs.size ->
  ((l.zipIdx off).foldl (fun a x=>a.setIfInBounds (base + x.2) x.1) xs).toList=xs.toList.take (base + off) ++ l ++ xs.toList.drop (base + off + l.length)
 | [],off,xs,h=>by simp
 | y :: l,off,xs,h=>by
  rw [List.zipIdx_cons,List.foldl_cons];have hl:base + off < xs.toList.length:=by simp at h ⊢; lia
  rw [JJ base l (off + 1) (xs.setIfInBounds (base + off) y) (by rw [Array.size_setIfInBounds]; simp at h ⊢; lia)];rw [YN,<-Z4,Zy,List.take_set_of_le (Wq _),Yx hl,List.drop_set_of_lt (by lia)];simp only [Yo,WO];rw [show base + off + 1 + l.length=base + off + (l.length + 1) by lia];simp
theorem MU {a b:List Keyed} {k:Nat} {d:Keyed} (h:k < a.length):(a ++ b).getD k d=a.getD k d:=by
 rw [Wv,Wv,WS h]
theorem MT {a b:List Keyed} {k:Nat} {d:Keyed} (h:a.length<=k):(a ++ b).getD k d=b.getD (k - a.length) d:=by
 rw [Wv,Wv,WQ h]
def NA (p:Nat × Nat × Nat):Nat × Nat:=(p.1,p.2.1)
end
section
variable {prog:Program} {w:World} {A:Around} {E:Value->Shared->Prop} {s:Shared} {κ:SortKind} {lt:Keyed->Keyed->Bool} {a0:Array Keyed}
theorem PZ {σ:Type} {M:Model} {st Ay:σ} {Q:PUnit->σ->Prop} (h:Q ⟨⟩ Ay):wpS M A E s (set Ay:StateT σ Sem PUnit) Q st:=by
 unfold wpS;rw [StateT.run_set];exact wpAny_pure ⟨rfl,h⟩
end
section
variable {prog:Program} {w:World} {A:Around} {E:Value->Shared->Prop} {s:Shared} {κ:SortKind} {lt:Keyed->Keyed->Bool} {a0:Array Keyed}
theorem GU (p:Array (Nat × Nat × Nat)) (i:Nat) (f:Nat × Nat × Nat->Nat × Nat × Nat) (hf:∀ x,NA (f x)=NA x):(p.modify i f).toList.map NA=p.toList.map NA:=by
 apply YF;intro k;rw [Wy,Wy,Xh,Xh,Array.getElem?_modify];split
 ·cases p[k]? with
  | none=>rfl
  | some x=>show some (NA (f x))=some (NA x); rw [hf]
 ·rfl
theorem S0 (c:Bool) (n:Nat) (h:1 < n):(if c=true then n - 2 - 1 else n - 2) + 1 < n:=by
 split <;> lia
end
end L2
namespace L2
open PySem PySem.Spec PyProof.Rows
abbrev AV:=Sum Int Str
def GX:AV->Value->Bool
 | .inl k,v=>Value.isInt k v
 | .inr x,v=>Value.isStrOf x v
def keyH (w:World):AV->Int
 | .inl k=>hashInt k
 | .inr x=>hashStr w x
theorem Bl:∀ {k:AV} {v:Value},GX k v=true->(∃ i t,k=Sum.inl i/\v=Value.int i t)\/(∃ x t,k=Sum.inr x/\v=Value.str x t)
 | .inl i,v,h=>by
  obtain ⟨t,e⟩:=Value.isInt_shape (k:=i) (v:=v) h;exact .inl ⟨i,t,rfl,e⟩
 | .inr x,v,h=>by
  obtain ⟨t,e⟩:=Value.isStrOf_shape (x:=x) (v:=v) h;exact .inr ⟨x,t,rfl,e⟩
theorem MM (i:Int) (t:Tok):GX (.inl i) (.int i t)=true:=by simp [GX,Value.isInt]
theorem ML (x:Str) (t:Tok):GX (.inr x) (.str x t)=true:=by simp [GX,Value.isStrOf]
theorem Sf (a b:Int):decide ((Sum.inl a:AV)=Sum.inl b)=(a == b):=by
 by_cases e:a=b
 ·subst e; simp
 ·have h:¬ (Sum.inl a:AV)=Sum.inl b:=fun q=>e (Sum.inl.inj q)
  rw [decide_eq_false h];exact (beq_eq_false_iff_ne.mpr e).symm
theorem Sb (a b:Str):decide ((Sum.inr a:AV)=Sum.inr b)=decide (a=b):=by
 by_cases e:a=b
 ·subst e; simp
 ·have h:¬ (Sum.inr a:AV)=Sum.inr b:=fun q=>e (Sum.inr.inj q)
  rw [decide_eq_false h,decide_eq_false e]
theorem Se (a:Int) (b:Str):decide ((Sum.inl a:AV)=Sum.inr b)=false:=decide_eq_false (fun q=>nomatch q)
theorem Sd (a:Str) (b:Int):decide ((Sum.inr a:AV)=Sum.inl b)=false:=decide_eq_false (fun q=>nomatch q)
def Bk (prog:Program) (w:World):PySem.KeyKind prog w AV where
 is:=GX
 hash:=keyH w
 inj:=fun v a b ha hb=>by
  rcases Bl ha with ⟨i,t,rfl,rfl⟩ | ⟨x,t,rfl,rfl⟩
  ·rcases Bl hb with ⟨j,u,rfl,e⟩ | ⟨y,u,rfl,e⟩
   ·injection e with e1 _; rw [e1]
   ·exact nomatch e
  ·rcases Bl hb with ⟨j,u,rfl,e⟩ | ⟨y,u,rfl,e⟩
   ·exact nomatch e
   ·injection e with e1 _; rw [e1]
 byValue:=fun k v h=>by
  rcases Bl h with ⟨i,t,rfl,rfl⟩ | ⟨x,t,rfl,rfl⟩ <;> rfl
 pyHash:=fun hv h=>by
  rcases Bl hv with ⟨i,t,rfl,rfl⟩ | ⟨x,t,rfl,rfl⟩
  ·exact wpAny_pyHash_int h
  ·exact wpAny_pyHash_str h
 eqBool:=fun hu hv h=>by
  rcases Bl hu with ⟨i,t,rfl,rfl⟩ | ⟨x,t,rfl,rfl⟩
  ·rcases Bl hv with ⟨j,u,rfl,rfl⟩ | ⟨y,u,rfl,rfl⟩
   ·rw [Sf] at h; exact wpAny_eqBool_int h
   ·rw [Se] at h; exact SeqAt.EqAt.int_str i t y u _ _ _ _ h
  ·rcases Bl hv with ⟨j,u,rfl,rfl⟩ | ⟨y,u,rfl,rfl⟩
   ·rw [Sd] at h; exact SeqAt.EqAt.str_int x t j u _ _ _ _ h
   ·rw [Sb] at h; exact wpAny_eqBool_str h
 «strs»:=fun k x t v h=>by
  rcases Bl h with ⟨i,u,rfl,e⟩ | ⟨y,u,rfl,e⟩
  ·exact nomatch e
  ·injection e with e1 _;subst e1;cases v <;> rfl
theorem JR (prog:Program) (w:World) (i:Int) (t:Tok):(Bk prog w).is (.inl i) (.int i t)=true:=MM i t
theorem JQ (prog:Program) (w:World) (x:Str) (t:Tok):(Bk prog w).is (.inr x) (.str x t)=true:=ML x t
inductive V where
 | non | bl (b:Bool) | int (i:Int) | str (x:Str) | byt (b:Array UInt8) | flt (b:UInt64) | ref (a:Addr) | ty (n:String)
 deriving DecidableEq
def Az:V->Value->Prop
 | .non,u=>u=Value.none
 | .bl b,u=>u=Value.bool b
 | .int i,u=>∃ t,u=Value.int i t
 | .str x,u=>∃ t,u=Value.str x t
 | .byt b,u=>∃ t,u=Value.bytes b t
 | .flt b,u=>∃ t,u=Value.float b t
 | .ref a,u=>u=Value.ref a
 | .ty n,u=>u=Value.type n
abbrev A7:List V->List Value->Prop:=Paired Az
theorem A7.length {xs:List V} {us:List Value} (r:A7 xs us):xs.length=us.length:=Paired.length r
theorem A7.get:∀ {xs:List V} {us:List Value} {i:Nat} {x:V},A7 xs us->xs[i]? = some x->∃ u,us[i]? = some u/\Az x u
 | _,_,_,_,.nil,e=>by simp at e
 | _,_,0,_,.cons r _,e=>by simp at e; subst e; exact ⟨_,rfl,r⟩
 | _,_,i + 1,x,.cons _ t,e=>by
  obtain ⟨u,h1,h2⟩:=A7.get (i:=i) (x:=x) t (by simpa using e);exact ⟨u,by simpa using h1,h2⟩
theorem A7.set {x:V} {u:Value} (r:Az x u):∀ {xs:List V} {us:List Value} (i:Nat),A7 xs us->A7 (xs.set i x) (us.set i u)
 | _,_,_,.nil=>.nil
 | _,_,0,.cons _ t=>.cons r t
 | _,_,i + 1,.cons q t=>.cons q (A7.set r i t)
theorem A7.append:∀ {xs ys:List V} {us ws:List Value},A7 xs us->A7 ys ws->A7 (xs ++ ys) (us ++ ws)
 | _,_,_,_,.nil,s=>s
 | _,_,_,_,.cons r t,s=>.cons r (A7.append t s)
def Gg:Option V->Option Value->Prop
 | some v,some u=>Az v u
 | none,none=>True
 | _,_=>False
def KV {κ:Type}:List (κ × V)->List (κ × Value)->Prop:=Paired fun (p:κ × V) (q:κ × Value)=>p.1=q.1/\Az p.2 q.2
def kV:AV->V
 | .inl i=>.int i
 | .inr x=>.str x
inductive HO where
 /-- a list -/
 | lst (xs:List V)
 /-- a tuple (never changes) -/
 | tup (xs:List V)
 /-- a dict whose keys are ints and texts; one whose keys are tuples of ints and texts (the empty one is both) -/
 | dK (kvs:List (AV × V)) | dT (kvs:List (List AV × V))
 /-- a set of ints: Aw members,Aw size -/
 | set (S:Int->Bool) (n:Nat)
 /-- an instance of the class at C,Aw dict at dx,Aw attributes -/
 | ins (C dx:Addr) (fs:List (Str × V))
 /-- the dict of the instance at x -/
 | own (x:Addr)
 /-- the dict of an exception -/
 | xd (fs:List (Str × V))
 /-- a bound method,f of x -/
 | met (f x:Addr)
 /-- a range object lo,lo + 1,.. below hi -/
 | rng (lo hi:Int)
 /-- a thing that is known to the object (the script; a dict while a loop walks it): read,never written while it is so -/
 | frz (o:Obj) (u:HO)
 /-- a code T6 table -/
 | tbl (ps:Array Value)
 /-- any other thing,by what is true of Aw one object (a def of one's own: SetO a S n:=HO.ext fun h=>..) -/
 | ext (φ:Heap->Prop)
abbrev Hp:=Addr->Option HO
def upd (H:Hp) (a:Addr) (o:HO):Hp:=fun b=>if b=a then some o else H b
theorem Ab {H:Hp} {a:Addr} {o:HO}:upd H a o a=some o:=by unfold upd; rw [if_pos rfl]
theorem Ae {H:Hp} {a b:Addr} {o:HO} (h:b ≠ a):upd H a o b=H b:=by unfold upd; rw [if_neg h]
theorem Ls {H:Hp} {a:Addr} {o u:HO}:upd (upd H a o) a u=upd H a u:=by
 funext b; unfold upd; split <;> rfl
theorem Br {H:Hp} {a b:Addr} {o u:HO} (h:H a=some o) (h':H b=some u) (d:o ≠ u):a ≠ b:=by
 intro e; subst e; rw [h] at h'; exact d (WA.inj h')
theorem Ah {H:Hp} {a b:Addr} {o:HO} (h:H a=some o) (h':H b=none):a ≠ b:=by
 intro e; subst e; rw [h] at h'; cases h'
def Lg (h:Heap) (a:Addr):Prop:=∀ o,h.get? a=some o->o.dict=none
theorem Lg.new {h:Heap} {o:Obj} (hd:o.dict=none) (hf:o.isFreed=false):Lg (h.push o) h.objs.size:=fun o' e=>by
 rw [W0 _ hf] at e;cases e
 exact hd
section
variable (P:Program) (w:World)
def A6 (H:Hp) (h:Heap) (a:Addr):HO->Prop
 | .lst xs=>xs.length<=sizeLine/\∃ (Aw:List Value) (n:Nat),A7 xs Aw/\h.get? a=some { cls:=.type "list",data:=.seq Aw.toArray n }
 | .tup xs=>xs.length<=sizeLine/\∃ Aw:List Value,A7 xs Aw/\IsTup h a Aw.toArray/\Lg h a
 | .dK kvs=>kvs.length<=sizeLine/\(a == sysModules)=false/\∃ vs,KV kvs vs/\h.DictOf (Bk P w) a vs
 | .dT kvs=>kvs.length<=sizeLine/\(a == sysModules)=false/\∃ xs:List (List AV × Addr × Value),
   Paired (fun (p:List AV × V) (q:List AV × Addr × Value)=>p.1=q.1/\H q.2.1=some (.tup (p.1.map kV))/\Az p.2 q.2.2) kvs xs /\
   ∃ o es ep,h.get? a=some o/\o.ExactDict/\o.data=.dict es ep/\es.toList=xs.map (entryOfKey (tupleKind (Bk P w)))/\(xs.map (·.1)).Nodup
 | .set S n=>h.SetOf (intKind P w) a S n
 | .ins C dx fs=>H dx=some (.own a)/\fs.length<=1000/\dx ≠ a/\h.get? a=some (PySem.W.instObj C dx) /\
   ∃ mA,h.Ns1 dx mA/\(∀ f,Gg (fs.lookup f) (mA f))/\PySem.Within mA (fs.map (·.1))
 | .own _=>∃ o,h.get? a=some o
 | .xd fs=>∃ mA,h.Ns1 a mA/\∀ f,Gg (fs.lookup f) (mA f)
 | .rng lo hi=>∃ t u v,h.get? a=some { cls:=.type "range",data:=.fields #[.int lo t,.int hi u,.int 1 v] }
 | .frz o u=>h.get? a=some o/\A6 H h a u
 | .tbl ps=>h.get? a=some { cls:=.none,data:=.fields ps }
 | .met f x=>h.get? a=some (YA (.ref f) (.ref x))
 | .ext φ=>φ h/\(∃ o,h.get? a=some o)/\∀ h1 h2:Heap,φ h1->(∀ o,h1.get? a=some o->h2.get? a=some o)->φ h2
def EM (H:Hp) (h:Heap):Prop:=∀ a o,H a=some o->A6 P w H h a o
end
section
variable {P:Program} {w:World} {H H':Hp} {h h':Heap} {a:Addr} {o:HO}
theorem A6.lt (x:A6 P w H h a o):a < h.objs.size:=by
 cases o with
 | lst xs=>obtain ⟨_,_,_,_,e⟩:=x; exact Wr e
 | tup xs=>obtain ⟨_,_,_,p,_⟩:=x; exact p.lt
 | dK kvs=>obtain ⟨_,_,_,_,o,_,_,e,_⟩:=x; exact Wr e
 | dT kvs=>obtain ⟨_,_,_,_,o,_,_,e,_⟩:=x; exact Wr e
 | set S n=>obtain ⟨o,_,_,_,e,_⟩:=x; exact Wr e
 | ins C dx fs=>obtain ⟨_,_,_,e,_⟩:=x; exact Wr e
 | own y=>obtain ⟨_,e⟩:=x; exact Wr e
 | xd fs=>obtain ⟨_,⟨_,_,_,e,_⟩,_⟩:=x; exact Wr e
 | rng lo hi=>obtain ⟨_,_,_,e⟩:=x; exact Wr e
 | frz ob u=>obtain ⟨e,_⟩:=x; exact Wr e
 | tbl ps=>exact Wr (show h.get? a=some _ from x)
 | met f y=>exact Wr (show h.get? a=some _ from x)
 | ext φ=>obtain ⟨_,⟨_,e⟩,_⟩:=x; exact Wr e
theorem Paired.mapP {α β:Type} {F G:α->β->Prop}:∀ {OC:List α} {OB:List β},Paired F OC OB->(∀ a b,F a b->G a b)->Paired G OC OB
 | _,_,.nil,_=>.nil
 | _,_,.cons r t,f=>.cons (f _ _ r) (Paired.mapP t f)
theorem A6.stay (x:A6 P w H h a o) (k:∀ b u,(b=a\/H b=some (.own a))->h.get? b=some u->h'.get? b=some u)
  (ho:∀ b,H b=some (.own a)->H' b=some (.own a)) (ht:∀ b xs,H b=some (.tup xs)->H' b=some (.tup xs)):A6 P w H' h' a o:=by
 induction o with
 | lst xs=>obtain ⟨z,Aw,n,r,e⟩:=x; exact ⟨z,Aw,n,r,k _ _ (.inl rfl) e⟩
 | tup xs=>
  obtain ⟨z,Aw,r,⟨ob,e,c⟩,dn⟩:=x;have e':=k _ _ (.inl rfl) e;exact ⟨z,Aw,r,⟨ob,e',c⟩,fun o q=>by rw [e'] at q; cases q; exact dn _ e⟩
 | dK kvs=>obtain ⟨z,y,vs,r,ob,es,ep,e,c⟩:=x; exact ⟨z,y,vs,r,ob,es,ep,k _ _ (.inl rfl) e,c⟩
 | dT kvs=>
  obtain ⟨z,y,xs,r,ob,es,ep,e,c⟩:=x;exact ⟨z,y,xs,Paired.mapP r fun p q z=>⟨z.1,ht _ _ z.2.1,z.2.2⟩,ob,es,ep,k _ _ (.inl rfl) e,c⟩
 | set S n=>obtain ⟨ob,es,ep,t,e,c⟩:=x; exact ⟨ob,es,ep,t,k _ _ (.inl rfl) e,c⟩
 | ins C dx fs=>
  obtain ⟨d,z,ne,e,mA,⟨od,es,ep,e2,c⟩,r⟩:=x;exact ⟨ho _ d,z,ne,k _ _ (.inl rfl) e,mA,⟨od,es,ep,k _ _ (.inr d) e2,c⟩,r⟩
 | own y=>obtain ⟨ob,e⟩:=x; exact ⟨ob,k _ _ (.inl rfl) e⟩
 | xd fs=>obtain ⟨mA,⟨od,es,ep,e,c⟩,r⟩:=x; exact ⟨mA,⟨od,es,ep,k _ _ (.inl rfl) e,c⟩,r⟩
 | rng lo hi=>obtain ⟨t,u,v,e⟩:=x; exact ⟨t,u,v,k _ _ (.inl rfl) e⟩
 | frz ob u ih=>obtain ⟨e,q⟩:=x; exact ⟨k _ _ (.inl rfl) e,ih q⟩
 | tbl ps=>
  have e:h.get? a=some { cls:=.none,data:=.fields ps }:=x;show h'.get? a=some { cls:=.none,data:=.fields ps }
  exact k a _ (.inl rfl) e
 | met f y=>
  have e:h.get? a=some (YA (.ref f) (.ref y)):=x;show h'.get? a=some (YA (.ref f) (.ref y))
  exact k a _ (.inl rfl) e
 | ext φ=>obtain ⟨p,⟨o,e⟩,st⟩:=x; exact ⟨st _ _ p fun o q=>k _ _ (.inl rfl) q,⟨o,k _ _ (.inl rfl) e⟩,st⟩
theorem EM.lt (x:EM P w H h) (e:H a=some o):a < h.objs.size:=(x a o e).lt
theorem EM.fresh (x:EM P w H h) (e:h.objs.size<=a):H a=none:=by
 cases q:H a with
 | none=>rfl
 | some u=>exact absurd (Ws (x.lt q) e) (WT _)
theorem EM.kept (x:EM P w H h) (k:∀ b u,h.get? b=some u->h'.get? b=some u):EM P w H h':=fun a o e=>
 (x a o e).stay (fun b u _ q=>k b u q) (fun _ q=>q) fun _ _ q=>q
theorem EM.laid (x:EM P w H h) (k:∀ b u,h.get? b=some u->h'.get? b=some u) (hp:h.objs.size<=a) (new:A6 P w (upd H a o) h' a o):EM P w (upd H a o) h':=fun b u e=>by
 have hn:=x.fresh hp;by_cases hb:b=a
 ·subst hb; rw [Ab] at e; cases e; exact new
 ·rw [Ae hb] at e;exact (x b u e).stay (fun c v _ q=>k c v q) (fun c q=>by rw [Ae (Ah q hn)]; exact q) fun c xs q=>by rw [Ae (Ah q hn)]; exact q
end
def Rd (H:Hp) (a:Addr) (u:HO):Prop:=H a=some u\/∃ o,H a=some (.frz o u)
theorem Rd.ok {P:Program} {w:World} {H:Hp} {h:Heap} {a:Addr} {u:HO} (r:Rd H a u) (x:EM P w H h):A6 P w H h a u:=by
 rcases r with r | ⟨o,r⟩
 ·exact x a u r
 ·obtain ⟨_,q⟩:=x a _ r;exact q
def Mut:Option HO->Prop
 | some (.lst _)=>True
 | some (.dK _)=>True
 | some (.dT _)=>True
 | some (.set _ _)=>True
 | some (.ins _ _ _)=>True
 | some (.ext _)=>True
 | _=>False
section
variable {P:Program} {w:World} {H:Hp} {h h':Heap} {x e:Addr} {o':HO}
theorem EM.write (ok:EM P w H h) (mu:Mut (H x)) (he:e=x\/H e=some (.own x)) (k:∀ b u,b ≠ e->h.get? b=some u->h'.get? b=some u) (heo:∃ u,h'.get? e=some u)
  (new:A6 P w (upd H x o') h' x o'):EM P w (upd H x o') h':=fun b u q=>by
 have nown:∀ c y,H c=some (.own y)->c ≠ x:=fun c y r z=>by subst z; rw [r] at mu; exact mu
 have ntup:∀ c xs,H c=some (.tup xs)->c ≠ x:=fun c xs r z=>by subst z; rw [r] at mu; exact mu
 by_cases hb:b=x
 ·subst hb; rw [Ab] at q; cases q; exact new
 ·rw [Ae hb] at q;by_cases hbe:b=e
  ·have q':H b=some (.own x):=by
    rcases he with z | z
    ·exact absurd (hbe.trans z) hb
    ·rw [hbe]; exact z
   rw [q] at q'; cases q';obtain ⟨v,hv⟩:=heo;exact ⟨v,by rw [hbe]; exact hv⟩
  ·refine (ok b u q).stay (fun c v hc r=>k c v ?_ r) (fun c r=>by rw [Ae (nown c b r)]; exact r) fun c xs r=>by rw [Ae (ntup c xs r)]; exact r
   rcases hc with rfl | hc
   ·exact hbe
   ·rintro rfl;rcases he with z | z
    ·exact nown c b hc z
    ·rw [hc] at z; cases z; exact hb rfl
end
structure Un (fs ex:List Addr) (H H':Hp) (h h':Heap):Prop where
 keep:∀ b o,h.get? b=some o->H b=none->b ∉ fs->b ∉ ex->h'.get? b=some o
 slot:∀ b o,h.get? b=some o->H b=none->b ∈ fs->b ∉ ex->∃ sl,h'.get? b=some { o with slots:=sl }
 free:∀ b o,h.get? b=some o->H b=none->b ∉ ex->H' b=none
 there:∀ b o,h.get? b=some o->b ∉ ex->∃ o',h'.get? b=some o'
 tups:∀ b xs,H b=some (.tup xs)->H' b=some (.tup xs)
 frzs:∀ b o u,H b=some (.frz o u)->H' b=some (.frz o u)
 tbls:∀ b ps,H b=some (.tbl ps)->∃ more,H' b=some (.tbl (ps ++ more))
section
variable {fs Tg ex ex':List Addr} {H H1 H2:Hp} {h h1 h2 h':Heap} {a x e:Addr} {o:HO}
theorem Un.any (u:Un fs ex H H1 h h1) {b:Addr} {ob:Obj} (q:h.get? b=some ob) (n:H b=none) (hx:b ∉ ex):∃ sl,h1.get? b=some { ob with slots:=sl }:=by
 by_cases hb:b ∈ fs
 ·exact u.slot b ob q n hb hx
 ·exact ⟨ob.slots,u.keep b ob q n hb hx⟩
theorem Un.kept (k:∀ b u,h.get? b=some u->h'.get? b=some u):Un fs ex H H h h':=
 ⟨fun b ob q _ _ _=>k b ob q,fun b ob q _ _ _=>⟨ob.slots,k b ob q⟩,fun _ _ _ n _=>n,fun b ob q _=>⟨ob,k b ob q⟩,fun _ _ q=>q,fun _ _ _ q=>q,fun _ ps q=>⟨#[],by rw [q]; simp⟩⟩
theorem Un.refl:Un fs ex H H h h:=Un.kept fun _ _ q=>q
theorem Un.laid (k:∀ b u,h.get? b=some u->h'.get? b=some u) (hp:h.objs.size<=a) (hn:H a=none):Un fs ex H (upd H a o) h h' where
 keep:=fun b u q _ _ _=>k b u q
 slot:=fun b u q _ _ _=>⟨u.slots,k b u q⟩
 free:=fun b u q n _=>by rw [Ae (W6 (Ws (Wr q) hp))]; exact n
 there:=fun b u q _=>⟨u,k b u q⟩
 tups:=fun b xs q=>by rw [Ae (Ah q hn)]; exact q
 frzs:=fun b u xs q=>by rw [Ae (Ah q hn)]; exact q
 tbls:=fun b ps q=>⟨#[],by rw [Ae (Ah q hn),q]; simp⟩
theorem Un.write (mu:Mut (H x)) (he:e=x\/H e=some (.own x)) (k:∀ b u,b ≠ e->h.get? b=some u->h'.get? b=some u) (heo:∃ u,h'.get? e=some u):Un fs ex H (upd H x o) h h':=by
 have hx:∀ b,H b=none->b ≠ x:=fun b n z=>by subst z; rw [n] at mu; exact mu
 have hb:∀ b,H b=none->b ≠ e:=fun b n z=>by
  subst z;rcases he with r | r
  ·exact hx b n r
  ·rw [n] at r; cases r
 have hm:∀ b u,H b=some u->¬ Mut (some u)->b ≠ x:=fun b u q nm z=>by subst z; rw [q] at mu; exact nm mu
 refine ⟨fun b u q n _ _=>k b u (hb b n) q,fun b u q n _ _=>⟨u.slots,k b u (hb b n) q⟩,fun b u q n _=>by rw [Ae (hx b n)]; exact n,fun b u q _=>?_,
  fun b xs q=>by rw [Ae (hm b _ q fun z=>z)]; exact q,fun b u xs q=>by rw [Ae (hm b _ q fun z=>z)]; exact q,fun b ps q=>⟨#[],by rw [Ae (hm b _ q fun z=>z),q]; simp⟩⟩
 by_cases hbe:b=e
 ·subst hbe; exact heo
 ·exact ⟨u,k b u hbe q⟩
end
def SR (h:Heap) (H:Hp):List Addr:=(Xc h.objs.size).filter fun a=>(H a).isSome
def HE (h:Heap) (H:Hp):Heap:=PySem.W.hideAll h (SR h H)
theorem MR (h:Heap) (H:Hp):(HE h H).objs.size=h.objs.size:=PySem.W.hideAll_size _ _
theorem OR {h:Heap} {H:Hp} {b:Addr} {o:Obj} (e:h.get? b=some o) (n:H b=none):(HE h H).get? b=some o:=
 PySem.W.hideAll_get _ e fun hm=>by
  have q:(H b).isSome=true:=(Xf.mp hm).2;rw [n] at q; simp at q
theorem Qx {h:Heap} {H:Hp} {b:Addr} {o:Obj} (e:(HE h H).get? b=some o):h.get? b=some o/\H b=none:=by
 have e':h.get? b=some o:=PySem.W.of_hideAll (SR h H) e;exists e';cases q:H b with
 | none=>rfl
 | some x=>
  have hm:b ∈ SR h H:=Xf.mpr ⟨X8.mpr (Wr e'),by simp [q]⟩;have z:(HE h H).get? b=none:=PySem.W.hideAll_none (SR h H) hm;rw [z] at e; cases e
def QW (g h:Heap) (L:Addr):List (Addr × Obj):=(Xc h.objs.size).filterMap fun a=>if a=L\/(g.get? a).isSome=true then none else (h.get? a).map fun o=>(a,o)
def By (g h:Heap) (L d:Addr):List (Addr × Obj):=(QW g h L).filter fun p=>decide (p.1 ≠ d)
structure Mod (K:Wm) (mg:Str->Option Value) (base:Heap):Prop where
 kin:K.In base
 glob:base.Ns mainGlobals mg
 blt:∃ mb,base.Ns builtinsNs mb/\∀ x:Str,x ≠ "__name__"->mb x=bootBuiltins x
 nolimit:base.NoLimit
structure Cx where
 prog:Program
 w:World
 K:Wm
 mg:Str->Option Value
 base:Heap
 A:Around
 N:List Str
 s₀:Shared
 H₀:Hp
 env:Env
 outer:List Env
 stack:List Env
 ex:List Addr
 fn:Str->Bool
 calm:Bool
 pn:List (Addr × Obj)
 xe:Value->Shared->Prop
def MW (l:List Env):List Addr:=l.filterMap (·.frame)
abbrev Cx.fs (X:Cx):List Addr:=MW X.outer
def Vis (sc:Scope) (x:Str):Prop:=sc.names.lookup x=some .local\/sc.names.lookup x=some .cell\/sc.names.lookup x=some .free
def To (sc:Scope) (x:Str):Prop:=sc.names.lookup x=some .local\/sc.names.lookup x=some .cell
def Look (env:Env) (h:Heap) (m:Str->Option Value) (x:Str) (u:Value):Prop:=
 (env.kindOf x=some .local/\m x=some u)\/((env.kindOf x=some .cell\/env.kindOf x=some .free)/\∃ c,env.cells.lookup x=some c/\h.IsCell c (some u))
structure Cx.Ok (X:Cx):Prop where
 mod:Mod X.K X.mg X.base
 kind:X.env.scope.kind=.function
 glob:X.env.globals=mainGlobals
 blt:X.env.builtins=builtinsNs
 above:X.s₀.heap.objs.size<=X.env.locals
 inj:∀ x y c,X.env.cells.lookup x=some c->X.env.cells.lookup y=some c->x=y
 has:∀ x,(X.env.kindOf x=some .cell\/X.env.kindOf x=some .free)->∃ c,X.env.cells.lookup x=some c
 cab:∀ x c,X.fn x=true->X.env.cells.lookup x=some c->X.s₀.heap.objs.size<=c
 hd:X.calm=true->X.A.handled=none
 frames:X.A.frames=some X.stack
 stk:X.stack=X.outer\/(X.stack=X.env :: X.outer/\X.env.frame=some X.env.locals)
 exf:∀ b ∈ X.ex,b ≠ X.env.locals/\∀ x c,X.env.cells.lookup x=some c->c ≠ b
 bs:∀ b o,X.base.get? b=some o->X.s₀.heap.get? b=some o/\X.H₀ b=none
 bsz:X.base.objs.size<=X.s₀.heap.objs.size
 noex:∀ b o,X.base.get? b=some o->b ∉ X.ex
 exfs:∀ b ∈ X.ex,b ∉ X.fs
 funs:X.s₀.heap.FunFrames X.base X.outer
 frf:∀ b ∈ X.fs,X.H₀ b=none
structure An (X:Cx) (pins:List (Addr × Obj)) (σ:List (Option V)) (H:Hp) (s:Shared):Prop where
 ok:X.Ok
 os:s.os=X.s₀.os
 bare:AllBare s.gens
 base:Un X.fs X.ex X.H₀ H X.s₀.heap s.heap
 loc:∃ m,s.heap.Ns X.env.locals m/\∀ (i:Nat) (x:Str) (v:V),X.N[i]? = some x->σ[i]? = some (some v)->Vis X.env.scope x->∃ u,Az v u/\Look X.env s.heap m x u
 cell:∀ x c,X.env.cells.lookup x=some c->∃ v,s.heap.IsCell c v
 free:H X.env.locals=none
 freeC:∀ x c,X.env.cells.lookup x=some c->H c=none
 pin:∀ p ∈ X.pn ++ pins,s.heap.get? p.1=some p.2/\H p.1=none/\p.1 ≠ X.env.locals/\p.1 ∉ X.fs/\∀ v,p.2.data ≠ .cell v
 hok:EM X.prog X.w H s.heap
 len:σ.length=X.N.length
section
variable {X:Cx} {pins:List (Addr × Obj)} {σ:List (Option V)} {H H':Hp} {s:Shared} {h':Heap}
theorem Cx.Ok.nofr (ok:X.Ok) {b:Addr} {o:Obj} (e:X.base.get? b=some o):b ∉ X.fs:=fun hb=>by
 have:=(ok.funs.mem hb).1;rw [e] at this; cases this
theorem An.bs (I:An X pins σ H s):∀ b o,X.base.get? b=some o->s.heap.get? b=some o/\H b=none:=fun b o e=>
 ⟨I.base.keep b o (I.ok.bs b o e).1 (I.ok.bs b o e).2 (I.ok.nofr e) (I.ok.noex b o e),I.base.free b o (I.ok.bs b o e).1 (I.ok.bs b o e).2 (I.ok.noex b o e)⟩
theorem An.bk (I:An X pins σ H s):∀ b o,X.base.get? b=some o->s.heap.get? b=some o:=fun b o e=>(I.bs b o e).1
theorem An.mod (I:An X pins σ H s):Mod X.K X.mg X.base:=I.ok.mod
theorem An.kIn (I:An X pins σ H s):X.K.In s.heap:=I.ok.mod.kin.keeps I.bk
theorem An.lt (I:An X pins σ H s):X.env.locals < s.heap.objs.size:=let ⟨_,hn,_⟩:=I.loc; hn.lt
theorem An.sz (I:An X pins σ H s):X.s₀.heap.objs.size<=s.heap.objs.size:=WJ I.ok.above (Ym I.lt)
theorem An.nofs (I:An X pins σ H s) {a:Addr} (h:s.heap.objs.size<=a):a ∉ X.fs:=fun hb=>by
 obtain ⟨_,o,ho,_⟩:=I.ok.funs.mem hb;exact absurd (Ws (Wr ho) (WJ I.sz h)) (WT _)
theorem An.cne (I:An X pins σ H s):∀ x c,X.env.cells.lookup x=some c->c ≠ X.env.locals:=fun x c e z=>by
 obtain ⟨v,o,ho,hd⟩:=I.cell x c e;obtain ⟨m,⟨o',es,ep,HD,JZ,_⟩,_⟩:=I.loc;rw [z,HD] at ho; cases ho; rw [JZ] at hd; cases hd
theorem An.funs (I:An X pins σ H s):s.heap.FunFrames X.base X.outer:=by
 have all:∀ (l:List Env),(∀ b ∈ MW l,b ∈ X.fs)->X.s₀.heap.FunFrames X.base l->s.heap.FunFrames X.base l:=by
  intro l;induction l with
  | nil=>intro _ _; trivial
  | cons env r ih=>
   intro hs hl;obtain ⟨hk,⟨L,o,hf,hn,ho,hd⟩,hr⟩:=hl;have hL:L ∈ X.fs:=hs L (by unfold MW; rw [Y6,hf]; exact W7);obtain ⟨sl,e⟩:=I.base.slot L o ho (I.ok.frf L hL) hL fun z=>I.ok.exfs L z hL
   exact ⟨hk,⟨L,_,hf,hn,e,hd⟩,ih (fun b hb=>hs b (by unfold MW; rw [Y6,hf]; exact WH _ hb)) hr⟩
 exact all X.outer (fun _ hb=>hb) I.ok.funs
theorem An.stack (I:An X pins σ H s):s.heap.FunFrames X.base X.stack:=by
 rcases I.ok.stk with e | ⟨e,hf⟩
 ·rw [e]; exact I.funs
 ·rw [e];obtain ⟨m,hn,_⟩:=I.loc;refine .cons (by rw [I.ok.kind]; decide) hf hn ?_ I.funs;exact Heap.get?_none_of_le (WJ I.ok.bsz I.ok.above)
theorem An.stkSub (I:An X pins σ H s):∀ b ∈ MW X.stack,b ∈ X.env.locals :: X.fs:=fun b hb=>by
 rcases I.ok.stk with e | ⟨e,hf⟩
 ·rw [e] at hb; exact WH _ hb
 ·rw [e] at hb;unfold MW at hb;rw [Y6,hf] at hb;exact hb
theorem An.stkFree (I:An X pins σ H s):∀ b ∈ MW X.stack,H b=none:=fun b hb=>by
 rcases Wn.mp (I.stkSub b hb) with e | hb
 ·rw [e]; exact I.free
 ·obtain ⟨_,o,ho,_⟩:=I.ok.funs.mem hb;exact I.base.free b o ho (I.ok.frf b hb) fun z=>I.ok.exfs b z hb
theorem An.step {g':Array GenState} {t':Nat} {d':Drawn} {ch:List Addr} (I:An X pins σ H s)
  (hch:∀ b ∈ ch,(b ∈ X.ex\/X.s₀.heap.objs.size<=b)/\b ≠ X.env.locals/\(∀ x c,X.env.cells.lookup x=some c->c ≠ b)/\∀ p ∈ X.pn ++ pins,p.1 ≠ b)
  (keep:∀ b o,b ≠ X.env.locals->b ∉ X.fs->b ∉ ch->s.heap.get? b=some o->H b=none->h'.get? b=some o)
  (slot:∀ b o,b ≠ X.env.locals->b ∈ X.fs->b ∉ ch->s.heap.get? b=some o->H b=none->∃ sl,h'.get? b=some { o with slots:=sl }) (free:∀ b o,b ∉ ch->s.heap.get? b=some o->H b=none->H' b=none)
  (there:∀ b o,b ∉ ch->s.heap.get? b=some o->∃ o',h'.get? b=some o')
  (tups:∀ b xs,H b=some (.tup xs)->H' b=some (.tup xs)) (frzs:∀ b o u,H b=some (.frz o u)->H' b=some (.frz o u)) (tbls:∀ b ps,H b=some (.tbl ps)->∃ more,H' b=some (.tbl (ps ++ more)))
  (ns:∀ m,s.heap.Ns X.env.locals m->h'.Ns X.env.locals m) (hok:EM X.prog X.w H' h') (hg:AllBare g') :
  An X pins σ H' { s with heap:=h',gens:=g',drawn:=d',toks:=t' }:=by
 have neL:∀ b o,X.s₀.heap.get? b=some o->b ≠ X.env.locals:=fun b o e=>W6 (Ws (Wr e) I.ok.above)
 have neC:∀ b o,X.s₀.heap.get? b=some o->b ∉ X.ex->b ∉ ch:=fun b o e hx hb=>by
  rcases (hch b hb).1 with z | z
  ·exact hx z
  ·exact absurd (Ws (Wr e) z) (WT _)
 have cellK:∀ x c,X.env.cells.lookup x=some c->∀ v,s.heap.IsCell c v->h'.IsCell c v:=fun x c e v ⟨o,ho,hd⟩=>by
  have nch:c ∉ ch:=fun z=>(hch c z).2.2.1 x c e rfl
  by_cases hc:c ∈ X.fs
  ·obtain ⟨sl,q⟩:=slot c o (I.cne x c e) hc nch ho (I.freeC x c e);exact ⟨_,q,hd⟩
  ·exact ⟨o,keep c o (I.cne x c e) hc nch ho (I.freeC x c e),hd⟩
 refine ⟨I.ok,I.os,hg,⟨fun b o e n hb hx=>?_,fun b o e n hb hx=>?_,fun b o e n hx=>?_,fun b o e hx=>?_,fun b xs e=>tups b xs (I.base.tups b xs e),fun b o xs e=>frzs b o xs (I.base.frzs b o xs e),fun b ps e=>?_⟩,?_,fun x c e=>?_,?_,fun x c e=>?_,fun p hp=>?_,hok,I.len⟩
 ·exact keep b o (neL b o e) hb (neC b o e hx) (I.base.keep b o e n hb hx) (I.base.free b o e n hx)
 ·obtain ⟨sl,e1⟩:=I.base.slot b o e n hb hx;obtain ⟨U4,e2⟩:=slot b _ (neL b o e) hb (neC b o e hx) e1 (I.base.free b o e n hx);exact ⟨U4,e2⟩
 ·obtain ⟨o',e1⟩:=I.base.there b o e hx;exact free b o' (neC b o e hx) e1 (I.base.free b o e n hx)
 ·obtain ⟨o',e1⟩:=I.base.there b o e hx;exact there b o' (neC b o e hx) e1
 ·obtain ⟨m1,e1⟩:=I.base.tbls b ps e;obtain ⟨m2,e2⟩:=tbls b _ e1;exact ⟨m1 ++ m2,by rw [e2,Array.append_assoc]⟩
 ·obtain ⟨m,hn,hl⟩:=I.loc;refine ⟨m,ns m hn,fun i x v e1 e2 e3=>?_⟩;obtain ⟨u,r,l⟩:=hl i x v e1 e2 e3;exists u,r;rcases l with l | ⟨k,c,e,z⟩
  ·exact .inl l
  ·exact .inr ⟨k,c,e,cellK x c e _ z⟩
 ·obtain ⟨v,z⟩:=I.cell x c e;exact ⟨v,cellK x c e v z⟩
 ·obtain ⟨m,⟨o,_,_,ho,_⟩,_⟩:=I.loc;exact free _ o (fun z=>(hch _ z).2.1 rfl) ho I.free
 ·obtain ⟨v,o,ho,hd⟩:=I.cell x c e;exact free c o (fun z=>(hch c z).2.2.1 x c e rfl) ho (I.freeC x c e)
 ·obtain ⟨e,n,ne,nf,d⟩:=I.pin p hp;have nch:p.1 ∉ ch:=fun z=>(hch p.1 z).2.2.2 p hp rfl
  exact ⟨keep p.1 p.2 ne nf nch e n,free p.1 p.2 nch e n,ne,nf,d⟩
theorem An.un {t':Nat} (I:An X pins σ H s) (u:Un X.fs [] H H' s.heap h') (hok:EM X.prog X.w H' h'):An X pins σ H' { s with heap:=h',toks:=t' }:=by
 obtain ⟨m,⟨o,es,ep,ho,r⟩,_⟩:=id I.loc;obtain ⟨sl,hL⟩:=u.any ho I.free (by simp);exact I.step (g':=s.gens) (d':=s.drawn) (ch:=[]) (fun _ z=>nomatch z) (fun b o _ hb _ e n=>u.keep b o e n hb (by simp)) (fun b o _ hb _ e n=>u.slot b o e n hb (by simp)) (fun b o _ e n=>u.free b o e n (by simp)) (fun b o _ e=>u.there b o e (by simp)) u.tups u.frzs u.tbls (fun m' hm=>by
  obtain ⟨o',UP,UQ,HD,r'⟩:=hm;rw [ho] at HD; cases HD;exact ⟨_,UP,UQ,hL,r'⟩) hok I.bare
theorem An.call {g':Array GenState} {t':Nat} {d':Drawn} {ch:List Addr} (I:An X pins σ H s) (u:Un (MW X.stack) ch H H' s.heap h') (hok:EM X.prog X.w H' h') (hg:AllBare g')
  (hch:∀ b ∈ ch,(b ∈ X.ex\/X.s₀.heap.objs.size<=b)/\b ≠ X.env.locals/\(∀ x c,X.env.cells.lookup x=some c->c ≠ b)/\∀ p ∈ X.pn ++ pins,p.1 ≠ b) :
  An X pins σ H' { s with heap:=h',gens:=g',drawn:=d',toks:=t' }:=by
 obtain ⟨m,⟨o,es,ep,ho,r⟩,_⟩:=id I.loc;obtain ⟨sl,hL⟩:=u.any ho I.free fun z=>(hch _ z).2.1 rfl
 exact I.step (ch:=ch) hch (fun b o hL hb hc e n=>u.keep b o e n (fun z=>(Wn.mp (I.stkSub b z)).elim hL hb) hc) (fun b o _ _ hc e n=>u.any e n hc) (fun b o hc e n=>u.free b o e n hc) (fun b o hc e=>u.there b o e hc) u.tups u.frzs u.tbls (fun m' hm=>by
  obtain ⟨o',UP,UQ,HD,r'⟩:=hm;rw [ho] at HD; cases HD;exact ⟨_,UP,UQ,hL,r'⟩) hok hg
theorem An.turned {t':Nat} {it:Addr} (I:An X pins σ H s) (k:∀ b o,b ≠ it->s.heap.get? b=some o->h'.get? b=some o) (hn:H it=none) (hL:it ≠ X.env.locals)
  (h1:it ∈ X.ex\/X.s₀.heap.objs.size<=it) (h2:∀ x c,X.env.cells.lookup x=some c->c ≠ it) (h3:∀ p ∈ X.pn ++ pins,p.1 ≠ it):An X pins σ H { s with heap:=h',toks:=t' }:=by
 have nit:∀ b u,H b=some u->b ≠ it:=fun b u e z=>by rw [z,hn] at e; cases e
 refine I.step (g':=s.gens) (d':=s.drawn) (ch:=[it]) (fun b hb=>?_) (fun b o _ _ hc e _=>k b o (fun z=>hc (by simp [z])) e) (fun b o _ _ hc e _=>⟨o.slots,k b o (fun z=>hc (by simp [z])) e⟩) (fun _ _ _ _ n=>n)
  (fun b o hc e=>⟨o,k b o (fun z=>hc (by simp [z])) e⟩) (fun _ _ e=>e) (fun _ _ _ e=>e) (fun b ps e=>⟨#[],by rw [e]; simp⟩) (fun m hm=>?_) (fun b u e=>?_) I.bare
 ·have e:b=it:=by simpa using hb
  subst e;exact ⟨h1,hL,h2,h3⟩
 ·obtain ⟨o,es,ep,ho,r⟩:=hm;exact ⟨o,es,ep,k _ o (Ne.symm hL) ho,r⟩
 ·refine (I.hok b u e).stay (fun c v hc q=>k c v ?_ q) (fun _ q=>q) fun _ _ q=>q
  rcases hc with z | z
  ·rw [z]; exact nit b u e
  ·exact nit c _ z
theorem An.tok (I:An X pins σ H s) (t:Nat):An X pins σ H { s with toks:=t }:=I.un (h':=s.heap) (t':=t) Un.refl I.hok
theorem An.kept {t':Nat} (I:An X pins σ H s) (k:∀ b u,s.heap.get? b=some u->h'.get? b=some u):An X pins σ H { s with heap:=h',toks:=t' }:=I.un (Un.kept k) (I.hok.kept k)
theorem An.laid {a:Addr} {o:HO} {t':Nat} (I:An X pins σ H s) (k:∀ b u,s.heap.get? b=some u->h'.get? b=some u) (hp:s.heap.objs.size<=a) (new:A6 X.prog X.w (upd H a o) h' a o) :
  An X pins σ (upd H a o) { s with heap:=h',toks:=t' }:=I.un (Un.laid k hp (I.hok.fresh hp)) (I.hok.laid k hp new)
theorem An.write {x e:Addr} {o:HO} {t':Nat} (I:An X pins σ H s) (mu:Mut (H x)) (he:e=x\/H e=some (.own x)) (k:∀ b u,b ≠ e->s.heap.get? b=some u->h'.get? b=some u) (heo:∃ u,h'.get? e=some u)
  (new:A6 X.prog X.w (upd H x o) h' x o):An X pins σ (upd H x o) { s with heap:=h',toks:=t' }:=I.un (Un.write mu he k heo) (I.hok.write mu he k heo new)
theorem An.pins_of {Rm:List (Addr × Obj)} (I:An X pins σ H s) (h:∀ p ∈ Rm,s.heap.get? p.1=some p.2/\H p.1=none/\p.1 ≠ X.env.locals/\p.1 ∉ X.fs/\∀ v,p.2.data ≠ .cell v):An X Rm σ H s:=
 ⟨I.ok,I.os,I.bare,I.base,I.loc,I.cell,I.free,I.freeC,fun p hp=>(W9.mp hp).elim (fun z=>I.pin p (WN _ z)) (h p),I.hok,I.len⟩
theorem GO {N:List Str} (hN:N.Nodup) {i j:Nat} {x:Str} (a:N[i]? = some x) (b:N[j]? = some x):i=j:=by
 obtain ⟨h1,e1⟩:=Wt.mp a;obtain ⟨h2,e2⟩:=Wt.mp b;exact (Zs hN).mp (e1.trans e2.symm)
theorem F1 {M:Model} {A:Around} {E:Value->Shared->Prop} {i:Nat} {x:Str} {v:V} {u:Value} {Q:Unit->Shared->Prop} (I:An X pins σ H s) (hN:X.N.Nodup) (hi:X.N[i]? = some x) (hx:To X.env.scope x) (r:Az v u)
  (h:∀ s',An X pins (σ.set i (some v)) H s'->(∃ a,Heap.SameBut a s.heap s'.heap/\(a=X.env.locals\/X.env.cells.lookup x=some a))->Q () s') (hf:X.fn x=true\/X.env.scope.names.lookup x=some .local:=by first | exact .inl rfl | exact .inr rfl | assumption):wpAny M A (storeName X.env x u) Q E s:=by
 obtain ⟨m,hn,hl⟩:=id I.loc;have hcls:(X.env.scope.kind == .class || (X.env.scope.kind == .module && X.env.locals != X.env.globals))=false:=by rw [I.ok.kind]; rfl
 have hiσ:i < σ.length:=by rw [I.len]; exact (Wt.mp hi).1
 have cne:=I.cne;have tracked:∀ {a:Addr} {h':Heap},(∃ o,s.heap.get? a=some o/\H a=none)->Heap.SameBut a s.heap h'->EM X.prog X.w H h':=fun {a h'} ha hs b ob e=>by
  obtain ⟨_,_,hfree⟩:=ha;refine (I.hok b ob e).stay (fun c w' hc q=>(hs.2 c ?_).trans q) (fun _ q=>q) fun _ _ q=>q
  rintro rfl;rcases hc with rfl | hc
  ·rw [hfree] at e; cases e
  ·rw [hfree] at hc; cases hc
 rcases hx with hk | hk
 ·refine wpAny_storeName_local hk hn (fun h' UJ hs=>?_) hcls;obtain ⟨oL,_,_,hoL,_⟩:=id hn;refine h _ ⟨I.ok,I.os,I.bare,⟨fun b o e n hb hx=>?_,fun b o e n hb hx=>?_,I.base.free,fun b o e hx=>?_,I.base.tups,I.base.frzs,I.base.tbls⟩,⟨_,UJ,fun j y v' e1 e2 e3=>?_⟩,fun y c e=>?_,I.free,I.freeC,fun p hp=>?_,tracked ⟨oL,hoL,I.free⟩ hs,by simpa using I.len⟩ ⟨_,hs,.inl rfl⟩
  ·exact (hs.2 b (W6 (Ws (Wr e) I.ok.above))).trans (I.base.keep b o e n hb hx)
  ·obtain ⟨sl,e1⟩:=I.base.slot b o e n hb hx;exact ⟨sl,(hs.2 b (W6 (Ws (Wr e) I.ok.above))).trans e1⟩
  ·obtain ⟨o',e1⟩:=I.base.there b o e hx;exact ⟨o',(hs.2 b (W6 (Ws (Wr e) I.ok.above))).trans e1⟩
  ·by_cases hj:j=i
   ·subst hj;rw [hi] at e1; cases e1;rw [Yx hiσ] at e2;cases e2
    exact ⟨u,r,.inl ⟨hk,by simp⟩⟩
   ·rw [Zg (Ne.symm hj)] at e2;obtain ⟨u',r',q⟩:=hl j y v' e1 e2 e3;exists u',r';rcases q with ⟨k,e⟩ | ⟨k,c,e,z⟩
    ·refine .inl ⟨k,?_⟩;have:y ≠ x:=fun e=>hj (GO hN e1 (e ▸ hi))
     simp [this,e]
    ·exact .inr ⟨k,c,e,z.sameBut hs (cne y c e)⟩
  ·obtain ⟨w',z⟩:=I.cell y c e;exact ⟨w',z.sameBut hs (cne y c e)⟩
  ·obtain ⟨e,n,ne,nf,d⟩:=I.pin p hp;exact ⟨(hs.2 p.1 ne).trans e,n,ne,nf,d⟩
 ·have hfn:X.fn x=true:=by
   rcases hf with z | z
   ·exact z
   ·rw [z] at hk; cases hk
  obtain ⟨c,hc⟩:=I.ok.has x (.inl hk);obtain ⟨w',z⟩:=I.cell x c hc;refine wpAny_storeName_cell I.ok.kind hk hc z (fun h' Gn hs=>?_);obtain ⟨oc,hoc,hocd⟩:=id z;refine h { s with heap:=h' } ⟨I.ok,I.os,I.bare,⟨fun b o e n hb hx=>?_,fun b o e n hb hx=>?_,I.base.free,fun b o e hx=>?_,I.base.tups,I.base.frzs,I.base.tbls⟩,⟨m,hn.sameBut hs (Ne.symm (cne x c hc)),fun j y v' e1 e2 e3=>?_⟩,fun y c' e=>?_,I.free,I.freeC,fun p hp=>?_,tracked ⟨oc,hoc,I.freeC x c hc⟩ hs,by simpa using I.len⟩ ⟨c,hs,.inr hc⟩
  ·exact (hs.2 b (W6 (Ws (Wr e) (I.ok.cab x c hfn hc)))).trans (I.base.keep b o e n hb hx)
  ·obtain ⟨sl,e1⟩:=I.base.slot b o e n hb hx;exact ⟨sl,(hs.2 b (W6 (Ws (Wr e) (I.ok.cab x c hfn hc)))).trans e1⟩
  ·obtain ⟨o',e1⟩:=I.base.there b o e hx;exact ⟨o',(hs.2 b (W6 (Ws (Wr e) (I.ok.cab x c hfn hc)))).trans e1⟩
  ·by_cases hj:j=i
   ·subst hj;rw [hi] at e1; cases e1;rw [Yx hiσ] at e2;cases e2
    exact ⟨u,r,.inr ⟨.inl hk,c,hc,Gn⟩⟩
   ·rw [Zg (Ne.symm hj)] at e2;obtain ⟨u',r',q⟩:=hl j y v' e1 e2 e3;exists u',r';rcases q with q | ⟨k,c',e,z'⟩
    ·exact .inl q
    ·refine .inr ⟨k,c',e,z'.sameBut hs ?_⟩;rintro rfl;exact hj (GO hN e1 (I.ok.inj _ _ _ e hc ▸ hi))
  ·by_cases hcc:c'=c
   ·subst hcc; exact ⟨_,Gn⟩
   ·obtain ⟨w2,z2⟩:=I.cell y c' e;exact ⟨w2,z2.sameBut hs hcc⟩
  ·obtain ⟨e,n,ne,nf,d⟩:=I.pin p hp;refine ⟨(hs.2 p.1 ?_).trans e,n,ne,nf,d⟩;intro q;rw [q,hoc] at e;have q':oc=p.2:=WA.inj e;exact d w' (by rw [<-q']; exact hocd)
theorem JC {M:Model} {A:Around} {E:Value->Shared->Prop} {i:Nat} {x:Str} {v:V} {u:Value} {Q:Unit->Shared->Prop} (I:An X pins σ H s) (hN:X.N.Nodup) (hi:X.N[i]? = some x) (hx:To X.env.scope x) (r:Az v u)
  (h:∀ s',An X pins (σ.set i (some v)) H s'->Q () s') (hf:X.fn x=true\/X.env.scope.names.lookup x=some .local:=by first | exact .inl rfl | exact .inr rfl | assumption):wpAny M A (storeName X.env x u) Q E s:=
 F1 I hN hi hx r (fun s' I' _=>h s' I') hf
theorem An.call' {s':Shared} {ch:List Addr} (I:An X pins σ H s) (ho:s'.os=s.os) (u:Un (MW X.stack) ch H H' s.heap s'.heap) (hok:EM X.prog X.w H' s'.heap) (hg:AllBare s'.gens)
  (hch:∀ b ∈ ch,(b ∈ X.ex\/X.s₀.heap.objs.size<=b)/\b ≠ X.env.locals/\(∀ x c,X.env.cells.lookup x=some c->c ≠ b)/\∀ p ∈ X.pn ++ pins,p.1 ≠ b):An X pins σ H' s':=by
 obtain ⟨h',g',d',t',o'⟩:=s';have e:o'=s.os:=ho;subst e;exact I.call (g':=g') (t':=t') (d':=d') u hok hg hch
end
abbrev XK:=Value->Option Addr->Hp->Prop
abbrev St:=List (Option V)
abbrev VK:=V->Hp->Prop
abbrev TE:=St->Hp->VK->Prop
abbrev TT:=St->Hp->(Bool->Hp->Prop)->Prop
abbrev TA:=St->Hp->(List V->Hp->Prop)->Prop
structure DN where
 nx:St->Hp->Prop
 rt:VK
 bk:St->Hp->Prop:=fun _ _=>False
 ct:St->Hp->Prop:=fun _ _=>False
abbrev TS:=DN->St->Hp->Prop
def EP (X:Cx) (pins:List (Addr × Obj)) (σ:St) (Q:VK) (u:Value) (s':Shared):Prop:=∃ v H',An X pins σ H' s'/\Az v u/\Q v H'
def TP (X:Cx) (pins:List (Addr × Obj)) (σ:St) (Q:Bool->Hp->Prop) (b:Bool) (s':Shared):Prop:=∃ H',An X pins σ H' s'/\Q b H'
def AP (X:Cx) (pins:List (Addr × Obj)) (σ:St) (Q:List V->Hp->Prop) (us:List Value) (s':Shared):Prop:=∃ vs H',An X pins σ H' s'/\A7 vs us/\Q vs H'
def SP (X:Cx) (pins:List (Addr × Obj)) (D:DN) (f:Flow) (s':Shared):Prop:=
 match f with
 | .next=>∃ Aq H',An X pins Aq H' s'/\D.nx Aq H'
 | .brk=>∃ Aq H',An X pins Aq H' s'/\D.bk Aq H'
 | .cont=>∃ Aq H',An X pins Aq H' s'/\D.ct Aq H'
 | .ret u=>∃ v Aq H',An X pins Aq H' s'/\Az v u/\D.rt v H'
def PE (X:Cx) (e:Expr) (t:TE):Prop:=
 ∀ ⦃pins:List (Addr × Obj)⦄ (s:Shared) (σ:St) (H:Hp) (Q:VK),An X pins σ H s->t σ H Q->wpAny (model X.prog X.w) X.A (eval e X.env) (EP X pins σ Q) X.xe s
def PT (X:Cx) (e:Expr) (t:TT):Prop:=
 ∀ ⦃pins:List (Addr × Obj)⦄ (s:Shared) (σ:St) (H:Hp) (Q:Bool->Hp->Prop),An X pins σ H s->t σ H Q->wpAny (model X.prog X.w) X.A (isTrue e X.env (eval e X.env)) (TP X pins σ Q) X.xe s
def PW (X:Cx) (e:Expr) (t:TT):Prop:=
 ∀ ⦃whole:Sem Value⦄ (pins:List (Addr × Obj)) (s:Shared) (σ:St) (H:Hp) (Q:Bool->Hp->Prop),An X pins σ H s->t σ H Q->wpAny (model X.prog X.w) X.A (isTrue e X.env whole) (TP X pins σ Q) X.xe s
theorem PW.pt {X:Cx} {e:Expr} {t:TT} (h:PW X e t):PT X e t:=@h _
def PA (X:Cx) (es:List Expr) (t:TA):Prop:=
 ∀ ⦃pos:Pos⦄ (pins:List (Addr × Obj)) (s:Shared) (σ:St) (H:Hp) (Q:List V->Hp->Prop),An X pins σ H s->t σ H Q->wpAny (model X.prog X.w) X.A (spliced (backTo pos (starEach es X.env))) (AP X pins σ Q) X.xe s
def PS (X:Cx) (st:Stmt) (t:TS):Prop:=
 ∀ ⦃pins:List (Addr × Obj)⦄ (s:Shared) (σ:St) (H:Hp) (D:DN),An X pins σ H s->t D σ H->wpAny (model X.prog X.w) X.A (exec st X.env) (SP X pins D) X.xe s
def Jv (X:Cx) (st:List Stmt) (t:TS):Prop:=
 ∀ ⦃pins:List (Addr × Obj)⦄ (s:Shared) (σ:St) (H:Hp) (D:DN),An X pins σ H s->t D σ H->wpAny (model X.prog X.w) X.A (execs st X.env) (SP X pins D) X.xe s
theorem BF {α:Type} {t:Sem α} {Q Q':α->Shared->Prop} {M:Model} {A:Around} {E:Value->Shared->Prop} {s:Shared} (h:wpAny M A t Q E s) (hQ:∀ a s,Q a s->Q' a s):wpAny M A t Q' E s:=wpAny_mono h hQ fun _ _ x=>x
section
variable {X:Cx}
def Qc (i:Nat):TE:=fun σ H Q=>∃ v,σ[i]? = some (some v)/\Q v H
def tC (v:V):TE:=fun _ H Q=>Q v H
theorem RT {i:Nat} {x:Str} {pos:Pos} (hN:X.N[i]? = some x) (hv:Vis X.env.scope x) (hd:(x == ("__debug__":Str))=false:=by decide) (hcd:(x == ("__classdict__":Str))=false:=by decide):PE X (.Name x pos) (Qc i):=by
 intro pins s σ H Q I h;obtain ⟨v,e,h⟩:=h;obtain ⟨m,hn,hl⟩:=I.loc;obtain ⟨u,r,l⟩:=hl i x v hN e hv;have fin:EP X pins σ Q u s:=⟨v,H,I,r,h⟩
 rcases l with ⟨hk,hm⟩ | ⟨hk,c,hc,hcell⟩
 ·exact wpAny_Name (wpAny_loadName_local I.ok.kind hk hn hm fin) hd
 ·rcases hk with hk | hk
  ·exact wpAny_Name (wpAny_loadName_cell I.ok.kind hk hc hcell fin) hd
  ·exact wpAny_Name (wpAny_loadName_free I.ok.kind hk hc hcell fin hcd) hd
theorem Ag {i j pos}:PE X (.Constant (.int i) j pos) (tC (.int i)):=fun _ _ _ H _ I h=>wpAny_Constant_int ⟨.int i,H,I.tok _,⟨_,rfl⟩,h⟩
theorem Ig {b j pos}:PE X (.Constant (.bool b) j pos) (tC (.bl b)):=fun _ _ _ H _ I h=>Constant_bool ⟨.bl b,H,I,rfl,h⟩
theorem F5 {j pos}:PE X (.Constant .none j pos) (tC .non):=fun _ _ _ H _ I h=>Constant_none ⟨.non,H,I,rfl,h⟩
theorem F4 {x j pos}:PE X (.Constant (.str x) j pos) (tC (.str x)):=fun _ _ _ H _ I h=>Calls.Constant_str ⟨.str x,H,I.tok _,⟨_,rfl⟩,h⟩
def Gl (X:Cx) (x:Str):Prop:=X.env.kindOf x=some .globalImplicit
theorem Q6 {E:Value->Shared->Prop} {pins:List (Addr × Obj)} {s:Shared} {σ:St} {H:Hp} {x:Str} {u:Value} {pos:Pos} {Q:Value->Shared->Prop} (I:An X pins σ H s) (hg:Gl X x) (hm:X.mg x=some u) (h:Q u s)
  (hd:(x == ("__debug__":Str))=false:=by decide):wpAny (model X.prog X.w) X.A (eval (.Name x pos) X.env) Q E s:=
 Calls.Name_function_global I.ok.kind hg (Calls.loadGlobal_global (by rw [I.ok.glob]; exact I.mod.glob.keeps I.bk) hm h) hd
theorem F9 {E:Value->Shared->Prop} {pins:List (Addr × Obj)} {s:Shared} {σ:St} {H:Hp} {x:Str} {u:Value} {pos:Pos} {Q:Value->Shared->Prop} (I:An X pins σ H s) (hg:Gl X x) (hm:X.mg x=none) (hv:bootBuiltins x=some u) (h:Q u s)
  (hn:x ≠ "__name__":=by decide) (hd:(x == ("__debug__":Str))=false:=by decide):wpAny (model X.prog X.w) X.A (eval (.Name x pos) X.env) Q E s:=by
 obtain ⟨mb,h1,h2⟩:=I.mod.blt;exact Calls.Name_function_global I.ok.kind hg (Calls.loadGlobal_builtin (by rw [I.ok.glob]; exact I.mod.glob.keeps I.bk) hm (by rw [I.ok.blt]; exact h1.keeps I.bk) ((h2 x hn).trans hv) h) hd
variable {a b:Expr} {ta tb:TE} {pos:Pos}
def PC (X:Cx) (op:CmpOp) (a b:Expr) (t:TE):Prop:=
 ∀ ⦃pins:List (Addr × Obj)⦄ (s:Shared) (σ:St) (H:Hp) (Q:VK),An X pins σ H s->t σ H Q ->
  wpAny (model X.prog X.w) X.A (eval a X.env) (fun v AS=>wpAny (model X.prog X.w) X.A (eval b X.env) (fun u EU=>wpAny (model X.prog X.w) X.A (compareOp op v u) (EP X pins σ Q) X.xe EU) X.xe AS) X.xe s
theorem O4 (b:Expr) {op:CmpOp} (h:op ≠ .In) (h2:op ≠ .NotIn):behindInMarks op b=false:=by
 have e1:(op == CmpOp.In)=false:=by cases op <;> first | rfl | exact absurd rfl h
 have e2:(op == CmpOp.NotIn)=false:=by cases op <;> first | rfl | exact absurd rfl h2
 cases b <;> simp [behindInMarks,e1,e2]
def tIsN (ta:TE):TE:=fun σ H Q=>ta σ H fun x H1=>Q (.bl (decide (x=.non))) H1
def tNotN (ta:TE):TE:=fun σ H Q=>ta σ H fun x H1=>Q (.bl (!decide (x=.non))) H1
theorem Az.none_iff {x:V} {v:Value} (r:Az x v):(v == Value.none)=decide (x=.non):=by
 cases x with
 | non=>cases r; rfl
 | bl _=>cases r; rfl
 | int _=>obtain ⟨t,rfl⟩:=r; rfl
 | str _=>obtain ⟨t,rfl⟩:=r; rfl
 | byt _=>obtain ⟨t,rfl⟩:=r; rfl
 | flt _=>obtain ⟨t,rfl⟩:=r; rfl
 | ref _=>cases r; rfl
 | ty _=>cases r; rfl
theorem KA {j pos'} (ha:PE X a ta):PC X .Is a (.Constant .none j pos') (tIsN ta):=by
 intro pins s σ H Q I h;refine BF (ha (pins:=pins) s σ H _ I h) fun v s1 ⟨x,H1,I1,r1,q1⟩=>?_
 exact Constant_none (is_none_gen ⟨.bl _,H1,I1,by rw [r1.none_iff]; rfl,q1⟩)
theorem LK {j pos'} (ha:PE X a ta):PC X .IsNot a (.Constant .none j pos') (tNotN ta):=by
 intro pins s σ H Q I h;refine BF (ha (pins:=pins) s σ H _ I h) fun v s1 ⟨x,H1,I1,r1,q1⟩=>?_
 exact Constant_none (isnot_none_gen ⟨.bl _,H1,I1,by rw [r1.none_iff]; rfl,q1⟩)
def tB (t:TE):TT:=fun σ H Q=>t σ H fun x H1=>∃ c,x=.bl c/\Q c H1
theorem EA {op:CmpOp} {t:TE} (h:PC X op a b t) (h1:behindInMarks op b=false:=by first | exact O4 _ (by decide) (by decide) | rfl):PT X (.Compare a [op] [b] pos) (tB t):=by
 intro pins s σ H Q I hw;refine wpAny_isTrue_Compare1 (BF (h (pins:=pins) s σ H _ I hw) fun v s1 h1=>BF h1 fun u s2 h2=>BF h2 fun c s3 ⟨x,H1,I1,r1,q1⟩=>?_) h1;obtain ⟨d,rfl,q⟩:=q1;cases r1
 exact wpAny_truthy_bool ⟨H1,I1,q⟩
theorem Oj {e:Expr} {t:TE} (h:PE X e t) (he:∀ whole,isTrue e X.env whole=(do let v <- whole; standAt e.pos; holding [v] (truthy v)):=by intro _; rfl):PT X e (tB t):=by
 intro pins s σ H Q I hw;refine isTrue_plain (BF (h (pins:=pins) s σ H _ I hw) fun v s1 ⟨x,H1,I1,r1,q1⟩=>?_) (he _);obtain ⟨d,rfl,q⟩:=q1;cases r1
 exact wpAny_truthy_bool ⟨H1,I1,q⟩
variable {tA U2:TT} {By:List Expr}
def tAnd (t u:TT):TT:=fun σ H Q=>t σ H fun c H1=>if c=true then u σ H1 Q else Q false H1
def tOr (t u:TT):TT:=fun σ H Q=>t σ H fun c H1=>if c=true then Q true H1 else u σ H1 Q
def tNot (t:TT):TT:=fun σ H Q=>t σ H fun c H1=>Q (!c) H1
theorem LC (ha:PT X a tA):PW X (.BoolOp .And [a] pos) tA:=by
 intro wh pins s σ H Q I h;refine isTrue_and (BF (ha (pins:=pins) s σ H Q I h) fun c s1 e=>?_);cases c with
 | true=>exact isTrue_and_nil e
 | false=>exact e
theorem K7 (ha:PT X a tA):PW X (.BoolOp .Or [a] pos) tA:=by
 intro wh pins s σ H Q I h;refine isTrue_or (BF (ha (pins:=pins) s σ H Q I h) fun c s1 e=>?_);cases c with
 | false=>exact isTrue_or_nil e
 | true=>exact e
theorem K8 (ha:PT X a tA) (hb:PW X (.BoolOp .And (b :: By) pos) U2):PW X (.BoolOp .And (a :: b :: By) pos) (tAnd tA U2):=by
 intro wh pins s σ H Q I h;refine isTrue_and (BF (ha (pins:=pins) s σ H _ I h) fun c s1 ⟨H1,I1,q1⟩=>?_);cases c with
 | true=>exact hb (whole:=wh) (pins:=pins) s1 σ H1 Q I1 q1
 | false=>exact ⟨H1,I1,q1⟩
theorem Og (ha:PT X a tA) (hb:PW X (.BoolOp .Or (b :: By) pos) U2):PW X (.BoolOp .Or (a :: b :: By) pos) (tOr tA U2):=by
 intro wh pins s σ H Q I h;refine isTrue_or (BF (ha (pins:=pins) s σ H _ I h) fun c s1 ⟨H1,I1,q1⟩=>?_);cases c with
 | true=>exact ⟨H1,I1,q1⟩
 | false=>exact hb (whole:=wh) (pins:=pins) s1 σ H1 Q I1 q1
theorem RP (ha:PT X a tA):PT X (.UnaryOp .Not a pos) (tNot tA):=by
 intro pins s σ H Q I h;exact isTrue_not (ha (pins:=pins) s σ H (fun c H1=>Q (!c) H1) I h)
def tIf (t:TT) (ta tb:TE):TE:=fun σ H Q=>t σ H fun c H1=>if c=true then ta σ H1 Q else tb σ H1 Q
theorem Ot {c:Expr} (hc:PT X c tA) (ha:PE X a ta) (hb:PE X b tb):PE X (.IfExp c a b pos) (tIf tA ta tb):=by
 intro pins s σ H Q I h;refine wpAny_IfExp (BF (hc (pins:=pins) s σ H _ I h) fun d s1 ⟨H1,I1,q1⟩=>?_);cases d with
 | true=>exact ha (pins:=pins) s1 σ H1 Q I1 q1
 | false=>exact hb (pins:=pins) s1 σ H1 Q I1 q1
end
def AD (K:Wm) (H:Hp) (a:Addr) (xs:List V):Prop:=
 Rd H a (.lst xs) \/
  ∃ (o:Obj) (Aw:Array Value) (n:Nat),K.lookup a=some o/\o.cls=.type "list"/\o.dict=none/\o.data=.seq Aw n/\Aw.size<=sizeLine/\A7 xs Aw.toList
def AG (K:Wm) (H:Hp) (a:Addr) (xs:List V):Prop:=
 Rd H a (.tup xs) \/
  ∃ (o:Obj) (Aw:Array Value) (n:Nat),K.lookup a=some o/\o.cls=.type "tuple"/\o.data=.seq Aw n/\Aw.size<=sizeLine/\A7 xs Aw.toList
def absV:Value->Option V
 | .none=>some .non
 | .bool b=>some (.bl b)
 | .int i _=>some (.int i)
 | .str x _=>some (.str x)
 | .bytes b _=>some (.byt b)
 | .float b _=>some (.flt b)
 | .ref a=>some (.ref a)
 | .type n=>some (.ty n)
 | _=>none
theorem Az.abs {x:V} {u:Value} (r:Az x u):absV u=some x:=by
 cases x with
 | non=>cases r; rfl
 | bl _=>cases r; rfl
 | int _=>obtain ⟨t,rfl⟩:=r; rfl
 | str _=>obtain ⟨t,rfl⟩:=r; rfl
 | byt _=>obtain ⟨t,rfl⟩:=r; rfl
 | flt _=>obtain ⟨t,rfl⟩:=r; rfl
 | ref _=>cases r; rfl
 | ty _=>cases r; rfl
theorem Az.inj {x y:V} {u:Value} (r:Az x u) (q:Az y u):x=y:=WA.inj (r.abs.symm.trans q.abs)
theorem A7.inj:∀ {xs ys:List V} {us:List Value},A7 xs us->A7 ys us->xs=ys
 | _,_,_,.nil,.nil=>rfl
 | _,_,_,.cons r t,.cons r' t'=>by rw [r.inj r',A7.inj t t']
section
variable {X:Cx} {pins:List (Addr × Obj)} {σ:St} {H:Hp} {s:Shared} {a:Addr} {xs ys:List V}
theorem AD.of {K:Wm} (h:H a=some (.lst xs)):AD K H a xs:=.inl (.inl h)
theorem AG.of {K:Wm} (h:H a=some (.tup xs)):AG K H a xs:=.inl (.inl h)
theorem An.list (I:An X pins σ H s) (h:AD X.K H a xs):∃ Aw:List Value,A7 xs Aw/\PlainL s.heap a Aw.toArray/\xs.length<=sizeLine:=by
 rcases h with h | ⟨o,Aw,n,hk,hc,hd,hs,hz,r⟩
 ·obtain ⟨z,Aw,n,r,e⟩:=h.ok I.hok;exact ⟨Aw,r,⟨_,n,e,rfl,rfl,rfl⟩,z⟩
 ·exists Aw.toList,r,⟨o,n,I.kIn a o hk,hc,hd,by simpa using hs⟩
  have e:=r.length;simp only [WL] at e;lia
theorem An.tuple (I:An X pins σ H s) (h:AG X.K H a xs):∃ Aw:List Value,A7 xs Aw/\IsTup s.heap a Aw.toArray/\xs.length<=sizeLine:=by
 rcases h with h | ⟨o,Aw,n,hk,hc,hs,hz,r⟩
 ·obtain ⟨z,Aw,r,p,_⟩:=h.ok I.hok;exact ⟨Aw,r,p,z⟩
 ·exists Aw.toList,r,⟨o,I.kIn a o hk,hc,n,by simpa using hs⟩
  have e:=r.length;simp only [WL] at e;lia
theorem An.list_inj (I:An X pins σ H s) (h:AD X.K H a xs) (h':AD X.K H a ys):xs=ys:=by
 obtain ⟨Aw,r,⟨o,n,e,_,_,d⟩,_⟩:=I.list h;obtain ⟨its',r',⟨o',n',e',_,_,d'⟩,_⟩:=I.list h';rw [e] at e'; cases e';rw [d] at d';injection d' with d1 _;have:Aw=its':=by simpa using congrArg Yv d1
 subst this;exact r.inj r'
theorem An.tuple_inj (I:An X pins σ H s) (h:AG X.K H a xs) (h':AG X.K H a ys):xs=ys:=by
 obtain ⟨Aw,r,⟨o,e,_,n,d⟩,_⟩:=I.tuple h;obtain ⟨its',r',⟨o',e',_,n',d'⟩,_⟩:=I.tuple h';rw [e] at e'; cases e';rw [d] at d';injection d' with d1 _;have:Aw=its':=by simpa using congrArg Yv d1
 subst this;exact r.inj r'
end
abbrev Cx.wish (X:Cx) (E:Value->Shared->Prop):Cx:={ X with xe:=E }
abbrev Cx.nox (X:Cx):Cx:=X.wish fun _ _=>False
theorem Cx.Ok.wish {X:Cx} (ok:X.Ok) (E:Value->Shared->Prop):(X.wish E).Ok:=
 ⟨ok.mod,ok.kind,ok.glob,ok.blt,ok.above,ok.inj,ok.has,ok.cab,ok.hd,ok.frames,ok.stk,ok.exf,ok.bs,ok.bsz,ok.noex,ok.exfs,ok.funs,ok.frf⟩
theorem Cx.Ok.unwish {X:Cx} {E:Value->Shared->Prop} (ok:(X.wish E).Ok):X.Ok:=
 ⟨ok.mod,ok.kind,ok.glob,ok.blt,ok.above,ok.inj,ok.has,ok.cab,ok.hd,ok.frames,ok.stk,ok.exf,ok.bs,ok.bsz,ok.noex,ok.exfs,ok.funs,ok.frf⟩
section
variable {X:Cx} {pins:List (Addr × Obj)} {σ:St} {H:Hp} {s:Shared} {E:Value->Shared->Prop}
theorem An.wish (I:An X pins σ H s) (E:Value->Shared->Prop):An (X.wish E) pins σ H s:=⟨I.ok.wish E,I.os,I.bare,I.base,I.loc,I.cell,I.free,I.freeC,I.pin,I.hok,I.len⟩
theorem An.unwish (I:An (X.wish E) pins σ H s):An X pins σ H s:=⟨I.ok.unwish,I.os,I.bare,I.base,I.loc,I.cell,I.free,I.freeC,I.pin,I.hok,I.len⟩
theorem SP.unwish {D:DN} {f:Flow} {s':Shared} (h:SP (X.wish E) pins D f s'):SP X pins D f s':=by
 cases f with
 | next=>obtain ⟨Aq,H',I,q⟩:=h; exact ⟨Aq,H',I.unwish,q⟩
 | brk=>obtain ⟨Aq,H',I,q⟩:=h; exact ⟨Aq,H',I.unwish,q⟩
 | cont=>obtain ⟨Aq,H',I,q⟩:=h; exact ⟨Aq,H',I.unwish,q⟩
 | ret u=>obtain ⟨v,Aq,H',I,r,q⟩:=h; exact ⟨v,Aq,H',I.unwish,r,q⟩
theorem PE.nox {e:Expr} {t:TE} (h:PE X.nox e t):PE X e t:=fun pins s σ H Q I hw=>
 wpAny_mono (h (pins:=pins) s σ H Q (I.wish _) hw) (fun _ _ ⟨v,H',I',r,q⟩=>⟨v,H',I'.unwish,r,q⟩) fun _ _ z=>False.elim z
theorem Jv.nox {st:List Stmt} {t:TS} (h:Jv X.nox st t):Jv X st t:=fun pins s σ H D I hw=>
 wpAny_mono (h (pins:=pins) s σ H D (I.wish _) hw) (fun _ _ q=>q.unwish) fun _ _ z=>False.elim z
end
section
variable {X:Cx} {st:Stmt} {By:List Stmt} {t u:TS} {e:Expr} {te:TE} {pos:Pos}
def tNext:TS:=fun D σ H=>D.nx σ H
def tSeq (t u:TS):TS:=fun D σ H=>t { D with nx:=u D } σ H
theorem BC:Jv X [] tNext:=fun _ _ σ H _ I h=>wpAny_execs_nil ⟨σ,H,I,h⟩
theorem Af (h1:PS X st t) (h2:Jv X By u):Jv X (st :: By) (tSeq t u):=by
 intro pins s σ H D I h;refine wpAny_execs_cons (BF (h1 (pins:=pins) s σ H { D with nx:=u D } I h) fun f s1 q=>?_);cases f with
 | next=>
  obtain ⟨Aq,H',I',q⟩:=q;exact h2 (pins:=pins) s1 Aq H' D I' q
 | ret v=>exact q
 | brk=>exact q
 | cont=>exact q
theorem Ak (h1:PS X st t):Jv X [st] t:=by
 intro pins s σ H D I h;refine wpAny_execs_cons (BF (h1 (pins:=pins) s σ H D I h) fun f s1 q=>?_);cases f with
 | next=>exact wpAny_execs_nil q
 | ret v=>exact q
 | brk=>exact q
 | cont=>exact q
theorem An.quiet {pins:List (Addr × Obj)} {σ:St} {H:Hp} {s:Shared} (I:An X pins σ H s):interactive X.env=false:=by simp [interactive,I.ok.kind]
def tDrop (te:TE):TS:=fun D σ H=>te σ H fun _ H1=>D.nx σ H1
theorem Fg (he:PE X e te) (hs:swapsWith e none pos.line X.env=pure false:=by rfl):PS X (.Expr e pos) (tDrop te):=by
 intro pins s σ H D I h;exact wpAny_Expr_any (BF (he (pins:=pins) s σ H _ I h) fun v s1 ⟨x,H1,I1,r1,q1⟩=>⟨σ,H1,I1,q1⟩) I.quiet hs
def tRet (te:TE):TS:=fun D σ H=>te σ H D.rt
theorem AM (he:PE X e te):PS X (.Return (some e) pos) (tRet te):=by
 intro pins s σ H D I h;exact wpAny_Return_some (BF (he (pins:=pins) s σ H _ I h) fun v s1 ⟨x,H1,I1,r1,q1⟩=>⟨x,σ,H1,I1,r1,q1⟩)
def tIfS (c:TT) (t u:TS):TS:=fun D σ H=>c σ H fun b H1=>if b=true then t D σ H1 else u D σ H1
theorem CK {c:Expr} {a b:List Stmt} {tc:TT} (hc:PT X c tc) (ha:Jv X a t) (hb:Jv X b u):PS X (.If c a b pos) (tIfS tc t u):=by
 intro pins s σ H D I h;refine wpAny_If (BF (hc (pins:=pins) s σ H _ I h) fun d s1 ⟨H1,I1,q1⟩=>?_);cases d with
 | true=>exact ha (pins:=pins) s1 σ H1 D I1 q1
 | false=>exact hb (pins:=pins) s1 σ H1 D I1 q1
def RF:TS:=fun _ _ _=>False
theorem Mz {sts:List Stmt}:Jv X sts RF:=fun _ _ _ _ _ _ h=>h.elim
end
abbrev TG:=V->St->Hp->(St->Hp->Prop)->Prop
abbrev Rv:=List V->St->Hp->(St->Hp->Prop)->Prop
def PG (X:Cx) (target:Expr) (t:TG):Prop:=
 ∀ ⦃pins:List (Addr × Obj)⦄ (s:Shared) (σ:St) (H:Hp) (v:V) (u:Value) (Q:St->Hp->Prop),An X pins σ H s->Az v u->t v σ H Q ->
  wpAny (model X.prog X.w) X.A (assign target X.env u) (fun _ s'=>∃ Aq H',An X pins Aq H' s'/\Q Aq H') X.xe s
def PGs (X:Cx) (ts:List Expr) (t:Rv):Prop:=
 ∀ ⦃pins:List (Addr × Obj)⦄ (s:Shared) (σ:St) (H:Hp) (vs:List V) (us:List Value) (Q:St->Hp->Prop),An X pins σ H s->A7 vs us->t vs σ H Q ->
  wpAny (model X.prog X.w) X.A (assignInOrder ((assignEach ts X.env).map (·.2)) us) (fun _ s'=>∃ Aq H',An X pins Aq H' s'/\Q Aq H') X.xe s
abbrev SJ:=V->V->V->Hp->(Hp->Prop)->Prop
def PSet (X:Cx) (t:SJ):Prop:=
 ∀ ⦃pins:List (Addr × Obj)⦄ (s:Shared) (σ:St) (H:Hp) (o i v:V) (ov iv u:Value) (Q:Hp->Prop),An X pins σ H s->Az o ov->Az i iv->Az v u->t o i v H Q ->
  wpAny (model X.prog X.w) X.A (setItem ov iv u) (fun _ s'=>∃ H',An X pins σ H' s'/\Q H') X.xe s
section
variable {X:Cx} {pos:Pos}
def Mc (i:Nat):TG:=fun v σ H Q=>Q (σ.set i (some v)) H
theorem Ai {i:Nat} {x:Str} (hN:X.N.Nodup) (hi:X.N[i]? = some x) (hx:To X.env.scope x) (hf:X.fn x=true\/X.env.scope.names.lookup x=some .local:=by first | exact .inl rfl | exact .inr rfl | assumption):PG X (.Name x pos) (Mc i):=by
 intro pins s σ H v u Q I r h;exact wpAny_assign_Name (JC I hN hi hx r (fun s' I'=>⟨_,H,I',h⟩) hf)
def gNil:Rv:=fun vs σ H Q=>vs=[]/\Q σ H
def gCons (t:TG) (u:Rv):Rv:=fun vs σ H Q=>∃ v r,vs=v :: r/\t v σ H fun Aq H'=>u r Aq H' Q
theorem Bu:PGs X [] gNil:=by
 intro pins s σ H vs us Q I r h;obtain ⟨e,h⟩:=h;subst e;cases r
 exact assignInOrder_nil ⟨σ,H,I,h⟩
theorem Am {e:Expr} {es:List Expr} {t:TG} {u:Rv} (h1:PG X e t) (h2:PGs X es u)
  (hs:(assignEach (e :: es) X.env).map (·.2)=assign e X.env :: (assignEach es X.env).map (·.2):=by rfl):PGs X (e :: es) (gCons t u):=by
 intro pins s σ H vs us Q I r h;obtain ⟨v,vr,e1,h⟩:=h;subst e1;cases r with
 | cons r rr=>
  rw [hs];refine assignInOrder_cons (BF (h1 (pins:=pins) s σ H _ _ _ I r h) fun _ s1 ⟨SQ,H1,I1,q1⟩=>?_);exact h2 (pins:=pins) s1 SQ H1 _ _ Q I1 rr q1
def gTup (K:Wm) (n:Nat) (t:Rv):TG:=fun v σ H Q=>∃ a xs,v=.ref a/\AG K H a xs/\xs.length=n/\t xs σ H Q
theorem RS {es:List Expr} {k:Nat} {t:Rv} {n:Nat} (hc:X.calm=true) (h:PGs X es t)
  (hn:(assignEach es X.env).length=n:=by rfl) (hst:(assignEach es X.env).findIdx? (·.1)=none:=by rfl):PG X (.Tuple es k pos) (gTup X.K n t):=by
 intro pins s σ H v u Q I r hw;obtain ⟨a,xs,e1,hq,hl,hw⟩:=hw;subst e1;cases r
 obtain ⟨Aw,rv,ht,hz⟩:=I.tuple hq;refine assign_Tuple_tuple (I.ok.hd hc) ht (by simp [hn,<-hl,rv.length]) hst fun h' hx=>?_
 have I1:An X pins σ H { s with heap:=h' }:=I.kept (t':=s.toks) fun b o e=>hx b o (W6 (Wr e)) e
 exact h (pins:=pins) _ σ H xs _ Q I1 (by simpa using rv) hw
def gSub (to ti:TE) (t:SJ):TG:=fun v σ H Q=>to σ H fun o H1=>ti σ H1 fun i H2=>t o i v H2 fun H3=>Q σ H3
theorem K9 {o i:Expr} {to ti:TE} {t:SJ} (ho:PE X o to) (hi:PE X i ti) (hs:PSet X t)
  (ha:∀ v,assign (.Subscript o i pos) X.env v=(do
   let ov <- holding [v] (eval o X.env)
   let iv <- holding [v,ov] (eval i X.env)
   standAt pos
   holding [v,ov,iv] (setItem ov iv v)
   release [v,ov,iv] []):=by intro _; rfl):PG X (.Subscript o i pos) (gSub to ti t):=by
 intro pins s σ H v u Q I r h;rw [ha];refine wpAny_bind (wpAny_holding (BF (ho (pins:=pins) s σ H _ I h) fun ov s1 ⟨x,H1,I1,r1,q1⟩=>?_));refine wpAny_bind (wpAny_holding (BF (hi (pins:=pins) s1 σ H1 _ I1 q1) fun iv s2 ⟨y,H2,I2,r2,q2⟩=>?_));refine wpAny_bind (wpAny_standAt (wpAny_bind (wpAny_holding (BF (hs (pins:=pins) s2 σ H2 x y v ov iv u _ I2 r1 r2 r q2) fun _ s3 ⟨H3,I3,q3⟩=>?_))));exact wpAny_release ⟨σ,H3,I3,q3⟩
def Qf (te:TE) (g:TG):TS:=fun D σ H=>te σ H fun x H1=>g x σ H1 D.nx
theorem DU {tg e:Expr} {te:TE} {g:TG} (he:PE X e te) (hg:PG X tg g) (hs:swapsWithSole [tg] e pos.line X.env=pure false:=by rfl) (hw:swappedStores [tg] e X.env=pure none:=by rfl)
  (h1:(assignEach [tg] X.env).map (·.2)=[assign tg X.env]:=by rfl):PS X (.Assign [tg] e pos) (Qf te g):=by
 intro pins s σ H D I h;refine wpAny_Assign_stores (BF (he (pins:=pins) s σ H _ I h) fun v s1 ⟨x,H1,I1,r1,q1⟩=>?_) hs hw;rw [h1];exact BF (hg (pins:=pins) s1 σ H1 x v _ I1 r1 q1) fun _ s2 q=>q
theorem Ap {i:Nat} {x:Str} {e:Expr} {te:TE} {pos':Pos} (hN:X.N.Nodup) (hi:X.N[i]? = some x) (hx:To X.env.scope x) (he:PE X e te) (hs:swapsWith e (some (.Name x pos')) pos.line X.env=pure false:=by rfl) (hf:X.fn x=true\/X.env.scope.names.lookup x=some .local:=by first | exact .inl rfl | exact .inr rfl | assumption) :
  PS X (.Assign [.Name x pos'] e pos) (Qf te (Mc i)):=by
 intro pins s σ H D I h;refine wpAny_Assign_Name (BF (he (pins:=pins) s σ H _ I h) fun v s1 ⟨y,H1,I1,r1,q1⟩=>?_) hs;exact JC I1 hN hi hx r1 (fun s2 I2=>⟨_,H1,I2,q1⟩) hf
end
section
variable {X:Cx} {pos:Pos}
def RD (c:TT) (tb:TS):TS:=fun D σ H=>∃ W:Nat->St->Hp->Prop,(∃ m,W m σ H)/\∀ m σ H,W m σ H ->
 c σ H fun b H1=>if b=true then ∃ N:St->Hp->Prop,(∀ Aq H',N Aq H'->∃ m',m' < m/\W m' Aq H')/\tb { D with nx:=N,ct:=N,bk:=D.nx } σ H1 else D.nx σ H1
theorem Om {c:Expr} {body:List Stmt} {tc:TT} {tb:TS} (hp:PassesOwn (model X.prog X.w) X.A X.env X.xe) (hc:PT X c tc) (hb:Jv X body tb):PS X (.While c body [] pos) (RD tc tb):=by
 intro pins s σ H D I h;obtain ⟨W,⟨m0,w0⟩,turn⟩:=h;refine wpAny_While (codeAny_whileLoop (fun n s'=>∃ Aq H',An X pins Aq H' s'/\W n Aq H') ?_ m0 ⟨σ,H,I,w0⟩);rintro n s1 ⟨SQ,H1,I1,w1⟩;refine wpAny_passesOwn hp (BF (hc (pins:=pins) s1 SQ H1 _ I1 (turn n SQ H1 w1)) fun b s2 ⟨H2,I2,q2⟩=>?_);cases b with
 | true=>
  obtain ⟨N,hN,q2⟩:=q2;rw [if_pos rfl];refine wpAny_passesOwn hp (BF (hb (pins:=pins) s2 SQ H2 _ I2 q2) fun f s3 q3=>?_);cases f with
  | next=>
   obtain ⟨Km,H3,I3,n3⟩:=q3;obtain ⟨m',hm,w3⟩:=hN Km H3 n3;exact ⟨m',hm,Km,H3,I3,w3⟩
  | cont=>
   obtain ⟨Km,H3,I3,n3⟩:=q3;obtain ⟨m',hm,w3⟩:=hN Km H3 n3;exact ⟨m',hm,Km,H3,I3,w3⟩
  | brk=>exact q3
  | ret v=>exact q3
 | false=>
  rw [if_neg W8];exact wpAny_execs_nil ⟨SQ,H2,I2,q2⟩
end
structure It where
 go:Nat->Hp->Prop
 yld:Nat->Hp->V->Hp->Prop
 stop:Nat->Hp->Prop
def CN (X:Cx) (pins:List (Addr × Obj)) (H:Hp) (b:Addr):Prop:=
 H b=none/\b ≠ X.env.locals/\b ∉ X.fs/\(b ∈ X.ex\/X.s₀.heap.objs.size<=b)/\(∀ x c,X.env.cells.lookup x=some c->c ≠ b)/\∀ p ∈ X.pn ++ pins,p.1 ≠ b
theorem An.fpOk {X:Cx} {pins:List (Addr × Obj)} {σ:St} {H H':Hp} {s:Shared} {b:Addr} (I:An X pins σ H s) (hb:s.heap.objs.size<=b) (hn:H' b=none):CN X pins H' b:=by
 refine ⟨hn,Xa (Ws I.lt hb),I.nofs hb,.inr (WJ I.sz hb),fun x c e z=>?_,fun p hp z=>?_⟩
 ·obtain ⟨v,q⟩:=I.cell x c e;exact absurd (Ws q.lt (by rw [z]; exact hb)) (WT _)
 ·exact absurd (Ws (Wr (I.pin p hp).1) (by rw [z]; exact hb)) (WT _)
structure Pp (P:Program) (w:World) (K:Wm) (tg:Expr) (J:It) (fp:List Addr) (it:Addr) (tn:Nat->Heap->Prop):Prop where
 mem:it ∈ fp
 obj:∀ i h,tn i h->∀ b ∈ fp,∃ o,h.get? b=some o/\∀ v,o.data ≠ .cell v
 keep:∀ i h h',tn i h->(∀ b ∈ fp,∀ o,h.get? b=some o->h'.get? b=some o)->tn i h'
 item:∀ (X:Cx),X.prog=P->X.w=w->X.K=K->X.calm=true->∀ (i:Nat) (pins:List (Addr × Obj)) (s:Shared) (σ:St) (H:Hp) (E:Value->Shared->Prop),An X pins σ H s->(∀ b ∈ fp,CN X pins H b)->tn i s.heap->J.go i H ->
  wpAny (model P w) X.A (pyNext (.ref it)) (fun r s1=>∃ u,r=some u /\
   wpAny (model P w) X.A (letOwnedTupleGo tg (.ref it) u) (fun _ s2=>∃ x H',An X pins σ H' s2/\Az x u/\J.yld i H x H'/\tn (i + 1) s2.heap/\∀ b ∈ fp,H' b=none) E s1) E s
 done:∀ (X:Cx),X.prog=P->X.w=w->X.K=K->X.calm=true->∀ (i:Nat) (pins:List (Addr × Obj)) (s:Shared) (σ:St) (H:Hp) (E:Value->Shared->Prop),An X pins σ H s->(∀ b ∈ fp,CN X pins H b)->tn i s.heap->J.stop i H ->
  wpAny (model P w) X.A (pyNext (.ref it)) (fun r s1=>r=none/\An X pins σ H s1) E s
 self:∀ (A:Around) (i:Nat) (s:Shared) (Q:Value->Shared->Prop) (E:Value->Shared->Prop),tn i s.heap->Q (.ref it) s->wpAny (model P w) A (pyIter (.ref it)) Q E s
abbrev TI:=St->Hp->(It->Hp->Prop)->Prop
def PIE (X:Cx) (pins:List (Addr × Obj)) (σ:St) (tg:Expr) (R:It->Hp->Prop) (itv:Value) (s2:Shared):Prop:=
 ∃ (it:Addr) (fp:List Addr) (tn:Nat->Heap->Prop) (J:It) (H':Hp),itv=.ref it/\An X pins σ H' s2/\Pp X.prog X.w X.K tg J fp it tn/\tn 0 s2.heap/\(∀ b ∈ fp,CN X pins H' b)/\R J H'
def PI (X:Cx) (tg iter:Expr) (wi:TI):Prop:=
 ∀ ⦃pins:List (Addr × Obj)⦄ (s:Shared) (σ:St) (H:Hp) (R:It->Hp->Prop),An X pins σ H s->wi σ H R ->
  wpAny (model X.prog X.w) X.A (eval iter X.env) (fun v s1=>wpAny (model X.prog X.w) X.A (pyIter v) (PIE X pins σ tg R) X.xe s1) X.xe s
theorem Mb {M:Model} {A:Around} {E:Value->Shared->Prop} {s:Shared} {tg:Expr} {it:Addr} {u:Value} {o:Obj} {n:String} {vs:Array Value} {Q:Unit->Shared->Prop} (ho:s.heap.get? it=some o) (hc:o.cls=.type n) (hd:o.data=.fields vs)
  (hn:["enumerate","zip","dict_itemiterator","dict_reverseitemiterator","odict_iterator","itertools.zip_longest","itertools.pairwise"].contains n=false) (hQ:Q () s):wpAny M A (letOwnedTupleGo tg (.ref it) u) Q E s:=by
 unfold letOwnedTupleGo;cases tg <;> first
  | exact wpAny_pure hQ
  | (cases u <;> first
    | exact wpAny_pure hQ
    | (refine wpAny_bind (wpAny_load ho ?_)
       rw [hc,hd];show wpAny M A (if (["enumerate","zip","dict_itemiterator","dict_reverseitemiterator","odict_iterator","itertools.zip_longest","itertools.pairwise"].contains n && vs[0]? == some (rawInt _))=true then _ else _) Q E s
       rw [if_neg (by intro h; rw [hn,Bool.false_and] at h; cases h)];exact wpAny_pure hQ))
def QZ (K:Wm) (a:Addr):It:=
 ⟨fun i H=>∃ xs x,AD K H a xs/\xs[i]? = some x,fun i H x H'=>H'=H/\∀ xs,AD K H a xs->xs[i]? = some x,fun i H=>∃ xs,AD K H a xs/\xs.length<=i⟩
def Nv (K:Wm) (a:Addr):It:=
 ⟨fun i H=>∃ xs x,AG K H a xs/\xs[i]? = some x,fun i H x H'=>H'=H/\∀ xs,AG K H a xs->xs[i]? = some x,fun i H=>∃ xs,AG K H a xs/\xs.length<=i⟩
def Nn (lo:Int) (n:Nat):It:=⟨fun i _=>i < n,fun i H x H'=>H'=H/\x=.int (lo + i),fun i _=>n<=i⟩
theorem Mo {P:Program} {w:World} {K:Wm} {tg:Expr} (a it:Addr):Pp P w K tg (QZ K a) [it] it (fun i h=>h.IsListIter it a i) where
 mem:=by simp
 obj:=fun i h st b hb=>by
  have e:b=it:=by simpa using hb
  subst e;obtain ⟨o,e,c,d⟩:=st;exact ⟨o,e,fun v z=>by rw [d] at z; cases z⟩
 keep:=fun i h h' st k=>st.at fun o e=>k it (by simp) o e
 item:=by
  intro X hP hw hK hc i pins s σ H E I hf st hg;subst hP hw hK;obtain ⟨xs,x,hq,hx⟩:=hg;obtain ⟨Aw,rv,p,hz⟩:=I.list hq;obtain ⟨u,hu,ru⟩:=rv.get hx;obtain ⟨f0,f1,f2,f3,f4,f5⟩:=hf it (by simp);refine wpAny_pyNext_list_item st p.isList (x:=u) (by simpa using hu) fun h' Ay sb=>?_
  have I1:An X pins σ H { s with heap:=h' }:=I.turned (t':=s.toks) (fun b o hb e=>(sb.2 b hb).trans e) f0 f1 f3 f4 f5;obtain ⟨o,e,c,d⟩:=id Ay;exact ⟨u,rfl,Mb (s:={ s with heap:=h' }) e c d (by decide) ⟨x,H,I1,ru,⟨rfl,fun ys hy=>by rw [I.list_inj hy hq]; exact hx⟩,Ay,fun b hb=>(hf b hb).1⟩⟩
 done:=by
  intro X hP hw hK hc i pins s σ H E I hf st hg;subst hP hw hK;obtain ⟨xs,hq,hx⟩:=hg;obtain ⟨Aw,rv,p,hz⟩:=I.list hq;obtain ⟨f0,f1,f2,f3,f4,f5⟩:=hf it (by simp);have hl:=rv.length;exact wpAny_pyNext_list_end (I.ok.hd hc) st p.isList (by simp; lia) fun h' eb=>⟨rfl,I.turned (t':=s.toks) (fun b o hb e=>eb b o hb e) f0 f1 f3 f4 f5⟩
 self:=fun _ _ _ _ _ st h=>wpAny_pyIter_listiter st h
theorem Ku {P:Program} {w:World} {K:Wm} {tg:Expr} (a it:Addr):Pp P w K tg (Nv K a) [it] it (fun i h=>h.IsTupleIter it a i) where
 mem:=by simp
 obj:=fun i h st b hb=>by
  have e:b=it:=by simpa using hb
  subst e;obtain ⟨o,e,c,d⟩:=st;exact ⟨o,e,fun v z=>by rw [d] at z; cases z⟩
 keep:=fun i h h' st k=>st.at fun o e=>k it (by simp) o e
 item:=by
  intro X hP hw hK hc i pins s σ H E I hf st hg;subst hP hw hK;obtain ⟨xs,x,hq,hx⟩:=hg;obtain ⟨Aw,rv,p,hz⟩:=I.tuple hq;obtain ⟨u,hu,ru⟩:=rv.get hx;obtain ⟨f0,f1,f2,f3,f4,f5⟩:=hf it (by simp);refine wpAny_pyNext_tuple_item st (show s.heap.IsTuple a Aw.toArray from p) (x:=u) (by simpa using hu) fun h' Ay sb=>?_
  have I1:An X pins σ H { s with heap:=h' }:=I.turned (t':=s.toks) (fun b o hb e=>(sb.2 b hb).trans e) f0 f1 f3 f4 f5;obtain ⟨o,e,c,d⟩:=id Ay;exact ⟨u,rfl,Mb (s:={ s with heap:=h' }) e c d (by decide) ⟨x,H,I1,ru,⟨rfl,fun ys hy=>by rw [I.tuple_inj hy hq]; exact hx⟩,Ay,fun b hb=>(hf b hb).1⟩⟩
 done:=by
  intro X hP hw hK hc i pins s σ H E I hf st hg;subst hP hw hK;obtain ⟨xs,hq,hx⟩:=hg;obtain ⟨Aw,rv,p,hz⟩:=I.tuple hq;obtain ⟨f0,f1,f2,f3,f4,f5⟩:=hf it (by simp);have hl:=rv.length;exact wpAny_pyNext_tuple_end (I.ok.hd hc) st (show s.heap.IsTuple a Aw.toArray from p) (by simp; lia) fun h' eb=>⟨rfl,I.turned (t':=s.toks) (fun b o hb e=>eb b o hb e) f0 f1 f3 f4 f5⟩
 self:=fun _ _ _ _ _ st h=>wpAny_pyIter_tupleiter st h
theorem Kv {P:Program} {w:World} {K:Wm} {tg:Expr} (it:Addr) (lo:Int) (n:Nat):Pp P w K tg (Nn lo n) [it] it (fun i h=>IsRangeIter h it (lo + (i:Nat) * 1) ((n:Int) - (i:Nat)) 1) where
 mem:=by simp
 obj:=fun i h st b hb=>by
  have e:b=it:=by simpa using hb
  subst e;exact ⟨_,st,fun v z=>by
   have z':Data.fields _=Data.cell v:=z;cases z'⟩
 keep:=fun i h h' st k=>k it (by simp) _ st
 item:=by
  intro X hP hw hK hc i pins s σ H E I hf st hg;subst hP hw hK;obtain ⟨f0,f1,f2,f3,f4,f5⟩:=hf it (by simp);have W:=Walks.range (prog:=X.prog) (w:=X.w) (I.ok.hd hc) it lo 1 n;refine W.item i s _ _ hg st fun v h' tk hv Ay kk=>?_
  obtain ⟨t,rfl⟩:=hv;have I1:An X pins σ H { s with heap:=h',toks:=tk }:=I.turned (fun b o hb e=>kk b o (by simpa using hb) e) f0 f1 f3 f4 f5;refine ⟨_,rfl,Mb (s:={ s with heap:=h',toks:=tk }) (n:="range_iterator") Ay rfl rfl (by decide) ⟨.int (lo + i),H,I1,⟨t,?_⟩,⟨rfl,rfl⟩,Ay,fun b hb=>(hf b hb).1⟩⟩;rw [Int.mul_one]
 done:=by
  intro X hP hw hK hc i pins s σ H E I hf st hg;subst hP hw hK;obtain ⟨f0,f1,f2,f3,f4,f5⟩:=hf it (by simp);exact wpAny_pyNext_range_end (I.ok.hd hc) st (by have:n<=i:=hg; lia) fun h' eb=>⟨rfl,I.turned (t':=s.toks) (fun b o hb e=>eb b o hb e) f0 f1 f3 f4 f5⟩
 self:=fun _ _ _ _ _ st h=>wpAny_pyIter_rangeiter st h
section
variable {X:Cx} {tg:Expr}
def Ro (K:Wm) (tl:TE):TI:=fun σ H R=>tl σ H fun x H1=>∃ a,x=.ref a/\(∃ xs,AD K H1 a xs)/\R (QZ K a) H1
def iTup (K:Wm) (tl:TE):TI:=fun σ H R=>tl σ H fun x H1=>∃ a,x=.ref a/\(∃ xs,AG K H1 a xs)/\R (Nv K a) H1
theorem Qq {l:Expr} {tl:TE} (hl:PE X l tl):PI X tg l (Ro X.K tl):=by
 intro pins s σ H R I h;refine BF (hl (pins:=pins) s σ H _ I h) fun v s1 ⟨x,H1,I1,r1,q1⟩=>?_
 obtain ⟨a,e,⟨xs,hq⟩,q⟩:=q1;subst e;cases r1
 obtain ⟨Aw,rv,p,hz⟩:=I1.list hq;refine wpAny_pyIter_list p.isList ?_;refine ⟨s1.heap.objs.size,[s1.heap.objs.size],_,_,H1,rfl,I1.kept (t':=s1.toks) fun b o e=>Wl _ e,Mo a _,⟨_,W0 _ rfl,rfl,rfl⟩,fun b hb=>?_,q⟩;have e:b=s1.heap.objs.size:=by simpa using hb
 subst e;exact I1.fpOk (Wq _) (I1.hok.fresh (Wq _))
theorem RR {l:Expr} {tl:TE} (hl:PE X l tl):PI X tg l (iTup X.K tl):=by
 intro pins s σ H R I h;refine BF (hl (pins:=pins) s σ H _ I h) fun v s1 ⟨x,H1,I1,r1,q1⟩=>?_
 obtain ⟨a,e,⟨xs,hq⟩,q⟩:=q1;subst e;cases r1
 obtain ⟨Aw,rv,p,hz⟩:=I1.tuple hq;refine wpAny_pyIter_tuple (show s1.heap.IsTuple a Aw.toArray from p) ?_;refine ⟨s1.heap.objs.size,[s1.heap.objs.size],_,_,H1,rfl,I1.kept (t':=s1.toks) fun b o e=>Wl _ e,Ku a _,⟨_,W0 _ rfl,rfl,rfl⟩,fun b hb=>?_,q⟩;have e:b=s1.heap.objs.size:=by simpa using hb
 subst e;exact I1.fpOk (Wq _) (I1.hok.fresh (Wq _))
theorem JI {pins:List (Addr × Obj)} {σ:St} {H:Hp} {s:Shared} {R:It->Hp->Prop} {E:Value->Shared->Prop} {lo hi:Int} {t u v:Tok} {tk:Nat} (I:An X pins σ H s) (h1:-(2 ^ 62)<=lo) (h2:lo < 2 ^ 62) (h3:-(2 ^ 62)<=hi) (h4:hi < 2 ^ 62)
  (q:R (Nn lo (hi - lo).toNat) H):wpAny (model X.prog X.w) X.A (pyIter (.ref s.heap.objs.size)) (PIE X pins σ tg R) E { s with heap:=s.heap.push { cls:=.type "range",data:=.fields #[.int lo t,.int hi u,.int 1 v] },toks:=tk }:=by
 refine wpAny_pyIter_range (IsRange.new ..) (small_one h1 h2 h3 h4) ?_;have I1:An X pins σ H { s with heap:=s.heap.push { cls:=.type "range",data:=.fields #[.int lo t,.int hi u,.int 1 v] },toks:=tk }:=I.kept fun b o e=>Wl _ e
 refine ⟨(s.heap.push { cls:=.type "range",data:=.fields #[.int lo t,.int hi u,.int 1 v] }).objs.size,[(s.heap.push { cls:=.type "range",data:=.fields #[.int lo t,.int hi u,.int 1 v] }).objs.size],_,_,H,rfl,
  I1.kept (t':=tk) fun b o e=>Wl _ e,Kv _ lo (hi - lo).toNat,?_,fun b hb=>?_,q⟩
 ·have e1:lo + ((0:Nat):Int) * 1=lo:=by simp
  have e2:(((hi - lo).toNat:Nat):Int) - ((0:Nat):Int)=Builtin.Range.rangeSize lo hi 1:=by rw [rangeSize_one]; split <;> lia
  show IsRangeIter _ _ (lo + ((0:Nat):Int) * 1) ((((hi - lo).toNat:Nat):Int) - ((0:Nat):Int)) 1
  rw [e1,e2];exact W0 _ rfl
 ·have e:b=(s.heap.push { cls:=.type "range",data:=.fields #[.int lo t,.int hi u,.int 1 v] }).objs.size:=by simpa using hb
  subst e;exact I1.fpOk (Wq _) (I1.hok.fresh (Wq _))
def iRng1 (ta:TA):TI:=fun σ H R=>ta σ H fun vs H1=>∃ j:Int,vs=[.int j]/\-(2 ^ 62)<=j/\j < 2 ^ 62/\R (Nn 0 j.toNat) H1
def iRng2 (ta:TA):TI:=fun σ H R=>ta σ H fun vs H1=>∃ i j:Int,vs=[.int i,.int j]/\(-(2 ^ 62)<=i/\i < 2 ^ 62/\-(2 ^ 62)<=j/\j < 2 ^ 62)/\R (Nn i (j - i).toNat) H1
theorem CG {a:Expr} {ta:TA} {p pos:Pos} (hg:Gl X "range") (hm:X.mg "range"=none) (ha:PA X [a] ta) (hs:starEach [a] X.env=[(false,eval a X.env)]:=by rfl):PI X tg (.Call (.Name "range" p) [a] [] pos) (iRng1 ta):=by
 intro pins s σ H R I h;refine Call_ (F9 I hg hm boot_range (PyProof.Rows.callWith_type1 (BF (ha (pos:=pos) (pins:=pins) s σ H _ I h) fun us s1 ⟨vs,H1,I1,r1,q1⟩=>?_) hs rfl));obtain ⟨j,e,q1,q2,q⟩:=q1;subst e;cases r1 with
 | cons r rr=>
  cases rr
  obtain ⟨t,rfl⟩:=r;exact call_range_1 (JI I1 (by lia) (by lia) q1 q2 (by simpa using q))
theorem M4 {a b:Expr} {ta:TA} {p pos:Pos} (hg:Gl X "range") (hm:X.mg "range"=none) (ha:PA X [a,b] ta) (hs:starEach [a,b] X.env=[(false,eval a X.env),(false,eval b X.env)]:=by rfl) (hs2:starEach [b] X.env=[(false,eval b X.env)]:=by rfl) :
  PI X tg (.Call (.Name "range" p) [a,b] [] pos) (iRng2 ta):=by
 intro pins s σ H R I h;refine Call_ (F9 I hg hm boot_range (PyProof.Rows.callWith_type1 (BF (ha (pos:=pos) (pins:=pins) s σ H _ I h) fun us s1 ⟨vs,H1,I1,r1,q1⟩=>?_) (by rw [hs,hs2]) (by rw [hs2]; rfl)));obtain ⟨i,j,e,⟨q1,q2,q3,q4⟩,q⟩:=q1;subst e;cases r1 with
 | cons r rr=>
  cases rr with
  | cons r' rr=>
   cases rr
   obtain ⟨t,rfl⟩:=r;obtain ⟨t',rfl⟩:=r';exact call_range_2 (JI I1 q1 q2 q3 q4 q)
def tFor (wi:TI) (g:TG) (tb:TS):TS:=fun D σ H=>wi σ H fun J H1=>∃ W:Nat->Nat->St->Hp->Prop,(∃ m,W 0 m σ H1)/\∀ i m σ H,W i m σ H ->
 (J.stop i H/\D.nx σ H)\/(J.go i H/\∃ N:St->Hp->Prop,(∀ Aq H',N Aq H'->∃ m',m' < m/\W (i + 1) m' Aq H')/\∀ x H',J.yld i H x H'->g x σ H' fun A3 H2=>tb { D with nx:=N,ct:=N,bk:=D.nx } A3 H2)
def Dg (fp:List Addr) (h:Heap):List (Addr × Obj):=fp.filterMap fun b=>(h.get? b).map fun o=>(b,o)
theorem AU {fp:List Addr} {h:Heap} {b:Addr} {o:Obj} (hb:b ∈ fp) (e:h.get? b=some o):(b,o) ∈ Dg fp h:=YD.mpr ⟨b,hb,by rw [e]; rfl⟩
theorem MB {fp:List Addr} {h:Heap} {p:Addr × Obj} (hp:p ∈ Dg fp h):p.1 ∈ fp/\h.get? p.1=some p.2:=by
 obtain ⟨b,hb,e⟩:=YD.mp hp;cases q:h.get? b with
 | none=>rw [q] at e; cases e
 | some o=>
  rw [q] at e;have e':(b,o)=p:=WA.inj e;subst e';exact ⟨hb,q⟩
theorem An.pinned {pins:List (Addr × Obj)} {σ:St} {H:Hp} {s:Shared} {fp:List Addr} (I:An X pins σ H s) (hf:∀ b ∈ fp,CN X pins H b) (ho:∀ b ∈ fp,∃ o,s.heap.get? b=some o/\∀ v,o.data ≠ .cell v):An X (pins ++ Dg fp s.heap) σ H s:=
 I.pins_of fun p hp=>(W9.mp hp).elim (fun z=>I.pin p (Wx _ z)) fun z=>by
  obtain ⟨hb,e⟩:=MB z;obtain ⟨f0,f1,f2,_⟩:=hf p.1 hb;obtain ⟨o,e',d⟩:=ho p.1 hb;rw [e] at e'; cases e';exact ⟨e,f0,f1,f2,d⟩
theorem An.unpinned {pins pl:List (Addr × Obj)} {σ:St} {H:Hp} {s:Shared} (I:An X (pins ++ pl) σ H s):An X pins σ H s:=I.pins_of fun p hp=>I.pin p (Wx _ (WN _ hp))
theorem Bi {iter:Expr} {body:List Stmt} {wi:TI} {g:TG} {tb:TS} {pos:Pos} (hp:PassesOwn (model X.prog X.w) X.A X.env X.xe) (hc:X.calm=true) (hi:PI X tg iter wi) (hg:PG X tg g) (hb:Jv X body tb)
  (hs:∀ x,foldedSetIterable iter X.env x=pure x:=by intro _; rfl):PS X (.For tg iter body [] pos) (tFor wi g tb):=by
 intro pins s σ H D I h;refine wpAny_For (BF (hi (pins:=pins) s σ H _ I h) fun v s1 h1=>BF h1 fun itv s2 h2=>?_) hs;obtain ⟨it,fp,tn,J,H2,e,I2,T,Dm,f2,W,⟨m0,w0⟩,turn⟩:=h2;subst e;have stat:∀ {H':Hp},(∀ b ∈ fp,H' b=none)->∀ b ∈ fp,CN X pins H' b:=fun hn b hb=>⟨hn b hb,(f2 b hb).2⟩
 refine codeAny_forLoop_any (fun n s'=>∃ i Aq H',An X pins Aq H' s'/\tn i s'.heap/\(∀ b ∈ fp,H' b=none)/\W i n Aq H') ?_ m0 ⟨0,σ,H2,I2,Dm,fun b hb=>(f2 b hb).1,w0⟩;rintro n s3 ⟨i,Km,H3,I3,Vb,fr3,w3⟩;rcases turn i n Km H3 w3 with ⟨stop,qn⟩ | ⟨go,N,hN,step⟩
 ·refine wpAny_passesOwn hp (BF (T.done X rfl rfl rfl hc i (pins:=pins) s3 Km H3 X.xe I3 (stat fr3) Vb stop) fun r s4 ⟨hr,I4⟩=>?_);subst hr;exact wpAny_execs_nil ⟨Km,H3,I4,qn⟩
 ·refine wpAny_passesOwn hp (BF (T.item X rfl rfl rfl hc i (pins:=pins) s3 Km H3 X.xe I3 (stat fr3) Vb go) fun r s4 ⟨u,hr,h4⟩=>?_);subst hr;refine wpAny_passesOwn hp (BF h4 fun _ s5 ⟨x,H5,I5,r5,y5,Tu,fr5⟩=>?_);have I5':=I5.pinned (stat fr5) (T.obj _ _ Tu);refine wpAny_passesOwn hp (BF (hg s5 Km H5 x u _ I5' r5 (step x H5 y5)) fun _ s6 ⟨σ6,H6,I6,q6⟩=>?_);refine wpAny_passesOwn hp (BF (hb s6 σ6 H6 _ I6 q6) fun f s7 q7=>?_);have again:∀ {DG:St} {H7:Hp},An X (pins ++ Dg fp s5.heap) DG H7 s7->N DG H7->∃ m,m < n/\∃ i Aq H',An X pins Aq H' s7/\tn i s7.heap/\(∀ b ∈ fp,H' b=none)/\W i m Aq H':=fun {DG H7} I7 n7=>by
   obtain ⟨m',hm,w7⟩:=hN DG H7 n7;refine ⟨m',hm,i + 1,DG,H7,I7.unpinned,T.keep _ _ _ Tu fun b hb o e=>(I7.pin (b,o) (Wx _ (Wx _ (AU hb e)))).1,fun b hb=>?_,w7⟩;obtain ⟨o,e,d⟩:=T.obj _ _ Tu b hb;exact (I7.pin (b,o) (Wx _ (Wx _ (AU hb e)))).2.1
  cases f with
  | next=>obtain ⟨DG,H7,I7,n7⟩:=q7; exact again I7 n7
  | cont=>obtain ⟨DG,H7,I7,n7⟩:=q7; exact again I7 n7
  | brk=>obtain ⟨DG,H7,I7,q7⟩:=q7; exact ⟨DG,H7,I7.unpinned,q7⟩
  | ret v=>obtain ⟨x7,DG,H7,I7,r7,q7⟩:=q7; exact ⟨x7,DG,H7,I7.unpinned,r7,q7⟩
end
theorem Hi {K:Wm} {a:Addr} {xs:List V} {g:TG} {tb:TS} {D:DN} {σ:St} {H:Hp} (Pv:Nat->St->Hp->Prop) (h0:Pv 0 σ H) (hl:∀ i σ H,i<=xs.length->Pv i σ H->AD K H a xs)
  (hs:∀ i x σ H,xs[i]? = some x->Pv i σ H->g x σ H fun A3 H2=>tb { D with nx:=Pv (i + 1),ct:=Pv (i + 1),bk:=D.nx } A3 H2) (hd:∀ σ H,Pv xs.length σ H->D.nx σ H) :
  ∃ W:Nat->Nat->St->Hp->Prop,(∃ m,W 0 m σ H)/\∀ i m σ H,W i m σ H ->
   ((QZ K a).stop i H/\D.nx σ H)\/((QZ K a).go i H/\∃ N:St->Hp->Prop,(∀ Aq H',N Aq H'->∃ m',m' < m/\W (i + 1) m' Aq H')/\∀ x H',(QZ K a).yld i H x H'->g x σ H' fun A3 H2=>tb { D with nx:=N,ct:=N,bk:=D.nx } A3 H2):=by
 exists fun i m σ H=>m=xs.length - i/\i<=xs.length/\Pv i σ H,⟨xs.length,by simp,WR _,h0⟩
 rintro i m σ H ⟨rfl,hi,p⟩;have q:=hl i σ H hi p;by_cases BH:i < xs.length
 ·refine .inr ⟨⟨xs,xs[i],q,by simp [BH]⟩,Pv (i + 1),fun Aq H' p'=>⟨xs.length - (i + 1),by lia,rfl,BH,p'⟩,fun x H' y=>?_⟩;obtain ⟨e,y⟩:=y;subst e;exact hs i x σ _ (y xs q) p
 ·have e:i=xs.length:=by lia
  subst e;exact .inl ⟨⟨xs,q,Wq _⟩,hd σ H p⟩
theorem Gq {K:Wm} {a:Addr} {xs:List V} {g:TG} {tb:TS} {D:DN} {σ:St} {H:Hp} (Pv:Nat->St->Hp->Prop) (h0:Pv 0 σ H) (hl:∀ i σ H,i<=xs.length->Pv i σ H->AG K H a xs)
  (hs:∀ i x σ H,xs[i]? = some x->Pv i σ H->g x σ H fun A3 H2=>tb { D with nx:=Pv (i + 1),ct:=Pv (i + 1),bk:=D.nx } A3 H2) (hd:∀ σ H,Pv xs.length σ H->D.nx σ H) :
  ∃ W:Nat->Nat->St->Hp->Prop,(∃ m,W 0 m σ H)/\∀ i m σ H,W i m σ H ->
   ((Nv K a).stop i H/\D.nx σ H)\/((Nv K a).go i H/\∃ N:St->Hp->Prop,(∀ Aq H',N Aq H'->∃ m',m' < m/\W (i + 1) m' Aq H')/\∀ x H',(Nv K a).yld i H x H'->g x σ H' fun A3 H2=>tb { D with nx:=N,ct:=N,bk:=D.nx } A3 H2):=by
 exists fun i m σ H=>m=xs.length - i/\i<=xs.length/\Pv i σ H,⟨xs.length,by simp,WR _,h0⟩
 rintro i m σ H ⟨rfl,hi,p⟩;have q:=hl i σ H hi p;by_cases BH:i < xs.length
 ·refine .inr ⟨⟨xs,xs[i],q,by simp [BH]⟩,Pv (i + 1),fun Aq H' p'=>⟨xs.length - (i + 1),by lia,rfl,BH,p'⟩,fun x H' y=>?_⟩;obtain ⟨e,y⟩:=y;subst e;exact hs i x σ _ (y xs q) p
 ·have e:i=xs.length:=by lia
  subst e;exact .inl ⟨⟨xs,q,Wq _⟩,hd σ H p⟩
theorem Dw {lo:Int} {n:Nat} {g:TG} {tb:TS} {D:DN} {σ:St} {H:Hp} (Pv:Nat->St->Hp->Prop) (h0:Pv 0 σ H)
  (hs:∀ i σ H,i < n->Pv i σ H->g (.int (lo + i)) σ H fun A3 H2=>tb { D with nx:=Pv (i + 1),ct:=Pv (i + 1),bk:=D.nx } A3 H2) (hd:∀ σ H,Pv n σ H->D.nx σ H) :
  ∃ W:Nat->Nat->St->Hp->Prop,(∃ m,W 0 m σ H)/\∀ i m σ H,W i m σ H ->
   ((Nn lo n).stop i H/\D.nx σ H)\/((Nn lo n).go i H/\∃ N:St->Hp->Prop,(∀ Aq H',N Aq H'->∃ m',m' < m/\W (i + 1) m' Aq H')/\∀ x H',(Nn lo n).yld i H x H'->g x σ H' fun A3 H2=>tb { D with nx:=N,ct:=N,bk:=D.nx } A3 H2):=by
 exists fun i m σ H=>m=n - i/\i<=n/\Pv i σ H,⟨n,by simp,WR _,h0⟩
 rintro i m σ H ⟨rfl,hi,p⟩;by_cases BH:i < n
 ·refine .inr ⟨BH,Pv (i + 1),fun Aq H' p'=>⟨n - (i + 1),by lia,rfl,BH,p'⟩,fun x H' y=>?_⟩;obtain ⟨e,y⟩:=y;subst e y;exact hs i σ _ BH p
 ·have e:i=n:=by lia
  subst e;exact .inl ⟨Wq _,hd σ H p⟩
abbrev R2:=V->V->Hp->VK->Prop
def EL (X:Cx) (f:Value->Value->Sem Value) (r:R2):Prop:=
 ∀ ⦃pins:List (Addr × Obj)⦄ (s:Shared) (σ:St) (H:Hp) (x y:V) (v u:Value) (Q:VK),An X pins σ H s->Az x v->Az y u->r x y H Q ->
  wpAny (model X.prog X.w) X.A (f v u) (EP X pins σ Q) X.xe s
def B0 (X:Cx) (f:Value) (r:List V->Hp->VK->Prop):Prop:=
 ∀ ⦃pins:List (Addr × Obj)⦄ (s:Shared) (σ:St) (H:Hp) (xs:List V) (us:List Value) (Q:VK),An X pins σ H s->A7 xs us->r xs H Q ->
  wpAny (model X.prog X.w) X.A (call f us) (EP X pins σ Q) X.xe s
def TruR (X:Cx) (r:V->Hp->(Bool->Hp->Prop)->Prop):Prop:=
 ∀ ⦃pins:List (Addr × Obj)⦄ (s:Shared) (σ:St) (H:Hp) (x:V) (v:Value) (Q:Bool->Hp->Prop),An X pins σ H s->Az x v->r x H Q ->
  wpAny (model X.prog X.w) X.A (truthy v) (TP X pins σ Q) X.xe s
def tOp (r:R2) (ta tb:TE):TE:=fun σ H Q=>ta σ H fun x H1=>tb σ H1 fun y H2=>r x y H2 Q
def rI (C:Int->Int->Prop) (g:Int->Int->V):R2:=fun x y H Q=>∃ i j,x=.int i/\y=.int j/\C i j/\Q (g i j) H
def Rk (g:Int->Int->V):R2:=fun x y H Q=>∃ i j,x=.int i/\y=.int j/\Q (g i j) H
section
variable {X:Cx} {a b c:Expr} {ta tb tc:TE} {pos:Pos}
theorem SE (ha:PE X a ta) (hb:PE X b tb) {pins:List (Addr × Obj)} {s:Shared} {σ:St} {H:Hp} {R:V->V->Hp->Prop} (I:An X pins σ H s)
  (h:ta σ H fun x H1=>tb σ H1 fun y H2=>R x y H2) {Q:Value->Shared->Prop} {f:Value->Value->Sem Value}
  (hf:∀ v u s2 x y H2,An X pins σ H2 s2->Az x v->Az y u->R x y H2->wpAny (model X.prog X.w) X.A (f v u) Q X.xe s2) :
  wpAny (model X.prog X.w) X.A (eval a X.env) (fun v AS=>wpAny (model X.prog X.w) X.A (eval b X.env) (fun u EU=>wpAny (model X.prog X.w) X.A (f v u) Q X.xe EU) X.xe AS) X.xe s:=by
 refine BF (ha (pins:=pins) s σ H _ I h) fun v s1 ⟨x,H1,I1,r1,q1⟩=>?_
 refine BF (hb (pins:=pins) s1 σ H1 _ I1 q1) fun u s2 ⟨y,H2,I2,r2,q2⟩=>?_
 exact hf v u s2 x y H2 I2 r1 r2 q2
theorem Av {op:Operator} {r:R2} (ho:EL X (binaryOp op) r) (ha:PE X a ta) (hb:PE X b tb):PE X (.BinOp a op b pos) (tOp r ta tb):=by
 intro pins s σ H Q I h;exact wpAny_BinOp (SE ha hb I h fun v u s2 x y H2 I2 rx ry q=>ho (pins:=pins) s2 σ H2 x y v u Q I2 rx ry q)
theorem opI {f:Value->Value->Sem Value} {C:Int->Int->Prop} {g:Int->Int->Int}
  (rule:∀ (i j:Int) (t u:Tok) (s:Shared) (Q:Value->Shared->Prop) (E:Value->Shared->Prop),C i j->Q (.int (g i j) s.toks) { s with toks:=s.toks + 1 }->wpAny (model X.prog X.w) X.A (f (.int i t) (.int j u)) Q E s) :
  EL X f (rI C fun i j=>.int (g i j)):=by
 intro pins s σ H x y v u Q I rx ry h;obtain ⟨i,j,rfl,rfl,hc,q⟩:=h;obtain ⟨t,rfl⟩:=rx;obtain ⟨t',rfl⟩:=ry;exact rule i j t t' s _ _ hc ⟨.int (g i j),H,I.tok _,⟨_,rfl⟩,q⟩
theorem opI0 {f:Value->Value->Sem Value} {g:Int->Int->Int}
  (rule:∀ (i j:Int) (t u:Tok) (s:Shared) (Q:Value->Shared->Prop) (E:Value->Shared->Prop),Q (.int (g i j) s.toks) { s with toks:=s.toks + 1 }->wpAny (model X.prog X.w) X.A (f (.int i t) (.int j u)) Q E s) :
  EL X f (Rk fun i j=>.int (g i j)):=by
 intro pins s σ H x y v u Q I rx ry h;obtain ⟨i,j,rfl,rfl,q⟩:=h;obtain ⟨t,rfl⟩:=rx;obtain ⟨t',rfl⟩:=ry;exact rule i j t t' s _ _ ⟨.int (g i j),H,I.tok _,⟨_,rfl⟩,q⟩
theorem Qv {f:Value->Value->Sem Value} {g:Int->Int->Bool}
  (rule:∀ (i j:Int) (t u:Tok) (s:Shared) (Q:Value->Shared->Prop) (E:Value->Shared->Prop),Q (.bool (g i j)) s->wpAny (model X.prog X.w) X.A (f (.int i t) (.int j u)) Q E s) :
  EL X f (Rk fun i j=>.bl (g i j)):=by
 intro pins s σ H x y v u Q I rx ry h;obtain ⟨i,j,rfl,rfl,q⟩:=h;obtain ⟨t,rfl⟩:=rx;obtain ⟨t',rfl⟩:=ry;exact rule i j t t' s _ _ ⟨.bl (g i j),H,I,rfl,q⟩
def CDiv (i j:Int):Prop:=0 < j/\j < 1073741824
def CPow (i j:Int):Prop:=0<=j/\j<=1000000/\i.natAbs < 2 ^ 64
def SO (i j:Int):Prop:=(-(2 ^ 64) < i/\i < 2 ^ 64)\/(-(2 ^ 64) < j/\j < 2 ^ 64)
theorem SO.ok {i j:Int} (h:SO i j):IntMulOk i j:=by
 rcases h with ⟨h1,h2⟩ | ⟨h1,h2⟩
 ·exact .of_left (intBits_le_64 h1 h2)
 ·exact .of_right (intBits_le_64 h1 h2)
theorem Bg:EL X (binaryOp .Add) (Rk fun i j=>.int (i + j)):=opI0 fun _ _ _ _ _ _ _ q=>add_int q
theorem Jf:EL X (binaryOp .Sub) (Rk fun i j=>.int (i - j)):=opI0 fun _ _ _ _ _ _ _ q=>sub_int q
theorem D5:EL X (binaryOp .Mult) (rI SO fun i j=>.int (i * j)):=opI fun _ _ _ _ _ _ _ hc q=>mul_int q hc.ok
theorem LL:EL X (binaryOp .FloorDiv) (rI CDiv fun i j=>.int (i / j)):=opI fun i j _ _ _ _ _ hc q=>by
 have h1:(0:Int) < j:=hc.1;have h2:j < 1073741824:=hc.2;exact floordiv_int (by lia) (by rw [Int.fdiv_eq_ediv_of_nonneg i (by lia)]; exact q) (.inl (PyProof.noPylong_small (by lia)))
theorem D6:EL X (binaryOp .Mod) (rI (fun _ j=>0 < j) fun i j=>.int (i % j)):=opI fun i j _ _ _ _ _ hc q=>by
 have h1:(0:Int) < j:=hc;exact mod_int' (by lia) (by rw [Int.fmod_eq_emod_of_nonneg i (by lia)]; exact q)
theorem Ow:EL X (binaryOp .Pow) (rI CPow fun i j=>.int (i ^ j.toNat)):=opI fun _ _ _ _ _ _ _ hc q=>pow_int_small hc.1 hc.2.1 hc.2.2 q
end
def scal:V->V->Bool
 | .non,.non=>true | .non,.int _=>true | .int _,.non=>true | .non,.bl _=>true | .bl _,.non=>true | .non,.str _=>true | .str _,.non=>true
 | .int _,.int _=>true | .bl _,.bl _=>true | .str _,.str _=>true | .byt _,.byt _=>true
 | .int _,.str _=>true | .str _,.int _=>true | .bl _,.str _=>true | .str _,.bl _=>true
 | _,_=>false
def rEq:R2:=fun x y H Q=>scal x y=true/\Q (.bl (decide (x=y))) H
def rNe:R2:=fun x y H Q=>scal x y=true/\Q (.bl (!decide (x=y))) H
theorem Me {i j:Int}:decide (V.int i=V.int j)=(i == j):=by
 rw [Xg];simp
theorem Ph {i j:Bool}:decide (V.bl i=V.bl j)=(i == j):=by
 rw [Xg];simp
theorem Md {i j:Str}:decide (V.str i=V.str j)=(i == j):=by
 rw [Xg];simp
theorem Mf {i j:Array UInt8}:decide (V.byt i=V.byt j)=(i.toList == j.toList):=by
 rw [Xg];cases i
 cases j
 simp
section
variable {X:Cx} {a b c:Expr} {ta tb tc:TE} {pos:Pos}
theorem AR {pins:List (Addr × Obj)} {σ:St} {H:Hp} {s:Shared} {Q:VK} {k k':Bool} (I:An X pins σ H s) (q:Q (.bl k) H) (e:k=k'):EP X pins σ Q (.bool k') s:=by
 subst e;exact ⟨.bl k,H,I,rfl,q⟩
theorem LN:EL X (compareOp .Eq) rEq:=by
 intro pins s σ H x y v u Q I rx ry h;obtain ⟨hs,q⟩:=h;cases x with
 | non=>
  cases rx
  cases y with
  | non=>cases ry; exact PySem.EqNone.eq_none_none (AR I q (by simp))
  | bl j=>cases ry; exact PySem.EqNone.eq_none_bool (AR I q (by simp))
  | int j=>obtain ⟨t',rfl⟩:=ry; exact PySem.EqNone.eq_none_int (AR I q (by simp))
  | str j=>obtain ⟨t',rfl⟩:=ry; exact PySem.EqNone.eq_none_str (AR I q (by simp))
  | _=>exact absurd (show false=true from hs) W8
 | bl i=>
  cases rx
  cases y with
  | non=>cases ry; exact PySem.EqNone.eq_bool_none (AR I q (by simp))
  | bl j=>cases ry; exact eq_bool (AR I q Ph)
  | str j=>obtain ⟨t',rfl⟩:=ry; exact PySem.EqMixed.eq_bool_str (AR I q (by simp))
  | _=>exact absurd (show false=true from hs) W8
 | int i=>
  obtain ⟨t,rfl⟩:=rx;cases y with
  | non=>cases ry; exact PySem.EqNone.eq_int_none (AR I q (by simp))
  | int j=>obtain ⟨t',rfl⟩:=ry; exact eq_int (AR I q Me)
  | str j=>obtain ⟨t',rfl⟩:=ry; exact PySem.EqMixed.eq_int_str (AR I q (by simp))
  | _=>exact absurd (show false=true from hs) W8
 | str i=>
  obtain ⟨t,rfl⟩:=rx;cases y with
  | non=>cases ry; exact PySem.EqNone.eq_str_none (AR I q (by simp))
  | bl j=>cases ry; exact PySem.EqMixed.eq_str_bool (AR I q (by simp))
  | int j=>obtain ⟨t',rfl⟩:=ry; exact PySem.EqMixed.eq_str_int (AR I q (by simp))
  | str j=>obtain ⟨t',rfl⟩:=ry; exact eq_str (AR I q Md)
  | _=>exact absurd (show false=true from hs) W8
 | byt i=>
  obtain ⟨t,rfl⟩:=rx;cases y with
  | byt j=>obtain ⟨t',rfl⟩:=ry; exact PySem.W.eq_bytes (AR I q Mf)
  | _=>exact absurd (show false=true from hs) W8
 | _=>cases y <;> exact absurd (show false=true from hs) W8
theorem Ox:EL X (compareOp .NotEq) rNe:=by
 intro pins s σ H x y v u Q I rx ry h;obtain ⟨hs,q⟩:=h;cases x with
 | non=>
  cases rx
  cases y with
  | non=>cases ry; exact PySem.EqNone.ne_none_none (AR I q (by simp))
  | bl j=>cases ry; exact PySem.EqNone.ne_none_bool (AR I q (by simp))
  | int j=>obtain ⟨t',rfl⟩:=ry; exact PySem.EqNone.ne_none_int (AR I q (by simp))
  | str j=>obtain ⟨t',rfl⟩:=ry; exact PySem.EqNone.ne_none_str (AR I q (by simp))
  | _=>exact absurd (show false=true from hs) W8
 | bl i=>
  cases rx
  cases y with
  | non=>cases ry; exact PySem.EqNone.ne_bool_none (AR I q (by simp))
  | bl j=>cases ry; exact ne_bool (AR I q (congrArg not Ph))
  | str j=>obtain ⟨t',rfl⟩:=ry; exact PySem.EqMixed.ne_bool_str (AR I q (by simp))
  | _=>exact absurd (show false=true from hs) W8
 | int i=>
  obtain ⟨t,rfl⟩:=rx;cases y with
  | non=>cases ry; exact PySem.EqNone.ne_int_none (AR I q (by simp))
  | int j=>obtain ⟨t',rfl⟩:=ry; exact ne_int (AR I q (congrArg not Me))
  | str j=>obtain ⟨t',rfl⟩:=ry; exact PySem.EqMixed.ne_int_str (AR I q (by simp))
  | _=>exact absurd (show false=true from hs) W8
 | str i=>
  obtain ⟨t,rfl⟩:=rx;cases y with
  | non=>cases ry; exact PySem.EqNone.ne_str_none (AR I q (by simp))
  | bl j=>cases ry; exact PySem.EqMixed.ne_str_bool (AR I q (by simp))
  | int j=>obtain ⟨t',rfl⟩:=ry; exact PySem.EqMixed.ne_str_int (AR I q (by simp))
  | str j=>obtain ⟨t',rfl⟩:=ry; exact ne_str (AR I q (congrArg not Md))
  | _=>exact absurd (show false=true from hs) W8
 | byt i=>
  obtain ⟨t,rfl⟩:=rx;cases y with
  | byt j=>obtain ⟨t',rfl⟩:=ry; exact PySem.W.ne_bytes (AR I q (congrArg not Mf))
  | _=>exact absurd (show false=true from hs) W8
 | _=>cases y <;> exact absurd (show false=true from hs) W8
theorem GG:EL X (compareOp .Lt) (Rk fun i j=>.bl (decide (i < j))):=Qv fun _ _ _ _ _ _ _ q=>lt_int q
theorem Oy:EL X (compareOp .LtE) (Rk fun i j=>.bl (decide (i<=j))):=Qv fun _ _ _ _ _ _ _ q=>le_int q
theorem O0:EL X (compareOp .Gt) (Rk fun i j=>.bl (decide (j < i))):=Qv fun _ _ _ _ _ _ _ q=>gt_int q
theorem op_ge:EL X (compareOp .GtE) (Rk fun i j=>.bl (decide (j<=i))):=Qv fun _ _ _ _ _ _ _ q=>ge_int q
theorem B9 (b:Expr) {op:CmpOp} (h:op ≠ .In:=by decide) (h2:op ≠ .NotIn:=by decide):behindInMarks op b=false:=by
 have e1:(op == CmpOp.In)=false:=by cases op <;> first | rfl | exact absurd rfl h
 have e2:(op == CmpOp.NotIn)=false:=by cases op <;> first | rfl | exact absurd rfl h2
 cases b <;> simp [behindInMarks,e1,e2]
theorem Gm {op:CmpOp} {r:R2} (ho:EL X (compareOp op) r) (ha:PE X a ta) (hb:PE X b tb) (hm:behindInMarks op b=false):PE X (.Compare a [op] [b] pos) (tOp r ta tb):=by
 intro pins s σ H Q I h;exact wpAny_Compare1 (SE ha hb I h fun v u s2 x y H2 I2 rx ry q=>ho (pins:=pins) s2 σ H2 x y v u Q I2 rx ry q) hm
def Rh (t:TE):TT:=fun σ H Q=>t σ H fun x H'=>∃ k,x=.bl k/\Q k H'
theorem Bt {op:CmpOp} {r:R2} (ho:EL X (compareOp op) r) (ha:PE X a ta) (hb:PE X b tb) (hm:behindInMarks op b=false):PT X (.Compare a [op] [b] pos) (Rh (tOp r ta tb)):=by
 intro pins s σ H Q I h;refine wpAny_isTrue_Compare1 (BF (ha (pins:=pins) s σ H _ I h) fun v s1 ⟨x,H1,I1,r1,q1⟩=>BF (hb (pins:=pins) s1 σ H1 _ I1 q1) fun u s2 ⟨y,H2,I2,r2,q2⟩=>
  BF (ho (pins:=pins) s2 σ H2 x y v u _ I2 r1 r2 q2) fun c s3 ⟨z,H3,I3,r3,k,e,q3⟩=>?_) hm
 subst e;cases r3
 exact wpAny_truthy_bool ⟨H3,I3,q3⟩
def RJ (r r':R2) (ta tb tc:TE):TE:=fun σ H Q=>ta σ H fun x H1=>tb σ H1 fun y H2=>r x y H2 fun z H3=>∃ k,z=.bl k /\
 (if k=true then tc σ H3 fun w' H4=>r' y w' H4 Q else Q (.bl false) H3)
theorem Ol {op Vk:CmpOp} {r r':R2} (ho:EL X (compareOp op) r) (HD:EL X (compareOp Vk) r') (ha:PE X a ta) (hb:PE X b tb) (hc:PE X c tc)
  (hm:lastMarks [op,Vk] [b,c]=false:=by with_unfolding_all rfl):PT X (.Compare a [op,Vk] [b,c] pos) (Rh (RJ r r' ta tb tc)):=by
 intro pins s σ H Q I h;refine isTrue_chain (BF (ha (pins:=pins) s σ H _ I h) fun v s1 ⟨x,H1,I1,r1,q1⟩=>test_link (BF (hb (pins:=pins) s1 σ H1 _ I1 q1) fun u s2 ⟨y,H2,I2,r2,q2⟩=>
  BF (ho (pins:=pins) s2 σ H2 x y v u _ I2 r1 r2 q2) fun d s3 ⟨z,H3,I3,r3,k,e,q3⟩=>?_)) hm
 subst e;cases r3
 refine wpAny_truthy_bool ?_;cases k with
 | false=>
  obtain ⟨k',e',q'⟩:=q3;cases e'
  exact ite_ff ⟨H3,I3,q'⟩
 | true=>
  refine ite_tt (test_last (BF (hc (pins:=pins) s3 σ H3 _ I3 q3) fun w' s4 ⟨z',H4,I4,r4,q4⟩=>BF (HD (pins:=pins) s4 σ H4 y z' u w' _ I4 r2 r4 q4) fun d' s5 ⟨z2,H5,I5,r5,k2,e2,q5⟩=>?_));subst e2;cases r5
  exact wpAny_truthy_bool ⟨H5,I5,q5⟩
def SI (K:Wm) (x:V) (H:Hp) (k:Bool):Prop:=
 match x with
 | .non=>k=false
 | .bl b=>k=b
 | .int i=>k=(i != 0)
 | .str y=>y.length<=sizeLine/\k=((y.length:Int) != 0)
 | .byt y=>y.size<=sizeLine/\k=((y.size:Int) != 0)
 | .ref p=>(∃ xs,AD K H p xs/\k = !xs.isEmpty)\/(∃ xs,AG K H p xs/\k = !xs.isEmpty)\/∃ kvs,H p=some (.dK kvs)/\k = !kvs.isEmpty
 | _=>False
theorem KR {κ:Type} {kvs:List (κ × V)} {vs:List (κ × Value)} (r:KV kvs vs):(!vs.isEmpty) = !kvs.isEmpty:=by
 cases r <;> rfl
theorem Hf {xs:List V} {Aw:List Value} (r:A7 xs Aw):(!Aw.toArray.isEmpty) = !xs.isEmpty:=by
 cases r <;> simp
theorem EB:(sizeLine:Nat) < 2 ^ 63:=by rw [sizeLine_eq]; decide
theorem R9:TruR X (fun x H Q=>∃ k,SI X.K x H k/\Q k H):=by
 intro pins s σ H x v Q I rx h;obtain ⟨k,e,q⟩:=h;have hl:=EB;have hs:sizeLine=16777216:=sizeLine_eq;cases x with
 | non=>
  cases rx
  have e':k=false:=e;subst e';exact truthy_none ⟨H,I,q⟩
 | bl b=>
  cases rx
  have e':k=b:=e;subst e';exact wpAny_truthy_bool ⟨H,I,q⟩
 | int i=>
  obtain ⟨t,rfl⟩:=rx;have e':k=(i != 0):=e;subst e';exact PySem.P.truthy_int ⟨H,I,q⟩
 | str y=>
  obtain ⟨t,rfl⟩:=rx;obtain ⟨hy,e'⟩:y.length<=sizeLine/\k=((y.length:Int) != 0):=e;subst e';exact PySem.P.truthy_str (by lia) ⟨H,I.tok _,q⟩
 | byt y=>
  obtain ⟨t,rfl⟩:=rx;obtain ⟨hy,e'⟩:y.size<=sizeLine/\k=((y.size:Int) != 0):=e;subst e';exact PySem.W.truthy_bytes (by lia) ⟨H,I.tok _,q⟩
 | ref p=>
  cases rx
  have e':(∃ xs,AD X.K H p xs/\k = !xs.isEmpty)\/(∃ xs,AG X.K H p xs/\k = !xs.isEmpty)\/∃ kvs,H p=some (.dK kvs)/\k = !kvs.isEmpty:=e;rcases e' with ⟨xs,hx,e'⟩ | ⟨xs,hx,e'⟩ | ⟨kvs,hx,e'⟩
  ·subst e';obtain ⟨Aw,r,pl,hz⟩:=I.list hx;have hlen:=r.length;exact wpAny_truthy_list pl.isList (by simp only [WC]; lia) ⟨H,I.tok _,by rw [Hf r]; exact q⟩
  ·subst e';obtain ⟨Aw,r,pl,hz⟩:=I.tuple hx;have hlen:=r.length;exact truthy_tuple pl (by simp only [WC]; lia) ⟨H,I.tok _,by rw [Hf r]; exact q⟩
  ·subst e';obtain ⟨hz,hS,vs,r,m⟩:kvs.length<=sizeLine/\(p == sysModules)=false/\∃ vs,KV kvs vs/\s.heap.DictOf (Bk X.prog X.w) p vs:=I.hok p _ hx;have hlen:kvs.length=vs.length:=Paired.length r;exact wpAny_truthy_dict hS m (by lia) ⟨H,I.tok _,by rw [KR r]; exact q⟩
 | _=>exact (show False from e).elim
theorem G7 (ha:PE X a ta) (he:∀ whole,isTrue a X.env whole=(do let v <- whole; standAt a.pos; holding [v] (truthy v))) :
  PT X a (fun σ H Q=>ta σ H fun x H'=>∃ k,SI X.K x H' k/\Q k H'):=by
 intro pins s σ H Q I h;exact isTrue_plain (BF (ha (pins:=pins) s σ H _ I h) fun v s1 ⟨x,H1,I1,r1,q1⟩=>R9 (pins:=pins) s1 σ H1 x v Q I1 r1 q1) (he _)
theorem D7:EL X (binaryOp .Add) (fun x y H Q=>∃ i j,x=.str i/\y=.str j/\i.length + j.length<=sizeLine/\Q (.str (i ++ j)) H):=by
 intro pins s σ H x y v u Q I rx ry h;obtain ⟨i,j,rfl,rfl,hz,q⟩:=h;obtain ⟨t,rfl⟩:=rx;obtain ⟨t',rfl⟩:=ry;exact add_str (fun t' tk=>⟨.str (i ++ j),H,I.tok _,⟨_,rfl⟩,q⟩) hz
theorem Ci {x:V} {us:List Value} (r:A7 [x] us):∃ u,us=[u]/\Az x u:=by
 cases r with
 | cons r1 r2=>cases r2; exact ⟨_,rfl,r1⟩
theorem Lp {x y:V} {us:List Value} (r:A7 [x,y] us):∃ u w',us=[u,w']/\Az x u/\Az y w':=by
 cases r with
 | cons r1 r2=>
  cases r2 with
  | cons r3 r4=>cases r4; exact ⟨_,_,rfl,r1,r3⟩
theorem Pl:B0 X (.builtin "abs") (fun xs H Q=>∃ i,xs=[.int i]/\Q (.int (if i < 0 then -i else i)) H):=by
 intro pins s σ H xs us Q I r h;obtain ⟨i,rfl,q⟩:=h;obtain ⟨u,rfl,t,rfl⟩:=Ci r;exact call_abs_int fun u tk=>⟨.int (if i < 0 then -i else i),H,I.tok _,⟨_,rfl⟩,q⟩
theorem Nh (hc:X.calm=true):B0 X (.builtin "max") (fun xs H Q=>∃ i j,xs=[.int i,.int j]/\Q (.int (if j > i then j else i)) H):=by
 intro pins s σ H xs us Q I r h;obtain ⟨i,j,rfl,q⟩:=h;obtain ⟨u,w',rfl,⟨t,rfl⟩,⟨t',rfl⟩⟩:=Lp r;refine max_two_ints (I.ok.hd hc) fun h' tk k=>⟨_,H,I.kept k,?_,q⟩
 by_cases hj:j > i
 ·rw [if_pos hj,if_pos hj]; exact ⟨_,rfl⟩
 ·rw [if_neg hj,if_neg hj]; exact ⟨_,rfl⟩
theorem FF (hc:X.calm=true):B0 X (.builtin "min") (fun xs H Q=>∃ i j,xs=[.int i,.int j]/\Q (.int (if j < i then j else i)) H):=by
 intro pins s σ H xs us Q I r h;obtain ⟨i,j,rfl,q⟩:=h;obtain ⟨u,w',rfl,⟨t,rfl⟩,⟨t',rfl⟩⟩:=Lp r;refine min_two_ints (I.ok.hd hc) fun h' tk k=>⟨_,H,I.kept k,?_,q⟩
 by_cases hj:j < i
 ·rw [if_pos hj,if_pos hj]; exact ⟨_,rfl⟩
 ·rw [if_neg hj,if_neg hj]; exact ⟨_,rfl⟩
theorem FG:B0 X (.type "int") (fun xs H Q=>(∃ i,xs=[.int i]/\Q (.int i) H)\/∃ k,xs=[.bl k]/\Q (.int (if k then 1 else 0)) H):=by
 intro pins s σ H xs us Q I r h;rcases h with ⟨i,rfl,q⟩ | ⟨k,rfl,q⟩
 ·obtain ⟨u,rfl,t,rfl⟩:=Ci r;exact call_int_int ⟨.int i,H,I,⟨_,rfl⟩,q⟩
 ·obtain ⟨u,rfl,r1⟩:=Ci r;cases r1
  exact call_int_bool ⟨.int (if k then 1 else 0),H,I.tok _,⟨_,rfl⟩,q⟩
end
section
variable {prog:Program} {w:World} {A:Around} {E:Value->Shared->Prop} {s:Shared} {K:Wm} {x dx C f:Addr} {mA:Str->Option Value} {name:Str} {v:Value}
end
theorem Gg.some_of {v:V} {o:Option Value} (r:Gg (some v) o):∃ u,o=some u/\Az v u:=by
 cases o with
 | none=>exact (show False from r).elim
 | some u=>exact ⟨u,rfl,r⟩
section
variable {P:Program} {w:World} {H H':Hp} {h h':Heap} {a C dx:Addr} {fs Tg:List (Str × V)}
end
section
variable {X:Cx} {pins:List (Addr × Obj)} {σ:St} {H:Hp} {s:Shared} {a C dx:Addr} {fs:List (Str × V)} {f:Str} {v:V} {A:Around} {E:Value->Shared->Prop}
end
section
variable {X:Cx} {o e value:Expr} {f:Str} {pos pos' tpos:Pos} {ta tv:TE}
end
section
variable {X:Cx} {pins:List (Addr × Obj)} {σ:St} {H:Hp} {s:Shared} {A:Around} {E:Value->Shared->Prop} {Q:Value->Shared->Prop} {c:Value} {b:Bool}
end
structure Cs (k:Nat) (A:Around):Prop where
 hd:A.handled=none
 dp:A.depth + 3 * k + 5 < recursionLimit
 un:A.units + 16 * k + 200 < cLine
 gd:A.guards=some []:=by rfl
theorem Cs.mono {j k:Nat} {A:Around} (r:Cs k A) (h:j<=k):Cs j A:=⟨r.hd,by have:=r.dp; lia,by have:=r.un; lia,r.gd⟩
theorem Cs.deeper {k:Nat} {A:Around} (r:Cs (k + 1) A) (env:Env):Cs k (A.deeper env):=
 ⟨r.hd,by have:=r.dp; show A.depth + 1 + 3 * k + 5 < _; lia,by have:=r.un; show A.units + 3 + 16 * k + 200 < _; lia,r.gd⟩
theorem Cs.in1 {k:Nat} {A:Around} (r:Cs (k + 1) A):Cs k A.in1:=
 ⟨r.hd,by have:=r.dp; show A.depth + 3 * k + 5 < _; lia,by have:=r.un; show A.units + 1 + 16 * k + 200 < _; lia,r.gd⟩
theorem Cs.depth {k:Nat} {A:Around} (r:Cs k A):A.depth < recursionLimit:=by have:=r.dp; lia
theorem Cs.units {k:Nat} {A:Around} (r:Cs k A):A.units + 64 < cLine:=by have:=r.un; lia
def RE:TA:=fun _ H Q=>Q [] H
def Lu (ta:TE) (tr:TA):TA:=fun σ H Q=>ta σ H fun x H1=>tr σ H1 fun xs H2=>Q (x :: xs) H2
section
variable {X:Cx} {e:Expr} {es:List Expr} {te:TE} {t:TA} {pos:Pos}
theorem Ad:PA X [] RE:=fun _ _ _ _ H Q I h=>Calls.spliced_nil ⟨[],H,I,.nil,h⟩
theorem Aa (ha:PE X e te) (hr:PA X es t) (hs:starEach (e :: es) X.env=(false,eval e X.env) :: starEach es X.env:=by rfl):PA X (e :: es) (Lu te t):=by
 intro pos pins s σ H Q I h;rw [hs];show wpAny _ _ (spliced ((false,eval e X.env) :: backTo pos (starEach es X.env))) _ _ s
 refine Calls.spliced_cons (BF (ha (pins:=pins) s σ H _ I h) fun u s1 ⟨x,H1,I1,r1,q1⟩=>?_);exact BF (hr (pos:=pos) (pins:=pins) s1 σ H1 _ I1 q1) fun us s2 ⟨xs,H2,I2,r2,q2⟩=>⟨x :: xs,H2,I2,.cons r1 r2,q2⟩
def tTup (t:TA):TE:=fun σ H Q=>t σ H fun xs H1=>xs.length<=sizeLine/\∀ p,H1 p=none->Q (.ref p) (upd H1 p (.tup xs))
def tLst (t:TA):TE:=fun σ H Q=>t σ H fun xs H1=>xs.length<=sizeLine/\∀ p,H1 p=none->Q (.ref p) (upd H1 p (.lst xs))
theorem AQ {x1} (h:PA X es t):PE X (.Tuple es x1 pos) (tTup t):=by
 intro pins s σ H Q I hq;refine wpAny_Tuple_spliced (BF (h (pos:=pos) (pins:=pins) s σ H _ I hq) fun us s1 ⟨xs,H1,I1,r,z,q⟩=>⟨by rw [<-r.length]; exact z,?_⟩);have hf:H1 s1.heap.objs.size=none:=I1.hok.fresh (Wq _);refine ⟨.ref s1.heap.objs.size,upd H1 s1.heap.objs.size (.tup xs),I1.laid (t':=s1.toks) (fun b u e=>Wl _ e) (Wq _) ?_,rfl,q _ hf⟩;exact ⟨z,us,r,⟨_,W0 _ rfl,rfl,_,rfl⟩,Lg.new rfl rfl⟩
theorem Bq (h:PA X es t):PE X (.List es pos) (tLst t):=by
 intro pins s σ H Q I hq;refine wpAny_List_spliced (BF (h (pos:=pos) (pins:=pins) s σ H _ I hq) fun us s1 ⟨xs,H1,I1,r,z,q⟩=>⟨by rw [<-r.length]; exact z,?_⟩);have hf:H1 s1.heap.objs.size=none:=I1.hok.fresh (Wq _);refine ⟨.ref s1.heap.objs.size,upd H1 s1.heap.objs.size (.lst xs),I1.laid (t':=s1.toks) (fun b u e=>Wl _ e) (Wq _) ?_,rfl,q _ hf⟩;exact ⟨z,us,0,r,W0 _ rfl⟩
end
abbrev Sp:=List V->Hp->VK->XK->Prop
abbrev Pw:=List Env->Hp->Shared->XK->Value->Shared->Prop
structure Kl (P:Program) (w:World) (K:Wm) (mg:Str->Option Value) (base:Heap) (A:Around) (outer:List Env) (s:Shared) (H:Hp):Prop where
 frames:A.frames=some outer
 mod:Mod K mg base
 bs:∀ b o,base.get? b=some o->s.heap.get? b=some o/\H b=none
 bsz:base.objs.size<=s.heap.objs.size
 funs:s.heap.FunFrames base outer
 frf:∀ b ∈ MW outer,H b=none
 hok:EM P w H s.heap
 bare:AllBare s.gens
def CE (outer:List Env) (P:Program) (w:World) (H:Hp) (s:Shared) (Q:VK) (u:Value) (s':Shared):Prop:=
 ∃ v H',s'.os=s.os/\AllBare s'.gens/\Un (MW outer) [] H H' s.heap s'.heap/\EM P w H' s'.heap/\Az v u/\Q v H'
def CR (CX:Pw) (outer:List Env) (P:Program) (w:World) (H:Hp) (s:Shared) (Q:VK) (E:XK) (r:Result) (s':Shared):Prop:=
 match r with
 | .ok (.ret u)=>CE outer P w H s Q u s'
 | .ok _=>False
 | .error e=>CX outer H s E e s'
structure AH (P:Program) (w:World) (K:Wm) (mg:Str->Option Value) (base:Heap) (CX:Pw) (k:Nat) (f:Addr) (fd:FuncData) (ps:List Str) (sp:Sp):Prop where
 len:∀ vs H Q E,sp vs H Q E->vs.length=ps.length
 run:∀ (A:Around) (outer:List Env) (s:Shared) (H:Hp) (args:Args) (us:List Value) (vs:List V) (Q:VK) (E:XK),Cs k A->Kl P w K mg base A outer s H->BindsTo s fd args (ps.zip us)->A7 vs us->sp vs H Q E ->
  codeAny (model P w) A (.call (.ref f) args) (CR CX outer P w H s Q E) s
theorem Kl.in1 {P:Program} {w:World} {K:Wm} {mg:Str->Option Value} {base:Heap} {A:Around} {outer:List Env} {s:Shared} {H:Hp} (e:Kl P w K mg base A outer s H) :
  Kl P w K mg base A.in1 outer s H:=⟨e.frames,e.mod,e.bs,e.bsz,e.funs,e.frf,e.hok,e.bare⟩
section
variable {X:Cx} {pins:List (Addr × Obj)} {σ:St} {H:Hp} {s s':Shared}
theorem An.env0 (I:An X pins σ H s):Kl X.prog X.w X.K X.mg X.base X.A X.stack s H:=
 ⟨I.ok.frames,I.ok.mod,I.bs,WJ I.ok.bsz I.sz,I.stack,I.stkFree,I.hok,I.bare⟩
theorem An.after {Q:VK} {u:Value} (I:An X pins σ H s) (h:CE X.stack X.prog X.w H s Q u s'):EP X pins σ Q u s':=by
 obtain ⟨v,H',os,bare,un,hok,r,q⟩:=h;obtain ⟨hh,g,d,t,Vj⟩:=s';obtain rfl:Vj=s.os:=os;exact ⟨v,H',I.call (h':=hh) (g':=g) (d':=d) (t':=t) (ch:=[]) un hok bare (fun b z=>absurd z (by simp)),r,q⟩
end
def tCall (sp:Sp) (dvs:List V) (E:XK) (t:TA):TE:=fun σ H Q=>t σ H fun vs H1=>sp (vs ++ dvs) H1 Q E
def FY (K:Wm) (fd:FuncData) (ps:List Str) (ds:List Value):Prop:=
 ∀ (s:Shared) (us:List Value),K.In s.heap->(us ++ ds).length=ps.length->BindsTo s fd ⟨us,[]⟩ (ps.zip (us ++ ds))
theorem FY.all {K:Wm} {fd:FuncData} {ps:List Str} (h:∀ us:List Value,us.length=ps.length->bindArgs fd ⟨us,[]⟩=pure (ps.zip us)):FY K fd ps []:=fun s us _ hl=>by
 rw [Yh] at hl ⊢;exact .of_eq (h us hl)
def Lj (CX:Pw) (X:Cx) (E:XK):Prop:=∀ (pins:List (Addr × Obj)) (σ:St) (H:Hp) (s:Shared) (e:Value) (s':Shared),An X pins σ H s->CX X.stack H s E e s'->X.xe e s'
section
variable {X:Cx} {CX:Pw} {k:Nat} {f C:Addr} {fd:FuncData} {ps:List Str} {sp:Sp} {dvs:List V} {ds:List Value} {E:XK} {x m:Str} {p pos apos:Pos} {e o:Expr} {es:List Expr} {ta:TE} {t:TA}
theorem RL {pins:List (Addr × Obj)} {σ:St} {H:Hp} {s:Shared} {Q:VK} {us:List Value} {vs:List V} (F:AH X.prog X.w X.K X.mg X.base CX k f fd ps sp) (hr:Cs k X.A) (hb:FY X.K fd ps ds) (hd:A7 dvs ds) (hx:Lj CX X E)
  (I:An X pins σ H s) (r:A7 vs us) (h:sp (vs ++ dvs) H Q E):wpAny (model X.prog X.w) X.A (call (.ref f) us) (EP X pins σ Q) X.xe s:=by
 have r2:A7 (vs ++ dvs) (us ++ ds):=r.append hd;have hl:(us ++ ds).length=ps.length:=by rw [<-r2.length]; exact F.len _ _ _ _ h
 refine wpAny_call (codeAny_mono (F.run X.A X.stack s H ⟨us,[]⟩ (us ++ ds) (vs ++ dvs) Q E hr I.env0 (hb s us I.kIn hl) r2 h) fun r s' hq=>?_);cases r with
 | error e=>exact hx pins σ H s e s' I hq
 | ok fl=>
  cases fl with
  | ret u=>exact I.after hq
  | next=>exact False.elim hq
  | brk=>exact False.elim hq
  | cont=>exact False.elim hq
theorem Aj (F:AH X.prog X.w X.K X.mg X.base CX k f fd ps sp) (hr:Cs k X.A) (hg:Gl X x) (hm:X.mg x=some (.ref f)) (hk:XH X.K (.ref f)=true) (hb:FY X.K fd ps ds) (hd:A7 dvs ds) (hx:Lj CX X E)
  (ha:PA X (e :: es) t) (hdb:(x == ("__debug__":Str))=false:=by decide) (he:starEach (e :: es) X.env=(false,eval e X.env) :: starEach es X.env:=by rfl) (hpl:(backTo pos (starEach es X.env)).any (·.1)=false:=by rfl) :
  PE X (.Call (.Name x p) (e :: es) [] pos) (tCall sp dvs E t):=by
 intro pins s σ H Q I h;refine wpAny_Call_Name_kw (Q6 I hg hm ?_ hdb);refine PySem.W.callWith_K (h₀:=X.base) I.ok.mod.kin hk (BF (ha (pos:=pos) (pins:=pins) s σ H _ I h) fun us s1 ⟨vs,H1,I1,r,q⟩=>⟨I1.kIn,?_⟩) he hpl;exact RL F hr hb hd hx I1 r q
end
section
variable {X:Cx} {CX:Pw} {k:Nat} {f C:Addr} {fd:FuncData} {ps ks:List Str} {sp:Sp} {E:XK} {x m:Str} {p pos apos kpos:Pos} {e o:Expr} {es:List Expr} {kws:List Keyword} {te ta:TE} {t tk:TA} {nm:Option Str}
variable {g:List Value->List Value->List Value} {gV:List V->List V->List V}
end
structure A4 (N P:List Str) (sc:Scope):Prop where
 kind:sc.kind=.function
 co:sc.isCoroutine=false
 gen:sc.isGenerator=false
 nd:N.Nodup
 pre:N.take P.length=P
 par:∀ x ∈ P,sc.names.lookup x=some .local\/sc.names.lookup x=some .cell
 nofree:∀ y ∈ sc.names,y.2 ≠ .free
theorem IE {kindOf:Str->Option NameKind} {x:Str}:∀ {binds:List (Str × Value)} {m:Str->Option Value},(∀ v,(x,v) ∉ binds)->bindL kindOf binds m x=m x
 | [],_,_=>rfl
 | (n,v) :: r,m,h=>by
  unfold bindL;rw [IE fun w hw=>h w (WH _ hw)];split
  ·have:x ≠ n:=by rintro rfl; exact h v W7
   simp [this]
  ·rfl
theorem IG {kindOf:Str->Option NameKind} {x:Str}:∀ {binds:List (Str × Value)} {m:Str->Option Value},(∀ v,(x,v) ∉ binds)->bindC kindOf binds m x=m x
 | [],_,_=>rfl
 | (n,v) :: r,m,h=>by
  unfold bindC;rw [IG fun w hw=>h w (WH _ hw)];split
  ·rfl
  ·have:x ≠ n:=by rintro rfl; exact h v W7
   simp [this]
theorem IF {kindOf:Str->Option NameKind} {x:Str} {v:Value}:∀ {P:List Str} {vs:List Value} {i:Nat} {m:Str->Option Value},P.Nodup->P[i]? = some x->vs[i]? = some v->kindOf x=some .local ->
  bindL kindOf (P.zip vs) m x=some v
 | [],_,_,_,_,h,_,_=>by simp at h
 | _ :: _,[],_,_,_,_,h,_=>by simp at h
 | p :: P,w :: vs,0,m,nd,h1,h2,hk=>by
  simp at h1 h2; subst h1; subst h2;show bindL kindOf ((p,w) :: P.zip vs) m p=_
  unfold bindL;rw [IE fun v hv=>(Xm.mp nd).1 (YL hv).1,if_pos hk];simp
 | p :: P,w :: vs,i + 1,m,nd,h1,h2,hk=>by
  show bindL kindOf ((p,w) :: P.zip vs) m x=_
  unfold bindL;exact IF (i:=i) (Xm.mp nd).2 (by simpa using h1) (by simpa using h2) hk
theorem IH {kindOf:Str->Option NameKind} {x:Str} {v:Value}:∀ {P:List Str} {vs:List Value} {i:Nat} {m:Str->Option Value},P.Nodup->P[i]? = some x->vs[i]? = some v->kindOf x ≠ some .local ->
  bindC kindOf (P.zip vs) m x=some v
 | [],_,_,_,_,h,_,_=>by simp at h
 | _ :: _,[],_,_,_,_,h,_=>by simp at h
 | p :: P,w :: vs,0,m,nd,h1,h2,hk=>by
  simp at h1 h2; subst h1; subst h2;show bindC kindOf ((p,w) :: P.zip vs) m p=_
  unfold bindC;rw [IG fun v hv=>(Xm.mp nd).1 (YL hv).1,if_neg hk];simp
 | p :: P,w :: vs,i + 1,m,nd,h1,h2,hk=>by
  show bindC kindOf ((p,w) :: P.zip vs) m x=_
  unfold bindC;exact IH (i:=i) (Xm.mp nd).2 (by simpa using h1) (by simpa using h2) hk
def start (N:List Str) (vs:List V):St:=vs.map some ++ Zz (N.length - vs.length) none
def EC (CX:Pw) (P:Program) (w:World) (K:Wm) (mg:Str->Option Value) (base:Heap) (N:List Str) (qual:Str) (scope:Scope) (f:Addr) (cd:Value) (A:Around) (outer:List Env) (s:Shared) (H:Hp) (E:XK):Cx where
 prog:=P
 w:=w
 K:=K
 mg:=mg
 base:=base
 A:=A.deeper (envOfC qual scope s.heap.objs.size f cd)
 N:=N
 s₀:=s
 H₀:=H
 env:=envOfC qual scope s.heap.objs.size f cd
 outer:=outer
 stack:=envOfC qual scope s.heap.objs.size f cd :: outer
 ex:=[]
 calm:=true
 fn:=fun _=>true
 pn:=[]
 xe:=fun e s'=>wpAny (model P w) (A.deeper (envOfC qual scope s.heap.objs.size f cd)) (leaving (envOfC qual scope s.heap.objs.size f cd) e) (fun _ Vh=>CX outer H s E e Vh) (fun e' Vh=>CX outer H s E e' Vh) s'
theorem Kg {sc:Scope} {n:Nat} {x:Str} (h:sc.names.lookup x=some .cell):∃ c,(cellsFrom n sc.names []).lookup x=some c:=by
 have q:=Ys sc.names n [] (.inl h);exact Yp.mp q
theorem Iu {CX:Pw} {P:Program} {w:World} {K:Wm} {mg:Str->Option Value} {base:Heap} {N ps:List Str} {qual:Str} {scope:Scope} {f:Addr} {cd:Value} {A:Around} {outer:List Env} {s s1:Shared} {H:Hp} {E:XK} {us:List Value} {vs:List V}
  (S:A4 N ps scope) (hd:A.handled=none) (e0:Kl P w K mg base A outer s H) (hl:vs.length=ps.length) (r:A7 vs us)
  (x:InCallC s s.heap.objs.size (bindL (envOfC qual scope s.heap.objs.size f cd).kindOf (ps.zip us) fun _=>none) (cellsFrom (s.heap.objs.size + 1) scope.names []) (bindC (envOfC qual scope s.heap.objs.size f cd).kindOf (ps.zip us) fun _=>none) s1) :
  An (EC CX P w K mg base N qual scope f cd A outer s H E) [] (start N vs) H s1:=by
 have hpl:ps.length<=N.length:=by have:=congrArg XI S.pre; rw [WW] at this; lia
 obtain ⟨h1,tk,rfl,hk⟩:=x.done;have noA:∀ b:Addr,b ∉ (EC CX P w K mg base N qual scope f cd A outer s H E).ex:=fun b z=>absurd (show b ∈ ([]:List Addr) from z) (by simp)
 refine ⟨⟨e0.mod,S.kind,rfl,rfl,Wq _,fun y z c h1 h2=>?_,fun y hy=>?_,fun y c _ h=>?_,fun _=>hd,Around.frames_deeper e0.frames,.inr ⟨rfl,rfl⟩,fun b z=>absurd z (noA b),e0.bs,e0.bsz,fun b _ _=>noA b,fun b z=>absurd z (noA b),e0.funs,e0.frf⟩,
  rfl,e0.bare,Un.kept hk,⟨_,x.toInCall.ns,fun i y v h1 h2 h3=>?_⟩,fun y c h=>⟨_,x.cell y c h⟩,e0.hok.fresh (Wq _),fun y c h=>?_,fun p hp=>absurd (show p ∈ ([]:List (Addr × Obj)) from hp) (by simp),e0.hok.kept hk,?_⟩
 ·exact name_of_addr x.apart (PySem.mem_of_lookup h1) (PySem.mem_of_lookup h2)
 ·have hy:scope.names.lookup y=some .cell\/scope.names.lookup y=some .free:=hy;rcases hy with hy | hy
  ·exact Kg hy
  ·exact absurd rfl (S.nofree _ (PySem.mem_of_lookup hy))
 ·exact Ym (x.above y c (PySem.mem_of_lookup h))
 ·have hi:i < vs.length:=by
   unfold start at h2;by_cases hi:i < vs.length
   ·exact hi
   ·rw [WQ (by simpa using hi)] at h2;rw [List.getElem?_replicate] at h2;split at h2 <;> cases h2
  have ha:vs[i]? = some v:=by
   unfold start at h2;rw [WS (by simpa using hi),Wy] at h2;cases e:vs[i]? with
   | none=>rw [e] at h2; cases h2
   | some a=>rw [e] at h2; cases h2; rfl
  obtain ⟨u,hu,rv⟩:=r.get ha;have hp:ps[i]? = some y:=by
   rw [<-S.pre,YS (by lia)]; exact h1
  have ndP:ps.Nodup:=by rw [<-S.pre]; exact S.nd.sublist (Zp _ _)
  exists u,rv;rcases S.par y (Wo hp) with k | k
  ·exact .inl ⟨k,IF ndP hp hu k⟩
  ·obtain ⟨c,e⟩:=Kg (n:=s.heap.objs.size + 1) k;refine .inr ⟨.inl k,c,e,?_⟩;have q:=x.cell y c e;rw [IH ndP hp hu (by show scope.names.lookup y ≠ _; rw [k]; decide)] at q;exact q
 ·exact e0.hok.fresh (Ym (x.above y c (PySem.mem_of_lookup h)))
 ·unfold start;show _=N.length
  rw [Ww,Wj,List.length_replicate];lia
theorem Rr {CX:Pw} {P:Program} {w:World} {K:Wm} {mg:Str->Option Value} {base:Heap} {k:Nat} {f:Addr} {name qual:Str} {params:Arguments} {body:List Stmt} {scope:Scope} {dV kV doc pm cdv ct oc:Value} {an od:Option Addr}
  {osl:Array (Option Value)} {N ps:List Str} {sp:Sp} (lk:K.lookup f=some ⟨oc,od,.func (Xn name qual params body scope dV kV doc pm an cdv ct),osl⟩) (hcd:XJ K cdv qual=true) (S:A4 N ps scope)
  (len:∀ vs H Q E,sp vs H Q E->vs.length=ps.length)
  (hbody:∀ (A:Around) (outer:List Env) (s:Shared) (H:Hp) (vs:List V) (Q:VK) (E:XK),Cs k (A.deeper (envOfC qual scope s.heap.objs.size f cdv))->sp vs H Q E ->
   ∃ t,Jv (EC CX P w K mg base N qual scope f cdv A outer s H E) body t/\t { nx:=fun _ H'=>Q .non H',rt:=Q } (start N vs) H) :
  AH P w K mg base CX (k + 1) f (Xn name qual params body scope dV kV doc pm an cdv ct) ps sp:=by
 refine ⟨len,fun A outer s H args us vs Q E hr e0 hb r hsp=>?_⟩;have hl:=len _ _ _ _ hsp;have KX:K.In s.heap:=e0.mod.kin.keeps fun b o e=>(e0.bs b o e).1
 have lim:s.heap.NoLimit:=e0.mod.nolimit.keeps fun b o e=>(e0.bs b o e).1
 have hkind:∀ y ∈ ps.zip us,scope.names.lookup y.1=some .local\/(scope.names.lookup y.1=some .cell/\((cellsFrom (s.heap.objs.size + 1) scope.names []).lookup y.1).isSome=true):=fun ⟨n,v⟩ hy=>by
  rcases S.par n (YL hy).1 with q | q
  ·exact .inl q
  ·exact .inr ⟨q,Ys _ _ _ (.inl q)⟩
 refine codeAny_call_function hr.depth (KX _ _ lk) rfl S.co S.gen rfl (PySem.W.codeRec_of KX hcd) (hb _ _ _ _ ?_);refine wpAny_newFunctionEnv_cells S.kind hkind fun env he s1 x=>?_
 subst he;refine ⟨lim.keeps x.toInCall.keep,codeAny_func ?_⟩;obtain ⟨t,ht,hq⟩:=hbody A outer s H vs Q E (hr.deeper _) hsp;have I:An (EC CX P w K mg base N qual scope f cdv A outer s H E) [] (start N vs) H s1:=Iu S hr.hd e0 hl r x;refine wpAny_mono (ht s1 (start N vs) H _ I hq) (fun fl s' hs=>?_) fun e s' hs=>hs
 have fin:∀ {Aq:St} {H':Hp} {v:V} {u:Value},An (EC CX P w K mg base N qual scope f cdv A outer s H E) [] Aq H' s'->Az v u->Q v H'->CE outer P w H s Q u s':=
  fun {Aq H' v u} J rv q=>⟨v,H',J.os,J.bare,J.base,J.hok,rv,q⟩
 cases fl with
 | ret u=>
  obtain ⟨v,Aq,H',J,rv,q⟩:=hs;exact fin J rv q
 | next=>
  obtain ⟨Aq,H',J,q⟩:=hs;exact fin (v:=V.non) (u:=Value.none) J rfl q
 | brk=>
  obtain ⟨_,_,_,q⟩:=hs;exact False.elim q
 | cont=>
  obtain ⟨_,_,_,q⟩:=hs;exact False.elim q
section
variable {X:Cx} {x:Str} {p pos:Pos} {e:Expr} {es:List Expr} {t:TA} {id T:String} {r:List V->Hp->VK->Prop}
def tCB (r:List V->Hp->VK->Prop) (t:TA):TE:=fun σ H Q=>t σ H fun vs H1=>r vs H1 Q
theorem Ao (hc:B0 X (.builtin id) r) (hg:Gl X x) (hm:X.mg x=none) (hv:bootBuiltins x=some (.builtin id)) (ha:PA X (e :: es) t) (hn:x ≠ "__name__":=by decide) (hdb:(x == ("__debug__":Str))=false:=by decide)
  (he:starEach (e :: es) X.env=(false,eval e X.env) :: starEach es X.env:=by rfl) (hpl:(backTo pos (starEach es X.env)).any (·.1)=false:=by rfl):PE X (.Call (.Name x p) (e :: es) [] pos) (tCB r t):=by
 intro pins s σ H Q I h;refine wpAny_Call_Name_kw (F9 I hg hm hv ?_ hn hdb);exact PyProof.Rows.callWith_builtin1 (BF (ha (pos:=pos) (pins:=pins) s σ H _ I h) fun us s1 ⟨vs,H1,I1,r1,q1⟩=>hc (pins:=pins) s1 σ H1 vs us Q I1 r1 q1) he hpl
theorem AX (hc:B0 X (.type T) r) (hg:Gl X x) (hm:X.mg x=none) (hv:bootBuiltins x=some (.type T)) (ha:PA X (e :: es) t) (hn:x ≠ "__name__":=by decide) (hdb:(x == ("__debug__":Str))=false:=by decide)
  (he:starEach (e :: es) X.env=(false,eval e X.env) :: starEach es X.env:=by rfl) (hpl:(backTo pos (starEach es X.env)).any (·.1)=false:=by rfl):PE X (.Call (.Name x p) (e :: es) [] pos) (tCB r t):=by
 intro pins s σ H Q I h;refine wpAny_Call_Name_kw (F9 I hg hm hv ?_ hn hdb);exact PyProof.Rows.callWith_type1 (BF (ha (pos:=pos) (pins:=pins) s σ H _ I h) fun us s1 ⟨vs,H1,I1,r1,q1⟩=>hc (pins:=pins) s1 σ H1 vs us Q I1 r1 q1) he hpl
end
end L2
namespace HT
open PySem PyProof.Rows
section
open PySem.SeqAt
open PySem.AutoSeq1 (wpAny_loadPart')
open PySem.MeetsSeq PySem.MeetsSeq2 PySem.MeetsSeq3
end
section
variable {prog:Program} {w:World} {A:Around} {E:Value->Shared->Prop} {s:Shared}
theorem cat_tup {t b:Addr} {vs ws:List Value} {Q:Value->Shared->Prop} (ht:IsTup s.heap t vs.toArray) (hb:IsTup s.heap b ws.toArray) (hv:vs ≠ [])
  (h1:ws=[]->Q (.ref t) s) (h2:ws ≠ []->Q (.ref s.heap.objs.size) { s with heap:=s.heap.push { cls:=.type "tuple",data:=.seq (vs ++ ws).toArray } })
  (hsz:vs.length + ws.length<=sizeLine):wpAny (model prog w) A (binaryOp .Add (.ref t) (.ref b)) Q E s:=by
 obtain ⟨⟨cls,dd,data,sl⟩,ho,hc,n,hd⟩:=id ht;obtain ⟨⟨QS,Jo,data2,F3⟩,Ko,HF,n2,hd2⟩:=id hb;simp only at hc hd HF hd2;subst hc hd HF hd2;have e:vs.toArray ++ ws.toArray=(vs ++ ws).toArray:=by simp
 by_cases hw:ws=[]
 ·exact concat_meets ⟨_,ho,rfl⟩ ⟨_,Ko,rfl⟩ noFill_tuple_add seq_tuple_add PySem.F.slot_tuple_add PySem.F.entry_tuple_add (PySem.F.args_tuple_add_2 _ _)
   (tuple_addW1 t b vs.toArray ws.toArray n n2 dd Jo sl F3 (by simpa using hv) (by simp [hw])) ⟨ho,Ko,h1 hw⟩
 ·refine concat_meets ⟨_,ho,rfl⟩ ⟨_,Ko,rfl⟩ noFill_tuple_add seq_tuple_add PySem.F.slot_tuple_add PySem.F.entry_tuple_add (PySem.F.args_tuple_add_2 _ _)
   (tuple_addW2 t b vs.toArray ws.toArray n n2 dd Jo sl F3 (by simpa using hv) (by simpa using hw) (by rw [WC,WC]; exact hsz)) ⟨ho,Ko,?_⟩
  rw [e];exact h2 hw
end
end HT
namespace L2
open PySem PySem.Spec PyProof.Rows
abbrev TO:=St->Hp->(Option Int->Hp->Prop)->Prop
def PO (X:Cx) (e:Option Expr) (t:TO):Prop:=
 ∀ ⦃pins:List (Addr × Obj)⦄ (s:Shared) (σ:St) (H:Hp) (Q:Option Int->Hp->Prop),An X pins σ H s->t σ H Q ->
  wpAny (model X.prog X.w) X.A (evalPart e X.env) (fun u s'=>∃ o H',An X pins σ H' s'/\IsPart u o/\Q o H') X.xe s
def Qd:TO:=fun _ H Q=>Q none H
def tPart (t:TE):TO:=fun σ H Q=>t σ H fun x H1=>∃ i,x=.int i/\Q (some i) H1
section
variable {X:Cx} {e:Expr} {te:TE} {lo hi:Option Expr} {tl th:TO} {pos p2:Pos}
theorem LH:PO X none Qd:=by
 intro pins s σ H Q I h;rw [evalPart_none];exact wpAny_pure ⟨none,H,I,.none,h⟩
theorem LG (h:PE X e te):PO X (some e) (tPart te):=by
 intro pins s σ H Q I hw;rw [evalPart_some];refine BF (h (pins:=pins) s σ H _ I hw) fun u s1 ⟨x,H1,I1,r1,q1⟩=>?_
 obtain ⟨i,rfl,q⟩:=q1;obtain ⟨t,rfl⟩:=r1;exact ⟨some i,H1,I1,.int i t,q⟩
def Rl (K:Wm):R2:=fun x y H Q=>∃ a b xs ys,x=.ref a/\y=.ref b/\AG K H a xs/\AG K H b ys/\xs ≠ []/\xs.length + ys.length<=sizeLine /\
 (ys=[]->Q (.ref a) H)/\(ys ≠ []->∀ p,H p=none->Q (.ref p) (upd H p (.tup (xs ++ ys))))
theorem A7.nil_iff {xs:List V} {us:List Value} (r:A7 xs us):us=[] ↔ xs=[]:=by
 cases r with
 | nil=>simp
 | cons _ _=>simp
theorem Qu:EL X (binaryOp .Add) (Rl X.K):=by
 intro pins s σ H x y v u Q I rx ry h;obtain ⟨a,b,xs,ys,rfl,rfl,ha,hb,hx,hz,q1,q2⟩:=h;cases rx
 cases ry
 obtain ⟨Aw,r1,p1,_⟩:=I.tuple ha;obtain ⟨MP,r2,p2,_⟩:=I.tuple hb;refine HT.cat_tup p1 p2 (fun z=>hx (r1.nil_iff.mp z)) (fun z=>⟨.ref a,H,I,rfl,q1 (r2.nil_iff.mp z)⟩) (fun z=>?_) (by rw [<-r1.length,<-r2.length]; exact hz);refine ⟨.ref s.heap.objs.size,_,I.laid (t':=s.toks) (o:=.tup (xs ++ ys)) (fun b ob q=>Wl _ q) (Wq _) ?_,rfl,q2 (fun w=>z (r2.nil_iff.mpr w)) _ (I.hok.fresh (Wq _))⟩;exact ⟨by rw [Ww]; exact hz,_,r1.append r2,IsTup.new _ _,Lg.new rfl rfl⟩
end
def QC (n:Nat) (i:Int):Option Nat:=if 0<=i then (if i < n then some i.toNat else none) else if -(n:Int)<=i then some (i + n).toNat else none
def J1 {α:Type} (xs:List α) (i:Int):Option α:=(QC xs.length i).bind fun j=>xs[j]?
theorem Jl {n:Nat} {i:Int} {j:Nat} (h:QC n i=some j):seqIndex? i n=some j/\j < n/\-(n:Int)<=i/\i < n:=by
 unfold QC at h;by_cases h0:0<=i
 ·rw [if_pos h0] at h;by_cases h1:i < n
  ·rw [if_pos h1] at h;have e:i.toNat=j:=WA.inj h;exact ⟨by rw [seqIndex_of h0 h1,e],by lia,by lia,h1⟩
  ·rw [if_neg h1] at h; cases h
 ·rw [if_neg h0] at h;by_cases h1:-(n:Int)<=i
  ·rw [if_pos h1] at h;have e:(i + n).toNat=j:=WA.inj h;exact ⟨by rw [seqIndex_neg (by lia) h1,e],by lia,h1,by lia⟩
  ·rw [if_neg h1] at h; cases h
theorem Gs {α:Type} {xs:List α} {i:Int} {v:α} (h:J1 xs i=some v):∃ j,seqIndex? i xs.length=some j/\xs[j]? = some v/\j < xs.length/\-(xs.length:Int)<=i/\i < xs.length:=by
 unfold J1 at h;cases e:QC xs.length i with
 | none=>rw [e] at h; cases h
 | some j=>
  rw [e] at h;obtain ⟨h1,h2,h3,h4⟩:=Jl e;exact ⟨j,h1,h,h2,h3,h4⟩
theorem DB {α:Type} {xs:List α} {j:Nat} {v:α} (h:xs[j]? = some v):J1 xs (j:Int)=some v:=by
 have hj:j < xs.length:=(Wt.mp h).1;have e:QC xs.length (j:Int)=some j:=by
  unfold QC;rw [if_pos (by lia),if_pos (by lia)]; simp
 unfold J1; rw [e]; exact h
def QX (b:Expr):Prop:=∀ o i,subscripted b false o i=operate [o,i] (getItem o i)
def Tq (X:Cx) (r:R2):Prop:=
 ∀ (value slice:Expr) (pins:List (Addr × Obj)) (s:Shared) (σ:St) (H:Hp) (x y:V) (v u:Value) (Q:VK),An X pins σ H s->Az x v->Az y u->r x y H Q ->
  subscripted slice false v u=operate [v,u] (getItem v u)->wpAny (model X.prog X.w) X.A (subscriptTail value slice v u) (EP X pins σ Q) X.xe s
def MtR (X:Cx) (id:String) (r:V->List V->Hp->VK->Prop):Prop:=
 ∀ ⦃pins:List (Addr × Obj)⦄ (s:Shared) (σ:St) (H:Hp) (x:V) (xs:List V) (v:Value) (us:List Value) (Q:VK),An X pins σ H s->Az x v->A7 xs us->r x xs H Q ->
  wpAny (model X.prog X.w) X.A (call (.builtin id) (v :: us)) (EP X pins σ Q) X.xe s
section
variable {X:Cx} {a b:Expr} {ta tb:TE} {pos:Pos}
theorem AF {r:R2} (hr:Tq X r) (ha:PE X a ta) (hb:PE X b tb) (hs:QX b):PE X (.Subscript a b pos) (tOp r ta tb):=by
 intro pins s σ H Q I h;exact Subscript_ (SE ha hb I h fun v u s2 x y H2 I2 rx ry q=>hr a b (pins:=pins) s2 σ H2 x y v u Q I2 rx ry q (hs _ _))
def rIxL (K:Wm):R2:=fun x y H Q=>∃ p xs i v,x=.ref p/\y=.int i/\AD K H p xs/\J1 xs i=some v/\Q v H
def rIxT (K:Wm):R2:=fun x y H Q=>∃ p xs i v,x=.ref p/\y=.int i/\AG K H p xs/\J1 xs i=some v/\Q v H
def rIxS:R2:=fun x y H Q=>∃ z i c,x=.str z/\y=.int i/\z.length<=sizeLine/\J1 z.cps.toList i=some c/\Q (.str ⟨#[c]⟩) H
theorem QB:Tq X (rIxL X.K):=by
 intro value slice pins s σ H x y v u Q I rx ry h hs;obtain ⟨p,xs,i,z,rfl,rfl,hq,he,q⟩:=h;cases rx
 obtain ⟨t,rfl⟩:=ry;obtain ⟨Aw,r,pl,hz⟩:=I.list hq;obtain ⟨j,h1,h2,h3,h4,h5⟩:=Gs he;obtain ⟨w,ew,Mv⟩:=r.get h2;have hl:=r.length;have hn:=EB;have fin:EP X pins σ Q w s:=⟨z,H,I,Mv,q⟩
 by_cases h0:0<=i
 ·have hj:i.toNat=j:=by
   rw [seqIndex_of h0 h5] at h1;exact WA.inj h1
  exact item_listR pl.isList h0 (by lia) (by rw [hj]; simpa using ew) fin hs
 ·have hj:(i + (Aw.toArray.size:Int)).toNat=j:=by
   rw [seqIndex_neg (by lia) h4] at h1;rw [WC,<-hl];exact WA.inj h1
  exact subscriptTail_builtinR (x:=w) pl.isList.typeIs slot_list_getitem.lookup
   (wpAny_getItem_list_neg (Q:=fun r s'=>r=w/\EP X pins σ Q r s') pl.isList (by lia) (by rw [WC] <;> lia) (by lia) (by rw [hj]; simpa using ew) ⟨rfl,fin⟩) hs
theorem Sg:Tq X (rIxT X.K):=by
 intro value slice pins s σ H x y v u Q I rx ry h hs;obtain ⟨p,xs,i,z,rfl,rfl,hq,he,q⟩:=h;cases rx
 obtain ⟨t,rfl⟩:=ry;obtain ⟨Aw,r,pl,hz⟩:=I.tuple hq;obtain ⟨j,h1,h2,h3,h4,h5⟩:=Gs he;obtain ⟨w,ew,Mv⟩:=r.get h2;have hl:=r.length;have hn:=EB;have fin:EP X pins σ Q w s:=⟨z,H,I,Mv,q⟩
 exact subscriptTail_builtinR (x:=w) pl.typeIs slot_tuple_getitem.lookup
  (getItem_tuple (j:=j) (Q:=fun r s'=>r=w/\EP X pins σ Q r s') pl (by lia) (by lia) (by rw [WC,<-hl]; exact h1) (by simpa using ew) ⟨rfl,fin⟩) hs
theorem OL:Tq X rIxS:=by
 intro value slice pins s σ H x y v u Q I rx ry h hs;obtain ⟨z,i,c,rfl,rfl,hz,he,q⟩:=h;obtain ⟨t,rfl⟩:=rx;obtain ⟨t',rfl⟩:=ry;obtain ⟨j,h1,h2,h3,h4,h5⟩:=Gs he;have hl:z.cps.toList.length=z.length:=by simp [Str.length]
 rw [hl] at h1 h4 h5;have hn:=EB;exact tail_any (typeIs_str s z t) slot_str_getitem.lookup (getItem_str (c:=c) (by
  have e1:decide (i < -(2 ^ 63:Int))=false:=decide_eq_false (by lia);have e2:decide (i >= 2 ^ 63)=false:=decide_eq_false (by lia);rw [e1,e2,Bool.or_false]) (by rw [h1]; simpa using h2) ⟨.str ⟨#[c]⟩,H,I.tok _,⟨_,rfl⟩,q⟩) hs
theorem KL (Aw:List Value) (n j:Nat) (u:Value):Obj.mapSeq (·.setIfInBounds j u) { cls:=.type "list",data:=.seq Aw.toArray n } = { cls:=.type "list",data:=.seq (Aw.set j u).toArray n }:=by
 simp [Obj.mapSeq]
theorem An.lst {pins:List (Addr × Obj)} {σ:St} {H:Hp} {s:Shared} {p:Addr} {xs:List V} (I:An X pins σ H s) (h:H p=some (.lst xs)) :
  ∃ (Aw:List Value) (n:Nat),A7 xs Aw/\s.heap.get? p=some { cls:=.type "list",data:=.seq Aw.toArray n }/\xs.length<=sizeLine:=by
 obtain ⟨z,Aw,n,r,e⟩:=I.hok p _ h;exact ⟨Aw,n,r,e,z⟩
theorem An.lstUpd {pins:List (Addr × Obj)} {σ:St} {H:Hp} {s:Shared} {p:Addr} {xs ys:List V} {Aw its':List Value} {n n':Nat} {f:Obj->Obj} (I:An X pins σ H s) (h:H p=some (.lst xs))
  (ho:s.heap.get? p=some { cls:=.type "list",data:=.seq Aw.toArray n }) (hf:f { cls:=.type "list",data:=.seq Aw.toArray n } = { cls:=.type "list",data:=.seq its'.toArray n' }) (r:A7 ys its') (hz:ys.length<=sizeLine) (t:Nat) :
  An X pins σ (upd H p (.lst ys)) { s with heap:=s.heap.update p f,toks:=t }:=by
 have e:(s.heap.update p f).get? p=some { cls:=.type "list",data:=.seq its'.toArray n' }:=by
  rw [WU f ho (by rw [hf] <;> rfl),hf]
 refine I.write (x:=p) (e:=p) (by rw [h]; trivial) (.inl rfl) (fun b u hb q=>(WE _ _ (Ne.symm hb)).trans q) ⟨_,e⟩ ?_;exact ⟨hz,its',n',r,e⟩
def rSetL:V->V->V->Hp->(Hp->Prop)->Prop:=fun o i v H Q=>∃ p xs k j,o=.ref p/\i=.int k/\H p=some (.lst xs)/\QC xs.length k=some j/\Q (upd H p (.lst (xs.set j v)))
theorem Gz:PSet X rSetL:=by
 intro pins s σ H o i v ov iv u Q I ro ri rv h;obtain ⟨p,xs,k,j,rfl,rfl,hp,hj,q⟩:=h;cases ro
 obtain ⟨t,rfl⟩:=ri;obtain ⟨Aw,n,r,ho,hz⟩:=I.lst hp;obtain ⟨h1,h2,h3,h4⟩:=Jl hj;have hl:=r.length;have hn:=EB;have I':An X pins σ (upd H p (.lst (xs.set j v))) { s with heap:=s.heap.update p (Obj.mapSeq (·.setIfInBounds j u)) }:=
  I.lstUpd hp ho (KL Aw n j u) (r.set rv j) (by rw [List.length_set]; exact hz) s.toks
 by_cases h0:0<=k
 ·have hk:k.toNat=j:=by
   rw [seqIndex_of h0 h4] at h1;exact WA.inj h1
  exact PySem.W.ki_setAt ho h0 (by lia) (by rw [WC,<-hl]; exact h4) (by rw [hk]; exact ⟨_,I',q⟩)
 ·have hk:(k + (Aw.toArray.size:Int)).toNat=j:=by
   rw [seqIndex_neg (by lia) h3] at h1;rw [WC,<-hl];exact WA.inj h1
  exact PySem.W.ki_setBack ho (by lia) (by rw [WC,<-hl]; exact h3) (by lia) (by rw [hk]; exact ⟨_,I',q⟩)
def Fs:V->Bool
 | .non=>true
 | .bl _=>true
 | .int _=>true
 | .str _=>true
 | _=>false
def QL:V->V->Bool
 | .non,.non=>true
 | .bl a,.bl b=>a == b
 | .bl a,.int b=>(if a then 1 else 0) == b
 | .int a,.bl b=>a == (if b then 1 else 0)
 | .int a,.int b=>a == b
 | .str a,.str b=>a == b
 | _,_=>false
theorem S8 {A:Around} {s:Shared} {y x:V} {u v:Value} (ry:Az y u) (rx:Az x v) (fy:Fs y=true) (fx:Fs x=true):SeqAt.EqAt A s u v (QL y x):=by
 cases y with
 | non=>
  cases ry
  cases x with
  | non=>cases rx; exact SeqAt.EqAt.same _
  | bl b=>cases rx; exact SeqAt.EqAt.none_bool b
  | int b=>obtain ⟨t,rfl⟩:=rx; exact SeqAt.EqAt.none_int b t
  | str b=>obtain ⟨t,rfl⟩:=rx; exact SeqAt.EqAt.none_str b t
  | _=>exact absurd (show false=true from fx) W8
 | bl a=>
  cases ry
  cases x with
  | non=>cases rx; exact SeqAt.EqAt.bool_none a
  | bl b=>cases rx; exact SeqAt.EqAt.bool_bool a b
  | int b=>obtain ⟨t,rfl⟩:=rx; exact SeqAt.EqAt.bool_int a b t
  | str b=>obtain ⟨t,rfl⟩:=rx; exact SeqAt.EqAt.bool_str a b t
  | _=>exact absurd (show false=true from fx) W8
 | int a=>
  obtain ⟨t',rfl⟩:=ry;cases x with
  | non=>cases rx; exact SeqAt.EqAt.int_none a t'
  | bl b=>cases rx; exact SeqAt.EqAt.int_bool a t' b
  | int b=>obtain ⟨t,rfl⟩:=rx; exact SeqAt.EqAt.int_int a t' b t
  | str b=>obtain ⟨t,rfl⟩:=rx; exact SeqAt.EqAt.int_str a t' b t
  | _=>exact absurd (show false=true from fx) W8
 | str a=>
  obtain ⟨t',rfl⟩:=ry;cases x with
  | non=>cases rx; exact SeqAt.EqAt.str_none a t'
  | bl b=>cases rx; exact SeqAt.EqAt.str_bool a t' b
  | int b=>obtain ⟨t,rfl⟩:=rx; exact SeqAt.EqAt.str_int a t' b t
  | str b=>obtain ⟨t,rfl⟩:=rx; exact SeqAt.EqAt.str_str a t' b t
  | _=>exact absurd (show false=true from fx) W8
 | _=>exact absurd (show false=true from fy) W8
def QM (x:V) (u:Value):Bool:=match u with
 | .none=>QL .non x
 | .bool b=>QL (.bl b) x
 | .int i _=>QL (.int i) x
 | .str z _=>QL (.str z) x
 | _=>false
theorem OY {x y:V} {u:Value} (r:Az y u) (f:Fs y=true):QM x u=QL y x:=by
 cases y with
 | non=>cases r; rfl
 | bl b=>cases r; rfl
 | int i=>obtain ⟨t,rfl⟩:=r; rfl
 | str z=>obtain ⟨t,rfl⟩:=r; rfl
 | _=>exact absurd (show false=true from f) W8
theorem Jt {x:V}:∀ {xs:List V} {us:List Value},A7 xs us->xs.all Fs=true->us.any (QM x)=xs.any fun y=>QL y x
 | _,_,.nil,_=>rfl
 | y :: xs,u :: us,.cons r t,f=>by
  rw [YB,X0] at f;rw [Yc,Yc,OY r f.1,Jt t f.2]
theorem GR {A:Around} {s:Shared} {x:V} {v:Value} (rx:Az x v) (fx:Fs x=true):∀ {xs:List V} {us:List Value},A7 xs us->xs.all Fs=true->∀ u ∈ us,SeqAt.EqAt A s u v (QM x u)
 | _,_,.nil,_=>fun u hu=>by cases hu
 | y :: xs,u :: us,.cons r t,f=>fun u' hu=>by
  rw [YB,X0] at f;rcases Wn.mp hu with rfl | hu
  ·rw [OY r f.1]; exact S8 r rx f.1 fx
  ·exact GR rx fx t f.2 u' hu
def inV (x:V) (xs:List V):Bool:=xs.any fun y=>QL y x
def rIn (K:Wm) (neg:Bool):R2:=fun x y H Q=>∃ p xs,y=.ref p/\(AD K H p xs\/AG K H p xs)/\Fs x=true/\xs.all Fs=true/\Q (.bl (if neg then !inV x xs else inV x xs)) H
theorem M9:EL X (compareOp .In) (rIn X.K false):=by
 intro pins s σ H x y v u Q I rx ry h;obtain ⟨p,xs,rfl,hq,fx,fs,q⟩:=h;cases ry
 rcases hq with hq | hq
 ·obtain ⟨Aw,r,pl,hz⟩:=I.list hq;refine SeqAt.in_listAt (QM x) pl.isList (fun w hw=>GR rx fx r fs w (by simpa using hw)) ⟨.bl _,H,I,rfl,?_⟩;rw [show Aw.toArray.any (QM x)=Aw.any (QM x) by simp,Jt r fs];exact q
 ·obtain ⟨Aw,r,pl,hz⟩:=I.tuple hq;refine SeqAt.in_tupleAt (QM x) pl (fun w hw=>GR rx fx r fs w (by simpa using hw)) ⟨.bl _,H,I,rfl,?_⟩;rw [show Aw.toArray.any (QM x)=Aw.any (QM x) by simp,Jt r fs];exact q
theorem Jr:B0 X (.builtin "len") (fun xs H Q=>∃ p ys,xs=[.ref p]/\(AD X.K H p ys\/AG X.K H p ys)/\Q (.int ys.length) H):=by
 intro pins s σ H xs us Q I r h;obtain ⟨p,ys,rfl,hq,q⟩:=h;obtain ⟨u,rfl,rx⟩:=Ci r;cases rx
 have hn:=EB;rcases hq with hq | hq
 ·obtain ⟨Aw,r',pl,hz⟩:=I.list hq;have hlen:=r'.length;exact Calls.call_len_list pl.isList (by simp only [WC] <;> lia) ⟨.int ys.length,H,I.tok _,⟨s.toks + 1,by rw [WC,hlen]⟩,q⟩
 ·obtain ⟨Aw,r',pl,hz⟩:=I.tuple hq;have hlen:=r'.length;exact len_tuple pl (by simp only [WC] <;> lia) ⟨.int ys.length,H,I.tok _,⟨s.toks + 1,by rw [WC,hlen]⟩,q⟩
theorem Jq:B0 X (.builtin "len") (fun xs H Q=>∃ z,xs=[.str z]/\z.length<=sizeLine/\Q (.int z.length) H):=by
 intro pins s σ H xs us Q I r h;obtain ⟨z,rfl,hz,q⟩:=h;obtain ⟨u,rfl,t,rfl⟩:=Ci r;have hn:=EB;exact len_str (by lia) ⟨.int z.length,H,I.tok _,⟨_,rfl⟩,q⟩
theorem Fw:B0 X (.type "list") (fun xs H Q=>∃ p ys,xs=[.ref p]/\(AD X.K H p ys\/AG X.K H p ys)/\∀ l,H l=none->Q (.ref l) (upd H l (.lst ys))):=by
 intro pins s σ H xs us Q I r h;obtain ⟨p,ys,rfl,hq,q⟩:=h;obtain ⟨u,rfl,rx⟩:=Ci r;cases rx
 have fin:∀ (Aw:List Value),A7 ys Aw->ys.length<=sizeLine->∀ (h':Heap) (c':Nat),(∀ b o',s.heap.get? b=some o'->h'.get? b=some o') ->
   h'.get? s.heap.objs.size=some { cls:=.type "list",dict:=none,data:=.seq Aw.toArray c',slots:=#[] }->EP X pins σ Q (.ref s.heap.objs.size) { s with heap:=h' }:=fun Aw r' hz h' c' kp e=>
  ⟨.ref s.heap.objs.size,_,I.laid (t':=s.toks) kp (Wq _) (show A6 X.prog X.w _ h' _ (.lst ys) from ⟨hz,Aw,c',r',e⟩),rfl,q _ (I.hok.fresh (Wq _))⟩
 rcases hq with hq | hq
 ·obtain ⟨Aw,r',pl,hz⟩:=I.list hq;have hlen:=r'.length;obtain ⟨o,ho,hc,n,hd⟩:=pl.isList;exact call_list_seq p (.inl rfl) ho hc hd (fun h' c' kp e=>fin Aw r' hz h' c' kp e) (by simp only [WC] <;> lia)
 ·obtain ⟨Aw,r',pl,hz⟩:=I.tuple hq;have hlen:=r'.length;obtain ⟨o,ho,hc,n,hd⟩:=pl;exact call_list_seq p (.inr rfl) ho hc hd (fun h' c' kp e=>fin Aw r' hz h' c' kp e) (by simp only [WC] <;> lia)
theorem HI:B0 X (.type "tuple") (fun xs H Q=>∃ p ys,xs=[.ref p]/\((AD X.K H p ys/\∀ l,H l=none->Q (.ref l) (upd H l (.tup ys)))\/(AG X.K H p ys/\Q (.ref p) H))):=by
 intro pins s σ H xs us Q I r h;obtain ⟨p,ys,rfl,h⟩:=h;obtain ⟨u,rfl,rx⟩:=Ci r;cases rx
 rcases h with ⟨hq,q⟩ | ⟨hq,q⟩
 ·obtain ⟨Aw,r',pl,hz⟩:=I.list hq;have hlen:=r'.length;refine call_tuple_list pl.isList (fun h' kp=>?_) (by simp only [WC] <;> lia);have I1:An X pins σ H { s with heap:=h' }:=I.kept (t':=s.toks) kp;have I2:An X pins σ (upd H h'.objs.size (.tup ys)) { s with heap:=h'.push { cls:=.type "tuple",data:=.seq Aw.toArray } }:=
   I1.laid (t':=s.toks) (fun b o e=>Wl _ e) (Wq _) (show A6 X.prog X.w _ _ _ (.tup ys) from ⟨hz,Aw,r',IsTup.new _ _,Lg.new rfl rfl⟩)
  exact ⟨.ref h'.objs.size,_,I2,rfl,q _ (I1.hok.fresh (Wq _))⟩
 ·obtain ⟨Aw,r',pl,hz⟩:=I.tuple hq;exact call_tuple_same pl ⟨.ref p,H,I,rfl,q⟩
def tyV (K:Wm) (T:String) (x:V) (H:Hp):Prop:=match x with
 | .str _=>T="str"
 | .int _=>T="int"
 | .ref p=>(T="list"/\∃ xs,AD K H p xs)\/(T="tuple"/\∃ o,K.lookup p=some o/\o.cls=.type "tuple"/\o.dict=none) \/
   (T="dict"/\((∃ kvs,H p=some (.dK kvs))\/∃ kvs,H p=some (.dT kvs)))\/(T="set"/\∃ S n,H p=some (.set S n))
 | _=>False
theorem R6 {pins:List (Addr × Obj)} {σ:St} {H:Hp} {s:Shared} {T:String} {x:V} {v:Value} (I:An X pins σ H s) (r:Az x v) (ty:tyV X.K T x H) :
  s.TypeIs v T/\∀ a,v=.ref a->∃ ob,s.heap.get? a=some ob/\ob.dict=none:=by
 cases x with
 | str z=>
  obtain ⟨t,rfl⟩:=r;cases (show T="str" from ty)
  exact ⟨typeIs_str s z t,fun _ e=>nomatch e⟩
 | int i=>
  obtain ⟨t,rfl⟩:=r;cases (show T="int" from ty)
  exact ⟨typeIs_int s i t,fun _ e=>nomatch e⟩
 | ref p=>
  cases r
  rcases ty with ⟨rfl,xs,hq⟩ | ⟨rfl,o,hk,hc,hd⟩ | ⟨rfl,hk⟩ | ⟨rfl,S,n,hk⟩
  ·obtain ⟨Aw,_,pl,_⟩:=I.list hq;refine ⟨pl.isList.typeIs,fun a e=>?_⟩;cases e
   obtain ⟨o,n,e,c,hd,_⟩:=pl;exact ⟨o,e,hd⟩
  ·refine ⟨⟨o,I.kIn p o hk,hc⟩,fun a e=>?_⟩;cases e
   exact ⟨o,I.kIn _ o hk,hd⟩
  ·have z:∃ o,s.heap.get? p=some o/\o.ExactDict:=by
    rcases hk with ⟨kvs,hk⟩ | ⟨kvs,hk⟩
    ·obtain ⟨_,_,_,_,o,_,_,e,ex,_⟩:=I.hok p _ hk;exact ⟨o,e,ex⟩
    ·obtain ⟨_,_,_,_,o,_,_,e,ex,_⟩:=I.hok p _ hk;exact ⟨o,e,ex⟩
   obtain ⟨o,e,ex⟩:=z;refine ⟨⟨o,e,ex.1⟩,fun a e2=>?_⟩;cases e2
   exact ⟨o,e,ex.2.1⟩
  ·obtain ⟨o,_,_,_,e,ex,_⟩:=I.hok p _ hk;refine ⟨⟨o,e,ex.1⟩,fun a e2=>?_⟩;cases e2
   exact ⟨o,e,ex.2.1⟩
 | _=>exact False.elim ty
def tBM (K:Wm) (T:String) (r:V->List V->Hp->VK->Prop) (to:TE) (t:TA):TE:=fun σ H Q=>to σ H fun x H1=>tyV K T x H1/\t σ H1 fun xs H2=>r x xs H2 Q
variable {o e:Expr} {es:List Expr} {to:TE} {t:TA} {name:Str} {apos ED:Pos} {T id:String} {r:V->List V->Hp->VK->Prop}
theorem GD (pa:PlainAttrs T) (slot:Slot T name id) (hty:typeOf (.builtin id)=pure (.type "method_descriptor")) (hm:MtR X id r) (ho:PE X o to) (ha:PA X (e :: es) t)
  (hbase:attributeBase o name X.env (eval o X.env)=eval o X.env:=by rfl)
  (hfew:((backTo ED (starEach (e :: es) X.env)).all (fun x=>!x.1) && (backToKw ED (keywordEach [] X.env)).all (fun x=>x.1.isSome)
   && decide ((e :: es).length + ([]:List Keyword).length + (if ([]:List Keyword).isEmpty then 0 else 1) < 30))=true:=by rfl)
  (hline:(apos.endLine == ED.line)=true:=by rfl) (hs:starEach (e :: es) X.env=(false,eval e X.env) :: starEach es X.env:=by rfl) (hplain:(backTo ED (starEach es X.env)).any (·.1)=false:=by rfl) :
  PE X (.Call (.Attribute o name apos) (e :: es) [] ED) (tBM X.K T r to t):=by
 intro pins s σ H Q I h;refine wpAny_Call_method_late hbase hfew hline rfl (BF (ho (pins:=pins) s σ H _ I h) fun v s1 ⟨x,H1,I1,r1,ty,q1⟩=>?_);obtain ⟨h1,h2⟩:=R6 I1 r1 ty;exists T,id,pa,slot,hty,h1,h2;have hA:=ha (pos:=ED) (pins:=pins) s1 σ H1 _ I1 q1;rw [hs] at hA ⊢;refine Calls.callWith_builtin (by show (false || (backTo ED (starEach es X.env)).any (·.1))=false; rw [hplain] <;> rfl) (Calls.evalArgs_plain ?_);exact BF hA fun us s2 ⟨vs,H2,I2,r2,q2⟩=>hm (pins:=pins) s2 σ H2 x vs v us Q I2 r1 r2 q2
end
def MtM (X:Cx) (id:String) (r:V->List V->Hp->VK->Prop):Prop:=
 ∀ ⦃pins:List (Addr × Obj)⦄ (s:Shared) (σ:St) (H:Hp) (x:V) (xs:List V) (v:Value) (us:List Value) (Q:VK),An X pins σ H s->Az x v->A7 xs us->r x xs H Q ->
  wpAny (model X.prog X.w) X.A (call (.builtin id) (v :: us)) (EP X pins σ Q) X.xe s
theorem A7.one:∀ {x:V} {us:List Value},A7 [x] us->∃ u,us=[u]/\Az x u
 | _,_,.cons r .nil=>⟨_,rfl,r⟩
theorem A7.eraseIdx:∀ {xs:List V} {us:List Value} (i:Nat),A7 xs us->A7 (xs.eraseIdx i) (us.eraseIdx i)
 | _,_,_,.nil=>.nil
 | _,_,0,.cons _ t=>t
 | _,_,i + 1,.cons r t=>.cons r (A7.eraseIdx i t)
theorem Ip {α:Type}:∀ (l:List α) (i:Nat),(l.eraseIdx i).length<=l.length
 | [],_=>Wq _
 | _ :: _,0=>WX _
 | _ :: r,i + 1=>Nat.succ_le_succ (Ip r i)
section
variable {X:Cx} {pins:List (Addr × Obj)} {σ:St} {H:Hp} {s:Shared} {l b:Addr} {xs ys zs:List V}
theorem An.lset {Aw its':List Value} {n:Nat} {f:Array Value->Array Value} {t':Nat} (I:An X pins σ H s) (hH:H l=some (.lst xs))
  (e:s.heap.get? l=some { cls:=.type "list",data:=.seq Aw.toArray n }) (hf:f Aw.toArray=its'.toArray) (hv:A7 ys its') (hz:ys.length<=sizeLine) :
  An X pins σ (upd H l (.lst ys)) { s with heap:=s.heap.update l (Obj.mapSeq f),toks:=t' }:=by
 have q:=PySem.IsL.update e f;rw [hf] at q;refine I.write (x:=l) (e:=l) (by rw [hH]; exact trivial) (.inl rfl) (fun b' u hb hu=>(WE s.heap (Obj.mapSeq f) (Ne.symm hb)).trans hu) ⟨_,q⟩ ?_;exact ⟨hz,its',_,hv,q⟩
theorem An.lnew {Aw:List Value} {t':Nat} (I:An X pins σ H s) (hv:A7 ys Aw) (hz:ys.length<=sizeLine) :
  An X pins σ (upd H s.heap.objs.size (.lst ys)) { s with heap:=s.heap.push { cls:=.type "list",data:=.seq Aw.toArray },toks:=t' }:=
 I.laid (fun _ _ q=>Wl _ q) (Wq _) ⟨hz,Aw,0,hv,W0 _ rfl⟩
theorem An.fresh (I:An X pins σ H s):H s.heap.objs.size=none:=I.hok.fresh (Wq _)
theorem An.lstM (I:An X pins σ H s) (hH:H l=some (.lst xs)):xs.length<=sizeLine/\∃ (Aw:List Value) (n:Nat),A7 xs Aw/\xs.length=Aw.length/\s.heap.get? l=some { cls:=.type "list",data:=.seq Aw.toArray n }:=by
 obtain ⟨z,Aw,n,r,e⟩:=I.hok l _ hH;exact ⟨z,Aw,n,r,r.length,e⟩
end
section
variable {X:Cx}
def Qo:V->List V->Hp->VK->Prop:=fun x vs H Q=>∃ l xs y,x=.ref l/\vs=[y]/\H l=some (.lst xs)/\xs.length < sizeLine/\Q .non (upd H l (.lst (xs ++ [y])))
theorem Ck:MtM X "list.append" Qo:=by
 intro pins s σ H x vs v us Q I rx rv h;obtain ⟨l,xs,y,rfl,rfl,hH,hz,q⟩:=h;cases rx
 obtain ⟨u,rfl,ru⟩:=rv.one;obtain ⟨z,Aw,n,r,hl,e⟩:=I.lstM hH;refine call_meets F.slot_list_append ⟨_,e,rfl⟩ F.entry_list_append (F.args_list_append_2 _ _) (PySem.list_append l Aw.toArray n u (by rw [WC]; lia)) ⟨e,?_⟩;refine ⟨.non,_,I.lset (its':=Aw ++ [u]) hH e (by simp) (r.append (.cons ru .nil)) ?_,rfl,q⟩;rw [Ww,Xe];lia
def RM:V->List V->Hp->VK->Prop:=fun x vs H Q=>∃ l xs i k y,x=.ref l/\vs=[.int i]/\H l=some (.lst xs)/\-(2 ^ 63)<=i/\i < 2 ^ 63/\seqIndex? i xs.length=some k/\xs[k]? = some y/\Q y (upd H l (.lst (xs.eraseIdx k)))
theorem O6:MtM X "list.pop" RM:=by
 intro pins s σ H x vs v us Q I rx rv h;obtain ⟨l,xs,i,k,y,rfl,rfl,hH,h1,h2,hk,hy,q⟩:=h;cases rx
 obtain ⟨u,rfl,ru⟩:=rv.one;obtain ⟨t,rfl⟩:=ru;obtain ⟨z,Aw,n,r,hl,e⟩:=I.lstM hH;obtain ⟨w,hw,Mv⟩:=r.get hy;refine call_meets F.slot_list_pop ⟨_,e,rfl⟩ F.entry_list_pop (F.args_list_pop_2 _ _)
  (MeetsSeq.list_pop_at l Aw.toArray n i t k w (fitsIndex_both h1 h2) (by rw [WC,<-hl]; exact hk) (by rw [<-Xh]; exact hw) (by rw [WC]; lia)) ⟨e,?_⟩
 refine ⟨y,_,I.lset (its':=Aw.eraseIdx k) hH e ?_ (r.eraseIdx k) ?_,Mv,q⟩
 ·show Aw.toArray.eraseIdxIfInBounds k=(Aw.eraseIdx k).toArray
  rw [List.eraseIdxIfInBounds_toArray]
 ·have:=Ip xs k;lia
def rCat:R2:=fun x y H Q=>∃ l b xs zs,x=.ref l/\y=.ref b/\H l=some (.lst xs)/\H b=some (.lst zs)/\xs.length + zs.length<=sizeLine/\∀ p,H p=none->Q (.ref p) (upd H p (.lst (xs ++ zs)))
theorem F6:EL X (binaryOp .Add) rCat:=by
 intro pins s σ H x y v u Q I rx ry h;obtain ⟨l,b,xs,zs,rfl,rfl,hH,hB,hz,q⟩:=h;cases rx
 cases ry
 obtain ⟨z,Aw,n,r,hl,e⟩:=I.lstM hH;obtain ⟨z2,MP,n2,r2,OQ,e2⟩:=I.lstM hB;refine PySem.P.add_list e e2 ?_ (by rw [WC,WC]; lia);have ea:Aw.toArray ++ MP.toArray=(Aw ++ MP).toArray:=by simp
 rw [ea];exact ⟨.ref _,_,I.lnew (t':=s.toks) (r.append r2) (by rw [Ww]; lia),rfl,q _ I.fresh⟩
end
section
variable {prog:Program} {w:World} {A:Around} {E:Value->Shared->Prop} {s:Shared}
set_option maxRecDepth 100000 in
end
section
variable {X:Cx}
end
section
variable {κ:Type} [DecidableEq κ]
def Bn (kvs:List (κ × V)) (k:κ):Option V:=(kvs.find? fun kv=>decide (kv.1=k)).map (·.2)
def BK (kvs:List (κ × V)) (k:κ) (v:V):List (κ × V):=
 if (kvs.any fun kv=>decide (kv.1=k))=true then kvs.map (fun kv=>if kv.1=k then (kv.1,v) else kv) else kvs ++ [(k,v)]
def Hl (kvs:List (κ × V)) (k:κ):List (κ × V):=kvs.filter fun kv=>decide (kv.1 ≠ k)
theorem B7 {p:κ × V} {r:List (κ × V)} {k:κ} (e:p.1=k):Bn (p :: r) k=some p.2:=by simp [Bn,XG,e]
theorem Bx {p:κ × V} {r:List (κ × V)} {k:κ} (e:¬ p.1=k):Bn (p :: r) k=Bn r k:=by simp [Bn,XG,e]
theorem Cm (k:κ):∀ kvs:List (κ × V),(kvs.any fun kv=>decide (kv.1=k))=(Bn kvs k).isSome
 | []=>rfl
 | p :: r=>by
  rw [Yc];by_cases e:p.1=k
  ·simp only [B7 e,decide_eq_true e,Bool.true_or,Zh]
  ·rw [Bx e,decide_eq_false e,Bool.false_or]; exact Cm k r
theorem J7 (k j:κ) (y:V):∀ kvs:List (κ × V),Bn (kvs.map fun kv=>if kv.1=k then (kv.1,y) else kv) j=(Bn kvs j).map fun x=>if j=k then y else x
 | []=>rfl
 | p :: r=>by
  have ih:=J7 k j y r;rw [WG];by_cases h:p.1=k
  ·rw [if_pos h];by_cases e:p.1=j
   ·rw [B7 (p:=(p.1,y)) e,B7 e,Yf,if_pos (e.symm.trans h)]
   ·rw [Bx (p:=(p.1,y)) e,Bx e,ih]
  ·rw [if_neg h];by_cases e:p.1=j
   ·rw [B7 (p:=p) e,B7 e,Yf,if_neg (fun z=>h (e.trans z))]
   ·rw [Bx (p:=p) e,Bx e,ih]
theorem HS (k j:κ) (y:V):∀ kvs:List (κ × V),Bn kvs k=none->Bn (kvs ++ [(k,y)]) j=if j=k then some y else Bn kvs j
 | [],_=>by
  by_cases e:k=j
  ·rw [if_pos e.symm]; exact B7 (p:=(k,y)) e
  ·rw [if_neg (fun z=>e z.symm)]; exact Bx (p:=(k,y)) e
 | p :: r,hn=>by
  rw [YI];have hk:¬ p.1=k:=fun z=>by rw [B7 z] at hn; cases hn
  rw [Bx hk] at hn;have ih:=HS k j y r hn;by_cases e:p.1=j
  ·rw [B7 e,B7 e,if_neg (fun z=>hk (e.trans z))]
  ·rw [Bx e,Bx e,ih]
theorem NF (kvs:List (κ × V)) (k j:κ) (y:V):Bn (BK kvs k y) j=if j=k then some y else Bn kvs j:=by
 unfold BK;by_cases a:(kvs.any fun kv=>decide (kv.1=k))=true
 ·rw [if_pos a,J7];rw [Cm] at a;by_cases e:j=k
  ·obtain ⟨x,hx⟩:=Yp.mp a;rw [if_pos e,e,hx,Yf,if_pos rfl]
  ·rw [if_neg e];cases Bn kvs j with
   | none=>rfl
   | some x=>rw [Yf,if_neg e]
 ·rw [if_neg a];refine HS k j y kvs ?_;rw [Cm] at a;cases q:Bn kvs k with
  | none=>rfl
  | some x=>rw [q] at a; exact (a rfl).elim
theorem CV (kvs:List (κ × V)) (k:κ) (v:V):(BK kvs k v).length<=kvs.length + 1:=by
 unfold BK;split
 ·rw [Wj]; lia
 ·rw [Ww,WO,List.length_nil]; lia
theorem Oi {kvs:List (κ × V)} {k:κ} (v:V) (h:Bn kvs k=none):BK kvs k v=kvs ++ [(k,v)]:=by
 unfold BK;rw [Cm,h];exact if_neg (by decide)
theorem Gg.isSome_eq {o:Option V} {u:Option Value} (r:Gg o u):o.isSome=u.isSome:=by
 cases o with
 | none=>cases u with
  | none=>rfl
  | some _=>exact (show False from r).elim
 | some _=>cases u with
  | none=>exact (show False from r).elim
  | some _=>rfl
theorem Gg.getD {o:Option V} {u:Option Value} {d:V} {d':Value} (r:Gg o u) (rd:Az d d'):Az (o.getD d) (u.getD d'):=by
 cases o with
 | none=>cases u with
  | none=>exact rd
  | some _=>exact (show False from r).elim
 | some _=>cases u with
  | none=>exact (show False from r).elim
  | some _=>exact r
theorem KV.val {kvs:List (κ × V)} {vs:List (κ × Value)} (r:KV kvs vs) (k:κ):Gg (Bn kvs k) (valueAt vs k):=by
 unfold KV at r;induction r with
 | nil=>exact True.intro
 | @cons p q ps qs h t ih=>
  obtain ⟨h1,h2⟩:=h;by_cases e:p.1=k
  ·have e':q.1=k:=h1.symm.trans e;have b:valueAt (q :: qs) k=some q.2:=by simp [valueAt,XG,e']
   rw [B7 e,b]; exact h2
  ·have e':¬ q.1=k:=fun z=>e (h1.trans z)
   have b:valueAt (q :: qs) k=valueAt qs k:=by simp [valueAt,XG,e']
   rw [Bx e,b]; exact ih
theorem KV.any {kvs:List (κ × V)} {vs:List (κ × Value)} (r:KV kvs vs) (k:κ):(kvs.any fun kv=>decide (kv.1=k))=vs.any fun kv=>decide (kv.1=k):=by
 unfold KV at r;induction r with
 | nil=>rfl
 | cons h t ih=>rw [Yc,Yc,ih,h.1]
theorem KV.repl {kvs:List (κ × V)} {vs:List (κ × Value)} (r:KV kvs vs) (k:κ) {y:V} {u:Value} (ry:Az y u) :
  KV (kvs.map fun kv=>if kv.1=k then (kv.1,y) else kv) (vs.map fun kv=>if kv.1=k then (kv.1,u) else kv):=by
 unfold KV at r ⊢;induction r with
 | nil=>exact .nil
 | @cons p q ps qs h t ih=>
  rw [WG,WG];refine .cons ?_ ih;obtain ⟨h1,h2⟩:=h;by_cases e:p.1=k
  ·rw [if_pos e,if_pos (h1.symm.trans e)]; exact ⟨h1,ry⟩
  ·rw [if_neg e,if_neg (fun z=>e (h1.trans z))]; exact ⟨h1,h2⟩
theorem KV.put {kvs:List (κ × V)} {vs:List (κ × Value)} (r:KV kvs vs) (k:κ) {y:V} {u:Value} (ry:Az y u):KV (BK kvs k y) (stored vs k u):=by
 unfold BK stored;rw [r.any k];by_cases e:(vs.any fun kv=>decide (kv.1=k))=true
 ·rw [if_pos e,if_pos e]; exact r.repl k ry
 ·rw [if_neg e,if_neg e]; exact Paired.snoc r ⟨rfl,ry⟩
theorem KV.drop {kvs:List (κ × V)} {vs:List (κ × Value)} (r:KV kvs vs) (k:κ):KV (Hl kvs k) (without vs k):=by
 unfold KV at r ⊢;unfold Hl without;induction r with
 | nil=>exact .nil
 | @cons p q ps qs h t ih=>
  obtain ⟨h1,h2⟩:=h;rw [X9,X9];by_cases e:p.1=k
  ·have a:¬ decide (p.1 ≠ k)=true:=by simp [e]
   have b:¬ decide (q.1 ≠ k)=true:=by simp [h1.symm.trans e]
   rw [if_neg a,if_neg b]; exact ih
  ·have e':¬ q.1=k:=fun z=>e (h1.trans z)
   have a:decide (p.1 ≠ k)=true:=by simp [e]
   have b:decide (q.1 ≠ k)=true:=by simp [e']
   rw [if_pos a,if_pos b]; exact .cons ⟨h1,h2⟩ ih
theorem KV.length {kvs:List (κ × V)} {vs:List (κ × Value)} (r:KV kvs vs):kvs.length=vs.length:=Paired.length r
theorem Pf (kvs:List (κ × V)) (k:κ):(Hl kvs k).length<=kvs.length:=XY _ _
end
theorem GY {P:Program} {w:World} {k:AV} {u:Value} (r:Az (kV k) u):(Bk P w).is k u=true:=by
 cases k with
 | inl i=>obtain ⟨t,e⟩:=(show ∃ t,u=Value.int i t from r); subst e; exact JR P w i t
 | inr x=>obtain ⟨t,e⟩:=(show ∃ t,u=Value.str x t from r); subst e; exact JQ P w x t
theorem Ir {P:Program} {w:World}:∀ {ks:List AV} {us:List Value},A7 (ks.map kV) us->ItemsAre (Bk P w) ks us
 | [],_,r=>by rw [YZ] at r; cases r; exact .nil
 | k :: ks,_,r=>by
  rw [WG] at r;cases r with
  | cons h t=>exact .cons (GY h) (Ir t)
abbrev KT (H:Hp):List (List AV × V)->List (List AV × Addr × Value)->Prop:=Paired fun p q=>p.1=q.1/\H q.2.1=some (.tup (p.1.map kV))/\Az p.2 q.2.2
theorem KT.val {H:Hp} {kvs:List (List AV × V)} {xs:List (List AV × Addr × Value)} (r:KT H kvs xs) (k:List AV):Gg (Bn kvs k) ((atKey xs k).map (·.2)):=by
 induction r with
 | nil=>exact True.intro
 | @cons p q ps qs h t ih=>
  obtain ⟨h1,_,h2⟩:=h;by_cases e:p.1=k
  ·have e':q.1=k:=h1.symm.trans e;have b:atKey (q :: qs) k=some q.2:=by simp [atKey,XG,e']
   rw [B7 e,b]; exact h2
  ·have e':¬ q.1=k:=fun z=>e (h1.trans z)
   have b:atKey (q :: qs) k=atKey qs k:=by simp [atKey,XG,e']
   rw [Bx e,b]; exact ih
theorem KT.repl {H:Hp} {kvs:List (List AV × V)} {xs:List (List AV × Addr × Value)} (r:KT H kvs xs) (k:List AV) {y:V} {u:Value} (ry:Az y u) :
  KT H (kvs.map fun kv=>if kv.1=k then (kv.1,y) else kv) (xs.map (putAt k u)):=by
 induction r with
 | nil=>exact .nil
 | @cons p q ps qs h t ih=>
  rw [WG,WG];refine .cons ?_ ih;obtain ⟨h1,h2,h3⟩:=h;unfold putAt;by_cases e:p.1=k
  ·rw [if_pos e,if_pos (h1.symm.trans e)]; exact ⟨h1,h2,ry⟩
  ·rw [if_neg e,if_neg (fun z=>e (h1.trans z))]; exact ⟨h1,h2,h3⟩
theorem KT.put {H:Hp} {kvs:List (List AV × V)} {xs:List (List AV × Addr × Value)} (r:KT H kvs xs) (k:List AV) {b:Addr} {y:V} {u:Value} (hb:H b=some (.tup (k.map kV))) (ry:Az y u) :
  KT H (BK kvs k y) (storedH xs k b u):=by
 have e:(kvs.any fun kv=>decide (kv.1=k))=(atKey xs k).isSome:=by
  rw [Cm,(r.val k).isSome_eq,Zl]
 unfold BK storedH;rw [e];by_cases q:(atKey xs k).isSome=true
 ·rw [if_pos q,if_pos q]; exact r.repl k ry
 ·rw [if_neg q,if_neg q]; exact Paired.snoc r ⟨rfl,hb,ry⟩
theorem KT.keeps {H H':Hp} {kvs:List (List AV × V)} {xs:List (List AV × Addr × Value)} (r:KT H kvs xs) (ht:∀ b ys,H b=some (.tup ys)->H' b=some (.tup ys)):KT H' kvs xs:=
 Paired.mapP r fun _ _ z=>⟨z.1,ht _ _ z.2.1,z.2.2⟩
section
variable {P:Program} {w:World} {H:Hp} {h:Heap} {a:Addr}
theorem Rj {u:HO} (ok:EM P w H h) (e:Rd H a u):A6 P w H h a u:=e.ok ok
theorem IB {kvs:List (AV × V)} (ok:EM P w H h) (e:Rd H a (.dK kvs)):kvs.length<=sizeLine/\(a == sysModules)=false/\∃ vs,KV kvs vs/\h.DictOf (Bk P w) a vs:=
 show A6 P w H h a (.dK kvs) from Rj ok e
theorem Pg {kvs:List (AV × V)} (ok:EM P w H h) (e:H a=some (.dK kvs)):kvs.length<=sizeLine/\(a == sysModules)=false/\∃ vs,KV kvs vs/\h.DictOf (Bk P w) a vs:=IB ok (.inl e)
theorem GV {ks:List AV} (ok:EM P w H h) (e:H a=some (.tup (ks.map kV))):(tupleKind (Bk P w)).is h ks a:=by
 obtain ⟨_,Aw,r,⟨o,h1,h2,n,h3⟩,_⟩:=(show A6 P w H h a (.tup (ks.map kV)) from ok a _ e)
 exact ⟨o,Aw.toArray,n,h1,h2,h3,by simpa using Ir r⟩
theorem I0 {kvs:List (List AV × V)} (ok:EM P w H h) (e:Rd H a (.dT kvs)):kvs.length<=sizeLine/\(a == sysModules)=false /\
  ∃ xs,KT H kvs xs/\h.DictOfH (tupleKind (Bk P w)) a xs:=by
 obtain ⟨z,y,xs,r,o,es,ep,h1,h2,h3,h4,h5⟩:=(show A6 P w H h a (.dT kvs) from Rj ok e)
 refine ⟨z,y,xs,r,o,es,ep,h1,h2,h3,h4,fun x hx=>?_,h5⟩;have all:∀ {l:List (List AV × V)} {m:List (List AV × Addr × Value)},KT H l m->∀ x ∈ m,(tupleKind (Bk P w)).is h x.1 x.2.1:=by
  intro l m q;induction q with
  | nil=>intro x hx; exact nomatch hx
  | @cons p q ps qs hq t ih=>
   intro x hx;rcases Wn.mp hx with e | hx
   ·subst e;exact GV ok (by rw [<-hq.1]; exact hq.2.1)
   ·exact ih x hx
 exact all r x hx
theorem dt_of {kvs:List (List AV × V)} (ok:EM P w H h) (e:H a=some (.dT kvs)):kvs.length<=sizeLine/\(a == sysModules)=false /\
  ∃ xs,KT H kvs xs/\h.DictOfH (tupleKind (Bk P w)) a xs:=I0 ok (.inl e)
end
def BX (H:Hp) (a:Addr) (y:V) (r:Option V):Prop:=
 (∃ kvs k,Rd H a (.dK kvs)/\y=kV k/\r=Bn kvs k)\/∃ kvs k b,Rd H a (.dT kvs)/\y=.ref b/\H b=some (.tup (k.map kV))/\r=Bn kvs k
def DO (H:Hp) (a:Addr) (y v:V) (H':Hp):Prop:=
 (∃ kvs k,H a=some (.dK kvs)/\y=kV k/\kvs.length < sizeLine/\H'=upd H a (.dK (BK kvs k v))) \/
 ∃ kvs k b,H a=some (.dT kvs)/\y=.ref b/\H b=some (.tup (k.map kV))/\kvs.length < sizeLine/\H'=upd H a (.dT (BK kvs k v))
theorem BX.k {H:Hp} {a:Addr} {kvs:List (AV × V)} {k:AV} (e:H a=some (.dK kvs)):BX H a (kV k) (Bn kvs k):=.inl ⟨kvs,k,.inl e,rfl,rfl⟩
theorem BX.t {H:Hp} {a b:Addr} {kvs:List (List AV × V)} {k:List AV} (e:H a=some (.dT kvs)) (eb:H b=some (.tup (k.map kV))):BX H a (.ref b) (Bn kvs k):=.inr ⟨kvs,k,b,.inl e,rfl,eb,rfl⟩
theorem DO.k {H:Hp} {a:Addr} {kvs:List (AV × V)} {k:AV} {v:V} (e:H a=some (.dK kvs)) (hl:kvs.length < sizeLine):DO H a (kV k) v (upd H a (.dK (BK kvs k v))):=.inl ⟨kvs,k,e,rfl,hl,rfl⟩
theorem DO.t {H:Hp} {a b:Addr} {kvs:List (List AV × V)} {k:List AV} {v:V} (e:H a=some (.dT kvs)) (eb:H b=some (.tup (k.map kV))) (hl:kvs.length < sizeLine) :
  DO H a (.ref b) v (upd H a (.dT (BK kvs k v))):=.inr ⟨kvs,k,b,e,rfl,eb,hl,rfl⟩
section
variable {X:Cx} {pins:List (Addr × Obj)} {σ:St} {H:Hp} {s:Shared} {a:Addr} {y v:V} {u r:Value} {o:Option V} {A:Around} {E:Value->Shared->Prop}
theorem An.big (I:An X pins σ H s):sysModules < s.heap.objs.size:=by
 have h:mainGlobals < s.heap.objs.size:=(I.mod.glob.keeps I.bk).lt;exact Nat.lt_trans (by decide) h
theorem Nc {Q:Value->Shared->Prop} (hu:A.units + 1 < cLine) (I:An X pins σ H s) (g:BX H a y (some v)) (ry:Az y u) (h:∀ w' s',An X pins σ H s'->Az v w'->Q w' s') :
  wpAny (model X.prog X.w) A (getItem (.ref a) u) Q E s:=by
 rcases g with ⟨kvs,k,e,ey,l⟩ | ⟨kvs,k,b,e,ey,eb,l⟩
 ·subst ey;obtain ⟨z,hd,vs,rel,dd⟩:=IB I.hok e;obtain ⟨w',hw,Mv⟩:=Gg.some_of (v:=v) (o:=valueAt vs k) (by rw [l]; exact rel.val k);exact wpAny_getItem_of (GY ry) dd.mapOf hw (h w' _ (I.tok _) Mv)
 ·subst ey;cases (show u=Value.ref b from ry)
  obtain ⟨z,hd,xs,rel,dd⟩:=I0 I.hok e;obtain ⟨w',hw,Mv⟩:=Gg.some_of (v:=v) (o:=(atKey xs k).map (·.2)) (by rw [l]; exact rel.val k);obtain ⟨p,hp,hp2⟩:=Option.map_eq_some_iff.mp hw;refine wpAny_getItem_heap (tupleKind_room_in1 hu) (GV I.hok eb) dd hp ?_;rw [hp2];exact h w' _ (I.tok _) Mv
theorem QR {Q:Value->Shared->Prop} (hu:A.units + 1 < cLine) (I:An X pins σ H s) (g:BX H a y o) (ry:Az y u) (h:∀ s',An X pins σ H s'->Q (.bool (!o.isSome)) s') :
  wpAny (model X.prog X.w) A (compareOp .NotIn u (.ref a)) Q E s:=by
 rcases g with ⟨kvs,k,e,ey,l⟩ | ⟨kvs,k,b,e,ey,eb,l⟩
 ·subst ey;obtain ⟨z,hd,vs,rel,dd⟩:=IB I.hok e;refine wpAny_notIn_of (GY ry) hd dd.mapOf ?_;rw [<-(rel.val k).isSome_eq,<-l];exact h _ (I.tok _)
 ·subst ey;cases (show u=Value.ref b from ry)
  obtain ⟨z,hd,xs,rel,dd⟩:=I0 I.hok e;refine wpAny_notIn_heap (tupleKind_room_in1 hu) (GV I.hok eb) hd dd ?_;have q:=(rel.val k).isSome_eq;rw [Zl] at q;rw [<-q,<-l];exact h _ (I.tok _)
theorem Gr {h':Heap} {t':Nat} {ob:HO} (I:An X pins σ H s) (mu:Mut (H a)) (hs:Heap.SameBut a s.heap h') (he:∃ q,h'.get? a=some q) (new:A6 X.prog X.w (upd H a ob) h' a ob) :
  An X pins σ (upd H a ob) { s with heap:=h',toks:=t' }:=
 I.write (x:=a) (e:=a) mu (.inl rfl) (fun b q hb z=>(hs.2 b hb).trans z) he new
theorem Le {P:Program} {w:World} {H':Hp} {h':Heap} {kvs:List (AV × V)} {vs:List (AV × Value)} (z:kvs.length<=sizeLine) (hd:(a == sysModules)=false) (rel:KV kvs vs) (dd:h'.DictOf (Bk P w) a vs) :
  A6 P w H' h' a (.dK kvs):=⟨z,hd,vs,rel,dd⟩
theorem Nb {H':Hp} {Q:Unit->Shared->Prop} (hu:A.units + 1 < cLine) (I:An X pins σ H s) (g:DO H a y v H') (ry:Az y u) (rv:Az v r) (h:∀ s',An X pins σ H' s'->Q () s') :
  wpAny (model X.prog X.w) A (setItem (.ref a) u r) Q E s:=by
 rcases g with ⟨kvs,k,e,ey,l,eH⟩ | ⟨kvs,k,b,e,ey,eb,l,eH⟩
 ·subst ey eH;obtain ⟨z,hd,vs,rel,dd⟩:=Pg I.hok e;have hz:vs.length<=sizeLine:=by rw [<-rel.length]; exact z
  have hl:(BK kvs k v).length<=sizeLine:=by have:=CV kvs k v; lia
  refine wpAny_setItem_pairs (hsz:=hz) (GY ry) dd fun h' PR hs=>h _ ?_
  have he:∃ q,h'.get? a=some q:=let ⟨q,_,_,hq,_⟩:=PR; ⟨q,hq⟩;exact Gr I (by rw [e]; exact True.intro) hs he (Le hl hd (rel.put k rv) PR)
 ·subst ey eH;cases (show u=Value.ref b from ry)
  obtain ⟨z,hd,xs,rel,dd⟩:=dt_of I.hok e;have hz:xs.length<=sizeLine:=by rw [<-Paired.length rel]; exact z
  have hl:(BK kvs k v).length<=sizeLine:=by have:=CV kvs k v; lia
  refine wpAny_setItem_heap (hsz:=hz) (tupleKind_room_in1 hu) (GV I.hok eb) dd fun h' PR hs=>h _ ?_
  obtain ⟨q,es,ep,hq,h2,h3,h4,_,h5⟩:=PR;refine Gr I (by rw [e]; exact True.intro) hs ⟨q,hq⟩ ⟨hl,hd,_,(rel.put k eb rv).keeps fun c ys ec=>?_,q,es,ep,hq,h2,h3,h4,h5⟩;rw [Ae (Br ec e (fun z=>nomatch z))];exact ec
end
section
variable {X:Cx} {pins:List (Addr × Obj)} {σ:St} {H:Hp} {s:Shared} {a:Addr} {kvs:List (AV × V)} {k:AV} {u:Value} {A:Around} {E:Value->Shared->Prop}
theorem Nd {Q:Unit->Shared->Prop} (I:An X pins σ H s) (e:H a=some (.dK kvs)) (ry:Az (kV k) u) (l:(Bn kvs k).isSome=true) (h:∀ s',An X pins σ (upd H a (.dK (Hl kvs k))) s'->Q () s') :
  wpAny (model X.prog X.w) A (delItem (.ref a) u) Q E s:=by
 obtain ⟨z,hd,vs,rel,dd⟩:=Pg I.hok e;refine wpAny_delItem_slot dd.typeIs (by decide) PySem.F.slot_dict_delitem
  (call_meetsIn PySem.F.slot_dict_delitem dd.typeIs PySem.F.entry_dict_delitem (PySem.F.args_dict_delitem_2 _ _) (meets_dict_delitem_pairs (Bk X.prog X.w) a (GY ry)) ⟨vs,dd,by rw [<-rel.length]; exact z,by rw [<-(rel.val k).isSome_eq]; exact l,fun h' PR hs=>h _ ?_⟩)
 have he:∃ q,h'.get? a=some q:=let ⟨q,_,_,hq,_⟩:=PR; ⟨q,hq⟩;exact Gr I (by rw [e]; exact True.intro) hs he (Le (WJ (Pf kvs k) z) hd (rel.drop k) PR)
end
def NoSl (i:Expr):Prop:=∀ ov iv,subscripted i false ov iv=operate [ov,iv] (getItem ov iv)
theorem Qg {prog:Program} {w:World} {A:Around} {E:Value->Shared->Prop} {s:Shared} {env:Env} {value slice:Expr} {pos:Pos} {T id:String} {Q:Value->Shared->Prop}
  (hl:typeLookup (.type T) "__getitem__"=pure (some (.builtin id))) (hs:NoSl slice)
  (h:wpAny (model prog w) A (eval value env) (fun o AS=>wpAny (model prog w) A (eval slice env) (fun i EU=>EU.TypeIs o T/\wpAny (model prog w) A (getItem o i) Q E EU) E AS) E s) :
  wpAny (model prog w) A (eval (.Subscript value slice pos) env) Q E s:=by
 refine Subscript_ (wpAny_mono h (fun o AS AA=>wpAny_mono AA (fun i EU KW=>?_) fun _ _ x=>x) fun _ _ x=>x);obtain ⟨hT,KW⟩:=KW;unfold subscriptTail;refine wpAny_bind ?_;rw [getitemInPython_of_ne hT.not_modules];refine wpAny_bind (wpAny_specialOf hT hl ?_);have fin:wpAny (model prog w) A (subscripted slice false o i) (fun r BW=>wpAny (model prog w) A (letTemporaryGo value o r >>= fun _=>pure r) Q E BW) E EU:=by
  rw [hs o i];exact wpAny_operating (wpAny_mono KW (fun r BW KU=>wpAny_bind (wpAny_letTemporaryGo (wpAny_pure KU))) fun _ _ x=>x)
 first
  | exact wpAny_pure (wpAny_bind fin)
  | exact wpAny_bind (wpAny_pure (wpAny_bind fin))
  | exact wpAny_bind fin
theorem Ke {X:Cx} {pins:List (Addr × Obj)} {σ:St} {H:Hp} {s:Shared} {a:Addr} {y:V} {o:Option V} (I:An X pins σ H s) (g:BX H a y o):s.TypeIs (.ref a) "dict":=by
 rcases g with ⟨kvs,k,e,_,_⟩ | ⟨kvs,k,b,e,_,_,_⟩
 ·obtain ⟨_,_,vs,_,dd⟩:=IB I.hok e;exact dd.typeIs
 ·obtain ⟨_,_,xs,_,dd⟩:=I0 I.hok e;exact dd.typeIs
def tDGet (td ty:TE):TE:=fun σ H Q=>td σ H fun x H1=>ty σ H1 fun y H2=>∃ a v,x=.ref a/\BX H2 a y (some v)/\Q v H2
def Qe (ty td:TE):TE:=fun σ H Q=>ty σ H fun y H1=>td σ H1 fun x H2=>∃ a o,x=.ref a/\BX H2 a y o/\Q (.bl (!o.isSome)) H2
def sDPut (td ty tv:TE):TS:=fun D σ H=>tv σ H fun v H1=>td σ H1 fun x H2=>ty σ H2 fun y H3=>∃ a H4,x=.ref a/\DO H3 a y v H4/\D.nx σ H4
def sDDel (td ty:TE):TS:=fun D σ H=>td σ H fun x H1=>ty σ H1 fun y H2=>∃ a kvs k,x=.ref a/\H2 a=some (.dK kvs)/\y=kV k/\(Bn kvs k).isSome=true/\D.nx σ (upd H2 a (.dK (Hl kvs k)))
section
variable {X:Cx} {o i e value:Expr} {pos pos' tpos:Pos} {td ty tv:TE}
theorem Bj (hu:X.A.units + 1 < cLine) (ho:PE X o td) (hi:PE X i ty) (hs:NoSl i):PE X (.Subscript o i pos) (tDGet td ty):=by
 intro pins s σ H Q I h;refine Qg PySem.F.slot_dict_getitem.lookup hs (BF (ho (pins:=pins) s σ H _ I h) fun u s1 ⟨x,H1,I1,rx,q1⟩=>BF (hi (pins:=pins) s1 σ H1 _ I1 q1) fun iv s2 ⟨y,H2,I2,ry,a,v,ex,g,q2⟩=>?_);subst ex;obtain rfl:u=Value.ref a:=rx;exact ⟨Ke I2 g,Nc hu I2 g ry fun w' s3 I3 Mv=>⟨v,H2,I3,Mv,q2⟩⟩
theorem Ih (hu:X.A.units + 1 < cLine) (hi:PE X i ty) (ho:PE X o td):PC X .NotIn i o (Qe ty td):=by
 intro pins s σ H Q I h;refine BF (hi (pins:=pins) s σ H _ I h) fun iv s1 ⟨y,H1,I1,ry,q1⟩=>BF (ho (pins:=pins) s1 σ H1 _ I1 q1) fun u s2 ⟨x,H2,I2,rx,a,ov,ex,g,q2⟩=>?_
 subst ex;obtain rfl:u=Value.ref a:=rx;exact QR hu I2 g ry fun s3 I3=>⟨.bl (!ov.isSome),H2,I3,rfl,q2⟩
theorem Cp (hu:X.A.units + 1 < cLine) (ho:PE X o td) (hi:PE X i ty) (hv:PE X value tv) (hs:swapsWith value (some (.Subscript o i pos')) pos.line X.env=pure false) :
  PS X (.Assign [.Subscript o i pos'] value pos) (sDPut td ty tv):=by
 intro pins s σ H D I h;refine wpAny_Assign_Subscript (BF (hv (pins:=pins) s σ H _ I h) fun r s1 ⟨v,H1,I1,rv,q1⟩=>BF (ho (pins:=pins) s1 σ H1 _ I1 q1) fun u s2 ⟨x,H2,I2,rx,q2⟩=>BF (hi (pins:=pins) s2 σ H2 _ I2 q2) fun iv s3 ⟨y,H3,I3,ry,a,H4,ex,g,q3⟩=>?_) hs;subst ex;obtain rfl:u=Value.ref a:=rx;exact Nb hu I3 g ry rv fun s4 I4=>⟨σ,H4,I4,q3⟩
theorem Qp (ho:PE X o td) (hi:PE X i ty):PS X (.Delete [.Subscript o i tpos] pos) (sDDel td ty):=by
 intro pins s σ H D I h;refine wpAny_Delete (wpAny_deleteEach_cons (wpAny_delete_Subscript (BF (ho (pins:=pins) s σ H _ I h) fun u s1 ⟨x,H1,I1,rx,q1⟩=>BF (hi (pins:=pins) s1 σ H1 _ I1 q1) fun iv s2 ⟨y,H2,I2,ry,a,kvs,k,ex,e,ey,l,q2⟩=>?_)));subst ex ey;obtain rfl:u=Value.ref a:=rx;exact Nd I2 e ry l fun s3 I3=>wpAny_deleteEach_nil ⟨σ,_,I3,q2⟩
end
theorem Ft {P:Program} {w:World} {H:Hp} (h:Heap) (hb:sysModules < h.objs.size):A6 P w H (h.push { cls:=.type "dict",data:=.dict #[] }) h.objs.size (.dK []):=
 ⟨WR _,beq_eq_false_iff_ne.mpr (Ne.symm (W6 hb)),[],.nil,Heap.DictOf.new h⟩
theorem Pd {P:Program} {w:World} {H:Hp} (h:Heap) (hb:sysModules < h.objs.size):A6 P w H (h.push { cls:=.type "dict",data:=.dict #[] }) h.objs.size (.dT []):=
 ⟨WR _,beq_eq_false_iff_ne.mpr (Ne.symm (W6 hb)),[],.nil,_,#[],0,W0 _ rfl,⟨rfl,rfl,rfl⟩,rfl,rfl,List.nodup_nil⟩
def RH:TE:=fun _ H Q=>∀ p,H p=none->Q (.ref p) (upd H p (.dK []))
def RG:TE:=fun _ H Q=>∀ p,H p=none->Q (.ref p) (upd H p (.dT []))
section
variable {X:Cx} {pos:Pos}
theorem GB:PE X (.Dict [] [] pos) RH:=fun pins s σ H Q I h=>
 wpAny_Dict_empty ⟨.ref s.heap.objs.size,_,I.laid (a:=s.heap.objs.size) (o:=.dK []) (t':=s.toks) (fun _ _ q=>Wl _ q) (Wq _) (Ft s.heap I.big),rfl,h _ (I.hok.fresh (Wq _))⟩
theorem JL:PE X (.Dict [] [] pos) RG:=fun pins s σ H Q I h=>
 wpAny_Dict_empty ⟨.ref s.heap.objs.size,_,I.laid (a:=s.heap.objs.size) (o:=.dT []) (t':=s.toks) (fun _ _ q=>Wl _ q) (Wq _) (Pd s.heap I.big),rfl,h _ (I.hok.fresh (Wq _))⟩
end
structure M2 (X:Cx) (o:Expr) (m:Str) (apos:Pos) (e f:Expr) (ED:Pos):Prop where
 base:attributeBase o m X.env (eval o X.env)=eval o X.env
 few:((backTo ED (starEach [e,f] X.env)).all (fun x=>!x.1) && (backToKw ED (keywordEach [] X.env)).all (fun x=>x.1.isSome)
  && decide (([e,f]:List Expr).length + ([]:List Keyword).length + (if ([]:List Keyword).isEmpty then 0 else 1) < 30))=true
 line:(apos.endLine == ED.line)=true
 trees:backTo ED (starEach [e,f] X.env)=[(false,eval e X.env),(false,eval f X.env)]
def IsD (H:Hp) (a:Addr):Prop:=(∃ kvs,Rd H a (.dK kvs))\/∃ kvs,Rd H a (.dT kvs)
theorem Sh {X:Cx} {pins:List (Addr × Obj)} {σ:St} {H:Hp} {s:Shared} {a:Addr} (I:An X pins σ H s) (d:IsD H a) :
  s.TypeIs (.ref a) "dict"/\(∀ b,Value.ref a=.ref b->∃ ob,s.heap.get? b=some ob/\ob.dict=none)/\(a == sysModules)=false:=by
 rcases d with ⟨kvs,e⟩ | ⟨kvs,e⟩
 ·obtain ⟨_,hd,vs,_,dd⟩:=IB I.hok e;refine ⟨dd.typeIs,fun b q=>?_,hd⟩;cases q
  obtain ⟨ob,_,_,h1,h2,_⟩:=dd;exact ⟨ob,h1,h2.2.1⟩
 ·obtain ⟨_,hd,xs,_,dd⟩:=I0 I.hok e;refine ⟨dd.typeIs,fun b q=>?_,hd⟩;cases q
  obtain ⟨ob,_,_,h1,h2,_⟩:=dd;exact ⟨ob,h1,h2.2.1⟩
section
variable {X:Cx} {pins:List (Addr × Obj)} {σ:St} {H:Hp} {s:Shared} {a:Addr} {y d:V} {u r:Value} {o:Option V} {A:Around} {E:Value->Shared->Prop}
theorem S9 {Q:Value->Shared->Prop} (hu:A.units + 1 < cLine) (I:An X pins σ H s) (g:BX H a y o) (ry:Az y u) (rd:Az d r) (h:∀ w' s',An X pins σ H s'->Az (o.getD d) w'->Q w' s') :
  wpAny (model X.prog X.w) A (call (.builtin "dict.get") [.ref a,u,r]) Q E s:=by
 rcases g with ⟨kvs,k,e,ey,l⟩ | ⟨kvs,k,b,e,ey,eb,l⟩
 ·subst ey;obtain ⟨z,hd,vs,rel,dd⟩:=IB I.hok e;refine call_meetsIn PySem.F.slot_dict_get dd.typeIs PySem.F.entry_dict_get (PySem.F.args_dict_get_3 _ _ _) (meets_dict_get_default (Bk X.prog X.w) a (GY ry) hd r) ⟨_,dd.mapOf,h _ _ (I.tok _) ?_⟩;rw [l];exact (rel.val k).getD rd
 ·subst ey;cases (show u=Value.ref b from ry)
  obtain ⟨z,hd,xs,rel,dd⟩:=I0 I.hok e;refine call_meetsIn PySem.F.slot_dict_get dd.typeIs PySem.F.entry_dict_get (PySem.F.args_dict_get_3 _ _ _) (meetsH_dict_get_default (tupleKind (Bk X.prog X.w)) a b hd r) ⟨tupleKind_room_in1 hu,k,xs,GV I.hok eb,dd,h _ _ (I.tok _) ?_⟩;rw [l];exact (rel.val k).getD rd
end
def RI (td ty tx:TE):TE:=fun σ H Q=>td σ H fun x H1=>∃ a,x=.ref a/\IsD H1 a/\ty σ H1 fun y H2=>tx σ H2 fun z H3=>∃ o,BX H3 a y o/\Q (o.getD z) H3
section
variable {X:Cx} {o e f:Expr} {apos ED:Pos} {td ty tx:TE}
theorem Ou (hu:X.A.units + 1 < cLine) (ho:PE X o td) (he:PE X e ty) (hf:PE X f tx) (m:M2 X o "get" apos e f ED):PE X (.Call (.Attribute o "get" apos) [e,f] [] ED) (RI td ty tx):=by
 intro pins s σ H Q I h;refine wpAny_Call_method m.base m.few m.line PySem.F.plainAttrs_dict PySem.F.slot_dict_get PySem.F.type_dict_get (BF (ho (pins:=pins) s σ H _ I h) fun u s1 ⟨x,H1,I1,rx,a,ex,d,q1⟩=>?_);subst ex;obtain rfl:u=Value.ref a:=rx;obtain ⟨t1,t2,_⟩:=Sh I1 d;exists t1,t2;rw [m.trees];refine Calls.callWith_builtin rfl (Calls.evalArgs_plain (Calls.spliced_cons (BF (he (pins:=pins) s1 σ H1 _ I1 q1) fun iv s2 ⟨y,H2,I2,ry,q2⟩=>
  Calls.spliced_cons (BF (hf (pins:=pins) s2 σ H2 _ I2 q2) fun fv s3 ⟨z,H3,I3,rz,ov,g,q3⟩=>Calls.spliced_nil ?_))))
 exact S9 hu I3 g ry rz fun w' s4 I4 Mv=>⟨_,H3,I4,Mv,q3⟩
end
section
variable {X:Cx} {pins:List (Addr × Obj)} {σ:St} {H:Hp} {s:Shared} {a:Addr} {kvs:List (AV × V)} {A:Around} {E:Value->Shared->Prop}
end
section
variable {X:Cx} {pins:List (Addr × Obj)} {σ:St} {H:Hp} {s:Shared} {a:Addr} {y:V} {u:Value} {A:Around} {E:Value->Shared->Prop}
end
end L2
namespace Att
open PySem PySem.W PySem.Calls PyProof.Rows
theorem Ga {P:Params} {h:Heap}:∀ (ns:List Int) (vs:List Value),WellAll P h vs (ns.map WData.int)->IntsAre vs ns:=by
 intro ns;induction ns with
 | nil=>
  intro vs w;rw [YZ] at w;cases w
  exact .nil
 | cons n ns ih=>
  intro vs w;rw [WG] at w;cases w with
  | cons a b=>
   cases a
   exact .cons _ _ (ih _ b)
theorem Mu {l:OpenLaw} {n:Nat} (hn:l.most=some n) {P:Params} {h:Heap} {args:List WData} {vals:List Value}
  (hpre:l.row.toRowW.claim.pre args=true) (hwl:WellAll P h vals args) :
  ∃ a vs ns,vals=[Value.ref a]/\args=[WData.list (ns.map WData.int)]/\h.get? a=some { cls:=.type "list",data:=.seq vs.toArray }/\IntsAre vs ns/\ns.length<=n:=by
 have hsh:WShape.hasAll [] args [.list .int]=true:=(pre_splitW hpre).1;have hc:l.pre.holds [] { args:=args } = true:=(pre_splitW hpre).2;obtain ⟨d,r,rfl,h1,h2⟩:=hasAllW_cons hsh;obtain rfl:=hasAllW_nil h2;obtain ⟨xs,rfl,h3⟩:=hasW_list h1;obtain ⟨ns,rfl⟩:=items_int h3;have hlen:ns.length<=n:=by
  unfold OpenLaw.pre at hc;have h4:(WTm.not (.lt (.lit (.int (n:Int))) (.len (.arg 0)))).holds [] { args:=[.list (ns.map .int)] } = true:=by
   have h4:=(holds_andW hc).1;rw [hn] at h4;exact h4
  have h5:=condW_of h4 (w_not (w_lt w_lit (w_len_list (w_arg rfl))));rw [Wj] at h5;refine Nat.le_of_not_lt fun q=>?_
  have q':(n:Int) < ((ns.length:Nat):Int):=by lia
  first
   | (rw [decide_eq_true q'] at h5; exact absurd h5 (by decide))
   | (simp at h5; lia)
 cases hwl with
 | cons w1 w2=>
  cases w2
  cases w1 with
  | list ho hall=>exact ⟨_,_,ns,rfl,rfl,ho,Ga ns _ hall,hlen⟩
theorem M3 (l:OpenLaw) (args:List WData):l.row.toRowW.claim.post args (.bool true) args=true:=
 postW_of (r:=l.row.toRowW) (X:=(true == true))
  (show WShape.has [] (.bool true) .bool=true by first | rfl | decide | simp [WShape.has,WShape.arms,WShape.armsAll])
  (show (WTm.eq .res (.lit (.bool true))).value [] { args:=args,res:=some (.bool true),after:=args } = some (.bool (true == true)) from w_eq_bool (w_res rfl) w_lit) rfl
theorem attach_call {l:OpenLaw} {n:Nat} {q:Program} {loose:List Str} {XP:(Str->Option Value)->Heap->Prop} {YP:World->Heap->Prop} {d:DefRec}
  (hn:l.most=some n) (hdf:d.params.defaults=[])
  (call:∀ (w:World) (s₀ AS:Shared) (mg mb:Str->Option Value) (fa:Addr) (o:Obj) (pm cd doc:Value) (a:Addr) (vs:List Value) (ns:List Int),
   Ground q loose [] XP w s₀ mg mb AS.heap->YP w AS.heap ->
   AS.heap.get? fa=some o->o.data=.func (docDef d.name d.params d.body d.scope pm cd doc)->AS.heap.CodeRec cd d.name->mg d.name=some (.ref fa) ->
   AS.heap.get? a=some { cls:=.type "list",data:=.seq vs.toArray }->IntsAre vs ns->ns.length<=n->AS.gens=#[] ->
   codeAny (model l.prog w) callerA (.call (.ref fa) ⟨[.ref a],[]⟩) (fun r s'=>r=.ok (.ret (.bool true))/\OldK AS.heap s'.heap/\s'.os=AS.os/\AllBare s'.gens) AS) :
  WalkO q loose XP YP l.row.toRowW d [] (fun f vs=>PySem.call f vs):=by
 intro w s₀ AS mg mb G Y fa o pm cd doc dV kV ho hd hcd hD hmg hg args vals as hpre hlay hrd hwl hlo;obtain rfl:dV=.none:=Dflts.none hD hdf;obtain rfl:kV=.none:=Dflts.noKw hD;obtain ⟨a,vs,ns,rfl,rfl,hobj,hints,hlen⟩:=Mu hn hpre hwl;refine enter_call (codeAny_mono (call w s₀ AS mg mb fa o pm cd doc a vs ns G Y ho (fd_plain hd) hcd hmg hobj hints hlen hg) fun r s' hq=>?_);obtain ⟨rfl,h2,h3,h4⟩:=hq;exact ⟨.inl ⟨.bool true,.bool true,[],rfl,fun _=>rfl,.bool true,M3 l _,fun _=>⟨List.Pairwise.nil,fun _ hm=>(nomatch hm)⟩⟩,h2,h3,h4⟩
section
variable {prog:Program} {w:World} {A:Around} {E:Value->Shared->Prop} {s:Shared} {K:Frag}
end
end Att
namespace L2
open PySem PySem.Spec PyProof.Rows
theorem HR:∀ {vs:List Value} {ns:List Int},IntsAre vs ns->A7 (ns.map V.int) vs
 | _,_,.nil=>.nil
 | _,_,.cons n t h=>.cons ⟨t,rfl⟩ (HR h)
def C2 (s:Stmt):Arguments:=match s with
 | .FunctionDef _ a _ _ _ _ _ _ _ _=>a
 | _=>{ posonlyargs:=[],args:=[],vararg:=none,kwonlyargs:=[],kw_defaults:=[],kwarg:=none,defaults:=[] }
def B6 (s:Stmt):List Stmt:=match s with
 | .FunctionDef _ _ b _ _ _ _ _ _ _=>b
 | _=>[]
def Al (s:Stmt):Scope:=match s with
 | .FunctionDef _ _ _ _ _ _ sc _ _ _=>sc
 | _=>{ kind:=.function,names:=[],isGenerator:=false,isCoroutine:=false }
abbrev BJ:Pw:=fun _ _ _ _ _ _=>False
abbrev E0:XK:=fun _ _ _=>False
theorem Ar {X:Cx}:Lj BJ X E0:=fun _ _ _ _ _ _ _ h=>h.elim
structure Ew (K:Wm) (x qual:Str) (st:Stmt) (f:Addr) (fd:FuncData):Prop where
 ex:∃ (oc:Value) (od:Option Addr) (kV doc pm:Value) (an:Option Addr) (cdv ct:Value) (osl:Array (Option Value)),
  fd=Xn x qual (C2 st) (B6 st) (Al st) .none kV doc pm an cdv ct/\K.lookup f=some ⟨oc,od,.func fd,osl⟩/\XJ K cdv qual=true
 kp:XH K (.ref f)=true
section
variable {P:Program} {w:World} {K:Wm} {mg:Str->Option Value} {base:Heap}
theorem Ew.ok {x qual:Str} {st:Stmt} {f:Addr} {fd:FuncData} {N ps:List Str} {k:Nat} {sp:Sp} (F:Ew K x qual st f fd) (S:A4 N ps (Al st)) (len:∀ vs H Q E,sp vs H Q E->vs.length=ps.length)
  (hbody:∀ (cdv:Value) (A:Around) (outer:List Env) (s:Shared) (H:Hp) (vs:List V) (Q:VK) (E:XK),Cs k (A.deeper (envOfC qual (Al st) s.heap.objs.size f cdv))->sp vs H Q E ->
   ∃ t,Jv (EC BJ P w K mg base N qual (Al st) f cdv A outer s H E).nox (B6 st) t/\t { nx:=fun _ H'=>Q .non H',rt:=Q } (start N vs) H):AH P w K mg base BJ (k + 1) f fd ps sp:=by
 obtain ⟨oc,od,kV,doc,pm,an,cdv,ct,osl,rfl,lk,hcd⟩:=F.ex;refine Rr lk hcd S len fun A outer s H vs Q E hr hsp=>?_
 obtain ⟨t,h,q⟩:=hbody cdv A outer s H vs Q E hr hsp;exact ⟨t,h.nox,q⟩
theorem Ew.binds {x qual:Str} {st:Stmt} {f:Addr} {fd:FuncData} {ps:List Str} (F:Ew K x qual st f fd)
  (h:∀ (kV doc pm:Value) (an:Option Addr) (cdv ct:Value) (us:List Value),us.length=ps.length->bindArgs (Xn x qual (C2 st) (B6 st) (Al st) .none kV doc pm an cdv ct) ⟨us,[]⟩=pure (ps.zip us)):FY K fd ps []:=by
 obtain ⟨oc,od,kV,doc,pm,an,cdv,ct,osl,rfl,lk,hcd⟩:=F.ex;exact .all (h kV doc pm an cdv ct)
theorem Sz {x qual:Str} {st:Stmt} {f:Addr} {oc:Value} {od an:Option Addr} {osl:Array (Option Value)} {kV doc pm cdv ct:Value} (l:K.lookup f=some ⟨oc,od,.func (Xn x qual (C2 st) (B6 st) (Al st) .none kV doc pm an cdv ct),osl⟩)
  (c:XJ K cdv qual=true) (k:XH K (.ref f)=true):Ew K x qual st f (Xn x qual (C2 st) (B6 st) (Al st) .none kV doc pm an cdv ct):=⟨⟨oc,od,kV,doc,pm,an,cdv,ct,osl,rfl,l,c⟩,k⟩
end
theorem Du {A:Around} {k:Nat} (hr:Cs k A):A.units + 1 < cLine:=Nat.lt_of_le_of_lt (Nat.add_le_add_left (by decide:1<=64) _) hr.units
section
variable {X:Cx}
theorem pv (i:Nat) {x:Str} {pos:Pos} (hN:X.N[i]? = some x:=by rfl) (hv:Vis X.env.scope x:=by first | exact Or.inl rfl | exact Or.inr (Or.inl rfl) | exact Or.inr (Or.inr rfl)) (hd:(x == ("__debug__":Str))=false:=by decide)
  (hcd:(x == ("__classdict__":Str))=false:=by decide):PE X (.Name x pos) (Qc i):=RT hN hv hd hcd
end
theorem JX {A B:Prop} (h:B):if false=true then A else B:=by
 rw [if_neg W8];exact h
theorem MQ {A B:Prop} (h:A):if true=true then A else B:=by
 rw [if_pos rfl];exact h
theorem Cf {c A B:Prop} [Decidable c] (h1:c->A) (h2:¬ c->B):if c then A else B:=by
 by_cases h:c
 ·rw [if_pos h];exact h1 h
 ·rw [if_neg h];exact h2 h
def Au (H H':Hp):Prop:=∀ b o,H b=some o->H' b=some o
theorem Au.refl (H:Hp):Au H H:=fun _ _ h=>h
theorem Au.trans {H H1 H2:Hp} (a:Au H H1) (b:Au H1 H2):Au H H2:=fun c o h=>b c o (a c o h)
theorem Au.free {H H':Hp} (e:Au H H') {l:Addr} (h:H' l=Xu):H l=Xu:=by
 cases q:H l with
 | none=>rfl
 | some o=>
  rw [e l o q] at h;cases h
section
variable {κ:Type} [DecidableEq κ]
theorem NG {kvs:List (κ × V)} {k:κ} (h:Bn kvs k=none):¬ k ∈ kvs.map (·.1):=by
 intro m;obtain ⟨p,hp,e⟩:=W4.mp m;have q:(kvs.any fun kv=>decide (kv.1=k))=true:=Xr.mpr ⟨p,hp,decide_eq_true e⟩;rw [Cm,h] at q;exact absurd q (by simp)
end
abbrev As (X:Cx) (scope:Scope) (cl:List (Str × Addr)) (N:List Str) (s2:Shared) (H:Hp) (C:Addr) (fp:List Addr):Cx where
 prog:=X.prog
 w:=X.w
 K:=X.K
 mg:=X.mg
 base:=X.base
 A:=X.A
 N:=N
 s₀:=s2
 H₀:=H
 env:=compEnvC scope cl C X.env
 outer:=X.stack
 stack:=X.stack
 ex:=fp
 fn:=fun _=>false
 calm:=X.calm
 pn:=[]
 xe:=fun _ _=>False
structure AE (X:Cx) (scope:Scope) (cl:List (Str × Addr)):Prop where
 clos:closureFor scope X.env=pure cl
 cell:∀ y ∈ scope.names,y.2 ≠ .cell
 kind:scope.kind=.function
 names:∀ y ∈ scope.names,y.2=.local->scope.names.lookup y.1=some .local
 sub:∀ x c,cl.lookup x=some c->X.env.cells.lookup x=some c
 has:∀ x,((relabel scope X.env).names.lookup x=some .cell\/(relabel scope X.env).names.lookup x=some .free)->∃ c,cl.lookup x=some c
def AK (X:Cx) (cl:List (Str × Addr)) (scope:Scope) (N:List Str) (σ Aq:St):Prop:=
 Aq.length=N.length/\∀ (i:Nat) (x:Str) (v:V),N[i]? = some x->Aq[i]? = some (some v) ->
  (∃ j:Nat,X.N[j]? = some x/\σ[j]? = some (some v))/\(X.env.kindOf x=some .cell\/X.env.kindOf x=some .free) /\
   ((relabel scope X.env).names.lookup x=some .cell\/(relabel scope X.env).names.lookup x=some .free)
theorem AK.none (X:Cx) (cl:List (Str × Addr)) (scope:Scope) (N:List Str) (σ:St):AK X cl scope N σ (N.map fun _=>Xu):=by
 refine ⟨by simp,fun i x v h1 h2=>?_⟩;rw [Wy,h1] at h2;cases h2
section
variable {X:Cx} {pins:List (Addr × Obj)} {σ Aq:St} {H H':Hp} {s2 s':Shared} {scope:Scope} {cl:List (Str × Addr)} {N:List Str} {fp:List Addr} {C D:Addr} {AA h':Heap} {t':Nat}
theorem Ho (I:An X pins σ H s2) (hf:∀ b ∈ fp,CN X pins H b) (hfo:∀ b ∈ fp,∃ o,s2.heap.get? b=some o) (co:AE X scope cl) (hσ:AK X cl scope N σ Aq)
  (k:∀ b o,s2.heap.get? b=some o->AA.get? b=some o) (hD:s2.heap.objs.size<=D) (hC:s2.heap.objs.size<=C) (hDC:C ≠ D)
  (new:AA.get? D=some { cls:=.type "list",data:=.seq ([]:List Value).toArray 0 }\/∃ n,AA.get? D=some { cls:=.type "list",data:=.seq ([]:List Value).toArray n }) {m:Str->Option Value} (hn:AA.Ns C m) :
  An (As X scope cl N s2 H C fp) [] Aq (upd H D (.lst [])) { s2 with heap:=AA,toks:=t' }:=by
 have fD:H D=none:=I.hok.fresh hD;have fC:H C=none:=I.hok.fresh hC;have newO:A6 X.prog X.w (upd H D (.lst [])) AA D (.lst []):=by
  exists WR _,[]
  rcases new with e | ⟨n,e⟩
  ·exact ⟨0,.nil,e⟩
  ·exact ⟨n,.nil,e⟩
 have lts:∀ b ∈ fp,b < s2.heap.objs.size:=fun b hb=>let ⟨_,e⟩:=hfo b hb; Wr e
 have cells_lt:∀ x c,cl.lookup x=some c->c < s2.heap.objs.size:=fun x c e=>by
  obtain ⟨v,q⟩:=I.cell x c (co.sub x c e);exact q.lt
 have ok:Cx.Ok (As X scope cl N s2 H C fp):=by
  refine ⟨I.ok.mod,?_,I.ok.glob,I.ok.blt,hC,?_,?_,?_,I.ok.hd,I.ok.frames,.inl rfl,?_,I.bs,WJ I.ok.bsz I.sz,?_,?_,I.stack,I.stkFree⟩
  ·exact co.kind
  ·exact fun x y c e1 e2=>I.ok.inj x y c (co.sub x c e1) (co.sub y c e2)
  ·exact fun x h=>co.has x h
  ·exact fun x c h _=>by cases h
  ·intro b hb;refine ⟨fun e=>?_,fun x c e=>(hf b hb).2.2.2.2.1 x c (co.sub x c e)⟩;have z:=lts b hb;exact absurd (Ws z hC) (by rw [show b=C from e]; exact WT _)
  ·intro b o e hb;have Fz:b ∈ fp:=hb;rcases (hf b Fz).2.2.2.1 with z | z
   ·exact I.ok.noex b o e z
   ·exact absurd (Ws (Wr e) (WJ I.ok.bsz z)) (WT _)
  ·intro b hb hz;have Fz:b ∈ fp:=hb;obtain ⟨_,f1,f2,_⟩:=hf b Fz;rcases Wn.mp (I.stkSub b hz) with e | e
   ·exact f1 e
   ·exact f2 e
 refine ⟨ok,rfl,I.bare,Un.laid k hD fD,?_,?_,?_,?_,?_,I.hok.laid k hD newO,hσ.1⟩
 ·refine ⟨m,hn,fun i x v e1 e2 _=>?_⟩;obtain ⟨⟨j,j1,j2⟩,kk,kr⟩:=hσ.2 i x v e1 e2;obtain ⟨mo,_,hl⟩:=I.loc;obtain ⟨u,r,l⟩:=hl j x v j1 j2 (by
   rcases kk with z | z
   ·exact .inr (.inl z)
   ·exact .inr (.inr z))
  refine ⟨u,r,.inr ⟨kr,?_⟩⟩;obtain ⟨c,hc⟩:=co.has x kr;rcases l with ⟨z,_⟩ | ⟨_,c',Gn,hcell⟩
  ·rcases kk with q | q
   ·rw [z] at q; cases q
   ·rw [z] at q; cases q
  ·have e3:=co.sub x c hc;rw [Gn] at e3;have e4:c'=c:=WA.inj e3;subst e4;obtain ⟨o,ho,hd⟩:=hcell;exact ⟨c',hc,o,k _ o ho,hd⟩
 ·intro x c e;obtain ⟨v,o,ho,hd⟩:=I.cell x c (co.sub x c e);exact ⟨v,o,k _ o ho,hd⟩
 ·show upd H D (.lst []) C=none
  rw [Ae hDC];exact fC
 ·intro x c e;rw [Ae (W6 (Ws (cells_lt x c e) hD))];exact I.freeC x c (co.sub x c e)
 ·intro p hp;cases hp
theorem Fu {pl:List (Addr × Obj)} (I:An X pins σ H s2) (hf:∀ b ∈ fp,CN X pins H b) (hC:s2.heap.objs.size<=C) (I2:An (As X scope cl N s2 H C fp) pl Aq H' s')
  (hs:Heap.SameBut C s'.heap h'):An X pins σ H' { s' with heap:=h' }:=by
 have nC:∀ b o,s2.heap.get? b=some o->b ≠ C:=fun b o e=>W6 (Ws (Wr e) hC)
 have u:=I2.base;refine I.call' (s':={ s' with heap:=h' }) (ch:=fp) I2.os ⟨?_,?_,u.free,?_,u.tups,u.frzs,u.tbls⟩ ?_ I2.bare fun b hb=>?_
 ·exact fun b o e n h1 h2=>(hs.2 b (nC b o e)).trans (u.keep b o e n h1 h2)
 ·intro b o e n h1 h2;obtain ⟨sl,q⟩:=u.slot b o e n h1 h2;exact ⟨sl,(hs.2 b (nC b o e)).trans q⟩
 ·intro b o e h2;obtain ⟨o',q⟩:=u.there b o e h2;exact ⟨o',(hs.2 b (nC b o e)).trans q⟩
 ·intro b ob e;have hfree:H' C=none:=I2.free;refine (I2.hok b ob e).stay (fun c w' hc q=>(hs.2 c ?_).trans q) (fun _ q=>q) fun _ _ q=>q
  rintro rfl;rcases hc with rfl | hc
  ·rw [hfree] at e; cases e
  ·rw [hfree] at hc; cases hc
 ·obtain ⟨_,f1,_,f3,f4,f5⟩:=hf b hb;exact ⟨f3,f1,f4,f5⟩
end
section
variable {prog:Program} {w:World} {A:Around} {R:Result->Shared->Prop} {s:Shared}
theorem BU {elt target iter:Expr} {ifs:List Expr} {scope:Scope} {pos:Pos} {it acc:Value} {env:Env} (I:Nat->Shared->Prop)
  (turn:∀ n s,I n s->wpAny (model prog w) A (pyNext it) (fun r AS=>match r with
   | none=>R (.ok .next) AS
   | some v=>wpAny (model prog w) A (letOwnedTupleGo target it v) (fun _ J9=>wpAny (model prog w) A (assign target env v) (fun _ EU=>
     wpAny (model prog w) A (forIn ifs true fun c r=>if r=true then do let ok <- isTrue c env (eval c env); pure (ForInStep.yield ok) else pure (ForInStep.yield r)) (fun ok BW=>
      if ok=true then wpAny (model prog w) A (eval elt env) (fun x NP=>
       wpAny (model prog w) A (call (.builtin "list.append") [acc,x]) (fun _ NO=>∃ m,m < n/\I m NO) (notedBy (model prog w) A env fun e s'=>R (.error e) s') NP) (notedBy (model prog w) A env fun e s'=>R (.error e) s') BW
      else ∃ m,m < n/\I m BW) (notedBy (model prog w) A env fun e s'=>R (.error e) s') EU) (notedBy (model prog w) A env fun e s'=>R (.error e) s') J9) (notedBy (model prog w) A env fun e s'=>R (.error e) s') AS) (notedBy (model prog w) A env fun e s'=>R (.error e) s') s)
  (n:Nat) (h:I n s) :
  codeAny (model prog w) A (.compLoop (.ListComp elt [⟨target,iter,ifs,0⟩] scope pos) 0 it acc env) R s:=by
 refine codeAny_loop rfl I (fun n s hI=>?_) n h;show wpAny _ A ((compTurn (.ListComp elt [⟨target,iter,ifs,0⟩] scope pos) 0 it acc env).onRaise (fun x=>do noteFrame x env; theTreesLotGoes x)) _ _ s
 refine wpAny_noted ?_;rw [compTurn_list];refine wpAny_bind (wpAny_standAt (wpAny_bind (wpAny_mono (turn n s hI) (fun r AS AA=>?_) fun _ _ h'=>h')));cases r with
 | none=>exact wpAny_pure AA
 | some v=>
  refine wpAny_bind (wpAny_mono AA (fun _ J9 OM=>?_) fun _ _ h'=>h');refine wpAny_bind (wpAny_mono OM (fun _ EU KW=>wpAny_bind (wpAny_mono KW (fun ok BW KU=>?_) fun _ _ h'=>h')) fun _ _ h'=>h');cases ok with
  | false=>exact wpAny_pure ⟨rfl,KU⟩
  | true=>
   exact wpAny_bind (wpAny_bind (wpAny_mono KU (fun x NP Sk=>wpAny_bind (wpAny_mono Sk (fun _ NO Sj=>wpAny_pure (wpAny_pure ⟨rfl,Sj⟩)) fun _ _ h'=>h')) fun _ _ h'=>h'))
end
def Rw (X:Cx) (ifs:List Expr) (t:TT):Prop:=
 ∀ ⦃pins:List (Addr × Obj)⦄ (s:Shared) (σ:St) (H:Hp) (Q:Bool->Hp->Prop),An X pins σ H s->t σ H Q ->
  wpAny (model X.prog X.w) X.A (forIn ifs true fun c r=>if r=true then do let ok <- isTrue c X.env (eval c X.env); pure (ForInStep.yield ok) else pure (ForInStep.yield r)) (TP X pins σ Q) X.xe s
def Kw:TT:=fun _ H Q=>Q true H
theorem Bh {X:Cx}:Rw X [] Kw:=fun _ _ _ H _ I h=>wpAny_tests_nil ⟨H,I,h⟩
theorem CU {X:Cx} {c:Expr} {t:TT} (h:PT X c t):Rw X [c] t:=fun pins s σ H Q I q=>wpAny_tests_one (h (pins:=pins) s σ H Q I q)
def NM (wi:TI) (g:TG) (tt:TT) (te:TE) (σ0:St->St):TE:=fun σ H Q=>wi σ H fun J H1=>∀ D,H1 D=none->∃ W:Nat->Nat->St->Hp->Prop,(∃ m,W 0 m (σ0 σ) (upd H1 D (.lst []))) /\
 ∀ i m Aq H',W i m Aq H'->(J.stop i H'/\Q (.ref D) H')\/(J.go i H'/\∀ x H2,J.yld i H' x H2->g x Aq H2 fun A3 H3=>tt A3 H3 fun b H4=>
  if b=true then te A3 H4 (fun v H5=>∃ acc,H5 D=some (.lst acc)/\acc.length < sizeLine/\∃ m',m' < m/\W (i + 1) m' A3 (upd H5 D (.lst (acc ++ [v])))) else ∃ m',m' < m/\W (i + 1) m' A3 H4)
theorem Bz {X:Cx} {tg iter elt:Expr} {ifs:List Expr} {scope:Scope} {cl:List (Str × Addr)} {N:List Str} {pos:Pos} {wi:TI} {g:TG} {tt:TT} {te:TE} {σ0:St->St} (hc:X.calm=true) (co:AE X scope cl)
  (hσ:∀ σ,σ.length=X.N.length->AK X cl scope N σ (σ0 σ)) (hi:PI X tg iter wi)
  (hb:∀ s2 H C fp,PG (As X scope cl N s2 H C fp) tg g/\Rw (As X scope cl N s2 H C fp) ifs tt/\PE (As X scope cl N s2 H C fp) elt te)
  (hs:∀ x,foldedSetIterable iter X.env x=pure x:=by intro _; rfl):PE X (.ListComp elt [⟨tg,iter,ifs,0⟩] scope pos) (NM wi g tt te σ0):=by
 intro pins s σ H Q I h;rw [eval_ListComp];refine wpAny_comprehension_free (use:=none) rfl hs co.clos co.kind co.names (wpAny_mono (hi (pins:=pins) s σ H _ I h) (fun xv s1 h1=>wpAny_mono h1 (fun itv s2 h2=>?_) fun _ _ e=>e) fun _ _ e=>e);obtain ⟨it,fp,tn,J,H2,rfl,I2,T,Dm,f2,hW⟩:=h2;refine wpAny_newObj_type (wpAny_newFunctionEnv co.cell (by intro y hy; cases hy) (fun AA BE BD=>?_) co.kind);dsimp only at BE BD ⊢;generalize Hg:s2.heap.push { cls:=.type "list",dict:=none,data:=.seq ([]:List Value).toArray } = HH at BE BD ⊢;have Bs:HH.objs.size=s2.heap.objs.size + 1:=by rw [<-Hg,WY]
 have old:∀ b o,s2.heap.get? b=some o->AA.get? b=some o:=fun b o e=>
  BD.extBut b o (W6 (by rw [Bs]; exact WK (Wr e))) (Wl _ (Hg ▸ Wl _ e))
 have newD:∃ n,AA.get? s2.heap.objs.size=some { cls:=.type "list",data:=.seq ([]:List Value).toArray n }:=
  ⟨_,BD.extBut _ _ (W6 (by rw [Bs]; exact WM _)) (Wl _ (Hg ▸ W0 _ rfl))⟩
 obtain ⟨W,⟨m0,w0⟩,turn⟩:=hW s2.heap.objs.size I2.fresh;have hfo:∀ b ∈ fp,∃ o,s2.heap.get? b=some o:=fun b hb=>let ⟨o,e,_⟩:=T.obj _ _ Dm b hb; ⟨o,e⟩
 have I3:An (As X scope cl N s2 H2 HH.objs.size fp) [] (σ0 σ) (upd H2 s2.heap.objs.size (.lst [])) { s2 with heap:=AA,toks:=s2.toks + ([]:List (Str × Value)).length }:=
  Ho I2 f2 hfo co (hσ σ I.len) old (Wq _) (by rw [Bs]; exact WX _) (Xa (by rw [Bs]; exact WM _)) (.inr newD) BE
 have fC:s2.heap.objs.size<=HH.objs.size:=by rw [Bs]; exact WX _
 obtain ⟨hg,ht,he⟩:=hb s2 H2 HH.objs.size fp;have loop:∀ BW:Shared,BW = { s2 with heap:=AA,toks:=s2.toks + ([]:List (Str × Value)).length } ->
   codeAny (model X.prog X.w) X.A (.compLoop (.ListComp elt [⟨tg,iter,ifs,0⟩] scope pos) 0 (.ref it) (.ref s2.heap.objs.size) (compEnvC scope cl HH.objs.size X.env))
    (compPost (model X.prog X.w) X.A X.xe none (EP X pins σ Q) (.ref s2.heap.objs.size) HH.objs.size) BW:=by
  rintro BW rfl;have stat:∀ {H':Hp} ,(∀ b ∈ fp,H' b=none)->∀ b ∈ fp,CN (As X scope cl N s2 H2 HH.objs.size fp) [] H' b:=fun hn b hb=>by
   refine ⟨hn b hb,?_,?_,.inl hb,?_,fun p hp=>by cases hp⟩
   ·obtain ⟨o,e⟩:=hfo b hb;exact W6 (show b < HH.objs.size by rw [Bs]; exact WK (Wr e))
   ·intro hz;obtain ⟨_,q1,q2,_⟩:=f2 b hb;rcases Wn.mp (I2.stkSub b hz) with e | e
    ·exact q1 e
    ·exact q2 e
   ·exact fun x c e=>(f2 b hb).2.2.2.2.1 x c (co.sub x c e)
  refine BU (fun n s'=>∃ i Aq H',An (As X scope cl N s2 H2 HH.objs.size fp) [] Aq H' s'/\tn i s'.heap/\(∀ b ∈ fp,H' b=none)/\W i n Aq H') ?_ m0
   ⟨0,σ0 σ,_,I3,T.keep _ _ _ Dm fun b hb o e=>old b o e,fun b hb=>?_,w0⟩
  ·rintro n s4 ⟨i,EO,H4,I4,Gw,Ka,w4⟩;rcases turn i n EO H4 w4 with ⟨stop,qn⟩ | ⟨go,step⟩
   ·refine wpAny_mono (T.done (As X scope cl N s2 H2 HH.objs.size fp) rfl rfl rfl hc i [] s4 EO H4 (fun _ _=>False) I4 (stat Ka) Gw stop) (fun r s5 ⟨hr,I5⟩=>?_) fun _ _ z=>z.elim
    subst hr;obtain ⟨m5,OP,_⟩:=id I5.loc;exact ⟨m5,OP,fun h' J0=>⟨.ref _,H4,Fu I2 f2 fC I5 J0,rfl,qn⟩⟩
   ·refine wpAny_mono (T.item (As X scope cl N s2 H2 HH.objs.size fp) rfl rfl rfl hc i [] s4 EO H4 (fun _ _=>False) I4 (stat Ka) Gw go) (fun r s5 ⟨u,hr,h5⟩=>?_) fun _ _ z=>z.elim
    subst hr;refine wpAny_mono h5 (fun _ s6 ⟨x,H6,I6,r6,y6,Gv,OV⟩=>?_) fun _ _ z=>z.elim
    have Pt:=I6.pinned (stat OV) (T.obj _ _ Gv);refine wpAny_mono (hg s6 EO H6 x u _ Pt r6 (step x H6 y6)) (fun _ s7 ⟨DG,H7,I7,q7⟩=>?_) fun _ _ z=>z.elim
    refine wpAny_mono (ht s7 DG H7 _ I7 q7) (fun ok s8 ⟨H8,I8,q8⟩=>?_) fun _ _ z=>z.elim
    have again:∀ {s9:Shared} {EN:St} {H9:Hp} ,An (As X scope cl N s2 H2 HH.objs.size fp) ([] ++ Dg fp s6.heap) EN H9 s9->(∃ m',m' < n/\W (i + 1) m' EN H9)->∃ m,m < n/\∃ i Aq H',An (As X scope cl N s2 H2 HH.objs.size fp) [] Aq H' s9/\tn i s9.heap/\(∀ b ∈ fp,H' b=none)/\W i m Aq H':=fun {s9 EN H9} I9 n9=>by
     obtain ⟨m',hm,w9⟩:=n9;refine ⟨m',hm,i + 1,EN,H9,I9.unpinned,T.keep _ _ _ Gv fun b hb o e=>(I9.pin (b,o) (Wx _ (Wx _ (AU hb e)))).1,fun b hb=>?_,w9⟩;obtain ⟨o,e,d⟩:=T.obj _ _ Gv b hb;exact (I9.pin (b,o) (Wx _ (Wx _ (AU hb e)))).2.1
    cases ok with
    | false=>
     rw [if_neg W8] at q8 ⊢;exact again I8 q8
    | true=>
     rw [if_pos rfl] at q8 ⊢;refine wpAny_mono (he s8 DG H8 _ I8 q8) (fun y s9 ⟨v,H9,I9,r9,acc,hacc,hsz,q9⟩=>?_) fun _ _ z=>z.elim
     refine wpAny_mono (Ck (X:=As X scope cl N s2 H2 HH.objs.size fp) s9 DG H9 (.ref s2.heap.objs.size) [v] (.ref s2.heap.objs.size) [y] (fun _ Nw=>∃ m',m' < n/\W (i + 1) m' DG Nw) I9 rfl (.cons r9 .nil) ⟨_,acc,v,rfl,rfl,hacc,hsz,q9⟩) (fun _ Tz ⟨_,Nw,Pu,_,Of⟩=>?_) fun _ _ z=>z.elim
     exact again Pu Of
  ·have z:=(f2 b hb).1;obtain ⟨o,e⟩:=hfo b hb;rw [Ae (W6 (Wr e))];exact z
 exact codeAny_compStart_list (loop _ rfl) (T.self _ 0 _ _ _ (T.keep _ _ _ Dm fun b hb o e=>old b o e) (loop _ rfl))
theorem Ki {X:Cx} (hc:X.calm=true):B0 X (.builtin "all") (fun xs H Q=>∃ (p:Addr) (bs:List Bool),xs=[.ref p]/\AD X.K H p (bs.map V.bl)/\Q (.bl (bs.all id)) H):=by
 intro pins s σ H xs us Q I r h;obtain ⟨p,bs,rfl,hq,q⟩:=h;obtain ⟨u,rfl,ru⟩:=Ci r;cases ru
 obtain ⟨Aw,rv,pl,hz⟩:=I.list hq;have hlen:Aw.length=bs.length:=by rw [<-rv.length,Wj]
 refine call_all_walk (wpAny_pyIter_list pl.isList ?_);have hne:p ≠ s.heap.objs.size:=by
  obtain ⟨o,n,e,_⟩:=pl;exact W6 (Wr e)
 exists s.heap.objs.size,_,_,_,_,_,fun i=>bs.getD i true,rfl,Walks.list (A:=X.A.in1) (I.ok.hd hc) s.heap.objs.size p hne Aw.toArray,⟨⟨_,W0 _ rfl,rfl,rfl⟩,?_⟩,?_
 ·exact pl.isList.at fun o e=>Wl _ e
 ·intro i v s1 Q1 E1 hv hQ;have TQ:Aw[i]? = some v:=by simpa using hv
  have hb:∃ b,bs[i]? = some b:=by
   cases e:bs[i]? with
   | some b=>exact ⟨b,rfl⟩
   | none=>
    have:=YR.mp e;have:=(Wt.mp TQ).1;lia
  obtain ⟨b,hb⟩:=hb;obtain ⟨u,hu,ru⟩:=rv.get (i:=i) (x:=V.bl b) (by rw [Wy,hb]; rfl);rw [TQ] at hu;cases hu
  cases ru
  have e:bs.getD i true=b:=by rw [Wv,hb]; rfl
  have Uq:Q1 (bs.getD i true) s1:=hQ;rw [e] at Uq;exact wpAny_truthy_bool Uq
 ·intro h' tk hk;have e:(Xc Aw.toArray.size).all (fun i=>bs.getD i true)=bs.all id:=by
   rw [WC,hlen];apply Xg.mpr;simp only [Xo,X8,id];constructor
   ·intro h b hb;obtain ⟨i,hi,e⟩:=W2 hb;have:=h i hi;rw [Wv,Wk hi] at this;simpa [e] using this
   ·intro h i hi;rw [Wv,Wk hi];exact h _ (Xb hi)
  rw [e];refine ⟨.bl _,H,?_,rfl,q⟩;have I1:An X pins σ H { s with heap:=s.heap.push { cls:=.type "list_iterator",data:=.fields #[.ref p,.int 0 0] } }:=I.kept (t':=s.toks) fun b o e=>Wl _ e
  have F:=I.fpOk (Wq _) (I.hok.fresh (Wq _));obtain ⟨f0,f1,f2,f3,f4,f5⟩:=F;exact I1.turned (it:=s.heap.objs.size) (fun b o hb e=>hk b o (by simpa using hb) e) f0 f1 f3 f4 f5
def tSlS (te:TE) (tl th:TO):TE:=fun σ H Q=>te σ H fun x H1=>tl σ H1 fun l H2=>th σ H2 fun u H3=>∃ z,x=.str z/\z.length<=sizeLine/\Q (.str (Txt.slice z l u)) H3
theorem Fh {X:Cx} {e:Expr} {te:TE} {lo hi:Option Expr} {tl th:TO} {pos p2:Pos} (he:PE X e te) (hl:PO X lo tl) (hu:PO X hi th):PE X (.Subscript e (.Slice lo hi none p2) pos) (tSlS te tl th):=by
 intro pins s σ H Q I h;refine Subscript_ (BF (he (pins:=pins) s σ H _ I h) fun v s1 ⟨x,H1,I1,r1,q1⟩=>?_);refine wpAny_Slice (BF (hl (pins:=pins) s1 σ H1 _ I1 q1) fun vl s2 ⟨l,H2,I2,pl,q2⟩=>BF (hu (pins:=pins) s2 σ H2 _ I2 q2) fun vu s3 ⟨u,H3,I3,pu,q3⟩=>?_);rw [evalPart_none];refine wpAny_pure ?_;obtain ⟨z,rfl,hz,q⟩:=q3;obtain ⟨t,rfl⟩:=r1;show wpAny (model X.prog X.w) X.A (subscriptTail e (.Slice lo hi none p2) (.str z t) (.ref s3.heap.objs.size)) (EP X pins σ Q) X.xe { s3 with heap:=s3.heap.push { cls:=.type "slice",data:=.fields #[vl,vu,.none] } }
 have kk:KeptH (fun h=>∀ b o,s3.heap.get? b=some o->h.get? b=some o):=fun h ob hh b o e=>Wl _ (hh b o e)
 have fin:ItemOn (model X.prog X.w) X.A X.xe (.str z t) (.ref s3.heap.objs.size) (EP X pins σ Q) { s3 with heap:=s3.heap.push { cls:=.type "slice",data:=.fields #[vl,vu,.none] } }:=by
  cases pl with
  | none=>
   cases pu with
   | none=>exact SBH.sliceItem_nn kk (fun _ _ e=>e) (fun h' t' k kp=>⟨.str _,H3,I3.kept kp,⟨_,rfl⟩,q⟩) hz
   | int j uj=>exact SBH.sliceItem_ns kk (fun _ _ e=>e) (fun h' t' k kp=>⟨.str _,H3,I3.kept kp,⟨_,rfl⟩,q⟩) hz
  | int i ui=>
   cases pu with
   | none=>exact SBH.sliceItem_sn kk (fun _ _ e=>e) (fun h' t' k kp=>⟨.str _,H3,I3.kept kp,⟨_,rfl⟩,q⟩) hz
   | int j uj=>exact SBH.sliceItem_ss kk (fun _ _ e=>e) (fun h' t' k kp=>⟨.str _,H3,I3.kept kp,⟨_,rfl⟩,q⟩) hz
 obtain ⟨T,id,hT,ht,hg⟩:=fin;exact tail_any (ops:=[.ref s3.heap.objs.size,.str z t]) ht hT hg (by with_unfolding_all rfl)
theorem MA {X:Cx} (hu:X.A.units < cLine):EL X (compareOp .Eq) (fun x y H Q=>∃ a b xs,x=.ref a/\y=.ref b/\AD X.K H a xs/\AD X.K H b []/\Q (.bl xs.isEmpty) H):=by
 intro pins s σ H x y v u Q I rx ry h;obtain ⟨a,b,xs,rfl,rfl,ha,hb,q⟩:=h;cases rx
 cases ry
 obtain ⟨Aw,r,p,hz⟩:=I.list ha;obtain ⟨MP,r2,p2,hz2⟩:=I.list hb;cases r2
 cases xs with
 | nil=>
  cases r
  refine PySem.SeqAt.eq_listAt (e:=fun _=>true) p.isList p2.isList rfl hu (fun j h1 h2=>absurd h1 (Xl _)) ?_;exact ⟨.bl true,H,I,rfl,q⟩
 | cons x xs=>
  cases r with
  | cons r1 r2=>
   refine PySem.SeqAt.eq_list_lengthsAt p.isList p2.isList (by simp) hu ?_;exact ⟨.bl false,H,I,rfl,q⟩
theorem CL {α:Type}:∀ {l:List (Str × α)} {x:Str} {k:α},l.lookup x=some k->(x,k) ∈ l
 | [],_,_,h=>by cases h
 | (n,v) :: r,x,k,h=>by
  rw [Yu] at h;by_cases e:x=n
  ·subst e;simp at h;subst h;exact W7
  ·have:(x == n)=false:=beq_eq_false_iff_ne.mpr e;rw [this] at h;exact WH _ (CL h)
theorem AE.plain {X:Cx} {scope:Scope} (hfree:∀ x ∈ scope.names,x.2 ≠ .free) (hcell:∀ y ∈ scope.names,y.2 ≠ .cell) (hkind:scope.kind=.function)
  (hnames:∀ y ∈ scope.names,y.2=.local->scope.names.lookup y.1=some .local):AE X scope []:=by
 refine ⟨closureFor_none hfree,hcell,hkind,hnames,fun x c h=>(by cases h),fun x h=>?_⟩;have key:∀ k,(relabel scope X.env).names.lookup x=some k->∃ y ∈ scope.names,y.2=k:=by
  intro k e;have m:=CL e;obtain ⟨⟨n,k'⟩,hm,e'⟩:=W4.mp m;have hf:=hfree _ hm;have:(k' == NameKind.free)=false:=by
   cases k' <;> first | rfl | exact absurd rfl hf
  dsimp only at e';rw [this] at e';simp at e';exact ⟨_,hm,e'.2⟩
 rcases h with h | h
 ·obtain ⟨y,hy,e⟩:=key _ h;exact absurd e (hcell y hy)
 ·obtain ⟨y,hy,e⟩:=key _ h;exact absurd e (hfree y hy)
def OE (c:Nat):Bool:=decide (97<=c) && decide (c<=122)
def C9 (t:Str):Bool:=decide (1<=t.length) && decide (t.length<=6) && t.cps.toList.all OE
theorem Ac {H:Hp} {p:Addr} {o:HO} (h:H p=none):Au H (upd H p o):=fun b u e=>by
 rw [Ae (Ah e h)];exact e
mutual
inductive J3 (H:Hp):V->PyData->Prop
 | non:J3 H .non .none
 | bl (b:Bool):J3 H (.bl b) (.bool b)
 | int (i:Int):J3 H (.int i) (.int i)
 | str (x:Str):J3 H (.str x) (.str x)
 | tup {a:Addr} {vs:List V} {ds:List PyData}:H a=some (.tup vs)->BI H vs ds->J3 H (.ref a) (.tuple ds)
 | lst {a:Addr} {vs:List V} {ds:List PyData}:H a=some (.lst vs)->BI H vs ds->J3 H (.ref a) (.list ds)
inductive BI (H:Hp):List V->List PyData->Prop
 | nil:BI H [] []
 | cons {v:V} {vs:List V} {d:PyData} {ds:List PyData}:J3 H v d->BI H vs ds->BI H (v :: vs) (d :: ds)
end
mutual
theorem J3.mono {H H':Hp} (s:∀ a o,H a=some o->(∃ vs,o=.tup vs\/o=.lst vs)->H' a=some o):∀ {v:V} {d:PyData},J3 H v d->J3 H' v d
 | _,_,.non=>.non
 | _,_,.bl b=>.bl b
 | _,_,.int i=>.int i
 | _,_,.str x=>.str x
 | _,_,.tup e r=>.tup (s _ _ e ⟨_,.inl rfl⟩) (BI.mono s r)
 | _,_,.lst e r=>.lst (s _ _ e ⟨_,.inr rfl⟩) (BI.mono s r)
theorem BI.mono {H H':Hp} (s:∀ a o,H a=some o->(∃ vs,o=.tup vs\/o=.lst vs)->H' a=some o):∀ {vs:List V} {ds:List PyData},BI H vs ds->BI H' vs ds
 | _,_,.nil=>.nil
 | _,_,.cons x r=>.cons (J3.mono s x) (BI.mono s r)
end
mutual
theorem J3.reads {X:Cx} {pins:List (Addr × Obj)} {σ:St} {H:Hp} {s:Shared} (I:An X pins σ H s):∀ {v:V} {d:PyData} {u:Value},J3 H v d->Az v u->∃ as,Reads s.heap u d as
 | _,_,_,.non,r=>by cases r; exact ⟨_,.none⟩
 | _,_,_,.bl b,r=>by cases r; exact ⟨_,.bool b⟩
 | _,_,_,.int i,r=>by obtain ⟨t,rfl⟩:=r; exact ⟨_,.int i t⟩
 | _,_,_,.str x,r=>by obtain ⟨t,rfl⟩:=r; exact ⟨_,.str x t⟩
 | _,_,_,.tup (a:=a) e m,r=>by
  cases r
  obtain ⟨_,Aw,rv,⟨o,ho,hc,n,hd⟩,_⟩:=(show A6 X.prog X.w H s.heap a (.tup _) from I.hok a _ e)
  obtain ⟨as,q⟩:=BI.reads I m rv;exact ⟨_,.tuple ho hc hd (by simpa using q)⟩
 | _,_,_,.lst (a:=a) e m,r=>by
  cases r
  obtain ⟨_,Aw,n,rv,ho⟩:=(show A6 X.prog X.w H s.heap a (.lst _) from I.hok a _ e)
  obtain ⟨as,q⟩:=BI.reads I m rv;exact ⟨_,.list ho rfl rfl (by simpa using q)⟩
theorem BI.reads {X:Cx} {pins:List (Addr × Obj)} {σ:St} {H:Hp} {s:Shared} (I:An X pins σ H s):∀ {vs:List V} {ds:List PyData} {us:List Value},BI H vs ds->A7 vs us->∃ as,ReadsAll s.heap us ds as
 | _,_,_,.nil,r=>by cases r; exact ⟨_,.nil⟩
 | _,_,_,.cons x m,r=>by
  cases r with
  | cons r1 r2=>
   obtain ⟨as,q1⟩:=J3.reads I x r1;obtain ⟨bs,q2⟩:=BI.reads I m r2;exact ⟨_,.cons q1 q2⟩
end
theorem JY (z:Str) (xs:List Str):inV (.str z) (xs.map V.str)=decide (z ∈ xs):=by
 unfold inV;induction xs with
 | nil=>simp
 | cons x xs ih=>
  rw [WG,Yc,ih];have e:QL (.str x) (.str z)=decide (z=x):=by
   show (x == z)=_
   by_cases h:z=x
   ·subst h; simp
   ·have h':¬ x=z:=fun q=>h q.symm
    rw [decide_eq_false h];exact beq_eq_false_iff_ne.mpr h'
  rw [e];by_cases h:z=x
  ·simp [h]
  ·by_cases h2:z ∈ xs <;> simp [h,h2]
theorem Iw (xs:List Str):(xs.map V.str).all Fs=true:=by
 rw [Z5];exact Xo.mpr fun _ _=>rfl
def A8 (p:Addr) (H H':Hp):Prop:=∀ b o,b ≠ p->H b=some o->H' b=some o
theorem A8.refl (p:Addr) (H:Hp):A8 p H H:=fun _ _ _ e=>e
theorem A8.trans {p:Addr} {H H1 H2:Hp} (a:A8 p H H1) (b:A8 p H1 H2):A8 p H H2:=fun c o n e=>b c o n (a c o n e)
theorem A8.of_same {p:Addr} {H H':Hp} (s:Au H H'):A8 p H H':=fun b o _ e=>s b o e
theorem A8.upd {p:Addr} {H:Hp} {o:HO}:A8 p H (L2.upd H p o):=fun b u n e=>by rw [Ae n]; exact e
def Lh (K:Wm) (H:Hp) (a:Addr) (xs:List V):Prop:=(∃ ob,H a=some (.frz ob (.lst xs)))\/∃ o Aw n,List.lookup a K=some o/\o.cls=Value.type "list"/\o.dict=none/\o.data=Data.seq Aw n/\Aw.size<=sizeLine/\A7 xs Aw.toList
theorem Lh.sq {K:Wm} {H:Hp} {a:Addr} {xs:List V} (h:Lh K H a xs):AD K H a xs:=by
 rcases h with ⟨ob,h⟩ | h
 ·exact .inl (.inr ⟨ob,h⟩)
 ·exact .inr h
theorem Lh.same {K:Wm} {H H':Hp} {a:Addr} {xs:List V} (h:Lh K H a xs) (s:Au H H'):Lh K H' a xs:=by
 rcases h with ⟨ob,h⟩ | h
 ·exact .inl ⟨ob,s _ _ h⟩
 ·exact .inr h
theorem Pm {α:Type} {l:List α} {i:Int} {c:α} (h:J1 l i=some c):c ∈ l:=by
 obtain ⟨j,_,h2,_⟩:=Gs h;exact Wo h2
abbrev Fp:Str:="abcdefghijklmnopqrstuvwxyz"
theorem FQ:∀ c ∈ Fp.cps.toList,OE c=true:=by decide +kernel
def QY (z:Str):Prop:=∀ c ∈ z.cps.toList,OE c=true
theorem O5 {z:Str} (h1:1<=z.length) (h2:z.length<=6) (h:QY z):C9 z=true:=by
 unfold C9;rw [decide_eq_true h1,decide_eq_true h2,Xo.mpr h];rfl
theorem OF {z:Str} (h:C9 z=true):1<=z.length/\z.length<=6/\QY z:=by
 unfold C9 at h;rw [X0,X0,decide_eq_true_eq,decide_eq_true_eq,Xo] at h;exact ⟨h.1.1,h.1.2,h.2⟩
theorem Cb {α:Type} [BEq α] [LawfulBEq α]:∀ {l xs:List α},l.Nodup->(∀ x ∈ l,x ∈ xs)->l.length<=xs.length
 | [],_,_,_=>WR _
 | a :: l,xs,hn,hs=>by
  have ha:=hs a W7;have UJ:=Xm.mp hn;have:=Cb (l:=l) (xs:=xs.erase a) UJ.2 fun x hx=>(List.mem_erase_of_ne (show x ≠ a from fun e=>UJ.1 (by rw [<-e]; exact hx))).mpr (hs x (WH _ hx))
  rw [List.length_erase_of_mem ha] at this;have:0 < xs.length:=Za ha;rw [WO];lia
theorem IC (H:Hp):∀ xs:List Str,BI H (xs.map V.str) (xs.map .str)
 | []=>.nil
 | x :: xs=>.cons (.str x) (IC H xs)
theorem JV:∀ {xs:List Str},(∀ x ∈ xs,C9 x=true)->PyData.canLayAll0 (xs.map .str)=true
 | [],_=>rfl
 | x :: xs,h=>by
  show (PyData.strOk x && PyData.canLayAll0 (xs.map .str))=true
  rw [JV fun y hy=>h y (WH _ hy),Z2];obtain ⟨_,_,lo⟩:=OF (h x W7);unfold PyData.strOk;rw [Array.all_eq_true_iff_forall_mem];intro c hc;have:=lo c (by simpa using hc);unfold OE at this;rw [X0,decide_eq_true_eq,decide_eq_true_eq] at this;rw [decide_eq_true_eq];lia
def KS:Stmt->List Stmt
 | .If _ b _ _=>b
 | _=>[]
theorem AE.caught {X:Cx} {scope:Scope} {cl:List (Str × Addr)} (clos:closureFor scope X.env=pure cl) (hcell:∀ y ∈ scope.names,y.2 ≠ .cell) (hkind:scope.kind=.function)
  (hnames:∀ y ∈ scope.names,y.2=.local->scope.names.lookup y.1=some .local) (hcl:∀ y ∈ cl,X.env.cells.lookup y.1=some y.2)
  (hfr:∀ y ∈ scope.names,y.2=.free->∃ c,cl.lookup y.1=some c):AE X scope cl:=by
 refine ⟨clos,hcell,hkind,hnames,fun x c h=>hcl _ (CL h),fun x h=>?_⟩;have key:∀ k,(relabel scope X.env).names.lookup x=some k->k=.cell\/k=.free->∃ c,cl.lookup x=some c:=by
  intro k e hk;have m:=CL e;obtain ⟨⟨n,k'⟩,hm,e'⟩:=W4.mp m;dsimp only at e';by_cases hf:k'=.free
  ·subst hf;have en:n=x:=by
    by_cases hc:(NameKind.free == NameKind.free && X.env.scope.kind == .function && X.env.kindOf n == some .cell)=true
    ·rw [if_pos hc] at e';injection e'
    ·rw [if_neg hc] at e';injection e'
   subst en;exact hfr _ hm rfl
  ·have:(k' == NameKind.free)=false:=by
    cases k' <;> first | rfl | exact absurd rfl hf
   rw [this] at e';simp at e';rcases hk with hk | hk
   ·exact absurd (e'.2.trans hk) (hcell _ hm)
   ·exact absurd (e'.2.trans hk) hf
 rcases h with h | h
 ·exact key _ h (.inl rfl)
 ·exact key _ h (.inr rfl)
theorem AK.of {X:Cx} {cl:List (Str × Addr)} {scope:Scope} {N:List Str} {σ:St} (js:List (Option Nat)) (hl:js.length=N.length)
  (h:∀ (i j:Nat) (x:Str),N[i]? = some x->js[i]? = some (some j)->X.N[j]? = some x/\(X.env.kindOf x=some .cell\/X.env.kindOf x=some .free)/\((relabel scope X.env).names.lookup x=some .cell\/(relabel scope X.env).names.lookup x=some .free)) :
  AK X cl scope N σ (js.map fun j=>j.bind fun j=>(σ[j]?).join):=by
 refine ⟨by rw [Wj,hl],fun i x v h1 h2=>?_⟩;rw [Wy] at h2;cases e:js[i]? with
 | none=>rw [e] at h2; cases h2
 | some o=>
  rw [e] at h2;cases o with
  | none=>cases h2
  | some j=>
   obtain ⟨a,b,c⟩:=h i j x h1 e;refine ⟨⟨j,a,?_⟩,b,c⟩;have h3:(σ[j]?).join=some v:=WA.inj h2;cases e2:σ[j]? with
   | none=>rw [e2] at h3; cases h3
   | some o=>
    rw [e2] at h3;have:o=some v:=h3;rw [this]
theorem Kr {f:Nat->V}:∀ {n:Nat} {acc:Array Value},acc.size=n->(∀ (i:Nat) (v:Value),acc[i]? = some v->Az (f i) v)->A7 ((Xc n).map f) acc.toList:=by
 intro n acc hs h;have go:∀ (l:List Value) (k:Nat),(∀ (i:Nat) (v:Value),l[i]? = some v->Az (f (k + i)) v)->A7 ((Xc l.length).map fun i=>f (k + i)) l:=by
  intro l;induction l with
  | nil=>intro k _; exact .nil
  | cons v l ih=>
   intro k hh;rw [WO,List.range_succ_eq_map,WG,Xp];refine .cons (by simpa using hh 0 v rfl) ?_;have:=ih (k + 1) fun i u e=>by
    have:=hh (i + 1) u (by simpa using e);rw [show k + 1 + i=k + (i + 1) by lia];exact this
   have e2:(fun i=>f (k + 1 + i))=((fun i=>f (k + i)) ∘ ZC):=by
    funext i;show f (k + 1 + i)=f (k + (i + 1))
    rw [show k + 1 + i=k + (i + 1) by lia]
   rw [e2] at this;exact this
 have:=go acc.toList 0 fun i v e=>by
  rw [XC];exact h i v (by simpa using e)
 simp only [XC,WL,hs] at this;exact this
abbrev A5:=Str × Str × Int
def Ml (u:A5):PyData:=.tuple [.str u.1,.str u.2.1,.int u.2.2]
def Dz (u v:A5):Prop:=(u.1=v.1/\u.2.1=v.2.1)\/(u.1=v.2.1/\u.2.1=v.1)
structure Ge (xs:List Str) (k:Nat) (ws:List A5):Prop where
 of:∀ u ∈ ws,∃ i j:Nat,i < j/\j < k/\xs[i]? = some u.1/\xs[j]? = some u.2.1/\1<=u.2.2
 sep:ws.Pairwise fun u v=>¬ Dz u v
 to:∀ j,0 < j->j < k->∃ u ∈ ws,∃ i:Nat,i < j/\xs[i]? = some u.1/\xs[j]? = some u.2.1
 len:2 * ws.length<=k * (k - 1)
structure SH (xs:List Str) (ws:List A5):Prop where
 of:∀ u ∈ ws,u.1 ∈ xs/\u.2.1 ∈ xs/\u.1 ≠ u.2.1/\1<=u.2.2
 sep:ws.Pairwise fun u v=>¬ Dz u v
 to:∀ j,0 < j->j < xs.length->∃ u ∈ ws,∃ i:Nat,i < j/\xs[i]? = some u.1/\xs[j]? = some u.2.1
 len:2 * ws.length<=xs.length * (xs.length - 1) + 10
theorem DX {xs:List Str} (h:xs.Nodup) {i j:Nat} {x:Str} (a:xs[i]? = some x) (b:xs[j]? = some x):i=j:=GO h a b
theorem Ge.nil (xs:List Str):Ge xs 1 []:=⟨(fun _ h=>nomatch h),List.Pairwise.nil,(fun j h1 h2=>by lia),(by decide)⟩
theorem Ge.more {xs:List Str} {k:Nat} {ws us:List A5} (hn:xs.Nodup) (h:Ge xs k ws) (hk:k < xs.length) (js:List Nat) (hj:js.Nodup) (BH:∀ j ∈ js,j < k) (h0:js ≠ [])
  (hl:us.length=js.length) (hu:∀ (q:Nat) (u:A5) (j:Nat),us[q]? = some u->js[q]? = some j->xs[j]? = some u.1/\xs[k]? = some u.2.1/\1<=u.2.2):Ge xs (k + 1) (ws ++ us):=by
 have at_:∀ u ∈ us,∃ (q j:Nat),us[q]? = some u/\js[q]? = some j/\j < k/\xs[j]? = some u.1/\xs[k]? = some u.2.1/\1<=u.2.2:=by
  intro u hm;obtain ⟨q,hq,e⟩:=W2 hm;have e1:us[q]? = some u:=by rw [Wk hq,e]
  have e2:js[q]? = some js[q]:=Wk (by lia);obtain ⟨a,b,c⟩:=hu q u _ e1 e2;exact ⟨q,_,e1,e2,BH _ (Xb _),a,b,c⟩
 exists ?_,?_,?_
 ·intro u hm;rcases W9.mp hm with hm | hm
  ·obtain ⟨i,j,a,b,c⟩:=h.of u hm;exact ⟨i,j,a,by lia,c⟩
  ·obtain ⟨q,j,_,_,a,b,c,d⟩:=at_ u hm;exact ⟨j,k,a,by lia,b,c,d⟩
 ·rw [Zi];exists h.sep,?_
  ·rw [XD];intro q r hq hr hqr al;have a1:=hu q us[q] js[q] (Wk hq) (Wk (by lia));have a2:=hu r us[r] js[r] (Wk hr) (Wk (by lia));have l1:=BH js[q] (Xb _);have l2:=BH js[r] (Xb _);rcases al with ⟨e1,_⟩ | ⟨e1,_⟩
   ·have a3:=a1.1;rw [e1] at a3;have ej:=DX hn a3 a2.1;exact absurd ((Zs hj).mp ej) (by lia)
   ·have a3:=a1.1;rw [e1] at a3;have ej:=DX hn a3 a2.2.1;lia
  ·intro u UH v hv al;obtain ⟨i,j,hij,hjk,e1,e2,_⟩:=h.of u UH;obtain ⟨q,m,_,_,hm,e3,e4,_⟩:=at_ v hv;rcases al with ⟨_,z⟩ | ⟨z,_⟩
   ·rw [z] at e2;have:=DX hn e2 e4;lia
   ·rw [z] at e1;have:=DX hn e1 e4;lia
 ·intro j h1 h2;by_cases e:j=k
  ·subst e;cases us with
   | nil=>
    cases js with
    | nil=>exact absurd rfl h0
    | cons _ _=>cases hl
   | cons u us=>
    obtain ⟨q,m,_,_,hm,e3,e4,_⟩:=at_ u W7;exact ⟨u,Wx _ W7,m,hm,e3,e4⟩
  ·obtain ⟨u,hm,i,a,b⟩:=h.to j h1 (by lia);exact ⟨u,WN _ hm,i,a,b⟩
 ·have:=h.len;have hjl:js.length<=k:=by
   have:=Cb (l:=js) (xs:=Xc k) hj fun j hm=>X8.mpr (BH j hm)
   rwa [XU] at this
  rw [Ww,hl];show 2 * (ws.length + js.length)<=(k + 1) * (k + 1 - 1)
  rw [YE];have e:(k + 1) * k=k * (k - 1) + 2 * k:=by
   cases k with
   | zero=>rfl
   | succ k=>
    rw [YE];simp only [Z7,Nat.mul_succ,Nat.add_mul,Nat.mul_add];lia
  lia
theorem Ge.ways {xs:List Str} {ws:List A5} (hn:xs.Nodup) (h:Ge xs xs.length ws):SH xs ws:=by
 refine ⟨fun u hm=>?_,h.sep,h.to,by have:=h.len; lia⟩;obtain ⟨i,j,a,b,c,d,e⟩:=h.of u hm;refine ⟨Wo c,Wo d,fun z=>?_,e⟩;rw [z] at c;have:=DX hn c d;lia
def E6 (xs:List Str) (ws:List A5):Prop:=(∀ u ∈ ws,u.1 ∈ xs/\u.2.1 ∈ xs/\u.1 ≠ u.2.1/\1<=u.2.2)/\(ws.Pairwise fun u v=>¬ Dz u v) /\
 ∀ j,0 < j->j < xs.length->∃ u ∈ ws,∃ i:Nat,i < j/\xs[i]? = some u.1/\xs[j]? = some u.2.1
theorem SH.c {xs:List Str} {ws:List A5} (h:SH xs ws):E6 xs ws:=⟨h.of,h.sep,h.to⟩
theorem E6.snoc {xs:List Str} {ws:List A5} {x y:Str} {n:Int} (h:E6 xs ws) (hx:x ∈ xs) (hy:y ∈ xs) (ne:x ≠ y) (hn:1<=n) (no:∀ u ∈ ws,¬ ((x=u.1\/x=u.2.1)/\(y=u.1\/y=u.2.1))):E6 xs (ws ++ [(x,y,n)]):=by
 refine ⟨fun u hu=>?_,?_,fun j h1 h2=>?_⟩
 ·rcases W9.mp hu with hu | hu
  ·exact h.1 u hu
  ·rw [Wz.mp hu]; exact ⟨hx,hy,ne,hn⟩
 ·rw [Zi];refine ⟨h.2.1,X1 _ _,fun u hu v hv al=>?_⟩;rw [Wz.mp hv] at al;refine no u hu ?_;rcases al with ⟨e1,e2⟩ | ⟨e1,e2⟩
  ·exact ⟨.inl e1.symm,.inr e2.symm⟩
  ·exact ⟨.inr e2.symm,.inl e1.symm⟩
 ·obtain ⟨u,hu,r⟩:=h.2.2 j h1 h2;exact ⟨u,WN _ hu,r⟩
theorem Hn {H:Hp}:∀ {vs:List V} {ds:List PyData},BI H vs ds->vs.length=ds.length
 | _,_,.nil=>rfl
 | _,_,.cons _ r=>by rw [WO,WO,Hn r]
theorem Hm {H:Hp}:∀ {vs:List V} {ws:List A5} {i:Nat} {x:V},BI H vs (ws.map Ml)->vs[i]? = some x->∃ u t,ws[i]? = some u/\x=.ref t/\H t=some (.tup [.str u.1,.str u.2.1,.int u.2.2])
 | _,[],i,x,.nil,e=>by cases e
 | _,u :: ws,0,x,.cons (v:=v) h _,e=>by
  have e':v=x:=by simpa using e
  subst e';cases h with
  | tup ha hd=>
   exists u,_,rfl,rfl;cases hd with
   | cons h1 r1=>
    cases r1 with
    | cons h2 r2=>
     cases r2 with
     | cons h3 r3=>
      cases r3
      cases h1
      cases h2
      cases h3
      exact ha
 | _,u :: ws,i + 1,x,.cons _ r,e=>by
  obtain ⟨u',t,a,b⟩:=Hm (i:=i) (x:=x) r (by simpa using e);exact ⟨u',t,by simpa using a,b⟩
theorem Ea {H:Hp}:∀ {vs us:List V} {ds es:List PyData},BI H vs ds->BI H us es->BI H (vs ++ us) (ds ++ es)
 | _,_,_,_,.nil,h=>h
 | _,_,_,_,.cons a r,h=>.cons a (Ea r h)
theorem Ba (K:Wm) {X:Cx} (h:X.K=K):Tq X (rIxL K):=by subst h; exact QB
theorem AL (K:Wm) {X:Cx} (h:X.K=K):Tq X (rIxT K):=by subst h; exact Sg
theorem Oz (K:Wm) {X:Cx} (h:X.K=K):EL X (compareOp .In) (rIn K false):=by subst h; exact M9
theorem Bv (K:Wm) {X:Cx} (h:X.K=K) {es:List Expr} {k:Nat} {t:Rv} {n:Nat} {pos:Pos} (hc:X.calm=true) (ht:PGs X es t)
  (hn:(assignEach es X.env).length=n:=by rfl) (hst:(assignEach es X.env).findIdx? (·.1)=none:=by rfl):PG X (.Tuple es k pos) (gTup K n t):=by subst h; exact RS hc ht hn hst
end L2
namespace L2
open PySem PySem.W PyProof.Rows
section
variable {n:Nat} (hn:0 < n)
include hn
end
end L2
namespace L2
open PySem PySem.Spec PyProof.Rows PySem.W
theorem A6.there {P:Program} {w:World} {H:Hp} {h:Heap} {a:Addr} {o:HO} (x:A6 P w H h a o):∃ ob,h.get? a=some ob:=by
 cases o with
 | lst xs=>obtain ⟨_,_,_,_,e⟩:=x; exact ⟨_,e⟩
 | tup xs=>obtain ⟨_,_,_,⟨ob,e,_⟩,_⟩:=x; exact ⟨ob,e⟩
 | dK kvs=>obtain ⟨_,_,_,_,o,_,_,e,_⟩:=x; exact ⟨o,e⟩
 | dT kvs=>obtain ⟨_,_,_,_,o,_,_,e,_⟩:=x; exact ⟨o,e⟩
 | set S n=>obtain ⟨o,_,_,_,e,_⟩:=x; exact ⟨o,e⟩
 | ins C dx fs=>obtain ⟨_,_,_,e,_⟩:=x; exact ⟨_,e⟩
 | own y=>exact x
 | xd fs=>obtain ⟨_,⟨_,_,_,e,_⟩,_⟩:=x; exact ⟨_,e⟩
 | rng lo hi=>obtain ⟨_,_,_,e⟩:=x; exact ⟨_,e⟩
 | frz ob u=>obtain ⟨e,_⟩:=x; exact ⟨_,e⟩
 | tbl ps=>exact ⟨_,(show h.get? a=some _ from x)⟩
 | met f y=>exact ⟨_,(show h.get? a=some _ from x)⟩
 | ext φ=>obtain ⟨_,⟨_,e⟩,_⟩:=x; exact ⟨_,e⟩
theorem An.laidF {X:Cx} {pins:List (Addr × Obj)} {σ:St} {H:Hp} {s:Shared} {h2:Heap} {D:Addr} {o:HO} {m:Str->Option Value} (I:An X pins σ H s)
  (hl:s.heap.Ns X.env.locals m/\∀ (i:Nat) (x:Str) (v:V),X.N[i]? = some x->σ[i]? = some (some v)->Vis X.env.scope x->∃ u,Az v u/\Look X.env s.heap m x u) (hn:h2.Ns X.env.locals m)
  (kp:∀ b ob,b ≠ X.env.locals->s.heap.get? b=some ob->h2.get? b=some ob) (hD:s.heap.get? D=none) (hDL:D ≠ X.env.locals) (new:A6 X.prog X.w (upd H D o) h2 D o):An X pins σ (upd H D o) { s with heap:=h2 }:=by
 have fD:H D=none:=by
  cases z:H D with
  | none=>rfl
  | some u=>
   obtain ⟨ob,e⟩:=A6.there (I.hok D u z);rw [hD] at e;cases e
 have neL:∀ b ob,X.s₀.heap.get? b=some ob->b ≠ X.env.locals:=fun b ob e=>W6 (Ws (Wr e) I.ok.above)
 have neD:∀ b ob,s.heap.get? b=some ob->b ≠ D:=fun b ob e z=>by rw [z,hD] at e; cases e
 have cellK:∀ x c,X.env.cells.lookup x=some c->∀ v,s.heap.IsCell c v->h2.IsCell c v:=fun x c e v ⟨ob,ho,hd⟩=>⟨ob,kp c ob (I.cne x c e) ho,hd⟩
 refine ⟨I.ok,I.os,I.bare,⟨?_,?_,?_,?_,?_,?_,?_⟩,⟨m,hn,?_⟩,?_,?_,?_,?_,?_,I.len⟩
 ·exact fun b ob e n hb hx=>kp b ob (neL b ob e) (I.base.keep b ob e n hb hx)
 ·intro b ob e n hb hx;obtain ⟨sl,q⟩:=I.base.slot b ob e n hb hx;exact ⟨sl,kp b _ (neL b ob e) q⟩
 ·intro b ob e n hx;obtain ⟨U8,q⟩:=I.base.there b ob e hx;rw [Ae (neD b U8 q)];exact I.base.free b ob e n hx
 ·intro b ob e hx;obtain ⟨U8,q⟩:=I.base.there b ob e hx;exact ⟨U8,kp b U8 (neL b ob e) q⟩
 ·intro b xs e;have q:=I.base.tups b xs e;rw [Ae (Ah q fD)];exact q
 ·intro b ob u e;have q:=I.base.frzs b ob u e;rw [Ae (Ah q fD)];exact q
 ·intro b ps e;obtain ⟨more,q⟩:=I.base.tbls b ps e;exact ⟨more,by rw [Ae (Ah q fD)]; exact q⟩
 ·intro i x v e1 e2 e3;obtain ⟨u,r,l⟩:=hl.2 i x v e1 e2 e3;exists u,r;rcases l with l | ⟨k,c,e,z⟩
  ·exact .inl l
  ·exact .inr ⟨k,c,e,cellK x c e _ z⟩
 ·intro x c e;obtain ⟨v,z⟩:=I.cell x c e;exact ⟨v,cellK x c e v z⟩
 ·rw [Ae (Ne.symm hDL)];exact I.free
 ·intro x c e;obtain ⟨v,ob,ho,_⟩:=I.cell x c e;rw [Ae (neD c ob ho)];exact I.freeC x c e
 ·intro p hp;obtain ⟨e,n,ne,nf,d⟩:=I.pin p hp;exact ⟨kp _ _ ne e,by rw [Ae (neD _ _ e)]; exact n,ne,nf,d⟩
 ·intro b u e;by_cases hb:b=D
  ·subst hb;rw [Ab] at e;cases e
   exact new
  ·rw [Ae hb] at e;refine (I.hok b u e).stay (fun c v hc q=>kp c v ?_ q) (fun c q=>by rw [Ae (Ah q fD)]; exact q) fun c xs q=>by rw [Ae (Ah q fD)]; exact q
   rintro rfl;rcases hc with rfl | hc
   ·rw [I.free] at e; cases e
   ·rw [I.free] at hc; cases hc
end L2
namespace L2
open PySem PySem.Spec PyProof.Rows
section
variable {prog:Program} {w:World} {A:Around} {E:Value->Shared->Prop} {s:Shared}
end
def BL (a b:Str):Str:=if b.cps.toList < a.cps.toList then b else a
def BN (a b:Str):Str:=if a.cps.toList < b.cps.toList then b else a
theorem Qh {ss:List Str}:∀ {us:List Value},A7 (ss.map V.str) us->StrsAre us ss:=by
 induction ss with
 | nil=>intro us r; cases r; exact .nil
 | cons x ss ih=>
  intro us r;cases r with
  | cons r1 r2=>
   obtain ⟨t,rfl⟩:=r1;exact .cons x t (ih r2)
theorem LP:∀ {us:List Value} {ss:List Str},StrsAre us ss->A7 (ss.map V.str) us
 | _,_,.nil=>.nil
 | _,_,.cons x t r=>.cons ⟨t,rfl⟩ (LP r)
theorem Cu {X:Cx}:B0 X (.builtin "sorted") (fun xs H Q=>∃ (a:Addr) (ss:List Str),xs=[.ref a]/\AD X.K H a (ss.map V.str)/\ss.length < 64 /\
  ∀ (l:Addr) (NQ:List Str),H l=none->NQ.Perm ss->sortedS NQ=true->Q (.ref l) (upd H l (.lst (NQ.map V.str)))):=by
 intro pins s σ H xs us Q I r h;obtain ⟨a,ss,rfl,ha,Sy,q⟩:=h;obtain ⟨u,rfl,ru⟩:=Ci r;cases ru
 obtain ⟨Aw,rv,pl,hz⟩:=I.list ha;have hl:Aw.length=ss.length:=by rw [<-rv.length,Wj]
 refine sorted_strs pl.isList (Qh rv) (by lia) fun out NQ h1 h2 h3=>?_
 obtain ⟨e,he⟩:=sortedAll_at s.heap Aw out;refine ⟨.ref (s.heap.objs.size + 1),_,I.laid (o:=.lst (NQ.map V.str)) (t':=s.toks) (fun b o z=>sortedAll_old z) (WX _) ⟨?_,out.toList,e,LP h1,by simpa using he⟩,rfl,q _ NQ (I.hok.fresh (WX _)) h2 h3⟩;rw [Wj,h2.length_eq];have:100 < sizeLine:=by decide
 lia
end L2
namespace L2
open PySem PySem.Spec PySem.W PyProof.Rows
theorem Ii {vs:List Value} {p:Keyed} (h:p ∈ (pairsOf vs).toList):p=(p.2,p.2)/\p.2 ∈ vs:=by
 rw [pairsOf_toList] at h;obtain ⟨e,m⟩:=mem_zip_self h;refine ⟨?_,e ▸ m⟩;obtain ⟨x,y⟩:=p;exact Prod.ext e rfl
theorem M7 (vs:List Value):(pairsOf vs).toList.map (·.2)=vs:=by
 rw [pairsOf_toList];induction vs with
 | nil=>rfl
 | cons v vs ih=>rw [List.zip_cons_cons,WG,ih]
theorem JN {vs:List Value} {xs:Array Keyed} (h:xs.Perm (pairsOf vs)):(xs.toList.map (·.2)).Perm vs:=by
 have q:=(YO.mp h).map (·.2);rw [M7] at q;exact q
section
variable {prog:Program} {w:World} {A:Around} {E:Value->Shared->Prop} {s:Shared} {lt:Keyed->Keyed->Bool}
def Cmpd (prog:Program) (w:World) (s:Shared) (lt:Keyed->Keyed->Bool) (vs:List Value):Prop:=
 2<=vs.length->∀ (A:Around) (h':Heap),(∀ b o,s.heap.get? b=some o->h'.get? b=some o) ->
  ∃ κ,(∀ (Q:SortKind->Shared->Prop) (E:Value->Shared->Prop),Q κ { s with heap:=h' }->wpAny (model prog w) A (keyKind' vs.toArray) Q E { s with heap:=h' })/\Ln prog w A { s with heap:=h' } κ lt (pairsOf vs)
end
inductive Fy where
 | i (n:Int)
 | s (x:Str)
 deriving DecidableEq
def DJ:Fy->Fy->Bool
 | .i a,.i b=>decide (a < b)
 | .s a,.s b=>decide (a.cps.toList < b.cps.toList)
 | .i _,.s _=>true
 | .s _,.i _=>false
def AO:List Fy->List Fy->Bool
 | [],[]=>false
 | [],_ :: _=>true
 | _ :: _,[]=>false
 | x :: xs,y :: ys=>if x=y then AO xs ys else DJ x y
theorem QV (a:Fy):DJ a a=false:=by
 cases a with
 | i n=>simp [DJ]
 | s x=>exact strKind.irrefl x.cps.toList
theorem QT:∀ {a b c:Fy},DJ a b=true->DJ b c=true->DJ a c=true
 | .i a,.i b,.i c,h1,h2=>by
  simp only [DJ,decide_eq_true_eq] at h1 h2 ⊢;lia
 | .i _,.i _,.s _,_,_=>rfl
 | .i _,.s _,.s _,_,_=>rfl
 | .i _,.s _,.i _,_,h=>by cases h
 | .s _,.i _,_,h,_=>by cases h
 | .s _,.s _,.i _,_,h=>by cases h
 | .s x,.s y,.s z,h1,h2=>strKind.trans x.cps.toList y.cps.toList z.cps.toList h1 h2
theorem QU {a b:Fy} (h:a ≠ b):DJ a b=true\/DJ b a=true:=by
 cases a <;> cases b <;> simp [DJ]
 ·have:∀ x y:Int,Fy.i x ≠ Fy.i y->x < y\/y < x:=fun x y h=>by
   have:x ≠ y:=fun e=>h (by rw [e])
   lia
  exact this _ _ h
 ·rename_i x y
  by_cases h1:x.cps.toList < y.cps.toList
  ·exact .inl h1
  ·by_cases h2:y.cps.toList < x.cps.toList
   ·exact .inr h2
   ·exfalso
    apply h;have e:=strKind.total x.cps.toList y.cps.toList (decide_eq_false h1) (decide_eq_false h2);cases x
    cases y
    rw [Yt] at e;subst e;rfl
theorem Fo:∀ a,AO a a=false
 | []=>rfl
 | x :: xs=>by unfold AO; rw [if_pos rfl]; exact Fo xs
theorem SF {a b:Fy} (h:DJ a b=true):a ≠ b:=fun e=>by
 rw [e,QV] at h;cases h
theorem LW:∀ a b c,AO a b=true->AO b c=true->AO a c=true
 | [],[],_,h,_=>by cases h
 | [],_ :: _,[],_,h=>by cases h
 | [],_ :: _,_ :: _,_,_=>rfl
 | _ :: _,[],_,h,_=>by cases h
 | _ :: _,_ :: _,[],_,h=>by cases h
 | x :: xs,y :: ys,z :: zs,h1,h2=>by
  unfold AO at h1 h2 ⊢;by_cases e1:x=y
  ·rw [if_pos e1] at h1;by_cases e2:y=z
   ·rw [if_pos e2] at h2;rw [if_pos (e1.trans e2)];exact LW xs ys zs h1 h2
   ·rw [if_neg e2] at h2;rw [if_neg (by rw [e1]; exact e2),e1];exact h2
  ·rw [if_neg e1] at h1;by_cases e2:y=z
   ·rw [if_neg (by rw [<-e2]; exact e1),<-e2];exact h1
   ·rw [if_neg e2] at h2;have h3:=QT h1 h2;rw [if_neg (SF h3)];exact h3
theorem LX:∀ a b,AO a b=false->AO b a=false->a=b
 | [],[],_,_=>rfl
 | [],_ :: _,h,_=>by cases h
 | _ :: _,[],_,h=>by cases h
 | x :: xs,y :: ys,h1,h2=>by
  unfold AO at h1 h2;by_cases e:x=y
  ·rw [if_pos e] at h1;rw [if_pos e.symm] at h2;rw [e,LX xs ys h1 h2]
  ·rw [if_neg e] at h1;rw [if_neg (fun z=>e z.symm)] at h2;rcases QU e with q | q
   ·rw [h1] at q; cases q
   ·rw [h2] at q; cases q
def BY:Value->Fy
 | .int n _=>.i n
 | .str x _=>.s x
 | _=>.i 0
def Mn:V->Fy
 | .int n=>.i n
 | .str x=>.s x
 | _=>.i 0
def CY (h:Heap):Value->List Fy
 | .ref a=>match h.get? a with
  | some o=>(match o.data with
   | .seq xs _=>xs.toList.map BY
   | _=>[])
  | none=>[]
 | v=>[BY v]
def keyV (H:Hp):V->List Fy
 | .ref a=>match H a with
  | some (.tup ys)=>ys.map Mn
  | _=>[]
 | v=>[Mn v]
def Kk (k:Bool) (v:V):Prop:=if k=true then ∃ x,v=.str x else ∃ n,v=.int n
def C8 (k:Bool) (v:Value):Prop:=if k=true then ∃ x t,v=.str x t else ∃ n t,v=.int n t
theorem QA {k:Bool} {v:V} {u:Value} (r:Az v u) (h:Kk k v):C8 k u/\BY u=Mn v:=by
 unfold Kk at h;unfold C8;cases k with
 | true=>
  simp only [if_true] at h ⊢;obtain ⟨x,rfl⟩:=h;obtain ⟨t,rfl⟩:=r;exact ⟨⟨x,t,rfl⟩,rfl⟩
 | false=>
  simp only [WB,if_false] at h ⊢;obtain ⟨x,rfl⟩:=h;obtain ⟨t,rfl⟩:=r;exact ⟨⟨x,t,rfl⟩,rfl⟩
def Nl (H:Hp) (kd:Nat->Bool) (v:V):Prop:=∃ t ys,v=.ref t/\H t=some (.tup ys)/\ys ≠ []/\∀ i y,ys[i]? = some y->Kk (kd i) y
def Lf (h:Heap) (kd:Nat->Bool) (v:Value):Prop:=∃ t o xs n,v=.ref t/\h.get? t=some o/\o.cls=.type "tuple"/\o.data=.seq xs n/\0 < xs.size/\∀ (i:Nat) x,xs.toList[i]? = some x->C8 (kd i) x
theorem R7 {X:Cx} {pins:List (Addr × Obj)} {σ:St} {H:Hp} {s:Shared} (I:An X pins σ H s) {kd:Nat->Bool} {v:V} {u:Value} (r:Az v u) (h:Nl H kd v):Lf s.heap kd u/\CY s.heap u=keyV H v:=by
 obtain ⟨t,ys,rfl,ht,ne,hy⟩:=h;cases r
 obtain ⟨_,Aw,rv,⟨o,ho,hc,n,hd⟩,_⟩:=(show A6 X.prog X.w H s.heap t (.tup _) from I.hok t _ ht)
 have e:keyV H (.ref t)=ys.map Mn:=by
  show (match H t with | some (.tup ys)=>ys.map Mn | _=>[])=_
  rw [ht]
 have e2:CY s.heap (.ref t)=Aw.map BY:=by
  show (match s.heap.get? t with | some o=>(match o.data with | .seq xs _=>xs.toList.map BY | _=>[]) | none=>[])=_
  rw [ho];dsimp only;rw [hd]
 have all:∀ {ys:List V} {Aw:List Value} (k:Nat),A7 ys Aw->(∀ i y,ys[i]? = some y->Kk (kd (k + i)) y)->(∀ (i:Nat) x,Aw[i]? = some x->C8 (kd (k + i)) x)/\Aw.map BY=ys.map Mn:=by
  intro ys;induction ys with
  | nil=>intro Aw k rv _; cases rv; exact ⟨fun i x e=>by simp at e,rfl⟩
  | cons y ys ih=>
   intro Aw k rv hy;cases rv with
   | cons r1 r2=>
    obtain ⟨a1,a2⟩:=QA r1 (hy 0 y rfl);obtain ⟨b1,b2⟩:=ih (k + 1) r2 fun i z e=>by
     have:=hy (i + 1) z (by simpa using e);rw [show k + 1 + i=k + (i + 1) by lia];exact this
    refine ⟨fun i x e=>?_,by rw [WG,WG,a2,b2]⟩;cases i with
    | zero=>
     rw [X2] at e;cases e
     exact a1
    | succ i=>
     have:=b1 i x (by simpa using e);rw [show k + 1 + i=k + (i + 1) by lia] at this;exact this
 obtain ⟨a1,a2⟩:=all 0 rv fun i y e=>by rw [XC]; exact hy i y e
 refine ⟨⟨t,o,Aw.toArray,n,rfl,ho,hc,hd,?_,fun i x e=>?_⟩,by rw [e,e2,a2]⟩
 ·have:=rv.length;have:0 < ys.length:=Xz.mpr ne;simp;lia
 ·have:=a1 i x (by simpa using e);rw [XC] at this;exact this
section
variable {prog:Program} {w:World} {A:Around} {E:Value->Shared->Prop} {s:Shared} {Q:Bool->Shared->Prop}
theorem Qw {k b:Bool} {u v:Value} (hu:C8 k u) (hv:C8 k v) (h:Q (DJ (BY u) (BY v)) s):wpAny (model prog w) A (oneLt' b u v) Q E s:=by
 unfold C8 at hu hv;cases k with
 | true=>
  simp only [if_true] at hu hv;obtain ⟨x,t,rfl⟩:=hu;obtain ⟨y,t',rfl⟩:=hv;cases b with
  | true=>exact oneLt_str h
  | false=>exact kat_one _ _ (PySem.P.lt_str h)
 | false=>
  simp only [WB,if_false] at hu hv;obtain ⟨x,t,rfl⟩:=hu;obtain ⟨y,t',rfl⟩:=hv;cases b with
  | true=>exact oneLt_int h
  | false=>exact kat_one _ _ (lt_int h)
theorem S7 {k:Bool} {u v:Value} (hu:C8 k u) (hv:C8 k v):SeqAt.EqAt A s u v (decide (BY u=BY v)):=by
 unfold C8 at hu hv;cases k with
 | true=>
  simp only [if_true] at hu hv;obtain ⟨x,t,rfl⟩:=hu;obtain ⟨y,t',rfl⟩:=hv;have e:decide (BY (.str x t)=BY (.str y t'))=(x == y):=by
   show decide (Fy.s x=Fy.s y)=_
   rw [Xg];simp
  rw [e];exact SeqAt.EqAt.str_str x t y t'
 | false=>
  simp only [WB,if_false] at hu hv;obtain ⟨x,t,rfl⟩:=hu;obtain ⟨y,t',rfl⟩:=hv;have e:decide (BY (.int x t)=BY (.int y t'))=(x == y):=by
   show decide (Fy.i x=Fy.i y)=_
   rw [Xg];simp
  rw [e];exact SeqAt.EqAt.int_int x t y t'
theorem Iq {b:Bool} {kd:Nat->Bool}:∀ (xs ys:List Value) (i:Nat),(∀ (j:Nat) x,xs[j]? = some x->C8 (kd (i + j)) x)->(∀ (j:Nat) x,ys[j]? = some x->C8 (kd (i + j)) x) ->
  Q (AO (xs.map BY) (ys.map BY)) s->KatLex prog w A b (decide (xs.length < ys.length)) Q (xs.zip ys) i s
 | [],[],i,_,_,h=>h
 | [],y :: ys,i,_,_,h=>h
 | x :: xs,[],i,_,_,h=>h
 | x :: xs,y :: ys,i,hx,hy,h=>by
  have kx:C8 (kd i) x:=hx 0 x rfl;have ky:C8 (kd i) y:=hy 0 y rfl;rw [WG,WG] at h;unfold AO at h;refine kat_cons (S7 kx ky _ _ _ _ ?_);refine kat_go (fun e=>kat_yes ?_) (fun e=>kat_no (Qw kx ky ?_))
  ·have e':=of_decide_eq_true e;rw [if_pos e'] at h;have r:=Iq (b:=b) (kd:=kd) xs ys (i + 1) (fun j z e=>by rw [show i + 1 + j=i + (j + 1) by lia]; exact hx (j + 1) z (by simpa using e)) (fun j z e=>by rw [show i + 1 + j=i + (j + 1) by lia]; exact hy (j + 1) z (by simpa using e)) h;have e2:decide ((x :: xs).length < (y :: ys).length)=decide (xs.length < ys.length):=by simp
   rw [e2];exact r
  ·have e':=of_decide_eq_false e;rw [if_neg e'] at h;exact h
theorem R8 {kd:Nat->Bool} {u v:Value} (hu:Lf s.heap kd u) (hv:Lf s.heap kd v) (h:Q (AO (CY s.heap u) (CY s.heap v)) s):wpAny (model prog w) A (keyLt' (tuples' true) u v) Q E s:=by
 obtain ⟨t,o,xs,n,rfl,ho,hc,hd,p,hx⟩:=hu;obtain ⟨t',o',Ny,n',rfl,HD,Gn,JZ,p',Nr⟩:=hv;have e1:CY s.heap (.ref t)=xs.toList.map BY:=by
  show (match s.heap.get? t with | some o=>(match o.data with | .seq xs _=>xs.toList.map BY | _=>[]) | none=>[])=_
  rw [ho];dsimp only;rw [hd]
 have e2:CY s.heap (.ref t')=Ny.toList.map BY:=by
  show (match s.heap.get? t' with | some o=>(match o.data with | .seq xs _=>xs.toList.map BY | _=>[]) | none=>[])=_
  rw [HD];dsimp only;rw [JZ]
 rw [e1,e2] at h;refine kat_lt ho hd HD JZ ?_;have e3:decide (xs.size < Ny.size)=decide (xs.toList.length < Ny.toList.length):=by simp
 rw [e3];exact Iq (kd:=kd) _ _ 0 (fun j x e=>by rw [XC]; exact hx j x e) (fun j x e=>by rw [XC]; exact Nr j x e) h
theorem HV {kd:Nat->Bool} {vs:List Value} (h:∀ v ∈ vs,Lf s.heap kd v):Cmpd prog w s (fun x y=>AO (CY s.heap x.1) (CY s.heap y.1)) vs:=by
 intro h2 A h' kp;have h1:∀ v ∈ vs,Lf h' kd v/\CY h' v=CY s.heap v:=fun v hv=>by
  obtain ⟨t,o,xs,n,rfl,ho,hc,hd,p,hx⟩:=h v hv;exists ⟨t,o,xs,n,rfl,kp t o ho,hc,hd,p,hx⟩;show (match h'.get? t with | some o=>(match o.data with | .seq xs _=>xs.toList.map BY | _=>[]) | none=>[])=(match s.heap.get? t with | some o=>(match o.data with | .seq xs _=>xs.toList.map BY | _=>[]) | none=>[])
  rw [ho,kp t o ho]
 exists tuples' true,?_
 ·intro Q E hq;have tups:∀ l:List Value,(∀ v ∈ l,Lf h' kd v)->∃ fs:List Value,KatTups h' l fs/\fs.length=l.length/\∀ f ∈ fs,C8 (kd 0) f:=by
   intro l;induction l with
   | nil=>intro _; exact ⟨[],KatTups.nil,rfl,fun f hf=>nomatch hf⟩
   | cons v l ih=>
    intro hl;obtain ⟨fs,k1,k2,k3⟩:=ih fun v hv=>hl v (WH _ hv)
    obtain ⟨t,o,xs,n,rfl,ho,hc,hd,p,hx⟩:=hl v W7;have g:xs[0]? = some xs[0]:=Xt p;refine ⟨xs[0] :: fs,KatTups.cons ho hc hd g k1,by rw [WO,WO,k2],fun f hf=>?_⟩;rcases Wn.mp hf with rfl | hf
    ·exact hx 0 _ (by rw [Xh]; exact g)
    ·exact k3 f hf
  obtain ⟨fs,k1,k2,k3⟩:=tups vs fun v hv=>(h1 v hv).1
  cases ek:kd 0 with
  | true=>
   refine kat_kind (T:=.type "str") k1 (by lia) (fun v hv=>?_) rfl hq;have q:=k3 v hv;unfold C8 at q;rw [ek] at q;simp only [if_true] at q;obtain ⟨x,t,rfl⟩:=q;exact Looks.now
  | false=>
   refine kat_kind (T:=.type "int") k1 (by lia) (fun v hv=>?_) rfl hq;have q:=k3 v hv;unfold C8 at q;rw [ek] at q;simp only [WB,if_false] at q;obtain ⟨x,t,rfl⟩:=q;exact Looks.now
 ·intro x y hx hy Q E hq;obtain ⟨ex,mx⟩:=Ii (vs:=vs) (p:=x) (by simpa using hx);obtain ⟨ey,my⟩:=Ii (vs:=vs) (p:=y) (by simpa using hy);rw [ex,ey] at hq ⊢;dsimp only at hq ⊢;refine R8 (h1 _ mx).1 (h1 _ my).1 ?_;show Q (AO (CY h' x.2) (CY h' y.2)) _
  rw [(h1 _ mx).2,(h1 _ my).2];exact hq
end
theorem Mm {us Lq:List Value} (p:Lq.Perm us):∀ {vs:List V},A7 vs us->∃ Kn,A7 Kn Lq/\Kn.Perm vs:=by
 induction p with
 | nil=>intro vs h; exact ⟨vs,h,.refl _⟩
 | cons x p ih=>
  intro vs h;cases h with
  | cons h1 h2=>
   obtain ⟨Kn,a,b⟩:=ih h2;exact ⟨_ :: Kn,.cons h1 a,b.cons _⟩
 | swap x y l=>
  intro vs h;cases h with
  | cons h1 h2=>
   cases h2 with
   | cons h3 h4=>exact ⟨_ :: _ :: _,.cons h3 (.cons h1 h4),.swap _ _ _⟩
 | trans p1 p2 TM TL=>
  intro vs h;obtain ⟨R4,a1,b1⟩:=TL h;obtain ⟨U1,a2,b2⟩:=TM a1;exact ⟨U1,a2,b2.trans b1⟩
end L2
namespace L2
open PySem PySem.Spec PyProof.Rows
section
variable {prog:Program} {w:World} {A:Around} {E:Value->Shared->Prop} {s:Shared}
end
def DW (u:A5):A5:=(BL u.1 u.2.1,BN u.1 u.2.1,u.2.2)
theorem Jb {X:Cx} {ix:Nat} {x:Str} {px spos:Pos} {tg iter elt:Expr} {ifs:List Expr} {scope:Scope} {cl:List (Str × Addr)} {N:List Str} {pos:Pos} {wi:TI} {g:TG} {tt:TT} {te:TE} {σ0:St->St} (hN:X.N.Nodup) (hix:X.N[ix]? = some x) (hlx:To X.env.scope x) (hc:X.calm=true) (co:AE X scope cl)
  (hσ:∀ σ,σ.length=X.N.length->AK X cl scope N σ (σ0 σ)) (hi:PI X tg iter wi)
  (hb:∀ s2 H C fp,PG (As X scope cl N s2 H C fp) tg g/\Rw (As X scope cl N s2 H C fp) ifs tt/\PE (As X scope cl N s2 H C fp) elt te)
  (hsw:swapsWith (.ListComp elt [⟨tg,iter,ifs,0⟩] scope pos) (some (.Name x px)) spos.line X.env=pure true:=by rfl)
  (hs:∀ x,foldedSetIterable iter X.env x=pure x:=by intro _; rfl) (hf:X.fn x=true\/X.env.scope.names.lookup x=some .local:=by first | exact .inl rfl | exact .inr rfl | assumption) :
  PS X (.Assign [.Name x px] (.ListComp elt [⟨tg,iter,ifs,0⟩] scope pos) spos) (Qf (NM wi g tt te σ0) (Mc ix)):=by
 intro pins s σ H DD I h;rw [exec_Assign_Name_used _ _ _ _ hsw];refine wpAny_bind (wpAny_standAt (wpAny_bind ?_));show wpAny _ X.A (do let _ <- comprehension (.ListComp elt [⟨tg,iter,ifs,0⟩] scope pos) scope X.env _ (newList []) false (eval iter X.env) (some (assign (.Name x px) X.env))) _ _ s
 refine wpAny_bind (wpAny_mono (wpAny_comprehension_free (use:=some (assign (.Name x px) X.env)) (Q:=fun _ s'=>SP X pins DD .next s') rfl hs co.clos co.kind co.names
  (wpAny_mono (hi (pins:=pins) s σ H _ I h) (fun xv s1 h1=>wpAny_mono h1 (fun itv s2 h2=>?_) fun _ _ e=>e) fun _ _ e=>e)) (fun _ s' hq=>wpAny_pure (wpAny_pure hq)) fun _ _ e=>e)
 obtain ⟨it,fp,tn,J,H2,rfl,I2,T,Dm,f2,hW⟩:=h2;refine wpAny_newObj_type (wpAny_newFunctionEnv co.cell (by intro y hy; cases hy) (fun AA BE BD=>?_) co.kind);dsimp only at BE BD ⊢;generalize Hg:s2.heap.push { cls:=.type "list",dict:=none,data:=.seq ([]:List Value).toArray } = HH at BE BD ⊢;have Bs:HH.objs.size=s2.heap.objs.size + 1:=by rw [<-Hg,WY]
 have old:∀ b o,s2.heap.get? b=some o->AA.get? b=some o:=fun b o e=>
  BD.extBut b o (W6 (by rw [Bs]; exact WK (Wr e))) (Wl _ (Hg ▸ Wl _ e))
 have newD:∃ n,AA.get? s2.heap.objs.size=some { cls:=.type "list",data:=.seq ([]:List Value).toArray n }:=
  ⟨_,BD.extBut _ _ (W6 (by rw [Bs]; exact WM _)) (Wl _ (Hg ▸ W0 _ rfl))⟩
 obtain ⟨W,⟨m0,w0⟩,turn⟩:=hW s2.heap.objs.size I2.fresh;have hfo:∀ b ∈ fp,∃ o,s2.heap.get? b=some o:=fun b hb=>let ⟨o,e,_⟩:=T.obj _ _ Dm b hb; ⟨o,e⟩
 have I3:An (As X scope cl N s2 H2 HH.objs.size fp) [] (σ0 σ) (upd H2 s2.heap.objs.size (.lst [])) { s2 with heap:=AA,toks:=s2.toks + ([]:List (Str × Value)).length }:=
  Ho I2 f2 hfo co (hσ σ I.len) old (Wq _) (by rw [Bs]; exact WX _) (Xa (by rw [Bs]; exact WM _)) (.inr newD) BE
 have fC:s2.heap.objs.size<=HH.objs.size:=by rw [Bs]; exact WX _
 obtain ⟨hg,ht,he⟩:=hb s2 H2 HH.objs.size fp;have loop:∀ BW:Shared,BW = { s2 with heap:=AA,toks:=s2.toks + ([]:List (Str × Value)).length } ->
   codeAny (model X.prog X.w) X.A (.compLoop (.ListComp elt [⟨tg,iter,ifs,0⟩] scope pos) 0 (.ref it) (.ref s2.heap.objs.size) (compEnvC scope cl HH.objs.size X.env))
    (compPost (model X.prog X.w) X.A X.xe (some (assign (.Name x px) X.env)) (fun _ s'=>SP X pins DD .next s') (.ref s2.heap.objs.size) HH.objs.size) BW:=by
  rintro BW rfl;have stat:∀ {H':Hp} ,(∀ b ∈ fp,H' b=none)->∀ b ∈ fp,CN (As X scope cl N s2 H2 HH.objs.size fp) [] H' b:=fun hn b hb=>by
   refine ⟨hn b hb,?_,?_,.inl hb,?_,fun p hp=>by cases hp⟩
   ·obtain ⟨o,e⟩:=hfo b hb;exact W6 (show b < HH.objs.size by rw [Bs]; exact WK (Wr e))
   ·intro hz;obtain ⟨_,q1,q2,_⟩:=f2 b hb;rcases Wn.mp (I2.stkSub b hz) with e | e
    ·exact q1 e
    ·exact q2 e
   ·exact fun x c e=>(f2 b hb).2.2.2.2.1 x c (co.sub x c e)
  refine BU (fun n s'=>∃ i Aq H',An (As X scope cl N s2 H2 HH.objs.size fp) [] Aq H' s'/\tn i s'.heap/\(∀ b ∈ fp,H' b=none)/\W i n Aq H') ?_ m0
   ⟨0,σ0 σ,_,I3,T.keep _ _ _ Dm fun b hb o e=>old b o e,fun b hb=>?_,w0⟩
  ·rintro n s4 ⟨i,EO,H4,I4,Gw,Ka,w4⟩;rcases turn i n EO H4 w4 with ⟨stop,qn⟩ | ⟨go,step⟩
   ·refine wpAny_mono (T.done (As X scope cl N s2 H2 HH.objs.size fp) rfl rfl rfl hc i [] s4 EO H4 (fun _ _=>False) I4 (stat Ka) Gw stop) (fun r s5 ⟨hr,I5⟩=>?_) fun _ _ z=>z.elim
    subst hr;obtain ⟨m5,OP,_⟩:=id I5.loc;have I6:An X pins σ H4 s5:=Fu (h':=s5.heap) I2 f2 fC I5 (Heap.SameBut.refl _ _);have cC:∀ y c,X.env.cells.lookup y=some c->c ≠ HH.objs.size:=fun y c e=>by
     obtain ⟨v,q⟩:=I2.cell y c e;exact W6 (Ws q.lt fC)
    have lC:X.env.locals ≠ HH.objs.size:=W6 (Ws I2.lt fC);show wpAny _ X.A (assign (.Name x px) X.env (.ref s2.heap.objs.size)) _ X.xe s5
    refine wpAny_assign_Name (F1 I6 hN hix hlx (v:=.ref s2.heap.objs.size) rfl (fun s7 I7 ⟨a,sb,ha⟩=>?_) hf);have aC:a ≠ HH.objs.size:=by
     rcases ha with rfl | ha
     ·exact lC
     ·exact cC _ _ ha
    refine ⟨m5,OP.sameBut sb (Ne.symm aC),fun h' J0=>⟨_,H4,?_,qn⟩⟩;exact I7.turned (t':=s7.toks) (it:=HH.objs.size) (fun b o hb e=>(J0.2 b hb).trans e) I5.free (Ne.symm lC) (.inr (WJ I2.sz fC)) cC fun p hp z=>by
     have e:=(I2.pin p hp).1;exact absurd (Ws (Wr e) fC) (by rw [z]; exact WT _)
   ·refine wpAny_mono (T.item (As X scope cl N s2 H2 HH.objs.size fp) rfl rfl rfl hc i [] s4 EO H4 (fun _ _=>False) I4 (stat Ka) Gw go) (fun r s5 ⟨u,hr,h5⟩=>?_) fun _ _ z=>z.elim
    subst hr;refine wpAny_mono h5 (fun _ s6 ⟨x,H6,I6,r6,y6,Gv,OV⟩=>?_) fun _ _ z=>z.elim
    have Pt:=I6.pinned (stat OV) (T.obj _ _ Gv);refine wpAny_mono (hg s6 EO H6 x u _ Pt r6 (step x H6 y6)) (fun _ s7 ⟨DG,H7,I7,q7⟩=>?_) fun _ _ z=>z.elim
    refine wpAny_mono (ht s7 DG H7 _ I7 q7) (fun ok s8 ⟨H8,I8,q8⟩=>?_) fun _ _ z=>z.elim
    have again:∀ {s9:Shared} {EN:St} {H9:Hp} ,An (As X scope cl N s2 H2 HH.objs.size fp) ([] ++ Dg fp s6.heap) EN H9 s9->(∃ m',m' < n/\W (i + 1) m' EN H9)->∃ m,m < n/\∃ i Aq H',An (As X scope cl N s2 H2 HH.objs.size fp) [] Aq H' s9/\tn i s9.heap/\(∀ b ∈ fp,H' b=none)/\W i m Aq H':=fun {s9 EN H9} I9 n9=>by
     obtain ⟨m',hm,w9⟩:=n9;refine ⟨m',hm,i + 1,EN,H9,I9.unpinned,T.keep _ _ _ Gv fun b hb o e=>(I9.pin (b,o) (Wx _ (Wx _ (AU hb e)))).1,fun b hb=>?_,w9⟩;obtain ⟨o,e,d⟩:=T.obj _ _ Gv b hb;exact (I9.pin (b,o) (Wx _ (Wx _ (AU hb e)))).2.1
    cases ok with
    | false=>
     rw [if_neg W8] at q8 ⊢;exact again I8 q8
    | true=>
     rw [if_pos rfl] at q8 ⊢;refine wpAny_mono (he s8 DG H8 _ I8 q8) (fun y s9 ⟨v,H9,I9,r9,acc,hacc,hsz,q9⟩=>?_) fun _ _ z=>z.elim
     refine wpAny_mono (Ck (X:=As X scope cl N s2 H2 HH.objs.size fp) s9 DG H9 (.ref s2.heap.objs.size) [v] (.ref s2.heap.objs.size) [y] (fun _ Nw=>∃ m',m' < n/\W (i + 1) m' DG Nw) I9 rfl (.cons r9 .nil) ⟨_,acc,v,rfl,rfl,hacc,hsz,q9⟩) (fun _ Tz ⟨_,Nw,Pu,_,Of⟩=>?_) fun _ _ z=>z.elim
     exact again Pu Of
  ·have z:=(f2 b hb).1;obtain ⟨o,e⟩:=hfo b hb;rw [Ae (W6 (Wr e))];exact z
 exact codeAny_compStart_list (loop _ rfl) (T.self _ 0 _ _ _ (T.keep _ _ _ Dm fun b hb o e=>old b o e) (loop _ rfl))
theorem Paired.at {α β:Type} {F:α->β->Prop}:∀ {OC:List α} {OB:List β},Paired F OC OB->∀ {i:Nat} {a:α},OC[i]? = some a->∃ b,OB[i]? = some b/\F a b
 | _,_,.nil,i,a,h=>by simp at h
 | _,_,.cons r t,0,a,h=>by
  simp only [X2,WA.injEq] at h;subst h;exact ⟨_,rfl,r⟩
 | _,_,.cons r t,i + 1,a,h=>by
  simp only [List.getElem?_cons_succ] at h;obtain ⟨b,h1,h2⟩:=Paired.at t h;exact ⟨b,by simpa using h1,h2⟩
theorem Mw {P:Program} {w:World} {k:AV} {u:Value} (h:(Bk P w).is k u=true):Az (kV k) u:=by
 rcases Bl (show GX k u=true from h) with ⟨i,t,rfl,rfl⟩ | ⟨x,t,rfl,rfl⟩
 ·exact ⟨t,rfl⟩
 ·exact ⟨t,rfl⟩
def Ra (a:Addr) (kvs:List (AV × V)) (o:Obj):It:=
 ⟨fun i H=>H a=some (.frz o (.dK kvs))/\i < kvs.length,fun i H x H'=>H'=H/\∃ k v,kvs[i]? = some (k,v)/\x=kV k,fun i H=>H a=some (.frz o (.dK kvs))/\kvs.length<=i⟩
theorem Lb {X:Cx} {pins:List (Addr × Obj)} {σ:St} {H:Hp} {s:Shared} {a:Addr} {o:Obj} {kvs:List (AV × V)} {es:Array DictEntry} {ep:Nat} (I:An X pins σ H s) (e:H a=some (.frz o (.dK kvs))) (he:o.data=.dict es ep) :
  (a == sysModules)=false/\∃ vs,KV kvs vs/\s.heap.DictAt (Bk X.prog X.w) a vs ep:=by
 obtain ⟨ho,z,hd,vs,rel,o',UP,UQ,h1,h2,h3,h4⟩:=(show A6 X.prog X.w H s.heap a (.frz o (.dK kvs)) from I.hok a _ e)
 rw [ho] at h1;cases h1
 rw [he] at h3;injection h3 with h5 h6;subst h5 h6;exact ⟨hd,vs,rel,o,es,ho,h2,he,h4⟩
theorem Mp {P:Program} {w:World} {K:Wm} {tg:Expr} (a it:Addr) {kvs:List (AV × V)} {o:Obj} {es:Array DictEntry} {ep:Nat} (he:o.data=.dict es ep) :
  Pp P w K tg (Ra a kvs o) [it] it (fun i h=>h.IsKeyIter it a i kvs.length ep) where
 mem:=by simp
 obj:=fun i h st b hb=>by
  have e:b=it:=by simpa using hb
  subst e;obtain ⟨o,e,c,d⟩:=st;exact ⟨o,e,fun v z=>by rw [d] at z; cases z⟩
 keep:=fun i h h' st k=>st.at fun o e=>k it (by simp) o e
 item:=by
  intro X hP hw hK hc i pins s σ H E I hf st hg;subst hP hw hK;obtain ⟨hq,BH⟩:=hg;obtain ⟨hd,vs,rel,da⟩:=Lb I hq he;have hx:kvs[i]? = some kvs[i]:=by simp [BH]
  obtain ⟨⟨k,v⟩,hv,e1,e2⟩:=Paired.at rel hx;have hl:kvs.length=vs.length:=rel.length;obtain ⟨f0,f1,f2,f3,f4,f5⟩:=hf it (by simp);rw [hl] at st;refine wpAny_pyNext_dict_item st da hv fun key h' hkey Ay sb=>?_
  have I1:An X pins σ H { s with heap:=h' }:=I.turned (t':=s.toks) (fun b o hb e=>(sb.2 b hb).trans e) f0 f1 f3 f4 f5;rw [<-hl] at Ay;obtain ⟨o',e,c,d⟩:=id Ay;refine ⟨key,rfl,Mb (s:={ s with heap:=h' }) e c d (by decide) ⟨kV k,H,I1,Mw hkey,⟨rfl,k,kvs[i].2,?_,rfl⟩,Ay,fun b hb=>(hf b hb).1⟩⟩;have OZ:kvs[i].1=k:=e1;rw [hx,<-OZ]
 done:=by
  intro X hP hw hK hc i pins s σ H E I hf st hg;subst hP hw hK;obtain ⟨hq,hle⟩:=hg;obtain ⟨hd,vs,rel,da⟩:=Lb I hq he;have hl:kvs.length=vs.length:=rel.length;obtain ⟨f0,f1,f2,f3,f4,f5⟩:=hf it (by simp);rw [hl] at st;exact wpAny_pyNext_dict_end (I.ok.hd hc) st da (by simp; lia) fun h' eb=>⟨rfl,I.turned (t':=s.toks) (fun b o hb e=>eb b o hb e) f0 f1 f3 f4 f5⟩
 self:=fun _ _ _ _ _ st h=>wpAny_pyIter_keyiter st h
def DE (H:Hp) (a:Addr) (kvs:List (AV × V)) (o:Obj) (H':Hp):Prop:=(H a=some (.dK kvs)/\H'=upd H a (.frz o (.dK kvs)))\/(H a=some (.frz o (.dK kvs))/\H'=H)
theorem DE.at {H H':Hp} {a:Addr} {kvs:List (AV × V)} {o:Obj} (f:DE H a kvs o H'):H' a=some (.frz o (.dK kvs)):=by
 rcases f with ⟨_,rfl⟩ | ⟨e,rfl⟩
 ·exact Ab
 ·exact e
theorem DE.ne {H H':Hp} {a b:Addr} {kvs:List (AV × V)} {o:Obj} (f:DE H a kvs o H') (h:b ≠ a):H' b=H b:=by
 rcases f with ⟨_,rfl⟩ | ⟨e,rfl⟩
 ·exact Ae h
 ·rfl
theorem An.freeze {X:Cx} {pins:List (Addr × Obj)} {σ:St} {H:Hp} {s:Shared} {a:Addr} {kvs:List (AV × V)} (I:An X pins σ H s) (e:Rd H a (.dK kvs)) :
  ∃ o es ep H',o.data=.dict es ep/\DE H a kvs o H'/\An X pins σ H' s:=by
 rcases e with e | ⟨o,e⟩
 ·obtain ⟨z,hd,vs,rel,o,es,ep,h1,h2,h3,h4⟩:=(show A6 X.prog X.w H s.heap a (.dK kvs) from I.hok a _ e)
  exists o,es,ep,upd H a (.frz o (.dK kvs)),h3,.inl ⟨e,rfl⟩;exact I.write (x:=a) (e:=a) (h':=s.heap) (t':=s.toks) (by rw [e]; exact True.intro) (.inl rfl) (fun b u _ q=>q) ⟨o,h1⟩ ⟨h1,z,hd,vs,rel,o,es,ep,h1,h2,h3,h4⟩
 ·obtain ⟨ho,z,hd,vs,rel,o',es,ep,h1,h2,h3,h4⟩:=(show A6 X.prog X.w H s.heap a (.frz o (.dK kvs)) from I.hok a _ e)
  rw [ho] at h1;cases h1
  exact ⟨o,es,ep,H,h3,.inr ⟨e,rfl⟩,I⟩
def iDict (tl:TE):TI:=fun σ H R=>tl σ H fun x H1=>∃ a kvs,x=.ref a/\Rd H1 a (.dK kvs)/\∀ o H2,DE H1 a kvs o H2->R (Ra a kvs o) H2
theorem Gk {X:Cx} {tg l:Expr} {tl:TE} (hl:PE X l tl):PI X tg l (iDict tl):=by
 intro pins s σ H R I h;refine BF (hl (pins:=pins) s σ H _ I h) fun v s1 ⟨x,H1,I1,r1,q1⟩=>?_
 obtain ⟨a,kvs,e,hr,q⟩:=q1;subst e;cases r1
 obtain ⟨o,es,ep,H2,he,fz,I2⟩:=I1.freeze hr;obtain ⟨hd,vs,rel,da⟩:=Lb I2 fz.at he;refine wpAny_pyIter_dict hd da ?_;refine ⟨s1.heap.objs.size,[s1.heap.objs.size],_,_,H2,rfl,I2.kept (t':=s1.toks) fun b o e=>Wl _ e,Mp a _ he,⟨_,W0 _ rfl,rfl,?_⟩,fun b hb=>?_,q o H2 fz⟩
 ·rw [rel.length]; rfl
 ·have e:b=s1.heap.objs.size:=by simpa using hb
  subst e;exact I2.fpOk (Wq _) (I2.hok.fresh (Wq _))
theorem OW {a:Addr} {kvs:List (AV × V)} {o:Obj} {g:TG} {tb:TS} {D:DN} {σ:St} {H:Hp} (Pv:Nat->St->Hp->Prop) (h0:Pv 0 σ H) (hl:∀ i σ H,i<=kvs.length->Pv i σ H->H a=some (.frz o (.dK kvs)))
  (hs:∀ i k v σ H,kvs[i]? = some (k,v)->Pv i σ H->g (kV k) σ H fun A3 H2=>tb { D with nx:=Pv (i + 1),ct:=Pv (i + 1),bk:=D.nx } A3 H2) (hd:∀ σ H,Pv kvs.length σ H->D.nx σ H) :
  ∃ W:Nat->Nat->St->Hp->Prop,(∃ m,W 0 m σ H)/\∀ i m σ H,W i m σ H ->
   ((Ra a kvs o).stop i H/\D.nx σ H)\/((Ra a kvs o).go i H/\∃ N:St->Hp->Prop,(∀ Aq H',N Aq H'->∃ m',m' < m/\W (i + 1) m' Aq H')/\∀ x H',(Ra a kvs o).yld i H x H'->g x σ H' fun A3 H2=>tb { D with nx:=N,ct:=N,bk:=D.nx } A3 H2):=by
 exists fun i m σ H=>m=kvs.length - i/\i<=kvs.length/\Pv i σ H,⟨kvs.length,by simp,WR _,h0⟩
 rintro i m σ H ⟨rfl,hi,p⟩;have q:=hl i σ H hi p;by_cases BH:i < kvs.length
 ·refine .inr ⟨⟨q,BH⟩,Pv (i + 1),fun Aq H' p'=>⟨kvs.length - (i + 1),by lia,rfl,BH,p'⟩,fun x H' y=>?_⟩;obtain ⟨e,k,v,e1,e2⟩:=y;subst e e2;exact hs i k v σ _ e1 p
 ·have e:i=kvs.length:=by lia
  subst e;exact .inl ⟨⟨q,Wq _⟩,hd σ H p⟩
section
variable {prog:Program} {w:World} {A:Around} {E:Value->Shared->Prop} {s:Shared}
end
theorem Ct (a:List Nat):¬ a < a:=Y2 a
section
variable {X:Cx} {pins:List (Addr × Obj)} {σ Aq:St} {H H':Hp} {s2 s':Shared} {scope:Scope} {cl:List (Str × Addr)} {N:List Str} {fp:List Addr} {C D:Addr} {AA h':Heap} {t':Nat}
theorem FT {ob:HO} (I:An X pins σ H s2) (hf:∀ b ∈ fp,CN X pins H b) (hfo:∀ b ∈ fp,∃ o,s2.heap.get? b=some o) (co:AE X scope cl) (hσ:AK X cl scope N σ Aq)
  (k:∀ b o,s2.heap.get? b=some o->AA.get? b=some o) (hD:s2.heap.objs.size<=D) (hC:s2.heap.objs.size<=C) (hDC:C ≠ D)
  (newO:A6 X.prog X.w (upd H D ob) AA D ob) {m:Str->Option Value} (hn:AA.Ns C m) :
  An (As X scope cl N s2 H C fp) [] Aq (upd H D ob) { s2 with heap:=AA,toks:=t' }:=by
 have fD:H D=none:=I.hok.fresh hD;have fC:H C=none:=I.hok.fresh hC;have lts:∀ b ∈ fp,b < s2.heap.objs.size:=fun b hb=>let ⟨_,e⟩:=hfo b hb; Wr e
 have cells_lt:∀ x c,cl.lookup x=some c->c < s2.heap.objs.size:=fun x c e=>by
  obtain ⟨v,q⟩:=I.cell x c (co.sub x c e);exact q.lt
 have ok:Cx.Ok (As X scope cl N s2 H C fp):=by
  refine ⟨I.ok.mod,?_,I.ok.glob,I.ok.blt,hC,?_,?_,?_,I.ok.hd,I.ok.frames,.inl rfl,?_,I.bs,WJ I.ok.bsz I.sz,?_,?_,I.stack,I.stkFree⟩
  ·exact co.kind
  ·exact fun x y c e1 e2=>I.ok.inj x y c (co.sub x c e1) (co.sub y c e2)
  ·exact fun x h=>co.has x h
  ·exact fun x c h _=>by cases h
  ·intro b hb;refine ⟨fun e=>?_,fun x c e=>(hf b hb).2.2.2.2.1 x c (co.sub x c e)⟩;have z:=lts b hb;exact absurd (Ws z hC) (by rw [show b=C from e]; exact WT _)
  ·intro b o e hb;have Fz:b ∈ fp:=hb;rcases (hf b Fz).2.2.2.1 with z | z
   ·exact I.ok.noex b o e z
   ·exact absurd (Ws (Wr e) (WJ I.ok.bsz z)) (WT _)
  ·intro b hb hz;have Fz:b ∈ fp:=hb;obtain ⟨_,f1,f2,_⟩:=hf b Fz;rcases Wn.mp (I.stkSub b hz) with e | e
   ·exact f1 e
   ·exact f2 e
 refine ⟨ok,rfl,I.bare,Un.laid k hD fD,?_,?_,?_,?_,?_,I.hok.laid k hD newO,hσ.1⟩
 ·refine ⟨m,hn,fun i x v e1 e2 _=>?_⟩;obtain ⟨⟨j,j1,j2⟩,kk,kr⟩:=hσ.2 i x v e1 e2;obtain ⟨mo,_,hl⟩:=I.loc;obtain ⟨u,r,l⟩:=hl j x v j1 j2 (by
   rcases kk with z | z
   ·exact .inr (.inl z)
   ·exact .inr (.inr z))
  refine ⟨u,r,.inr ⟨kr,?_⟩⟩;obtain ⟨c,hc⟩:=co.has x kr;rcases l with ⟨z,_⟩ | ⟨_,c',Gn,hcell⟩
  ·rcases kk with q | q
   ·rw [z] at q; cases q
   ·rw [z] at q; cases q
  ·have e3:=co.sub x c hc;rw [Gn] at e3;have e4:c'=c:=WA.inj e3;subst e4;obtain ⟨o,ho,hd⟩:=hcell;exact ⟨c',hc,o,k _ o ho,hd⟩
 ·intro x c e;obtain ⟨v,o,ho,hd⟩:=I.cell x c (co.sub x c e);exact ⟨v,o,k _ o ho,hd⟩
 ·show upd H D ob C=none
  rw [Ae hDC];exact fC
 ·intro x c e;rw [Ae (W6 (Ws (cells_lt x c e) hD))];exact I.freeC x c (co.sub x c e)
 ·intro p hp;cases hp
end
section
variable {prog:Program} {w:World} {A:Around} {R:Result->Shared->Prop} {s:Shared}
theorem BP {kx vx target iter:Expr} {ifs:List Expr} {scope:Scope} {pos:Pos} {it:Value} {D:Addr} {env:Env} (I:Nat->Shared->Prop)
  (turn:∀ n s,I n s->wpAny (model prog w) A (pyNext it) (fun r AS=>match r with
   | none=>R (.ok .next) AS
   | some v=>wpAny (model prog w) A (letOwnedTupleGo target it v) (fun _ J9=>wpAny (model prog w) A (assign target env v) (fun _ EU=>
     wpAny (model prog w) A (forIn ifs true fun c r=>if r=true then do let ok <- isTrue c env (eval c env); pure (ForInStep.yield ok) else pure (ForInStep.yield r)) (fun ok BW=>
      if ok=true then wpAny (model prog w) A (eval kx env) (fun kv NP=>wpAny (model prog w) A (eval vx env) (fun vv NO=>
       wpAny (model prog w) A (dictSet D kv vv) (fun _ Tt=>∃ m,m < n/\I m Tt) (notedBy (model prog w) A env fun e s'=>R (.error e) s') NO) (notedBy (model prog w) A env fun e s'=>R (.error e) s') NP) (notedBy (model prog w) A env fun e s'=>R (.error e) s') BW
      else ∃ m,m < n/\I m BW) (notedBy (model prog w) A env fun e s'=>R (.error e) s') EU) (notedBy (model prog w) A env fun e s'=>R (.error e) s') J9) (notedBy (model prog w) A env fun e s'=>R (.error e) s') AS) (notedBy (model prog w) A env fun e s'=>R (.error e) s') s)
  (n:Nat) (h:I n s) :
  codeAny (model prog w) A (.compLoop (.DictComp kx vx [⟨target,iter,ifs,0⟩] scope pos) 0 it (.ref D) env) R s:=by
 refine codeAny_loop rfl I (fun n s hI=>?_) n h;show wpAny _ A ((compTurn (.DictComp kx vx [⟨target,iter,ifs,0⟩] scope pos) 0 it (.ref D) env).onRaise (fun x=>do noteFrame x env; theTreesLotGoes x)) _ _ s
 refine wpAny_noted ?_;rw [compTurn_dict];refine wpAny_bind (wpAny_standAt (wpAny_bind (wpAny_mono (turn n s hI) (fun r AS AA=>?_) fun _ _ h'=>h')));cases r with
 | none=>exact wpAny_pure AA
 | some v=>
  refine wpAny_bind (wpAny_mono AA (fun _ J9 OM=>?_) fun _ _ h'=>h');refine wpAny_bind (wpAny_mono OM (fun _ EU KW=>wpAny_bind (wpAny_mono KW (fun ok BW KU=>?_) fun _ _ h'=>h')) fun _ _ h'=>h');cases ok with
  | false=>exact wpAny_pure ⟨rfl,KU⟩
  | true=>
   exact wpAny_bind (wpAny_bind (wpAny_mono KU (fun kv NP Sk=>wpAny_bind (wpAny_holding (wpAny_mono Sk (fun vv NO Sj=>wpAny_bind (wpAny_standAt (wpAny_holding (wpAny_mono Sj (fun _ Tt Vx=>wpAny_pure ⟨rfl,Vx⟩) fun _ _ h'=>h')))) fun _ _ h'=>h'))) fun _ _ h'=>h'))
end
theorem FE {X:Cx} {pins:List (Addr × Obj)} {σ:St} {H:Hp} {s:Shared} {a:Addr} {k:AV} {v:V} {u r:Value} {kvs:List (AV × V)} {A:Around} {E:Value->Shared->Prop} {Q:Unit->Shared->Prop} (I:An X pins σ H s) (e:H a=some (.dK kvs)) (l:kvs.length < sizeLine) (ry:Az (kV k) u) (rv:Az v r)
  (h:∀ s',An X pins σ (upd H a (.dK (BK kvs k v))) s'->Q () s'):wpAny (model X.prog X.w) A (dictSet a u r) Q E s:=by
 obtain ⟨z,hd,vs,rel,dd⟩:=Pg I.hok e;have hz:vs.length<=sizeLine:=by rw [<-rel.length]; exact z
 have hl:(BK kvs k v).length<=sizeLine:=by have:=CV kvs k v; lia
 refine wpAny_dictSet_pairs (hsz:=hz) (GY ry) dd fun h' PR hs=>h _ ?_
 have he:∃ q,h'.get? a=some q:=let ⟨q,_,_,hq,_⟩:=PR; ⟨q,hq⟩;exact Gr I (by rw [e]; exact True.intro) hs he (Le hl hd (rel.put k rv) PR)
def Kx (wi:TI) (g:TG) (tt:TT) (tk tv:TE) (σ0:St->St):TE:=fun σ H Q=>wi σ H fun J H1=>∀ D,H1 D=none->∃ W:Nat->Nat->St->Hp->Prop,(∃ m,W 0 m (σ0 σ) (upd H1 D (.dK []))) /\
 ∀ i m Aq H',W i m Aq H'->(J.stop i H'/\Q (.ref D) H')\/(J.go i H'/\∀ x H2,J.yld i H' x H2->g x Aq H2 fun A3 H3=>tt A3 H3 fun b H4=>
  if b=true then tk A3 H4 (fun y H5=>tv A3 H5 fun v H6=>∃ kvs k,y=kV k/\H6 D=some (.dK kvs)/\kvs.length < sizeLine/\∃ m',m' < m/\W (i + 1) m' A3 (upd H6 D (.dK (BK kvs k v)))) else ∃ m',m' < m/\W (i + 1) m' A3 H4)
theorem GC {X:Cx} {tg iter kx vx:Expr} {ifs:List Expr} {scope:Scope} {cl:List (Str × Addr)} {N:List Str} {pos:Pos} {wi:TI} {g:TG} {tt:TT} {tk tv:TE} {σ0:St->St} (hc:X.calm=true) (co:AE X scope cl)
  (hσ:∀ σ,σ.length=X.N.length->AK X cl scope N σ (σ0 σ)) (hi:PI X tg iter wi)
  (hb:∀ s2 H C fp,PG (As X scope cl N s2 H C fp) tg g/\Rw (As X scope cl N s2 H C fp) ifs tt/\PE (As X scope cl N s2 H C fp) kx tk/\PE (As X scope cl N s2 H C fp) vx tv)
  (hs:∀ x,foldedSetIterable iter X.env x=pure x:=by intro _; rfl):PE X (.DictComp kx vx [⟨tg,iter,ifs,0⟩] scope pos) (Kx wi g tt tk tv σ0):=by
 intro pins s σ H Q I h;rw [arm_eval_DictComp];refine wpAny_comprehension_free (use:=none) rfl hs co.clos co.kind co.names (wpAny_mono (hi (pins:=pins) s σ H _ I h) (fun xv s1 h1=>wpAny_mono h1 (fun itv s2 h2=>?_) fun _ _ e=>e) fun _ _ e=>e);obtain ⟨it,fp,tn,J,H2,rfl,I2,T,Dm,f2,hW⟩:=h2;refine wpAny_newObj_type (wpAny_newFunctionEnv co.cell (by intro y hy; cases hy) (fun AA BE BD=>?_) co.kind);dsimp only at BE BD ⊢;generalize Hg:s2.heap.push { cls:=.type "dict",dict:=none,data:=.dict #[] } = HH at BE BD ⊢;have Bs:HH.objs.size=s2.heap.objs.size + 1:=by rw [<-Hg,WY]
 have old:∀ b o,s2.heap.get? b=some o->AA.get? b=some o:=fun b o e=>
  BD.extBut b o (W6 (by rw [Bs]; exact WK (Wr e))) (Wl _ (Hg ▸ Wl _ e))
 have newD:A6 X.prog X.w (upd H2 s2.heap.objs.size (.dK [])) AA s2.heap.objs.size (.dK []):=
  let ⟨z,hd,vs,rel,o,es,ep,ho,r⟩:=Ft (P:=X.prog) (w:=X.w) (H:=upd H2 s2.heap.objs.size (.dK [])) s2.heap I2.big
  ⟨z,hd,vs,rel,o,es,ep,BD.extBut _ _ (W6 (by rw [Bs]; exact WM _)) (Wl _ (Hg ▸ ho)),r⟩
 obtain ⟨W,⟨m0,w0⟩,turn⟩:=hW s2.heap.objs.size I2.fresh;have hfo:∀ b ∈ fp,∃ o,s2.heap.get? b=some o:=fun b hb=>let ⟨o,e,_⟩:=T.obj _ _ Dm b hb; ⟨o,e⟩
 have I3:An (As X scope cl N s2 H2 HH.objs.size fp) [] (σ0 σ) (upd H2 s2.heap.objs.size (.dK [])) { s2 with heap:=AA,toks:=s2.toks + ([]:List (Str × Value)).length }:=
  FT I2 f2 hfo co (hσ σ I.len) old (Wq _) (by rw [Bs]; exact WX _) (Xa (by rw [Bs]; exact WM _)) newD BE
 have fC:s2.heap.objs.size<=HH.objs.size:=by rw [Bs]; exact WX _
 obtain ⟨hg,ht,hk,hv⟩:=hb s2 H2 HH.objs.size fp;have loop:∀ BW:Shared,BW = { s2 with heap:=AA,toks:=s2.toks + ([]:List (Str × Value)).length } ->
   codeAny (model X.prog X.w) X.A (.compLoop (.DictComp kx vx [⟨tg,iter,ifs,0⟩] scope pos) 0 (.ref it) (.ref s2.heap.objs.size) (compEnvC scope cl HH.objs.size X.env))
    (compPost (model X.prog X.w) X.A X.xe none (EP X pins σ Q) (.ref s2.heap.objs.size) HH.objs.size) BW:=by
  rintro BW rfl;have stat:∀ {H':Hp} ,(∀ b ∈ fp,H' b=none)->∀ b ∈ fp,CN (As X scope cl N s2 H2 HH.objs.size fp) [] H' b:=fun hn b hb=>by
   refine ⟨hn b hb,?_,?_,.inl hb,?_,fun p hp=>by cases hp⟩
   ·obtain ⟨o,e⟩:=hfo b hb;exact W6 (show b < HH.objs.size by rw [Bs]; exact WK (Wr e))
   ·intro hz;obtain ⟨_,q1,q2,_⟩:=f2 b hb;rcases Wn.mp (I2.stkSub b hz) with e | e
    ·exact q1 e
    ·exact q2 e
   ·exact fun x c e=>(f2 b hb).2.2.2.2.1 x c (co.sub x c e)
  refine BP (fun n s'=>∃ i Aq H',An (As X scope cl N s2 H2 HH.objs.size fp) [] Aq H' s'/\tn i s'.heap/\(∀ b ∈ fp,H' b=none)/\W i n Aq H') ?_ m0
   ⟨0,σ0 σ,_,I3,T.keep _ _ _ Dm fun b hb o e=>old b o e,fun b hb=>?_,w0⟩
  ·rintro n s4 ⟨i,EO,H4,I4,Gw,Ka,w4⟩;rcases turn i n EO H4 w4 with ⟨stop,qn⟩ | ⟨go,step⟩
   ·refine wpAny_mono (T.done (As X scope cl N s2 H2 HH.objs.size fp) rfl rfl rfl hc i [] s4 EO H4 (fun _ _=>False) I4 (stat Ka) Gw stop) (fun r s5 ⟨hr,I5⟩=>?_) fun _ _ z=>z.elim
    subst hr;obtain ⟨m5,OP,_⟩:=id I5.loc;exact ⟨m5,OP,fun h' J0=>⟨.ref _,H4,Fu I2 f2 fC I5 J0,rfl,qn⟩⟩
   ·refine wpAny_mono (T.item (As X scope cl N s2 H2 HH.objs.size fp) rfl rfl rfl hc i [] s4 EO H4 (fun _ _=>False) I4 (stat Ka) Gw go) (fun r s5 ⟨u,hr,h5⟩=>?_) fun _ _ z=>z.elim
    subst hr;refine wpAny_mono h5 (fun _ s6 ⟨x,H6,I6,r6,y6,Gv,OV⟩=>?_) fun _ _ z=>z.elim
    have Pt:=I6.pinned (stat OV) (T.obj _ _ Gv);refine wpAny_mono (hg s6 EO H6 x u _ Pt r6 (step x H6 y6)) (fun _ s7 ⟨DG,H7,I7,q7⟩=>?_) fun _ _ z=>z.elim
    refine wpAny_mono (ht s7 DG H7 _ I7 q7) (fun ok s8 ⟨H8,I8,q8⟩=>?_) fun _ _ z=>z.elim
    have again:∀ {s9:Shared} {EN:St} {H9:Hp} ,An (As X scope cl N s2 H2 HH.objs.size fp) ([] ++ Dg fp s6.heap) EN H9 s9->(∃ m',m' < n/\W (i + 1) m' EN H9)->∃ m,m < n/\∃ i Aq H',An (As X scope cl N s2 H2 HH.objs.size fp) [] Aq H' s9/\tn i s9.heap/\(∀ b ∈ fp,H' b=none)/\W i m Aq H':=fun {s9 EN H9} I9 n9=>by
     obtain ⟨m',hm,w9⟩:=n9;refine ⟨m',hm,i + 1,EN,H9,I9.unpinned,T.keep _ _ _ Gv fun b hb o e=>(I9.pin (b,o) (Wx _ (Wx _ (AU hb e)))).1,fun b hb=>?_,w9⟩;obtain ⟨o,e,d⟩:=T.obj _ _ Gv b hb;exact (I9.pin (b,o) (Wx _ (Wx _ (AU hb e)))).2.1
    cases ok with
    | false=>
     rw [if_neg W8] at q8 ⊢;exact again I8 q8
    | true=>
     rw [if_pos rfl] at q8 ⊢;refine wpAny_mono (hk s8 DG H8 _ I8 q8) (fun yk s9 ⟨k,H9,I9,r9,q9⟩=>?_) fun _ _ z=>z.elim
     refine wpAny_mono (hv s9 DG H9 _ I9 q9) (fun yv Tz ⟨v,Nw,Pu,T5,kvs,key,ek,hacc,hsz,Of⟩=>?_) fun _ _ z=>z.elim
     subst ek;exact FE (X:=As X scope cl N s2 H2 HH.objs.size fp) Pu hacc hsz r9 T5 fun s11 Uz=>again Uz Of
  ·have z:=(f2 b hb).1;obtain ⟨o,e⟩:=hfo b hb;rw [Ae (W6 (Wr e))];exact z
 exact codeAny_compStart_dict (loop _ rfl) (T.self _ 0 _ _ _ (T.keep _ _ _ Dm fun b hb o e=>old b o e) (loop _ rfl))
theorem Oo {X:Cx} {ix:Nat} {x:Str} {px spos:Pos} {tg iter kx vx:Expr} {ifs:List Expr} {scope:Scope} {cl:List (Str × Addr)} {N:List Str} {pos:Pos} {wi:TI} {g:TG} {tt:TT} {tk tv:TE} {σ0:St->St} (hN:X.N.Nodup) (hix:X.N[ix]? = some x) (hlx:To X.env.scope x) (hc:X.calm=true) (co:AE X scope cl)
  (hσ:∀ σ,σ.length=X.N.length->AK X cl scope N σ (σ0 σ)) (hi:PI X tg iter wi)
  (hb:∀ s2 H C fp,PG (As X scope cl N s2 H C fp) tg g/\Rw (As X scope cl N s2 H C fp) ifs tt/\PE (As X scope cl N s2 H C fp) kx tk/\PE (As X scope cl N s2 H C fp) vx tv)
  (hsw:swapsWith (.DictComp kx vx [⟨tg,iter,ifs,0⟩] scope pos) (some (.Name x px)) spos.line X.env=pure true:=by rfl)
  (hs:∀ x,foldedSetIterable iter X.env x=pure x:=by intro _; rfl) (hf:X.fn x=true\/X.env.scope.names.lookup x=some .local:=by first | exact .inl rfl | exact .inr rfl | assumption) :
  PS X (.Assign [.Name x px] (.DictComp kx vx [⟨tg,iter,ifs,0⟩] scope pos) spos) (Qf (Kx wi g tt tk tv σ0) (Mc ix)):=by
 intro pins s σ H DD I h;rw [exec_Assign_Name_used _ _ _ _ hsw];refine wpAny_bind (wpAny_standAt (wpAny_bind ?_));show wpAny _ X.A (do let _ <- comprehension (.DictComp kx vx [⟨tg,iter,ifs,0⟩] scope pos) scope X.env _ newDict false (eval iter X.env) (some (assign (.Name x px) X.env))) _ _ s
 refine wpAny_bind (wpAny_mono (wpAny_comprehension_free (use:=some (assign (.Name x px) X.env)) (Q:=fun _ s'=>SP X pins DD .next s') rfl hs co.clos co.kind co.names
  (wpAny_mono (hi (pins:=pins) s σ H _ I h) (fun xv s1 h1=>wpAny_mono h1 (fun itv s2 h2=>?_) fun _ _ e=>e) fun _ _ e=>e)) (fun _ s' hq=>wpAny_pure (wpAny_pure hq)) fun _ _ e=>e)
 obtain ⟨it,fp,tn,J,H2,rfl,I2,T,Dm,f2,hW⟩:=h2;refine wpAny_newObj_type (wpAny_newFunctionEnv co.cell (by intro y hy; cases hy) (fun AA BE BD=>?_) co.kind);dsimp only at BE BD ⊢;generalize Hg:s2.heap.push { cls:=.type "dict",dict:=none,data:=.dict #[] } = HH at BE BD ⊢;have Bs:HH.objs.size=s2.heap.objs.size + 1:=by rw [<-Hg,WY]
 have old:∀ b o,s2.heap.get? b=some o->AA.get? b=some o:=fun b o e=>
  BD.extBut b o (W6 (by rw [Bs]; exact WK (Wr e))) (Wl _ (Hg ▸ Wl _ e))
 have newD:A6 X.prog X.w (upd H2 s2.heap.objs.size (.dK [])) AA s2.heap.objs.size (.dK []):=
  let ⟨z,hd,vs,rel,o,es,ep,ho,r⟩:=Ft (P:=X.prog) (w:=X.w) (H:=upd H2 s2.heap.objs.size (.dK [])) s2.heap I2.big
  ⟨z,hd,vs,rel,o,es,ep,BD.extBut _ _ (W6 (by rw [Bs]; exact WM _)) (Wl _ (Hg ▸ ho)),r⟩
 obtain ⟨W,⟨m0,w0⟩,turn⟩:=hW s2.heap.objs.size I2.fresh;have hfo:∀ b ∈ fp,∃ o,s2.heap.get? b=some o:=fun b hb=>let ⟨o,e,_⟩:=T.obj _ _ Dm b hb; ⟨o,e⟩
 have I3:An (As X scope cl N s2 H2 HH.objs.size fp) [] (σ0 σ) (upd H2 s2.heap.objs.size (.dK [])) { s2 with heap:=AA,toks:=s2.toks + ([]:List (Str × Value)).length }:=
  FT I2 f2 hfo co (hσ σ I.len) old (Wq _) (by rw [Bs]; exact WX _) (Xa (by rw [Bs]; exact WM _)) newD BE
 have fC:s2.heap.objs.size<=HH.objs.size:=by rw [Bs]; exact WX _
 obtain ⟨hg,ht,hk,hv⟩:=hb s2 H2 HH.objs.size fp;have loop:∀ BW:Shared,BW = { s2 with heap:=AA,toks:=s2.toks + ([]:List (Str × Value)).length } ->
   codeAny (model X.prog X.w) X.A (.compLoop (.DictComp kx vx [⟨tg,iter,ifs,0⟩] scope pos) 0 (.ref it) (.ref s2.heap.objs.size) (compEnvC scope cl HH.objs.size X.env))
    (compPost (model X.prog X.w) X.A X.xe (some (assign (.Name x px) X.env)) (fun _ s'=>SP X pins DD .next s') (.ref s2.heap.objs.size) HH.objs.size) BW:=by
  rintro BW rfl;have stat:∀ {H':Hp} ,(∀ b ∈ fp,H' b=none)->∀ b ∈ fp,CN (As X scope cl N s2 H2 HH.objs.size fp) [] H' b:=fun hn b hb=>by
   refine ⟨hn b hb,?_,?_,.inl hb,?_,fun p hp=>by cases hp⟩
   ·obtain ⟨o,e⟩:=hfo b hb;exact W6 (show b < HH.objs.size by rw [Bs]; exact WK (Wr e))
   ·intro hz;obtain ⟨_,q1,q2,_⟩:=f2 b hb;rcases Wn.mp (I2.stkSub b hz) with e | e
    ·exact q1 e
    ·exact q2 e
   ·exact fun x c e=>(f2 b hb).2.2.2.2.1 x c (co.sub x c e)
  refine BP (fun n s'=>∃ i Aq H',An (As X scope cl N s2 H2 HH.objs.size fp) [] Aq H' s'/\tn i s'.heap/\(∀ b ∈ fp,H' b=none)/\W i n Aq H') ?_ m0
   ⟨0,σ0 σ,_,I3,T.keep _ _ _ Dm fun b hb o e=>old b o e,fun b hb=>?_,w0⟩
  ·rintro n s4 ⟨i,EO,H4,I4,Gw,Ka,w4⟩;rcases turn i n EO H4 w4 with ⟨stop,qn⟩ | ⟨go,step⟩
   ·refine wpAny_mono (T.done (As X scope cl N s2 H2 HH.objs.size fp) rfl rfl rfl hc i [] s4 EO H4 (fun _ _=>False) I4 (stat Ka) Gw stop) (fun r s5 ⟨hr,I5⟩=>?_) fun _ _ z=>z.elim
    subst hr;obtain ⟨m5,OP,_⟩:=id I5.loc;have I6:An X pins σ H4 s5:=Fu (h':=s5.heap) I2 f2 fC I5 (Heap.SameBut.refl _ _);have cC:∀ y c,X.env.cells.lookup y=some c->c ≠ HH.objs.size:=fun y c e=>by
     obtain ⟨v,q⟩:=I2.cell y c e;exact W6 (Ws q.lt fC)
    have lC:X.env.locals ≠ HH.objs.size:=W6 (Ws I2.lt fC);show wpAny _ X.A (assign (.Name x px) X.env (.ref s2.heap.objs.size)) _ X.xe s5
    refine wpAny_assign_Name (F1 I6 hN hix hlx (v:=.ref s2.heap.objs.size) rfl (fun s7 I7 ⟨a,sb,ha⟩=>?_) hf);have aC:a ≠ HH.objs.size:=by
     rcases ha with rfl | ha
     ·exact lC
     ·exact cC _ _ ha
    refine ⟨m5,OP.sameBut sb (Ne.symm aC),fun h' J0=>⟨_,H4,?_,qn⟩⟩;exact I7.turned (t':=s7.toks) (it:=HH.objs.size) (fun b o hb e=>(J0.2 b hb).trans e) I5.free (Ne.symm lC) (.inr (WJ I2.sz fC)) cC fun p hp z=>by
     have e:=(I2.pin p hp).1;exact absurd (Ws (Wr e) fC) (by rw [z]; exact WT _)
   ·refine wpAny_mono (T.item (As X scope cl N s2 H2 HH.objs.size fp) rfl rfl rfl hc i [] s4 EO H4 (fun _ _=>False) I4 (stat Ka) Gw go) (fun r s5 ⟨u,hr,h5⟩=>?_) fun _ _ z=>z.elim
    subst hr;refine wpAny_mono h5 (fun _ s6 ⟨x,H6,I6,r6,y6,Gv,OV⟩=>?_) fun _ _ z=>z.elim
    have Pt:=I6.pinned (stat OV) (T.obj _ _ Gv);refine wpAny_mono (hg s6 EO H6 x u _ Pt r6 (step x H6 y6)) (fun _ s7 ⟨DG,H7,I7,q7⟩=>?_) fun _ _ z=>z.elim
    refine wpAny_mono (ht s7 DG H7 _ I7 q7) (fun ok s8 ⟨H8,I8,q8⟩=>?_) fun _ _ z=>z.elim
    have again:∀ {s9:Shared} {EN:St} {H9:Hp} ,An (As X scope cl N s2 H2 HH.objs.size fp) ([] ++ Dg fp s6.heap) EN H9 s9->(∃ m',m' < n/\W (i + 1) m' EN H9)->∃ m,m < n/\∃ i Aq H',An (As X scope cl N s2 H2 HH.objs.size fp) [] Aq H' s9/\tn i s9.heap/\(∀ b ∈ fp,H' b=none)/\W i m Aq H':=fun {s9 EN H9} I9 n9=>by
     obtain ⟨m',hm,w9⟩:=n9;refine ⟨m',hm,i + 1,EN,H9,I9.unpinned,T.keep _ _ _ Gv fun b hb o e=>(I9.pin (b,o) (Wx _ (Wx _ (AU hb e)))).1,fun b hb=>?_,w9⟩;obtain ⟨o,e,d⟩:=T.obj _ _ Gv b hb;exact (I9.pin (b,o) (Wx _ (Wx _ (AU hb e)))).2.1
    cases ok with
    | false=>
     rw [if_neg W8] at q8 ⊢;exact again I8 q8
    | true=>
     rw [if_pos rfl] at q8 ⊢;refine wpAny_mono (hk s8 DG H8 _ I8 q8) (fun yk s9 ⟨k,H9,I9,r9,q9⟩=>?_) fun _ _ z=>z.elim
     refine wpAny_mono (hv s9 DG H9 _ I9 q9) (fun yv Tz ⟨v,Nw,Pu,T5,kvs,key,ek,hacc,hsz,Of⟩=>?_) fun _ _ z=>z.elim
     subst ek;exact FE (X:=As X scope cl N s2 H2 HH.objs.size fp) Pu hacc hsz r9 T5 fun s11 Uz=>again Uz Of
  ·have z:=(f2 b hb).1;obtain ⟨o,e⟩:=hfo b hb;rw [Ae (W6 (Wr e))];exact z
 exact codeAny_compStart_dict (loop _ rfl) (T.self _ 0 _ _ _ (T.keep _ _ _ Dm fun b hb o e=>old b o e) (loop _ rfl))
theorem Ja (p x:Str) (r:List Str):risingS p (x :: r)=(!ltCps x.cps.toList p.cps.toList && risingS x r):=rfl
theorem Ib:∀ (p:Str) (l:List Str),risingS p l=true->(p :: l).Pairwise fun a b=>¬ b.cps.toList < a.cps.toList
 | p,[],_=>X1 _ _
 | p,x :: r,h=>by
  rw [Ja,X0,ltCps_eq] at h;have h1:¬ x.cps.toList < p.cps.toList:=by simpa using h.1
  have h2:=Ib x r h.2;refine Yn.mpr ⟨fun y hy=>?_,h2⟩;rcases Wn.mp hy with rfl | hy
  ·exact h1
  ·have h3:=(Yn.mp h2).1 y hy;have a:p.cps.toList<=x.cps.toList:=XO.mp h1;have b:x.cps.toList<=y.cps.toList:=XO.mp h3;exact XO.mpr (Z3 a b)
theorem Ms {l:List Str} (h:sortedS l=true):l.Pairwise fun a b=>¬ b.cps.toList < a.cps.toList:=by
 cases l with
 | nil=>exact .nil
 | cons p l=>exact Ib p l h
theorem C3 {a b:Str} (h1:¬ b.cps.toList < a.cps.toList) (h2:¬ a.cps.toList < b.cps.toList):a=b:=by
 have e:a.cps.toList=b.cps.toList:=List.le_antisymm (XO.mp h1) (XO.mp h2);cases a; cases b
 simp only [Str.mk.injEq];exact Yt.mp e
theorem Mt {l m:List Str} (hl:l.Pairwise fun a b=>¬ b.cps.toList < a.cps.toList) (hm:m.Pairwise fun a b=>¬ b.cps.toList < a.cps.toList) (p:l.Perm m):l=m:=
 List.Perm.eq_of_pairwise (fun a b _ _ h1 h2=>C3 h1 h2) hl hm p
def J4 (ws:List A5) (x y:Str):Prop:=∃ u ∈ ws,(u.1=x/\u.2.1=y)\/(u.1=y/\u.2.1=x)
theorem J4.symm {ws:List A5} {x y:Str} (h:J4 ws x y):J4 ws y x:=let ⟨u,hu,h⟩:=h; ⟨u,hu,h.symm⟩
theorem Ds (u:A5):(DW u).1=u.1/\(DW u).2.1=u.2.1\/(DW u).1=u.2.1/\(DW u).2.1=u.1:=by
 unfold DW BL BN;by_cases h:u.2.1.cps.toList < u.1.cps.toList
 ·have h':¬ u.1.cps.toList < u.2.1.cps.toList:=YC h;rw [if_pos h,if_neg h'];exact .inr ⟨rfl,rfl⟩
 ·rw [if_neg h];by_cases h':u.1.cps.toList < u.2.1.cps.toList
  ·rw [if_pos h']; exact .inl ⟨rfl,rfl⟩
  ·rw [if_neg h'];have e:u.1=u.2.1:=C3 h h';exact .inl ⟨rfl,e⟩
theorem Po {ws N1:List A5} (p:N1.Perm (ws.map DW)) (x y:Str):J4 N1 x y ↔ J4 ws x y:=by
 constructor
 ·rintro ⟨u,hu,h⟩;obtain ⟨v,hv,rfl⟩:=W4.mp (p.mem_iff.mp hu);exists v,hv;rcases Ds v with ⟨e1,e2⟩ | ⟨e1,e2⟩
  ·rw [e1,e2] at h; exact h
  ·rw [e1,e2] at h;rcases h with ⟨a,b⟩ | ⟨a,b⟩
   ·exact .inr ⟨b,a⟩
   ·exact .inl ⟨b,a⟩
 ·rintro ⟨v,hv,h⟩;exists DW v,p.mem_iff.mpr (W4.mpr ⟨v,hv,rfl⟩);rcases Ds v with ⟨e1,e2⟩ | ⟨e1,e2⟩
  ·rw [e1,e2]; exact h
  ·rw [e1,e2];rcases h with ⟨a,b⟩ | ⟨a,b⟩
   ·exact .inr ⟨b,a⟩
   ·exact .inl ⟨b,a⟩
theorem Iy {xs:List Str} {ws N1:List A5} (p:N1.Perm (ws.map DW)) (h:∀ u ∈ ws,u.1 ∈ xs/\u.2.1 ∈ xs):∀ u ∈ N1,u.1 ∈ xs/\u.2.1 ∈ xs:=fun u hu=>by
 obtain ⟨v,hv,rfl⟩:=W4.mp (p.mem_iff.mp hu);obtain ⟨a,b⟩:=h v hv;rcases Ds v with ⟨e1,e2⟩ | ⟨e1,e2⟩ <;> rw [e1,e2]
 ·exact ⟨a,b⟩
 ·exact ⟨b,a⟩
def Jx (xs:List Str) (ws:List A5):Prop:=∀ j,0 < j->j < xs.length->∃ u ∈ ws,∃ i:Nat,i < j/\xs[i]? = some u.1/\xs[j]? = some u.2.1
theorem Jx.all {xs:List Str} {ws:List A5} (h:Jx xs ws) (S:Str->Prop) (cl:∀ x y,J4 ws x y->S x->S y) {r:Str} (hr:r ∈ xs) (sr:S r):∀ x ∈ xs,S x:=by
 have down:∀ n (i:Nat),i<=n->∀ x,xs[i]? = some x->S x->∀ x0,xs[0]? = some x0->S x0:=by
  intro n;induction n with
  | zero=>
   intro i hi x e s x0 e0;have:i=0:=by lia
   subst this;rw [e] at e0; cases e0; exact s
  | succ n ih=>
   intro i hi x e s x0 e0;by_cases hz:i=0
   ·subst hz;rw [e] at e0; cases e0; exact s
   ·obtain ⟨u,hu,k,hk,e1,e2⟩:=h i (by lia) (Wt.mp e).1;rw [e] at e2; cases e2;exact ih k (by lia) u.1 e1 (cl _ _ ⟨u,hu,.inr ⟨rfl,rfl⟩⟩ s) x0 e0
 have up:∀ x0,xs[0]? = some x0->S x0->∀ n (i:Nat),i<=n->∀ x,xs[i]? = some x->S x:=by
  intro x0 e0 s0 n;induction n with
  | zero=>
   intro i hi x e;have:i=0:=by lia
   subst this;rw [e0] at e; cases e; exact s0
  | succ n ih=>
   intro i hi x e;by_cases hz:i=0
   ·subst hz;rw [e0] at e; cases e; exact s0
   ·obtain ⟨u,hu,k,hk,e1,e2⟩:=h i (by lia) (Wt.mp e).1;rw [e] at e2; cases e2;exact cl _ _ ⟨u,hu,.inl ⟨rfl,rfl⟩⟩ (ih k (by lia) u.1 e1)
 intro x hx;obtain ⟨i,hi,e⟩:=W2 hr;obtain ⟨j,hj,e'⟩:=W2 hx;have h0:xs[0]? = some xs[0]:=Wk (by lia);have s0:S xs[0]:=down i i (Wq _) r (by rw [Wk hi,e]) sr _ h0;exact up _ h0 s0 j j (Wq _) x (by rw [Wk hj,e'])
section
variable {ws:List A5} {r:Str} {bs cs:List (Str × Option Str)}
theorem ND {α β:Type} {l:List (α × β)} (h:(l.map (·.1)).Nodup) {x:α} {a b:β} (ha:(x,a) ∈ l) (hb:(x,b) ∈ l):a=b:=by
 induction l with
 | nil=>cases ha
 | cons p l ih=>
  rw [WG] at h;obtain ⟨h1,h2⟩:=Xm.mp h;have key:∀ c,(x,c) ∈ l->p.1 ≠ x:=fun c hc z=>h1 (by rw [z]; exact W4.mpr ⟨(x,c),hc,rfl⟩)
  rcases Wn.mp ha with e | ha1
  ·rcases Wn.mp hb with e' | VA
   ·rw [<-e] at e'; cases e'; rfl
   ·exact absurd (by rw [<-e]) (key b VA)
  ·rcases Wn.mp hb with e' | VA
   ·exact absurd (by rw [<-e']) (key a ha1)
   ·exact ih h2 ha1 VA
end
section
variable {ws:List A5} {r:Str} {wk:List (Str × List Str)}
end
theorem ET {H2 H3:Hp} {vs:List V} {ws:List A5} (h:BI H2 vs (ws.map Ml)) (ht:∀ b xs,H2 b=some (.tup xs)->H3 b=some (.tup xs)):BI H3 vs (ws.map Ml):=by
 induction ws generalizing vs with
 | nil=>cases h; exact .nil
 | cons u ws ih=>
  cases h with
  | cons h1 r=>
   refine .cons ?_ (ih r);cases h1 with
   | tup ha hd=>
    refine .tup (ht _ _ ha) ?_;cases hd with
    | cons h1 r1=>
     cases r1 with
     | cons h2 r2=>
      cases r2 with
      | cons h3 r3=>
       cases r3
       cases h1
       cases h2
       cases h3
       exact .cons (.str _) (.cons (.str _) (.cons (.int _) .nil))
theorem FP {α:Type} {l:List α} (h:l.Nodup) {i j:Nat} {x:α} (a:l[i]? = some x) (b:l[j]? = some x):i=j:=
 (List.getElem?_inj (Wt.mp a).1 h).mp (a.trans b.symm)
def sK (nv:List (Str × V)):List (AV × V):=nv.map fun q=>(Sum.inr q.1,q.2)
theorem Ca (nv:List (Str × V)):(sK nv).length=nv.length:=Wj ..
theorem IY (nv:List (Str × V)):(sK nv).map (·.1)=(nv.map (·.1)).map Sum.inr:=by unfold sK; rw [Xp,Xp]; rfl
theorem RK (a b:List (Str × V)):sK (a ++ b)=sK a ++ sK b:=W3 ..
theorem IX:∀ {nv:List (Str × V)} {y:Str},y ∉ nv.map (·.1)->Bn (sK nv) (Sum.inr y:AV)=none
 | [],y,_=>rfl
 | q :: nv,y,h=>by
  rw [WG,Wn,not_or] at h;show Bn ((Sum.inr q.1,q.2) :: sK nv) (Sum.inr y:AV)=none
  rw [Bx (fun z=>h.1 (Sum.inr.inj z).symm)];exact IX h.2
theorem C1:∀ {nv:List (Str × V)} {y:Str} {v:V},(nv.map (·.1)).Nodup->(y,v) ∈ nv->Bn (sK nv) (Sum.inr y:AV)=some v
 | [],y,v,_,h=>nomatch h
 | q :: nv,y,v,hn,h=>by
  rw [WG] at hn;obtain ⟨h1,h2⟩:=Xm.mp hn;show Bn ((Sum.inr q.1,q.2) :: sK nv) (Sum.inr y:AV)=some v
  rcases Wn.mp h with e | h'
  ·subst e;exact B7 rfl
  ·rw [Bx (fun z=>h1 (by rw [Sum.inr.inj z]; exact W4.mpr ⟨(y,v),h',rfl⟩))];exact C1 h2 h'
theorem G6 {nv:List (Str × V)} {y:Str}:(Bn (sK nv) (Sum.inr y:AV)).isSome=decide (y ∈ nv.map (·.1)):=by
 by_cases h:y ∈ nv.map (·.1)
 ·rw [decide_eq_true h];cases e:Bn (sK nv) (Sum.inr y:AV) with
  | some v=>rfl
  | none=>
   have:=NG e;rw [IY] at this;exact absurd (W4.mpr ⟨y,h,rfl⟩) this
 ·rw [decide_eq_false h,IX h]; rfl
theorem Df {nv:List (Str × V)} {y:Str} {v:V} (h:y ∉ nv.map (·.1)):BK (sK nv) (Sum.inr y:AV) v=sK (nv ++ [(y,v)]):=by
 rw [Oi v (IX h),RK]; rfl
theorem K6 (nv:List (Str × V)) (y:Str) (v:V):∃ Dr,BK (sK nv) (Sum.inr y:AV) v=sK Dr/\Dr.length<=nv.length + 1/\∀ z,z ∈ Dr.map (·.1) ↔ z ∈ nv.map (·.1)\/z=y:=by
 by_cases h:y ∈ nv.map (·.1)
 ·refine ⟨nv.map fun q=>if q.1=y then (q.1,v) else q,?_,by rw [Wj]; lia,fun z=>?_⟩
  ·unfold BK;have:((sK nv).any fun kv=>decide (kv.1=(Sum.inr y:AV)))=true:=by
    rw [Cm,G6,decide_eq_true h]
   rw [if_pos this];unfold sK;rw [Xp,Xp];refine Yj fun q _=>?_
   by_cases e:q.1=y
   ·simp [e]
   ·have e':¬ (Sum.inr q.1:AV)=Sum.inr y:=fun z=>e (Sum.inr.inj z)
    simp [e,e']
  ·have e:(nv.map fun q=>if q.1=y then (q.1,v) else q).map (·.1)=nv.map (·.1):=by
    rw [Xp];refine Yj fun q _=>?_
    by_cases e:q.1=y <;> simp [e]
   rw [e];constructor
   ·exact .inl
   ·rintro (q | rfl)
    ·exact q
    ·exact h
 ·refine ⟨nv ++ [(y,v)],Df h,by simp,fun z=>by simp⟩
theorem LB {nv:List (Str × V)} {i:Nat} {k:AV} {v:V} (h:(sK nv)[i]? = some (k,v)):∃ y,nv[i]? = some (y,v)/\k=.inr y:=by
 unfold sK at h;rw [Wy] at h;cases e:nv[i]? with
 | none=>rw [e] at h; cases h
 | some q=>
  rw [e] at h;simp only [Yf,WA.injEq,Prod.mk.injEq] at h;exact ⟨q.1,by rw [<-h.2],h.1.symm⟩
structure Web (H:Hp) (q:Addr) (ps:List Str) (ws:List A5):Prop where
 ex:∃ tp tw us,H q=some (.tup [.ref tp,.ref tw])/\H tp=some (.tup (ps.map V.str))/\H tw=some (.tup us)/\BI H us (ws.map Ml)
theorem Web.same {H H':Hp} {q:Addr} {ps:List Str} {ws:List A5} (h:Web H q ps ws) (s:∀ b xs,H b=some (.tup xs)->H' b=some (.tup xs)):Web H' q ps ws:=by
 obtain ⟨tp,tw,us,h1,h2,h3,h4⟩:=h.ex;exact ⟨tp,tw,us,s _ _ h1,s _ _ h2,s _ _ h3,ET h4 s⟩
def LR (ps:List Str) (ds:List Addr):List (Str × V):=(ps.zip ds).map fun q=>(q.1,V.ref q.2)
theorem GP {ps:List Str} {ds:List Addr} (h:ps.length<=ds.length):(LR ps ds).map (·.1)=ps:=by
 unfold LR;rw [Xp];have:((fun (x:Str × V)=>x.1) ∘ fun (q:Str × Addr)=>(q.1,V.ref q.2))=Prod.fst:=rfl;rw [this,List.map_fst_zip h]
theorem LQ {ps:List Str} {ds:List Addr} {i:Nat} {p:Str} {d:Addr} (h1:ps[i]? = some p) (h2:ds[i]? = some d):(p,V.ref d) ∈ LR ps ds:=by
 unfold LR;refine W4.mpr ⟨(p,d),Wo (i:=i) ?_,rfl⟩;rw [List.getElem?_zip_eq_some];exact ⟨h1,h2⟩
structure NB (H:Hp) (B:Addr) (ps:List Str) (ds:List Addr) (P:Str->Str->Prop) (n:Nat):Prop where
 top:H B=some (.dK (sK (LR ps ds)))
 len:ds.length=ps.length
 nd:ds.Nodup
 nB:B ∉ ds
 inner:∀ (i:Nat) (p:Str) (d:Addr),ps[i]? = some p->ds[i]? = some d->∃ nv:List (Str × V),H d=some (.dK (sK nv))/\nv.length<=n/\∀ y,y ∈ nv.map (·.1) ↔ P p y
theorem NB.get {H:Hp} {B:Addr} {ps:List Str} {ds:List Addr} {P:Str->Str->Prop} {n:Nat} (h:NB H B ps ds P n) (hn:ps.Nodup) {p:Str} (hp:p ∈ ps) :
  ∃ (i:Nat) (d:Addr) (nv:List (Str × V)),ps[i]? = some p/\ds[i]? = some d/\Bn (sK (LR ps ds)) (Sum.inr p:AV)=some (.ref d)/\H d=some (.dK (sK nv))/\nv.length<=n/\∀ y,y ∈ nv.map (·.1) ↔ P p y:=by
 obtain ⟨i,hi,e⟩:=W2 hp;have e1:ps[i]? = some p:=by rw [Wk hi,e]
 have Tc:i < ds.length:=by rw [h.len]; exact hi
 have e2:ds[i]? = some ds[i]:=Wk Tc;obtain ⟨nv,a1,a2,a3⟩:=h.inner i p _ e1 e2;refine ⟨i,_,nv,e1,e2,C1 ?_ (LQ e1 e2),a1,a2,a3⟩;rw [GP (by rw [h.len]; exact Wq _)];exact hn
theorem NB.put {H:Hp} {B:Addr} {ps:List Str} {ds:List Addr} {P:Str->Str->Prop} {n:Nat} (h:NB H B ps ds P n) {i:Nat} {p y:Str} {d:Addr} (hn:ps.Nodup) (e1:ps[i]? = some p) (e2:ds[i]? = some d) {nv Dr:List (Str × V)} (hd:H d=some (.dK (sK nv)))
  (hl:Dr.length<=nv.length + 1) (hk:∀ z,z ∈ Dr.map (·.1) ↔ z ∈ nv.map (·.1)\/z=y) (hP:∀ z,z ∈ nv.map (·.1) ↔ P p z) (hln:nv.length<=n):NB (upd H d (.dK (sK Dr))) B ps ds (fun a b=>P a b\/(a=p/\b=y)) (n + 1):=by
 have dm:d ∈ ds:=Wo e2;refine ⟨by rw [Ae (fun z=>h.nB (by rw [z]; exact dm))]; exact h.top,h.len,h.nd,h.nB,fun j q c f1 f2=>?_⟩;by_cases z:c=d
 ·subst z;have ij:i=j:=FP h.nd e2 f2;subst ij;rw [e1] at f1; cases f1;refine ⟨Dr,Ab,by lia,fun z=>?_⟩;rw [hk,hP];simp
 ·obtain ⟨nw,b1,b2,b3⟩:=h.inner j q c f1 f2;refine ⟨nw,by rw [Ae z]; exact b1,by lia,fun y'=>?_⟩;rw [b3];have:q ≠ p:=by
   rintro rfl;have ij:=FP hn e1 f1;subst ij;rw [e2] at f2; cases f2;exact z rfl
  simp [this]
theorem NB.mono {H:Hp} {B:Addr} {ps:List Str} {ds:List Addr} {P P':Str->Str->Prop} {n m:Nat} (h:NB H B ps ds P n) (hP:∀ a b,P a b ↔ P' a b) (hn:n<=m):NB H B ps ds P' m:=
 ⟨h.top,h.len,h.nd,h.nB,fun i p d e1 e2=>let ⟨nv,a1,a2,a3⟩:=h.inner i p d e1 e2; ⟨nv,a1,by lia,fun y=>(a3 y).trans (hP p y)⟩⟩
structure Hu (H:Hp) (q:Addr) (ps:List Str) (ws:List A5) (r:Str):Prop where
 web:Web H q ps ws
 nd:ps.Nodup
 l30:ps.length<=30
 l64:ws.length < 64
 ends:∀ u ∈ ws,u.1 ∈ ps/\u.2.1 ∈ ps
 first:ps[0]? = some r
 con:∀ S:Str->Prop,S r->(∀ x y,J4 ws x y->S x->S y)->∀ x ∈ ps,S x
theorem Hu.same {H H':Hp} {q:Addr} {ps:List Str} {ws:List A5} {r:Str} (h:Hu H q ps ws r) (s:Au H H'):Hu H' q ps ws r:=
 ⟨h.web.same fun b xs z=>s _ _ z,h.nd,h.l30,h.l64,h.ends,h.first,h.con⟩
theorem Pn {ws:List A5} {i:Nat} {u:A5} (h:ws[i]? = some u) (a b:Str):J4 (ws.take (i + 1)) a b ↔ (J4 (ws.take i) a b\/(a=u.1/\b=u.2.1))\/(a=u.2.1/\b=u.1):=by
 rw [W5,h];constructor
 ·rintro ⟨v,hv,e⟩;rcases W9.mp hv with hv | hv
  ·exact .inl (.inl ⟨v,hv,e⟩)
  ·have:v=u:=by simpa using hv
   subst this;rcases e with ⟨e1,e2⟩ | ⟨e1,e2⟩
   ·exact .inl (.inr ⟨e1.symm,e2.symm⟩)
   ·exact .inr ⟨e2.symm,e1.symm⟩
 ·rintro ((⟨v,hv,e⟩ | ⟨rfl,rfl⟩) | ⟨rfl,rfl⟩)
  ·exact ⟨v,WN _ hv,e⟩
  ·exact ⟨u,Wx _ (by simp),.inl ⟨rfl,rfl⟩⟩
  ·exact ⟨u,Wx _ (by simp),.inr ⟨rfl,rfl⟩⟩
structure NR (H:Hp) (B:Addr) (ps:List Str) (ds:List Addr) (P:Str->Str->Prop):Prop where
 top:H B=some (.dK (sK (LR ps ds)))
 len:ds.length=ps.length
 nd:ds.Nodup
 nB:B ∉ ds
 inner:∀ (i:Nat) (p:Str) (d:Addr),ps[i]? = some p->ds[i]? = some d->∃ nv:List (Str × V),Rd H d (.dK (sK nv))/\∀ y,y ∈ nv.map (·.1) ↔ P p y
theorem NB.r {H:Hp} {B:Addr} {ps:List Str} {ds:List Addr} {P:Str->Str->Prop} {n:Nat} (h:NB H B ps ds P n):NR H B ps ds P:=
 ⟨h.top,h.len,h.nd,h.nB,fun i p d e1 e2=>let ⟨nv,a1,_,a3⟩:=h.inner i p d e1 e2; ⟨nv,.inl a1,a3⟩⟩
theorem NR.get {H:Hp} {B:Addr} {ps:List Str} {ds:List Addr} {P:Str->Str->Prop} (h:NR H B ps ds P) (hn:ps.Nodup) {p:Str} (hp:p ∈ ps) :
  ∃ (i:Nat) (d:Addr) (nv:List (Str × V)),ps[i]? = some p/\ds[i]? = some d/\Bn (sK (LR ps ds)) (Sum.inr p:AV)=some (.ref d)/\Rd H d (.dK (sK nv))/\∀ y,y ∈ nv.map (·.1) ↔ P p y:=by
 obtain ⟨i,hi,e⟩:=W2 hp;have e1:ps[i]? = some p:=by rw [Wk hi,e]
 have Tc:i < ds.length:=by rw [h.len]; exact hi
 have e2:ds[i]? = some ds[i]:=Wk Tc;obtain ⟨nv,a1,a3⟩:=h.inner i p _ e1 e2;refine ⟨i,_,nv,e1,e2,C1 ?_ (LQ e1 e2),a1,a3⟩;rw [GP (by rw [h.len]; exact Wq _)];exact hn
theorem Rd.ne {H:Hp} {a b:Addr} {u o:HO} (h:Rd H a u) (hb:a ≠ b):Rd (upd H b o) a u:=by
 rcases h with h | ⟨ob,h⟩
 ·exact .inl (by rw [Ae hb]; exact h)
 ·exact .inr ⟨ob,by rw [Ae hb]; exact h⟩
theorem Rd.fz {H H':Hp} {a b:Addr} {u:HO} {kvs:List (AV × V)} {o:Obj} (h:Rd H a u) (f:DE H b kvs o H') (hb:a ≠ b):Rd H' a u:=by
 rcases h with h | ⟨ob,h⟩
 ·exact .inl (by rw [f.ne hb]; exact h)
 ·exact .inr ⟨ob,by rw [f.ne hb]; exact h⟩
theorem NR.other {H:Hp} {B a:Addr} {ps:List Str} {ds:List Addr} {P:Str->Str->Prop} {o:HO} (h:NR H B ps ds P) (ha:a ∉ ds) (hB:a ≠ B):NR (upd H a o) B ps ds P:=
 ⟨by rw [Ae (Ne.symm hB)]; exact h.top,h.len,h.nd,h.nB,fun i p d e1 e2=>let ⟨nv,a1,a3⟩:=h.inner i p d e1 e2
  ⟨nv,a1.ne (fun z=>ha (by rw [<-z]; exact Wo e2)),a3⟩⟩
theorem NR.freeze {H H':Hp} {B:Addr} {ps:List Str} {ds:List Addr} {P:Str->Str->Prop} (h:NR H B ps ds P) {i:Nat} {p:Str} {d:Addr} (e1:ps[i]? = some p) (e2:ds[i]? = some d) {nv:List (Str × V)} {o:Obj} (f:DE H d (sK nv) o H') (hP:∀ y,y ∈ nv.map (·.1) ↔ P p y):NR H' B ps ds P:=by
 have dm:d ∈ ds:=Wo e2;refine ⟨by rw [f.ne (fun z=>h.nB (by rw [z]; exact dm))]; exact h.top,h.len,h.nd,h.nB,fun j q c f1 f2=>?_⟩;by_cases z:c=d
 ·subst z;have ij:i=j:=FP h.nd e2 f2;subst ij;rw [e1] at f1; cases f1;exact ⟨nv,.inr ⟨o,f.at⟩,hP⟩
 ·obtain ⟨nw,b1,b3⟩:=h.inner j q c f1 f2;exact ⟨nw,b1.fz f z,b3⟩
theorem Qk {nv Dr:List (Str × V)} {y:Str} {v:V} (e:BK (sK nv) (Sum.inr y:AV) v=sK Dr) (hn:(nv.map (·.1)).Nodup):(Dr.map (·.1)).Nodup:=by
 have inj:∀ {a b:List (Str × V)},(sK a).map (·.1)=(sK b).map (·.1)->a.map (·.1)=b.map (·.1):=fun {a b} h=>by
  rw [IY,IY] at h;exact Zn (fun x y z=>Sum.inr.inj z) |>.mp h
 by_cases h:y ∈ nv.map (·.1)
 ·have e2:(BK (sK nv) (Sum.inr y:AV) v).map (·.1)=(sK nv).map (·.1):=by
   unfold BK;have:((sK nv).any fun kv=>decide (kv.1=(Sum.inr y:AV)))=true:=by rw [Cm,G6,decide_eq_true h]
   rw [if_pos this,Xp];refine Yj fun q _=>?_
   by_cases e:q.1=(Sum.inr y:AV) <;> simp [e]
  rw [e] at e2;rw [inj e2];exact hn
 ·rw [Df h] at e;have e2:(nv ++ [(y,v)]).map (·.1)=Dr.map (·.1):=inj (by rw [e]);rw [<-e2,W3];refine Xq.mpr ⟨hn,Xm.mpr ⟨by simp,.nil⟩,fun a ha b hb=>?_⟩;have e3:b=y:=by simpa using hb
  subst e3;rintro rfl;exact h ha
section
variable {ws:List A5} {r:Str} {bs:List (Str × Option Str)} {wk:List (Str × List Str)} {ps:List Str}
end
theorem F8 {α:Type} {l:List (Str × α)} (h:(l.map (·.1)).Nodup) (f:Str × α->Bool):((l.filter f).map (·.1)).Nodup:=by
 have s:List.Sublist ((l.filter f).map (·.1)) (l.map (·.1)):=List.Sublist.map _ Y7;exact s.nodup h
theorem An.thaw {X:Cx} {pins:List (Addr × Obj)} {σ:St} {H:Hp} {s:Shared} {a:Addr} {o:Obj} {u:HO} (I:An X pins σ H s) (e:H a=some (.frz o u)) (h0:∀ ob w,X.H₀ a ≠ some (.frz ob w)) (hu:u ≠ .own a/\∀ xs,u ≠ .tup xs):An X pins σ (upd H a u) s:=by
 obtain ⟨ho,hok⟩:=(show A6 X.prog X.w H s.heap a (.frz o u) from I.hok a _ e)
 have nn:∀ b,H b=none->b ≠ a:=fun b hb z=>by rw [z,e] at hb; cases hb
 have own:∀ b y,H b=some (.own y)->b ≠ a:=fun b y hb z=>by rw [z,e] at hb; cases hb
 have tup:∀ b xs,H b=some (.tup xs)->b ≠ a:=fun b xs hb z=>by rw [z,e] at hb; cases hb
 refine ⟨I.ok,I.os,I.bare,⟨I.base.keep,I.base.slot,fun b ob q n hx=>?_,I.base.there,fun b xs q=>?_,fun b ob w q=>?_,fun b ps q=>?_⟩,I.loc,I.cell,?_,fun x c q=>?_,fun p hp=>?_,fun b w q=>?_,I.len⟩
 ·have z:=I.base.free b ob q n hx;rw [Ae (nn b z)]; exact z
 ·have z:=I.base.tups b xs q;rw [Ae (tup b xs z)]; exact z
 ·have z:=I.base.frzs b ob w q;by_cases hb:b=a
  ·subst hb; exact absurd q (h0 ob w)
  ·rw [Ae hb]; exact z
 ·obtain ⟨more,z⟩:=I.base.tbls b ps q;exists more;rw [Ae (fun hb=>by rw [hb,e] at z; cases z)]; exact z
 ·rw [Ae (nn _ I.free)]; exact I.free
 ·rw [Ae (nn _ (I.freeC x c q))]; exact I.freeC x c q
 ·obtain ⟨z1,z2,z3⟩:=I.pin p hp;exact ⟨z1,by rw [Ae (nn _ z2)]; exact z2,z3⟩
 ·by_cases hb:b=a
  ·subst hb;rw [Ab] at q;cases q
   exact hok.stay (fun c v _ z=>z) (fun c z=>by rw [Ae (own c _ z)]; exact z) fun c xs z=>by rw [Ae (tup c xs z)]; exact z
  ·rw [Ae hb] at q;exact (I.hok b w q).stay (fun c v _ z=>z) (fun c z=>by rw [Ae (own c _ z)]; exact z) fun c xs z=>by rw [Ae (tup c xs z)]; exact z
theorem LJ {X:Cx} {e:Expr} {t:TE} (h:PE X e t):PE X e (fun σ H Q=>t σ H fun x H1=>∃ a o kvs,H1 a=some (.frz o (.dK kvs))/\(∀ ob w,X.H₀ a ≠ some (.frz ob w))/\Q x (upd H1 a (.dK kvs))):=by
 intro pins s σ H Q I q;refine BF (h (pins:=pins) s σ H _ I q) fun v s1 ⟨x,H1,I1,r1,a,o,kvs,e1,h0,q1⟩=>?_
 exact ⟨x,_,I1.thaw e1 h0 ⟨(by intro z; cases z),(by intro xs z; cases z)⟩,r1,q1⟩
def BQ (A:Around) (s:Shared) (x y:Value) (b:Bool):Prop:=∀ (prog:Program) (w:World) (E Q:Value->Shared->Prop),Q (.bool b) s->wpAny (model prog w) A (richCompare .Lt x y) Q E s
theorem BQ.int (A:Around) (s:Shared) (a:Int) (t:Tok) (c:Int) (u:Tok):BQ A s (.int a t) (.int c u) (decide (a < c)):=fun prog w E Q h=>
 (PyProof.Rows.lt_int h:wpAny (model prog w) A (compareOp .Lt (.int a t) (.int c u)) Q E s)
theorem BQ.str (A:Around) (s:Shared) (a:Str) (t:Tok) (c:Str) (u:Tok):BQ A s (.str a t) (.str c u) (decide (a.cps.toList < c.cps.toList)):=fun prog w E Q h=>
 (PySem.P.lt_str h:wpAny (model prog w) A (compareOp .Lt (.str a t) (.str c u)) Q E s)
section
open PySem.SeqAt
open PySem.AutoSeq1 (wpAny_loadPart')
open PySem.MeetsSeq PySem.MeetsSeq2 PySem.MeetsSeq3
theorem Mr (l b:Addr) (x1 x2 y1 y2:Value) (n n2:Nat) (dd Jo:Option Addr) (sl F3:Array (Option Value)) (e1 b1 e2 b2:Bool) :
  Meets (Builtin.«tuple.__lt__» ⟨[.ref l,.ref b],[]⟩)
   (fun A R s=>s.heap.get? l=some { cls:=.type "tuple",dict:=dd,data:=.seq #[x1,x2] n,slots:=sl }/\s.heap.get? b=some { cls:=.type "tuple",dict:=Jo,data:=.seq #[y1,y2] n2,slots:=F3 } /\
    EqAt A.in1 s x1 y1 e1/\(e1=false->BQ A.in1 s x1 y1 b1)/\(e1=true->EqAt A.in1 s x2 y2 e2/\(e2=false->BQ A.in1 s x2 y2 b2)) /\
    R (.ok (.ret (.bool (if e1=true then (if e2=true then false else b2) else b1)))) s):=
 .of_wp fun prog w A R s h=>by
  obtain ⟨hp,g,d,tk,os⟩:=s; obtain ⟨hl,hb,he1,hl1,h2,h⟩:=h;have f2:=AutoSeq1.sub_tuple_tuple;wp_walk using wpAny_loadPart' hl,wpAny_loadPart' hb,wpAny_forIn_list _ (fun By b s'=>b.1=none/\s'=⟨hp,g,d,tk,os⟩/\(By=[(x1,y1),(x2,y2)]\/(By=[(x2,y2)]/\e1=true)\/(By=[]/\e1=true/\e2=true))) _
  case turn=>
   rintro ⟨y,x⟩ By b s' ⟨Fz,rfl,hz | ⟨hz,h1⟩ | ⟨hz,_⟩⟩
   ·cases hz
    refine wpAny_bind (he1 prog w _ _ ?_);cases ee:e1 with
    | true=>
     wp_walk
     exact ⟨rfl,rfl,.inr (.inl ⟨rfl,rfl⟩)⟩
    | false=>
     rw [ee,if_neg W8] at h;have hri:=hl1 ee prog w;wp_walk using hri;exact ⟨_,rfl,by simpa using h⟩
   ·cases hz
    obtain ⟨he2,OQ⟩:=h2 h1;rw [if_pos h1] at h;refine wpAny_bind (he2 prog w _ _ ?_);cases ee:e2 with
    | true=>
     wp_walk
     exact ⟨rfl,rfl,.inr (.inr ⟨rfl,h1,rfl⟩)⟩
    | false=>
     rw [ee,if_neg W8] at h;have hri:=OQ ee prog w;wp_walk using hri;exact ⟨_,rfl,by simpa using h⟩
   ·cases hz
  case fin=>
   rintro ⟨b1',b2'⟩ s' ⟨Fz,rfl,hz | ⟨hz,h1⟩ | ⟨hz,h1,VO⟩⟩
   ·cases hz
   ·cases hz
   ·simp only at Fz;subst Fz;rw [if_pos h1,if_pos VO] at h;wp_walk;exact ⟨_,rfl,by simpa [Builtin.Tuple.tupleCompareSizes] using h⟩
  case h=>
   exact ⟨rfl,rfl,.inl rfl⟩
end
theorem BQ.tup2 {A:Around} {s:Shared} {l b:Addr} {x1 x2 y1 y2:Value} {e1 b1 e2 b2:Bool} (hl:IsTup s.heap l #[x1,x2]) (hb:IsTup s.heap b #[y1,y2]) (hu:A.units < cLine) (h1:SeqAt.EqAt A.in1 s x1 y1 e1) (l1:e1=false->BQ A.in1 s x1 y1 b1)
  (h2:e1=true->SeqAt.EqAt A.in1 s x2 y2 e2/\(e2=false->BQ A.in1 s x2 y2 b2)):BQ A s (.ref l) (.ref b) (if e1=true then (if e2=true then false else b2) else b1):=fun prog w E Q h=>by
 obtain ⟨⟨cls,dd,data,sl⟩,ho,hc,n,hd⟩:=id hl;obtain ⟨⟨QS,Jo,data2,F3⟩,Ko,HF,n2,hd2⟩:=id hb;simp only at hc hd HF hd2;subst hc hd HF hd2;exact richCompare_meets_room (op:=.Lt) ⟨_,ho,rfl⟩ ⟨_,Ko,rfl⟩ PySem.F.slot_tuple_lt PySem.F.entry_tuple_lt (PySem.F.args_tuple_lt_2 _ _) (Mr l b x1 x2 y1 y2 n n2 dd Jo sl F3 e1 b1 e2 b2)
  ⟨ho,Ko,h1,l1,h2,show Value.bool _ ≠ Value.notImplemented/\Q (.bool _) s from ⟨(fun x=>nomatch x),h⟩⟩ hu
def PD (p q:Int × Str):Bool:=if (p.1 == q.1)=true then (if (p.2 == q.2)=true then false else decide (p.2.cps.toList < q.2.cps.toList)) else decide (p.1 < q.1)
def Dl (h:Heap) (v:Value) (p:Int × Str):Prop:=∃ a t u,v=.ref a/\IsTup h a #[.int p.1 t,.str p.2 u]
theorem Dl.keep {h h':Heap} {v:Value} {p:Int × Str} (x:Dl h v p) (k:∀ b o,h.get? b=some o->h'.get? b=some o):Dl h' v p:=by
 obtain ⟨a,t,u,rfl,o,ho,r⟩:=x;exact ⟨a,t,u,rfl,o,k _ _ ho,r⟩
theorem LS {A:Around} {s:Shared} {v w:Value} {p q:Int × Str} (hv:Dl s.heap v p) (hw:Dl s.heap w q) (hu:A.units < cLine):BQ A s v w (PD p q):=by
 obtain ⟨a,t,u,rfl,hl⟩:=hv;obtain ⟨b,t',u',rfl,hb⟩:=hw;exact BQ.tup2 hl hb hu (SeqAt.EqAt.int_int _ _ _ _) (fun _=>BQ.int _ _ _ _ _ _) fun _=>⟨SeqAt.EqAt.str_str _ _ _ _,fun _=>BQ.str _ _ _ _ _ _⟩
theorem QK {A:Around} {s:Shared} {v w:Value} {p q:Int × Str} (hv:Dl s.heap v p) (hw:Dl s.heap w q) (hu:A.units < cLine):SeqAt.EqAt A s v w (decide (p=q)):=by
 obtain ⟨a,t,u,rfl,hl⟩:=hv;obtain ⟨b,t',u',rfl,hb⟩:=hw;by_cases hab:a=b
 ·subst hab;have e:p=q:=by
   obtain ⟨o,ho,hc,n,hd⟩:=hl;obtain ⟨o',HD,Gn,n',JZ⟩:=hb;rw [ho] at HD;cases HD
   rw [hd] at JZ;injection JZ with e1 e2;have e3:=congrArg Yv e1;simp only [Ya.injEq,Value.int.injEq,Value.str.injEq] at e3;exact Prod.ext e3.1.1 e3.2.1.1
  rw [decide_eq_true e];intro prog w E Q h;unfold eqBool;refine wpAny_holding ?_;exact wpAny_ite_split (fun _=>wpAny_bind (wpAny_rule (wpAny_pure h))) (fun hn=>absurd (by simp) hn)
 ·have key:=SeqAt.RcAt.tuples (A:=A) (s:=s) (e:=fun j=>if j=0 then p.1 == q.1 else p.2 == q.2) (show s.heap.IsTuple a #[.int p.1 t,.str p.2 u] from hl) (show s.heap.IsTuple b #[.int q.1 t',.str q.2 u'] from hb) hu (fun j h1 h2=>by
   match j,h1,h2 with
   | 0,_,_=>exact SeqAt.EqAt.int_int _ _ _ _
   | 1,_,_=>exact SeqAt.EqAt.str_str _ _ _ _
   | j + 2,h1,_=>exact absurd (show j + 2 < 2 from h1) (by lia))
  have e:((Xc (min (#[Value.int p.1 t,.str p.2 u]:Array Value).size (#[Value.int q.1 t',.str q.2 u']:Array Value).size)).all (fun j=>if j=0 then p.1 == q.1 else p.2 == q.2) && (#[Value.int p.1 t,.str p.2 u]:Array Value).size == (#[Value.int q.1 t',.str q.2 u']:Array Value).size)=decide (p=q):=by
   show ((Xc 2).all (fun j=>if j=0 then p.1 == q.1 else p.2 == q.2) && (2 == 2))=decide (p=q)
   have:(Xc 2)=[0,1]:=rfl;rw [this];simp only [YB,List.all_nil,Z2,beq_self_eq_true];rw [Xg];simp [Prod.ext_iff]
  rw [e] at key;exact SeqAt.EqAt.of_refs hab key
def Hv (h:Heap) (v:Value) (k:(Int × Str) × Str):Prop:=∃ a l u,v=.ref a/\IsTup h a #[.ref l,.str k.2 u]/\Dl h (.ref l) k.1
theorem Hv.keep {h h':Heap} {v:Value} {p:(Int × Str) × Str} (x:Hv h v p) (k:∀ b o,h.get? b=some o->h'.get? b=some o):Hv h' v p:=by
 obtain ⟨a,l,u,rfl,⟨o,ho,r⟩,z⟩:=x;exact ⟨a,l,u,rfl,⟨o,k _ _ ho,r⟩,z.keep k⟩
def Rn (p q:(Int × Str) × Str):Bool:=if decide (p.1=q.1)=true then (if (p.2 == q.2)=true then false else decide (p.2.cps.toList < q.2.cps.toList)) else PD p.1 q.1
theorem Sa {A:Around} {s:Shared} {v w:Value} {p q:(Int × Str) × Str} (hv:Hv s.heap v p) (hw:Hv s.heap w q) (hu:A.units + 1 < cLine):BQ A s v w (Rn p q):=by
 obtain ⟨a,l,u,rfl,hl,hp⟩:=hv;obtain ⟨b,l',u',rfl,hb,hq⟩:=hw;exact BQ.tup2 hl hb (by lia) (QK hp hq (by rw [PySem.Around.in1_units]; exact hu)) (fun _=>LS hp hq (by rw [PySem.Around.in1_units]; exact hu)) fun _=>⟨SeqAt.EqAt.str_str _ _ _ _,fun _=>BQ.str _ _ _ _ _ _⟩
def Lm (prog:Program) (w:World) (A:Around) (g0:Heap) (P:Nat->Value->Prop) (bt:Nat->Nat->Bool):Prop:=
 ∀ i j vi vj (s:Shared) (Q:Value->Shared->Prop) (E:Value->Shared->Prop),(∀ b o,g0.get? b=some o->s.heap.get? b=some o)->P i vi->P j vj->Q (.bool (bt i j)) s->wpAny (model prog w) A (richCompare .Lt vi vj) Q E s
section
variable {prog:Program} {w:World} {A:Around} {R:Result->Shared->Prop} {I:Addr} {fp wr:List Addr} {n:Nat} {P:Nat->Value->Prop} {St:Nat->Heap->Prop} {g0:Heap}
theorem MH (W:Walks prog w A.in1 I fp wr n P St) (bt:Nat->Nat->Bool) (cm:Lm prog w A.in1 g0 P bt) (S:Addr) (nS:S ∉ fp) (gw:∀ b o,g0.get? b=some o->b ∉ wr/\b ≠ S) :
  ∀ (m j:Nat) (s:Shared) (bv:Value) (c:Nat),n - (j + 1)=m->j + 1<=n->St (j + 1) s.heap->P (argBest bt j) bv->(∀ b o,g0.get? b=some o->s.heap.get? b=some o) ->
  s.heap.get? S=some { cls:=.type "list",dict:=none,data:=.seq #[bv,bv] c,slots:=#[] } ->
  (∀ v h2 tk,P (argBest bt (n - 1)) v->(∀ b o,b ∉ wr->b ≠ S->s.heap.get? b=some o->h2.get? b=some o)->R (.ok (.ret v)) { s with heap:=h2,toks:=tk }) ->
  codeAny (model prog w) A (.builtin "min.loop" ⟨[.ref I,.none,.ref S],[]⟩) R s:=by
 have Sw:S ∉ wr:=fun z=>nS (W.sub _ z)
 have nm:(toString "min" ++ toString ".loop":String)="min.loop":=by decide
 intro m;induction m with
 | zero=>
  intro j s bv c hm hj st pb g1 aS r;have jn:j + 1=n:=by lia
  refine codeAny_builtin F.entry_min_loop ?_;rw [Around.under_plainId F.plain_min_loop _];refine wpAny_bind (m:=seqItems? (.ref S)) (wpAny_seqItems aS rfl ?_);refine wpAny_bind (wpAny_tryCatch (W.done s _ _ (jn ▸ st) fun h2 tk k2=>?_));have HM:=k2 S _ Sw aS;refine wpAny_bind (m:=updateSeq S (fun _=>#[])) ?_;refine wpAny_updateSeq HM rfl (wpAny_bind (wpAny_letGo (wpAny_pure ?_)));exact r bv _ tk (by rw [<-jn]; exact pb) fun b o bw bS e=>(WE _ _ (Ne.symm bS)).trans (k2 b o bw e)
 | succ m ih=>
  intro j s bv c hm hj st pb g1 aS r;have lt:j + 1 < n:=by lia
  refine codeAny_builtin F.entry_min_loop ?_;rw [Around.under_plainId F.plain_min_loop _];refine wpAny_bind (m:=seqItems? (.ref S)) (wpAny_seqItems aS rfl ?_);refine wpAny_bind (wpAny_tryCatch (W.item (j + 1) s _ _ lt st fun v h2 tk pv Dm k2=>?_));have HM:=k2 S _ Sw aS;have g2:∀ b o,g0.get? b=some o->h2.get? b=some o:=fun b o e=>k2 b o (gw b o e).1 (g1 b o e)
  show wpAny _ A.in1 (tryCatch (holding [v,v] (richCompare .Lt v bv >>= _)) _ >>= _) _ _ _
  refine wpAny_bind (wpAny_tryCatch (wpAny_holding (wpAny_bind (cm (j + 1) (argBest bt j) v bv _ _ _ g2 pv pb ?_))));refine wpAny_bind (wpAny_holding (wpAny_truthy_bool ?_));refine wpAny_bind (wpAny_letGo (wpAny_pure ?_));cases hb:bt (j + 1) (argBest bt j) with
  | true=>
   simp only [if_true];refine wpAny_bind ?_;refine wpAny_updateSeq HM rfl (wpAny_bind (wpAny_letGo ?_));rw [nm];refine wpAny_pure ⟨plainId_quiet F.plain_min_loop _,ih (j + 1) _ v _ (by lia) lt (W.frame _ _ _ Dm fun b bf o e=>?_) (by simp only [argBest,hb,if_true]; exact pv) (fun b o e=>?_) (WU _ HM rfl) fun v' h3 NJ Oh k3=>?_⟩
   ·exact (WE _ _ (fun z:S=b=>nS (by rw [z]; exact bf))).trans e
   ·exact (WE _ _ (Ne.symm (gw b o e).2)).trans (g2 b o e)
   ·exact r v' h3 NJ Oh fun b o bw bS e=>k3 b o bw bS ((WE _ _ (Ne.symm bS)).trans (k2 b o bw e))
  | false=>
   simp only [WB,if_false];refine wpAny_bind (wpAny_letGo ?_);rw [nm];refine wpAny_pure ⟨plainId_quiet F.plain_min_loop _,ih (j + 1) _ bv c (by lia) lt Dm (by simp only [argBest,hb,WB,if_false]; exact pb) g2 HM fun v' h3 NJ Oh k3=>?_⟩;exact r v' h3 NJ Oh fun b o bw bS e=>k3 b o bw bS (k2 b o bw e)
theorem GQ (W:Walks prog w A.in1 I fp wr n P St) (bt:Nat->Nat->Bool) (cm:Lm prog w A.in1 g0 P bt) (S:Addr) (nS:S ∉ fp) (gw:∀ b o,g0.get? b=some o->b ∉ wr/\b ≠ S) (hn:0 < n) {s:Shared} {c:Nat} (st:St 0 s.heap)
  (g1:∀ b o,g0.get? b=some o->s.heap.get? b=some o) (aS:s.heap.get? S=some { cls:=.type "list",dict:=none,data:=.seq #[] c,slots:=#[] })
  (r:∀ v h2 tk,P (argBest bt (n - 1)) v->(∀ b o,b ∉ wr->b ≠ S->s.heap.get? b=some o->h2.get? b=some o)->R (.ok (.ret v)) { s with heap:=h2,toks:=tk }) :
  codeAny (model prog w) A (.builtin "min.loop" ⟨[.ref I,.none,.ref S],[]⟩) R s:=by
 have Sw:S ∉ wr:=fun z=>nS (W.sub _ z)
 have nm:(toString "min" ++ toString ".loop":String)="min.loop":=by decide
 refine codeAny_builtin F.entry_min_loop ?_;rw [Around.under_plainId F.plain_min_loop _];refine wpAny_bind (m:=seqItems? (.ref S)) (wpAny_seqItems aS rfl ?_);refine wpAny_bind (wpAny_tryCatch (W.item 0 s _ _ hn st fun v h2 tk pv Dm k2=>?_));have HM:=k2 S _ Sw aS;refine wpAny_bind (m:=updateSeq S (fun _=>#[v,v])) ?_;refine wpAny_updateSeq HM rfl ?_;rw [nm];refine wpAny_pure ⟨plainId_quiet F.plain_min_loop _,MH W bt cm S nS gw _ 0 _ v _ rfl hn (W.frame _ _ _ Dm fun b bf o e=>?_) pv (fun b o e=>?_) (WU _ HM rfl) fun v' h3 NJ Oh k3=>?_⟩
 ·exact (WE _ _ (fun z:S=b=>nS (by rw [z]; exact bf))).trans e
 ·exact (WE _ _ (Ne.symm (gw b o e).2)).trans (k2 b o (gw b o e).1 (g1 b o e))
 ·exact r v' h3 NJ Oh fun b o bw bS e=>k3 b o bw bS ((WE _ _ (Ne.symm bS)).trans (k2 b o bw e))
end
section
variable {prog:Program} {w:World} {A:Around} {E:Value->Shared->Prop} {s:Shared}
theorem Ik {l:Addr} {vs:List Value} {bt:Nat->Nat->Bool} {Q:Value->Shared->Prop} (hh:A.handled=none) (hl:s.heap.IsList l vs.toArray) (hn:0 < vs.length) (cm:Lm prog w A.in1 s.heap (fun i v=>vs[i]? = some v) bt)
  (h:∀ v h2 tk,vs[argBest bt (vs.length - 1)]? = some v->(∀ b o,s.heap.get? b=some o->h2.get? b=some o)->Q v { s with heap:=h2,toks:=tk }):wpAny (model prog w) A (call (.builtin "min") [.ref l]) Q E s:=by
 have nm:(toString "min" ++ toString ".loop":String)="min.loop":=by decide
 have BH:l < s.heap.objs.size:=by obtain ⟨o,ho,_⟩:=id hl; exact Wr ho
 refine call_function_tree F.kind_min F.plain_min F.entry_min (F.args_min1 _) ?_;refine wpAny_bind (wpAny_of_eq (show Builtin.Builtins.bindParams "min" ["key","default"] 0 ⟨[],[]⟩=pure [none,none] from rfl) ?_);refine wpAny_bind (wpAny_pure ?_);refine wpAny_bind (wpAny_pyIter_list hl ?_);refine wpAny_bind (wpAny_newObj_type ?_);rw [nm];have sz:(s.heap.push { cls:=.type "list_iterator",data:=.fields #[.ref l,.int 0 0] }).objs.size=s.heap.objs.size + 1:=WY ..;have W:=(Walks.list (prog:=prog) (w:=w) (A:=A.in1) hh s.heap.objs.size l (W6 BH) vs.toArray).weaken (P':=fun i v=>vs[i]? = some v) (fun i v e=>by simpa using e);refine wpAny_pure ⟨plainId_quiet F.plain_min_loop _,GQ (g0:=s.heap) W bt cm (s.heap.push { cls:=.type "list_iterator",data:=.fields #[.ref l,.int 0 0] }).objs.size (fun hm=>?_) (fun b o e=>⟨fun hm=>?_,fun z=>?_⟩) (by simpa using hn) ?_ (fun b o e=>Wl _ (Wl _ e)) (W0 _ rfl) fun v h2 tk pv k2=>?_⟩
 ·rw [sz] at hm;rcases Wn.mp hm with z | hm
  ·exact absurd z (Zv _)
  ·rcases Wn.mp hm with z | hm
   ·exact absurd z (Xa (WK BH))
   ·cases hm
 ·have:=Wr e;rw [Wz.mp hm] at this;exact absurd this (WT _)
 ·have:=Wr e;rw [z,sz] at this;exact absurd this (Yd.mpr (WX _))
 ·exact ⟨⟨_,Wl _ (W0 _ rfl),rfl,rfl⟩,(hl.push _).push _⟩
 ·refine h v h2 tk (by simpa using pv) fun b o e=>k2 b o (fun hm=>?_) (fun z=>?_) (Wl _ (Wl _ e))
  ·have:=Wr e;rw [Wz.mp hm] at this;exact absurd this (WT _)
  ·have:=Wr e;rw [z,sz] at this;exact absurd this (Yd.mpr (WX _))
end
section
variable {prog:Program} {w:World} {A:Around} {E:Value->Shared->Prop} {s:Shared}
theorem O7 {a b:Value} {bt:Nat->Nat->Bool} {Q:Value->Shared->Prop} (hh:A.handled=none) (cm:Lm prog w A.in1 s.heap (fun i v=>[a,b][i]? = some v) bt)
  (h:∀ v h2 tk,[a,b][argBest bt 1]? = some v->(∀ c o,s.heap.get? c=some o->h2.get? c=some o)->Q v { s with heap:=h2,toks:=tk }):wpAny (model prog w) A (call (.builtin "min") [a,b]) Q E s:=by
 have nm:(toString "min" ++ toString ".loop":String)="min.loop":=by decide
 have hT:(s.heap.push { cls:=.type "tuple",data:=.seq #[a,b] }).IsTuple s.heap.objs.size #[a,b]:=⟨_,W0 _ rfl,rfl,0,rfl⟩
 refine call_function_tree F.kind_min F.plain_min F.entry_min (F.args_min2 _ _) ?_;refine wpAny_bind (wpAny_of_eq (show Builtin.Builtins.bindParams "min" ["key","default"] 0 ⟨[],[]⟩=pure [none,none] from rfl) ?_);show wpAny _ A.in1 (newTuple [a,b] >>= _) _ _ s
 refine wpAny_bind (wpAny_newObj_type ?_);refine wpAny_bind (wpAny_pyIter_tuple hT ?_);refine wpAny_bind (wpAny_newObj_type ?_);rw [nm];have s1:(s.heap.push { cls:=.type "tuple",data:=.seq #[a,b] }).objs.size=s.heap.objs.size + 1:=WY ..;have s2:((s.heap.push { cls:=.type "tuple",data:=.seq #[a,b] }).push { cls:=.type "tuple_iterator",data:=.fields #[.ref s.heap.objs.size,.int 0 0] }).objs.size=s.heap.objs.size + 2:=by rw [WY,s1]
 have W:=(Walks.tuple (prog:=prog) (w:=w) (A:=A.in1) hh (s.heap.push { cls:=.type "tuple",data:=.seq #[a,b] }).objs.size s.heap.objs.size (by rw [s1]; exact W6 (WM _)) #[a,b]).weaken (P':=fun i v=>[a,b][i]? = some v) (fun i v e=>by simpa using e);refine wpAny_pure ⟨plainId_quiet F.plain_min_loop _,GQ (g0:=s.heap) W bt cm ((s.heap.push { cls:=.type "tuple",data:=.seq #[a,b] }).push { cls:=.type "tuple_iterator",data:=.fields #[.ref s.heap.objs.size,.int 0 0] }).objs.size (fun hm=>?_) (fun b o e=>⟨fun hm=>?_,fun z=>?_⟩) (by simp) ?_ (fun b o e=>Wl _ (Wl _ (Wl _ e))) (W0 _ rfl) fun v h2 tk pv k2=>?_⟩
 ·rw [s2] at hm;rcases Wn.mp hm with z | hm
  ·rw [s1] at z; exact absurd z (Xa (WM _))
  ·rcases Wn.mp hm with z | hm
   ·exact absurd z (Xa (WK (WM _)))
   ·cases hm
 ·have:=Wr e;rw [Wz.mp hm,s1] at this;exact absurd this (Yd.mpr (WX _))
 ·have:=Wr e;rw [z,s2] at this;exact absurd this (Yd.mpr (WJ (WX _) (WX _)))
 ·exact ⟨⟨_,Wl _ (W0 _ rfl),rfl,rfl⟩,(hT.push _).push _⟩
 ·refine h v h2 tk (by simpa using pv) fun b o e=>k2 b o (fun hm=>?_) (fun z=>?_) (Wl _ (Wl _ (Wl _ e)))
  ·have:=Wr e;rw [Wz.mp hm,s1] at this;exact absurd this (Yd.mpr (WX _))
  ·have:=Wr e;rw [z,s2] at this;exact absurd this (Yd.mpr (WJ (WX _) (WX _)))
end
theorem Ht (bt:Nat->Nat->Bool) (num:Nat->Int) (h1:∀ i j,bt i j=true->num i<=num j) (h2:∀ i j,bt i j=false->num j<=num i):∀ k,argBest bt k<=k/\∀ j,j<=k->num (argBest bt k)<=num j
 | 0=>⟨Wq _,fun j hj=>by
  have:j=0:=by lia
  subst this; exact Xk _⟩
 | k + 1=>by
  obtain ⟨a1,a2⟩:=Ht bt num h1 h2 k;simp only [argBest];cases hc:bt (k + 1) (argBest bt k) with
  | true=>
   simp only [if_true];refine ⟨Wq _,fun j hj=>?_⟩;have:=h1 _ _ hc;by_cases Dv:j<=k
   ·have:=a2 j Dv; lia
   ·have:j=k + 1:=by lia
    subst this; exact Xk _
  | false=>
   simp only [WB,if_false];refine ⟨XX a1,fun j hj=>?_⟩;by_cases Dv:j<=k
   ·exact a2 j Dv
   ·have:j=k + 1:=by lia
    subst this; exact h2 _ _ hc
def IJ (H:Hp) (v:V) (p:Int × Str):Prop:=∃ t,v=.ref t/\H t=some (.tup [.int p.1,.str p.2])
def Rz (H:Hp) (v:V) (k:(Int × Str) × Str):Prop:=∃ t t2,v=.ref t/\H t=some (.tup [.ref t2,.str k.2])/\IJ H (.ref t2) k.1
theorem IJ.same {H H':Hp} {v:V} {p:Int × Str} (h:IJ H v p) (s:∀ b xs,H b=some (.tup xs)->H' b=some (.tup xs)):IJ H' v p:=let ⟨t,e,z⟩:=h; ⟨t,e,s _ _ z⟩
theorem Rz.same {H H':Hp} {v:V} {p:(Int × Str) × Str} (h:Rz H v p) (s:∀ b xs,H b=some (.tup xs)->H' b=some (.tup xs)):Rz H' v p:=let ⟨t,t2,e,z,q⟩:=h; ⟨t,t2,e,s _ _ z,q.same s⟩
theorem IJ.at {X:Cx} {pins:List (Addr × Obj)} {σ:St} {H:Hp} {s:Shared} {v:V} {u:Value} {p:Int × Str} (I:An X pins σ H s) (r:Az v u) (h:IJ H v p):Dl s.heap u p:=by
 obtain ⟨t,rfl,ht⟩:=h;cases r
 obtain ⟨Aw,rv,pl,hz⟩:=I.tuple (AG.of ht);cases rv with
 | cons a1 b1=>
  cases b1 with
  | cons a2 b2=>
   cases b2
   obtain ⟨t1,rfl⟩:=a1;obtain ⟨t2,rfl⟩:=a2;exact ⟨t,t1,t2,rfl,pl⟩
theorem Rz.at {X:Cx} {pins:List (Addr × Obj)} {σ:St} {H:Hp} {s:Shared} {v:V} {u:Value} {k:(Int × Str) × Str} (I:An X pins σ H s) (r:Az v u) (h:Rz H v k):Hv s.heap u k:=by
 obtain ⟨t,l,rfl,ht,hp⟩:=h;cases r
 obtain ⟨Aw,rv,pl,hz⟩:=I.tuple (AG.of ht);cases rv with
 | cons a1 b1=>
  cases b1 with
  | cons a2 b2=>
   cases b2
   cases a1
   obtain ⟨t2,rfl⟩:=a2;exact ⟨t,l,t2,rfl,pl,hp.at I (show Az (V.ref l) (Value.ref l) from rfl)⟩
def CW (p q:Int × Str):Prop:=p.1 < q.1\/(p.1=q.1/\¬ q.2.cps.toList < p.2.cps.toList)
theorem CW.refl (p:Int × Str):CW p p:=.inr ⟨rfl,Y2 _⟩
theorem CW.trans {p q r:Int × Str} (h1:CW p q) (h2:CW q r):CW p r:=by
 rcases h1 with a | ⟨a,b⟩ <;> rcases h2 with c | ⟨c,d⟩
 ·exact .inl (by lia)
 ·exact .inl (by lia)
 ·exact .inl (by lia)
 ·exact .inr ⟨by lia,XO.mpr (Z3 (XO.mp b) (XO.mp d))⟩
theorem CW.add {d d' l:Int} {s s':Str} (h:CW (d,s) (d',s')):CW (d + l,s) (d' + l,s'):=by
 rcases h with a | ⟨a,b⟩
 ·have a':d < d':=a;exact .inl (show d + l < d' + l by lia)
 ·have a':d=d':=a;exact .inr ⟨show d + l=d' + l by lia,b⟩
theorem CW.up {d d':Int} {s:Str} (h:d<=d'):CW (d,s) (d',s):=by
 by_cases e:d=d'
 ·exact .inr ⟨e,Y2 _⟩
 ·exact .inl (show d < d' by lia)
theorem CW.fst {p q:Int × Str} (h:CW p q):p.1<=q.1:=by
 rcases h with a | ⟨a,_⟩ <;> lia
theorem LU {p q:Int × Str} (h:PD p q=true):CW p q:=by
 unfold PD at h;by_cases e:(p.1 == q.1)=true
 ·have e':p.1=q.1:=by simpa using e
  rw [if_pos e] at h;by_cases e2:(p.2 == q.2)=true
  ·rw [if_pos e2] at h; cases h
  ·rw [if_neg e2] at h;exact .inr ⟨e',YC (by simpa using h)⟩
 ·rw [if_neg e] at h;exact .inl (by simpa using h)
theorem LV {p q:Int × Str} (h:PD p q=false):CW q p:=by
 unfold PD at h;by_cases e:(p.1 == q.1)=true
 ·have e':p.1=q.1:=by simpa using e
  rw [if_pos e] at h;by_cases e2:(p.2 == q.2)=true
  ·have Tn:p.2=q.2:=by simpa using e2
   exact .inr ⟨e'.symm,by rw [Tn]; exact Y2 _⟩
  ·rw [if_neg e2] at h;exact .inr ⟨e'.symm,by simpa using h⟩
 ·rw [if_neg e] at h;have e':¬ p.1=q.1:=by simpa using e
  have:¬ p.1 < q.1:=by simpa using h
  exact .inl (by lia)
theorem Q3 {p q:(Int × Str) × Str} (h:Rn p q=true):CW p.1 q.1:=by
 unfold Rn at h;by_cases e:decide (p.1=q.1)=true
 ·have:p.1=q.1:=by simpa using e
  rw [this]; exact CW.refl _
 ·rw [if_neg e] at h;exact LU h
theorem Q4 {p q:(Int × Str) × Str} (h:Rn p q=false):CW q.1 p.1:=by
 unfold Rn at h;by_cases e:decide (p.1=q.1)=true
 ·have:p.1=q.1:=by simpa using e
  rw [this]; exact CW.refl _
 ·rw [if_neg e] at h;exact LV h
theorem FU (bt:Nat->Nat->Bool) (num:Nat->Int × Str) (h1:∀ i j,bt i j=true->CW (num i) (num j)) (h2:∀ i j,bt i j=false->CW (num j) (num i)):∀ k,argBest bt k<=k/\∀ j,j<=k->CW (num (argBest bt k)) (num j)
 | 0=>⟨Wq _,fun j hj=>by
  have:j=0:=by lia
  subst this; exact CW.refl _⟩
 | k + 1=>by
  obtain ⟨a1,a2⟩:=FU bt num h1 h2 k;simp only [argBest];cases hc:bt (k + 1) (argBest bt k) with
  | true=>
   simp only [if_true];refine ⟨Wq _,fun j hj=>?_⟩;by_cases Dv:j<=k
   ·exact (h1 _ _ hc).trans (a2 j Dv)
   ·have:j=k + 1:=by lia
    subst this; exact CW.refl _
  | false=>
   simp only [WB,if_false];refine ⟨XX a1,fun j hj=>?_⟩;by_cases Dv:j<=k
   ·exact a2 j Dv
   ·have:j=k + 1:=by lia
    subst this; exact h2 _ _ hc
theorem Hr {X:Cx} (hc:X.calm=true) (hu:X.A.units + 64 < cLine):B0 X (.builtin "min") (fun xs H Q=>∃ (a:Addr) (vs:List V) (ks:List ((Int × Str) × Str)),xs=[.ref a]/\H a=some (.lst vs)/\vs.length=ks.length/\ks ≠ []/\(∀ (i:Nat) v k,vs[i]? = some v->ks[i]? = some k->Rz H v k) /\
  ∀ v k,k ∈ ks->Rz H v k->(∀ k' ∈ ks,CW k.1 k'.1)->Q v H):=by
 intro pins s σ H xs us Q I r h;obtain ⟨a,vs,ks,rfl,ha,hl,hne,hk,q⟩:=h;obtain ⟨u,rfl,ru⟩:=Ci r;cases ru
 obtain ⟨Aw,rv,pl,hz⟩:=I.list (AD.of ha);have il:Aw.length=ks.length:=by rw [<-rv.length,hl]
 have pos:0 < ks.length:=Xz.mpr hne;have kat:∀ (i:Nat) (v:Value),Aw[i]? = some v->∃ k,ks[i]? = some k/\Hv s.heap v k/\∃ x,vs[i]? = some x/\Az x v:=fun i v e=>by
  have hi:i < Aw.length:=(Wt.mp e).1;have e1:vs[i]? = some vs[i]:=Wk (by lia);have e2:ks[i]? = some ks[i]:=Wk (by lia);obtain ⟨v',e3,r3⟩:=rv.get e1;rw [e] at e3;cases e3
  exact ⟨_,e2,(hk i _ _ e1 e2).at I r3,_,e1,r3⟩
 refine Ik (bt:=fun i j=>Rn (ks.getD i default) (ks.getD j default)) (I.ok.hd hc) pl.isList (by lia) (fun i j vi vj s' Q' E' g hi hj hQ=>?_) fun v h2 tk hv k2=>?_
 ·obtain ⟨ki,e1,a1,_⟩:=kat i vi hi;obtain ⟨kj,e2,a2,_⟩:=kat j vj hj;have d1:ks.getD i default=ki:=by rw [Wv,e1]; rfl
  have d2:ks.getD j default=kj:=by rw [Wv,e2]; rfl
  dsimp only at hQ;rw [d1,d2] at hQ;exact Sa (a1.keep g) (a2.keep g) (by rw [PySem.Around.in1_units]; lia) _ _ _ _ hQ
 ·obtain ⟨k,e1,a1,x,e3,r3⟩:=kat _ v hv;obtain ⟨b1,b2⟩:=FU (fun i j=>Rn (ks.getD i default) (ks.getD j default)) (fun i=>(ks.getD i default).1) (fun _ _=>Q3) (fun _ _=>Q4) (Aw.length - 1);refine ⟨x,H,I.kept k2,r3,q x k (Wo e1) (hk _ x k e3 e1) fun k' PH=>?_⟩;obtain ⟨j,hj,ej⟩:=W2 PH;have:=b2 j (by lia);have d1:ks.getD (argBest (fun i j=>Rn (ks.getD i default) (ks.getD j default)) (Aw.length - 1)) default=k:=by rw [Wv,e1]; rfl
  have d2:ks.getD j default=k':=by rw [Wv,Wk hj,ej]; rfl
  rw [d1,d2] at this;exact this
theorem HJ {X:Cx} (hc:X.calm=true) (hu:X.A.units + 64 < cLine):B0 X (.builtin "min") (fun xs H Q=>∃ (x y:V) (p q:Int × Str),xs=[x,y]/\IJ H x p/\IJ H y q/\((CW q p->Q y H)/\(CW p q->Q x H))):=by
 intro pins s σ H xs us Q I r h;obtain ⟨x,y,p,q,rfl,hx,hy,q1,q2⟩:=h;obtain ⟨u,v,rfl,ru,rv⟩:=Lp r;have pu:=hx.at I ru;have pv:=hy.at I rv;refine O7 (bt:=fun i j=>PD ([p,q].getD i default) ([p,q].getD j default)) (I.ok.hd hc) (fun i j vi vj s' Q' E' g hi hj hQ=>?_) fun z h2 tk hz k2=>?_
 ·have at':∀ (i:Nat) (vi:Value),[u,v][i]? = some vi->Dl s.heap vi ([p,q].getD i default):=fun i vi e=>by
   match i,e with
   | 0,e=>cases e; exact pu
   | 1,e=>cases e; exact pv
   | i + 2,e=>cases e
  exact LS ((at' i vi hi).keep g) ((at' j vj hj).keep g) (by rw [PySem.Around.in1_units]; lia) _ _ _ _ hQ
 ·have e:argBest (fun i j=>PD ([p,q].getD i default) ([p,q].getD j default)) 1=if PD q p=true then 1 else 0:=rfl
  rw [e] at hz;cases hl:PD q p with
  | true=>
   rw [hl,if_pos rfl] at hz;cases hz
   exact ⟨y,H,I.kept k2,rv,q1 (LU hl)⟩
  | false=>
   rw [hl,if_neg W8] at hz;cases hz
   exact ⟨x,H,I.kept k2,ru,q2 (LV hl)⟩
def BV (ws:List A5) (x y:Str) (l:Int):Prop:=∃ u ∈ ws,((u.1=x/\u.2.1=y)\/(u.1=y/\u.2.1=x))/\u.2.2=l
theorem BV.adj {ws:List A5} {x y:Str} {l:Int} (h:BV ws x y l):J4 ws x y:=let ⟨u,hu,e,_⟩:=h; ⟨u,hu,e⟩
theorem BV.symm {ws:List A5} {x y:Str} {l:Int} (h:BV ws x y l):BV ws y x l:=let ⟨u,hu,e,z⟩:=h; ⟨u,hu,e.symm,z⟩
inductive Bo (ws:List A5):Str->Str->Int->Prop
 | nil (x:Str):Bo ws x x 0
 | cons {x y z:Str} {l m:Int}:BV ws x y l->Bo ws y z m->Bo ws x z (l + m)
theorem Bo.app {ws:List A5} {x y z:Str} {m n:Int} (h:Bo ws x y m) (g:Bo ws y z n):Bo ws x z (m + n):=by
 induction h with
 | nil x=>rw [YG]; exact g
 | cons e _ ih=>rw [YV]; exact .cons e (ih g)
theorem Bo.snoc {ws:List A5} {x y z:Str} {m l:Int} (h:Bo ws x y m) (e:BV ws y z l):Bo ws x z (m + l):=by
 have:=h.app (.cons e (.nil z));rwa [Zb] at this
theorem Bo.symm {ws:List A5} {x y:Str} {m:Int} (h:Bo ws x y m):Bo ws y x m:=by
 induction h with
 | nil x=>exact .nil x
 | @cons x y z l m e _ ih=>rw [Int.add_comm]; exact ih.snoc e.symm
theorem Bo.pos {ws:List A5} (hp:∀ u ∈ ws,1<=u.2.2) {x y:Str} {m:Int} (h:Bo ws x y m):0<=m:=by
 induction h with
 | nil x=>exact Xk _
 | cons e _ ih=>
  obtain ⟨u,hu,_,rfl⟩:=e;have:=hp u hu;lia
def Lk (ws:List A5) (ss:List Str) (y:Str) (p:Int × Str):Prop:=(p.2 ∈ ss/\Bo ws p.2 y p.1)/\∀ s ∈ ss,∀ m,Bo ws s y m->CW p (m,s)
structure Rc (ws:List A5) (ss:List Str) (S R:Str->Int × Str->Prop):Prop where
 near:∀ y p,S y p->Lk ws ss y p
 reach:∀ y p,R y p->p.2 ∈ ss/\Bo ws p.2 y p.1
 relax:∀ x p y l,S x p->BV ws x y l->(∃ q,S y q)\/∃ q,R y q/\CW q (p.1 + l,p.2)
 start:∀ s ∈ ss,(∃ q,S s q)\/∃ q,R s q/\CW q (0,s)
theorem Rc.out {ws:List A5} {ss:List Str} {S R:Str->Int × Str->Prop} (h:Rc ws ss S R) (hp:∀ u ∈ ws,1<=u.2.2) {x z:Str} {m:Int} (g:Bo ws x z m) (hz:∀ q,¬ S z q):∀ p,S x p->∃ y q,R y q/\CW q (p.1 + m,p.2):=by
 induction g with
 | nil x=>intro p hp'; exact absurd hp' (hz p)
 | @cons x y z l m e g ih=>
  intro p hx;rcases h.relax x p y l hx e with ⟨q,hq⟩ | ⟨q,hq,le⟩
  ·obtain ⟨y',q',h1,h2⟩:=ih hz q hq;refine ⟨y',q',h1,h2.trans ?_⟩;have n1:=(h.near y q hq).2 p.2 (h.near x p hx).1.1 (p.1 + l) ((h.near x p hx).1.2.snoc e);have:=n1.add (l:=m);rw [YV] at this;exact this
  ·exact ⟨y,q,hq,le.trans (CW.up (by have:=g.pos hp; lia))⟩
theorem Rc.pick {ws:List A5} {ss:List Str} {S R:Str->Int × Str->Prop} (h:Rc ws ss S R) (hp:∀ u ∈ ws,1<=u.2.2) {y:Str} {p:Int × Str} (hy:R y p) (ny:∀ q,¬ S y q) (least:∀ z q,R z q->CW p q):Lk ws ss y p:=by
 refine ⟨h.reach y p hy,fun s hs m g=>?_⟩;rcases h.start s hs with ⟨q,hq⟩ | ⟨q,hq,le⟩
 ·obtain ⟨z,q',h1,h2⟩:=h.out hp g ny q hq;refine (least z q' h1).trans (h2.trans ?_);have n1:=(h.near s q hq).2 s hs 0 (.nil s);have:=(show CW (q.1,q.2) (0,s) from n1).add (l:=m);rw [YG] at this;exact this
 ·exact (least s q hq).trans (le.trans (CW.up (g.pos hp)))
theorem Rc.done {ws:List A5} {ss:List Str} {S R:Str->Int × Str->Prop} (h:Rc ws ss S R) (hR:∀ y p,¬ R y p) {r:Str} (hss:ss ≠ []) {ps:List Str} (con:∀ T:Str->Prop,T r->(∀ x y,J4 ws x y->T x->T y)->∀ x ∈ ps,T x)
  (Wc:∀ T:Str->Prop,∀ x ∈ ps,T x->(∀ x y,J4 ws x y->T x->T y)->T r) (sub:∀ s ∈ ss,s ∈ ps):∀ x ∈ ps,∃ q,S x q:=by
 have cl:∀ x y,J4 ws x y->(∃ q,S x q)->∃ q,S y q:=fun x y ⟨u,hu,e⟩ ⟨q,hq⟩=>by
  rcases h.relax x q y u.2.2 hq ⟨u,hu,e,rfl⟩ with z | ⟨q',V5,_⟩
  ·exact z
  ·exact absurd V5 (hR _ _)
 obtain ⟨s,hs⟩:=List.exists_mem_of_ne_nil ss hss;have s0:∃ q,S s q:=by
  rcases h.start s hs with z | ⟨q,hq,_⟩
  ·exact z
  ·exact absurd hq (hR _ _)
 exact con (fun x=>∃ q,S x q) (Wc (fun x=>∃ q,S x q) s (sub s hs) s0 cl) cl
theorem IZ {a b:List (Str × V)} (h:sK a=sK b):a=b:=by
 unfold sK at h;exact Zn (fun x y z=>by
  simp only [Prod.mk.injEq,Sum.inr.injEq] at z;exact Prod.ext z.1 z.2) |>.mp h
theorem Gi {nv Dr:List (Str × V)} {y:Str} {v:V} (e:BK (sK nv) (Sum.inr y:AV) v=sK Dr):∀ z x,(z,x) ∈ Dr ↔ (z=y/\x=v)\/(z ≠ y/\(z,x) ∈ nv):=by
 intro z x;by_cases h:y ∈ nv.map (·.1)
 ·have e2:BK (sK nv) (Sum.inr y:AV) v=sK (nv.map fun q=>if q.1=y then (q.1,v) else q):=by
   unfold BK;have:((sK nv).any fun kv=>decide (kv.1=(Sum.inr y:AV)))=true:=by rw [Cm,G6,decide_eq_true h]
   rw [if_pos this];unfold sK;rw [Xp,Xp];refine Yj fun q _=>?_
   by_cases e:q.1=y
   ·simp [e]
   ·have e':¬ (Sum.inr q.1:AV)=Sum.inr y:=fun z=>e (Sum.inr.inj z)
    simp [e,e']
  rw [e2] at e;rw [<-IZ e,W4];constructor
  ·rintro ⟨q,hq,e⟩;by_cases eq:q.1=y
   ·rw [if_pos eq] at e;have e1:q.1=z:=congrArg Prod.fst e;have e3:v=x:=congrArg Prod.snd e;exact .inl ⟨by rw [<-e1,eq],e3.symm⟩
   ·rw [if_neg eq] at e;refine .inr ⟨?_,by rw [<-e]; exact hq⟩;rw [show z=q.1 from (congrArg Prod.fst e).symm]; exact eq
  ·rintro (⟨rfl,rfl⟩ | ⟨h1,h2⟩)
   ·obtain ⟨q,hq,e1⟩:=W4.mp h;have OZ:q.1=z:=e1;exact ⟨q,hq,by rw [if_pos OZ,OZ]⟩
   ·exact ⟨(z,x),h2,by rw [if_neg h1]⟩
 ·rw [Df h] at e;rw [<-IZ e,W9];constructor
  ·rintro (h1 | h1)
   ·refine .inr ⟨?_,h1⟩;rintro rfl;exact h (W4.mpr ⟨_,h1,rfl⟩)
   ·simp only [Wz,Prod.mk.injEq] at h1;exact .inl h1
  ·rintro (⟨rfl,rfl⟩ | ⟨_,h2⟩)
   ·exact .inr (by simp)
   ·exact .inl h2
theorem Ql (nv:List (Str × V)) (y:Str):Hl (sK nv) (Sum.inr y:AV)=sK (nv.filter fun q=>decide (q.1 ≠ y)):=by
 unfold Hl sK;rw [List.filter_map];congr 1;refine List.filter_congr fun q _=>?_
 by_cases e:q.1=y
 ·simp [e]
 ·have e':¬ (Sum.inr q.1:AV)=Sum.inr y:=fun z=>e (Sum.inr.inj z)
  simp [e,e']
def PV (H:Hp) (ps:List Str) (ds:List Addr) (Ed:Str->Str->Int->Prop):Prop:=∀ (i:Nat) (p:Str) (d:Addr) (nv:List (Str × V)),ps[i]? = some p->ds[i]? = some d->Rd H d (.dK (sK nv))->∀ y v,(y,v) ∈ nv->∃ l,v=.int l/\Ed p y l
theorem Rd.inj {H:Hp} {d:Addr} {a b:List (Str × V)} (h:Rd H d (.dK (sK a))) (g:Rd H d (.dK (sK b))):a=b:=by
 rcases h with h | ⟨o,h⟩ <;> rcases g with g | ⟨o',g⟩ <;> have e:=WA.inj (h.symm.trans g)
 ·injection e with e; exact IZ e
 ·exact nomatch e
 ·exact nomatch e
 ·injection e with _ e;injection e with e; exact IZ e
theorem PV.put {H:Hp} {ps:List Str} {ds:List Addr} {Ed Ed':Str->Str->Int->Prop} (h:PV H ps ds Ed) (hn:ps.Nodup) (dn:ds.Nodup) {i:Nat} {p y:Str} {d:Addr} {l:Int} (e1:ps[i]? = some p) (e2:ds[i]? = some d) {nv Dr:List (Str × V)} (hd:H d=some (.dK (sK nv)))
  (ep:BK (sK nv) (Sum.inr y:AV) (.int l)=sK Dr) (mono:∀ a b m,Ed a b m->Ed' a b m) (new:Ed' p y l):PV (upd H d (.dK (sK Dr))) ps ds Ed':=by
 intro j q c nw f1 f2 hr z v hz;by_cases hc:c=d
 ·subst hc;have ij:i=j:=FP dn e2 f2;subst ij;rw [e1] at f1; cases f1;have:nw=Dr:=Rd.inj hr (.inl Ab);subst this;rcases (Gi ep z v).mp hz with ⟨rfl,rfl⟩ | ⟨_,Gb⟩
  ·exact ⟨l,rfl,new⟩
  ·obtain ⟨l',e,ed⟩:=h i _ c nv e1 e2 (.inl hd) z v Gb;exact ⟨l',e,mono _ _ _ ed⟩
 ·have OO:Rd H c (.dK (sK nw)):=by
   rcases hr with g | ⟨o,g⟩
   ·exact .inl (by rw [Ae hc] at g; exact g)
   ·exact .inr ⟨o,by rw [Ae hc] at g; exact g⟩
  obtain ⟨l',e,ed⟩:=h j q c nw f1 f2 OO z v hz;exact ⟨l',e,mono _ _ _ ed⟩
def NT (K:Wm):Sp:=fun vs H Q _=>∃ (q:Addr) (ps:List Str) (ws:List A5) (r:Str),vs=[.ref q]/\Hu H q ps ws r /\
 ∀ (H':Hp) (B:Addr) (ds:List Addr),Au H H'->NB H' B ps ds (J4 ws) 128->PV H' ps ds (BV ws)->H B=none->(∀ d ∈ ds,H d=none)->Q (.ref B) H'
theorem PI.or {X:Cx} {tg l:Expr} {w1 w2:TI} (h1:PI X tg l w1) (h2:PI X tg l w2):PI X tg l (fun σ H R=>w1 σ H R\/w2 σ H R):=by
 intro pins s σ H R I h;rcases h with h | h
 ·exact h1 (pins:=pins) s σ H R I h
 ·exact h2 (pins:=pins) s σ H R I h
def Li (H:Hp) (nv:List (Str × V)) (S:Str->Int × Str->Prop):Prop:=(nv.map (·.1)).Nodup/\(∀ y v,(y,v) ∈ nv->∃ p,IJ H v p/\S y p)/\∀ y p,S y p->∃ v,(y,v) ∈ nv/\IJ H v p
def NS (K:Wm):Sp:=fun vs H Q _=>∃ (q st:Addr) (ps ss:List Str) (ws:List A5) (r:Str),vs=[.ref q,.ref st]/\Hu H q ps ws r/\(∀ u ∈ ws,1<=u.2.2)/\(∀ x y l l',BV ws x y l->BV ws x y l'->l=l')/\(H st=some (.lst (ss.map V.str))\/H st=some (.tup (ss.map V.str)))/\ss ≠ []/\ss.Nodup/\(∀ s ∈ ss,s ∈ ps) /\
 ∀ (H':Hp) (B:Addr) (nv:List (Str × V)),Au H H'->H B=none->H' B=some (.dK (sK nv))->(nv.map (·.1)).Nodup->(∀ x,x ∈ nv.map (·.1) ↔ x ∈ ps)->(∀ y v,(y,v) ∈ nv->∃ p,IJ H' v p/\Lk ws ss y p)->Q (.ref B) H'
theorem Ia {nv:List (Str × V)} {y:Str} {v:V} (h:Bn (sK nv) (Sum.inr y:AV)=some v):(y,v) ∈ nv:=by
 unfold Bn at h;cases e:(sK nv).find? (fun kv=>decide (kv.1=(Sum.inr y:AV))) with
 | none=>rw [e] at h; cases h
 | some kv=>
  rw [e] at h;have h1:=List.find?_some e;have h2:=List.mem_of_find?_eq_some e;obtain ⟨q,hq,rfl⟩:=W4.mp h2;have e1:q.1=y:=by
   have:(Sum.inr q.1:AV)=Sum.inr y:=by simpa using h1
   exact Sum.inr.inj this
  have e2:q.2=v:=WA.inj h;rw [<-e1,<-e2];exact hq
theorem Na {ws:List A5} {i:Nat} {a b:Str} {m:Int} (h:BV (ws.take i) a b m):BV (ws.take (i + 1)) a b m:=by
 obtain ⟨u,hu,e⟩:=h;rw [W5];exact ⟨u,WN _ hu,e⟩
theorem Kd {ws:List A5} {i:Nat} {u:A5} (h:ws[i]? = some u):BV (ws.take (i + 1)) u.1 u.2.1 u.2.2:=by
 rw [W5,h];exact ⟨u,Wx _ (by simp),.inl ⟨rfl,rfl⟩,rfl⟩
theorem IJ.fn {H:Hp} {v:V} {p q:Int × Str} (h:IJ H v p) (g:IJ H v q):p=q:=by
 obtain ⟨t,rfl,e⟩:=h;obtain ⟨t',e',g⟩:=g;have:t=t':=by injection e'
 subst this;have z:=WA.inj (e.symm.trans g);injection z with z;simp only [Ya.injEq,V.int.injEq,V.str.injEq] at z;exact Prod.ext z.1 z.2.1
theorem NR.same {H H':Hp} {B:Addr} {ps:List Str} {ds:List Addr} {P:Str->Str->Prop} (h:NR H B ps ds P) (s:Au H H'):NR H' B ps ds P:=
 ⟨s _ _ h.top,h.len,h.nd,h.nB,fun i p d e1 e2=>let ⟨nv,a1,a3⟩:=h.inner i p d e1 e2
  ⟨nv,(by rcases a1 with a | ⟨o,a⟩; exact .inl (s _ _ a); exact .inr ⟨o,s _ _ a⟩),a3⟩⟩
theorem PV.of {H H':Hp} {B:Addr} {ps:List Str} {ds:List Addr} {P:Str->Str->Prop} {Ed:Str->Str->Int->Prop} (h:PV H ps ds Ed) (nr:NR H B ps ds P) (k:∀ d ∈ ds,∀ nv:List (Str × V),Rd H d (.dK (sK nv))->Rd H' d (.dK (sK nv))):PV H' ps ds Ed:=by
 intro i p d nv e1 e2 hr y v hy;obtain ⟨nw,a1,_⟩:=nr.inner i p d e1 e2;have:=Rd.inj hr (k d (Wo e2) nw a1);subst this;exact h i p d nv e1 e2 a1 y v hy
theorem Li.same {H H':Hp} {nv:List (Str × V)} {S:Str->Int × Str->Prop} (h:Li H nv S) (s:∀ b xs,H b=some (.tup xs)->H' b=some (.tup xs)):Li H' nv S:=
 ⟨h.1,fun y v hv=>let ⟨p,a,b⟩:=h.2.1 y v hv; ⟨p,a.same s,b⟩,fun y p hp=>let ⟨v,a,b⟩:=h.2.2 y p hp; ⟨v,a,b.same s⟩⟩
theorem Li.fn {H:Hp} {nv:List (Str × V)} {S:Str->Int × Str->Prop} (h:Li H nv S) {y:Str} {p q:Int × Str} (hp:S y p) (hq:S y q):p=q:=by
 obtain ⟨v,a,b⟩:=h.2.2 y p hp;obtain ⟨w,c,d⟩:=h.2.2 y q hq;have:=ND h.1 a c;subst this;exact b.fn d
theorem Li.put {H:Hp} {nv Dr:List (Str × V)} {S:Str->Int × Str->Prop} {y:Str} {v:V} {p:Int × Str} (h:Li H nv S) (e:BK (sK nv) (Sum.inr y:AV) v=sK Dr) (hv:IJ H v p):Li H Dr (fun z q=>(z=y/\q=p)\/(z ≠ y/\S z q)):=by
 refine ⟨Qk e h.1,fun z x hz=>?_,fun z q hq=>?_⟩
 ·rcases (Gi e z x).mp hz with ⟨rfl,rfl⟩ | ⟨n,Gb⟩
  ·exact ⟨p,hv,.inl ⟨rfl,rfl⟩⟩
  ·obtain ⟨q,a,b⟩:=h.2.1 z x Gb;exact ⟨q,a,.inr ⟨n,b⟩⟩
 ·rcases hq with ⟨rfl,rfl⟩ | ⟨n,hq⟩
  ·exact ⟨v,(Gi e _ _).mpr (.inl ⟨rfl,rfl⟩),hv⟩
  ·obtain ⟨x,a,b⟩:=h.2.2 z q hq;exact ⟨x,(Gi e _ _).mpr (.inr ⟨n,a⟩),b⟩
theorem Li.drop {H:Hp} {nv:List (Str × V)} {S:Str->Int × Str->Prop} (h:Li H nv S) (y:Str):Li H (nv.filter fun q=>decide (q.1 ≠ y)) (fun z q=>z ≠ y/\S z q):=by
 refine ⟨F8 h.1 _,fun z x hz=>?_,fun z q hq=>?_⟩
 ·obtain ⟨a,b⟩:=Xf.mp hz;obtain ⟨q,c,d⟩:=h.2.1 z x a;exact ⟨q,c,by simpa using b,d⟩
 ·obtain ⟨n,hq⟩:=hq;obtain ⟨x,a,b⟩:=h.2.2 z q hq;exact ⟨x,Xf.mpr ⟨a,by simpa using n⟩,b⟩
structure NI (H H2:Hp) (ps:List Str) (ws:List A5) (B RA SA:Addr) (ds:List Addr) (nvR nvS:List (Str × V)) (S R:Str->Int × Str->Prop):Prop where
 same:Au H H2
 nr:NR H2 B ps ds (J4 ws)
 nbv:PV H2 ps ds (BV ws)
 dR:H2 RA=some (.dK (sK nvR))
 dS:H2 SA=some (.dK (sK nvS))
 pR:Li H2 nvR R
 pS:Li H2 nvS S
 subR:∀ y ∈ nvR.map (·.1),y ∈ ps
 subS:∀ y ∈ nvS.map (·.1),y ∈ ps
section
variable {H H2 H3:Hp} {ps:List Str} {ws:List A5} {B RA SA:Addr} {ds:List Addr} {nvR nvS:List (Str × V)} {S R:Str->Int × Str->Prop}
theorem NI.grow (h:NI H H2 ps ws B RA SA ds nvR nvS S R) (s:Au H2 H3):NI H H3 ps ws B RA SA ds nvR nvS S R:=
 ⟨h.same.trans s,h.nr.same s,h.nbv.of h.nr fun d _ nv z=>by rcases z with a | ⟨o,a⟩; exact .inl (s _ _ a); exact .inr ⟨o,s _ _ a⟩,s _ _ h.dR,s _ _ h.dS,h.pR.same fun b xs z=>s _ _ z,h.pS.same fun b xs z=>s _ _ z,h.subR,h.subS⟩
theorem NI.lenS (h:NI H H2 ps ws B RA SA ds nvR nvS S R):nvS.length<=ps.length:=by
 have:=Cb h.pS.1 h.subS;rwa [Wj] at this
theorem NI.lenR (h:NI H H2 ps ws B RA SA ds nvR nvS S R):nvR.length<=ps.length:=by
 have:=Cb h.pR.1 h.subR;rwa [Wj] at this
theorem NI.inS (h:NI H H2 ps ws B RA SA ds nvR nvS S R) {y:Str}:y ∈ nvS.map (·.1) ↔ ∃ q,S y q:=by
 constructor
 ·intro hy;obtain ⟨⟨z,v⟩,a,b⟩:=W4.mp hy;have b':z=y:=b;subst b';obtain ⟨p,_,c⟩:=h.pS.2.1 z v a;exact ⟨p,c⟩
 ·rintro ⟨q,hq⟩;obtain ⟨v,a,_⟩:=h.pS.2.2 y q hq;exact W4.mpr ⟨_,a,rfl⟩
theorem NI.inR (h:NI H H2 ps ws B RA SA ds nvR nvS S R) {y:Str}:y ∈ nvR.map (·.1) ↔ ∃ q,R y q:=by
 constructor
 ·intro hy;obtain ⟨⟨z,v⟩,a,b⟩:=W4.mp hy;have b':z=y:=b;subst b';obtain ⟨p,_,c⟩:=h.pR.2.1 z v a;exact ⟨p,c⟩
 ·rintro ⟨q,hq⟩;obtain ⟨v,a,_⟩:=h.pR.2.2 y q hq;exact W4.mpr ⟨_,a,rfl⟩
theorem NI.setR (h:NI H H2 ps ws B RA SA ds nvR nvS S R) (aR:RA ∉ ds/\RA ≠ B/\RA ≠ SA/\H RA=none) {Dr:List (Str × V)} {R':Str->Int × Str->Prop} (p':Li H2 Dr R') (sub:∀ y ∈ Dr.map (·.1),y ∈ ps):NI H (upd H2 RA (.dK (sK Dr))) ps ws B RA SA ds Dr nvS S R':=by
 have tu:∀ b xs,H2 b=some (.tup xs)->(upd H2 RA (.dK (sK Dr))) b=some (.tup xs):=fun b xs z=>by
  rw [Ae (Br z h.dR (by intro z; cases z))]; exact z
 exact ⟨fun b o z=>by rw [Ae (Ah z aR.2.2.2)]; exact h.same _ _ z,h.nr.other aR.1 aR.2.1,h.nbv.of h.nr fun d hd nv z=>z.ne (fun e=>aR.1 (by rw [<-e]; exact hd)),Ab,by rw [Ae (Ne.symm aR.2.2.1)]; exact h.dS,p'.same tu,h.pS.same tu,sub,h.subS⟩
theorem NI.setS (h:NI H H2 ps ws B RA SA ds nvR nvS S R) (aS:SA ∉ ds/\SA ≠ B/\SA ≠ RA/\H SA=none) {Dr:List (Str × V)} {S':Str->Int × Str->Prop} (p':Li H2 Dr S') (sub:∀ y ∈ Dr.map (·.1),y ∈ ps):NI H (upd H2 SA (.dK (sK Dr))) ps ws B RA SA ds nvR Dr S' R:=by
 have tu:∀ b xs,H2 b=some (.tup xs)->(upd H2 SA (.dK (sK Dr))) b=some (.tup xs):=fun b xs z=>by
  rw [Ae (Br z h.dS (by intro z; cases z))]; exact z
 exact ⟨fun b o z=>by rw [Ae (Ah z aS.2.2.2)]; exact h.same _ _ z,h.nr.other aS.1 aS.2.1,h.nbv.of h.nr fun d hd nv z=>z.ne (fun e=>aS.1 (by rw [<-e]; exact hd)),by rw [Ae (Ne.symm aS.2.2.1)]; exact h.dR,Ab,h.pR.same tu,p'.same tu,h.subR,sub⟩
theorem NI.frz (h:NI H H2 ps ws B RA SA ds nvR nvS S R) (aR:RA ∉ ds) (aS:SA ∉ ds) (fr:∀ d ∈ ds,H d=none) {i:Nat} {p:Str} {d:Addr} (e1:ps[i]? = some p) (e2:ds[i]? = some d) {nv:List (Str × V)} {o:Obj} (f:DE H2 d (sK nv) o H3) (hP:∀ y,y ∈ nv.map (·.1) ↔ J4 ws p y):NI H H3 ps ws B RA SA ds nvR nvS S R:=by
 have dm:d ∈ ds:=Wo e2;have tu:∀ b xs,H2 b=some (.tup xs)->H3 b=some (.tup xs):=fun b xs z=>by
  rw [f.ne (by
   rintro rfl;rcases f with ⟨g,_⟩ | ⟨g,_⟩ <;> (rw [z] at g; cases g))]
  exact z
 refine ⟨fun b u z=>by rw [f.ne (Ah z (fr d dm))]; exact h.same _ _ z,h.nr.freeze e1 e2 f hP,h.nbv.of h.nr fun c hc nw z=>?_,by rw [f.ne (fun z=>aR (by rw [z]; exact dm))]; exact h.dR,by rw [f.ne (fun z=>aS (by rw [z]; exact dm))]; exact h.dS,h.pR.same tu,h.pS.same tu,h.subR,h.subS⟩;by_cases hcd:c=d
 ·subst hcd;rcases f with ⟨g,e⟩ | ⟨g,e⟩
  ·have:=Rd.inj z (.inl g);subst this;exact .inr ⟨o,by rw [e]; exact Ab⟩
  ·rw [e]; exact z
 ·exact z.fz f hcd
end
section
variable {prog:Program} {w:World} {A:Around} {R:Result->Shared->Prop} {g0:Heap} {D it l:Addr} {vs:List Value} {ps:List (Str × V)}
end
section
variable {prog:Program} {w:World} {A:Around} {E:Value->Shared->Prop} {s:Shared}
end
theorem NY:∀ {ws:List A5},(ws.Pairwise fun u v=>¬ Dz u v)->∀ {u v:A5},u ∈ ws->v ∈ ws->Dz u v->u=v
 | [],_,u,v,hu,_,_=>nomatch hu
 | a :: ws,h,u,v,hu,hv,al=>by
  obtain ⟨h1,h2⟩:=Yn.mp h;rcases Wn.mp hu with e1 | UH
  ·rcases Wn.mp hv with e2 | Vz
   ·rw [e1,e2]
   ·exact absurd (by rw [<-e1]; exact al) (h1 v Vz)
  ·rcases Wn.mp hv with e2 | Vz
   ·refine absurd ?_ (h1 u UH);rw [<-e2];rcases al with ⟨a1,a2⟩ | ⟨a1,a2⟩
    ·exact .inl ⟨a1.symm,a2.symm⟩
    ·exact .inr ⟨a2.symm,a1.symm⟩
   ·exact NY h2 UH Vz al
theorem MZ {ws:List A5} (h:ws.Pairwise fun u v=>¬ Dz u v) {x y:Str} {l l':Int} (e:BV ws x y l) (e':BV ws x y l'):l=l':=by
 obtain ⟨u,hu,a,rfl⟩:=e;obtain ⟨v,hv,b,rfl⟩:=e';have:u=v:=NY h hu hv (by
  rcases a with ⟨a1,a2⟩ | ⟨a1,a2⟩ <;> rcases b with ⟨b1,b2⟩ | ⟨b1,b2⟩
  ·exact .inl ⟨a1.trans b1.symm,a2.trans b2.symm⟩
  ·exact .inr ⟨a1.trans b2.symm,a2.trans b1.symm⟩
  ·exact .inr ⟨a1.trans b2.symm,a2.trans b1.symm⟩
  ·exact .inl ⟨a1.trans b1.symm,a2.trans b2.symm⟩)
 rw [this]
theorem Iz {ws N1:List A5} (p:N1.Perm (ws.map DW)) (x y:Str) (l:Int):BV N1 x y l ↔ BV ws x y l:=by
 constructor
 ·rintro ⟨u,hu,h,e⟩;obtain ⟨v,hv,rfl⟩:=W4.mp (p.mem_iff.mp hu);refine ⟨v,hv,?_,e⟩;rcases Ds v with ⟨e1,e2⟩ | ⟨e1,e2⟩
  ·rw [e1,e2] at h; exact h
  ·rw [e1,e2] at h;rcases h with ⟨a,b⟩ | ⟨a,b⟩
   ·exact .inr ⟨b,a⟩
   ·exact .inl ⟨b,a⟩
 ·rintro ⟨v,hv,h,e⟩;refine ⟨DW v,p.mem_iff.mpr (W4.mpr ⟨v,hv,rfl⟩),?_,e⟩;rcases Ds v with ⟨e1,e2⟩ | ⟨e1,e2⟩
  ·rw [e1,e2]; exact h
  ·rw [e1,e2];rcases h with ⟨a,b⟩ | ⟨a,b⟩
   ·exact .inr ⟨b,a⟩
   ·exact .inl ⟨b,a⟩
theorem Nz {ws N1:List A5} (h:∀ x y l,BV N1 x y l ↔ BV ws x y l) {x y:Str} {m:Int}:Bo N1 x y m ↔ Bo ws x y m:=by
 constructor
 ·intro g;induction g with
  | nil x=>exact .nil x
  | cons e _ ih=>exact .cons ((h _ _ _).mp e) ih
 ·intro g;induction g with
  | nil x=>exact .nil x
  | cons e _ ih=>exact .cons ((h _ _ _).mpr e) ih
def Jy (ws:List A5) (x y:Str) (n:Int):Prop:=Bo ws x y n/\∀ m,Bo ws x y m->n<=m
theorem Lk.dst {ws:List A5} {x y:Str} {p:Int × Str} (h:Lk ws [x] y p):p.2=x/\Jy ws x y p.1:=by
 have e:p.2=x:=by simpa using h.1.1
 refine ⟨e,by rw [<-e]; exact h.1.2,fun m g=>(h.2 x (by simp) m g).fst⟩
theorem Jy.uniq {ws:List A5} {x y:Str} {n m:Int} (h:Jy ws x y n) (g:Jy ws x y m):n=m:=Int.le_antisymm (h.2 m g.1) (g.2 n h.1)
theorem Jy.symm {ws:List A5} {x y:Str} {n:Int} (h:Jy ws x y n):Jy ws y x n:=⟨h.1.symm,fun m g=>h.2 m g.symm⟩
inductive WI (ws:List A5) (I:Str->Prop):Str->Str->Int->Prop
 | edge {x y:Str} {l:Int}:BV ws x y l->WI ws I x y l
 | cons {x y z:Str} {l m:Int}:BV ws x y l->I y->WI ws I y z m->WI ws I x z (l + m)
theorem WI.pos {ws:List A5} (hp:∀ u ∈ ws,1<=u.2.2) {I:Str->Prop} {x y:Str} {m:Int} (h:WI ws I x y m):0<=m:=by
 induction h with
 | edge e=>obtain ⟨u,hu,_,rfl⟩:=e; have:=hp u hu; lia
 | cons e _ _ ih=>obtain ⟨u,hu,_,rfl⟩:=e; have:=hp u hu; lia
theorem WI.ends {ws:List A5} {xs:List Str} (he:∀ u ∈ ws,u.1 ∈ xs/\u.2.1 ∈ xs) {x y:Str} {l:Int} (e:BV ws x y l):x ∈ xs/\y ∈ xs:=by
 obtain ⟨u,hu,h,_⟩:=e;obtain ⟨a,b⟩:=he u hu;rcases h with ⟨rfl,rfl⟩ | ⟨rfl,rfl⟩
 ·exact ⟨a,b⟩
 ·exact ⟨b,a⟩
theorem WI.split {ws:List A5} (hp:∀ u ∈ ws,1<=u.2.2) {I J:Str->Prop} {k:Str} (hJ:∀ z,J z->I z\/z=k) {x y:Str} {m:Int} (h:WI ws J x y m):WI ws I x y m\/∃ m1 m2,WI ws I x k m1/\WI ws I k y m2/\m1 + m2<=m:=by
 induction h with
 | edge e=>exact .inl (.edge e)
 | @cons x a y l m e ha g ih=>
  by_cases hk:a=k
  ·subst hk;rcases ih with h | ⟨m1,m2,h1,h2,h3⟩
   ·exact .inr ⟨l,m,.edge e,h,Xk _⟩
   ·have:=h1.pos hp;exact .inr ⟨l,m2,.edge e,h2,by lia⟩
  ·have hI:I a:=(hJ a ha).resolve_right hk;rcases ih with h | ⟨m1,m2,h1,h2,h3⟩
   ·exact .inl (.cons e hI h)
   ·exact .inr ⟨l + m1,m2,.cons e hI h1,h2,by lia⟩
theorem Bo.wi {ws:List A5} {xs:List Str} (he:∀ u ∈ ws,u.1 ∈ xs/\u.2.1 ∈ xs) {x y:Str} {m:Int} (h:Bo ws x y m):(x=y/\m=0)\/WI ws (· ∈ xs) x y m:=by
 induction h with
 | nil x=>exact .inl ⟨rfl,rfl⟩
 | @cons x a y l m e g ih=>
  rcases ih with ⟨rfl,rfl⟩ | h
  ·exact .inr (by rw [Zb]; exact .edge e)
  ·exact .inr (.cons e (WI.ends he e).2 h)
structure FW (ws:List A5) (xs:List Str) (t:Nat) (M:Str->Str->Option Int):Prop where
 sound:∀ x y n,M x y=some n->Bo ws x y n
 comp:∀ x y m,WI ws (· ∈ xs.take t) x y m->∃ n,M x y=some n/\n<=m
 diag:∀ x ∈ xs,∃ n,M x x=some n/\n<=0
def Fx (M0 M:Str->Str->Option Int):Prop:=∀ x y n,M0 x y=some n->∃ n',M x y=some n'/\n'<=n
theorem Fx.refl (M:Str->Str->Option Int):Fx M M:=fun _ _ n h=>⟨n,h,Xk _⟩
theorem Fx.trans {M0 M1 M2:Str->Str->Option Int} (h:Fx M0 M1) (g:Fx M1 M2):Fx M0 M2:=fun x y n e=>by
 obtain ⟨n1,e1,l1⟩:=h x y n e;obtain ⟨n2,e2,l2⟩:=g x y n1 e1;exact ⟨n2,e2,by lia⟩
theorem FW.next {ws:List A5} (hp:∀ u ∈ ws,1<=u.2.2) {xs:List Str} (he:∀ u ∈ ws,u.1 ∈ xs/\u.2.1 ∈ xs) {t:Nat} {k:Str} (hk:xs[t]? = some k) {M0 M:Str->Str->Option Int} (h:FW ws xs t M0) (mo:Fx M0 M) (so:∀ x y n,M x y=some n->Bo ws x y n)
  (via:∀ x ∈ xs,∀ y ∈ xs,∀ n1 n2,M0 x k=some n1->M0 k y=some n2->∃ n,M x y=some n/\n<=n1 + n2):FW ws xs (t + 1) M:=by
 refine ⟨so,fun x y m g=>?_,fun x hx=>?_⟩
 ·have ex:x ∈ xs/\y ∈ xs:=by
   clear mo so via h;induction g with
   | edge e=>exact WI.ends he e
   | cons e _ _ ih=>exact ⟨(WI.ends he e).1,ih.2⟩
  rcases g.split hp (I:=(· ∈ xs.take t)) (k:=k) (fun z hz=>by
   rw [W5,hk] at hz;rcases W9.mp hz with hz | hz
   ·exact .inl hz
   ·exact .inr (by simpa using hz)) with g | ⟨m1,m2,g1,g2,le⟩
  ·obtain ⟨n,e,l⟩:=h.comp x y m g;obtain ⟨n',e',l'⟩:=mo x y n e;exact ⟨n',e',by lia⟩
  ·obtain ⟨n1,e1,l1⟩:=h.comp x k m1 g1;obtain ⟨n2,e2,l2⟩:=h.comp k y m2 g2;obtain ⟨n,e,l⟩:=via x ex.1 y ex.2 n1 n2 e1 e2;exact ⟨n,e,by lia⟩
 ·obtain ⟨n,e,l⟩:=h.diag x hx;obtain ⟨n',e',l'⟩:=mo x x n e;exact ⟨n',e',by lia⟩
def MD (H:Hp) (A:Addr) (M:Str->Str->Option Int) (c:Nat):Prop:=∃ kvs:List (List AV × V),H A=some (.dT kvs)/\kvs.length<=c/\∀ x y,Bn kvs [Sum.inr x,Sum.inr y]=(M x y).map V.int
theorem MD.same {H H':Hp} {A:Addr} {M:Str->Str->Option Int} {c:Nat} (h:MD H A M c) (s:Au H H'):MD H' A M c:=let ⟨kvs,a,b,d⟩:=h; ⟨kvs,s _ _ a,b,d⟩
theorem MD.get {H:Hp} {A t:Addr} {M:Str->Str->Option Int} {c:Nat} (h:MD H A M c) {x y:Str} (ht:H t=some (.tup [.str x,.str y])):BX H A (.ref t) ((M x y).map V.int):=by
 obtain ⟨kvs,a,_,d⟩:=h;rw [<-d x y];exact BX.t (k:=[Sum.inr x,Sum.inr y]) a ht
def IU (M:Str->Str->Option Int) (x y:Str) (n:Int):Str->Str->Option Int:=fun a b=>if a=x/\b=y then some n else M a b
def NV (K:Wm):Sp:=fun vs H Q _=>∃ (q:Addr) (ps:List Str) (ws:List A5) (r x:Str),vs=[.ref q,.str x]/\Hu H q ps ws r/\(∀ u ∈ ws,1<=u.2.2)/\(∀ x y l l',BV ws x y l->BV ws x y l'->l=l')/\x ∈ ps /\
 ∀ (H':Hp) (B:Addr) (nv:List (Str × V)),Au H H'->H B=none->H' B=some (.dK (sK nv))->nv.map (·.1)=ps->(∀ y v,(y,v) ∈ nv->∃ n,v=.int n/\Jy ws x y n)->Q (.ref B) H'
end L2
namespace L2
open PySem PySem.Spec PySem.W PyProof.Rows
theorem FV (f:Nat->Int):∀ k,argBest (fun i j=>decide (f i > f j)) k<=k/\∀ j,j<=k->f j<=f (argBest (fun i j=>decide (f i > f j)) k)
 | 0=>⟨Wq _,fun j hj=>by
  have:j=0:=by lia
  subst this;exact Xk _⟩
 | k + 1=>by
  obtain ⟨h1,h2⟩:=FV f k;simp only [argBest];by_cases hc:f (k + 1) > f (argBest (fun i j=>decide (f i > f j)) k)
  ·rw [if_pos (by simpa using hc)];refine ⟨Wq _,fun j hj=>?_⟩;by_cases Dv:j<=k
   ·have:=h2 j Dv;lia
   ·have:j=k + 1:=by lia
    subst this;exact Xk _
  ·rw [if_neg (by simpa using hc)];refine ⟨XX h1,fun j hj=>?_⟩;by_cases Dv:j<=k
   ·exact h2 j Dv
   ·have:j=k + 1:=by lia
    subst this;lia
theorem DA:∀ {ns:List Int} {us:List Value},A7 (ns.map V.int) us->∀ (i:Nat) (v:Value),us[i]? = some v->∃ n t,ns[i]? = some n/\v=Value.int n t
 | [],_,.nil,i,v,e=>by simp at e
 | n :: ns,_,.cons r1 r2,0,v,e=>by
  obtain ⟨t,rfl⟩:=r1;simp only [X2,WA.injEq] at e;exact ⟨n,t,rfl,e.symm⟩
 | n :: ns,_,.cons r1 r2,i + 1,v,e=>by simpa using DA r2 i v (by simpa using e)
theorem Pk {prog:Program} {w:World} {A:Around} {us:List Value} {ns:List Int} (rv:A7 (ns.map V.int) us):CmpOf prog w A .Gt (fun i v=>us.toArray[i]? = some v) (fun i j=>decide (ns.getD i 0 > ns.getD j 0)):=by
 intro i j vi vj s Q E hi hj hQ;obtain ⟨x,t,e1,rfl⟩:=DA rv i vi (by simpa using hi);obtain ⟨y,u,e2,rfl⟩:=DA rv j vj (by simpa using hj);dsimp only at hQ;rw [Wv,Wv,e1,e2] at hQ;exact PyProof.Rows.gt_int hQ
theorem HK {X:Cx} (hc:X.calm=true):B0 X (.builtin "max") (fun xs H Q=>∃ (a:Addr) (ns:List Int),xs=[.ref a]/\AD X.K H a (ns.map V.int)/\ns ≠ [] /\
  ∀ m,m ∈ ns->(∀ x ∈ ns,x<=m)->Q (.int m) H):=by
 intro pins s σ H xs us Q I r h;obtain ⟨a,ns,rfl,ha,hne,q⟩:=h;obtain ⟨u,rfl,ru⟩:=Ci r;cases ru
 obtain ⟨Aw,rv,pl,hz⟩:=I.list ha;have hl:Aw.length=ns.length:=by rw [<-rv.length,Wj]
 have hpos:0 < ns.length:=Xz.mpr hne;refine call_max_walk (wpAny_pyIter_list pl.isList ?_);have hai:a < s.heap.objs.size:=by obtain ⟨o,ho,_⟩:=pl.isList; exact Wr ho
 refine ⟨_,[s.heap.objs.size,a],[s.heap.objs.size],_,_,_,_,rfl,Walks.list (A:=X.A.in1) (I.ok.hd hc) _ a (W6 hai) Aw.toArray,⟨⟨_,W0 _ rfl,rfl,rfl⟩,pl.isList.push _⟩,fun c hc=>?_,by simpa [hl] using hpos,Pk rv,fun v h' tk hP hk=>?_⟩
 ·show c < (s.heap.push _).objs.size
  rw [WY];rcases Wn.mp hc with rfl | hc
  ·exact WM _
  ·rcases Wn.mp hc with rfl | hc
   ·exact WK hai
   ·cases hc
 ·have hold:∀ c o,s.heap.get? c=some o->h'.get? c=some o:=fun c o e=>by
   refine hk c o (fun hm=>?_) (Wl _ e);rcases Wn.mp hm with e1 | hm
   ·have:=Wr e; rw [e1] at this; exact WT _ this
   ·cases hm
  have hP':Aw[argBest (fun i j=>decide (ns.getD i 0 > ns.getD j 0)) (Aw.toArray.size - 1)]? = some v:=by rw [<-List.getElem?_toArray]; exact hP
  obtain ⟨x,t,e1,rfl⟩:=DA rv _ v hP';obtain ⟨b1,b2⟩:=FV (fun i=>ns.getD i 0) (Aw.toArray.size - 1);refine ⟨.int x,H,I.kept hold,⟨t,rfl⟩,q x (Wo e1) fun y hy=>?_⟩;obtain ⟨j,hj,rfl⟩:=W2 hy;have:=b2 j (by simp only [WC]; lia);have e2:ns.getD j 0=ns[j]:=by simp [hj]
  have e3:ns.getD (argBest (fun i j=>decide (ns.getD i 0 > ns.getD j 0)) (Aw.toArray.size - 1)) 0=x:=by
   rw [Wv,e1]; rfl
  rw [e2,e3] at this;exact this
end L2
namespace L2
open PySem PySem.Spec PyProof.Rows
theorem DI {α:Type}:∀ {ys:List α} {k:Nat} {y:α},ys[k]? = some y->(y :: ys.eraseIdx k).Perm ys
 | [],k,y,e=>by simp at e
 | x :: ys,0,y,e=>by
  simp at e;subst e;exact List.Perm.refl _
 | x :: ys,k + 1,y,e=>by
  simp at e;exact (List.Perm.swap x y _).trans ((DI e).cons x)
theorem Io {α β:Type} (f:α->β):∀ (ys:List α) (k:Nat),(ys.map f).eraseIdx k=(ys.eraseIdx k).map f
 | [],k=>by simp
 | x :: ys,0=>rfl
 | x :: ys,k + 1=>by
  show f x :: (ys.map f).eraseIdx k=f x :: (ys.eraseIdx k).map f
  rw [Io f ys k]
theorem JB:∀ {ss:List Str} {us:List Value},A7 (ss.map V.str) us->StrsAre us ss
 | [],_,.nil=>.nil
 | _ :: _,_,.cons r q=>by
  obtain ⟨t,rfl⟩:=r;exact .cons _ t (JB q)
theorem Q0 {X:Cx}:MtM X "str.join" (fun x vs H Q=>∃ (z:Str) (a:Addr) (ss:List Str),x=.str z/\vs=[.ref a]/\H a=some (.lst (ss.map V.str))/\z.length<=16/\(ss.map (·.length)).sum + ss.length<=1048576/\Q (.str (Txt.join z ss)) H):=by
 intro pins s σ H x vs v us Q I rx rv h;obtain ⟨z,a,ss,rfl,rfl,hH,hz,hw,q⟩:=h;obtain ⟨t,rfl⟩:=rx;obtain ⟨u,rfl,ru⟩:=rv.one;cases ru
 obtain ⟨_,Aw,n,r,_,e⟩:=I.lstM hH;refine join_listW (ys:=ss) ⟨_,e,rfl,n,rfl⟩ (by rw [List.toList_toArray]; exact JB r) hz hw fun t' k=>?_
 exact ⟨.str (Txt.join z ss),H,I.tok k,⟨t',rfl⟩,q⟩
theorem JW (ss:List Str):(Txt.join (Str.ofString "") ss).cps.toList=(ss.map fun s=>s.cps.toList).flatten:=by
 unfold Txt.join;rw [PySem.StrLaws.glued_eq_join];induction ss with
 | nil=>rfl
 | cons x r ih=>
  cases r with
  | nil=>
   show x.cps.toList=_
   simp
  | cons y r=>
   have e:Str.join (Str.ofString "") (x :: y :: r)=x ++ Str.ofString "" ++ Str.join (Str.ofString "") (y :: r):=rfl;rw [e,WG,Zq,<-ih];show ((x.cps ++ #[]) ++ (Str.join (Str.ofString "") (y :: r)).cps).toList=_
   simp
theorem OK {ss:List Str} (h:∀ s ∈ ss,s.length=1/\QY s):QY (Txt.join (Str.ofString "") ss)/\(Txt.join (Str.ofString "") ss).length=ss.length/\(ss.map (·.length)).sum=ss.length:=by
 have e:∀ l:List Str,(∀ s ∈ l,s.length=1/\QY s)->((l.map fun s=>s.cps.toList).flatten).length=l.length/\(l.map (·.length)).sum=l.length:=by
  intro l;induction l with
  | nil=>intro _; exact ⟨rfl,rfl⟩
  | cons x r ih=>
   intro h;obtain ⟨i1,i2⟩:=ih fun s hs=>h s (WH _ hs)
   have hx:x.cps.size=1:=(h x (W7 ..)).1;constructor
   ·rw [WG,Zq,Ww,i1,WL,hx,WO];lia
   ·rw [WG,List.sum_cons,i2,WO];show x.cps.size + r.length=r.length + 1
    lia
 refine ⟨fun c hc=>?_,?_,(e ss h).2⟩
 ·rw [JW] at hc;obtain ⟨l,hl,hcl⟩:=List.mem_flatten.mp hc;obtain ⟨s,hs,rfl⟩:=W4.mp hl;exact (h s hs).2 c hcl
 ·show (Txt.join (Str.ofString "") ss).cps.size=_
  rw [<-WL,JW];exact (e ss h).1
theorem JP {xs:List Str} {hd:List Nat} {f:Nat->List Nat} (h:∀ i x,xs[i]? = some x->∃ tl,x.cps.toList=hd ++ (f i ++ tl)) (hf:∀ i j,i < j->j < xs.length->∀ tl RC,f i ++ tl ≠ f j ++ RC):xs.Nodup:=by
 refine XD.mpr fun i j hi hj hij e=>?_
 obtain ⟨tl,h1⟩:=h i _ (Wk hi);obtain ⟨RC,h2⟩:=h j _ (Wk hj);rw [e,h2] at h1;exact hf i j hij hj tl RC (List.append_cancel_left h1).symm
def M8 (n:Nat) (st sp:Int) (k:Nat):List Nat:=if 26 < n then [97 + ((st + sp * k) % 26).toNat,97 + k / 26] else [97 + ((st + sp * k) % 26).toNat]
theorem RU {n:Nat} {st sp:Int} (hn:n<=52) (hs:sp ∈ ([1,3,5,7,9,11,15,17]:List Int)) {i j:Nat} (hij:i < j) (hj:j < n) (tl RC:List Nat):M8 n st sp i ++ tl ≠ M8 n st sp j ++ RC:=by
 have key:((st + sp * i) % 26).toNat=((st + sp * j) % 26).toNat->(j - i) % 26=0:=by
  intro e;have e2:(st + sp * i) % 26=(st + sp * j) % 26:=by
   have a1:=Xv (st + sp * i) (show (26:Int) ≠ 0 by decide);have a2:=Xv (st + sp * j) (show (26:Int) ≠ 0 by decide);lia
  have g:Int.gcd 26 sp=1:=by
   simp only [Wn,Wu,or_false] at hs;rcases hs with rfl | rfl | rfl | rfl | rfl | rfl | rfl | rfl <;> rfl
  have d:(26:Int) ∣ sp * ((j:Int) - i):=by
   refine Int.dvd_of_emod_eq_zero ?_;have e3:sp * ((j:Int) - i)=(st + sp * j) - (st + sp * i):=by rw [Int.mul_sub]; lia
   rw [e3,Int.sub_emod,e2,Int.sub_self];rfl
  have d2:(26:Int) ∣ (j:Int) - i:=by
   rw [Int.mul_comm] at d;have e4:Nat.gcd 26 sp.natAbs=1:=g;have e5:(26:Nat) ∣ ((j:Int) - i).natAbs * sp.natAbs:=by rw [<-Int.natAbs_mul]; exact Zj.mpr d
   exact Zj.mp (Nat.Coprime.dvd_of_dvd_mul_right e4 e5)
  lia
 intro e;unfold M8 at e;by_cases h:26 < n
 ·rw [if_pos h,if_pos h] at e;simp only [YI,Zw,Ya.injEq] at e;have:=key (by lia);lia
 ·rw [if_neg h,if_neg h] at e;simp only [YI,Zw,Ya.injEq] at e;have:=key (by lia);lia
theorem D9 {i:Int} (h0:0<=i) (h1:i < 26):J1 Fp.cps.toList i=some (97 + i.toNat):=by
 obtain ⟨n,rfl⟩:∃ n:Nat,i=(n:Int):=⟨i.toNat,by lia⟩
 have:∀ m:Fin 26,J1 Fp.cps.toList (m.val:Int)=some (97 + ((m.val:Int)).toNat):=by decide +kernel
 exact this ⟨n,by lia⟩
theorem len1 {α:Type} {l:List α} (h:l.length=1):∃ a,l=[a]:=List.length_eq_one_iff.mp h
theorem lenS {α:Type} {n:Nat} {l:List α} (h:l.length=n + 1):∃ a r,l=a :: r/\r.length=n:=by
 cases l with
 | nil=>cases h
 | cons a r=>exact ⟨a,r,rfl,ZC.inj h⟩
theorem len2 {α:Type} {l:List α} (h:l.length=2):∃ a b,l=[a,b]:=by
 obtain ⟨a,r,rfl,hr⟩:=lenS h;obtain ⟨b,rfl⟩:=len1 hr;exact ⟨a,b,rfl⟩
theorem len3 {α:Type} {l:List α} (h:l.length=3):∃ a b c,l=[a,b,c]:=by
 obtain ⟨a,r,rfl,hr⟩:=lenS h;obtain ⟨b,c,rfl⟩:=len2 hr;exact ⟨a,b,c,rfl⟩
section
variable {K:Type} [DecidableEq K] [BEq K] [LawfulBEq K]
end
section
variable {prog:Program} {w:World} {A:Around} {R:Result->Shared->Prop} {I:Addr} {fp wr:List Addr} {G:Array GenState->Array GenState->Prop} {n:Nat} {P:Nat->Value->Prop} {St:Nat->Shared->Prop}
variable {K:Type} [DecidableEq K] [BEq K] [LawfulBEq K] {knd:KeyKind prog w K}
end
section
variable {prog:Program} {w:World} {A:Around} {E:Value->Shared->Prop} {s:Shared}
variable {K:Type} [DecidableEq K] [BEq K] [LawfulBEq K] {knd:KeyKind prog w K}
end
theorem Es {X:Cx} (hg:X.A.guards=some []) (hu:X.A.units + 64 < cLine):B0 X (.builtin "repr") (fun xs H Q=>∃ (a:Addr) (d:PyData),xs=[.ref a]/\J3 H (.ref a) d/\d.showable=true/\d.hasDict=false/\d.depth<=60/\d.shown.length<=sizeLine/\Q (.str d.shown) H):=by
 intro pins s σ H xs us Q I r h;obtain ⟨a,d,rfl,hd,hs,hn,hdp,hz,q⟩:=h;obtain ⟨u,rfl,ru⟩:=Ci r;obtain ⟨as,rds⟩:=hd.reads I ru;cases ru
 refine repr_of_reads' rds hs (fun z=>by rw [hn] at z; cases z) hg (by lia) (fun _ _ e=>e) (fun h' u tk kk=>?_) hz;exact ⟨.str d.shown,H,I.kept (t':=tk) kk,⟨u,rfl⟩,q⟩
section
variable {prog:Program} {w:World} {A:Around} {E:Value->Shared->Prop} {s:Shared}
end
section
variable {prog:Program} {w:World} {A:Around} {R:Result->Shared->Prop} {I:Addr} {fp wr:List Addr} {G:Array GenState->Array GenState->Prop} {n:Nat} {P:Nat->Value->Prop} {St:Nat->Shared->Prop}
end
section
variable {prog:Program} {w:World} {A:Around} {E:Value->Shared->Prop} {s:Shared}
end
section
variable {prog:Program} {w:World} {A:Around} {E:Value->Shared->Prop} {s:Shared}
end
section
variable {prog:Program} {w:World} {A:Around} {E:Value->Shared->Prop} {s:Shared}
end
section
variable {prog:Program} {w:World} {A:Around} {E:Value->Shared->Prop} {s:Shared}
end
section
variable {prog:Program} {w:World} {A:Around} {E:Value->Shared->Prop} {s:Shared}
end
end L2
namespace L2
open PySem PySem.W PyProof.Rows
section
variable {prog:Program} {w:World} {A:Around} {E:Value->Shared->Prop} {s:Shared} {κ:SortKind} {lt:Keyed->Keyed->Bool} {a0:Array Keyed}
theorem DQ {ρ:Type} {body:Nat->Option ρ × Nat × Nat->StateT SortSt Sem (ForInStep (Option ρ × Nat × Nat))} {n lo hi:Nat} {st:SortSt}
  (hs:∀ x l (R:ForInStep (Option ρ × Nat × Nat)->SortSt->Prop),R (.done (none,l,l)) st->wpS (model prog w) A E s (body x (none,l,l)) R st)
  (hg:∀ x l r (R:ForInStep (Option ρ × Nat × Nat)->SortSt->Prop),l < r->r<=n ->
   (R (.yield (none,l + (r - l) / 2 + 1,r)) st)->(R (.yield (none,l,l + (r - l) / 2)) st)->wpS (model prog w) A E s (body x (none,l,r)) R st)
  (hl:lo<=hi) (hn:hi<=n) :
  wpS (model prog w) A E s (forIn [0:n] (none,lo,hi) body) (fun c Ay=>Ay=st/\∃ r,c=(none,r,r)/\r<=n) st:=by
 refine wpS_forRange (I:=fun x c Ay=>Ay=st/\∃ l r,c=(none,l,r)/\l<=r/\r<=n/\r - l<=n - x) ?_ ?_ ⟨rfl,lo,hi,rfl,hl,hn,by lia⟩
 ·rintro x c Ay _ hx ⟨rfl,l,r,rfl,q1,q2,q3⟩;by_cases hlr:l < r
  ·exact hg _ _ _ _ hlr q2 ⟨rfl,_,r,rfl,by lia,by lia,by lia⟩ ⟨rfl,l,_,rfl,by lia,by lia,by lia⟩
  ·have:l=r:=by lia
   subst this;exact hs _ _ _ ⟨rfl,l,rfl,q2⟩
 ·rintro c Ay ⟨rfl,l,r,rfl,q1,q2,q3⟩;have:l=r:=by lia
  subst this;exact ⟨rfl,l,rfl,q2⟩
theorem Cg {left:Bool} {key:Keyed} {arr:Array Keyed} {base n hint:Nat} {Q:Option Nat->SortSt->Prop} {st:SortSt} (an:Ln prog w A s κ lt a0) (hk:kindOf st=κ)
  (hkey:key ∈ a0) (harr:∀ i,i < n->Bm arr (base + i) ∈ a0) (hb:base + n<=arr.size) (hh:hint < n)
  (h:∀ k,k<=n->Q (some k) st) :
  wpS (model prog w) A E s (QH left key arr base n hint) Q st:=by
 have ha:∀ i (R:Option Bool->SortSt->Prop),i < n->R (some (Ru lt left key (Bm arr (base + i)))) st->wpS (model prog w) A E s (SG left key arr base i) R st:=
  fun i R hi hr=>N4 an hk hkey (harr i hi) (by lia) hr
 refine wpS_bind (ha hint _ hh ?_);dsimp only;cases e:Ru lt left key (Bm arr (base + hint))
 ·simp only [WB,if_false];refine wpS_bind (wpS_mono (wpS_forRange (I:=fun x c Ay=>Ay=st/\∃ l o,c=(none,l,o)/\l<=hint/\l < o/\x + 1<=o)
   (Q:=fun c Ay=>Ay=st/\∃ l o,c=(none,l,o)/\l<=hint/\l < o) ?_ ?_ ⟨rfl,0,1,rfl,by lia,by lia,by lia⟩) ?_)
  ·rintro x c Ay _ hx ⟨rfl,l,o,rfl,q1,q2,q3⟩;dsimp only;by_cases ho:o >= hint + 1
   ·rw [if_pos ho];exact wpS_pure ⟨rfl,l,o,rfl,q1,q2⟩
   ·rw [if_neg ho];refine wpS_bind (ha _ _ (by lia) ?_);cases e2:Ru lt left key (Bm arr (base + (hint - o)))
    ·simp only [WB,if_false];exact wpS_pure ⟨rfl,o,_,rfl,by lia,by lia,by lia⟩
    ·simp only [if_true];exact wpS_pure ⟨rfl,l,o,rfl,q1,q2⟩
  ·rintro c Ay ⟨rfl,l,o,rfl,q1,q2,q3⟩;exact ⟨rfl,l,o,rfl,q1,q2⟩
  ·rintro c Ay ⟨rfl,l,o,rfl,q1,q2⟩;dsimp only;refine wpS_bind (wpS_mono (DQ (n:=n) ?_ ?_ ?_ ?_) ?_)
   ·intro x l R hR;dsimp only;rw [if_pos (Wq _)];exact wpS_pure hR
   ·intro x l r R hlr hrn y1 y2;dsimp only;rw [if_neg (by lia)];refine wpS_bind (ha _ _ (by lia) ?_);cases e3:Ru lt left key (Bm arr (base + (l + (r - l) / 2)))
    ·exact wpS_pure y2
    ·exact wpS_pure y1
   ·lia
   ·lia
   ·rintro c Dm ⟨rfl,r,rfl,z1⟩;exact wpS_pure (h r z1)
 ·simp only [if_true];refine wpS_bind (wpS_mono (wpS_forRange (I:=fun x c Ay=>Ay=st/\∃ l o,c=(none,l,o)/\hint + l < n/\l < o/\x + 1<=o)
   (Q:=fun c Ay=>Ay=st/\∃ l o,c=(none,l,o)/\hint + l < n/\l < o) ?_ ?_ ⟨rfl,0,1,rfl,by lia,by lia,by lia⟩) ?_)
  ·rintro x c Ay _ hx ⟨rfl,l,o,rfl,q1,q2,q3⟩;dsimp only;by_cases ho:o >= n - hint
   ·rw [if_pos ho];exact wpS_pure ⟨rfl,l,o,rfl,q1,q2⟩
   ·rw [if_neg ho];refine wpS_bind (ha _ _ (by lia) ?_);cases e2:Ru lt left key (Bm arr (base + (hint + o)))
    ·simp only [Bool.not_false,if_true];exact wpS_pure ⟨rfl,l,o,rfl,q1,q2⟩
    ·simp only [Yr,WB,if_false];exact wpS_pure ⟨rfl,o,_,rfl,by lia,by lia,by lia⟩
  ·rintro c Ay ⟨rfl,l,o,rfl,q1,q2,q3⟩;exact ⟨rfl,l,o,rfl,q1,q2⟩
  ·rintro c Ay ⟨rfl,l,o,rfl,q1,q2⟩;dsimp only;refine wpS_bind (wpS_mono (DQ (n:=n) ?_ ?_ ?_ ?_) ?_)
   ·intro x l R hR;dsimp only;rw [if_pos (Wq _)];exact wpS_pure hR
   ·intro x l r R hlr hrn y1 y2;dsimp only;rw [if_neg (by lia)];refine wpS_bind (ha _ _ (by lia) ?_);cases e3:Ru lt left key (Bm arr (base + (l + (r - l) / 2)))
    ·exact wpS_pure y2
    ·exact wpS_pure y1
   ·lia
   ·lia
   ·rintro c Dm ⟨rfl,r,rfl,z1⟩;exact wpS_pure (h r z1)
structure Rx (a b out:Array Keyed) (ia ib:Nat):Prop where
 ml:(out.toList ++ (a.toList.drop ia ++ b.toList.drop ib)).Perm (a.toList ++ b.toList)
 ha:ia + 1 < a.size
 hb:ib < b.size
 sz:out.size=ia + ib
theorem G9 {all out l ra rb:List Keyed} (h:(out ++ ((l ++ ra) ++ rb)).Perm all):((out ++ l) ++ (ra ++ rb)).Perm all:=by
 refine List.Perm.trans ?_ h;simp
theorem Jd {all out ra rb:List Keyed} (h:(out ++ (ra ++ rb)).Perm all):(out ++ (rb ++ ra)).Perm all:=List.Perm.trans (List.Perm.append_left _ Zc) h
theorem G8 {all out l ra rb:List Keyed} (h:(out ++ (ra ++ (l ++ rb))).Perm all):((out ++ l) ++ (ra ++ rb)).Perm all:=Jd (G9 (Jd h))
theorem Je {all out ra rb:List Keyed} (h:((ra ++ rb) ++ out).Perm all):((rb ++ ra) ++ out).Perm all:=List.Perm.trans (List.Perm.append_right _ Zc) h
theorem GA {all out l ra rb:List Keyed} (h:((ra ++ (rb ++ l)) ++ out).Perm all):((ra ++ rb) ++ (l ++ out)).Perm all:=by
 refine List.Perm.trans ?_ h;simp
theorem JK {all out l ra rb:List Keyed} (h:(((ra ++ l) ++ rb) ++ out).Perm all):((ra ++ rb) ++ (l ++ out)).Perm all:=Je (GA (Je h))
theorem IL {a b:Array Keyed} {Q:Array Keyed->SortSt->Prop} {st:SortSt} (an:Ln prog w A s κ lt a0) (hk:kindOf st=κ)
  (ma:∀ i,i < a.size->Bm a i ∈ a0) (mb:∀ i,i < b.size->Bm b i ∈ a0) (na:0 < a.size) (nb:0 < b.size)
  (h:∀ (r:Array Keyed) g,r.toList.Perm (a.toList ++ b.toList)->Q r (Cn st g)):wpS (model prog w) A E s (O9 a b) Q st:=by
 have start:((#[Bm b 0]:Array Keyed).toList ++ (a.toList.drop 0 ++ b.toList.drop 1)).Perm (a.toList ++ b.toList):=by
  have e:b.toList.drop 0=[Bm b 0] ++ b.toList.drop 1:=Hk nb;have m0:([] ++ (a.toList.drop 0 ++ ([Bm b 0] ++ b.toList.drop 1))).Perm (a.toList ++ b.toList):=by
   rw [<-e];exact List.Perm.refl _
  exact G8 m0
 have lastA:∀ (out:Array Keyed) ia ib,(out.toList ++ (a.toList.drop ia ++ b.toList.drop ib)).Perm (a.toList ++ b.toList)->(out ++ b.extract ib ++ a.extract ia).toList.Perm (a.toList ++ b.toList):=by
  intro out ia ib m;rw [WV,WV,En,En,Xw];exact Jd m
 have doneB:∀ (out:Array Keyed) ia ib,(out.toList ++ (a.toList.drop ia ++ b.toList.drop ib)).Perm (a.toList ++ b.toList)->(out ++ a.extract ia ++ b.extract ib).toList.Perm (a.toList ++ b.toList):=by
  intro out ia ib m;rw [WV,WV,En,En,Xw];exact m
 have pushB:∀ (out:Array Keyed) ia ib,(out.toList ++ (a.toList.drop ia ++ b.toList.drop ib)).Perm (a.toList ++ b.toList)->ib < b.size->((out.push (Bm b ib)).toList ++ (a.toList.drop ia ++ b.toList.drop (ib + 1))).Perm (a.toList ++ b.toList):=by
  intro out ia ib m hib;rw [XR];rw [Hk hib] at m;exact G8 (l:=[Bm b ib]) m
 have pushA:∀ (out:Array Keyed) ia ib,(out.toList ++ (a.toList.drop ia ++ b.toList.drop ib)).Perm (a.toList ++ b.toList)->ia < a.size->((out.push (Bm a ia)).toList ++ (a.toList.drop (ia + 1) ++ b.toList.drop ib)).Perm (a.toList ++ b.toList):=by
  intro out ia ib m hia;rw [XR];rw [Hk hia] at m;exact G9 (l:=[Bm a ia]) m
 have partA:∀ (out:Array Keyed) ia ib k,(out.toList ++ (a.toList.drop ia ++ b.toList.drop ib)).Perm (a.toList ++ b.toList)->((out ++ a.extract ia (ia + k)).toList ++ (a.toList.drop (ia + k) ++ b.toList.drop ib)).Perm (a.toList ++ b.toList):=by
  intro out ia ib k m;rw [WV];rw [IA a ia k] at m;exact G9 m
 have partB:∀ (out:Array Keyed) ia ib k,(out.toList ++ (a.toList.drop ia ++ b.toList.drop ib)).Perm (a.toList ++ b.toList)->((out ++ b.extract ib (ib + k)).toList ++ (a.toList.drop ia ++ b.toList.drop (ib + k))).Perm (a.toList ++ b.toList):=by
  intro out ia ib k m;rw [WV];rw [IA b ib k] at m;exact G8 m
 refine wpS_bind (wpS_lift (wpAny_rule ⟨rfl,?_⟩));try dsimp -zeta only
 refine wpS_bind (A2 (i:=0) nb ?_);by_cases h1:b.size=1
 ·rw [if_pos (by simp [h1])];exact wpS_pure (h _ _ (doneB _ 0 1 start))
 rw [if_neg (by simpa using fun e=>h1 e.symm)];by_cases h2:a.size=1
 ·rw [if_pos (by simp [h2])];exact wpS_pure (h _ _ (lastA _ 0 1 start))
 rw [if_neg (by simpa using fun e=>h2 (by lia))];refine wpS_bind (wpS_get ?_);refine wpS_bind (wpS_mono (wpS_forRange (I:=fun x c Ay=>∃ out ia ib g g',c=(none,out,ia,ib,g)/\Ay=Cn st g'/\Rx a b out ia ib/\x + 1<=out.size)
  (Q:=fun c Ay=>∃ (r:Array Keyed) (g':Nat),c.1=some r/\Ay=Cn st g'/\r.toList.Perm (a.toList ++ b.toList)) ?step ?fin ?init) ?post)
 case init=>exact ⟨_,0,1,_,_,rfl,rfl,⟨start,by lia,by lia,rfl⟩,by simp⟩
 case fin=>
  rintro c Ay ⟨out,ia,ib,g,g',rfl,rfl,m,hx⟩;have:=m.ha;have:=m.hb;have:=m.sz;lia
 case post=>
  rintro ⟨c,By⟩ Ay ⟨r,g',e,rfl,m⟩;dsimp only at e;subst e;exact wpS_pure (h _ _ m)
 case step=>
  rintro x c Ay _ hxs ⟨out,ia,ib,g,g',rfl,rfl,m,hx⟩;try dsimp -zeta only
  refine wpS_bind (wpS_mono (wpS_forRange (I:=fun y c Ay=>∃ out ia ib ac bc,c=(none,out,ia,ib,ac,bc)/\Ay=Cn st g'/\Rx a b out ia ib/\x + y + 1<=out.size)
   (Q:=fun c Ay=>Ay=Cn st g'/\((∃ r:Array Keyed,c.1=some r/\r.toList.Perm (a.toList ++ b.toList))\/∃ out ia ib ac bc,c=(none,out,ia,ib,ac,bc)/\Rx a b out ia ib/\x + 2<=out.size)) ?istep ?ifin ?iinit) ?ipost)
  case iinit=>exact ⟨out,ia,ib,0,0,rfl,rfl,m,by lia⟩
  case ifin=>
   rintro c Ay ⟨out,ia,ib,ac,bc,rfl,rfl,m,hx⟩;have:=m.ha;have:=m.hb;have:=m.sz;lia
  case istep=>
   rintro y c Ay _ hy ⟨out,ia,ib,ac,bc,rfl,rfl,m,hx⟩;try dsimp -zeta only
   have hia:=m.ha;have hib:=m.hb;have hsz:=m.sz;refine wpS_bind (A2 hib (wpS_bind (A2 (by first | lia | (dsimp only at *; lia)) ?_)));refine wpS_bind (ES an hk (mb _ hib) (ma _ (by first | lia | (dsimp only at *; lia))) ?_);try dsimp -zeta only
   refine Bp (fun e=>?_) (fun e=>?_)
   ·refine wpS_bind (A2 hib ?_);have m2:=pushB out ia ib m.ml hib;refine Bw (fun q1=>wpS_pure ⟨rfl,.inl ⟨_,rfl,doneB _ _ _ m2⟩⟩) fun q1=>?_
    ·have mm:Rx a b (out.push (Bm b ib)) ia (ib + 1):=⟨m2,hia,by lia,by rw [WZ]; lia⟩
     refine Bp (fun _=>wpS_pure ⟨rfl,.inr ⟨_,_,_,_,_,rfl,mm,by rw [WZ]; lia⟩⟩) (fun _=>wpS_pure ⟨_,_,_,_,_,rfl,rfl,mm,by rw [WZ]; lia⟩)
   ·refine wpS_bind (A2 (by lia) ?_);have m2:=pushA out ia ib m.ml (by lia);refine Bw (fun q1=>wpS_pure ⟨rfl,.inl ⟨_,rfl,lastA _ _ _ m2⟩⟩) fun q1=>?_
    ·have mm:Rx a b (out.push (Bm a ia)) (ia + 1) ib:=⟨m2,by lia,hib,by rw [WZ]; lia⟩
     refine Bp (fun _=>wpS_pure ⟨rfl,.inr ⟨_,_,_,_,_,rfl,mm,by rw [WZ]; lia⟩⟩) (fun _=>wpS_pure ⟨_,_,_,_,_,rfl,rfl,mm,by rw [WZ]; lia⟩)
  case ipost=>
   rintro c Ay ⟨rfl,hc⟩;rcases hc with ⟨r,hc,hm⟩ | ⟨out,ia,ib,ac,bc,rfl,m,Sm⟩
   ·obtain ⟨c,By⟩:=c;dsimp only at hc;subst hc;exact wpS_pure ⟨r,g',rfl,rfl,hm⟩
   ·try dsimp -zeta only
    refine wpS_bind (wpS_lift (wpAny_rule ⟨rfl,?_⟩));refine wpS_bind (wpS_mono (wpS_forRange (I:=fun y c Ay=>∃ out ia ib g ac bc g',c=(none,out,ia,ib,g,ac,bc)/\Ay=Cn st g'/\Rx a b out ia ib/\x + 2<=out.size)
     (Q:=fun c Ay=>∃ g',Ay=Cn st g'/\((∃ r:Array Keyed,c.1=some r/\r.toList.Perm (a.toList ++ b.toList))\/∃ out ia ib g ac bc,c=(none,out,ia,ib,g,ac,bc)/\Rx a b out ia ib/\x + 2<=out.size)) ?jstep ?jfin ?jinit) ?jpost)
    case jinit=>exact ⟨out,ia,ib,_,ac,bc,g',rfl,rfl,m,Sm⟩
    case jfin=>
     rintro c Ay ⟨out,ia,ib,g,ac,bc,g',rfl,rfl,m,hx⟩;exact ⟨g',rfl,.inr ⟨out,ia,ib,g,ac,bc,rfl,m,hx⟩⟩
    case jpost=>
     rintro c Ay ⟨g',rfl,hc⟩;rcases hc with ⟨r,hc,hm⟩ | ⟨out,ia,ib,g,ac,bc,rfl,m,Sm⟩
     ·obtain ⟨c,By⟩:=c;dsimp only at hc;subst hc;exact wpS_pure ⟨r,g',rfl,rfl,hm⟩
     ·try dsimp -zeta only
      exact wpS_bind (wpS_modify (wpS_pure ⟨out,ia,ib,_,_,rfl,rfl,m,Sm⟩))
    case jstep=>
     rintro y c Ay _ hy ⟨out,ia,ib,g,ac,bc,g',rfl,rfl,m,hx⟩;try dsimp -zeta only
     have hia:=m.ha;have hib:=m.hb;have hsz:=m.sz;apply dup1
     case main=>
      intro By;refine Bp (fun gg=>?_) (fun gg=>?_)
      ·generalize g - 1=g2;exact By g2
      ·exact By g
     case leaf=>
      intro g2;refine wpS_bind (wpS_modify ?_);refine wpS_bind (A2 hib ?_);refine wpS_bind (Cg (left:=false) an hk (mb _ hib) (fun i hi=>ma _ (by first | lia | (dsimp only at *; lia))) (by first | lia | (dsimp only at *; lia)) (by first | lia | (dsimp only at *; lia)) fun k k1=>?_);try dsimp -zeta only
      apply QP (fun (Dh:Array Keyed) (Jz:Nat)=>(Dh.toList ++ (a.toList.drop Jz ++ b.toList.drop ib)).Perm (a.toList ++ b.toList)/\Dh.size=Jz + ib/\Jz + 1 < a.size/\x + 2<=Dh.size)
      case main=>
       intro By;refine Bp (fun k0=>?_) (fun k0=>?_)
       ·have m2:=partA out ia ib k m.ml;have z2:(out ++ a.extract ia (ia + k)).size=ia + k + ib:=by
         rw [Yq,X5,hsz];first | lia | (dsimp only at *; lia)
        refine Bw (fun q1=>wpS_pure ⟨_,rfl,.inl ⟨_,rfl,lastA _ _ _ m2⟩⟩) fun q1=>?_
        refine Bw (fun q2=>wpS_pure ⟨_,rfl,.inl ⟨_,rfl,doneB _ _ _ m2⟩⟩) fun q2=>?_
        obtain ⟨Dh,eo⟩:∃ o,o=out ++ a.extract ia (ia + k):=⟨_,rfl⟩
        obtain ⟨Jz,ei⟩:∃ o,o=ia + k:=⟨_,rfl⟩
        rw [<-eo,<-ei] at m2 z2;rw [<-eo,<-ei];exact By Dh Jz ⟨m2,z2,by first | lia | (dsimp only at *; lia),by first | lia | (dsimp only at *; lia)⟩
       ·exact By out ia ⟨m.ml,hsz,hia,hx⟩
      case leaf=>
       rintro Dh Jz ⟨m2,z2,hia2,Vy⟩;refine wpS_bind (A2 hib ?_);have m3:=pushB Dh Jz ib m2 hib;have z3:(Dh.push (Bm b ib)).size=Jz + (ib + 1):=by rw [WZ]; lia
       refine Bw (fun q3=>wpS_pure ⟨_,rfl,.inl ⟨_,rfl,doneB _ _ _ m3⟩⟩) fun q3=>?_
       refine wpS_bind (A2 (by lia) ?_);refine wpS_bind (Cg (left:=true) an hk (ma _ (by lia)) (fun i hi=>mb _ (by lia)) (by lia) (by lia) fun l l1=>?_);try dsimp -zeta only
       apply QP (fun (Dq:Array Keyed) (PF:Nat)=>(Dq.toList ++ (a.toList.drop Jz ++ b.toList.drop PF)).Perm (a.toList ++ b.toList)/\Dq.size=Jz + PF/\PF < b.size/\ib<=PF)
       case main=>
        intro By;refine Bp (fun l0=>?_) (fun l0=>?_)
        ·have m4:=partB _ Jz (ib + 1) l m3;have z4:(Dh.push (Bm b ib) ++ b.extract (ib + 1) (ib + 1 + l)).size=Jz + (ib + 1 + l):=by
          rw [Yq,X5,z3];lia
         refine Bw (fun q1=>wpS_pure ⟨_,rfl,.inl ⟨_,rfl,doneB _ _ _ m4⟩⟩) fun q1=>?_
         obtain ⟨Dq,Ut⟩:∃ o,o=Dh.push (Bm b ib) ++ b.extract (ib + 1) (ib + 1 + l):=⟨_,rfl⟩
         obtain ⟨PF,Uu⟩:∃ o,o=ib + 1 + l:=⟨_,rfl⟩
         rw [<-Ut,<-Uu] at m4 z4;rw [<-Ut,<-Uu];exact By Dq PF ⟨m4,z4,by lia,by lia⟩
        ·exact By _ (ib + 1) ⟨m3,z3,by lia,by lia⟩
       case leaf=>
        rintro Dq PF ⟨m4,z4,V9,le2⟩;refine wpS_bind (A2 (by lia) ?_);have m5:=pushA Dq Jz PF m4 (by lia);have z5:(Dq.push (Bm a Jz)).size=Jz + 1 + PF:=by rw [WZ]; lia
        refine Bw (fun q5=>wpS_pure ⟨_,rfl,.inl ⟨_,rfl,lastA _ _ _ m5⟩⟩) fun q5=>?_
        have mm:Rx a b (Dq.push (Bm a Jz)) (Jz + 1) PF:=⟨m5,by lia,V9,z5⟩
        have TN:x + 2<=(Dq.push (Bm a Jz)).size:=by lia
        refine Bp (fun _=>wpS_pure ⟨_,rfl,.inr ⟨_,_,_,_,_,_,rfl,mm,TN⟩⟩) (fun _=>wpS_pure ⟨_,_,_,_,_,_,_,rfl,rfl,mm,TN⟩)
structure Ry (a b out:Array Keyed) (na nb:Nat):Prop where
 mh:((a.toList.take na ++ b.toList.take nb) ++ out.toList.reverse).Perm (a.toList ++ b.toList)
 ha:0 < na
 hb:1 < nb
 la:na<=a.size
 lb:nb<=b.size
 sz:out.size + (na + nb)=a.size + b.size
theorem IM {a b:Array Keyed} {Q:Array Keyed->SortSt->Prop} {st:SortSt} (an:Ln prog w A s κ lt a0) (hk:kindOf st=κ)
  (ma:∀ i,i < a.size->Bm a i ∈ a0) (mb:∀ i,i < b.size->Bm b i ∈ a0) (pa:0 < a.size) (pb:0 < b.size)
  (h:∀ (r:Array Keyed) g,r.toList.Perm (a.toList ++ b.toList)->Q r (Cn st g)):wpS (model prog w) A E s (OA a b) Q st:=by
 have pushA:∀ (out:Array Keyed) na nb,((a.toList.take na ++ b.toList.take nb) ++ out.toList.reverse).Perm (a.toList ++ b.toList)->0 < na->na<=a.size->((a.toList.take (na - 1) ++ b.toList.take nb) ++ (out.push (Bm a (na - 1))).toList.reverse).Perm (a.toList ++ b.toList):=by
  intro out na nb m h0 h1;rw [XR,Yk];obtain ⟨n,rfl⟩:∃ n,na=n + 1:=⟨na - 1,by lia⟩
  rw [J8 (by lia)] at m;exact JK (l:=[Bm a n]) m
 have pushB:∀ (out:Array Keyed) na nb,((a.toList.take na ++ b.toList.take nb) ++ out.toList.reverse).Perm (a.toList ++ b.toList)->0 < nb->nb<=b.size->((a.toList.take na ++ b.toList.take (nb - 1)) ++ (out.push (Bm b (nb - 1))).toList.reverse).Perm (a.toList ++ b.toList):=by
  intro out na nb m h0 h1;rw [XR,Yk];obtain ⟨n,rfl⟩:∃ n,nb=n + 1:=⟨nb - 1,by lia⟩
  rw [J8 (by lia)] at m;exact GA (l:=[Bm b n]) m
 have partA:∀ (out:Array Keyed) na nb k,((a.toList.take na ++ b.toList.take nb) ++ out.toList.reverse).Perm (a.toList ++ b.toList)->k<=na->((a.toList.take k ++ b.toList.take nb) ++ (out ++ (a.extract k na).reverse).toList.reverse).Perm (a.toList ++ b.toList):=by
  intro out na nb k m h0;rw [WV,Ye,Yk,Zk];rw [Eh h0] at m;exact JK m
 have partB:∀ (out:Array Keyed) na nb k,((a.toList.take na ++ b.toList.take nb) ++ out.toList.reverse).Perm (a.toList ++ b.toList)->k<=nb->((a.toList.take na ++ b.toList.take k) ++ (out ++ (b.extract k nb).reverse).toList.reverse).Perm (a.toList ++ b.toList):=by
  intro out na nb k m h0;rw [WV,Ye,Yk,Zk];rw [Eh h0] at m;exact GA m
 have start:((a.toList.take (a.size - 1) ++ b.toList.take b.size) ++ (#[Bm a (a.size - 1)]:Array Keyed).toList.reverse).Perm (a.toList ++ b.toList):=by
  refine pushA #[] a.size b.size ?_ pa (Wq _);rw [Yw (by simp),Yw (by simp)];simp
 have firstB:∀ (out:Array Keyed) na nb,((a.toList.take na ++ b.toList.take nb) ++ out.toList.reverse).Perm (a.toList ++ b.toList)->(b.extract 0 nb ++ a.extract 0 na ++ out.reverse).toList.Perm (a.toList ++ b.toList):=by
  intro out na nb m;rw [WV,WV,Em,Em,Ye];exact Je m
 have doneA:∀ (out:Array Keyed) na nb,((a.toList.take na ++ b.toList.take nb) ++ out.toList.reverse).Perm (a.toList ++ b.toList)->(a.extract 0 na ++ b.extract 0 nb ++ out.reverse).toList.Perm (a.toList ++ b.toList):=by
  intro out na nb m;rw [WV,WV,Em,Em,Ye];exact m
 refine wpS_bind (wpS_lift (wpAny_rule ⟨rfl,?_⟩));try dsimp -zeta only
 refine wpS_bind (A2 (i:=a.size - 1) (by lia) ?_);by_cases h1:a.size - 1=0
 ·rw [if_pos (by simpa using h1)];exact wpS_pure (h _ _ (doneA _ _ _ start))
 rw [if_neg (by simpa using h1)];by_cases h2:b.size=1
 ·rw [if_pos (by simpa using h2)];exact wpS_pure (h _ _ (firstB _ _ _ start))
 rw [if_neg (by simpa using h2)];refine wpS_bind (wpS_get ?_);refine wpS_bind (wpS_mono (wpS_forRange (I:=fun x c Ay=>∃ na nb out g g',c=(none,na,nb,out,g)/\Ay=Cn st g'/\Ry a b out na nb/\x + 1<=out.size)
  (Q:=fun c Ay=>∃ (r:Array Keyed) (g':Nat),c.1=some r/\Ay=Cn st g'/\r.toList.Perm (a.toList ++ b.toList)) ?step ?fin ?init) ?post)
 case init=>exact ⟨_,_,_,_,_,rfl,rfl,⟨start,by lia,by lia,by lia,by lia,by show 1 + _=_; lia⟩,by simp⟩
 case fin=>
  rintro c Ay ⟨na,nb,out,g,g',rfl,rfl,m,hx⟩;have:=m.ha;have:=m.hb;have:=m.sz;lia
 case post=>
  rintro ⟨c,By⟩ Ay ⟨r,g',e,rfl,m⟩;dsimp only at e;subst e;exact wpS_pure (h _ _ m)
 case step=>
  rintro x c Ay _ hxs ⟨na,nb,out,g,g',rfl,rfl,m,hx⟩;try dsimp -zeta only
  refine wpS_bind (wpS_mono (wpS_forRange (I:=fun y c Ay=>∃ na nb out ac bc,c=(none,na,nb,out,ac,bc)/\Ay=Cn st g'/\Ry a b out na nb/\x + y + 1<=out.size)
   (Q:=fun c Ay=>Ay=Cn st g'/\((∃ r:Array Keyed,c.1=some r/\r.toList.Perm (a.toList ++ b.toList))\/∃ na nb out ac bc,c=(none,na,nb,out,ac,bc)/\Ry a b out na nb/\x + 2<=out.size)) ?istep ?ifin ?iinit) ?ipost)
  case iinit=>exact ⟨na,nb,out,0,0,rfl,rfl,m,by lia⟩
  case ifin=>
   rintro c Ay ⟨na,nb,out,ac,bc,rfl,rfl,m,hx⟩;have:=m.ha;have:=m.hb;have:=m.sz;lia
  case istep=>
   rintro y c Ay _ hy ⟨na,nb,out,ac,bc,rfl,rfl,m,hx⟩;try dsimp -zeta only
   have ha:=m.ha;have hb:=m.hb;have la:=m.la;have lb:=m.lb;have hsz:=m.sz;refine wpS_bind (A2 (by first | lia | (dsimp only at *; lia)) (wpS_bind (A2 (by first | lia | (dsimp only at *; lia)) ?_)));refine wpS_bind (ES an hk (mb _ (by first | lia | (dsimp only at *; lia))) (ma _ (by first | lia | (dsimp only at *; lia))) ?_);try dsimp -zeta only
   refine Bp (fun e=>?_) (fun e=>?_)
   ·refine wpS_bind (A2 (by lia) ?_);have m2:=pushA out na nb m.mh ha la;refine Bw (fun q1=>wpS_pure ⟨rfl,.inl ⟨_,rfl,doneA _ _ _ m2⟩⟩) fun q1=>?_
    ·have mm:Ry a b (out.push (Bm a (na - 1))) (na - 1) nb:=⟨m2,by lia,hb,by lia,lb,by rw [WZ]; lia⟩
     refine Bp (fun _=>wpS_pure ⟨rfl,.inr ⟨_,_,_,_,_,rfl,mm,by rw [WZ]; lia⟩⟩) (fun _=>wpS_pure ⟨_,_,_,_,_,rfl,rfl,mm,by rw [WZ]; lia⟩)
   ·refine wpS_bind (A2 (by lia) ?_);have m2:=pushB out na nb m.mh (by lia) lb;refine Bw (fun q1=>wpS_pure ⟨rfl,.inl ⟨_,rfl,firstB _ _ _ m2⟩⟩) fun q1=>?_
    ·have mm:Ry a b (out.push (Bm b (nb - 1))) na (nb - 1):=⟨m2,ha,by lia,la,by lia,by rw [WZ]; lia⟩
     refine Bp (fun _=>wpS_pure ⟨rfl,.inr ⟨_,_,_,_,_,rfl,mm,by rw [WZ]; lia⟩⟩) (fun _=>wpS_pure ⟨_,_,_,_,_,rfl,rfl,mm,by rw [WZ]; lia⟩)
  case ipost=>
   rintro c Ay ⟨rfl,hc⟩;rcases hc with ⟨r,hc,hm⟩ | ⟨na,nb,out,ac,bc,rfl,m,Sm⟩
   ·obtain ⟨c,By⟩:=c;dsimp only at hc;subst hc;exact wpS_pure ⟨r,g',rfl,rfl,hm⟩
   ·try dsimp -zeta only
    refine wpS_bind (wpS_lift (wpAny_rule ⟨rfl,?_⟩));refine wpS_bind (wpS_mono (wpS_forRange (I:=fun y c Ay=>∃ na nb out g ac bc g',c=(none,na,nb,out,g,ac,bc)/\Ay=Cn st g'/\Ry a b out na nb/\x + 2<=out.size)
     (Q:=fun c Ay=>∃ g',Ay=Cn st g'/\((∃ r:Array Keyed,c.1=some r/\r.toList.Perm (a.toList ++ b.toList))\/∃ na nb out g ac bc,c=(none,na,nb,out,g,ac,bc)/\Ry a b out na nb/\x + 2<=out.size)) ?jstep ?jfin ?jinit) ?jpost)
    case jinit=>exact ⟨na,nb,out,_,ac,bc,g',rfl,rfl,m,Sm⟩
    case jfin=>
     rintro c Ay ⟨na,nb,out,g,ac,bc,g',rfl,rfl,m,hx⟩;exact ⟨g',rfl,.inr ⟨na,nb,out,g,ac,bc,rfl,m,hx⟩⟩
    case jpost=>
     rintro c Ay ⟨g',rfl,hc⟩;rcases hc with ⟨r,hc,hm⟩ | ⟨na,nb,out,g,ac,bc,rfl,m,Sm⟩
     ·obtain ⟨c,By⟩:=c;dsimp only at hc;subst hc;exact wpS_pure ⟨r,g',rfl,rfl,hm⟩
     ·try dsimp -zeta only
      exact wpS_bind (wpS_modify (wpS_pure ⟨na,nb,out,_,_,rfl,rfl,m,Sm⟩))
    case jstep=>
     rintro y c Ay _ hy ⟨na,nb,out,g,ac,bc,g',rfl,rfl,m,hx⟩;try dsimp -zeta only
     have ha:=m.ha;have hb:=m.hb;have la:=m.la;have lb:=m.lb;have hsz:=m.sz;apply dup1
     case main=>
      intro By;refine Bp (fun gg=>?_) (fun gg=>?_)
      ·generalize g - 1=g2;exact By g2
      ·exact By g
     case leaf=>
      intro g2;refine wpS_bind (wpS_modify ?_);refine wpS_bind (A2 (by first | lia | (dsimp only at *; lia)) ?_);refine wpS_bind (Cg (left:=false) an hk (mb _ (by first | lia | (dsimp only at *; lia))) (fun i hi=>ma _ (by first | lia | (dsimp only at *; lia))) (by first | lia | (dsimp only at *; lia)) (by first | lia | (dsimp only at *; lia)) fun k k1=>?_);try dsimp -zeta only
      generalize hac:na - k=ac2;apply QP (fun (Dh:Array Keyed) (Jk:Nat)=>((a.toList.take Jk ++ b.toList.take nb) ++ Dh.toList.reverse).Perm (a.toList ++ b.toList)/\Dh.size + (Jk + nb)=a.size + b.size/\0 < Jk/\Jk<=a.size/\x + 2<=Dh.size)
      case main=>
       intro By;refine Bp (fun k0=>?_) (fun k0=>?_)
       ·have m2:=partA out na nb k m.mh k1;have z2:(out ++ (a.extract k na).reverse).size + (k + nb)=a.size + b.size:=by
         rw [Yq,Zm,X5];lia
        refine Bw (fun q1=>wpS_pure ⟨_,rfl,.inl ⟨_,rfl,doneA _ _ _ m2⟩⟩) fun q1=>?_
        obtain ⟨Dh,eo⟩:∃ o,o=out ++ (a.extract k na).reverse:=⟨_,rfl⟩
        obtain ⟨Jk,ei⟩:∃ o,o=k:=⟨_,rfl⟩
        rw [<-eo] at m2 z2;rw [<-eo,<-ei];rw [<-ei] at m2 z2;exact By Dh Jk ⟨m2,z2,by lia,by lia,by lia⟩
       ·exact By out na ⟨m.mh,hsz,ha,la,hx⟩
      case leaf=>
       rintro Dh Jk ⟨m2,z2,p1,p2,Vy⟩;refine wpS_bind (A2 (by lia) ?_);have m3:=pushB Dh Jk nb m2 (by lia) lb;have z3:(Dh.push (Bm b (nb - 1))).size + (Jk + (nb - 1))=a.size + b.size:=by rw [WZ]; lia
       refine Bw (fun q3=>wpS_pure ⟨_,rfl,.inl ⟨_,rfl,firstB _ _ _ m3⟩⟩) fun q3=>?_
       refine wpS_bind (A2 (by lia) ?_);refine wpS_bind (Cg (left:=true) an hk (ma _ (by lia)) (fun i hi=>mb _ (by lia)) (by lia) (by lia) fun l l1=>?_);try dsimp -zeta only
       generalize hbc:nb - 1 - l=bc2;apply QP (fun (Dq:Array Keyed) (Hw:Nat)=>((a.toList.take Jk ++ b.toList.take Hw) ++ Dq.toList.reverse).Perm (a.toList ++ b.toList)/\Dq.size + (Jk + Hw)=a.size + b.size/\1 < Hw/\Hw<=b.size/\x + 2<=Dq.size)
       case main=>
        intro By;refine Bp (fun l0=>?_) (fun l0=>?_)
        ·have m4:=partB _ Jk (nb - 1) l m3 l1;have z4:(Dh.push (Bm b (nb - 1)) ++ (b.extract l (nb - 1)).reverse).size + (Jk + l)=a.size + b.size:=by
          rw [Yq,Zm,X5];lia
         refine Bw (fun q1=>wpS_pure ⟨_,rfl,.inl ⟨_,rfl,firstB _ _ _ m4⟩⟩) fun q1=>?_
         refine Bw (fun q2=>wpS_pure ⟨_,rfl,.inl ⟨_,rfl,doneA _ _ _ m4⟩⟩) fun q2=>?_
         obtain ⟨Dq,Ut⟩:∃ o,o=Dh.push (Bm b (nb - 1)) ++ (b.extract l (nb - 1)).reverse:=⟨_,rfl⟩
         obtain ⟨Hw,Uu⟩:∃ o,o=l:=⟨_,rfl⟩
         rw [<-Ut] at m4 z4;rw [<-Ut,<-Uu];rw [<-Uu] at m4 z4;exact By Dq Hw ⟨m4,z4,by lia,by lia,by lia⟩
        ·exact By _ (nb - 1) ⟨m3,z3,by lia,by lia,by rw [WZ]; lia⟩
       case leaf=>
        rintro Dq Hw ⟨m4,z4,p3,p4,hx3⟩;refine wpS_bind (A2 (by lia) ?_);have m5:=pushA Dq Jk Hw m4 p1 p2;have z5:(Dq.push (Bm a (Jk - 1))).size + (Jk - 1 + Hw)=a.size + b.size:=by rw [WZ]; lia
        refine Bw (fun q5=>wpS_pure ⟨_,rfl,.inl ⟨_,rfl,doneA _ _ _ m5⟩⟩) fun q5=>?_
        have mm:Ry a b (Dq.push (Bm a (Jk - 1))) (Jk - 1) Hw:=⟨m5,by lia,p3,by lia,p4,z5⟩
        have TN:x + 2<=(Dq.push (Bm a (Jk - 1))).size:=by rw [WZ]; lia
        refine Bp (fun _=>wpS_pure ⟨_,rfl,.inr ⟨_,_,_,_,_,_,rfl,mm,TN⟩⟩) (fun _=>wpS_pure ⟨_,_,_,_,_,_,_,rfl,rfl,mm,TN⟩)
theorem Ex {lo nrem:Nat} {Q:Option Nat->SortSt->Prop} {st:SortSt} (an:Ln prog w A s κ lt a0) (hk:kindOf st=κ) (hp:(arrOf st).Perm a0) (hn:lo + nrem<=a0.size) (h1:1<=nrem)
  (h:∀ m ys,Kp (arrOf st) ys lo->1<=m->m<=nrem->Q (some m) (setArr st ys)):wpS (model prog w) A E s (countRun' lo nrem) Q st:=by
 have hz:=hp.size_eq;refine wpS_bind (wpS_mono (Lo (f:=fun n=>lt (Bm (arrOf st) (lo + n)) (Bm (arrOf st) (lo + n - 1))) h1 ?_) ?_)
 ·intro x n R n1 n2 y1 y2;dsimp only;refine wpS_bind (CF an hk hp (by lia) (by lia) ?_);dsimp only;cases e:lt (Bm (arrOf st) (lo + n)) (Bm (arrOf st) (lo + n - 1))
  ·exact wpS_pure (y2 e)
  ·exact wpS_pure (y1 e)
 rintro c Ay ⟨rfl,n,rfl,n1,n2,q,hor⟩;dsimp only;by_cases hnn:n=nrem
 ·rw [if_pos (by simpa using hnn)];exact wpS_pure (h n _ (Kp.refl _ _) n1 n2)
 rw [if_neg (by simpa using hnn)];by_cases hgt:n > 1
 case' pos=>
  rw [if_pos hgt];refine wpS_bind (CF an hk hp (by lia) (by lia) ?_);dsimp only;cases hrose:lt (Bm (arrOf Ay) lo) (Bm (arrOf Ay) (lo + n - 1))
  case' true=>
   simp only [if_true];exact wpS_pure (h n _ (Kp.refl _ _) n1 n2)
  case' false=>
   simp only [WB,if_false];refine wpS_bind (ER ?_);have kp:Kp (arrOf Ay) (mirror (arrOf Ay) lo (lo + n) ((lo + n - lo) / 2)) lo:=(Kp.refl _ _).mirror (by lia) (Wq _);obtain ⟨ys,ey⟩:∃ ys,ys=mirror (arrOf Ay) lo (lo + n) ((lo + n - lo) / 2):=⟨_,rfl⟩
   rw [<-ey] at kp;show wpS (model prog w) A E s _ Q (setArr Ay (mirror (arrOf Ay) lo (lo + n) ((lo + n - lo) / 2)))
   rw [<-ey]
 case' neg=>
  rw [if_neg hgt];obtain ⟨ys,ey⟩:∃ ys,ys=arrOf Ay:=⟨_,rfl⟩
  have kp:Kp (arrOf Ay) ys lo:=by rw [ey]; exact Kp.refl _ _
  show wpS (model prog w) A E s _ Q (setArr Ay (arrOf Ay))
  rw [<-ey]
 all_goals
  refine wpS_bind (wpS_lift (wpAny_rule ⟨rfl,?_⟩));refine wpS_bind (wpS_mono (wpS_forRange (I:=fun x c B4=>∃ neq ys,c=(none,x,neq)/\B4=setArr Ay ys/\Kp (arrOf Ay) ys lo/\neq + 1<=x)
   (Q:=fun c B4=>∃ m neq ys,c=(none,m,neq)/\B4=setArr Ay ys/\Kp (arrOf Ay) ys lo/\n + 1<=m/\m<=nrem/\neq + 1<=m) ?dstep ?dfin ?dinit) ?dpost)
  case dinit=>exact ⟨0,ys,rfl,rfl,kp,by lia⟩
  case dfin=>
   rintro c B4 ⟨neq,ys,rfl,rfl,kp,a1⟩;have e:max (n + 1) nrem=nrem:=by lia
   rw [e] at a1 ⊢;exact ⟨nrem,neq,ys,rfl,rfl,kp,by lia,Wq _,a1⟩
  case dstep=>
   rintro x c B4 x1 x2 ⟨neq,ys,rfl,rfl,kp,a1⟩;dsimp only;have hzy:=kp.size;have hpy:(arrOf (setArr Ay ys)).Perm a0:=kp.1.trans hp;refine wpS_bind (CF (st:=setArr Ay ys) an hk hpy (by lia) (by lia) ?_);dsimp only;cases hless:lt (Bm ys (lo + x)) (Bm ys (lo + x - 1))
   ·simp only [WB,if_false];refine wpS_bind (CF (st:=setArr Ay ys) an hk hpy (by lia) (by lia) ?_);dsimp only;cases hlarger:lt (Bm ys (lo + x - 1)) (Bm ys (lo + x))
    ·simp only [WB,if_false];exact wpS_pure ⟨neq + 1,ys,rfl,rfl,kp,by lia⟩
    ·simp only [if_true];exact wpS_pure ⟨x,neq,ys,rfl,rfl,kp,x1,by lia,a1⟩
   ·simp only [if_true];by_cases hq:neq > 0
    ·rw [if_pos hq];exact wpS_bind (ER (wpS_pure ⟨0,_,rfl,rfl,kp.mirror (by lia) (by lia),by lia⟩))
    ·rw [if_neg hq];exact wpS_pure ⟨0,ys,rfl,rfl,kp,by lia⟩
  case dpost=>
   rintro c B4 ⟨m,neq,zs,rfl,rfl,kz,m1,m2,a1⟩;dsimp only;have hzz:=kz.size;have last:∀ us,Kp (arrOf Ay) us lo->∀ (vs:Array Keyed),Kp (arrOf Ay) vs lo->∀ n',m<=n'->n'<=nrem->Q (some n') (setArr Ay vs):=fun us ku vs kv n' b1 b2=>h n' vs kv (by lia) b2
   by_cases hq:neq > 0
   case' pos=>
    rw [if_pos hq];refine wpS_bind (ER ?_);have TH:Kp (arrOf Ay) (mirror zs (lo + m - (neq + 1)) (lo + m) ((lo + m - (lo + m - (neq + 1))) / 2)) lo:=kz.mirror (by lia) (by lia);obtain ⟨us,eu⟩:∃ us,us=mirror zs (lo + m - (neq + 1)) (lo + m) ((lo + m - (lo + m - (neq + 1))) / 2):=⟨_,rfl⟩
    rw [<-eu] at TH;show wpS (model prog w) A E s _ Q (setArr Ay (mirror zs (lo + m - (neq + 1)) (lo + m) ((lo + m - (lo + m - (neq + 1))) / 2)))
    rw [<-eu]
   case' neg=>
    rw [if_neg hq];obtain ⟨us,eu⟩:∃ us,us=zs:=⟨_,rfl⟩
    have TH:Kp (arrOf Ay) us lo:=by rw [eu]; exact kz
    rw [<-eu]
   all_goals
    have hzu:=TH.size;refine wpS_bind (ER ?_);show wpS (model prog w) A E s _ Q (setArr Ay (mirror us lo (lo + m) ((lo + m - lo) / 2)))
    have kv:Kp (arrOf Ay) (mirror us lo (lo + m) ((lo + m - lo) / 2)) lo:=TH.mirror (by lia) (Wq _);obtain ⟨vs,ev⟩:∃ vs,vs=mirror us lo (lo + m) ((lo + m - lo) / 2):=⟨_,rfl⟩
    rw [<-ev] at kv;rw [<-ev];have hzv:=kv.size;refine wpS_bind (wpS_mono (Lo (f:=fun n=>lt (Bm vs (lo + n)) (Bm vs (lo + n - 1))) m2 ?_) ?_)
    ·intro x n R n1 n2 y1 y2;dsimp only;refine wpS_bind (CF (st:=setArr Ay vs) an hk (kv.1.trans hp) (by lia) (by lia) ?_);dsimp only;cases e:lt (Bm vs (lo + n)) (Bm vs (lo + n - 1))
     ·exact wpS_pure (y2 e)
     ·exact wpS_pure (y1 e)
    rintro c Vb ⟨rfl,n',rfl,b1,b2,b3,_⟩;exact wpS_pure (last us TH vs kv n' b1 b2)
theorem DH {lo n ok:Nat} {Q:Bool->SortSt->Prop} {st:SortSt} (an:Ln prog w A s κ lt a0) (hk:kindOf st=κ) (hp:(arrOf st).Perm a0) (hn:lo + n<=a0.size) (h1:1<=ok) (hok:ok<=n)
  (h:∀ ys,Kp (arrOf st) ys lo->Q true (setArr st ys)):wpS (model prog w) A E s (binarySort' lo n ok) Q st:=by
 have hz:=hp.size_eq;refine wpS_bind (wpS_mono (wpS_forRange (I:=fun k c Ay=>c=(none,())/\∃ ys,Ay=setArr st ys/\Kp (arrOf st) ys lo)
  (Q:=fun c Ay=>c=(none,())/\∃ ys,Ay=setArr st ys/\Kp (arrOf st) ys lo) ?step ?fin ?init) ?post)
 case init=>exact ⟨rfl,arrOf st,rfl,Kp.refl _ _⟩
 case fin=>
  rintro c Ay ⟨rfl,ys,rfl,kp⟩;exact ⟨rfl,ys,rfl,kp⟩
 case post=>
  rintro c Ay ⟨rfl,ys,rfl,kp⟩;exact wpS_pure (h ys kp)
 case step=>
  rintro k c Ay k1 k2 ⟨rfl,ys,rfl,kp⟩;dsimp only;have hzy:=kp.size;have hpy:(arrOf (setArr st ys)).Perm a0:=kp.1.trans hp;refine wpS_bind (wpS_mono (DQ (n:=k) ?_ ?_ (WR _) (Wq _)) ?_)
  ·intro x l R hR;dsimp only;rw [if_pos (Wq _)];exact wpS_pure hR
  ·intro x l r R hlr hrk y1 y2;dsimp only;rw [if_neg (by lia),show (l + r) / 2=l + (r - l) / 2 by lia];refine wpS_bind (CF (st:=setArr st ys) an hk hpy (by lia) (by lia) ?_);dsimp only;cases e:lt (Bm ys (lo + k)) (Bm ys (lo + (l + (r - l) / 2)))
   ·exact wpS_pure y1
   ·exact wpS_pure y2
  ·rintro c Dm ⟨rfl,r,rfl,r1⟩;refine wpS_bind ?_;rw [show (sortPriv% PySem.Builtin.moveDown)=moveDown' from rfl,moveDown'_eq];exact wpS_modify (wpS_pure ⟨rfl,bubble ys (lo + k) (lo + k - (lo + r)),rfl,kp.bubble (by lia) (by lia)⟩)
theorem IP {st:SortSt} {Q:Bool->SortSt->Prop} {l1 l2:List (Nat × Nat × Nat)} {sa na p1 sb nb p2:Nat} (an:Ln prog w A s κ lt a0) (hk:kindOf st=κ) (hp:(arrOf st).Perm a0) (hfa:failedOf st=none)
  (hl:(pendingOf st).toList=l1 ++ (sa,na,p1) :: (sb,nb,p2) :: l2) (eb:sb=sa + na) (ha:1<=na) (hb:1<=nb) (hz:sb + nb<=a0.size)
  (h:∀ ys pe g,ys.Perm a0->(∀ k,(k < sa\/sb + nb<=k)->Bm ys k=Bm (arrOf st) k)->pe.toList=l1 ++ (sa,na + nb,p1) :: l2->Q true (SortSt.mk' (kindOf st) ys pe g none)) :
  wpS (model prog w) A E s (mergeAt' l1.length) Q st:=by
 have hzx:=hp.size_eq;have mem:∀ i,i < a0.size->Bm (arrOf st) i ∈ a0:=fun i hi=>(Array.Perm.mem_iff hp).mp (Jm (by lia))
 have g1:(pendingOf st)[l1.length]? = some (sa,na,p1):=by
  rw [<-Xh,hl];simp
 have g2:(pendingOf st)[l1.length + 1]? = some (sb,nb,p2):=by
  rw [<-Xh,hl];simp
 have pe:(((pendingOf st).setIfInBounds l1.length (sa,na + nb,p1)).eraseIdxIfInBounds (l1.length + 1)).toList=l1 ++ (sa,na + nb,p1) :: l2:=by
  rw [Array.toList_eraseIdxIfInBounds,YN,hl];simp [List.eraseIdx_append];intro z;lia
 refine wpS_bind (wpS_get ?_);have e2:((pendingOf st)[l1.length]?,(pendingOf st)[l1.length + 1]?)=(some (sa,na,p1),some (sb,nb,p2)):=by rw [g1,g2]
 dsimp only;rw [show ((sortPriv% PySem.Builtin.SortState.pending) st)[l1.length]? = some (sa,na,p1) from g1,show ((sortPriv% PySem.Builtin.SortState.pending) st)[l1.length + 1]? = some (sb,nb,p2) from g2];dsimp only;refine wpS_bind (PZ ?_);refine wpS_bind (A2 (by show sb < (arrOf st).size; lia) ?_);refine wpS_bind (Cg (left:=false) an hk (mem _ (by lia)) (fun i hi=>mem _ (by lia)) (by show _<=(arrOf st).size; lia) (by lia) fun k k1=>?_);dsimp only;by_cases q1:na - k=0
 ·rw [if_pos (by simpa using q1)];refine wpS_pure ?_;have e:=hfa;have fin:=h (arrOf st) _ (gallopOf st) hp (fun _ _=>rfl) pe;rw [<-hfa] at fin;exact fin
 rw [if_neg (by simpa using q1)];refine wpS_bind (A2 (by show _ < (arrOf st).size; lia) ?_);have el:sa + k + (na - k) - 1=sa + na - 1:=by lia
 rw [el];refine wpS_bind (Cg (left:=true) an hk (mem _ (by lia)) (fun i hi=>mem _ (by lia)) (by show _<=(arrOf st).size; lia) (by lia) fun m m1=>?_);dsimp only;by_cases q2:m=0
 ·rw [if_pos (by simpa using q2)];refine wpS_pure ?_;have fin:=h (arrOf st) _ (gallopOf st) hp (fun _ _=>rfl) pe;rw [<-hfa] at fin;exact fin
 rw [if_neg (by simpa using q2)];have zx:((arrOf st).extract (sa + k) sb).size=na - k:=by rw [X5]; lia
 have zy:((arrOf st).extract sb (sb + m)).size=m:=by rw [X5]; lia
 have ix:∀ i,i < na - k->Bm ((arrOf st).extract (sa + k) sb) i=Bm (arrOf st) (sa + k + i):=fun i hi=>FR (by lia) (by lia)
 have iy:∀ i,i < m->Bm ((arrOf st).extract sb (sb + m)) i=Bm (arrOf st) (sb + i):=fun i hi=>FR (by lia) (by lia)
 have fin:∀ (r:Array Keyed) (g:Nat),r.toList.Perm (((arrOf st).extract (sa + k) sb).toList ++ ((arrOf st).extract sb (sb + m)).toList) ->
   Q true (SortSt.mk' (kindOf st) (ZA (fun a x=>a.setIfInBounds (sa + k + x.snd) x.fst) (arrOf st) r.toList.zipIdx) (((pendingOf st).setIfInBounds l1.length (sa,na + nb,p1)).eraseIdxIfInBounds (l1.length + 1)) g none):=by
  intro r g mr;have rl:r.toList.length=na - k + m:=by
   rw [mr.length_eq,Ww,WL,WL,zx,zy]
  have pb:=JJ (sa + k) r.toList 0 (arrOf st) (by lia);rw [Nat.add_zero] at pb;have UC:((arrOf st).toList.take (sa + k)).length=sa + k:=by rw [WW,WL]; lia
  obtain ⟨zs,ez⟩:∃ zs,zs=ZA (fun a x=>a.setIfInBounds (sa + k + x.snd) x.fst) (arrOf st) r.toList.zipIdx:=⟨_,rfl⟩
  rw [<-ez] at pb ⊢;have zlow:∀ i,i < sa + k->Bm zs i=Bm (arrOf st) i:=fun i hi=>by
   rw [Fq,Fq,pb,Xw,MU (by lia),Wv,YS hi,Wv]
  have zhigh:∀ i,sb + m<=i->Bm zs i=Bm (arrOf st) i:=fun i hi=>by
   rw [Fq,Fq,pb,MT (by rw [Ww]; lia),Wv,List.getElem?_drop,Wv];congr 2;rw [Ww];lia
  refine h zs _ g ?_ ?_ pe
  ·refine Array.Perm.trans (YO.mpr ?_) hp;rw [pb];have e1:=Eh (xs:=arrOf st) (i:=sa + k) (j:=sb) (by lia);have e2:=Eh (xs:=arrOf st) (i:=sb) (j:=sb + m) (by lia);have e3:=Y0 (sb + m) (arrOf st).toList;rw [e2,e1] at e3;rw [rl,show sa + k + (na - k + m)=sb + m by lia];conv=>rhs; rw [<-e3]
   rw [Xw ((arrOf st).toList.take (sa + k)) ((arrOf st).extract (sa + k) sb).toList];exact List.Perm.append_right _ (List.Perm.append_left _ mr)
  ·intro i hi;rcases hi with hi | hi
   ·exact zlow i (by lia)
   ·exact zhigh i (by lia)
 have mx:∀ i,i < ((arrOf st).extract (sa + k) sb).size->Bm ((arrOf st).extract (sa + k) sb) i ∈ a0:=fun i hi=>by rw [ix i (by lia)]; exact mem _ (by lia)
 have my:∀ i,i < ((arrOf st).extract sb (sb + m)).size->Bm ((arrOf st).extract sb (sb + m)) i ∈ a0:=fun i hi=>by rw [iy i (by lia)]; exact mem _ (by lia)
 by_cases q3:na - k<=m
 ·rw [if_pos q3];refine wpS_bind (IL an hk mx my (show 0 < ((arrOf st).extract (sa + k) sb).size by rw [zx]; lia) (show 0 < ((arrOf st).extract sb (sb + m)).size by rw [zy]; lia) fun r g mr=>?_);refine wpS_bind (wpS_modify (wpS_bind (wpS_get (wpS_pure ?_))));have f:=fin r g mr;rw [<-hfa] at f;have e:(failedOf st).isNone=true:=by rw [hfa]; rfl
  show Q (failedOf st).isNone _
  rw [e];exact f
 ·rw [if_neg q3];refine wpS_bind (IM an hk mx my (show 0 < ((arrOf st).extract (sa + k) sb).size by rw [zx]; lia) (show 0 < ((arrOf st).extract sb (sb + m)).size by rw [zy]; lia) fun r g mr=>?_);refine wpS_bind (wpS_modify (wpS_bind (wpS_get (wpS_pure ?_))));have f:=fin r g mr;rw [<-hfa] at f;have e:(failedOf st).isNone=true:=by rw [hfa]; rfl
  show Q (failedOf st).isNone _
  rw [e];exact f
def DP:Nat->List (Nat × Nat)->Nat->Prop
 | a,[],b=>a=b
 | a,(p,n) :: r,b=>p=a/\1<=n/\DP (a + n) r b
theorem DP.app:∀ {l1 l2:List (Nat × Nat)} {a b:Nat},DP a (l1 ++ l2) b ↔ ∃ m,DP a l1 m/\DP m l2 b
 | [],l2,a,b=>⟨fun h=>⟨a,rfl,h⟩,fun ⟨m,e,h⟩=>by cases e; exact h⟩
 | (p,n) :: r,l2,a,b=>by
  refine ⟨fun h=>?_,fun h=>?_⟩
  ·obtain ⟨h1,h2,h3⟩:=h;obtain ⟨m,a1,a2⟩:=DP.app.mp h3;exact ⟨m,⟨h1,h2,a1⟩,a2⟩
  ·obtain ⟨m,⟨h1,h2,h3⟩,h4⟩:=h;exact ⟨h1,h2,DP.app.mpr ⟨m,h3,h4⟩⟩
theorem DP.le:∀ {l:List (Nat × Nat)} {a b:Nat},DP a l b->a + l.length<=b
 | [],a,b,h=>Z8 h
 | (p,n) :: r,a,b,h=>by
  have:=DP.le h.2.2;have:=h.2.1;rw [WO];lia
structure Gf (κ:SortKind) (a0:Array Keyed) (lo:Nat) (st:SortSt):Prop where
 kd:kindOf st=κ
 pm:(arrOf st).Perm a0
 fa:failedOf st=none
 cv:DP 0 ((pendingOf st).toList.map NA) lo
theorem Gf.merge {st:SortSt} {lo i:Nat} {Q:Bool->SortSt->Prop} (an:Ln prog w A s κ lt a0) (h:Gf κ a0 lo st) (hi:i + 1 < (pendingOf st).size) (hlo:lo<=a0.size)
  (q:∀ Ay,Gf κ a0 lo Ay->(pendingOf Ay).size + 1=(pendingOf st).size->(∀ k,lo<=k->Bm (arrOf Ay) k=Bm (arrOf st) k)->Q true Ay):wpS (model prog w) A E s (mergeAt' i) Q st:=by
 have hl:i < (pendingOf st).toList.length:=by rw [WL]; lia
 have OQ:i + 1 < (pendingOf st).toList.length:=by rw [WL]; lia
 obtain ⟨⟨sa,na,p1⟩,ex⟩:∃ x,(pendingOf st).toList[i]=x:=⟨_,rfl⟩
 obtain ⟨⟨sb,nb,p2⟩,ey⟩:∃ y,(pendingOf st).toList[i + 1]=y:=⟨_,rfl⟩
 have e:(pendingOf st).toList=(pendingOf st).toList.take i ++ (sa,na,p1) :: (sb,nb,p2) :: (pendingOf st).toList.drop (i + 2):=by
  conv=>lhs; rw [<-Y0 i (pendingOf st).toList]
  rw [XA hl,XA OQ,ex,ey]
 have tl:((pendingOf st).toList.take i).length=i:=by rw [WW]; lia
 obtain ⟨l1,el1⟩:∃ l,l=(pendingOf st).toList.take i:=⟨_,rfl⟩
 obtain ⟨l2,el2⟩:∃ l,l=(pendingOf st).toList.drop (i + 2):=⟨_,rfl⟩
 rw [<-el1,<-el2] at e;rw [<-el1] at tl;have cv:=h.cv;rw [e,W3,DP.app] at cv;obtain ⟨m,c1,c2,c3,c5,c6,c8⟩:=cv;dsimp only [NA] at c2 c3 c5 c6 c8;subst c2;have ele:=c8.le;subst tl;refine IP an h.kd h.pm h.fa e c5 c3 c6 (by lia) fun ys pe g y1 y2 y4=>q _ ⟨h.kd,y1,rfl,?_⟩ ?_ ?_
 ·show DP 0 (pe.toList.map NA) lo
  rw [y4,W3,DP.app];exists sa,c1,rfl,?_
  ·show 1<=na + nb
   lia
  ·show DP (sa + (na + nb)) _ lo
   rw [<-Z4];exact c8
 ·show pe.size + 1=_
  have z1:pe.toList.length=l1.length + (l2.length + 1):=by rw [y4]; simp
  have z2:(pendingOf st).toList.length=l1.length + (l2.length + 1 + 1):=by rw [e]; simp
  rw [WL] at z1 z2;lia
 ·intro k hk;exact y2 k (.inr (by lia))
theorem Hy {st:SortSt} {Q:Unit->SortSt->Prop} (an:Ln prog w A s κ lt a0) (hk:kindOf st=κ) (ha:arrOf st=a0) (hf:failedOf st=none) (hpe:pendingOf st=#[]) (h2:1<=a0.size)
  (h:∀ Ay,(arrOf Ay).Perm a0->failedOf Ay=none->Q () Ay):wpS (model prog w) A E s sortRuns' Q st:=by
 have hp:(arrOf st).Perm a0:=by rw [ha]
 refine wpS_bind (wpS_get ?_);dsimp only;have ez:((sortPriv% PySem.Builtin.SortState.a) st).size=a0.size:=by rw [show (sortPriv% PySem.Builtin.SortState.a) st=a0 from ha]
 rw [ez];refine wpS_bind (wpS_mono (wpS_forRange (I:=fun x c Ay=>∃ lo,c=(none,lo)/\x<=lo/\lo<=a0.size/\Gf κ a0 lo Ay)
  (Q:=fun c Ay=>c=(none,a0.size)/\Gf κ a0 a0.size Ay) ?step ?fin ?init) ?post)
 case init=>
  exists 0,rfl,Wq _,WR _,hk,hp,hf;rw [hpe];exact rfl
 case fin=>
  rintro c Ay ⟨lo,rfl,q1,q2,q3⟩;have:lo=a0.size:=by lia
  rw [this] at q3 ⊢;exact ⟨rfl,q3⟩
 case step=>
  rintro x c Ay _ hx ⟨lo,rfl,q1,q2,q3⟩;dsimp only;by_cases hlo:lo >= a0.size
  ·rw [if_pos hlo];have:lo=a0.size:=by lia
   rw [this] at q3 ⊢;exact wpS_pure ⟨rfl,q3⟩
  rw [if_neg hlo];have hz:=q3.pm.size_eq;refine wpS_bind (Ex an q3.kd q3.pm (by lia) (by lia) fun m ys k1 m1 m2=>?_);dsimp only;by_cases hm:m < (sortPriv% PySem.Builtin.minRun) a0.size a0.size 0
  case' pos=>
   rw [if_pos hm];refine wpS_bind (wpS_lift (wpAny_rule ⟨rfl,?_⟩));refine wpS_bind (DH (st:=setArr Ay ys) an q3.kd (k1.1.trans q3.pm) (by lia) m1 (by lia) fun zs k2=>?_);simp only [Yr,WB,if_false];refine wpS_bind (wpS_get ?_);obtain ⟨n,en⟩:∃ n,n=min (a0.size - lo) ((sortPriv% PySem.Builtin.minRun) a0.size a0.size 0):=⟨_,rfl⟩
   have n1:1<=n:=by lia
   have n2:lo + n<=a0.size:=by lia
   rw [<-en];have kz:Kp (arrOf Ay) zs lo:=⟨k2.1.trans k1.1,fun k hk=>(k2.2 k hk).trans (k1.2 k hk)⟩
  case' neg=>
   rw [if_neg hm];refine wpS_bind (wpS_get ?_);obtain ⟨zs,ezs⟩:∃ zs,zs=ys:=⟨_,rfl⟩
   obtain ⟨n,en⟩:∃ n,n=m:=⟨_,rfl⟩
   have n1:1<=n:=by lia
   have n2:lo + n<=a0.size:=by lia
   have kz:Kp (arrOf Ay) zs lo:=by rw [ezs]; exact k1
   rw [<-ezs,<-en]
  all_goals
   have S2:Gf κ a0 lo (setArr Ay zs):=⟨q3.kd,kz.1.trans q3.pm,q3.fa,q3.cv⟩
   have push:∀ Gw,Gf κ a0 lo Gw->Gf κ a0 (lo + n) (setPending Gw ((pendingOf Gw).push (lo,n,0))):=by
    intro Gw S4;exists S4.kd,S4.pm,S4.fa;show DP 0 (((pendingOf Gw).push (lo,n,0)).toList.map NA) (lo + n)
    rw [XR,W3,DP.app];exact ⟨lo,S4.cv,rfl,n1,rfl⟩
   cases eb:(pendingOf (setArr Ay zs)).back? with
   | none=>
    dsimp only;exact wpS_bind (wpS_modify (wpS_pure ⟨lo + n,rfl,by lia,n2,push _ S2⟩))
   | some bk=>
    obtain ⟨b1,b2,b3⟩:=bk;dsimp only;obtain ⟨pw,epw⟩:∃ pw,pw=(sortPriv% PySem.Builtin.power) a0.size (2 * b1 + b2) (2 * b1 + b2 + b2 + n) a0.size:=⟨_,rfl⟩
    rw [<-epw];refine wpS_bind (wpS_mono (wpS_forRange (I:=fun _ c B4=>c=(none,())/\Gf κ a0 lo B4)
     (Q:=fun c B4=>c=(none,())/\Gf κ a0 lo B4) ?_ (fun _ _ hh=>hh) ⟨rfl,S2⟩) ?_)
    ·rintro y c B4 _ _ ⟨rfl,S3⟩;refine wpS_bind (wpS_get ?_);by_cases hps:(pendingOf B4).size > 1
     ·rw [if_pos hps];obtain ⟨⟨o1,o2,o3⟩,eo⟩:∃ o,(pendingOf B4)[(pendingOf B4).size - 2]? = some o:=⟨_,Xt (by lia)⟩
      rw [show ((sortPriv% PySem.Builtin.SortState.pending) B4)[((sortPriv% PySem.Builtin.SortState.pending) B4).size - 2]? = some (o1,o2,o3) from eo];dsimp only;by_cases ho:o3<=pw
      ·rw [if_pos ho];exact wpS_pure ⟨rfl,S3⟩
      ·rw [if_neg ho];refine wpS_bind (S3.merge an (by show (pendingOf B4).size - 2 + 1 < _; lia) (by lia) fun Tu S5 _ e5=>?_);simp only [Yr,WB,if_false];exact wpS_pure ⟨rfl,S5⟩
     ·rw [if_neg hps];exact wpS_pure ⟨rfl,S3⟩
    ·rintro c B4 ⟨rfl,S3⟩;dsimp only;refine wpS_bind (wpS_modify (wpS_bind (wpS_modify (wpS_pure ⟨lo + n,rfl,by lia,n2,?_⟩))));refine push (setPending B4 ((pendingOf B4).modify ((pendingOf B4).size - 1) fun x=>(x.fst,x.2.fst,pw))) ⟨S3.kd,S3.pm,S3.fa,?_⟩;show DP 0 (((pendingOf B4).modify ((pendingOf B4).size - 1) fun x=>(x.fst,x.2.fst,pw)).toList.map NA) lo
     rw [GU (pendingOf B4) ((pendingOf B4).size - 1) (fun x=>(x.fst,x.2.fst,pw)) fun x=>rfl];exact S3.cv
 case post=>
  rintro c Ay ⟨rfl,S1⟩;dsimp only;have z1:(pendingOf Ay).size<=a0.size:=by
   have:=S1.cv.le;rw [Wj,WL] at this;lia
  refine wpS_bind (wpS_mono (wpS_forRange (I:=fun x c B4=>c=(none,())/\Gf κ a0 a0.size B4/\(pendingOf B4).size + x<=a0.size + 1)
   (Q:=fun c B4=>c=(none,())/\Gf κ a0 a0.size B4/\(pendingOf B4).size<=1) ?_ ?_ ⟨rfl,S1,by lia⟩) ?_)
  ·rintro x c B4 _ hx ⟨rfl,S2,z2⟩;refine wpS_bind (wpS_get ?_);by_cases hps:(pendingOf B4).size<=1
   ·rw [if_pos hps];exact wpS_pure ⟨rfl,S2,hps⟩
   ·rw [if_neg hps];refine wpS_bind (S2.merge an ?_ (Wq _) fun Tu S5 z5 _=>?_)
    ·exact S0 _ _ (by show 1 < (pendingOf B4).size; lia)
    ·simp only [Yr,WB,if_false];exact wpS_pure ⟨rfl,S5,by lia⟩
  ·rintro c B4 ⟨rfl,S2,z2⟩;exists rfl,S2;lia
  ·rintro c B4 ⟨rfl,S2,z2⟩;exact wpS_pure (h B4 S2.pm S2.fa)
theorem MI {a:Addr} {vs:List Value} {n:Nat} {P:Fin->Shared->Prop} (lies:s.heap.get? a=some (seqObj "list" vs.toArray n)) (few:vs.length<=sizeLine)
  (cm:2<=vs.length->∀ h',(∀ b o,b ≠ a->s.heap.get? b=some o->h'.get? b=some o) ->
   ∃ κ,(∀ (Q:SortKind->Shared->Prop) (E:Value->Shared->Prop),Q κ { s with heap:=h' }->wpAny (model prog w) A (keyKind' vs.toArray) Q E { s with heap:=h' })/\Ln prog w A { s with heap:=h' } κ lt (pairsOf vs))
  (k:∀ out:List Value,out.Perm vs->P (.done (.ret .none)) { s with heap:=sortedHeap s.heap a vs out.toArray }) :
  wpAny (model prog w) A (Builtin.«list.sort» ⟨[.ref a],[]⟩) P E s:=by
 have alt:=Wr lies;rw [list_sort_plain];refine wpAny_bind (listItems_at lies rfl (wpAny_bind (listUpdate_at lies rfl ?_ (by simpa using few) (WR _))));obtain ⟨c,JU⟩:∃ c,(s.heap.update a (Obj.mapSeq fun _=>#[])).get? a=some (seqObj "list" #[] c):=⟨_,get?_update_seq lies (fun _=>#[])⟩
 refine wpAny_bind (seqEpoch_at JU rfl (wpAny_bind (wpAny_newTuple (wpAny_bind (wpAny_newList (wpAny_holding ?_) (WR _))) (by simpa using few))));obtain ⟨h3,QN⟩:∃ h3,h3=((s.heap.update a (Obj.mapSeq fun _=>(#[]:Array Value))).push (seqObj "tuple" vs.toArray 0)).push (seqObj "list" #[] 0):=⟨_,rfl⟩
 have Fm:h3.get? a=some (seqObj "list" #[] c):=by
  rw [QN];exact Wl _ (Wl _ JU)
 have OJ:∀ b o,b ≠ a->s.heap.get? b=some o->h3.get? b=some o:=fun b o hb e=>by
  rw [QN];exact Wl _ (Wl _ ((Y8 _ _ _ _ hb).trans e))
 show wpAny (model prog w) A _ P E { s with heap:=((s.heap.update a (Obj.mapSeq fun _=>(#[]:Array Value))).push (seqObj "tuple" vs.toArray 0)).push (seqObj "list" #[] 0) }
 rw [<-QN];have last:∀ Ay:SortSt,(arrOf Ay).Perm (pairsOf vs)->P (.done (.ret .none)) { s with heap:=h3.update a (Obj.mapSeq fun _=>(arrOf Ay).map (·.2)) }:=fun Ay hp=>by
  have e:(arrOf Ay).map (·.2)=((arrOf Ay).toList.map (·.2)).toArray:=by apply Yt.mp; simp
  have q:=k _ (JN hp);rw [<-e] at q;rw [QN];exact q
 have zl:∀ Ay:SortSt,(arrOf Ay).Perm (pairsOf vs)->((arrOf Ay).map (·.2)).size<=sizeLine + 1:=fun Ay hp=>by
  rw [Zx,hp.size_eq,pairsOf_size];lia
 have zv:vs.toArray.size=vs.length:=rfl;dsimp only;rcases Zd vs.toArray.size 2 with lo | hi
 ·rw [if_pos lo,if_pos lo];refine wpAny_bind (wpAny_pure ?_);rw [StateT.run_pure];refine wpAny_bind (wpAny_pure (wpAny_bind (seqEpoch_at Fm rfl ?_)));have p0:(arrOf (SortSt.mk' general' (vs.toArray.zip vs.toArray) #[] 7 none)).Perm (pairsOf vs):=Array.Perm.refl _;refine wpAny_bind (listUpdate_at Fm rfl ?_ (WR _) (zl _ p0));rw [bne_self_eq_false];exact wpAny_pure (last _ p0)
 ·rw [if_neg (by lia),if_neg (by lia)];obtain ⟨κ,k1,k2⟩:=cm (by lia) h3 OJ;refine wpAny_bind (k1 _ _ ?_);refine wpAny_bind (wpAny_mono (Hy (a0:=pairsOf vs) (st:=SortSt.mk' κ (vs.toArray.zip vs.toArray) #[] 7 none)
   (Q:=fun _ Ay=>(arrOf Ay).Perm (pairsOf vs)/\failedOf Ay=none) k2 rfl rfl rfl rfl (by rw [pairsOf_size]; lia) fun Ay a1 a2=>⟨a1,a2⟩) ?_ fun _ _ e=>e)
  rintro ⟨u,Ay⟩ s' ⟨rfl,hp,hf⟩;refine wpAny_bind (seqEpoch_at Fm rfl (wpAny_bind (listUpdate_at Fm rfl ?_ (WR _) (zl _ hp))));dsimp only;rw [hf,bne_self_eq_false];exact wpAny_pure (last Ay hp)
theorem Qi {l:Addr} {vs:List Value} {Q:Value->Shared->Prop} (hl:s.heap.IsList l vs.toArray) (few:vs.length<=sizeLine) (cm:Cmpd prog w s lt vs)
  (k:∀ out:List Value,out.Perm vs->Q (.ref (s.heap.objs.size + 1)) { s with heap:=sortedAll s.heap vs out.toArray }) :
  wpAny (model prog w) A (call (.builtin "sorted") [.ref l]) Q E s:=by
 refine Calls.call_function_entry kind_sorted plain_sorted entry_sorted (args_sorted1 _) ?_;unfold Builtin.«sorted»;refine wpAny_bind (m:=checkCount "sorted" 1 1 _) (wpAny_pure (wpAny_bind (collect_list hl ?_ few)));refine wpAny_bind (wpAny_newList ?_ (by simpa using few));obtain ⟨h1,UR⟩:∃ h1,h1=(s.heap.push (seqObj "list" #[] 0)).update s.heap.objs.size (Obj.mapSeq (· ++ vs.toArray)):=⟨_,rfl⟩
 have z1:h1.objs.size=s.heap.objs.size + 1:=by rw [UR,Heap.size_update,size_push']
 have lies:(h1.push (seqObj "list" vs.toArray 0)).get? (s.heap.objs.size + 1)=some (seqObj "list" vs.toArray 0):=by
  rw [<-z1];exact W0 _ rfl
 have keep:∀ b o,s.heap.get? b=some o->(h1.push (seqObj "list" vs.toArray 0)).get? b=some o:=fun b o q=>by
  have hb:=Wr q;refine Wl _ ?_;rw [UR,Y8 _ _ _ _ (W6 hb)];exact Wl _ q
 show wpAny _ _ _ _ _ { s with heap:=((s.heap.push (seqObj "list" #[] 0)).update s.heap.objs.size (Obj.mapSeq (· ++ vs.toArray))).push (seqObj "list" vs.toArray 0) }
 rw [<-UR,z1];refine wpAny_bind (wpAny_holding (wpAny_call_entry slot_list_sort ⟨_,lies,rfl⟩ entry_list_sort (MI (lt:=lt) (s:={ s with heap:=h1.push (seqObj "list" vs.toArray 0) }) lies few ?_ fun out o1=>⟨_,rfl,wpAny_pure ⟨_,rfl,?_⟩⟩) (args_list_sort _)))
 ·intro h2 h' kp;exact cm h2 _ h' fun b o e=>kp b o (W6 (WK (Wr e))) (keep b o e)
 ·have q:=k out o1;unfold sortedAll at q;rw [<-UR] at q;exact q
end
end L2
namespace L2
open PySem PySem.Spec PyProof.Rows
def Gh (h:Heap) (d:Addr) (es:Array DictEntry) (ep:Nat):Prop:=∃ o,h.get? d=some o/\o.ExactDict/\o.data=.dict es ep
theorem Gh.typeIs {s:Shared} {d:Addr} {es:Array DictEntry} {ep:Nat} (x:Gh s.heap d es ep):s.TypeIs (.ref d) "dict":=let ⟨o,h1,h2,_⟩:=x; ⟨o,h1,h2.1⟩
theorem Gh.at' {h h':Heap} {d:Addr} {es:Array DictEntry} {ep:Nat} (x:Gh h d es ep) (e:∀ o,h.get? d=some o->h'.get? d=some o):Gh h' d es ep:=let ⟨o,h1,r⟩:=x; ⟨o,e _ h1,r⟩
theorem Gh.lt {h:Heap} {d:Addr} {es:Array DictEntry} {ep:Nat} (x:Gh h d es ep):d < h.objs.size:=let ⟨_,h1,_⟩:=x; Wr h1
section
variable {prog:Program} {w:World} {A:Around} {E:Value->Shared->Prop} {s:Shared}
theorem Od {d:Addr} {es:Array DictEntry} {ep:Nat} {Q:Value->Shared->Prop} (hd:(d == sysModules)=false) (hm:Gh s.heap d es ep)
  (hQ:Q (.ref s.heap.objs.size) { s with heap:=s.heap.push { cls:=.type "dict_keyiterator",data:=.fields #[.ref d,.int 0 0,.int es.size 0,.int ep 0] } }) :
  wpAny (model prog w) A (pyIter (.ref d)) Q E s:=by
 obtain ⟨o,ho,hc,hdat⟩:=id hm;have hT:s.TypeIs (.ref d) "dict":=hm.typeIs;refine wpAny_pyIter_slot hT F.slot_dict_iter (wpAny_call_entry F.slot_dict_iter hT F.entry_dict_iter ?_ (F.args_dict_iter_1 _));unfold Builtin.«dict.__iter__»;refine wpAny_bind ?_;unfold Builtin.Dict.dictSlotNone;refine wpAny_bind (wpAny_notOrdered_dict hT ?_);show wpAny _ _ (pure (Value.ref d)) _ _ s
 refine wpAny_pure ?_;show wpAny _ _ (Builtin.Dict.showsAll d >>= _) _ _ s
 unfold Builtin.Dict.showsAll;rw [if_neg (by rw [hd]; exact W8)];refine wpAny_bind (wpAny_pure ?_);refine wpAny_bind (wpAny_dictEntries ho hdat ?_);refine wpAny_bind (wpAny_dictEpoch ho hdat ?_);have hsz:es.size=es.size:=rfl;refine wpAny_bind (wpAny_newObj_type (wpAny_pure ⟨_,rfl,"dict_keyiterator",_,⟨_,W0 _ rfl,rfl⟩,F.slot_dict_keyiterator_next.lookup,?_⟩));simpa [rawInt] using hQ
theorem Oe {it d:Addr} {i ep:Nat} {es:Array DictEntry} {key:Value} {Q:Option Value->Shared->Prop} (hit:s.heap.IsKeyIter it d i es.size ep)
  (hm:Gh s.heap d es ep) (hx:es[i]?.map (·.key)=some key)
  (hQ:∀ h',h'.IsKeyIter it d (i + 1) es.size ep->Heap.SameBut it s.heap h'->Q (some key) { s with heap:=h' }) :
  wpAny (model prog w) A (pyNext (.ref it)) Q E s:=by
 obtain ⟨o,ho,hc,hd⟩:=id hit;obtain ⟨od,hod,hcd,hdd⟩:=id hm;unfold pyNext;refine wpAny_bind (wpAny_attempt (wpAny_callSpecial?_slot (name:=Str.ofString "__next__") hit.typeIs F.slot_dict_keyiterator_next
  (wpAny_call_entry F.slot_dict_keyiterator_next hit.typeIs F.entry_dict_keyiterator_next ?_ (F.args_dict_keyiterator_next_1 _))))
 refine wpAny_bind (wpAny_pure ?_);refine wpAny_bind ?_;refine wpAny_bind ?_;first | refine wpAny_bind (wpAny_typeNameOfWhole_keyiter hit.typeIs (wpAny_pure ?_)) | refine wpAny_bind (wpAny_typeNameOf_keyiter hit.typeIs (wpAny_pure ?_))
 refine wpAny_bind (wpAny_fieldsOf ho hd ?_);have hown:Builtin.Dict_items.ownsTuple "dict_keyiterator"=false:=by decide
 simp only [hown,WB,if_false];show wpAny _ _ (if (Value.ref d == Value.none)=true then _ else _) _ _ s
 rw [if_neg (show ¬ ((Value.ref d == Value.none)=true) from W8)];refine wpAny_bind (wpAny_pure ?_);refine wpAny_bind (wpAny_dictEntries hod hdd ?_);have hsz:es.size=es.size:=rfl;rw [if_neg (by rw [hsz]; simp)];refine wpAny_bind (wpAny_pure ?_);refine wpAny_bind (wpAny_dictEpoch hod hdd ?_);rw [if_neg (by simp)];refine wpAny_pure ?_;have Ud:i < es.size:=by
  rcases Zd i es.size with h | h
  ·exact h
  ·rw [YW h] at hx; cases hx
 have hkey:es[i].key=key:=by rw [Xt Ud] at hx; exact WA.inj hx
 simp only [show ¬ ((i:Int) < 0) from by lia,if_false,Zt,Xt Ud];refine wpAny_bind ?_;first | refine wpAny_bind (wpAny_typeNameOfWhole_keyiter hit.typeIs (wpAny_pure ?_)) | refine wpAny_bind (wpAny_typeNameOf_keyiter hit.typeIs (wpAny_pure ?_))
 refine wpAny_bind (wpAny_isOneOf_keyiter hit.typeIs ?_);show wpAny _ _ (setField (.ref it) 1 (rawInt ((i:Int) + 1)) >>= _) _ _ s
 refine wpAny_bind (wpAny_setField ho hd (by simp) ?_);have QD:(s.heap.update it (Obj.mapFields (·.setIfInBounds 1 (rawInt ((i:Int) + 1))))).IsKeyIter it d (i + 1) es.size ep:=
  ⟨_,WU _ ho (Obj.isFreed_of_fields (Obj.data_mapFields hd _)),(Obj.cls_mapFields ..).trans hc,by rw [Obj.data_mapFields hd]; simp [rawInt]⟩
 refine wpAny_bind (wpAny_holding ?_);refine wpAny_bind (wpAny_isOneOf_keyiter (s:={ s with heap:=s.heap.update it (Obj.mapFields (·.setIfInBounds 1 (rawInt ((i:Int) + 1)))) }) QD.typeIs ?_);show wpAny _ _ (pure es[i].key) _ _ _
 exact wpAny_pure (wpAny_pure ⟨_,rfl,wpAny_pure (hkey ▸ hQ _ QD (Heap.SameBut.update ..))⟩)
theorem Qn {it d:Addr} {i ep:Nat} {es:Array DictEntry} {Q:Option Value->Shared->Prop} (hh:A.handled=none) (hit:s.heap.IsKeyIter it d i es.size ep)
  (hm:Gh s.heap d es ep) (hx:es.size<=i)
  (hQ:∀ h',Heap.ExtBut it s.heap h'->Q none { s with heap:=h' }):wpAny (model prog w) A (pyNext (.ref it)) Q E s:=by
 obtain ⟨o,ho,hc,hd⟩:=id hit;obtain ⟨od,hod,hcd,hdd⟩:=id hm;unfold pyNext;refine wpAny_bind (wpAny_attempt (wpAny_callSpecial?_slot (name:=Str.ofString "__next__") hit.typeIs F.slot_dict_keyiterator_next
  (wpAny_call_entry F.slot_dict_keyiterator_next hit.typeIs F.entry_dict_keyiterator_next ?_ (F.args_dict_keyiterator_next_1 _))))
 refine wpAny_bind (wpAny_pure ?_);refine wpAny_bind ?_;refine wpAny_bind ?_;first | refine wpAny_bind (wpAny_typeNameOfWhole_keyiter hit.typeIs (wpAny_pure ?_)) | refine wpAny_bind (wpAny_typeNameOf_keyiter hit.typeIs (wpAny_pure ?_))
 refine wpAny_bind (wpAny_fieldsOf ho hd ?_);have hown:Builtin.Dict_items.ownsTuple "dict_keyiterator"=false:=by decide
 simp only [hown,WB,if_false];show wpAny _ _ (if (Value.ref d == Value.none)=true then _ else _) _ _ s
 rw [if_neg (show ¬ ((Value.ref d == Value.none)=true) from W8)];refine wpAny_bind (wpAny_pure ?_);refine wpAny_bind (wpAny_dictEntries hod hdd ?_);have hsz:es.size=es.size:=rfl;rw [if_neg (by rw [hsz]; simp)];refine wpAny_bind (wpAny_pure ?_);refine wpAny_bind (wpAny_dictEpoch hod hdd ?_);rw [if_neg (by simp)];refine wpAny_pure ?_;have hge:es.size<=i:=hx;simp only [show ¬ ((i:Int) < 0) from by lia,if_false,Zt,YW hge];refine wpAny_bind ?_;first | refine wpAny_bind (wpAny_typeNameOfWhole_keyiter hit.typeIs (wpAny_pure ?_)) | refine wpAny_bind (wpAny_typeNameOf_keyiter hit.typeIs (wpAny_pure ?_))
 show wpAny _ _ (setField (.ref it) 0 .none >>= _) _ _ s
 refine wpAny_bind (wpAny_setField ho hd (by simp) ?_);show wpAny _ _ (newExc (.type "StopIteration") [] >>= _) _ _ _
 refine wpAny_bind ?_;simp only [newExc,newTuple];refine wpAny_bind (wpAny_newObj_type ?_ (by size_fits));refine wpAny_bind (m:=firstArgMember _ _) (wpAny_of_eq (a:=Value.none) (by first | rfl | (simp only [firstArgMember]; rfl)) ?_);refine wpAny_newObj_type ?_ (by size_fits);simp only [raiseNew];refine wpAny_bind (wpAny_handled ?_);rw [show A.in1.handled=none from hh];refine wpAny_bind (wpAny_pure (wpAny_throw ?_));refine wpAny_bind (wpAny_isInstance (T:="StopIteration") (b:=true) ⟨_,W0 _ rfl,rfl⟩ isSubtype_stop ?_);exact wpAny_pure (hQ _ (((Heap.SameBut.update ..).extBut.push _).push _))
theorem Mx (hh:A.handled=none) (I d:Addr) (hne:d ≠ I) (es:Array DictEntry) (ep:Nat) :
  Walks prog w A I [I,d] [I] es.size (fun i v=>es[i]?.map (·.key)=some v) (fun i h=>h.IsKeyIter I d i es.size ep/\Gh h d es ep) where
 sub:=fun b hb=>by simp at hb; simp [hb]
 frame:=fun _ _ _ st hk=>⟨st.1.at fun o e=>hk I (by simp) o e,st.2.at' fun o e=>hk d (by simp) o e⟩
 item:=fun i s Q E hi st hQ=>by
  have hx:es[i]?.map (·.key)=some es[i].key:=by rw [Xt hi]; rfl
  refine Oe st.1 st.2 hx fun h' QD J0=>?_
  exact hQ _ h' s.toks hx ⟨QD,st.2.at' fun o e=>J0.extBut d o hne e⟩ fun b o hb e=>J0.extBut b o (fun h=>hb (by simp [h])) e
 done:=fun s Q E st hQ=>Qn hh st.1 st.2 (Wq _) fun h' he'=>hQ h' s.toks fun b o hb e=>he' b o (fun h=>hb (by simp [h])) e
 self:=fun _ _ _ _ st hQ=>wpAny_pyIter_keyiter st.1 hQ
theorem Qm {d:Addr} {es:Array DictEntry} {ep:Nat} (lo:(d == sysModules)=false):PySem.W.KdlSrc prog w "dict" d d es.size (fun i v=>es[i]?.map (·.key)=some v) (fun h=>Gh h d es ep) where
 type:=fun _ hm=>hm.typeIs
 there:=fun _ hm=>⟨hm.lt,hm.lt⟩
 keep:=fun _ _ hm hk=>hm.at' fun o e=>hk d (.inl rfl) o e
 notList:=by decide
 notTuple:=by decide
 hint:=fun _ _ _ _ hm hq=>PySem.W.kdl_hint_dict hm.typeIs hq
 iter:=fun _ _ hh hm=>⟨_,_,(fun _ _ hq=>Od lo hm hq),Mx hh _ d (W6 hm.lt) es ep,⟨⟨_,W0 _ rfl,rfl,rfl⟩,hm.at' fun o e=>Wl _ e⟩⟩
end
structure Fn (K:Wm) (mg:Str->Option Value) (nm:Str) (st:Stmt) (ps:List Str) (f:Addr) (fd:FuncData):Prop where
 F:Ew K nm nm st f fd
 mg:mg nm=some (.ref f)
 b:FY K fd ps []
theorem J6 {κ:Type} [DecidableEq κ] {kvs:List (κ × V)} {k:κ} {v:V} (h:(k,v) ∈ kvs):∃ v',Bn kvs k=some v'/\(k,v') ∈ kvs:=by
 induction kvs with
 | nil=>exact nomatch h
 | cons p r ih=>
  by_cases e:p.1=k
  ·exact ⟨p.2,B7 e,by rw [<-e]; exact W7⟩
  ·rcases Wn.mp h with z | z
   ·exact absurd (by rw [<-z]) e
   ·obtain ⟨v',a,b⟩:=ih z;exact ⟨v',by rw [Bx e]; exact a,WH _ b⟩
structure Mj (H:Hp) (m:Addr) (n:Nat) (xs:List Str) (ws:List A5):Prop where
 ex:∃ t1 t2:Addr,∃ vs:List V,H m=some (.tup [.ref t1,.ref t2])/\H t1=some (.tup (xs.map V.str))/\H t2=some (.tup vs)/\BI H vs (ws.map Ml)
 len:xs.length=n
 nd:xs.Nodup
 nm:∀ x ∈ xs,C9 x=true
 wl:ws.length<=100
 wn:∀ u ∈ ws,C9 u.1=true/\C9 u.2.1=true/\1<=u.2.2/\u.2.2 < 10 ^ 30
structure Nm (J:It) (xs:List V) (S:Hp->Prop):Prop where
 go:∀ i H,S H->i < xs.length->J.go i H
 yld:∀ i H x H',S H->J.yld i H x H'->H'=H/\xs[i]? = some x
 stop:∀ H,S H->J.stop xs.length H
theorem Bf {K:Wm} {a:Addr} {xs:List V}:Nm (QZ K a) xs (fun H=>AD K H a xs):=
 ⟨fun i H q BH=>⟨xs,xs[i],q,by simp [BH]⟩,fun i H x H' q y=>⟨y.1,y.2 xs q⟩,fun H q=>⟨xs,q,Wq _⟩⟩
theorem Dp {K:Wm} {a:Addr} {xs:List V}:Nm (Nv K a) xs (fun H=>AG K H a xs):=
 ⟨fun i H q BH=>⟨xs,xs[i],q,by simp [BH]⟩,fun i H x H' q y=>⟨y.1,y.2 xs q⟩,fun H q=>⟨xs,q,Wq _⟩⟩
theorem BG {J:It} {xs:List V} {S:Hp->Prop} {g:TG} {te:TE} {H:Hp} {σ0:St} {R:Addr->Hp->Prop} (ov:Nm J xs S) (I:Addr->Nat->St->Hp->List V->Prop) (big:xs.length < sizeLine)
  (h0:∀ D,H D=none->I D 0 σ0 (upd H D (.lst [])) [])
  (hs:∀ D i σ H' acc,H D=none->I D i σ H' acc->S H'/\H' D=some (.lst acc)/\acc.length=i)
  (turn:∀ D i σ H' acc x (B:St->V->Hp->Prop),H D=none->xs[i]? = some x->I D i σ H' acc->(∀ A3 v H5,H5 D=some (.lst acc)->I D (i + 1) A3 (upd H5 D (.lst (acc ++ [v]))) (acc ++ [v])->B A3 v H5)->g x σ H' fun A3 H3=>te A3 H3 (B A3))
  (fin:∀ D σ H' acc,H D=none->I D xs.length σ H' acc->R D H') :
  ∀ D,H D=none->∃ W:Nat->Nat->St->Hp->Prop,(∃ m,W 0 m σ0 (upd H D (.lst []))) /\
   ∀ i m Aq H',W i m Aq H'->(J.stop i H'/\R D H')\/(J.go i H'/\∀ x H2,J.yld i H' x H2->g x Aq H2 fun A3 H3=>Kw A3 H3 fun b H4=>
    if b=true then te A3 H4 (fun v H5=>∃ acc,H5 D=some (.lst acc)/\acc.length < sizeLine/\∃ m',m' < m/\W (i + 1) m' A3 (upd H5 D (.lst (acc ++ [v])))) else ∃ m',m' < m/\W (i + 1) m' A3 H4):=by
 intro D hD;exists fun i m σ H'=>m=xs.length - i/\i<=xs.length/\∃ acc,I D i σ H' acc,⟨xs.length,rfl,WR _,[],h0 D hD⟩
 rintro i m σ H' ⟨rfl,hi,acc,p⟩;obtain ⟨s1,s2,s3⟩:=hs D i σ H' acc hD p;by_cases BH:i < xs.length
 ·refine .inr ⟨ov.go i H' s1 BH,fun x H2 y=>?_⟩;obtain ⟨rfl,ex⟩:=ov.yld i H' x H2 s1 y;have e:∀ (F:St->V->Hp->Prop) (G:St->Hp->Prop),(fun (A3:St) (H3:Hp)=>Kw A3 H3 fun b H4=>if b=true then te A3 H4 (F A3) else G A3 H4)=fun A3 H3=>te A3 H3 (F A3):=by
   intro F G;funext A3 H3;show (if true=true then te A3 H3 (F A3) else G A3 H3)=_
   rw [if_pos rfl]
  rw [e (fun A3 v H5=>∃ acc,H5 D=some (.lst acc)/\acc.length < sizeLine/\∃ m',m' < xs.length - i/\(m'=xs.length - (i + 1)/\i + 1<=xs.length/\∃ FH,I D (i + 1) A3 (upd H5 D (.lst (acc ++ [v]))) FH)) (fun A3 H4=>∃ m',m' < xs.length - i/\(m'=xs.length - (i + 1)/\i + 1<=xs.length/\∃ FH,I D (i + 1) A3 H4 FH))];refine turn D i σ H2 acc x _ hD ex p fun A3 v H5 d5 p5=>?_
  exact ⟨acc,d5,by lia,xs.length - (i + 1),by lia,rfl,BH,_,p5⟩
 ·have e:i=xs.length:=by lia
  subst e;exact .inl ⟨ov.stop H' s1,fin D σ H' acc hD p⟩
structure Cw (d:PyData) (k b:Nat):Prop where
 lay:d.canLay0=true
 sho:d.showable=true
 nod:d.hasDict=false
 lv:d.leavesShort 200=true
 dp:d.depth<=k
 bu:d.bulk<=b
theorem Cw.str {x:Str} (h:C9 x=true):Cw (.str x) 0 6:=by
 obtain ⟨l1,l2,lo⟩:=OF h;exists ?_,rfl,rfl,?_,Wq _
 ·have:=JV (xs:=[x]) (by simpa using h);simpa [PyData.canLayAll0,PyData.canLay0] using this
 ·have e:PyData.leavesShort 200 (.str x)=x.cps.toList.all fun c=>decide (c < 16 ^ 8):=by simp only [PyData.leavesShort]
  rw [e,Xo];intro c hc;have:=lo c hc;unfold OE at this;simp at this;apply decide_eq_true;lia
 ·show PyData.bulk (.str x)<=6
  simp only [PyData.bulk];exact l2
theorem Cw.mono {d:PyData} {k b k' b':Nat} (h:Cw d k b) (h1:k<=k') (h2:b<=b'):Cw d k' b':=⟨h.lay,h.sho,h.nod,h.lv,WJ h.dp h1,WJ h.bu h2⟩
theorem Cw.all {k b:Nat}:∀ {ds:List PyData},(∀ d ∈ ds,Cw d k b)->PyData.canLayAll0 ds=true/\PyData.showableAll ds=true/\PyData.hasDictAll ds=false/\PyData.leavesShortAll 200 ds=true/\PyData.depthAll ds<=k/\PyData.bulkAll ds<=ds.length * (b + 1)
 | [],_=>⟨rfl,rfl,rfl,rfl,WR _,WR _⟩
 | d :: ds,h=>by
  obtain ⟨a1,a2,a3,a4,a5,a6⟩:=Cw.all (ds:=ds) fun e he=>h e (WH _ he)
  have f:=h d W7;have f5:=f.dp;have f6:=f.bu;exists by simp [PyData.canLayAll0,f.lay,a1],by simp [PyData.showableAll,f.sho,a2],by simp [PyData.hasDictAll,f.nod,a3],by simp [PyData.leavesShortAll,f.lv,a4],?_
  ·simp only [PyData.depthAll];lia
  ·simp only [PyData.bulkAll,WO,Z7];lia
theorem Cw.tuple {ds:List PyData} {k b:Nat} (h:∀ d ∈ ds,Cw d k b):Cw (.tuple ds) (k + 1) (ds.length * (b + 1)):=by
 obtain ⟨a1,a2,a3,a4,a5,a6⟩:=Cw.all h;exact ⟨by simp only [PyData.canLay0]; exact a1,by simp only [PyData.showable]; exact a2,by simp only [PyData.hasDict]; exact a3,by simp only [PyData.leavesShort]; exact a4,by simp only [PyData.depth]; lia,by simp only [PyData.bulk]; exact a6⟩
theorem Cw.list {ds:List PyData} {k b:Nat} (h:∀ d ∈ ds,Cw d k b):Cw (.list ds) (k + 1) (ds.length * (b + 1)):=by
 obtain ⟨a1,a2,a3,a4,a5,a6⟩:=Cw.all h;exact ⟨by simp only [PyData.canLay0]; exact a1,by simp only [PyData.showable]; exact a2,by simp only [PyData.hasDict]; exact a3,by simp only [PyData.leavesShort]; exact a4,by simp only [PyData.depth]; lia,by simp only [PyData.bulk]; exact a6⟩
theorem Cw.len {d:PyData} {k b:Nat} (h:Cw d k b) (hb:b<=60000):d.shown.length<=sizeLine:=by
 have q:=PyData.shown_le_bulk 200 (by decide) d h.lv;have:=h.bu;have e:202 * d.bulk<=202 * 60000:=Nat.mul_le_mul_left _ (by lia);have:202 * 60000 + 200<=sizeLine:=by decide
 lia
abbrev DL:=Str × Int
def Ff (u:DL):PyData:=.tuple [.str u.1,.int u.2]
structure EH (xs:List Str) (lo:Int) (rs:List DL):Prop where
 sub:∀ r ∈ rs,r.1 ∈ xs
 nd:(rs.map (·.1)).Nodup
 lo:∀ r ∈ rs,lo<=r.2/\r.2 < 10 ^ 30
 one:1<=rs.length
theorem MY {xs:List Str} (h:∀ x ∈ xs,C9 x=true):∀ d ∈ xs.map PyData.str,Cw d 0 6:=by
 intro d hd;obtain ⟨u,hu,rfl⟩:=W4.mp hd;exact Cw.str (h u hu)
theorem Ob {H:Hp} {v:V} {u:DL} (h:J3 H v (Ff u)):∃ t,v=.ref t/\H t=some (.tup [.str u.1,.int u.2]):=by
 unfold Ff at h;cases h with
 | tup ha hd=>
  cases hd with
  | cons h1 r1=>
   cases r1 with
   | cons h2 r2=>
    cases r2
    cases h1
    cases h2
    exact ⟨_,rfl,ha⟩
theorem Gj {H:Hp} {t:Addr} {u:DL} (h:H t=some (.tup [.str u.1,.int u.2])):J3 H (.ref t) (Ff u):=.tup h (.cons (.str _) (.cons (.int _) .nil))
theorem Bc {H2 H3:Hp} {vs:List V} {rs:List DL} (h:BI H2 vs (rs.map Ff)) (ht:∀ b xs,H2 b=some (.tup xs)->H3 b=some (.tup xs)):BI H3 vs (rs.map Ff):=by
 induction rs generalizing vs with
 | nil=>cases h; exact .nil
 | cons u rs ih=>
  cases h with
  | cons h1 r=>
   obtain ⟨t,rfl,e⟩:=Ob h1;exact .cons (Gj (ht _ _ e)) (ih r)
theorem BS {H:Hp}:∀ {vs:List V} {rs:List DL} {i:Nat} {x:V},BI H vs (rs.map Ff)->vs[i]? = some x->∃ u t,rs[i]? = some u/\x=.ref t/\H t=some (.tup [.str u.1,.int u.2])
 | _,[],i,x,.nil,e=>by simp at e
 | _,u :: rs,0,x,.cons h r,e=>by
  simp only [X2,WA.injEq] at e;subst e;obtain ⟨t,rfl,q⟩:=Ob h;exact ⟨u,t,rfl,rfl,q⟩
 | _,u :: rs,i + 1,x,.cons h r,e=>by
  obtain ⟨u',t,a,b,c⟩:=BS r (by simpa using e);exact ⟨u',t,by simpa using a,b,c⟩
theorem B8 {H:Hp}:∀ {vs:List V} {rs:List DL},BI H vs (rs.map Ff)->vs.length=rs.length
 | _,[],.nil=>rfl
 | _,u :: rs,.cons h r=>by rw [WO,WO,B8 r]
def Lim (x:V) (d:PyData):Prop:=(x=.non/\d=.none)\/∃ i:Int,x=.int i/\d=.int i/\1<=i/\i < 10 ^ 30
end L2
namespace L2
open PySem PySem.Spec PySem.W PyProof.Rows
theorem IQ {X:Cx} {pins:List (Addr × Obj)} {σ:St} {H:Hp} {s:Shared} (I:An X pins σ H s) {kd:Nat->Bool}:∀ {vs:List V} {Aw:List Value},A7 vs Aw->(∀ v ∈ vs,Nl H kd v)->∀ u ∈ Aw,Lf s.heap kd u
 | _,_,.nil,_,_,hu=>nomatch hu
 | _,_,.cons r1 r2,hk,u,hu=>by
  rcases Wn.mp hu with rfl | hu
  ·exact (R7 I r1 (hk _ W7)).1
  ·exact IQ I r2 (fun v hv=>hk v (WH _ hv)) u hu
theorem Fv {X:Cx}:B0 X (.builtin "sorted") (fun xs H Q=>∃ (a:Addr) (vs:List V) (kd:Nat->Bool),xs=[.ref a]/\AD X.K H a vs/\(∀ v ∈ vs,Nl H kd v) /\
  ∀ (l:Addr) (Kn:List V),H l=none->Kn.Perm vs->Q (.ref l) (upd H l (.lst Kn))):=by
 intro pins s σ H xs us Q I r h;obtain ⟨a,vs,kd,rfl,ha,hk,q⟩:=h;obtain ⟨u,rfl,ru⟩:=Ci r;cases ru
 obtain ⟨Aw,rv,pl,hz⟩:=I.list ha;refine Qi pl.isList (by rw [<-rv.length]; exact hz) (HV (IQ I rv hk)) fun out o1=>?_
 obtain ⟨Kn,rv',pv⟩:=Mm o1 rv;obtain ⟨e,he⟩:=sortedAll_at s.heap Aw out.toArray;exact ⟨.ref (s.heap.objs.size + 1),_,I.laid (o:=.lst Kn) (t':=s.toks) (fun b o z=>sortedAll_old z) (WX _) ⟨by rw [pv.length_eq]; exact hz,out,e,rv',he⟩,rfl,q _ Kn (I.hok.fresh (WX _)) pv⟩
end L2
namespace L2
open PySem PySem.Spec PyProof.Rows
theorem Mj.keepT {H H':Hp} {m:Addr} {n:Nat} {xs:List Str} {ws:List A5} (h:Mj H m n xs ws) (t:∀ b ys,H b=some (.tup ys)->H' b=some (.tup ys)):Mj H' m n xs ws:=by
 obtain ⟨ta,tb,vs,a,b,c,e⟩:=h.ex;exact ⟨⟨ta,tb,vs,t _ _ a,t _ _ b,t _ _ c,ET e t⟩,h.len,h.nd,h.nm,h.wl,h.wn⟩
theorem Ks {x y x' y':Str} (p:[x',y'].Perm [x,y]) (h:sortedS [x',y']=true):x'=BL x y/\y'=BN x y:=by
 have h1:=Ms h;have h2:[BL x y,BN x y].Pairwise fun a b=>¬ b.cps.toList < a.cps.toList:=by
  refine List.pairwise_pair.mpr ?_;unfold BL BN;by_cases a:y.cps.toList < x.cps.toList
  ·rw [if_pos a,if_neg (fun z=>Ct _ (X7 a z))];exact fun z=>Ct _ (X7 a z)
  ·rw [if_neg a];by_cases b:x.cps.toList < y.cps.toList
   ·rw [if_pos b];exact a
   ·rw [if_neg b];exact Ct _
 have p2:[BL x y,BN x y].Perm [x,y]:=by
  unfold BL BN;by_cases a:y.cps.toList < x.cps.toList
  ·rw [if_pos a,if_neg (fun z=>Ct _ (X7 a z))];exact .swap _ _ _
  ·rw [if_neg a];by_cases b:x.cps.toList < y.cps.toList
   ·rw [if_pos b]
   ·rw [if_neg b];have e:x=y:=C3 a b;rw [e]
 have e:=Mt h1 h2 (p.trans p2.symm);simp only [Ya.injEq,and_true] at e;exact e
structure EI (H:Hp) (m:Addr) (n:Nat) (ps:List Str) (ws:List A5):Prop where
 at':Mj H m n ps ws
 dr:∃ (xs:List Str) (R3:List A5),ps.Perm xs/\ws.Perm (R3.map DW)/\E6 xs R3
 so:sortedS ps=true
 l64:ws.length < 64
theorem EI.web {H:Hp} {m:Addr} {n:Nat} {ps:List Str} {ws:List A5} (h:EI H m n ps ws) (n1:1<=n) (n30:n<=30) :
  ∃ r,Hu H m ps ws r/\(∀ u ∈ ws,1<=u.2.2)/\(∀ x y l l',BV ws x y l->BV ws x y l'->l=l'):=by
 obtain ⟨xs,R3,pp,wp,wof,sep,jn⟩:=h.dr;have pl:0 < ps.length:=by rw [h.at'.len]; lia
 have V4:ps[0] ∈ xs:=pp.mem_iff.mp (Xb pl);have en:=fun x y l=>Iz wp x y l
 refine ⟨ps[0],⟨⟨h.at'.ex⟩,h.at'.nd,by rw [h.at'.len]; lia,h.l64,fun u hu=>?_,Wk pl,fun Sp hs hcl z hz=>?_⟩,fun u hu=>(h.at'.wn u hu).2.2.1,fun x y l l' e1 e2=>MZ sep ((en x y l).mp e1) ((en x y l').mp e2)⟩
 ·obtain ⟨q1,q2⟩:=Iy wp (fun u hu=>⟨(wof u hu).1,(wof u hu).2.1⟩) u hu;exact ⟨pp.mem_iff.mpr q1,pp.mem_iff.mpr q2⟩
 ·exact Jx.all jn Sp (fun b c hbc=>hcl b c ((Po wp b c).mpr hbc)) V4 hs z (pp.mem_iff.mp hz)
section
variable {prog:Program} {w:World} {A:Around} {R:Result->Shared->Prop} {g0:Heap} {D it l:Addr} {vs:List Value} {ps:List (Str × V)}
end
section
variable {prog:Program} {w:World} {A:Around} {E:Value->Shared->Prop} {s:Shared}
end
structure BZ (H:Hp) (c m:Addr) (n:Nat) (xs:List Str) (ws:List A5) (A9 AJ:List DL) (x:V) (d:PyData):Prop where
 ex:∃ (t1 t2:Addr) (De HU:List V),H c=some (.tup [.ref m,.ref t1,.ref t2,x])/\H t1=some (.tup De)/\BI H De (A9.map Ff)/\H t2=some (.tup HU)/\BI H HU (AJ.map Ff)
 map:EI H m n xs ws
 n1:1<=n
 n30:n<=30
 ok1:EH xs 0 A9
 ok2:EH xs 1 AJ
 l1:A9.length<=10
 l2:AJ.length<=30
 lim:Lim x d
theorem EI.keepT {H H':Hp} {m:Addr} {n:Nat} {xs:List Str} {ws:List A5} (h:EI H m n xs ws) (t:∀ b ys,H b=some (.tup ys)->H' b=some (.tup ys)):EI H' m n xs ws:=⟨h.at'.keepT t,h.dr,h.so,h.l64⟩
theorem BZ.keepT {H H':Hp} {c m:Addr} {n:Nat} {xs:List Str} {ws:List A5} {A9 AJ:List DL} {x:V} {d:PyData} (h:BZ H c m n xs ws A9 AJ x d) (t:∀ b ys,H b=some (.tup ys)->H' b=some (.tup ys)):BZ H' c m n xs ws A9 AJ x d:=by
 obtain ⟨t1,t2,De,HU,a,b,e,f,g⟩:=h.ex;exact ⟨⟨t1,t2,De,HU,t _ _ a,t _ _ b,Bc e t,t _ _ f,Bc g t⟩,h.map.keepT t,h.n1,h.n30,h.ok1,h.ok2,h.l1,h.l2,h.lim⟩
theorem BZ.same {H H':Hp} {c m:Addr} {n:Nat} {xs:List Str} {ws:List A5} {A9 AJ:List DL} {x:V} {d:PyData} (h:BZ H c m n xs ws A9 AJ x d) (s:Au H H'):BZ H' c m n xs ws A9 AJ x d:=h.keepT fun b ys z=>s _ _ z
section
variable {prog:Program} {w:World} {A:Around} {E:Value->Shared->Prop} {s:Shared}
end
section
variable {prog:Program} {w:World} {A:Around} {E:Value->Shared->Prop} {s:Shared}
end
def Dd (H:Hp) (A:Addr) (xs:List Str) (ws:List A5):Prop:=∃ (M:Str->Str->Option Int) (c:Nat),MD H A M c/\∀ x ∈ xs,∀ y ∈ xs,∃ n,M x y=some n/\Jy ws x y n/\0<=n/\n < 2 ^ 300
theorem Dd.same {H H':Hp} {A:Addr} {xs:List Str} {ws:List A5} (h:Dd H A xs ws) (s:Au H H'):Dd H' A xs ws:=let ⟨M,c,a,b⟩:=h; ⟨M,c,a.same s,b⟩
theorem BB {J:It} {xs:List V} {S:Hp->Prop} {g:TG} {tt:TT} {te:TE} {H:Hp} {σ0:St} {R:Addr->Hp->Prop} (ov:Nm J xs S) (I:Addr->Nat->St->Hp->List V->Prop) (big:xs.length < sizeLine)
  (h0:∀ D,H D=none->I D 0 σ0 (upd H D (.lst [])) [])
  (hs:∀ D i σ H' acc,H D=none->I D i σ H' acc->S H'/\H' D=some (.lst acc)/\acc.length<=i)
  (turn:∀ D i σ H' acc x (B:St->V->Hp->Prop) (N:St->Hp->Prop),H D=none->xs[i]? = some x->I D i σ H' acc->(∀ A3 v H5,H5 D=some (.lst acc)->I D (i + 1) A3 (upd H5 D (.lst (acc ++ [v]))) (acc ++ [v])->B A3 v H5) ->
   (∀ A3 H4,I D (i + 1) A3 H4 acc->N A3 H4)->g x σ H' fun A3 H3=>tt A3 H3 fun b H4=>if b=true then te A3 H4 (B A3) else N A3 H4)
  (fin:∀ D σ H' acc,H D=none->I D xs.length σ H' acc->R D H') :
  ∀ D,H D=none->∃ W:Nat->Nat->St->Hp->Prop,(∃ m,W 0 m σ0 (upd H D (.lst []))) /\
   ∀ i m Aq H',W i m Aq H'->(J.stop i H'/\R D H')\/(J.go i H'/\∀ x H2,J.yld i H' x H2->g x Aq H2 fun A3 H3=>tt A3 H3 fun b H4=>
    if b=true then te A3 H4 (fun v H5=>∃ acc,H5 D=some (.lst acc)/\acc.length < sizeLine/\∃ m',m' < m/\W (i + 1) m' A3 (upd H5 D (.lst (acc ++ [v])))) else ∃ m',m' < m/\W (i + 1) m' A3 H4):=by
 intro D hD;exists fun i m σ H'=>m=xs.length - i/\i<=xs.length/\∃ acc,I D i σ H' acc,⟨xs.length,rfl,WR _,[],h0 D hD⟩
 rintro i m σ H' ⟨rfl,hi,acc,p⟩;obtain ⟨s1,s2,s3⟩:=hs D i σ H' acc hD p;by_cases BH:i < xs.length
 ·refine .inr ⟨ov.go i H' s1 BH,fun x H2 y=>?_⟩;obtain ⟨rfl,ex⟩:=ov.yld i H' x H2 s1 y;refine turn D i σ H2 acc x (fun A3 v H5=>∃ acc,H5 D=some (.lst acc)/\acc.length < sizeLine/\∃ m',m' < xs.length - i/\(m'=xs.length - (i + 1)/\i + 1<=xs.length/\∃ FH,I D (i + 1) A3 (upd H5 D (.lst (acc ++ [v]))) FH)) (fun A3 H4=>∃ m',m' < xs.length - i/\(m'=xs.length - (i + 1)/\i + 1<=xs.length/\∃ FH,I D (i + 1) A3 H4 FH)) hD ex p (fun A3 v H5 d5 p5=>?_) fun A3 H4 p4=>?_
  ·exact ⟨acc,d5,by lia,xs.length - (i + 1),by lia,rfl,BH,_,p5⟩
  ·exact ⟨xs.length - (i + 1),by lia,rfl,BH,_,p4⟩
 ·have e:i=xs.length:=by lia
  subst e;exact .inl ⟨ov.stop H' s1,fin D σ H' acc hD p⟩
theorem Bo.app' {ws:List A5} {x y z:Str} {m n:Int} (h:Bo ws x y m) (g:Bo ws y z n):Bo ws x z (m + n):=by
 induction h with
 | nil x=>rw [YG]; exact g
 | cons e _ ih=>rw [YV]; exact .cons e (ih g)
theorem KO {xs:List Str} {ws:List A5} (jn:Jx xs ws) {L:Int} (L0:0<=L) (hL:∀ u ∈ ws,u.2.2<=L) (hp:∀ u ∈ ws,1<=u.2.2) {r:Str} (hr:xs[0]? = some r):∀ (j:Nat) x,xs[j]? = some x->∃ m,Bo ws x r m/\0<=m/\m<=j * L:=by
 intro j;induction j using Nat.strongRecOn with
 | ind j ih=>
  intro x hx;by_cases z:j=0
  ·subst z;rw [hr] at hx;cases hx
   exact ⟨0,.nil _,Xk _,by simp⟩
  ·obtain ⟨u,hu,i,hij,e1,e2⟩:=jn j (by lia) (Wt.mp hx).1;rw [hx] at e2;cases e2
   obtain ⟨m,w,m0,ml⟩:=ih i hij _ e1;have hl:=hL u hu;have hq:=hp u hu;exists u.2.2 + m,.cons ⟨u,hu,.inr ⟨rfl,rfl⟩,rfl⟩ w,by lia
   have:((i:Int) + 1) * L<=j * L:=YK (by lia) L0;rw [Int.add_mul,Int.one_mul] at this;lia
theorem EI.sums {H:Hp} {m:Addr} {n:Nat} {ps:List Str} {ws:List A5} (h:EI H m n ps ws) (n1:1<=n) (n30:n<=30):∀ x ∈ ps,∀ y ∈ ps,∃ k,Bo ws x y k/\0<=k/\k < 2 ^ 300:=by
 obtain ⟨xs,R3,pp,wp,wof,sep,jn⟩:=h.dr;have en:=fun x y l=>Iz wp x y l
 have xl:xs.length=n:=by rw [<-pp.length_eq]; exact h.at'.len
 have hr:xs[0]? = some (xs[0]'(by lia)):=Wk _;have hL:∀ u ∈ R3,u.2.2<=10 ^ 30:=fun u hu=>by
  have:=(h.at'.wn (DW u) (wp.mem_iff.mpr (W4.mpr ⟨u,hu,rfl⟩))).2.2.2;have e:(DW u).2.2=u.2.2:=rfl;lia
 have one:∀ x ∈ ps,∃ k,Bo R3 x (xs[0]'(by lia)) k/\0<=k/\k<=30 * 10 ^ 30:=fun x hx=>by
  obtain ⟨j,hj,ej⟩:=W2 (pp.mem_iff.mp hx);obtain ⟨k,a,b,c⟩:=KO jn (by decide) hL (fun u hu=>(wof u hu).2.2.2) hr j x (by rw [Wk hj,ej]);refine ⟨k,a,b,Int.le_trans c (YK (by lia) (by decide))⟩
 intro x hx y hy;obtain ⟨k1,a1,b1,c1⟩:=one x hx;obtain ⟨k2,a2,b2,c2⟩:=one y hy;have a3:=(Nz en).mpr (Bo.app' a1 a2.symm);exact ⟨k1 + k2,a3,by lia,by lia⟩
theorem Bo.pos' {ws:List A5} (hp:∀ u ∈ ws,1<=u.2.2) {x y:Str} {m:Int} (h:Bo ws x y m):0<=m:=by
 induction h with
 | nil=>exact Xk _
 | cons e _ ih=>obtain ⟨u,hu,_,rfl⟩:=e; have:=hp u hu; lia
theorem EI.bound {H:Hp} {m:Addr} {n:Nat} {ps:List Str} {ws:List A5} (h:EI H m n ps ws) (n1:1<=n) (n30:n<=30) {x y:Str} (hx:x ∈ ps) (hy:y ∈ ps) {k:Int} (d:Jy ws x y k):0<=k/\k < 2 ^ 300:=by
 obtain ⟨k',a,_,c⟩:=h.sums n1 n30 x hx y hy;exact ⟨d.1.pos' fun u hu=>(h.at'.wn u hu).2.2.1,Zr (d.2 k' a) c⟩
theorem FW.doneW {ws:List A5} {xs:List Str} (he:∀ u ∈ ws,u.1 ∈ xs/\u.2.1 ∈ xs) (ex:∀ x ∈ xs,∀ y ∈ xs,∃ m,Bo ws x y m) {M:Str->Str->Option Int} (h:FW ws xs xs.length M):∀ x ∈ xs,∀ y ∈ xs,∃ n,M x y=some n/\Jy ws x y n:=by
 intro x hx y hy;obtain ⟨m,hm⟩:=ex x hx y hy;have low:∀ m,Bo ws x y m->∃ n,M x y=some n/\n<=m:=fun m g=>by
  rcases g.wi he with ⟨rfl,rfl⟩ | g
  ·exact h.diag x hx
  ·refine h.comp x y m ?_;rw [WD];exact g
 obtain ⟨n,e,_⟩:=low m hm;refine ⟨n,e,h.sound x y n e,fun m' g=>?_⟩;obtain ⟨n',e',l⟩:=low m' g;rw [e] at e';cases e'
 exact l
theorem EI.apart {H:Hp} {m:Addr} {n:Nat} {ps:List Str} {ws:List A5} (h:EI H m n ps ws) {u:A5} (hu:u ∈ ws):u.1 ≠ u.2.1:=by
 obtain ⟨xs,R3,pp,wp,wof,_⟩:=h.dr;obtain ⟨v,hv,rfl⟩:=W4.mp (wp.mem_iff.mp hu);have ne:=(wof v hv).2.2.1;show BL v.1 v.2.1 ≠ BN v.1 v.2.1
 unfold BL BN;by_cases a:v.2.1.cps.toList < v.1.cps.toList
 ·rw [if_pos a,if_neg (fun z=>Ct _ (X7 a z))];exact fun z=>ne z.symm
 ·rw [if_neg a];by_cases b:v.1.cps.toList < v.2.1.cps.toList
  ·rw [if_pos b]; exact ne
  ·exact absurd (C3 a b) ne
theorem Cw.intB {i:Int} (h0:0<=i) (h:i < 2 ^ 600):Cw (.int i) 0 0:=by
 have hn:i.natAbs < 2 ^ 600:=by lia
 have l:i.natAbs.log2 < 600:=by
  by_cases z:i.natAbs=0
  ·rw [z]; decide
  ·exact (Nat.log2_lt z).mpr hn
 have e:PyData.leavesShort 200 (.int i)=decide ((PyData.shown (.int i)).length<=200):=by simp only [PyData.leavesShort]
 refine ⟨rfl,?_,rfl,?_,Wq _,Wq _⟩
 ·simp only [PyData.showable];exact decide_eq_true (by lia)
 ·rw [e];apply decide_eq_true;have q:=int_text_length_le10 (a:=i) (k:=190) (by decide) (Ws hn (by decide));have e2:PyData.shown (.int i)=Str.ofString (toString i):=by simp only [PyData.shown]
  rw [e2,PySem.ofString_length];lia
end L2
namespace L2
open PySem
theorem Kb {K:Wm} {a:Addr} {xs:List V} {g:TG} {tb:TS} {D:DN} {σ:St} {H:Hp} (Pv:Nat->St->Hp->Prop) (h0:Pv 0 σ H) (hl:∀ i σ H,i<=xs.length->Pv i σ H->AG K H a xs)
  (hs:∀ i x σ H,xs[i]? = some x->Pv i σ H->∀ (rt:VK) (bk:St->Hp->Prop),g x σ H fun A3 H2=>tb ⟨Pv (i + 1),rt,bk,Pv (i + 1)⟩ A3 H2) (hd:∀ σ H,Pv xs.length σ H->D.nx σ H) :
  ∃ W:Nat->Nat->St->Hp->Prop,(∃ m,W 0 m σ H)/\∀ i m σ H,W i m σ H ->
   ((Nv K a).stop i H/\D.nx σ H)\/((Nv K a).go i H/\∃ N:St->Hp->Prop,(∀ Aq H',N Aq H'->∃ m',m' < m/\W (i + 1) m' Aq H')/\∀ x H',(Nv K a).yld i H x H'->g x σ H' fun A3 H2=>tb { D with nx:=N,ct:=N,bk:=D.nx } A3 H2):=
 Gq Pv h0 hl (fun i x σ H hx hp=>hs i x σ H hx hp D.rt D.nx) hd
theorem MX {a:Addr} {kvs:List (AV × V)} {o:Obj} {g:TG} {tb:TS} {D:DN} {σ:St} {H:Hp} (Pv:Nat->St->Hp->Prop) (h0:Pv 0 σ H) (hl:∀ i σ H,i<=kvs.length->Pv i σ H->H a=some (.frz o (.dK kvs)))
  (hs:∀ i k v σ H,kvs[i]? = some (k,v)->Pv i σ H->∀ (rt:VK) (bk:St->Hp->Prop),g (kV k) σ H fun A3 H2=>tb ⟨Pv (i + 1),rt,bk,Pv (i + 1)⟩ A3 H2) (hd:∀ σ H,Pv kvs.length σ H->D.nx σ H) :
  ∃ W:Nat->Nat->St->Hp->Prop,(∃ m,W 0 m σ H)/\∀ i m σ H,W i m σ H ->
   ((Ra a kvs o).stop i H/\D.nx σ H)\/((Ra a kvs o).go i H/\∃ N:St->Hp->Prop,(∀ Aq H',N Aq H'->∃ m',m' < m/\W (i + 1) m' Aq H')/\∀ x H',(Ra a kvs o).yld i H x H'->g x σ H' fun A3 H2=>tb { D with nx:=N,ct:=N,bk:=D.nx } A3 H2):=
 OW Pv h0 hl (fun i k v σ H hx hp=>hs i k v σ H hx hp D.rt D.nx) hd
theorem C7 {K:Wm} {a:Addr} {xs:List V} {g:TG} {tb:TS} {D:DN} {σ:St} {H:Hp} (Pv:Nat->St->Hp->Prop) (h0:Pv 0 σ H) (hl:∀ i σ H,i<=xs.length->Pv i σ H->AG K H a xs)
  (hs:∀ i x σ H,xs[i]? = some x->Pv i σ H->∀ (rt:VK) (bk N:St->Hp->Prop),(∀ σ H,Pv (i + 1) σ H->N σ H)->g x σ H fun A3 H2=>tb ⟨N,rt,bk,N⟩ A3 H2) (hd:∀ σ H,Pv xs.length σ H->D.nx σ H) :
  ∃ W:Nat->Nat->St->Hp->Prop,(∃ m,W 0 m σ H)/\∀ i m σ H,W i m σ H ->
   ((Nv K a).stop i H/\D.nx σ H)\/((Nv K a).go i H/\∃ N:St->Hp->Prop,(∀ Aq H',N Aq H'->∃ m',m' < m/\W (i + 1) m' Aq H')/\∀ x H',(Nv K a).yld i H x H'->g x σ H' fun A3 H2=>tb { D with nx:=N,ct:=N,bk:=D.nx } A3 H2):=
 Gq Pv h0 hl (fun i x σ H hx hp=>hs i x σ H hx hp D.rt D.nx _ fun _ _ z=>z) hd
theorem Hh {lo:Int} {n:Nat} {g:TG} {tb:TS} {D:DN} {σ:St} {H:Hp} (Pv:Nat->St->Hp->Prop) (h0:Pv 0 σ H)
  (hs:∀ i σ H,i < n->Pv i σ H->∀ (rt:VK) (bk N:St->Hp->Prop),(∀ σ H,Pv (i + 1) σ H->N σ H)->g (.int (lo + i)) σ H fun A3 H2=>tb ⟨N,rt,bk,N⟩ A3 H2) (hd:∀ σ H,Pv n σ H->D.nx σ H) :
  ∃ W:Nat->Nat->St->Hp->Prop,(∃ m,W 0 m σ H)/\∀ i m σ H,W i m σ H ->
   ((Nn lo n).stop i H/\D.nx σ H)\/((Nn lo n).go i H/\∃ N:St->Hp->Prop,(∀ Aq H',N Aq H'->∃ m',m' < m/\W (i + 1) m' Aq H')/\∀ x H',(Nn lo n).yld i H x H'->g x σ H' fun A3 H2=>tb { D with nx:=N,ct:=N,bk:=D.nx } A3 H2):=
 Dw Pv h0 (fun i σ H hx hp=>hs i σ H hx hp D.rt D.nx _ fun _ _ z=>z) hd
theorem FD {K:Wm} {a:Addr} {xs:List V} {g:TG} {tb:TS} {D:DN} {σ:St} {H:Hp} (Pv:Nat->St->Hp->Prop) (h0:Pv 0 σ H) (hl:∀ i σ H,i<=xs.length->Pv i σ H->AD K H a xs)
  (hs:∀ i x σ H,xs[i]? = some x->Pv i σ H->∀ (rt:VK) (bk N:St->Hp->Prop),(∀ σ H,Pv (i + 1) σ H->N σ H)->g x σ H fun A3 H2=>tb ⟨N,rt,bk,N⟩ A3 H2) (hd:∀ σ H,Pv xs.length σ H->D.nx σ H) :
  ∃ W:Nat->Nat->St->Hp->Prop,(∃ m,W 0 m σ H)/\∀ i m σ H,W i m σ H ->
   ((QZ K a).stop i H/\D.nx σ H)\/((QZ K a).go i H/\∃ N:St->Hp->Prop,(∀ Aq H',N Aq H'->∃ m',m' < m/\W (i + 1) m' Aq H')/\∀ x H',(QZ K a).yld i H x H'->g x σ H' fun A3 H2=>tb { D with nx:=N,ct:=N,bk:=D.nx } A3 H2):=
 Hi Pv h0 hl (fun i x σ H hx hp=>hs i x σ H hx hp D.rt D.nx _ fun _ _ z=>z) hd
end L2
namespace L2
open PySem PySem.Spec PyProof.Rows
theorem Ey {M:Model} {A:Around} {E:Value->Shared->Prop} {s:Shared} {scope:Scope} {globals:Addr} {closure:List (Str × Addr)} {qual:Str} {func:Option Addr} {code:Value} {outer:Env} {builtins:Addr} {Q:Env->Shared->Prop}
  (hQ:Q (newEnv scope s.heap.objs.size globals (cellsFrom (s.heap.objs.size + 1) scope.names closure) qual func code (some outer) builtins) { s with heap:=pushCells (s.heap.push { cls:=.type "dict",data:=.dict #[] }) scope.names }) :
  wpAny M A (newFunctionEnv scope globals closure [] qual func code (some outer) builtins) Q E s:=by
 simp only [newFunctionEnv,Zh,if_true];refine wpAny_bind (wpAny_alloc ?_);refine wpAny_bind (wpAny_layCells _ (fun name kind cells=>by cases hkc:kind == NameKind.cell <;> simp [hkc]) _ _ _ _ ?_);rw [show ({ s with heap:=s.heap.push { cls:=.type "dict",data:=.dict #[] } }:Shared).heap.objs.size=s.heap.objs.size + 1 from WY ..];refine wpAny_bind ?_;rw [List.forIn_nil];exact wpAny_pure (wpAny_pure hQ)
theorem Ep:∀ (names:List (Str × NameKind)) (h:Heap) (acc:List (Str × Addr)) (lo:Nat),lo<=h.objs.size->(∀ x c,(x,c) ∈ acc->c < lo\/(lo<=c/\c < h.objs.size/\h.IsCell c none)) ->
  ∀ x c,(x,c) ∈ cellsFrom h.objs.size names acc->(x,c) ∈ acc\/(lo<=c/\(pushCells h names).IsCell c none)
 | [],h,acc,lo,_,_,x,c,hm=>.inl hm
 | (name,kind) :: r,h,acc,lo,hlo,ha,x,c,hm=>by
  unfold cellsFrom at hm;unfold pushCells;split at hm
  ·rename_i hk
   rw [if_pos hk];rw [show h.objs.size + 1=(h.push { cls:=.type "cell",data:=.cell none }).objs.size from (WY ..).symm] at hm;rcases Ep r (h.push { cls:=.type "cell",data:=.cell none }) ((name,h.objs.size) :: acc) lo (by rw [WY]; lia) (fun y d hy=>by
    rcases Wn.mp hy with e | hy
    ·cases e
     exact .inr ⟨hlo,by rw [WY]; exact WM _,_,W0 _ rfl,rfl⟩
    ·rcases ha y d hy with z | ⟨z1,z2,z3⟩
     ·exact .inl z
     ·exact .inr ⟨z1,by rw [WY]; exact WK z2,z3.keeps fun b o e=>Wl _ e⟩) x c hm with q | q
   ·rcases Wn.mp q with e | q
    ·cases e
     exact .inr ⟨hlo,_,pushCells_keeps _ _ _ _ (W0 _ rfl),rfl⟩
    ·exact .inl q
   ·exact .inr q
  ·rename_i hk
   rw [if_neg hk];exact Ep r h acc lo hlo ha x c hm
theorem CZ:∀ (names:List (Str × NameKind)) (n:Nat) (acc:List (Str × Addr)),(acc.Pairwise fun x y=>x.2 ≠ y.2)->(∀ x c,(x,c) ∈ acc->c < n)->(cellsFrom n names acc).Pairwise fun x y=>x.2 ≠ y.2
 | [],n,acc,h,_=>h
 | (name,kind) :: r,n,acc,h,ha=>by
  unfold cellsFrom;split
  ·refine CZ r (n + 1) ((name,n) :: acc) (Yn.mpr ⟨fun y hy e=>?_,h⟩) fun x c hm=>?_
   ·have:=ha y.1 y.2 hy;have e':n=y.2:=e;exact absurd this (by rw [<-e']; exact WT _)
   ·rcases Wn.mp hm with e | hm
    ·cases e; exact WM _
    ·exact WK (ha x c hm)
  ·exact CZ r n acc h ha
theorem Ce {α:Type}:∀ {l:List (Str × α)} {x:Str} {c:α},(x,c) ∈ l->∃ d,l.lookup x=some d
 | (k,v) :: r,x,c,h=>by
  rw [Yu];cases hb:x == k with
  | true=>exact ⟨v,rfl⟩
  | false=>
   rcases Wn.mp h with e | h
   ·cases e; simp at hb
   ·exact Ce h
theorem Er:∀ (names:List (Str × NameKind)) (n:Nat) (acc:List (Str × Addr)) (x:Str),((x,NameKind.cell) ∈ names\/∃ c,(x,c) ∈ acc)->∃ c,(x,c) ∈ cellsFrom n names acc
 | [],n,acc,x,h=>by
  rcases h with h | h
  ·cases h
  ·exact h
 | (name,kind) :: r,n,acc,x,h=>by
  unfold cellsFrom;split
  ·rename_i hk
   refine Er r (n + 1) ((name,n) :: acc) x ?_;rcases h with h | ⟨c,h⟩
   ·rcases Wn.mp h with e | h
    ·cases e; exact .inr ⟨n,W7⟩
    ·exact .inl h
   ·exact .inr ⟨c,WH _ h⟩
  ·rename_i hk
   refine Er r n acc x ?_;rcases h with h | h
   ·rcases Wn.mp h with e | h
    ·cases e; exact absurd rfl hk
    ·exact .inl h
   ·exact .inr h
abbrev AB (X:Cx) (scope:Scope) (cl:List (Str × Addr)) (N:List Str) (s2:Shared) (H:Hp) (C:Addr) (fp:List Addr) (fn:Str->Bool):Cx:={ As X scope cl N s2 H C fp with fn:=fn }
theorem Eo (n0:Nat):∀ (names:List (Str × NameKind)) (n:Nat) (acc:List (Str × Addr)) (x:Str) (c:Addr),n0<=n->((x,NameKind.cell) ∈ names\/∃ d,acc.lookup x=some d/\n0<=d)->(cellsFrom n names acc).lookup x=some c->n0<=c
 | [],n,acc,x,c,_,h,e=>by
  rcases h with h | ⟨d,h1,h2⟩
  ·cases h
  ·have e':acc.lookup x=some c:=e;rw [h1] at e';cases e'
   exact h2
 | (name,kind) :: r,n,acc,x,c,hn,h,e=>by
  unfold cellsFrom at e;split at e
  ·rename_i hk
   refine Eo n0 r (n + 1) ((name,n) :: acc) x c (XX hn) ?_ e;by_cases ex:x=name
   ·refine .inr ⟨n,?_,hn⟩;rw [ex,Yu,beq_self_eq_true]
   ·have hb:(x == name)=false:=beq_eq_false_iff_ne.mpr ex;rcases h with h | ⟨d,h1,h2⟩
    ·rcases Wn.mp h with z | z
     ·injection z with z1 z2;exact absurd z1 ex
     ·exact .inl z
    ·exact .inr ⟨d,by rw [Yu,hb]; exact h1,h2⟩
  ·rename_i hk
   refine Eo n0 r n acc x c hn ?_ e;rcases h with h | h
   ·rcases Wn.mp h with z | z
    ·cases z; exact absurd rfl hk
    ·exact .inl z
   ·exact .inr h
structure CD (X:Cx) (scope:Scope) (cl:List (Str × Addr)):Prop where
 clos:closureFor scope X.env=pure cl
 kind:scope.kind=.function
 names:∀ y ∈ scope.names,y.2=.local->scope.names.lookup y.1=some .local
 sub:∀ x c,(x,c) ∈ cl->X.env.cells.lookup x=some c
 apart:(cl.Pairwise fun x y=>x.2 ≠ y.2)
 has:∀ x,((relabel scope X.env).names.lookup x=some .cell\/(relabel scope X.env).names.lookup x=some .free)->(x,NameKind.cell) ∈ scope.names\/∃ c,(x,c) ∈ cl
theorem D8:∀ (names:List (Str × NameKind)) (n:Nat) (acc:List (Str × Addr)) (x:Str) (c:Addr),(x,c) ∈ cellsFrom n names acc->(x,NameKind.cell) ∉ names->(x,c) ∈ acc
 | [],n,acc,x,c,h,_=>h
 | (name,kind) :: r,n,acc,x,c,h,hn=>by
  unfold cellsFrom at h;split at h
  ·rename_i hk
   have PH:kind=.cell:=by cases kind <;> first | rfl | cases hk
   rcases Wn.mp (D8 r (n + 1) ((name,n) :: acc) x c h fun z=>hn (WH _ z)) with e | e
   ·cases e
    exact absurd (by rw [PH]; exact W7) hn
   ·exact e
  ·exact D8 r n acc x c h fun z=>hn (WH _ z)
section
variable {X:Cx} {pins:List (Addr × Obj)} {σ Aq:St} {H H':Hp} {s2 s':Shared} {scope:Scope} {cl:List (Str × Addr)} {N:List Str} {fp:List Addr} {C D:Addr} {AA h':Heap} {t':Nat}
theorem Kf {fn:Str->Bool} {Wd:List (Str × Addr)} (I:An X pins σ H s2) (hf:∀ b ∈ fp,CN X pins H b) (hfo:∀ b ∈ fp,∃ o,s2.heap.get? b=some o) (co:CD X scope Wd) (sub:∀ x c,cl.lookup x=some c->X.env.cells.lookup x=some c\/(s2.heap.objs.size<=c/\c ≠ D/\c ≠ C/\AA.IsCell c none)) (inj:∀ x y c,cl.lookup x=some c->cl.lookup y=some c->x=y) (own:∀ x c,fn x=true->cl.lookup x=some c->s2.heap.objs.size<=c)
  (has:∀ x,((relabel scope X.env).names.lookup x=some .cell\/(relabel scope X.env).names.lookup x=some .free)->∃ c,cl.lookup x=some c) (keepS:∀ (i:Nat) (x:Str) (v:V),N[i]? = some x->Aq[i]? = some (some v)->∀ c,cl.lookup x=some c->X.env.cells.lookup x=some c) (hσ:AK X cl scope N σ Aq)
  (k:∀ b o,s2.heap.get? b=some o->AA.get? b=some o) (hD:s2.heap.objs.size<=D) (hC:s2.heap.objs.size<=C) (hDC:C ≠ D)
  (new:AA.get? D=some { cls:=.type "list",data:=.seq ([]:List Value).toArray 0 }\/∃ n,AA.get? D=some { cls:=.type "list",data:=.seq ([]:List Value).toArray n }) {m:Str->Option Value} (hn:AA.Ns C m) :
  An (AB X scope cl N s2 H C fp fn) [] Aq (upd H D (.lst [])) { s2 with heap:=AA,toks:=t' }:=by
 have fD:H D=none:=I.hok.fresh hD;have fC:H C=none:=I.hok.fresh hC;have newO:A6 X.prog X.w (upd H D (.lst [])) AA D (.lst []):=by
  exists WR _,[]
  rcases new with e | ⟨n,e⟩
  ·exact ⟨0,.nil,e⟩
  ·exact ⟨n,.nil,e⟩
 have lts:∀ b ∈ fp,b < s2.heap.objs.size:=fun b hb=>let ⟨_,e⟩:=hfo b hb; Wr e
 have ok:Cx.Ok (AB X scope cl N s2 H C fp fn):=by
  refine ⟨I.ok.mod,?_,I.ok.glob,I.ok.blt,hC,?_,?_,?_,I.ok.hd,I.ok.frames,.inl rfl,?_,I.bs,WJ I.ok.bsz I.sz,?_,?_,I.stack,I.stkFree⟩
  ·exact co.kind
  ·exact inj
  ·exact has
  ·exact own
  ·intro b hb;refine ⟨fun e=>?_,fun x c e=>by
    rcases sub x c e with z | ⟨z,_⟩
    ·exact (hf b hb).2.2.2.2.1 x c z
    ·exact Xa (Ws (lts b hb) z)⟩
   have z:=lts b hb;exact absurd (Ws z hC) (by rw [show b=C from e]; exact WT _)
  ·intro b o e hb;have Fz:b ∈ fp:=hb;rcases (hf b Fz).2.2.2.1 with z | z
   ·exact I.ok.noex b o e z
   ·exact absurd (Ws (Wr e) (WJ I.ok.bsz z)) (WT _)
  ·intro b hb hz;have Fz:b ∈ fp:=hb;obtain ⟨_,f1,f2,_⟩:=hf b Fz;rcases Wn.mp (I.stkSub b hz) with e | e
   ·exact f1 e
   ·exact f2 e
 refine ⟨ok,rfl,I.bare,Un.laid k hD fD,?_,?_,?_,?_,?_,I.hok.laid k hD newO,hσ.1⟩
 ·refine ⟨m,hn,fun i x v e1 e2 _=>?_⟩;obtain ⟨⟨j,j1,j2⟩,kk,kr⟩:=hσ.2 i x v e1 e2;obtain ⟨mo,_,hl⟩:=I.loc;obtain ⟨u,r,l⟩:=hl j x v j1 j2 (by
   rcases kk with z | z
   ·exact .inr (.inl z)
   ·exact .inr (.inr z))
  refine ⟨u,r,.inr ⟨kr,?_⟩⟩;obtain ⟨c,hc⟩:=has x kr;rcases l with ⟨z,_⟩ | ⟨_,c',Gn,hcell⟩
  ·rcases kk with q | q
   ·rw [z] at q; cases q
   ·rw [z] at q; cases q
  ·have e3:=keepS i x v e1 e2 c hc;rw [Gn] at e3;have e4:c'=c:=WA.inj e3;subst e4;obtain ⟨o,ho,hd⟩:=hcell;exact ⟨c',hc,o,k _ o ho,hd⟩
 ·intro x c e;rcases sub x c e with z | ⟨_,_,_,z⟩
  ·obtain ⟨v,o,ho,hd⟩:=I.cell x c z;exact ⟨v,o,k _ o ho,hd⟩
  ·exact ⟨Xu,z⟩
 ·show upd H D (.lst []) C=none
  rw [Ae hDC];exact fC
 ·intro x c e;rcases sub x c e with z | ⟨z1,z2,_,_⟩
  ·obtain ⟨v,q⟩:=I.cell x c z;rw [Ae (W6 (Ws q.lt hD))];exact I.freeC x c z
  ·rw [Ae z2];exact I.hok.fresh z1
 ·intro p hp;cases hp
theorem ID {fn:Str->Bool} {pl:List (Addr × Obj)} (I:An X pins σ H s2) (hf:∀ b ∈ fp,CN X pins H b) (hC:s2.heap.objs.size<=C) (I2:An (AB X scope cl N s2 H C fp fn) pl Aq H' s')
  (hs:Heap.SameBut C s'.heap h'):An X pins σ H' { s' with heap:=h' }:=by
 have nC:∀ b o,s2.heap.get? b=some o->b ≠ C:=fun b o e=>W6 (Ws (Wr e) hC)
 have u:=I2.base;refine I.call' (s':={ s' with heap:=h' }) (ch:=fp) I2.os ⟨?_,?_,u.free,?_,u.tups,u.frzs,u.tbls⟩ ?_ I2.bare fun b hb=>?_
 ·exact fun b o e n h1 h2=>(hs.2 b (nC b o e)).trans (u.keep b o e n h1 h2)
 ·intro b o e n h1 h2;obtain ⟨sl,q⟩:=u.slot b o e n h1 h2;exact ⟨sl,(hs.2 b (nC b o e)).trans q⟩
 ·intro b o e h2;obtain ⟨o',q⟩:=u.there b o e h2;exact ⟨o',(hs.2 b (nC b o e)).trans q⟩
 ·intro b ob e;have hfree:H' C=none:=I2.free;refine (I2.hok b ob e).stay (fun c w' hc q=>(hs.2 c ?_).trans q) (fun _ q=>q) fun _ _ q=>q
  rintro rfl;rcases hc with rfl | hc
  ·rw [hfree] at e; cases e
  ·rw [hfree] at hc; cases hc
 ·obtain ⟨_,f1,_,f3,f4,f5⟩:=hf b hb;exact ⟨f3,f1,f4,f5⟩
end
theorem JM {X:Cx} (fn:Str->Bool) {tg iter elt:Expr} {ifs:List Expr} {scope:Scope} {cl:List (Str × Addr)} {N:List Str} {pos:Pos} {wi:TI} {g:TG} {tt:TT} {te:TE} {σ0:St->St} (hc:X.calm=true) (co:CD X scope cl) (hfn:∀ x,fn x=true->(x,NameKind.cell) ∈ scope.names)
  (hσ:∀ σ,σ.length=X.N.length->AK X cl scope N σ (σ0 σ)) (hK:∀ (σ:St) (i:Nat) (x:Str) (v:V),N[i]? = some x->(σ0 σ)[i]? = some (some v)->(x,NameKind.cell) ∉ scope.names) (hi:PI X tg iter wi)
  (hb:∀ s2 H C fp,PG (AB X scope (cellsFrom (C + 1) scope.names cl) N s2 H C fp fn) tg g/\Rw (AB X scope (cellsFrom (C + 1) scope.names cl) N s2 H C fp fn) ifs tt/\PE (AB X scope (cellsFrom (C + 1) scope.names cl) N s2 H C fp fn) elt te)
  (hs:∀ x,foldedSetIterable iter X.env x=pure x:=by intro _; rfl):PE X (.ListComp elt [⟨tg,iter,ifs,0⟩] scope pos) (NM wi g tt te σ0):=by
 intro pins s σ H Q I h;rw [eval_ListComp];refine wpAny_comprehension_free (use:=none) rfl hs co.clos co.kind co.names (wpAny_mono (hi (pins:=pins) s σ H _ I h) (fun xv s1 h1=>wpAny_mono h1 (fun itv s2 h2=>?_) fun _ _ e=>e) fun _ _ e=>e);obtain ⟨it,fp,tn,J,H2,rfl,I2,T,Dm,f2,hW⟩:=h2;refine wpAny_newObj_type (Ey ?_);dsimp only;generalize Hg:s2.heap.push { cls:=.type "list",dict:=none,data:=.seq ([]:List Value).toArray } = HH;have Bs:HH.objs.size=s2.heap.objs.size + 1:=by rw [<-Hg,WY]
 obtain ⟨AA,DZ⟩:∃ AA,AA=pushCells (HH.push { cls:=.type "dict",data:=.dict #[] }) scope.names:=⟨_,rfl⟩
 rw [<-DZ];have BE:AA.Ns HH.objs.size (fun _=>Xu):=by
  rw [DZ];exact (Heap.Ns.new HH (.type "dict")).keeps (pushCells_keeps _ _)
 have old:∀ b o,s2.heap.get? b=some o->AA.get? b=some o:=fun b o e=>by
  rw [DZ];exact pushCells_keeps _ _ _ _ (Wl _ (Hg ▸ Wl _ e))
 have newD:∃ n,AA.get? s2.heap.objs.size=some { cls:=.type "list",data:=.seq ([]:List Value).toArray n }:=by
  exists 0;rw [DZ];exact pushCells_keeps _ _ _ _ (Wl _ (Hg ▸ W0 _ rfl))
 obtain ⟨Dx,ecl⟩:∃ Dx,Dx=cellsFrom (HH.objs.size + 1) scope.names cl:=⟨_,rfl⟩
 have clt:∀ x c,(x,c) ∈ cl->c < s2.heap.objs.size:=fun x c e=>by
  obtain ⟨v,q⟩:=I2.cell x c (co.sub x c e);exact q.lt
 have RY:∀ x c,(x,c) ∈ Dx->(x,c) ∈ cl\/(HH.objs.size + 1<=c/\AA.IsCell c Xu):=fun x c hm=>by
  have hsz:(HH.push { cls:=.type "dict",data:=.dict #[] }).objs.size=HH.objs.size + 1:=WY ..;rw [ecl,<-hsz] at hm;have q:=Ep scope.names (HH.push { cls:=.type "dict",data:=.dict #[] }) cl (HH.objs.size + 1) (by rw [hsz]; exact Wq _) (fun y d hy=>.inl (Ws (clt y d hy) (by rw [Bs]; lia))) x c hm;rw [DZ];exact q
 have We:Dx.Pairwise fun x y=>x.2 ≠ y.2:=by
  rw [ecl];exact CZ _ _ _ co.apart fun x c hm=>Ws (clt x c hm) (by rw [Bs]; lia)
 have K0:∀ x c,Dx.lookup x=some c->X.env.cells.lookup x=some c\/(s2.heap.objs.size<=c/\c ≠ s2.heap.objs.size/\c ≠ HH.objs.size/\AA.IsCell c Xu):=fun x c e=>by
  rcases RY x c (PySem.mem_of_lookup e) with q | ⟨q1,q2⟩
  ·exact .inl (co.sub x c q)
  ·exact .inr ⟨by rw [Bs] at q1; exact Ym (Ws (WK (WM _)) q1),Xa (by rw [Bs] at q1; exact Ws (WK (WM _)) q1),Xa (Ws (WM _) q1),q2⟩
 have Si:∀ x y c,Dx.lookup x=some c->Dx.lookup y=some c->x=y:=fun x y c e1 e2=>name_of_addr We (PySem.mem_of_lookup e1) (PySem.mem_of_lookup e2)
 have RV:∀ x c,fn x=true->Dx.lookup x=some c->s2.heap.objs.size<=c:=fun x c h e=>by
  rw [ecl] at e;exact Eo s2.heap.objs.size scope.names (HH.objs.size + 1) cl x c (by rw [Bs]; lia) (.inl (hfn x h)) e
 have Sq:∀ x,((relabel scope X.env).names.lookup x=some .cell\/(relabel scope X.env).names.lookup x=some .free)->∃ c,Dx.lookup x=some c:=fun x h=>by
  obtain ⟨c,hc⟩:=Er scope.names (HH.objs.size + 1) cl x (co.has x h);rw [ecl];exact Ce hc
 have keepS:∀ (i:Nat) (x:Str) (v:V),N[i]? = some x->(σ0 σ)[i]? = some (some v)->∀ c,Dx.lookup x=some c->X.env.cells.lookup x=some c:=fun i x v e1 e2 c e=>by
  rw [ecl] at e;have m2:=D8 scope.names (HH.objs.size + 1) cl x c (PySem.mem_of_lookup e) (hK σ i x v e1 e2);exact co.sub x c m2
 obtain ⟨W,⟨m0,w0⟩,turn⟩:=hW s2.heap.objs.size I2.fresh;have hfo:∀ b ∈ fp,∃ o,s2.heap.get? b=some o:=fun b hb=>let ⟨o,e,_⟩:=T.obj _ _ Dm b hb; ⟨o,e⟩
 have Sl:∀ σ,σ.length=X.N.length->AK X Dx scope N σ (σ0 σ):=fun σ h=>hσ σ h
 have I3:An (AB X scope Dx N s2 H2 HH.objs.size fp fn) [] (σ0 σ) (upd H2 s2.heap.objs.size (.lst [])) { s2 with heap:=AA,toks:=s2.toks }:=
  Kf I2 f2 hfo co K0 Si RV Sq keepS (Sl σ I.len) old (Wq _) (by rw [Bs]; exact WX _) (Xa (by rw [Bs]; exact WM _)) (.inr newD) BE
 have fC:s2.heap.objs.size<=HH.objs.size:=by rw [Bs]; exact WX _
 obtain ⟨hg,ht,he⟩:=hb s2 H2 HH.objs.size fp;rw [<-ecl] at hg ht he;have loop:∀ BW:Shared,BW = { s2 with heap:=AA,toks:=s2.toks } ->
   codeAny (model X.prog X.w) X.A (.compLoop (.ListComp elt [⟨tg,iter,ifs,0⟩] scope pos) 0 (.ref it) (.ref s2.heap.objs.size) (compEnvC scope Dx HH.objs.size X.env))
    (compPost (model X.prog X.w) X.A X.xe none (EP X pins σ Q) (.ref s2.heap.objs.size) HH.objs.size) BW:=by
  rintro BW rfl;have stat:∀ {H':Hp} ,(∀ b ∈ fp,H' b=none)->∀ b ∈ fp,CN (AB X scope Dx N s2 H2 HH.objs.size fp fn) [] H' b:=fun hn b hb=>by
   refine ⟨hn b hb,?_,?_,.inl hb,?_,fun p hp=>by cases hp⟩
   ·obtain ⟨o,e⟩:=hfo b hb;exact W6 (show b < HH.objs.size by rw [Bs]; exact WK (Wr e))
   ·intro hz;obtain ⟨_,q1,q2,_⟩:=f2 b hb;rcases Wn.mp (I2.stkSub b hz) with e | e
    ·exact q1 e
    ·exact q2 e
   ·intro x c e;rcases K0 x c e with z | ⟨z,_⟩
    ·exact (f2 b hb).2.2.2.2.1 x c z
    ·obtain ⟨o,eo⟩:=hfo b hb;exact Xa (Ws (Wr eo) z)
  refine BU (fun n s'=>∃ i Aq H',An (AB X scope Dx N s2 H2 HH.objs.size fp fn) [] Aq H' s'/\tn i s'.heap/\(∀ b ∈ fp,H' b=none)/\W i n Aq H') ?_ m0
   ⟨0,σ0 σ,_,I3,T.keep _ _ _ Dm fun b hb o e=>old b o e,fun b hb=>?_,w0⟩
  ·rintro n s4 ⟨i,EO,H4,I4,Gw,Ka,w4⟩;rcases turn i n EO H4 w4 with ⟨stop,qn⟩ | ⟨go,step⟩
   ·refine wpAny_mono (T.done (AB X scope Dx N s2 H2 HH.objs.size fp fn) rfl rfl rfl hc i [] s4 EO H4 (fun _ _=>False) I4 (stat Ka) Gw stop) (fun r s5 ⟨hr,I5⟩=>?_) fun _ _ z=>z.elim
    subst hr;obtain ⟨m5,OP,_⟩:=id I5.loc;exact ⟨m5,OP,fun h' J0=>⟨.ref _,H4,ID I2 f2 fC I5 J0,rfl,qn⟩⟩
   ·refine wpAny_mono (T.item (AB X scope Dx N s2 H2 HH.objs.size fp fn) rfl rfl rfl hc i [] s4 EO H4 (fun _ _=>False) I4 (stat Ka) Gw go) (fun r s5 ⟨u,hr,h5⟩=>?_) fun _ _ z=>z.elim
    subst hr;refine wpAny_mono h5 (fun _ s6 ⟨x,H6,I6,r6,y6,Gv,OV⟩=>?_) fun _ _ z=>z.elim
    have Pt:=I6.pinned (stat OV) (T.obj _ _ Gv);refine wpAny_mono (hg s6 EO H6 x u _ Pt r6 (step x H6 y6)) (fun _ s7 ⟨DG,H7,I7,q7⟩=>?_) fun _ _ z=>z.elim
    refine wpAny_mono (ht s7 DG H7 _ I7 q7) (fun ok s8 ⟨H8,I8,q8⟩=>?_) fun _ _ z=>z.elim
    have again:∀ {s9:Shared} {EN:St} {H9:Hp} ,An (AB X scope Dx N s2 H2 HH.objs.size fp fn) ([] ++ Dg fp s6.heap) EN H9 s9->(∃ m',m' < n/\W (i + 1) m' EN H9)->∃ m,m < n/\∃ i Aq H',An (AB X scope Dx N s2 H2 HH.objs.size fp fn) [] Aq H' s9/\tn i s9.heap/\(∀ b ∈ fp,H' b=none)/\W i m Aq H':=fun {s9 EN H9} I9 n9=>by
     obtain ⟨m',hm,w9⟩:=n9;refine ⟨m',hm,i + 1,EN,H9,I9.unpinned,T.keep _ _ _ Gv fun b hb o e=>(I9.pin (b,o) (Wx _ (Wx _ (AU hb e)))).1,fun b hb=>?_,w9⟩;obtain ⟨o,e,d⟩:=T.obj _ _ Gv b hb;exact (I9.pin (b,o) (Wx _ (Wx _ (AU hb e)))).2.1
    cases ok with
    | false=>
     rw [if_neg W8] at q8 ⊢;exact again I8 q8
    | true=>
     rw [if_pos rfl] at q8 ⊢;refine wpAny_mono (he s8 DG H8 _ I8 q8) (fun y s9 ⟨v,H9,I9,r9,acc,hacc,hsz,q9⟩=>?_) fun _ _ z=>z.elim
     refine wpAny_mono (Ck (X:=AB X scope Dx N s2 H2 HH.objs.size fp fn) s9 DG H9 (.ref s2.heap.objs.size) [v] (.ref s2.heap.objs.size) [y] (fun _ Nw=>∃ m',m' < n/\W (i + 1) m' DG Nw) I9 rfl (.cons r9 .nil) ⟨_,acc,v,rfl,rfl,hacc,hsz,q9⟩) (fun _ Tz ⟨_,Nw,Pu,_,Of⟩=>?_) fun _ _ z=>z.elim
     exact again Pu Of
  ·have z:=(f2 b hb).1;obtain ⟨o,e⟩:=hfo b hb;rw [Ae (W6 (Wr e))];exact z
 subst ecl;exact codeAny_compStart_list (loop _ rfl) (T.self _ 0 _ _ _ (T.keep _ _ _ Dm fun b hb o e=>old b o e) (loop _ rfl))
end L2
namespace L2
open PySem PySem.Spec PySem.W PyProof.Rows
end L2
namespace L2
open PySem PySem.Spec PyProof.Rows
theorem CD.caught {X:Cx} {scope:Scope} {cl:List (Str × Addr)} (clos:closureFor scope X.env=pure cl) (hkind:scope.kind=.function)
  (hnames:∀ y ∈ scope.names,y.2=.local->scope.names.lookup y.1=some .local) (hcl:∀ y ∈ cl,X.env.cells.lookup y.1=some y.2) (hap:cl.Pairwise fun x y=>x.2 ≠ y.2)
  (hfr:∀ y ∈ scope.names,y.2=.free->∃ c,(y.1,c) ∈ cl):CD X scope cl:=by
 refine ⟨clos,hkind,hnames,fun x c h=>hcl _ h,hap,fun x h=>?_⟩;have key:∀ k,(relabel scope X.env).names.lookup x=some k->k=.cell\/k=.free->(x,NameKind.cell) ∈ scope.names\/∃ c,(x,c) ∈ cl:=by
  intro k e hk;have m:=CL e;obtain ⟨⟨n,k'⟩,hm,e'⟩:=W4.mp m;dsimp only at e';by_cases hf:k'=.free
  ·subst hf;have en:n=x:=by
    by_cases hc:(NameKind.free == NameKind.free && X.env.scope.kind == .function && X.env.kindOf n == some .cell)=true
    ·rw [if_pos hc] at e';injection e'
    ·rw [if_neg hc] at e';injection e'
   subst en;exact .inr (hfr _ hm rfl)
  ·have:(k' == NameKind.free)=false:=by
    cases k' <;> first | rfl | exact absurd rfl hf
   rw [this] at e';simp at e';obtain ⟨rfl,rfl⟩:=e';rcases hk with rfl | rfl
   ·exact .inl hm
   ·exact absurd rfl hf
 rcases h with h | h
 ·exact key _ h (.inl rfl)
 ·exact key _ h (.inr rfl)
theorem Ax (K:Wm) {X:Cx} (h:X.K=K):B0 X (.builtin "len") (fun xs H Q=>∃ p vs,xs=[V.ref p]/\(AD K H p vs\/AG K H p vs)/\Q (.int vs.length) H):=by subst h; exact Jr
theorem AN (K:Wm) {X:Cx} {tg l:Expr} {tl:TE} (h:X.K=K) (hl:PE X l tl):PI X tg l (Ro K tl):=by subst h; exact Qq hl
theorem Bb (K:Wm) {X:Cx} {tg l:Expr} {tl:TE} (h:X.K=K) (hl:PE X l tl):PI X tg l (iTup K tl):=by subst h; exact RR hl
def GtAt (A:Around) (s:Shared) (x y:Value) (b:Bool):Prop:=∀ (prog:Program) (w:World) (E Q:Value->Shared->Prop),Q (.bool b) s->wpAny (model prog w) A (richCompare .Gt x y) Q E s
def Nk (h:Heap) (v:Value) (ss:List Str):Prop:=∃ a us,v=.ref a/\IsTup h a us.toArray/\A7 (ss.map V.str) us
def SK (h:Heap) (v:Value) (k:Int × List Str):Prop:=∃ a l t,v=.ref a/\IsTup h a #[.int k.1 t,.ref l]/\Nk h (.ref l) k.2
def BO (k:Int × List Str):List Fy:=.i k.1 :: k.2.map Fy.s
theorem OI {p q:Int × List Str} (h:BO p=BO q):p=q:=by
 unfold BO at h;injection h with h1 h2;injection h1 with h1;have:p.2=q.2:=by
  have inj:∀ {xs ys:List Str},xs.map Fy.s=ys.map Fy.s->xs=ys:=by
   intro xs;induction xs with
   | nil=>intro ys e; cases ys with | nil=>rfl | cons y ys=>cases e
   | cons x xs ih=>
    intro ys e;cases ys with
    | nil=>cases e
    | cons y ys=>
     rw [WG,WG] at e;injection e with e1 e2;injection e1 with e1;rw [e1,ih e2]
  exact inj h2
 exact Prod.ext h1 this
theorem Eg {us vs:List Value} {xs:List Str} (r1:A7 (xs.map V.str) us) (j:Nat) (hj:j < us.length):∃ t x,xs[j]? = some x/\us[j]=.str x t:=by
 have l1:=r1.length;rw [Wj] at l1;have e:(xs.map V.str)[j]? = some (V.str (xs[j]'(by lia))):=by rw [Wy,Wk (by lia)]; rfl
 obtain ⟨u,e1,r⟩:=r1.get e;obtain ⟨t,rfl⟩:=r;rw [Wk hj] at e1;exact ⟨t,_,Wk (by lia),WA.inj e1⟩
theorem HQ {us:List Value}:∀ {xs ys:List Str},A7 (xs.map V.str) us->A7 (ys.map V.str) us->xs=ys:=by
 induction us with
 | nil=>
  intro xs ys r1 r2;cases xs with
  | nil=>cases ys with | nil=>rfl | cons _ _=>cases r2
  | cons _ _=>cases r1
 | cons u us ih=>
  intro xs ys r1 r2;cases xs with
  | nil=>cases r1
  | cons x xs=>
   cases ys with
   | nil=>cases r2
   | cons y ys=>
    cases r1 with
    | cons a1 b1=>
     cases r2 with
     | cons a2 b2=>
      obtain ⟨t,e⟩:=a1;obtain ⟨t',e'⟩:=a2;rw [e] at e';cases e'
      rw [ih b1 b2]
theorem QJ {A:Around} {s:Shared} {v w:Value} {xs ys:List Str} (hv:Nk s.heap v xs) (hw:Nk s.heap w ys) (hu:A.units < cLine):SeqAt.EqAt A s v w (decide (xs=ys)):=by
 obtain ⟨a,us,rfl,ha,r1⟩:=hv;obtain ⟨b,vs,rfl,hb,r2⟩:=hw;by_cases hab:a=b
 ·subst hab;have e:xs=ys:=by
   obtain ⟨o,ho,hc,n,hd⟩:=ha;obtain ⟨o',HD,Gn,n',JZ⟩:=hb;rw [ho] at HD;cases HD
   rw [hd] at JZ;injection JZ with e1 e2;have e3:=congrArg Yv e1;simp only at e3;subst e3;exact HQ r1 r2
  rw [decide_eq_true e];intro prog w E Q h;unfold eqBool;refine wpAny_holding ?_;exact wpAny_ite_split (fun _=>wpAny_bind (wpAny_rule (wpAny_pure h))) (fun hn=>absurd (by simp) hn)
 ·have l1:=r1.length;have l2:=r2.length;rw [Wj] at l1 l2;have key:=SeqAt.RcAt.tuples (A:=A) (s:=s) (e:=fun j=>xs[j]? == ys[j]?) (show s.heap.IsTuple a us.toArray from ha) (show s.heap.IsTuple b vs.toArray from hb) hu (fun j h1 h2=>by
   obtain ⟨t,x,e1,e2⟩:=Eg (vs:=us) r1 j (by simpa using h1);obtain ⟨t',y,e3,e4⟩:=Eg (vs:=vs) r2 j (by simpa using h2);rw [Yg,Yg,e2,e4,e1,e3];have:=SeqAt.EqAt.str_str x t y t' (A:=A.in1) (s:=s);exact this)
  have e:((Xc (min us.toArray.size vs.toArray.size)).all (fun j=>xs[j]? == ys[j]?) && us.toArray.size == vs.toArray.size)=decide (xs=ys):=by
   rw [Xg,X0,Xo,decide_eq_true_iff];simp only [X8,WC,beq_iff_eq];constructor
   ·rintro ⟨h1,h2⟩;refine YF fun j=>?_
    by_cases hj:j < us.length
    ·exact h1 j (by lia)
    ·rw [XZ (by lia),XZ (by lia)]
   ·rintro rfl;exact ⟨fun j _=>rfl,by lia⟩
  rw [e] at key;exact SeqAt.EqAt.of_refs hab key
def CmpsG (A:Around) (s:Shared) (z:Bool):List (Value × Value)->Bool->Prop
 | [],r=>r=z
 | p :: By,r=>∃ e,SeqAt.EqAt A s p.1 p.2 e/\(e=false->GtAt A s p.1 p.2 r)/\(e=true->CmpsG A s z By r)
section
open PySem.SeqAt
open PySem.AutoSeq1 (wpAny_loadPart')
open PySem.MeetsSeq PySem.MeetsSeq2 PySem.MeetsSeq3
end
def E7 (A:Around) (s:Shared) (z:Bool):List (Value × Value)->Bool->Prop
 | [],r=>r=z
 | p :: By,r=>∃ e,SeqAt.EqAt A s p.1 p.2 e/\(e=false->BQ A s p.1 p.2 r)/\(e=true->E7 A s z By r)
section
open PySem.SeqAt
open PySem.AutoSeq1 (wpAny_loadPart')
open PySem.MeetsSeq PySem.MeetsSeq2 PySem.MeetsSeq3
theorem Mq (l b:Addr) (xs ys:Array Value) (n n2:Nat) (dd Jo:Option Addr) (sl F3:Array (Option Value)) (r:Bool) :
  Meets (Builtin.«tuple.__lt__» ⟨[.ref l,.ref b],[]⟩)
   (fun A R s=>s.heap.get? l=some { cls:=.type "tuple",dict:=dd,data:=.seq xs n,slots:=sl }/\s.heap.get? b=some { cls:=.type "tuple",dict:=Jo,data:=.seq ys n2,slots:=F3 } /\
    E7 A.in1 s (decide (xs.size < ys.size)) (xs.toList.zip ys.toList) r/\R (.ok (.ret (.bool r))) s):=
 .of_wp fun prog w A R s h=>by
  obtain ⟨hp,g,d,tk,os⟩:=s; obtain ⟨hl,hb,hc,h⟩:=h;have f2:=AutoSeq1.sub_tuple_tuple;wp_walk using wpAny_loadPart' hl,wpAny_loadPart' hb,wpAny_forIn_list _ (fun By b s'=>b.1=none/\s'=⟨hp,g,d,tk,os⟩/\E7 A.in1 ⟨hp,g,d,tk,os⟩ (decide (xs.size < ys.size)) By r) _
  case turn=>
   rintro ⟨y,x⟩ By b s' ⟨Fz,rfl,e,he,h1,h2⟩;refine wpAny_bind (he prog w _ _ ?_);cases ee:e with
   | true=>
    wp_walk
    exact ⟨rfl,rfl,h2 ee⟩
   | false=>
    have hri:=h1 ee prog w;wp_walk using hri;exact ⟨_,rfl,by simpa using h⟩
  case fin=>
   rintro ⟨b1',b2'⟩ s' ⟨Fz,rfl,hz⟩;have Gb:r=decide (xs.size < ys.size):=hz;simp only at Fz;subst Fz Gb;wp_walk;exact ⟨_,rfl,by simpa [Builtin.Tuple.tupleCompareSizes] using h⟩
  case h=>
   exact ⟨rfl,rfl,hc⟩
end
theorem BQ.tupN {A:Around} {s:Shared} {l b:Addr} {xs ys:Array Value} {r:Bool} (hl:IsTup s.heap l xs) (hb:IsTup s.heap b ys) (hu:A.units < cLine) (hc:E7 A.in1 s (decide (xs.size < ys.size)) (xs.toList.zip ys.toList) r):BQ A s (.ref l) (.ref b) r:=fun prog w E Q h=>by
 obtain ⟨⟨cls,dd,data,sl⟩,ho,Gn,n,hd⟩:=id hl;obtain ⟨⟨QS,Jo,data2,F3⟩,Ko,HF,n2,hd2⟩:=id hb;simp only at Gn hd HF hd2;subst Gn hd HF hd2;exact richCompare_meets_room (op:=.Lt) ⟨_,ho,rfl⟩ ⟨_,Ko,rfl⟩ PySem.F.slot_tuple_lt PySem.F.entry_tuple_lt (PySem.F.args_tuple_lt_2 _ _) (Mq l b xs ys n n2 dd Jo sl F3 r)
  ⟨ho,Ko,hc,show Value.bool _ ≠ Value.notImplemented/\Q (.bool _) s from ⟨(fun x=>nomatch x),h⟩⟩ hu
theorem EE {A:Around} {s:Shared}:∀ (xs ys:List Str) {us vs:List Value},A7 (xs.map V.str) us->A7 (ys.map V.str) vs->E7 A s (decide (xs.length < ys.length)) (us.zip vs) (AO (xs.map Fy.s) (ys.map Fy.s))
 | [],[],_,_,r1,r2=>by cases r1; cases r2; rfl
 | [],y :: ys,_,_,r1,r2=>by cases r1; cases r2; rfl
 | x :: xs,[],_,_,r1,r2=>by cases r1; cases r2; rfl
 | x :: xs,y :: ys,_,_,r1,r2=>by
  cases r1 with
  | cons a1 b1=>
   cases r2 with
   | cons a2 b2=>
    obtain ⟨t,rfl⟩:=a1;obtain ⟨t',rfl⟩:=a2;refine ⟨x == y,SeqAt.EqAt.str_str _ _ _ _,fun e=>?_,fun e=>?_⟩
    ·have e:¬ x=y:=by simpa using e
     have:=BQ.str A s x t y t';rw [WG,WG];unfold AO;rw [if_neg (by intro z; injection z with z; exact e z)];exact this
    ·have e:x=y:=by simpa using e
     rw [WG,WG];unfold AO;rw [if_pos (by rw [e])];have:=EE xs ys b1 b2 (A:=A) (s:=s);rw [WO,WO];simp only [Nat.add_lt_add_iff_right];exact this
theorem Q2 {A:Around} {s:Shared} {v w:Value} {xs ys:List Str} (hv:Nk s.heap v xs) (hw:Nk s.heap w ys) (hu:A.units < cLine):BQ A s v w (AO (xs.map Fy.s) (ys.map Fy.s)):=by
 obtain ⟨a,us,rfl,ha,r1⟩:=hv;obtain ⟨b,vs,rfl,hb,r2⟩:=hw;refine BQ.tupN ha hb hu ?_;have l1:=r1.length;have l2:=r2.length;rw [Wj] at l1 l2;have:=EE (A:=A.in1) (s:=s) xs ys r1 r2;rw [l1,l2] at this;simpa using this
theorem lt_kn {A:Around} {s:Shared} {v w:Value} {p q:Int × List Str} (hv:SK s.heap v p) (hw:SK s.heap w q) (hu:A.units + 1 < cLine):BQ A s v w (AO (BO p) (BO q)):=by
 obtain ⟨a,l,t,rfl,ha,h1⟩:=hv;obtain ⟨b,l',t',rfl,hb,h2⟩:=hw;refine BQ.tupN ha hb (by lia) ?_;show E7 A.in1 s _ [(.int p.1 t,.int q.1 t'),(.ref l,.ref l')] _
 refine ⟨p.1 == q.1,SeqAt.EqAt.int_int _ _ _ _,fun e=>?_,fun e=>⟨decide (p.2=q.2),QJ h1 h2 (by rw [PySem.Around.in1_units]; exact hu),fun e2=>?_,fun e2=>?_⟩⟩
 ·have e:¬ p.1=q.1:=by simpa using e
  have:=BQ.int A.in1 s p.1 t q.1 t';unfold BO;unfold AO;rw [if_neg (by intro z; injection z with z; exact e (by first | exact z | exact z.symm))];exact this
 ·have e:p.1=q.1:=by simpa using e
  have:=Q2 (A:=A.in1) (s:=s) h1 h2 (by rw [PySem.Around.in1_units]; exact hu);unfold BO;unfold AO;rw [if_pos (by rw [e])];exact this
 ·have e:p.1=q.1:=by simpa using e
  have e2:p.2=q.2:=of_decide_eq_true e2;show AO (BO p) (BO q)=_
  unfold BO;rw [e,e2,Fo];rfl
section
variable {prog:Program} {w:World} {A:Around} {R:Result->Shared->Prop} {I:Addr} {fp wr:List Addr} {n:Nat} {P:Nat->Value->Prop} {St:Nat->Heap->Prop} {g0:Heap}
end
section
variable {prog:Program} {w:World} {A:Around} {E:Value->Shared->Prop} {s:Shared}
end
def KnH (H:Hp) (v:V) (k:Int × List Str):Prop:=∃ t l,v=.ref t/\H t=some (.tup [.int k.1,.ref l])/\H l=some (.tup (k.2.map V.str))
theorem tx_at {X:Cx} {pins:List (Addr × Obj)} {σ:St} {H:Hp} {s:Shared} {l:Addr} {ss:List Str} (I:An X pins σ H s) (h:H l=some (.tup (ss.map V.str))):Nk s.heap (.ref l) ss:=by
 obtain ⟨Aw,rv,pl,hz⟩:=I.tuple (AG.of h);exact ⟨l,Aw,rfl,pl,rv⟩
theorem KnH.at {X:Cx} {pins:List (Addr × Obj)} {σ:St} {H:Hp} {s:Shared} {v:V} {u:Value} {k:Int × List Str} (I:An X pins σ H s) (r:Az v u) (h:KnH H v k):SK s.heap u k:=by
 obtain ⟨t,l,rfl,ht,hp⟩:=h;cases r
 obtain ⟨Aw,rv,pl,hz⟩:=I.tuple (AG.of ht);cases rv with
 | cons a1 b1=>
  cases b1 with
  | cons a2 b2=>
   cases b2
   cases a2
   obtain ⟨t2,rfl⟩:=a1;exact ⟨t,l,t2,rfl,pl,tx_at I hp⟩
theorem Ec (bt:Nat->Nat->Bool) (f:Nat->List Fy) (h1:∀ i j,bt i j=AO (f i) (f j)):∀ k,argBest bt k<=k/\∀ j,j<=k->AO (f j) (f (argBest bt k))=false
 | 0=>⟨Wq _,fun j hj=>by
  have:j=0:=by lia
  subst this; exact Fo _⟩
 | k + 1=>by
  obtain ⟨a1,a2⟩:=Ec bt f h1 k;simp only [argBest];cases hc:bt (k + 1) (argBest bt k) with
  | true=>
   simp only [if_true];refine ⟨Wq _,fun j hj=>?_⟩;by_cases Dv:j<=k
   ·have a3:=a2 j Dv;rw [h1] at hc;cases e:AO (f j) (f (k + 1)) with
    | false=>rfl
    | true=>rw [LW _ _ _ e hc] at a3; cases a3
   ·have:j=k + 1:=by lia
    subst this; exact Fo _
  | false=>
   simp only [WB,if_false];refine ⟨XX a1,fun j hj=>?_⟩;by_cases Dv:j<=k
   ·exact a2 j Dv
   ·have:j=k + 1:=by lia
    subst this; rw [<-h1]; exact hc
section
variable {X:Cx} {pins:List (Addr × Obj)} {σ:St} {H:Hp} {s:Shared}
end
theorem O1 (K:Wm) {X:Cx} (h:X.K=K):EL X (binaryOp .Add) (Rl K):=by subst h; exact Qu
inductive Cr (H:Hp):List V->List (List Str)->Prop
 | nil:Cr H [] []
 | cons {t:Addr} {us:List V} {f:List Str} {fs:List (List Str)}:H t=some (.tup (f.map V.str))->Cr H us fs->Cr H (.ref t :: us) (f :: fs)
theorem Cr.len {H:Hp} {us:List V} {fs:List (List Str)} (h:Cr H us fs):us.length=fs.length:=by
 induction h with
 | nil=>rfl
 | cons _ _ ih=>rw [WO,WO,ih]
theorem Cr.keep {H H':Hp} {us:List V} {fs:List (List Str)} (h:Cr H us fs) (s:∀ b xs,H b=some (.tup xs)->H' b=some (.tup xs)):Cr H' us fs:=by
 induction h with
 | nil=>exact .nil
 | cons a _ ih=>exact .cons (s _ _ a) ih
theorem Cr.app {H:Hp} {us vs:List V} {fs gs:List (List Str)} (h:Cr H us fs) (h':Cr H vs gs):Cr H (us ++ vs) (fs ++ gs):=by
 induction h with
 | nil=>exact h'
 | cons a _ ih=>exact .cons a ih
theorem Cr.get {H:Hp} {us:List V} {fs:List (List Str)} (h:Cr H us fs):∀ {i:Nat} {u:V},us[i]? = some u->∃ t f,u=.ref t/\fs[i]? = some f/\H t=some (.tup (f.map V.str)):=by
 induction h with
 | nil=>intro i u e; simp at e
 | cons a _ ih=>
  intro i u e;cases i with
  | zero=>simp at e; subst e; exact ⟨_,_,rfl,rfl,a⟩
  | succ i=>exact ih (by simpa using e)
theorem Cr.mem {H:Hp} {us:List V} {fs:List (List Str)} (h:Cr H us fs) {u:V} (hu:u ∈ us):∃ t f,u=.ref t/\f ∈ fs/\H t=some (.tup (f.map V.str)):=by
 obtain ⟨i,hi⟩:=Y3 hu;obtain ⟨t,f,e,ef,ht⟩:=h.get hi;exact ⟨t,f,e,Wo ef,ht⟩
theorem Cr.perm {H:Hp} {us Lq:List V} (p:Lq.Perm us):∀ {fs:List (List Str)},Cr H us fs->∃ Tg,Tg.Perm fs/\Cr H Lq Tg:=by
 induction p with
 | nil=>intro fs h; cases h; exact ⟨[],.refl _,.nil⟩
 | cons x p ih=>
  intro fs h;cases h with
  | cons a b=>
   obtain ⟨Tg,p',t'⟩:=ih b;exact ⟨_ :: Tg,p'.cons _,.cons a t'⟩
 | swap x y l=>
  intro fs h;cases h with
  | cons a b=>
   cases b with
   | cons c d=>exact ⟨_ :: _ :: _,.swap _ _ _,.cons c (.cons a d)⟩
 | trans p1 p2 TM TL=>
  intro fs h;obtain ⟨f1,q1,t1⟩:=TL h;obtain ⟨f2,q2,t2⟩:=TM t1;exact ⟨f2,q2.trans q1,t2⟩
theorem Cr.kinds {H:Hp} {us:List V} {fs:List (List Str)} (h:Cr H us fs) (ne:∀ f ∈ fs,f ≠ []):∀ v ∈ us,Nl H (fun _=>true) v:=by
 intro v hv;obtain ⟨t,f,rfl,hf,ht⟩:=h.mem hv;refine ⟨t,_,rfl,ht,by simpa using ne f hf,fun i y e=>?_⟩;rw [Wy] at e;cases z:f[i]? with
 | none=>rw [z] at e; cases e
 | some x=>rw [z] at e; exact ⟨x,(WA.inj e).symm⟩
def Q5:V->Nat->Bool
 | .int i,k=>decide ((k:Int)<=i)
 | _,_=>true
def Pq (sites:List Str) (x:V) (os:List (List Str)):Prop:=
 os.Nodup/\True/\∀ ss,ss ∈ os ↔ ss ≠ []/\ss.Sublist sites/\Q5 x ss.length=true
theorem Pq.ne {sites:List Str} {x:V} {d:PyData} {os:List (List Str)} (h:Pq sites x os) (hs:sites ≠ []) (l:Lim x d):os ≠ []:=by
 cases sites with
 | nil=>exact absurd rfl hs
 | cons s sites=>
  have:[s] ∈ os:=(h.2.2 [s]).mpr ⟨by simp,(YJ _).cons₂ s,by
   rcases l with ⟨rfl,_⟩ | ⟨i,rfl,_,h1,_⟩
   ·rfl
   ·exact decide_eq_true (by simpa using h1)⟩
  intro z;rw [z] at this;cases this
def R0 (H:Hp) (c:Addr) (sites:List Str) (x:V) (d:PyData):Prop:=
 ∃ (m t2:V) (t1:Addr) (De:List V) (A9:List DL),H c=some (.tup [m,.ref t1,t2,x])/\H t1=some (.tup De)/\BI H De (A9.map Ff)/\A9.map (·.1)=sites/\sites.Nodup/\sites.length<=10/\Lim x d
def NW:Sp:=fun vs H Q _=>∃ (c:Addr) (sites:List Str) (x:V) (d:PyData),vs=[.ref c]/\R0 H c sites x d /\
 ∀ (H':Hp) (D:Addr) (us:List V) (os:List (List Str)),Au H H'->H D=none->H' D=some (.lst us)->Cr H' us os->Pq sites x os->os.length<=1024->Q (.ref D) H'
def RN (K:Wm):R2:=fun x y H Q=>∃ a b xs ys,x=.ref a/\y=.ref b/\AG K H a xs/\AG K H b ys/\xs.length + ys.length<=sizeLine /\
 (xs=[]->Q (.ref b) H)/\(xs ≠ []->ys=[]->Q (.ref a) H)/\(xs ≠ []->ys ≠ []->∀ p,H p=none->Q (.ref p) (upd H p (.tup (xs ++ ys))))
theorem O2 (K:Wm) {X:Cx} (hK:X.K=K):EL X (binaryOp .Add) (RN K):=by
 subst hK;intro pins s σ H x y v u Q I rx ry h;obtain ⟨a,b,xs,ys,rfl,rfl,ha,hb,hz,q0,q1,q2⟩:=h;cases rx
 cases ry
 obtain ⟨Aw,r1,p1,_⟩:=I.tuple ha;obtain ⟨MP,r2,p2,_⟩:=I.tuple hb;by_cases hx:xs=[]
 ·obtain ⟨⟨cls,dd,data,sl⟩,ho,hc,n,hd⟩:=id p1;obtain ⟨⟨QS,Jo,data2,F3⟩,Ko,HF,n2,hd2⟩:=id p2;simp only at hc hd HF hd2;subst hc hd HF hd2;exact concat_meets ⟨_,ho,rfl⟩ ⟨_,Ko,rfl⟩ noFill_tuple_add seq_tuple_add PySem.F.slot_tuple_add PySem.F.entry_tuple_add (PySem.F.args_tuple_add_2 _ _)
   (tuple_addW0 a b Aw.toArray MP.toArray n n2 dd Jo sl F3 (by simp [r1.nil_iff.mpr hx])) ⟨ho,Ko,⟨.ref b,H,I,rfl,q0 hx⟩⟩
 ·refine HT.cat_tup p1 p2 (fun z=>hx (r1.nil_iff.mp z)) (fun z=>⟨.ref a,H,I,rfl,q1 hx (r2.nil_iff.mp z)⟩) (fun z=>?_) (by rw [<-r1.length,<-r2.length]; exact hz);refine ⟨.ref s.heap.objs.size,_,I.laid (t':=s.toks) (o:=.tup (xs ++ ys)) (fun b ob q=>Wl _ q) (Wq _) ?_,rfl,q2 hx (fun w=>z (r2.nil_iff.mpr w)) _ (I.hok.fresh (Wq _))⟩;exact ⟨by rw [Ww]; exact hz,_,r1.append r2,IsTup.new _ _,Lg.new rfl rfl⟩
theorem Dk {X:Cx} (hc:X.calm=true):B0 X (.builtin "min") (fun xs H Q=>∃ (a:Addr) (ns:List Int),xs=[.ref a]/\H a=some (.lst (ns.map V.int))/\ns ≠ [] /\
  ∀ m,m ∈ ns->(∀ x ∈ ns,m<=x)->Q (.int m) H):=by
 intro pins s σ H xs us Q I r h;obtain ⟨a,ns,rfl,ha,hne,q⟩:=h;obtain ⟨u,rfl,ru⟩:=Ci r;cases ru
 obtain ⟨Aw,rv,pl,hz⟩:=I.list (AD.of ha);have il:Aw.length=ns.length:=by rw [<-rv.length,Wj]
 have pos:0 < ns.length:=Xz.mpr hne;refine Ik (bt:=fun i j=>decide (ns.getD i 0 < ns.getD j 0)) (I.ok.hd hc) pl.isList (by lia) (fun i j vi vj s' Q' E' g hi hj hQ=>?_) fun v h2 tk hv k2=>?_
 ·obtain ⟨x,t,e1,rfl⟩:=DA rv i vi hi;obtain ⟨y,u,e2,rfl⟩:=DA rv j vj hj;dsimp only at hQ;rw [Wv,Wv,e1,e2] at hQ;exact BQ.int _ _ _ _ _ _ _ _ _ _ hQ
 ·obtain ⟨x,t,e1,rfl⟩:=DA rv _ v hv;obtain ⟨b1,b2⟩:=Ht (fun i j=>decide (ns.getD i 0 < ns.getD j 0)) (fun i=>ns.getD i 0) (fun i j h=>by have:=of_decide_eq_true h; lia) (fun i j h=>by have:=of_decide_eq_false h; lia) (Aw.length - 1);refine ⟨.int x,H,I.kept k2,⟨t,rfl⟩,q x (Wo e1) fun y hy=>?_⟩;obtain ⟨j,hj,rfl⟩:=W2 hy;have:=b2 j (by lia);have e2:ns.getD j 0=ns[j]:=by simp [hj]
  have e3:ns.getD (argBest (fun i j=>decide (ns.getD i 0 < ns.getD j 0)) (Aw.length - 1)) 0=x:=by
   rw [Wv,e1]; rfl
  rw [e2,e3] at this;exact this
def DF (H:Hp) (v:V) (xs:List Str) (ws:List A5) (s:Str):Prop:=∃ (B:Addr) (nb:List (Str × V)),v=.ref B/\H B=some (.dK (sK nb))/\nb.map (·.1)=xs/\∀ y u,(y,u) ∈ nb->∃ n,u=.int n/\Jy ws s y n
theorem DF.same {H H':Hp} {v:V} {xs:List Str} {ws:List A5} {s:Str} (h:DF H v xs ws s) (sm:Au H H'):DF H' v xs ws s:=let ⟨B,nb,a,b,c⟩:=h; ⟨B,nb,a,sm _ _ b,c⟩
def E8:Sp:=fun vs H Q _=>∃ (c m:Addr) (n:Nat) (xs:List Str) (ws:List A5) (A9 AJ:List DL) (x:V) (d:PyData),vs=[.ref c]/\BZ H c m n xs ws A9 AJ x d /\
 ∀ (H':Hp) (D:Addr) (nv:List (Str × V)),Au H H'->H D=none->H' D=some (.dK (sK nv))->nv.map (·.1)=A9.map (·.1)->(∀ s v,(s,v) ∈ nv->DF H' v xs ws s)->Q (.ref D) H'
def NU:Sp:=fun vs H Q _=>∃ (c:Addr) (sites:List Str) (x:V) (d:PyData),vs=[.ref c]/\R0 H c sites x d /\
 ∀ mo:Int,0<=mo->(∀ k:Nat,k<=sites.length->((k:Int)<=mo ↔ Q5 x k=true))->Q (.int mo) H
def FX (l:List Str) (mo:Int) (fs:List (List Str)):Prop:=fs.Nodup/\∀ ss,ss ∈ fs ↔ ss.Sublist l/\(ss.length:Int)<=mo
theorem FX.nil {mo:Int} (h:0<=mo):FX [] mo [[]]:=⟨by simp,fun ss=>by
 constructor
 ·intro z;rw [Wz] at z;subst z;exact ⟨List.Sublist.refl _,by simpa using h⟩
 ·rintro ⟨z,_⟩;rw [X3.mp z];simp⟩
theorem FX.step {a:Str} {l:List Str} {mo:Int} {fs:List (List Str)} (ha:a ∉ l) (h:FX l mo fs):FX (l ++ [a]) mo (fs ++ (fs.filter fun f=>decide ((f.length:Int) < mo)).map (· ++ [a])):=by
 refine ⟨Xq.mpr ⟨h.1,?_,?_⟩,fun ss=>?_⟩
 ·exact List.pairwise_map.mpr ((h.1.sublist Y7).imp fun {x y} ne e=>ne (List.append_cancel_right e))
 ·rintro x hx y hy rfl;obtain ⟨g,hg,rfl⟩:=W4.mp hy;exact ha (((h.2 _).mp hx).1.subset (by simp))
 ·rw [W9,W4,YX];constructor
  ·rintro (h1 | ⟨g,hg,rfl⟩)
   ·exact ⟨⟨ss,[],by simp,((h.2 _).mp h1).1,YJ _⟩,((h.2 _).mp h1).2⟩
   ·obtain ⟨g1,g2⟩:=Xf.mp hg;exact ⟨⟨g,[a],rfl,((h.2 _).mp g1).1,List.Sublist.refl _⟩,by have:=of_decide_eq_true g2; rw [Ww,Xe]; lia⟩
  ·rintro ⟨⟨l1,l2,rfl,s1,s2⟩,le⟩;have:l2=[]\/l2=[a]:=by
    cases s2 with
    | cons _ s=>exact .inl (X3.mp s)
    | cons_cons _ s=>rw [X3.mp s]; exact .inr rfl
   rcases this with rfl | rfl
   ·rw [Yh] at le ⊢;exact .inl ((h.2 _).mpr ⟨s1,le⟩)
   ·rw [Ww,Xe] at le;exact .inr ⟨l1,Xf.mpr ⟨(h.2 _).mpr ⟨s1,by lia⟩,decide_eq_true (by lia)⟩,rfl⟩
theorem Ic {J:It} {xs:List V} {S:Hp->Prop} {g:TG} {tk tv:TE} {H:Hp} {σ0:St} {R:Addr->Hp->Prop} (ov:Nm J xs S) (ks:List Str) (hk:ks.length=xs.length) (nd:ks.Nodup) (I:Addr->Nat->St->Hp->List (Str × V)->Prop) (big:xs.length < sizeLine)
  (h0:∀ D,H D=none->I D 0 σ0 (upd H D (.dK (sK []))) [])
  (hs:∀ D i σ H' nv,H D=none->I D i σ H' nv->S H'/\H' D=some (.dK (sK nv))/\nv.map (·.1)=ks.take i)
  (turn:∀ D i σ H' nv x k (B:St->V->V->Hp->Prop),H D=none->xs[i]? = some x->ks[i]? = some k->I D i σ H' nv->(∀ A3 v H6,H6 D=some (.dK (sK nv))->I D (i + 1) A3 (upd H6 D (.dK (sK (nv ++ [(k,v)])))) (nv ++ [(k,v)])->B A3 (.str k) v H6) ->
   g x σ H' fun A3 H3=>tk A3 H3 fun y H5=>tv A3 H5 fun v H6=>B A3 y v H6)
  (fin:∀ D σ H' nv,H D=none->I D xs.length σ H' nv->R D H') :
  ∀ D,H D=none->∃ W:Nat->Nat->St->Hp->Prop,(∃ m,W 0 m σ0 (upd H D (.dK []))) /\
   ∀ i m Aq H',W i m Aq H'->(J.stop i H'/\R D H')\/(J.go i H'/\∀ x H2,J.yld i H' x H2->g x Aq H2 fun A3 H3=>Kw A3 H3 fun b H4=>
    if b=true then tk A3 H4 (fun y H5=>tv A3 H5 fun v H6=>∃ kvs k,y=kV k/\H6 D=some (.dK kvs)/\kvs.length < sizeLine/\∃ m',m' < m/\W (i + 1) m' A3 (upd H6 D (.dK (BK kvs k v)))) else ∃ m',m' < m/\W (i + 1) m' A3 H4):=by
 intro D hD;exists fun i m σ H'=>m=xs.length - i/\i<=xs.length/\∃ nv,I D i σ H' nv,⟨xs.length,rfl,WR _,[],h0 D hD⟩
 rintro i m σ H' ⟨rfl,hi,nv,p⟩;obtain ⟨s1,s2,s3⟩:=hs D i σ H' nv hD p;by_cases BH:i < xs.length
 ·refine .inr ⟨ov.go i H' s1 BH,fun x H2 y=>?_⟩;obtain ⟨rfl,ex⟩:=ov.yld i H' x H2 s1 y;have hki:i < ks.length:=by lia
  have ek:ks[i]? = some ks[i]:=Wk hki;have nin:ks[i] ∉ nv.map (·.1):=by
   rw [s3];intro Kq;obtain ⟨j,hj,e⟩:=W2 Kq;rw [WW] at hj;rw [XW] at e;have:=FP nd (Wk (show j < ks.length by lia)) (by rw [ek,e]);lia
  have nl:nv.length=i:=by
   have:=congrArg XI s3;rw [Wj,WW] at this;lia
  have e:∀ (F:St->V->V->Hp->Prop) (G:St->Hp->Prop),(fun (A3:St) (H3:Hp)=>Kw A3 H3 fun b H4=>if b=true then tk A3 H4 (fun y H5=>tv A3 H5 fun v H6=>F A3 y v H6) else G A3 H4)=fun A3 H3=>tk A3 H3 (fun y H5=>tv A3 H5 fun v H6=>F A3 y v H6):=by
   intro F G;funext A3 H3;show (if true=true then tk A3 H3 (fun y H5=>tv A3 H5 fun v H6=>F A3 y v H6) else G A3 H3)=_
   rw [if_pos rfl]
  rw [e (fun A3 y v H6=>∃ kvs k,y=kV k/\H6 D=some (.dK kvs)/\kvs.length < sizeLine/\∃ m',m' < xs.length - i/\(m'=xs.length - (i + 1)/\i + 1<=xs.length/\∃ Dr,I D (i + 1) A3 (upd H6 D (.dK (BK kvs k v))) Dr)) (fun A3 H4=>∃ m',m' < xs.length - i/\(m'=xs.length - (i + 1)/\i + 1<=xs.length/\∃ Dr,I D (i + 1) A3 H4 Dr))];refine turn D i σ H2 nv x ks[i] _ hD ex ek p fun A3 v H6 d6 p6=>?_
  exact ⟨_,Sum.inr ks[i],rfl,d6,by rw [Ca]; lia,xs.length - (i + 1),by lia,rfl,BH,nv ++ [(ks[i],v)],by rw [Df nin]; exact p6⟩
 ·have e:i=xs.length:=by lia
  subst e;exact .inl ⟨ov.stop H' s1,fin D σ H' nv hD p⟩
def tTru (K:Wm) (ta:TE):TT:=fun σ H Q=>ta σ H fun x H'=>∃ k,SI K x H' k/\Q k H'
theorem My (K:Wm) {X:Cx} (hK:X.K=K) {a:Expr} {ta:TE} (ha:PE X a ta) (he:∀ whole,isTrue a X.env whole=(do let v <- whole; standAt a.pos; holding [v] (truthy v))):PT X a (tTru K ta):=by subst hK; exact G7 ha he
theorem Oc {n:Nat} {g:TG} {te:TE} {H:Hp} {σ0:St} {R:Addr->Hp->Prop} (I:Addr->Nat->St->Hp->List V->Prop) (big:n < sizeLine)
  (h0:∀ D,H D=none->I D 0 σ0 (upd H D (.lst [])) [])
  (hs:∀ D i σ H' acc,H D=none->I D i σ H' acc->H' D=some (.lst acc)/\acc.length=i)
  (turn:∀ D i σ H' acc (B:St->V->Hp->Prop),H D=none->i < n->I D i σ H' acc->(∀ A3 v H5,H5 D=some (.lst acc)->I D (i + 1) A3 (upd H5 D (.lst (acc ++ [v]))) (acc ++ [v])->B A3 v H5)->g (.int (0 + (i:Int))) σ H' fun A3 H3=>te A3 H3 (B A3))
  (fin:∀ D σ H' acc,H D=none->I D n σ H' acc->R D H') :
  ∀ D,H D=none->∃ W:Nat->Nat->St->Hp->Prop,(∃ m,W 0 m σ0 (upd H D (.lst []))) /\
   ∀ i m Aq H',W i m Aq H'->((Nn 0 n).stop i H'/\R D H')\/((Nn 0 n).go i H'/\∀ x H2,(Nn 0 n).yld i H' x H2->g x Aq H2 fun A3 H3=>Kw A3 H3 fun b H4=>
    if b=true then te A3 H4 (fun v H5=>∃ acc,H5 D=some (.lst acc)/\acc.length < sizeLine/\∃ m',m' < m/\W (i + 1) m' A3 (upd H5 D (.lst (acc ++ [v])))) else ∃ m',m' < m/\W (i + 1) m' A3 H4):=by
 intro D hD;exists fun i m σ H'=>m=n - i/\i<=n/\∃ acc,I D i σ H' acc,⟨n,rfl,WR _,[],h0 D hD⟩
 rintro i m σ H' ⟨rfl,hi,acc,p⟩;obtain ⟨s2,s3⟩:=hs D i σ H' acc hD p;by_cases BH:i < n
 ·refine .inr ⟨BH,fun x H2 ⟨e1,e2⟩=>?_⟩;subst e1 e2;have e:∀ (F:St->V->Hp->Prop) (G:St->Hp->Prop),(fun (A3:St) (H3:Hp)=>Kw A3 H3 fun b H4=>if b=true then te A3 H4 (F A3) else G A3 H4)=fun A3 H3=>te A3 H3 (F A3):=by
   intro F G;funext A3 H3;show (if true=true then te A3 H3 (F A3) else G A3 H3)=_
   rw [if_pos rfl]
  rw [e (fun A3 v H5=>∃ acc,H5 D=some (.lst acc)/\acc.length < sizeLine/\∃ m',m' < n - i/\(m'=n - (i + 1)/\i + 1<=n/\∃ FH,I D (i + 1) A3 (upd H5 D (.lst (acc ++ [v]))) FH)) (fun A3 H4=>∃ m',m' < n - i/\(m'=n - (i + 1)/\i + 1<=n/\∃ FH,I D (i + 1) A3 H4 FH))];refine turn D i σ H2 acc _ hD BH p fun A3 v H5 d5 p5=>?_
  exact ⟨acc,d5,by lia,n - (i + 1),by lia,rfl,BH,_,p5⟩
 ·have e:i=n:=by lia
  subst e;exact .inl ⟨Wq _,fin D σ H' acc hD p⟩
theorem HZ {z:Str} (l u:Option Int) (h:QY z):QY (Txt.slice z l u):=by
 unfold Txt.slice;split
 ·exact h
 ·intro c hc;have Gn:c ∈ (Builtin.Str.strSliceIndices l u 1 z.length).filterMap (z.cps[·]?):=by simpa using hc
  obtain ⟨i,_,e⟩:=YD.mp Gn;exact h c (by rw [Array.mem_toList_iff]; exact YY e)
theorem NX {z:Str} {a:Int} (h0:0<=a) (h1:a<=z.length):(Txt.slice z none (some a)).length<=a.toNat:=by
 have e:(Builtin.Str.strSliceIndices none (some a) 1 z.length).length=a.toNat:=by
  unfold Builtin.Str.strSliceIndices sliceRange;simp only [show (1:Int) > 0 by decide,if_true,Wj,XU];(split <;> (try split) <;> (try split) <;> (try simp only [Z9]) <;> lia)
 unfold Txt.slice;split
 ·rename_i q
  rw [e] at q;have:a.toNat=z.length:=by simpa using q
  lia
 ·show (Z0 _ (Builtin.Str.strSliceIndices none (some a) 1 z.length)).toArray.size<=_
  rw [WC,<-e];exact YT _ _
theorem K4 {z:Str} {a:Int} (h0:0<=a) (h1:a<=z.length):(Txt.slice z (some a) none).length<=z.length - a.toNat:=by
 have e:(Builtin.Str.strSliceIndices (some a) none 1 z.length).length=z.length - a.toNat:=by
  unfold Builtin.Str.strSliceIndices sliceRange;simp only [show (1:Int) > 0 by decide,if_true,Wj,XU];(split <;> (try split) <;> (try split) <;> (try simp only [Z9]) <;> lia)
 unfold Txt.slice;split
 ·rename_i q
  rw [e] at q;have:z.length - a.toNat=z.length:=by simpa using q
  lia
 ·show (Z0 _ (Builtin.Str.strSliceIndices (some a) none 1 z.length)).toArray.size<=_
  rw [WC,<-e];exact YT _ _
theorem Ov {X:Cx}:EL X (binaryOp .Mult) (fun x y H Q=>∃ z n,x=.str z/\y=.int n/\(n=0\/n=1)/\Q (.str (if n=1 then z else Str.empty)) H):=by
 intro pins s σ H x y v u Q I rx ry h;obtain ⟨z,n,rfl,rfl,hn,q⟩:=h;obtain ⟨t,rfl⟩:=rx;obtain ⟨t',rfl⟩:=ry;rcases hn with rfl | rfl
 ·exact PySem.P.mul_str_none (by decide) (by decide) ⟨.str Str.empty,H,I.tok _,⟨_,rfl⟩,q⟩
 ·refine PySem.P.mul_str (by decide) (fun _ z=>by simp at z) (fun _ z=>by simp at z) ?_;rw [if_neg (by decide),if_pos (by simp)];exact ⟨.str z,H,I,⟨_,rfl⟩,q⟩
section
variable {prog:Program} {w:World} {A:Around} {E:Value->Shared->Prop} {s:Shared}
end
theorem Il (a b:Str):BL a b=BL b a:=by
 unfold BL;split
 ·rename_i h
  rw [if_neg (fun z=>YC h z)]
 ·rename_i h
  split
  ·rfl
  ·rename_i h'
   exact C3 h h'
theorem Im (a b:Str):BN a b=BN b a:=by
 unfold BN;split
 ·rename_i h
  rw [if_neg (fun z=>YC h z)]
 ·rename_i h
  split
  ·rfl
  ·rename_i h'
   exact (C3 h h').symm
theorem Be (K:Wm) {X:Cx} (h:X.K=K):B0 X (.type "tuple") (fun xs H Q=>∃ p ys,xs=[.ref p]/\((AD K H p ys/\∀ l,H l=none->Q (.ref l) (upd H l (.tup ys)))\/(AG K H p ys/\Q (.ref p) H))):=by subst h; exact HI
end L2
namespace L2
open PySem PySem.Spec PySem.W PyProof.Rows
theorem EG (K:Wm) {X:Cx} (h:X.K=K):B0 X (.builtin "sorted") (fun xs H Q=>∃ (a:Addr) (vs:List V) (kd:Nat->Bool),xs=[.ref a]/\AD K H a vs/\(∀ v ∈ vs,Nl H kd v) /\
  ∀ (l:Addr) (Kn:List V),H l=none->Kn.Perm vs->Q (.ref l) (upd H l (.lst Kn))):=by subst h; exact Fv
end L2
namespace L2
open PySem PySem.Spec PyProof.Rows
end L2
namespace HT
open PySem PySem.Spec PyProof.Rows
section
variable {prog:Program} {w:World} {A:Around} {E:Value->Shared->Prop} {s:Shared}
end
end HT
namespace L2
open PySem PySem.Spec PyProof.Rows
section
variable {X:Cx} {Φ:St->Hp->Prop} {a b:Expr} {pos:Pos} {n m:Nat}
end
section
variable {Φ:St->Hp->Prop} {n:Nat}
end
def oI:Option Int->V
 | none=>.non
 | some n=>.int n
def MV (H:Hp) (A:Addr) (G:Str->Str->Option V) (c:Nat):Prop:=∃ kvs:List (List AV × V),H A=some (.dT kvs)/\kvs.length<=c/\∀ x y,Bn kvs [Sum.inr x,Sum.inr y]=G x y
theorem MV.same {H H':Hp} {A:Addr} {G:Str->Str->Option V} {c:Nat} (h:MV H A G c) (s:Au H H'):MV H' A G c:=let ⟨kvs,a,b,d⟩:=h; ⟨kvs,s _ _ a,b,d⟩
theorem MV.up {H:Hp} {A:Addr} {G:Str->Str->Option V} {c c':Nat} (h:MV H A G c) (l:c<=c'):MV H A G c':=let ⟨kvs,a,b,d⟩:=h; ⟨kvs,a,WJ b l,d⟩
def K5 (G:Str->Str->Option V) (x y:Str) (v:V):Str->Str->Option V:=fun a b=>if a=x/\b=y then some v else G a b
theorem MV.get {H:Hp} {A t:Addr} {G:Str->Str->Option V} {c:Nat} (h:MV H A G c) {x y:Str} (ht:H t=some (.tup [.str x,.str y])):BX H A (.ref t) (G x y):=by
 obtain ⟨kvs,a,_,d⟩:=h;rw [<-d x y];exact BX.t (k:=[Sum.inr x,Sum.inr y]) a ht
theorem MV.put {H:Hp} {A t:Addr} {G:Str->Str->Option V} {c:Nat} (h:MV H A G c) (hc:c < sizeLine) {x y:Str} {v:V} (ht:H t=some (.tup [.str x,.str y])):∃ H',DO H A (.ref t) v H'/\MV H' A (K5 G x y v) (c + 1)/\∃ kvs,H'=upd H A (.dT kvs):=by
 obtain ⟨kvs,a,b,d⟩:=h;refine ⟨_,DO.t (k:=[Sum.inr x,Sum.inr y]) a ht (by lia),⟨_,Ab,?_,fun p q=>?_⟩,_,rfl⟩
 ·have:=CV kvs [Sum.inr x,Sum.inr y] v;lia
 ·rw [NF];unfold K5;by_cases e:p=x/\q=y
  ·obtain ⟨rfl,rfl⟩:=e;simp
  ·have e':¬ ([Sum.inr p,Sum.inr q]:List AV)=[Sum.inr x,Sum.inr y]:=fun z=>by
    simp only [Ya.injEq,Sum.inr.injEq,and_true] at z;exact e z
   rw [if_neg e',if_neg e,d]
def MO (H:Hp) (A:Addr) (xs:List Str) (M:Str->Str->Option Int) (c:Nat):Prop:=∃ G,MV H A G c/\(∀ x ∈ xs,∀ y ∈ xs,G x y=some (oI (M x y)))/\∀ x y,¬ (x ∈ xs/\y ∈ xs)->G x y=none
theorem MO.same {H H':Hp} {A:Addr} {xs:List Str} {M:Str->Str->Option Int} {c:Nat} (h:MO H A xs M c) (s:Au H H'):MO H' A xs M c:=let ⟨G,a,b⟩:=h; ⟨G,a.same s,b⟩
theorem MO.up {H:Hp} {A:Addr} {xs:List Str} {M:Str->Str->Option Int} {c c':Nat} (h:MO H A xs M c) (l:c<=c'):MO H A xs M c':=let ⟨G,a,b⟩:=h; ⟨G,a.up l,b⟩
theorem MO.get {H:Hp} {A t:Addr} {xs:List Str} {M:Str->Str->Option Int} {c:Nat} (h:MO H A xs M c) {x y:Str} (hx:x ∈ xs) (hy:y ∈ xs) (ht:H t=some (.tup [.str x,.str y])):BX H A (.ref t) (some (oI (M x y))):=by
 obtain ⟨G,a,b,_⟩:=h;rw [<-b x hx y hy];exact a.get ht
theorem MO.put {H:Hp} {A t:Addr} {xs:List Str} {M:Str->Str->Option Int} {c:Nat} (h:MO H A xs M c) (hc:c < sizeLine) {x y:Str} (hx:x ∈ xs) (hy:y ∈ xs) {n:Int} (ht:H t=some (.tup [.str x,.str y])):∃ H',DO H A (.ref t) (.int n) H'/\MO H' A xs (IU M x y n) (c + 1)/\∃ kvs,H'=upd H A (.dT kvs):=by
 obtain ⟨G,a,b,d⟩:=h;obtain ⟨H',dp,mv,e⟩:=a.put hc (v:=.int n) ht;refine ⟨H',dp,⟨_,mv,fun p hp q hq=>?_,fun p q hn=>?_⟩,e⟩
 ·unfold K5 IU;split
  ·rfl
  ·exact b p hp q hq
 ·unfold K5;rw [if_neg (fun z=>hn ⟨by rw [z.1]; exact hx,by rw [z.2]; exact hy⟩)];exact d p q hn
theorem MO.md {H:Hp} {A:Addr} {xs:List Str} {M:Str->Str->Option Int} {c:Nat} (h:MO H A xs M c) (full:∀ x ∈ xs,∀ y ∈ xs,∃ n,M x y=some n):MD H A (fun x y=>if x ∈ xs/\y ∈ xs then M x y else none) c:=by
 obtain ⟨G,⟨kvs,a,b,d⟩,e,f⟩:=h;refine ⟨kvs,a,b,fun x y=>?_⟩;rw [d x y];dsimp only;by_cases hxy:x ∈ xs/\y ∈ xs
 ·obtain ⟨n,hn⟩:=full x hxy.1 y hxy.2;rw [e x hxy.1 y hxy.2,if_pos hxy,hn];rfl
 ·rw [f x y hxy,if_neg hxy];rfl
theorem Kh {X:Cx} (hc:X.calm=true):B0 X (.builtin "any") (fun xs H Q=>∃ (p:Addr) (bs:List Bool),xs=[.ref p]/\AD X.K H p (bs.map V.bl)/\Q (.bl (bs.any id)) H):=by
 intro pins s σ H xs us Q I r h;obtain ⟨p,bs,rfl,hq,q⟩:=h;obtain ⟨u,rfl,ru⟩:=Ci r;cases ru
 obtain ⟨Aw,rv,pl,hz⟩:=I.list hq;have hlen:Aw.length=bs.length:=by rw [<-rv.length,Wj]
 refine call_any_walk (wpAny_pyIter_list pl.isList ?_);have hne:p ≠ s.heap.objs.size:=by
  obtain ⟨o,n,e,_⟩:=pl;exact W6 (Wr e)
 exists s.heap.objs.size,_,_,_,_,_,fun i=>bs.getD i false,rfl,Walks.list (A:=X.A.in1) (I.ok.hd hc) s.heap.objs.size p hne Aw.toArray,⟨⟨_,W0 _ rfl,rfl,rfl⟩,?_⟩,?_
 ·exact pl.isList.at fun o e=>Wl _ e
 ·intro i v s1 Q1 E1 hv hQ;have TQ:Aw[i]? = some v:=by simpa using hv
  have hb:∃ b,bs[i]? = some b:=by
   cases e:bs[i]? with
   | some b=>exact ⟨b,rfl⟩
   | none=>
    have:=YR.mp e;have:=(Wt.mp TQ).1;lia
  obtain ⟨b,hb⟩:=hb;obtain ⟨u,hu,ru⟩:=rv.get (i:=i) (x:=V.bl b) (by rw [Wy,hb]; rfl);rw [TQ] at hu;cases hu
  cases ru
  have e:bs.getD i false=b:=by rw [Wv,hb]; rfl
  have Uq:Q1 (bs.getD i false) s1:=hQ;rw [e] at Uq;exact wpAny_truthy_bool Uq
 ·intro h' tk hk;have e:(Xc Aw.toArray.size).any (fun i=>bs.getD i false)=bs.any id:=by
   rw [WC,hlen];apply Xg.mpr;simp only [Xr,X8,id];constructor
   ·rintro ⟨i,hi,h⟩;rw [Wv,Wk hi] at h;exact ⟨_,Xb hi,by simpa using h⟩
   ·rintro ⟨b,hb,h⟩;obtain ⟨i,hi,e⟩:=W2 hb;exists i,hi;rw [Wv,Wk hi];simpa [e] using h
  rw [e];refine ⟨.bl _,H,?_,rfl,q⟩;have I1:An X pins σ H { s with heap:=s.heap.push { cls:=.type "list_iterator",data:=.fields #[.ref p,.int 0 0] } }:=I.kept (t':=s.toks) fun b o e=>Wl _ e
  have F:=I.fpOk (Wq _) (I.hok.fresh (Wq _));obtain ⟨f0,f1,f2,f3,f4,f5⟩:=F;exact I1.turned (it:=s.heap.objs.size) (fun b o hb e=>hk b o (by simpa using hb) e) f0 f1 f3 f4 f5
open Classical in
noncomputable def dst (ws:List A5) (x y:Str):Int:=if h:∃ n,Jy ws x y n then h.choose else 0
theorem Jy.dst {ws:List A5} {x y:Str} {n:Int} (h:Jy ws x y n):dst ws x y=n:=by
 unfold L2.dst;rw [dif_pos ⟨n,h⟩];exact Jy.uniq (Exists.choose_spec (⟨n,h⟩:∃ n,Jy ws x y n)) h
theorem DF.get {H:Hp} {v:V} {xs:List Str} {ws:List A5} {s y:Str} (h:DF H v xs ws s) (nd:xs.Nodup) (hy:y ∈ xs):∃ B,v=.ref B/\BX H B (.str y) (some (.int (dst ws s y))):=by
 obtain ⟨B,nb,rfl,hB,ks,hd⟩:=h;rw [<-ks] at hy;obtain ⟨⟨z,u⟩,hm,e⟩:=W4.mp hy;have e':z=y:=e;subst e';obtain ⟨n,rfl,d⟩:=hd z u hm;rw [d.dst];exact ⟨B,rfl,.inl ⟨_,Sum.inr z,.inl hB,rfl,(C1 (nv:=nb) (by rw [ks]; exact nd) hm).symm⟩⟩
theorem Dd.get {H:Hp} {A t:Addr} {xs:List Str} {ws:List A5} {y z:Str} (h:Dd H A xs ws) (hy:y ∈ xs) (hz:z ∈ xs) (ht:H t=some (.tup [.str y,.str z])):BX H A (.ref t) (some (.int (dst ws z y)))/\0<=dst ws z y/\dst ws z y < 2 ^ 300:=by
 obtain ⟨M,c,md,hm⟩:=h;obtain ⟨n,e,d,n0,n1⟩:=hm y hy z hz;have:=md.get ht;rw [e] at this;rw [d.symm.dst];exact ⟨this,n0,n1⟩
end L2
namespace L2
open PySem PySem.Builtin.Str PySem.StrLaws
end L2
namespace L2
open PySem PySem.Spec PyProof.Rows PySem.NumText
theorem HL {X:Cx}:B0 X (.type "int") (fun xs H Q=>∃ (x:Str) (n:Int),xs=[.str x]/\PySem.intText? x=some n/\x.length<=640/\Q (.int n) H):=by
 intro pins s σ H xs us Q I r h;obtain ⟨x,n,rfl,e,l,q⟩:=h;obtain ⟨u,rfl,t,rfl⟩:=Ci r;exact PySem.W.KIN.call_text e l ⟨.int n,H,I.tok _,⟨_,rfl⟩,q⟩
end L2
namespace L2
open PySem PySem.Spec PyProof.Rows
section
variable {prog:Program} {w:World} {A:Around} {E:Value->Shared->Prop} {s:Shared}
end
section
variable {prog:Program} {w:World} {A:Around} {E:Value->Shared->Prop} {s:Shared}
end
end L2
namespace HT
open PySem PySem.Spec PyProof.Rows
section
variable {prog:Program} {w:World} {A:Around} {E:Value->Shared->Prop} {s:Shared}
end
end HT
namespace L2
open PySem PySem.Spec PyProof.Rows
end L2
namespace L2
open PySem PySem.Spec PySem.W PyProof.Rows
section
variable {prog:Program} {w:World} {A:Around} {E:Value->Shared->Prop} {s:Shared} {κ:SortKind} {lt:Keyed->Keyed->Bool} {a0:Array Keyed}
theorem Fl {n:Nat} (h1:1<=n) (Sy:n < 64):(sortPriv% PySem.Builtin.minRun) n n 0=n:=by
 obtain ⟨f,hf⟩:∃ f,n=f + 1:=⟨n - 1,by lia⟩
 have:minRun' (f + 1) n 0=n:=by rw [minRun'_succ,if_pos Sy]; rfl
 rw [<-hf] at this;exact this
theorem Gu {st:SortSt} {Q:Unit->SortSt->Prop} (an:Ln prog w A s κ lt a0) (hk:kindOf st=κ) (ha:arrOf st=a0) (hf:failedOf st=none) (hpe:pendingOf st=#[]) (h2:1<=a0.size) (Sy:a0.size < 64)
  (h:∀ Ay,(arrOf Ay).Perm a0->failedOf Ay=none->Q () Ay):wpS (model prog w) A E s sortRuns' Q st:=by
 have hp:(arrOf st).Perm a0:=by rw [ha]
 refine wpS_bind (wpS_get ?_);dsimp only;have ez:((sortPriv% PySem.Builtin.SortState.a) st).size=a0.size:=by rw [show (sortPriv% PySem.Builtin.SortState.a) st=a0 from ha]
 rw [ez];refine wpS_bind (wpS_mono (wpS_forRange (I:=fun x c Ay=>(x=0/\c=(none,0)/\Ay=st)\/(1<=x/\c=(none,a0.size)/\(arrOf Ay).Perm a0/\failedOf Ay=none/\(pendingOf Ay).size<=1 ))
  (Q:=fun c Ay=>c=(none,a0.size)/\(arrOf Ay).Perm a0/\failedOf Ay=none/\(pendingOf Ay).size<=1 ) ?step ?fin (.inl ⟨rfl,rfl,rfl⟩)) ?post)
 case fin=>
  rintro c Ay (⟨hx,_,_⟩ | ⟨_,r⟩)
  ·lia
  ·exact r
 case step=>
  rintro x c Ay _ hx (⟨rfl,rfl,rfl⟩ | ⟨_,rfl,r⟩)
  ·dsimp only;rw [if_neg (by lia)];refine wpS_bind (Ex an hk hp (by lia) (by lia) fun m ys k1 m1 m2=>?_);dsimp only;have hpd:∀ zs,(pendingOf (setArr Ay zs)).back? = none:=fun zs=>by
    show (pendingOf Ay).back? = none
    rw [hpe];rfl
   by_cases hm:m < (sortPriv% PySem.Builtin.minRun) a0.size a0.size 0
   ·rw [if_pos hm];refine wpS_bind (wpS_lift (wpAny_rule ⟨rfl,?_⟩));refine wpS_bind (DH (st:=setArr Ay ys) an hk (k1.1.trans hp) (by lia) m1 (by lia) fun zs k2=>?_);simp only [Yr,WB,if_false];refine wpS_bind (wpS_get ?_);rw [hpd];dsimp only;have emin:min (a0.size - 0) ((sortPriv% PySem.Builtin.minRun) a0.size a0.size 0)=a0.size:=by rw [Fl h2 Sy]; lia
    rw [emin];exact wpS_bind (wpS_modify (wpS_pure (.inr ⟨by lia,by rw [XC],k2.1.trans (k1.1.trans hp),hf,by show ((pendingOf Ay).push _).size<=1; rw [hpe]; exact Wq 1 ⟩)))
   ·rw [if_neg hm];rw [Fl h2 Sy] at hm;have em:m=a0.size:=by lia
    refine wpS_bind (wpS_get ?_);rw [hpd];dsimp only;rw [em];exact wpS_bind (wpS_modify (wpS_pure (.inr ⟨by lia,by rw [XC],k1.1.trans hp,hf,by show ((pendingOf Ay).push _).size<=1; rw [hpe]; exact Wq 1 ⟩)))
  ·dsimp only;rw [if_pos (Wq _)];exact wpS_pure ⟨rfl,r⟩
 case post=>
  rintro c Ay ⟨rfl,r1,r2,r3 ⟩;dsimp only;refine wpS_bind (wpS_mono (wpS_forRange (I:=fun _ c B4=>B4=Ay/\c=(none,())) (Q:=fun c B4=>B4=Ay/\c=(none,())) ?_ (fun _ _ hh=>hh) ⟨rfl,rfl⟩) ?_)
  ·rintro x c B4 _ _ ⟨rfl,rfl⟩;refine wpS_bind (wpS_get ?_);rw [if_pos r3];exact wpS_pure ⟨rfl,rfl⟩
  ·rintro c B4 ⟨rfl,rfl⟩;exact wpS_pure (h _ r1 r2 )
theorem KN {a:Addr} {vs:List Value} {n:Nat} {P:Fin->Shared->Prop} (lies:s.heap.get? a=some (seqObj "list" vs.toArray n)) (few:vs.length<=sizeLine) (Sy:vs.length < 64)
  (cm:2<=vs.length->∀ h',(∀ b o,b ≠ a->s.heap.get? b=some o->h'.get? b=some o) ->
   ∃ κ,(∀ (Q:SortKind->Shared->Prop) (E:Value->Shared->Prop),Q κ { s with heap:=h' }->wpAny (model prog w) A (keyKind' vs.toArray) Q E { s with heap:=h' })/\Ln prog w A { s with heap:=h' } κ lt (pairsOf vs))
  (k:∀ out:List Value,out.Perm vs->P (.done (.ret .none)) { s with heap:=sortedHeap s.heap a vs out.toArray }) :
  wpAny (model prog w) A (Builtin.«list.sort» ⟨[.ref a],[]⟩) P E s:=by
 have alt:=Wr lies;rw [list_sort_plain];refine wpAny_bind (listItems_at lies rfl (wpAny_bind (listUpdate_at lies rfl ?_ (by simpa using few) (WR _))));obtain ⟨c,JU⟩:∃ c,(s.heap.update a (Obj.mapSeq fun _=>#[])).get? a=some (seqObj "list" #[] c):=⟨_,get?_update_seq lies (fun _=>#[])⟩
 refine wpAny_bind (seqEpoch_at JU rfl (wpAny_bind (wpAny_newTuple (wpAny_bind (wpAny_newList (wpAny_holding ?_) (WR _))) (by simpa using few))));obtain ⟨h3,QN⟩:∃ h3,h3=((s.heap.update a (Obj.mapSeq fun _=>(#[]:Array Value))).push (seqObj "tuple" vs.toArray 0)).push (seqObj "list" #[] 0):=⟨_,rfl⟩
 have Fm:h3.get? a=some (seqObj "list" #[] c):=by
  rw [QN];exact Wl _ (Wl _ JU)
 have OJ:∀ b o,b ≠ a->s.heap.get? b=some o->h3.get? b=some o:=fun b o hb e=>by
  rw [QN];exact Wl _ (Wl _ ((Y8 _ _ _ _ hb).trans e))
 show wpAny (model prog w) A _ P E { s with heap:=((s.heap.update a (Obj.mapSeq fun _=>(#[]:Array Value))).push (seqObj "tuple" vs.toArray 0)).push (seqObj "list" #[] 0) }
 rw [<-QN];have last:∀ Ay:SortSt,(arrOf Ay).Perm (pairsOf vs)->P (.done (.ret .none)) { s with heap:=h3.update a (Obj.mapSeq fun _=>(arrOf Ay).map (·.2)) }:=fun Ay hp=>by
  have e:(arrOf Ay).map (·.2)=((arrOf Ay).toList.map (·.2)).toArray:=by apply Yt.mp; simp
  have q:=k _ (JN hp);rw [<-e] at q;rw [QN];exact q
 have zl:∀ Ay:SortSt,(arrOf Ay).Perm (pairsOf vs)->((arrOf Ay).map (·.2)).size<=sizeLine + 1:=fun Ay hp=>by
  rw [Zx,hp.size_eq,pairsOf_size];lia
 have zv:vs.toArray.size=vs.length:=rfl;dsimp only;rcases Zd vs.toArray.size 2 with lo | hi
 ·rw [if_pos lo,if_pos lo];refine wpAny_bind (wpAny_pure ?_);rw [StateT.run_pure];refine wpAny_bind (wpAny_pure (wpAny_bind (seqEpoch_at Fm rfl ?_)));have p0:(arrOf (SortSt.mk' general' (vs.toArray.zip vs.toArray) #[] 7 none)).Perm (pairsOf vs):=Array.Perm.refl _;refine wpAny_bind (listUpdate_at Fm rfl ?_ (WR _) (zl _ p0));rw [bne_self_eq_false];exact wpAny_pure (last _ p0)
 ·rw [if_neg (by lia),if_neg (by lia)];obtain ⟨κ,k1,k2⟩:=cm (by lia) h3 OJ;refine wpAny_bind (k1 _ _ ?_);refine wpAny_bind (wpAny_mono (Gu (a0:=pairsOf vs) (st:=SortSt.mk' κ (vs.toArray.zip vs.toArray) #[] 7 none)
   (Q:=fun _ Ay=>(arrOf Ay).Perm (pairsOf vs)/\failedOf Ay=none) k2 rfl rfl rfl rfl (by rw [pairsOf_size]; lia) (by rw [pairsOf_size]; lia) fun Ay a1 a2=>⟨a1,a2⟩) ?_ fun _ _ e=>e)
  rintro ⟨u,Ay⟩ s' ⟨rfl,hp,hf⟩;refine wpAny_bind (seqEpoch_at Fm rfl (wpAny_bind (listUpdate_at Fm rfl ?_ (WR _) (zl _ hp))));dsimp only;rw [hf,bne_self_eq_false];exact wpAny_pure (last Ay hp)
end
end L2
namespace L2
open PySem PySem.Spec PyProof.Rows
section
variable {H:Hp} {c m o t T:Addr} {n:Nat} {xs:List Str} {ws:List A5} {A9 AJ:List DL} {x:V} {d:PyData} {ss:List Str} {zs:List (Str × Str)} {qs:List DL} {lv:Int}
end
def Jc (a:Addr) (i l:Int):List V:=[.ref a,.int i,.int l]
theorem LI (a:Addr) (i l:Int):J1 (Jc a i l) 0=some (.ref a):=rfl
theorem pn5_1 (a:Addr) (i l:Int):J1 (Jc a i l) 1=some (.int i):=rfl
theorem Oq (a:Addr) (i l:Int):J1 (Jc a i l) 2=some (.int l):=rfl
def CM (K:Wm) (H:Hp) (p:Addr):Prop:=∃ (a:Addr) (ns:List Int) (i l:Int),H p=some (.lst (Jc a i l))/\Lh K H a (ns.map V.int)/\ns.length<=63/\0<=i/\0<=l
theorem CM.ne {K:Wm} {H:Hp} {p q:Addr} (h:CM K H p) (e:H q=none):q ≠ p:=by
 obtain ⟨a,ns,i,l,h,_⟩:=h;intro z; subst z; rw [h] at e; cases e
theorem Lh.keep {K:Wm} {H H':Hp} {a p:Addr} {xs:List V} {ys:List V} (h:Lh K H a xs) (hp:H p=some (.lst ys)) (k:A8 p H H'):Lh K H' a xs:=by
 rcases h with ⟨ob,h⟩ | h
 ·refine .inl ⟨ob,k _ _ (fun z=>?_) h⟩;subst z;rw [hp] at h;cases h
 ·exact .inr h
theorem CM.same {K:Wm} {H H':Hp} {p:Addr} (h:CM K H p) (s:Au H H'):CM K H' p:=by
 obtain ⟨a,ns,i,l,h,sc,r⟩:=h;exact ⟨a,ns,i,l,s _ _ h,sc.keep h (A8.of_same s),r⟩
theorem CM.other {K:Wm} {H:Hp} {p D:Addr} {ys zs:List V} (h:CM K H p) (hD:H D=some (.lst ys)) (ne:D ≠ p):CM K (upd H D (.lst zs)) p:=by
 obtain ⟨a,ns,i,l,h,sc,r⟩:=h;refine ⟨a,ns,i,l,by rw [Ae ne.symm]; exact h,?_,r⟩;rcases sc with ⟨ob,h'⟩ | h'
 ·refine .inl ⟨ob,?_⟩;rw [Ae (by intro z; subst z; rw [hD] at h'; cases h')];exact h'
 ·exact .inr h'
theorem CM.put {K:Wm} {H:Hp} {p a:Addr} {ns:List Int} {i l i' l':Int} (hp:H p=some (.lst (Jc a i l))) (sc:Lh K H a (ns.map V.int)) (ln:ns.length<=63) (i0:0<=i') (l0:0<=l'):CM K (upd H p (.lst (Jc a i' l'))) p:=
 ⟨a,ns,i',l',Ab,sc.keep hp A8.upd,ln,i0,l0⟩
theorem Ez {K:Wm} {H H':Hp} {p:Addr} (hP:CM K H p) (k:A8 p H H'):∀ b ys,H b=some (.tup ys)->H' b=some (.tup ys):=fun b ys z=>k b _ (by
 obtain ⟨_,_,_,_,q,_⟩:=hP;exact Br z q (fun y=>by cases y)) z
def CO (K:Wm):Sp:=fun vs H Q _=>∃ (p:Addr) (m:Int),vs=[.ref p,.int m]/\CM K H p/\0 < m/\m < 1073741824/\∀ (d:Int) (H':Hp),CM K H' p->A8 p H H'->0<=d->d < m->Q (.int d) H'
def K2 (K:Wm):Sp:=fun vs H Q _=>∃ p:Addr,vs=[.ref p]/\CM K H p/\∀ (d:Int) (H':Hp),CM K H' p->A8 p H H'->1<=d->d < 10 ^ 30->Q (.int d) H'
def Gy (K:Wm):Sp:=fun vs H Q _=>∃ (p:Addr) (n:Nat),vs=[.ref p,.int n]/\CM K H p/\n<=26 /\
 ∀ (H':Hp) (D:Addr) (xs:List Str),CM K H' p->A8 p H H'->H D=none->H' D=some (.lst (xs.map V.str))->xs.length=n->xs.Nodup->(∀ x ∈ xs,C9 x=true)->Q (.ref D) H'
def IS (K:Wm):Sp:=fun vs H Q _=>∃ (p e:Addr) (xs:List Str) (m:Nat),vs=[.ref p,.ref e,.int m]/\CM K H p/\H e=some (.lst (xs.map V.str))/\e ≠ p/\xs.length<=30/\m<=xs.length /\
 ∀ (H':Hp) (D:Addr) (ys zs:List Str),CM K H' p->A8 p H H'->H D=none->H' D=some (.lst (ys.map V.str))->(ys ++ zs).Perm xs->ys.length=m->sortedS ys=true->Q (.ref D) H'
def HN:Nat->Str
 | 0=>Str.empty
 | n + 1=>⟨(Array.replicate (n + 1) 48)⟩
theorem LZ:∀ k:Fin 30,PySem.intText? (Str.ofString "1" ++ HN k.1)=some (10 ^ k.1)/\(HN k.1).length=k.1:=by decide +kernel
theorem NL:∀ k:Fin 30,1<=(10:Int) ^ k.1/\(10:Int) ^ k.1 + 10<=10 ^ 30:=by decide +kernel
theorem Nx:∀ k:Fin 30,(⟨(Zz k.1 (Str.ofString "0").cps).foldl (· ++ ·) #[]⟩:Str)=HN k.1:=by decide +kernel
theorem Qt {X:Cx}:EL X (binaryOp .Mult) (fun x y H Q=>∃ n:Nat,x=.str (Str.ofString "0")/\y=.int n/\n < 30/\Q (.str (HN n)) H):=by
 intro pins s σ H x y v u Q I rx ry h;obtain ⟨n,rfl,rfl,hn,q⟩:=h;obtain ⟨t,rfl⟩:=rx;obtain ⟨t',rfl⟩:=ry;have big:1000<=sizeLine:=by decide
 match n,hn,q with
 | 0,_,q=>exact PySem.P.mul_str_none (by decide) (by decide) ⟨.str Str.empty,H,I.tok _,⟨_,rfl⟩,q⟩
 | 1,_,q=>
  refine PySem.P.mul_str (by decide) (fun _ z=>by simp at z) (fun _ z=>by simp at z) ?_;rw [if_neg (by decide),if_pos (by simp)];exact ⟨.str _,H,I,⟨_,rfl⟩,by rw [show Str.ofString "0"=HN 1 by decide +kernel]; exact q⟩
 | n + 2,hn,q=>
  have l1:(Str.ofString "0").length=1:=by decide +kernel
  have e:((n + 2:Nat):Int).toNat=n + 2:=rfl;refine PySem.P.mul_str (by rw [decide_eq_false (by lia),decide_eq_false (by lia)]; rfl) (fun _ _=>?_) (fun _ _=>?_) ?_
  ·rw [l1];have:(1:Int)<=(2 ^ 63 - 1) / ((n + 2:Nat):Int):=by
    rw [Int.le_ediv_iff_mul_le (by lia)];lia
   lia
  ·rw [l1,e];exact decide_eq_false (by show ¬ _; lia)
  ·rw [if_neg (by lia),if_neg (by rw [l1]; simp; lia),e,Nx ⟨n + 2,hn⟩];refine ⟨?_,⟨.str _,H,I.tok _,⟨_,rfl⟩,q⟩⟩;have:=(LZ ⟨n + 2,hn⟩).2;lia
theorem FL {α β:Type} (f:α->β) {m out:List β} (p:m.Perm out):∀ xs:List α,m=xs.map f->∃ ys:List α,ys.Perm xs/\out=ys.map f:=by
 induction p with
 | nil=>
  intro xs e;cases xs with
  | nil=>exact ⟨[],.nil,rfl⟩
  | cons a xs=>cases e
 | cons a p ih=>
  intro xs e;cases xs with
  | nil=>cases e
  | cons b xs=>
   simp only [WG,Ya.injEq] at e;obtain ⟨ys,h1,rfl⟩:=ih xs e.2;exact ⟨b :: ys,h1.cons b,by rw [e.1]; rfl⟩
 | swap a b l=>
  intro xs e;match xs,e with
  | [],e=>cases e
  | [_],e=>cases e
  | x :: y :: xs,e=>
   simp only [WG,Ya.injEq] at e;exact ⟨y :: x :: xs,.swap _ _ _,by rw [e.1,e.2.1,e.2.2]; rfl⟩
 | trans p q TM TL=>
  intro xs e;obtain ⟨ys,h1,e1⟩:=TM xs e;obtain ⟨zs,h2,e2⟩:=TL ys e1;exact ⟨zs,h2.trans h1,e2⟩
theorem Hq {X:Cx} (hc:X.calm=true):B0 X (.builtin "sorted") (fun xs H Q=>∃ (d:Addr) (kvs:List (List AV × V)) (kd:Nat->Bool),xs=[.ref d]/\H d=some (.dT kvs)/\(∀ p ∈ kvs,p.1 ≠ []/\∀ (i:Nat) k,p.1[i]? = some k->Kk (kd i) (kV k))/\kvs.length < 64 /\
  ∀ (l:Addr) (ts:List Addr) (ks:List (List AV)),H l=none->ks.Perm (kvs.map (·.1))->ts.length=ks.length->(∀ (i:Nat) t k,ts[i]? = some t->ks[i]? = some k->H t=some (.tup (k.map kV)))->Q (.ref l) (upd H l (.lst (ts.map V.ref)))):=by
 intro pins s σ H xs us Q I r h;obtain ⟨d,kvs,kd,rfl,hd,hk,Sy,q⟩:=h;obtain ⟨u,rfl,ru⟩:=Ci r;cases ru
 obtain ⟨z,y,xs,rel,o,es,ep,h1,h2,h3,h4,h5⟩:=(show A6 X.prog X.w H s.heap d (.dT kvs) from I.hok d _ hd)
 have rl:=Paired.length rel;have hlen:es.size=kvs.length:=by
  rw [<-WL,h4,Wj];exact rl.symm
 have sm:∀ {l:List (List AV × V)} {m:List (List AV × Addr × Value)},Paired (fun (p:List AV × V) (q:List AV × Addr × Value)=>p.1=q.1/\H q.2.1=some (.tup (p.1.map kV))/\Az p.2 q.2.2) l m->l.map (·.1)=m.map (·.1)/\∀ q ∈ m,H q.2.1=some (.tup (q.1.map kV)):=by
  intro l m r;induction r with
  | nil=>exact ⟨rfl,fun q hq=>nomatch hq⟩
  | cons a b ih=>
   refine ⟨by rw [WG,WG,a.1,ih.1],fun q hq=>?_⟩;rcases Wn.mp hq with rfl | hq
   ·rw [<-a.1]; exact a.2.1
   ·exact ih.2 q hq
 obtain ⟨keq,kat⟩:=sm rel;have vals:∀ l:List (List AV × Addr × Value),A7 ((l.map (·.2.1)).map V.ref) (l.map fun q=>Value.ref q.2.1):=by
  intro l;induction l with
  | nil=>exact .nil
  | cons q l ih=>exact .cons rfl ih
 have tk:∀ v ∈ (xs.map (·.2.1)).map V.ref,Nl H kd v:=fun v hv=>by
  obtain ⟨t,ht,rfl⟩:=W4.mp hv;obtain ⟨q,hq,rfl⟩:=W4.mp ht;have hm:q.1 ∈ kvs.map (·.1):=by rw [keq]; exact Yl hq
  obtain ⟨p,hp,e⟩:=W4.mp hm;obtain ⟨n1,n2⟩:=hk p hp;rw [e] at n1 n2;refine ⟨_,_,rfl,kat q hq,fun z=>n1 (Y9.mp z),fun i y e=>?_⟩;rw [Wy] at e;cases w:q.1[i]? with
  | none=>rw [w] at e; cases e
  | some k=>rw [w] at e; rw [<-WA.inj e]; exact n2 i k w
 have tu:=IQ I (vals xs) tk;refine Calls.call_function_entry kind_sorted plain_sorted entry_sorted (args_sorted1 _) ?_;unfold Builtin.«sorted»;refine wpAny_bind (m:=checkCount "sorted" 1 1 _) (wpAny_pure ?_);refine wpAny_bind (PySem.W.kdu_collect (Qm (es:=es) (ep:=ep) y) (I.ok.hd hc) ⟨o,h1,h2,h3⟩ (by rw [hlen]; exact z) fun h' tk acc PH hacc=>?_);have key:∀ (i:Nat) v,acc.toList[i]? = some v->∃ q,xs[i]? = some q/\v=.ref q.2.1:=fun i v e=>by
  have e2:=hacc.2 i v (by rw [<-Xh]; exact e);dsimp only at e2;rw [<-Xh,h4,Wy] at e2;cases z:xs[i]? with
  | none=>rw [z] at e2; cases e2
  | some q=>
   rw [z] at e2;exact ⟨q,rfl,(WA.inj e2).symm⟩
 have al:acc.toList.length=xs.length:=by
  rw [WL,hacc.1,<-WL,h4,Wj]
 have av:acc.toList=xs.map fun q=>Value.ref q.2.1:=by
  refine List.ext_getElem (by rw [al,Wj]) fun i i1 i2=>?_
  obtain ⟨q,e1,e2⟩:=key i _ (Wk i1);rw [List.getElem_map];rw [Wk (by rw [<-al]; exact i1)] at e1;rw [e2,WA.inj e1]
 have big:100000 < sizeLine:=by decide
 refine wpAny_bind (wpAny_newList ?_ (by rw [al]; lia));have hoL:(h'.push (seqObj "list" acc.toList.toArray 0)).get? h'.objs.size=some (seqObj "list" acc.toList.toArray 0):=W0 _ rfl;have keep:∀ b o,s.heap.get? b=some o->(h'.push (seqObj "list" acc.toList.toArray 0)).get? b=some o:=fun b o q=>Wl _ (PH b o q)
 show wpAny _ _ _ _ _ { s with heap:=h'.push (seqObj "list" acc.toList.toArray 0),toks:=tk }
 refine wpAny_bind (wpAny_holding (wpAny_call_entry slot_list_sort ⟨_,hoL,rfl⟩ entry_list_sort (KN (lt:=fun x y=>AO (CY s.heap x.1) (CY s.heap y.1)) (s:={ s with heap:=h'.push (seqObj "list" acc.toList.toArray 0),toks:=tk }) hoL (by rw [al]; lia) (by rw [al]; lia) ?_ fun out o1=>⟨_,rfl,wpAny_pure ⟨_,rfl,?_⟩⟩) (args_list_sort _)))
 ·intro z2 h'' kp;exact HV (s:={ s with toks:=tk }) (by rw [av]; exact tu) z2 _ h'' fun b o e=>kp b o (W6 (Wr (PH b o e))) (keep b o e)
 ·rw [av] at o1;obtain ⟨Ny,px,rfl⟩:=FL _ o1.symm xs rfl;obtain ⟨e,he⟩:=sortedHeap_at (out:=(Ny.map fun q=>Value.ref q.2.1).toArray) hoL;have gone:s.heap.get? h'.objs.size=none:=by
   cases z:s.heap.get? h'.objs.size with
   | none=>rfl
   | some o=>exact absurd (Wr (PH _ _ z)) (WT _)
  have fl:H h'.objs.size=none:=by
   cases z:H h'.objs.size with
   | none=>rfl
   | some u=>
    obtain ⟨ob,e⟩:=A6.there (I.hok _ u z);rw [gone] at e;cases e
  obtain ⟨m,hlm⟩:=id I.loc;obtain ⟨oL,esL,epL,Uc,rL⟩:=id hlm.1;have old:∀ b o,s.heap.get? b=some o->(sortedHeap (h'.push (seqObj "list" acc.toList.toArray 0)) h'.objs.size acc.toList (Ny.map fun q=>Value.ref q.2.1).toArray).get? b=some o:=fun b o q=>by
   have q':=PH b o q;have lt:=Wr q';rw [sortedHeap_old (W6 lt) (by rw [size_push']; exact WK lt)];exact Wl _ q'
  have pl:=px.length_eq;have I2:=I.laidF (D:=h'.objs.size) (o:=.lst ((Ny.map (·.2.1)).map V.ref)) hlm ⟨oL,esL,epL,old _ _ Uc,rL⟩ (fun b ob _ q=>old b ob q) gone (fun z=>by rw [z,Uc] at gone; cases gone)
   ⟨by rw [Wj,Wj,pl,<-rl]; exact z,_,e,vals Ny,he⟩
  refine ⟨.ref h'.objs.size,_,I2.kept (t':=tk) fun b u q=>q,rfl,q h'.objs.size (Ny.map (·.2.1)) (Ny.map (·.1)) fl ?_ (by rw [Wj,Wj]) fun i t k e1 e2=>?_⟩
  ·rw [keq]; exact px.map _
  ·rw [Wy] at e1 e2;cases w:Ny[i]? with
   | none=>rw [w] at e1; cases e1
   | some q=>
    rw [w] at e1 e2;rw [<-WA.inj e1,<-WA.inj e2];exact kat q (px.mem_iff.mp (Wo w))
theorem Dy {X:Cx}:B0 X (.builtin "sorted") (fun xs H Q=>∃ (t:Addr) (x y:Str),xs=[.ref t]/\H t=some (.lst [.str x,.str y])/\∀ l,H l=none->Q (.ref l) (upd H l (.lst [.str (BL x y),.str (BN x y)]))):=by
 intro pins s σ H xs us Q I r h;obtain ⟨t,x,y,rfl,ht,q⟩:=h;refine Cu (pins:=pins) s σ H _ us Q I r ⟨t,[x,y],rfl,AD.of ht,by show 2 < 64; decide,fun l NQ hl pm so=>?_⟩;have len:=pm.length_eq;match NQ,len with
 | [a,b],_=>
  obtain ⟨rfl,rfl⟩:=Ks pm so;exact q l hl
def Dt (u:A5):List AV:=[.inr (BL u.1 u.2.1),.inr (BN u.1 u.2.1)]
def MK (u:A5):List AV × V:=(Dt u,.int u.2.2)
theorem GW {u v:A5} (e:Dt u=Dt v):Dz u v:=by
 unfold Dt at e;simp only [Ya.injEq,Sum.inr.injEq,and_true] at e;obtain ⟨e1,e2⟩:=e;unfold BL at e1;unfold BN at e2;by_cases a:u.2.1.cps.toList < u.1.cps.toList <;> by_cases b:v.2.1.cps.toList < v.1.cps.toList
 ·rw [if_pos a,if_pos b] at e1;rw [if_neg (fun z=>Ct _ (X7 a z)),if_neg (fun z=>Ct _ (X7 b z))] at e2;exact .inl ⟨e2,e1⟩
 ·rw [if_pos a,if_neg b] at e1;rw [if_neg (fun z=>Ct _ (X7 a z))] at e2;by_cases c:v.1.cps.toList < v.2.1.cps.toList
  ·rw [if_pos c] at e2;exact .inr ⟨e2,e1⟩
  ·rw [if_neg c] at e2;rw [e1,e2] at a;exact absurd a (Ct _)
 ·rw [if_neg a,if_pos b] at e1;rw [if_neg (fun z=>Ct _ (X7 b z))] at e2;by_cases c:u.1.cps.toList < u.2.1.cps.toList
  ·rw [if_pos c] at e2;exact .inr ⟨e1,e2⟩
  ·rw [if_neg c] at e2;rw [<-e1,<-e2] at b;exact absurd b (Ct _)
 ·rw [if_neg a,if_neg b] at e1;by_cases c:u.1.cps.toList < u.2.1.cps.toList <;> by_cases d:v.1.cps.toList < v.2.1.cps.toList
  ·rw [if_pos c,if_pos d] at e2;exact .inl ⟨e1,e2⟩
  ·rw [if_pos c,if_neg d] at e2;rw [e1,e2] at c;exact absurd c (Ct _)
  ·rw [if_neg c,if_pos d] at e2;rw [<-e1,<-e2] at d;exact absurd d (Ct _)
  ·exact .inl ⟨e1,by rw [<-C3 a c,e1]; exact C3 b d⟩
theorem LF {us:List A5} {x:A5} (no:∀ u ∈ us,¬ Dz u x):BK (us.map MK) (Dt x) (.int x.2.2)=(us ++ [x]).map MK:=by
 unfold BK;rw [if_neg,W3]
 ·rfl
 ·intro z;obtain ⟨q,hq,e⟩:=Xr.mp z;obtain ⟨u,hu,rfl⟩:=W4.mp hq;exact no u hu (GW (of_decide_eq_true e))
theorem valW {us:List A5} (sep:us.Pairwise fun u v=>¬ Dz u v) {u:A5} (hu:u ∈ us):Bn (us.map MK) (Dt u)=some (.int u.2.2):=by
 obtain ⟨v',h1,h2⟩:=J6 (Yl (f:=MK) hu);rw [show Bn (us.map MK) (Dt u)=Bn (us.map MK) (MK u).1 from rfl];have e1:(MK u).1=Dt u:=rfl;obtain ⟨w,hw,e⟩:=W4.mp h2;have ek:Dt w=Dt u:=congrArg Prod.fst e;have ev:V.int w.2.2=v':=congrArg Prod.snd e;have al:=GW ek;have same:w=u:=by
  by_cases z:w=u
  ·exact z
  ·obtain ⟨i,hi⟩:=Y3 hw;obtain ⟨j,hj⟩:=Y3 hu;obtain ⟨Tc,ei⟩:=Wt.mp hi;obtain ⟨Dv,ej⟩:=Wt.mp hj;rcases Nat.lt_trichotomy i j with l | l | l
   ·exact absurd (by rw [ei,ej]; exact al) (XD.mp sep i j Tc Dv l)
   ·subst l;rw [ei] at ej;exact absurd ej z
   ·refine absurd ?_ (XD.mp sep j i Dv Tc l);rw [ei,ej];rcases al with ⟨a,b⟩ | ⟨a,b⟩
    ·exact .inl ⟨a.symm,b.symm⟩
    ·exact .inr ⟨b.symm,a.symm⟩
 subst same;rw [<-ev] at h1;exact h1
theorem Qb {us:List A5} {x:A5} (h:(Bn (us.map MK) (Dt x)).isSome=false):∀ u ∈ us,¬ Dz u x:=by
 intro u hu al;have ek:Dt u=Dt x:=by
  unfold Dt;rcases al with ⟨a,b⟩ | ⟨a,b⟩
  ·rw [a,b]
  ·rw [a,b,Il,Im]
 obtain ⟨v',h1,_⟩:=J6 (Yl (f:=MK) hu);have h2:Bn (us.map MK) (Dt u)=some v':=h1;rw [ek] at h2;rw [h2] at h;cases h
theorem CM.dict {K:Wm} {H:Hp} {p D:Addr} {ys zs:List (List AV × V)} (h:CM K H p) (hD:H D=some (.dT ys)):CM K (upd H D (.dT zs)) p:=by
 obtain ⟨a,ns,i,l,h,sc,r⟩:=h;refine ⟨a,ns,i,l,by rw [Ae (Br h hD (fun z=>by cases z))]; exact h,?_,r⟩;rcases sc with ⟨ob,h'⟩ | h'
 ·refine .inl ⟨ob,?_⟩;rw [Ae (Br h' hD (fun z=>by cases z))];exact h'
 ·exact .inr h'
structure M5 (K:Wm) (H H':Hp) (p e W:Addr) (xs:List Str) (us:List A5):Prop where
 pn:CM K H' p
 he:H' e=some (.lst (xs.map V.str))
 hw:H' W=some (.dT (us.map MK))
 kp:A8 p H H'
 ne:e ≠ p
 nw:W ≠ p
 fw:H W=none
theorem M5.step {K:Wm} {H H' SN:Hp} {p e W:Addr} {xs:List Str} {us:List A5} (h:M5 K H H' p e W xs us) (P:CM K SN p) (k:A8 p H' SN):M5 K H SN p e W xs us:=
 ⟨P,k _ _ h.ne h.he,k _ _ h.nw h.hw,h.kp.trans k,h.ne,h.nw,h.fw⟩
theorem M5.add {K:Wm} {H H':Hp} {p e W q:Addr} {xs:List Str} {us:List A5} (h:M5 K H H' p e W xs us) (hq:H' q=none) (o:HO):M5 K H (upd H' q o) p e W xs us:=
 h.step (h.pn.same (Ac hq)) (A8.of_same (Ac hq))
theorem M5.put {K:Wm} {H H':Hp} {p e W:Addr} {xs:List Str} {us:List A5} (h:M5 K H H' p e W xs us) (Lq:List A5):M5 K H (upd H' W (.dT (Lq.map MK))) p e W xs Lq:=
 ⟨h.pn.dict h.hw,by rw [Ae (Br h.he h.hw (fun z=>by cases z))]; exact h.he,Ab,fun b o hb z=>by rw [Ae (Ah z h.fw)]; exact h.kp b o hb z,h.ne,h.nw,h.fw⟩
theorem RX {xs:List Str} {k:Nat} {ws:List A5} (h:Ge xs k ws) (hn:xs.Nodup) {x y:Str} {n:Int} (hy:xs[k]? = some y):∀ u ∈ ws,¬ Dz u (x,y,n):=by
 intro u hu al;obtain ⟨i,j,a,b,c,d,_⟩:=h.of u hu;rcases al with ⟨_,e⟩ | ⟨e,_⟩
 ·have e':u.2.1=y:=e;rw [e'] at d;have:=DX hn d hy;lia
 ·have e':u.1=y:=e;rw [e'] at c;have:=DX hn c hy;lia
theorem NH {xs:List Str} {k:Nat} {ws:List A5} (h:Ge xs k ws) (hn:xs.Nodup) {x y:Str} {n:Int} {i:Nat} (hi:i < k) (hx:xs[i]? = some x) (hy:xs[k]? = some y) (n1:1<=n):Ge xs (k + 1) (ws ++ [(x,y,n)]):=
 h.more hn (Wt.mp hy).1 [i] (by simp) (by intro z hz; rw [Wz.mp hz]; exact hi) (by simp) rfl (fun q u j e1 e2=>by
  cases q with
  | zero=>
   simp at e1 e2;subst e1 e2;exact ⟨hx,hy,n1⟩
  | succ q=>simp at e2)
theorem Mk {xs:List Str} {us:List A5} {x y:Str} {n:Int} (h:E6 xs us) (hx:x ∈ xs) (hy:y ∈ xs) (ne:x ≠ y) (hn:1<=n) (no:∀ u ∈ us,¬ Dz u (x,y,n)):E6 xs (us ++ [(x,y,n)]):=by
 refine h.snoc hx hy ne hn fun u hu ⟨a,b⟩=>no u hu ?_
 have uu:=(h.1 u hu).2.2.1;rcases a with a | a <;> rcases b with b | b
 ·exact absurd (a.trans b.symm) ne
 ·exact .inl ⟨a.symm,b.symm⟩
 ·exact .inr ⟨b.symm,a.symm⟩
 ·exact absurd (a.trans b.symm) ne
def K1 (K:Wm):Sp:=fun vs H Q _=>∃ (p e:Addr) (xs:List Str) (sh:Int),vs=[.ref p,.ref e,.int sh]/\CM K H p/\H e=some (.lst (xs.map V.str))/\e ≠ p/\xs.Nodup/\(∀ x ∈ xs,C9 x=true)/\1<=xs.length/\xs.length<=26/\0<=sh/\sh < 4 /\
 ∀ (H':Hp) (m:Addr) (ps:List Str) (ws:List A5),CM K H' p->A8 p H H'->ps.Perm xs->EI H' m xs.length ps ws->Q (.ref m) H'
structure R5 (K:Wm) (H0 H':Hp) (p R:Addr) (rs:List DL) (vs:List V):Prop where
 pn:CM K H' p
 kp:∀ b o,b ≠ p->b ≠ R->H0 b=some o->H' b=some o
 hR:H' R=some (.lst vs)
 dd:BI H' vs (rs.map Ff)
 nR:R ≠ p
theorem R5.step {K:Wm} {H0 H' SN:Hp} {p R:Addr} {rs:List DL} {vs:List V} (h:R5 K H0 H' p R rs vs) (P:CM K SN p) (k:A8 p H' SN):R5 K H0 SN p R rs vs:=
 ⟨P,fun b o hb Fz z=>k b o hb (h.kp b o hb Fz z),k _ _ h.nR h.hR,Bc h.dd (Ez h.pn k),h.nR⟩
theorem R5.add {K:Wm} {H0 H':Hp} {p R q:Addr} {rs:List DL} {vs:List V} (h:R5 K H0 H' p R rs vs) (hq:H' q=none) (o:HO):R5 K H0 (upd H' q o) p R rs vs:=
 h.step (h.pn.same (Ac hq)) (A8.of_same (Ac hq))
theorem R5.app {K:Wm} {H0 H':Hp} {p R T:Addr} {rs:List DL} {vs:List V} {y:Str} {l:Int} (h:R5 K H0 H' p R rs vs) (hT:H' T=some (.tup [.str y,.int l])):R5 K H0 (upd H' R (.lst (vs ++ [.ref T]))) p R (rs ++ [(y,l)]) (vs ++ [.ref T]):=by
 refine ⟨h.pn.other h.hR h.nR,fun b o hb Fz z=>by rw [Ae Fz]; exact h.kp b o hb Fz z,Ab,?_,h.nR⟩;rw [W3];refine Ea (Bc h.dd fun b ys e=>?_) (.cons (Gj (u:=(y,l)) (by rw [Ae (Br hT h.hR (fun z=>by cases z))]; exact hT)) .nil);rw [Ae (Br e h.hR (fun z=>by cases z))];exact e
theorem Fe {xs ys zs:List Str} {rs:List DL} {lo:Int} (pm:(ys ++ zs).Perm xs) (nd:xs.Nodup) (rt:rs.map (·.1)=ys) (rl:∀ r ∈ rs,lo<=r.2/\r.2 < 10 ^ 30) (one:1<=rs.length) {ps:List Str} (pp:ps.Perm xs):EH ps lo rs:=
 ⟨fun r hr=>pp.mem_iff.mpr (pm.mem_iff.mp (WN _ (by rw [<-rt]; exact Yl hr))),by rw [rt]; exact (Xq.mp (pm.nodup_iff.mpr nd)).1,rl,one⟩
structure Case5 (H:Hp) (c m:Addr) (n:Nat) (xs:List Str) (ws:List A5) (A9 AJ:List DL) (x:V) (d:PyData):Prop where
 cw:BZ H c m n xs ws A9 AJ x d
 n9:n<=9
 l6:A9.length<=6
 l8:AJ.length<=8
 U3:sortedS (A9.map (·.1))=true
 Py:sortedS (AJ.map (·.1))=true
def Lz (K:Wm):Sp:=fun vs H Q _=>∃ (p:Addr) (sh:Int),vs=[.ref p,.int sh]/\CM K H p/\0<=sh/\sh < 4 /\
 ∀ (H':Hp) (c m:Addr) (n:Nat) (xs:List Str) (ws:List A5) (A9 AJ:List DL) (x:V) (d:PyData),CM K H' p->A8 p H H'->Case5 H' c m n xs ws A9 AJ x d->Q (.ref c) H'
def Lw:Sp:=fun vs H Q _=>∃ (m:Addr) (n:Nat) (xs:List Str) (ws:List A5),vs=[.ref m]/\EI H m n xs ws/\1<=n/\n<=30/\∀ (H':Hp) (A:Addr),Au H H'->H A=none->Dd H' A xs ws->Q (.ref A) H'
section
open PySem.SeqAt
open PySem.AutoSeq1 (wpAny_loadPart')
open PySem.MeetsSeq PySem.MeetsSeq2 PySem.MeetsSeq3
theorem JT (l b:Addr) (xs ys:Array Value) (n n2:Nat) (dd Jo:Option Addr) (sl F3:Array (Option Value)) (r:Bool) (k:Nat) :
  ∀ i:Nat,(xs.toList.zip ys.toList).length - i=k->Meets (Builtin.«list.__eq__.loop» ⟨[.ref l,.ref b,rawInt i,rawInt 0],[]⟩)
   (fun A R s=>s.heap.get? l=some { cls:=.type "list",dict:=dd,data:=.seq xs n,slots:=sl }/\s.heap.get? b=some { cls:=.type "list",dict:=Jo,data:=.seq ys n2,slots:=F3 } /\
    E7 A.in1 s (decide (xs.size < ys.size)) ((xs.toList.zip ys.toList).drop i) r/\R (.ok (.ret (.bool r))) s):=by
 induction k with
 | zero=>
  intro i hk prog w A R s h;obtain ⟨hp,g,d,tk,os⟩:=s; obtain ⟨hl,hb,hc,h⟩:=h;rw [List.drop_eq_nil_of_le (by lia)] at hc;have hz:r=decide (xs.size < ys.size):=hc;subst hz;wp_walk using wpAny_loadPart' hl,wpAny_loadPart' hb;rw [YM,WL,WL] at hk;have fin:∀ (a b:Option Value),xs[((i:Nat):Int).toNat]? = a->ys[((i:Nat):Int).toNat]? = b->a=none\/b=none:=fun a b ea eb=>by
   rcases Nat.le_total xs.size ys.size with z | z
   ·left;rw [<-ea];simp;lia
   ·right;rw [<-eb];simp;lia
  cases ea:xs[((i:Nat):Int).toNat]? with
  | none=>
   cases eb:ys[((i:Nat):Int).toNat]? with
   | none=>
    wp_walk using wpAny_loadPart' hl,wpAny_loadPart' hb
    exact h
   | some y=>
    wp_walk using wpAny_loadPart' hl,wpAny_loadPart' hb
    exact h
  | some x=>
   cases eb:ys[((i:Nat):Int).toNat]? with
   | none=>
    wp_walk using wpAny_loadPart' hl,wpAny_loadPart' hb
    exact h
   | some y=>rcases fin _ _ ea eb with z | z <;> cases z
 | succ k ih=>
  intro i hk prog w A R s h;obtain ⟨hp,g,d,tk,os⟩:=s; obtain ⟨hl,hb,hc,h⟩:=h;have hi:i < (xs.toList.zip ys.toList).length:=by lia
  rw [XA hi] at hc;rw [YM,WL,WL] at hi;obtain ⟨e,he,h1,h2⟩:=hc;rw [List.getElem_zip] at he h1;have BH:i < xs.size:=by lia
  have V8:i < ys.size:=by lia
  have VP:e=false->BQ A.in1 ⟨hp,g,d,tk,os⟩ xs[i] ys[i] r:=h1;wp_walk using wpAny_loadPart' hl,wpAny_loadPart' hb;have hi1:xs[((i:Nat):Int).toNat]? = some xs[i]:=by simp [BH]
  have So:ys[((i:Nat):Int).toNat]? = some ys[i]:=by simp [V8]
  have hcc:((i:Int) + 1)=((i + 1:Nat):Int):=by push_cast; rfl
  rw [hi1,So];refine wpAny_bind (he prog w _ _ ?_);cases ee:e with
  | true=>
   wp_walk
   rw [hcc];exact ⟨plainId_quiet plain_eq_loop _,codeAny_builtin entry_eq_loop (by
    rw [Around.under_plainId plain_eq_loop _];exact ih (i + 1) (by lia) prog w A R _ ⟨hl,hb,h2 ee,h⟩)⟩
  | false=>
   have hri:=VP ee prog w;wp_walk using wpAny_loadPart' hl,wpAny_loadPart' hb;rw [hi1,So];wp_walk using hri;exact h
theorem OG (l b:Addr) (xs ys:Array Value) (n n2:Nat) (dd Jo:Option Addr) (sl F3:Array (Option Value)) (r:Bool) :
  Meets (Builtin.«list.__lt__» ⟨[.ref l,.ref b],[]⟩)
   (fun A R s=>s.heap.get? l=some { cls:=.type "list",dict:=dd,data:=.seq xs n,slots:=sl }/\s.heap.get? b=some { cls:=.type "list",dict:=Jo,data:=.seq ys n2,slots:=F3 } /\
    E7 A.in1 s (decide (xs.size < ys.size)) (xs.toList.zip ys.toList) r/\R (.ok (.ret (.bool r))) s):=by
 intro prog w A R s h;obtain ⟨hp,g,d,tk,os⟩:=s; obtain ⟨hl,hb,hc,h⟩:=h;have f3:=AutoSeq1.sub_list_list;wp_walk using wpAny_loadPart' hl,wpAny_loadPart' hb;exact ⟨plainId_quiet plain_eq_loop _,codeAny_builtin entry_eq_loop (by
  rw [Around.under_plainId plain_eq_loop _];exact JT l b xs ys n n2 dd Jo sl F3 r _ 0 rfl prog w A R _ ⟨hl,hb,by simpa using hc,h⟩)⟩
end
theorem BQ.lstN {A:Around} {s:Shared} {l b:Addr} {xs ys:Array Value} {r:Bool} (hl:s.heap.IsList l xs) (hb:s.heap.IsList b ys) (hu:A.units < cLine) (hc:E7 A.in1 s (decide (xs.size < ys.size)) (xs.toList.zip ys.toList) r):BQ A s (.ref l) (.ref b) r:=fun prog w E Q h=>by
 obtain ⟨⟨cls,dd,data,sl⟩,ho,Gn,n,hd⟩:=id hl;obtain ⟨⟨QS,Jo,data2,F3⟩,Ko,HF,n2,hd2⟩:=id hb;simp only at Gn hd HF hd2;subst Gn hd HF hd2;exact richCompare_meets_room (op:=.Lt) ⟨_,ho,rfl⟩ ⟨_,Ko,rfl⟩ PySem.F.slot_list_lt PySem.F.entry_list_lt (PySem.F.args_list_lt_2 _ _) (OG l b xs ys n n2 dd Jo sl F3 r)
  ⟨ho,Ko,hc,show Value.bool _ ≠ Value.notImplemented/\Q (.bool _) s from ⟨(fun x=>nomatch x),h⟩⟩ hu
def Kj (h:Heap) (v:Value) (ss:List Str):Prop:=∃ a us,v=.ref a/\h.IsList a us.toArray/\A7 (ss.map V.str) us
def Ll (h:Heap) (v:Value) (k:Int × List Str):Prop:=∃ a l t,v=.ref a/\IsTup h a #[.int k.1 t,.ref l]/\Kj h (.ref l) k.2
theorem Kj.keep {h h':Heap} {v:Value} {p:List Str} (x:Kj h v p) (k:∀ b o,h.get? b=some o->h'.get? b=some o):Kj h' v p:=by
 obtain ⟨a,us,rfl,⟨o,ho,r⟩,z⟩:=x;exact ⟨a,us,rfl,⟨o,k _ _ ho,r⟩,z⟩
theorem Ll.keep {h h':Heap} {v:Value} {p:Int × List Str} (x:Ll h v p) (k:∀ b o,h.get? b=some o->h'.get? b=some o):Ll h' v p:=by
 obtain ⟨a,l,t,rfl,⟨o,ho,r⟩,z⟩:=x;exact ⟨a,l,t,rfl,⟨o,k _ _ ho,r⟩,z.keep k⟩
theorem OX {A:Around} {s:Shared} {v w:Value} {xs ys:List Str} (hv:Kj s.heap v xs) (hw:Kj s.heap w ys) (hu:A.units < cLine):SeqAt.EqAt A s v w (decide (xs=ys)):=by
 obtain ⟨a,us,rfl,ha,r1⟩:=hv;obtain ⟨b,vs,rfl,hb,r2⟩:=hw;by_cases hab:a=b
 ·subst hab;have e:xs=ys:=by
   obtain ⟨o,ho,hc,n,hd⟩:=ha;obtain ⟨o',HD,Gn,n',JZ⟩:=hb;rw [ho] at HD;cases HD
   rw [hd] at JZ;injection JZ with e1 e2;have e3:=congrArg Yv e1;simp only at e3;subst e3;exact HQ r1 r2
  rw [decide_eq_true e];intro prog w E Q h;unfold eqBool;refine wpAny_holding ?_;exact wpAny_ite_split (fun _=>wpAny_bind (wpAny_rule (wpAny_pure h))) (fun hn=>absurd (by simp) hn)
 ·have l1:=r1.length;have l2:=r2.length;rw [Wj] at l1 l2;by_cases hz:us.length=vs.length
  ·have key:=SeqAt.RcAt.lists (A:=A) (s:=s) (e:=fun j=>xs[j]? == ys[j]?) ha hb (by simpa using hz) hu (fun j h1 h2=>by
    obtain ⟨t,x,e1,e2⟩:=Eg (vs:=us) r1 j (by simpa using h1);obtain ⟨t',y,e3,e4⟩:=Eg (vs:=vs) r2 j (by simpa using h2);rw [Yg,Yg,e2,e4,e1,e3];have:=SeqAt.EqAt.str_str x t y t' (A:=A.in1) (s:=s);exact this)
   have e:((Xc us.toArray.size).all (fun j=>xs[j]? == ys[j]?))=decide (xs=ys):=by
    rw [Xg,Xo,decide_eq_true_iff];simp only [X8,WC,beq_iff_eq];constructor
    ·intro h1;refine YF fun j=>?_
     by_cases hj:j < us.length
     ·exact h1 j hj
     ·rw [XZ (by lia),XZ (by lia)]
    ·rintro rfl;exact fun j _=>rfl
   rw [e] at key;exact SeqAt.EqAt.of_refs hab key
  ·have key:=SeqAt.RcAt.lists_lengths (A:=A) (s:=s) ha hb (by simpa using hz) hu;have e:decide (xs=ys)=false:=decide_eq_false fun z=>hz (by rw [<-l1,<-l2,z])
   rw [e];exact SeqAt.EqAt.of_refs hab key
theorem OD {A:Around} {s:Shared} {v w:Value} {xs ys:List Str} (hv:Kj s.heap v xs) (hw:Kj s.heap w ys) (hu:A.units < cLine):BQ A s v w (AO (xs.map Fy.s) (ys.map Fy.s)):=by
 obtain ⟨a,us,rfl,ha,r1⟩:=hv;obtain ⟨b,vs,rfl,hb,r2⟩:=hw;refine BQ.lstN ha hb hu ?_;have l1:=r1.length;have l2:=r2.length;rw [Wj] at l1 l2;have:=EE (A:=A.in1) (s:=s) xs ys r1 r2;rw [l1,l2] at this;simpa using this
theorem lt_kl {A:Around} {s:Shared} {v w:Value} {p q:Int × List Str} (hv:Ll s.heap v p) (hw:Ll s.heap w q) (hu:A.units + 1 < cLine):BQ A s v w (AO (BO p) (BO q)):=by
 obtain ⟨a,l,t,rfl,ha,h1⟩:=hv;obtain ⟨b,l',t',rfl,hb,h2⟩:=hw;refine BQ.tupN ha hb (by lia) ?_;show E7 A.in1 s _ [(.int p.1 t,.int q.1 t'),(.ref l,.ref l')] _
 refine ⟨p.1 == q.1,SeqAt.EqAt.int_int _ _ _ _,fun e=>?_,fun e=>⟨decide (p.2=q.2),OX h1 h2 (by rw [PySem.Around.in1_units]; exact hu),fun e2=>?_,fun e2=>?_⟩⟩
 ·have e:¬ p.1=q.1:=by simpa using e
  have:=BQ.int A.in1 s p.1 t q.1 t';unfold BO;unfold AO;rw [if_neg (by intro z; injection z with z; exact e (by first | exact z | exact z.symm))];exact this
 ·have e:p.1=q.1:=by simpa using e
  have:=OD (A:=A.in1) (s:=s) h1 h2 (by rw [PySem.Around.in1_units]; exact hu);unfold BO;unfold AO;rw [if_pos (by rw [e])];exact this
 ·have e:p.1=q.1:=by simpa using e
  have e2:p.2=q.2:=of_decide_eq_true e2;show AO (BO p) (BO q)=_
  unfold BO;rw [e,e2,Fo];rfl
def Tp (H:Hp) (v:V) (k:Int × List Str):Prop:=∃ t l,v=.ref t/\H t=some (.tup [.int k.1,.ref l])/\H l=some (.lst (k.2.map V.str))
theorem Tp.at {X:Cx} {pins:List (Addr × Obj)} {σ:St} {H:Hp} {s:Shared} {v:V} {u:Value} {k:Int × List Str} (I:An X pins σ H s) (r:Az v u) (h:Tp H v k):Ll s.heap u k:=by
 obtain ⟨t,l,rfl,ht,hp⟩:=h;cases r
 obtain ⟨Aw,rv,pl,hz⟩:=I.tuple (AG.of ht);cases rv with
 | cons a1 b1=>
  cases b1 with
  | cons a2 b2=>
   cases b2
   cases a2
   obtain ⟨t2,rfl⟩:=a1;obtain ⟨Aw,rv,pl2,hz⟩:=I.list (AD.of hp);exact ⟨t,l,t2,rfl,pl,⟨l,Aw,rfl,pl2.isList,rv⟩⟩
section
variable {X:Cx} {pins:List (Addr × Obj)} {σ:St} {H:Hp} {s:Shared}
theorem Q9 (I:An X pins σ H s) {vs:List V} {Aw:List Value} {ks:List (Int × List Str)} (rv:A7 vs Aw) (hl:vs.length=ks.length) (hk:∀ (i:Nat) v k,vs[i]? = some v->ks[i]? = some k->Tp H v k) :
  ∀ (i:Nat) (v:Value),Aw[i]? = some v->∃ k,ks[i]? = some k/\Ll s.heap v k/\∃ x,vs[i]? = some x/\Az x v:=fun i v e=>by
 have il:Aw.length=ks.length:=by rw [<-rv.length,hl]
 have hi:i < Aw.length:=(Wt.mp e).1;have e1:vs[i]? = some vs[i]:=Wk (by lia);have e2:ks[i]? = some ks[i]:=Wk (by lia);obtain ⟨v',e3,r3⟩:=rv.get e1;rw [e] at e3;cases e3
 exact ⟨_,e2,(hk i _ _ e1 e2).at I r3,_,e1,r3⟩
end
section
variable {prog:Program} {w:World} {A:Around} {R:Result->Shared->Prop} {I:Addr} {fp wr:List Addr} {n:Nat} {P:Nat->Value->Prop} {St:Nat->Heap->Prop} {g0:Heap} {kw:List (Str × Value)}
theorem KJ (W:Walks prog w A.in1 I fp wr n P St) (bt:Nat->Nat->Bool) (cm:Lm prog w A.in1 g0 P bt) (S:Addr) (nS:S ∉ fp) (gw:∀ b o,g0.get? b=some o->b ∉ wr/\b ≠ S) :
  ∀ (m j:Nat) (s:Shared) (bv:Value) (c:Nat),n - (j + 1)=m->j + 1<=n->St (j + 1) s.heap->P (argBest bt j) bv->(∀ b o,g0.get? b=some o->s.heap.get? b=some o) ->
  s.heap.get? S=some { cls:=.type "list",dict:=none,data:=.seq #[bv,bv] c,slots:=#[] } ->
  (∀ v h2 tk,P (argBest bt (n - 1)) v->(∀ b o,b ∉ wr->b ≠ S->s.heap.get? b=some o->h2.get? b=some o)->R (.ok (.ret v)) { s with heap:=h2,toks:=tk }) ->
  codeAny (model prog w) A (.builtin "min.loop" ⟨[.ref I,.none,.ref S],kw⟩) R s:=by
 have Sw:S ∉ wr:=fun z=>nS (W.sub _ z)
 have nm:(toString "min" ++ toString ".loop":String)="min.loop":=by decide
 intro m;induction m with
 | zero=>
  intro j s bv c hm hj st pb g1 aS r;have jn:j + 1=n:=by lia
  refine codeAny_builtin F.entry_min_loop ?_;rw [Around.under_plainId F.plain_min_loop _];refine wpAny_bind (m:=seqItems? (.ref S)) (wpAny_seqItems aS rfl ?_);refine wpAny_bind (wpAny_tryCatch (W.done s _ _ (jn ▸ st) fun h2 tk k2=>?_));have HM:=k2 S _ Sw aS;refine wpAny_bind (m:=updateSeq S (fun _=>#[])) ?_;refine wpAny_updateSeq HM rfl (wpAny_bind (wpAny_letGo (wpAny_pure ?_)));exact r bv _ tk (by rw [<-jn]; exact pb) fun b o bw bS e=>(WE _ _ (Ne.symm bS)).trans (k2 b o bw e)
 | succ m ih=>
  intro j s bv c hm hj st pb g1 aS r;have lt:j + 1 < n:=by lia
  refine codeAny_builtin F.entry_min_loop ?_;rw [Around.under_plainId F.plain_min_loop _];refine wpAny_bind (m:=seqItems? (.ref S)) (wpAny_seqItems aS rfl ?_);refine wpAny_bind (wpAny_tryCatch (W.item (j + 1) s _ _ lt st fun v h2 tk pv Dm k2=>?_));have HM:=k2 S _ Sw aS;have g2:∀ b o,g0.get? b=some o->h2.get? b=some o:=fun b o e=>k2 b o (gw b o e).1 (g1 b o e)
  show wpAny _ A.in1 (tryCatch (holding [v,v] (richCompare .Lt v bv >>= _)) _ >>= _) _ _ _
  refine wpAny_bind (wpAny_tryCatch (wpAny_holding (wpAny_bind (cm (j + 1) (argBest bt j) v bv _ _ _ g2 pv pb ?_))));refine wpAny_bind (wpAny_holding (wpAny_truthy_bool ?_));refine wpAny_bind (wpAny_letGo (wpAny_pure ?_));cases hb:bt (j + 1) (argBest bt j) with
  | true=>
   simp only [if_true];refine wpAny_bind ?_;refine wpAny_updateSeq HM rfl (wpAny_bind (wpAny_letGo ?_));rw [nm];refine wpAny_pure ⟨plainId_quiet F.plain_min_loop _,ih (j + 1) _ v _ (by lia) lt (W.frame _ _ _ Dm fun b bf o e=>?_) (by simp only [argBest,hb,if_true]; exact pv) (fun b o e=>?_) (WU _ HM rfl) fun v' h3 NJ Oh k3=>?_⟩
   ·exact (WE _ _ (fun z:S=b=>nS (by rw [z]; exact bf))).trans e
   ·exact (WE _ _ (Ne.symm (gw b o e).2)).trans (g2 b o e)
   ·exact r v' h3 NJ Oh fun b o bw bS e=>k3 b o bw bS ((WE _ _ (Ne.symm bS)).trans (k2 b o bw e))
  | false=>
   simp only [WB,if_false];refine wpAny_bind (wpAny_letGo ?_);rw [nm];refine wpAny_pure ⟨plainId_quiet F.plain_min_loop _,ih (j + 1) _ bv c (by lia) lt Dm (by simp only [argBest,hb,WB,if_false]; exact pb) g2 HM fun v' h3 NJ Oh k3=>?_⟩;exact r v' h3 NJ Oh fun b o bw bS e=>k3 b o bw bS (k2 b o bw e)
theorem JS (W:Walks prog w A.in1 I fp wr n P St) (bt:Nat->Nat->Bool) (cm:Lm prog w A.in1 g0 P bt) (S:Addr) (nS:S ∉ fp) (gw:∀ b o,g0.get? b=some o->b ∉ wr/\b ≠ S) (hn:0 < n) {s:Shared} {c:Nat} (st:St 0 s.heap)
  (g1:∀ b o,g0.get? b=some o->s.heap.get? b=some o) (aS:s.heap.get? S=some { cls:=.type "list",dict:=none,data:=.seq #[] c,slots:=#[] })
  (r:∀ v h2 tk,P (argBest bt (n - 1)) v->(∀ b o,b ∉ wr->b ≠ S->s.heap.get? b=some o->h2.get? b=some o)->R (.ok (.ret v)) { s with heap:=h2,toks:=tk }) :
  codeAny (model prog w) A (.builtin "min.loop" ⟨[.ref I,.none,.ref S],kw⟩) R s:=by
 have Sw:S ∉ wr:=fun z=>nS (W.sub _ z)
 have nm:(toString "min" ++ toString ".loop":String)="min.loop":=by decide
 refine codeAny_builtin F.entry_min_loop ?_;rw [Around.under_plainId F.plain_min_loop _];refine wpAny_bind (m:=seqItems? (.ref S)) (wpAny_seqItems aS rfl ?_);refine wpAny_bind (wpAny_tryCatch (W.item 0 s _ _ hn st fun v h2 tk pv Dm k2=>?_));have HM:=k2 S _ Sw aS;refine wpAny_bind (m:=updateSeq S (fun _=>#[v,v])) ?_;refine wpAny_updateSeq HM rfl ?_;rw [nm];refine wpAny_pure ⟨plainId_quiet F.plain_min_loop _,KJ W bt cm S nS gw _ 0 _ v _ rfl hn (W.frame _ _ _ Dm fun b bf o e=>?_) pv (fun b o e=>?_) (WU _ HM rfl) fun v' h3 NJ Oh k3=>?_⟩
 ·exact (WE _ _ (fun z:S=b=>nS (by rw [z]; exact bf))).trans e
 ·exact (WE _ _ (Ne.symm (gw b o e).2)).trans (k2 b o (gw b o e).1 (g1 b o e))
 ·exact r v' h3 NJ Oh fun b o bw bS e=>k3 b o bw bS ((WE _ _ (Ne.symm bS)).trans (k2 b o bw e))
end
section
variable {prog:Program} {w:World} {A:Around} {E:Value->Shared->Prop} {s:Shared}
theorem II (a d:Value):argsOk "min" ⟨[a],[("default",d)]⟩:=by unfold argsOk; kernel_rfl
theorem EF {id:String} {b:Builtin} {args:List Value} {kw:List (Str × Value)} {Q:Value->Shared->Prop} (hk:builtinKind id=none) (hp:plainId id=true)
  (hb:entryFor table id=some b) (ha:argsOk id ⟨args,kw⟩)
  (hc:wpAny (model prog w) A.in1 (b ⟨args,kw⟩) (fun fin s'=>match fin with
   | .done f=>(match (Except.ok f:Result) with | .ok (.ret v)=>Q v s' | .ok _=>False | .error e=>E e s')
   | .again c'=>c'.quiet=true/\codeAny (model prog w) A c' (fun r s'=>match r with | .ok (.ret v)=>Q v s' | .ok _=>False | .error e=>E e s') s') E s) :
  wpAny (model prog w) A (call (.builtin id) args kw) Q E s:=by
 refine wpAny_call (codeAny_call_builtin hp hb ?_);simp only [checkBuiltinCall,hk];cases e:Manifest.signature? id with
 | none=>exact wpAny_pure hc
 | some sig=>
  simp only [argsOk,e] at ha;have h2:Bind.checkArgs id sig ⟨args,kw⟩=pure ():=ha;show wpAny _ A.in1 (Bind.checkArgs id sig ⟨args,kw⟩) _ _ s
  rw [h2];exact wpAny_pure hc
theorem ME {l:Addr} {vs:List Value} {d:Value} {bt:Nat->Nat->Bool} {Q:Value->Shared->Prop} (hh:A.handled=none) (hl:s.heap.IsList l vs.toArray) (hn:0 < vs.length) (cm:Lm prog w A.in1 s.heap (fun i v=>vs[i]? = some v) bt)
  (h:∀ v h2 tk,vs[argBest bt (vs.length - 1)]? = some v->(∀ b o,s.heap.get? b=some o->h2.get? b=some o)->Q v { s with heap:=h2,toks:=tk }):wpAny (model prog w) A (call (.builtin "min") [.ref l] [("default",d)]) Q E s:=by
 have nm:(toString "min" ++ toString ".loop":String)="min.loop":=by decide
 have BH:l < s.heap.objs.size:=by obtain ⟨o,ho,_⟩:=id hl; exact Wr ho
 refine EF F.kind_min F.plain_min F.entry_min (II _ _) ?_;refine wpAny_bind (wpAny_of_eq (show Builtin.Builtins.bindParams "min" ["key","default"] 0 ⟨[],[("default",d)]⟩=pure [none,some d] from rfl) ?_);refine wpAny_bind (wpAny_pure ?_);refine wpAny_bind (wpAny_pyIter_list hl ?_);refine wpAny_bind (wpAny_newObj_type ?_);rw [nm];have sz:(s.heap.push { cls:=.type "list_iterator",data:=.fields #[.ref l,.int 0 0] }).objs.size=s.heap.objs.size + 1:=WY ..;have W:=(Walks.list (prog:=prog) (w:=w) (A:=A.in1) hh s.heap.objs.size l (W6 BH) vs.toArray).weaken (P':=fun i v=>vs[i]? = some v) (fun i v e=>by simpa using e);refine wpAny_pure ⟨plainId_quiet F.plain_min_loop _,JS (kw:=[("default",d)]) (g0:=s.heap) W bt cm (s.heap.push { cls:=.type "list_iterator",data:=.fields #[.ref l,.int 0 0] }).objs.size (fun hm=>?_) (fun b o e=>⟨fun hm=>?_,fun z=>?_⟩) (by simpa using hn) ?_ (fun b o e=>Wl _ (Wl _ e)) (W0 _ rfl) fun v h2 tk pv k2=>?_⟩
 ·rw [sz] at hm;rcases Wn.mp hm with z | hm
  ·exact absurd z (Zv _)
  ·rcases Wn.mp hm with z | hm
   ·exact absurd z (Xa (WK BH))
   ·cases hm
 ·have:=Wr e;rw [Wz.mp hm] at this;exact absurd this (WT _)
 ·have:=Wr e;rw [z,sz] at this;exact absurd this (Yd.mpr (WX _))
 ·exact ⟨⟨_,Wl _ (W0 _ rfl),rfl,rfl⟩,(hl.push _).push _⟩
 ·refine h v h2 tk (by simpa using pv) fun b o e=>k2 b o (fun hm=>?_) (fun z=>?_) (Wl _ (Wl _ e))
  ·have:=Wr e;rw [Wz.mp hm] at this;exact absurd this (WT _)
  ·have:=Wr e;rw [z,sz] at this;exact absurd this (Yd.mpr (WX _))
theorem KH {l:Addr} {d:Value} {Q:Value->Shared->Prop} (hh:A.handled=none) (hl:s.heap.IsList l #[])
  (h:∀ h2 tk,(∀ b o,s.heap.get? b=some o->h2.get? b=some o)->Q d { s with heap:=h2,toks:=tk }):wpAny (model prog w) A (call (.builtin "min") [.ref l] [("default",d)]) Q E s:=by
 have nm:(toString "min" ++ toString ".loop":String)="min.loop":=by decide
 have BH:l < s.heap.objs.size:=by obtain ⟨o,ho,_⟩:=id hl; exact Wr ho
 refine EF F.kind_min F.plain_min F.entry_min (II _ _) ?_;refine wpAny_bind (wpAny_of_eq (show Builtin.Builtins.bindParams "min" ["key","default"] 0 ⟨[],[("default",d)]⟩=pure [none,some d] from rfl) ?_);refine wpAny_bind (wpAny_pure ?_);refine wpAny_bind (wpAny_pyIter_list hl ?_);refine wpAny_bind (wpAny_newObj_type ?_);rw [nm];have sz:(s.heap.push { cls:=.type "list_iterator",data:=.fields #[.ref l,.int 0 0] }).objs.size=s.heap.objs.size + 1:=WY ..;have W:=Walks.list (prog:=prog) (w:=w) (A:=A.in1) hh s.heap.objs.size l (W6 BH) #[];refine wpAny_pure ⟨plainId_quiet F.plain_min_loop _,codeAny_builtin F.entry_min_loop ?_⟩;rw [Around.under_plainId F.plain_min_loop _];refine wpAny_bind (m:=seqItems? (.ref _)) (wpAny_seqItems (W0 _ rfl) rfl ?_);refine wpAny_bind (wpAny_tryCatch (W.done _ _ _ ⟨⟨_,Wl _ (W0 _ rfl),rfl,rfl⟩,(hl.push _).push _⟩ fun h2 tk k2=>?_));refine wpAny_bind (wpAny_rule (wpAny_pure ?_));refine h h2 tk fun b o e=>k2 b o (fun hm=>?_) (Wl _ (Wl _ e))
 have:=Wr e;rw [Wz.mp hm] at this;exact absurd this (WT _)
end
def rMinD (x y:V) (H:Hp) (Q:V->Hp->Prop):Prop:=∃ (a:Addr) (vs:List V) (ks:List (Int × List Str)),x=.ref a/\H a=some (.lst vs)/\vs.length=ks.length/\(∀ (i:Nat) v k,vs[i]? = some v->ks[i]? = some k->Tp H v k) /\
  (ks=[]->Q y H)/\∀ v k,k ∈ ks->Tp H v k->(∀ k' ∈ ks,AO (BO k') (BO k)=false)->Q v H
def tMinD (ta:TA) (td:TE):TE:=fun σ H Q=>ta σ H fun vs H1=>td σ H1 fun y H2=>∃ x,vs=[x]/\rMinD x y H2 Q
theorem Qs {X:Cx} {e d:Expr} {ta:TA} {td:TE} {p pos kp:Pos} (hc:X.calm=true) (hu:X.A.units + 64 < cLine) (hg:Gl X "min") (hm:X.mg "min"=none) (ha:PA X [e] ta) (hd:PE X d td)
  (h1:backTo pos (starEach [e] X.env)=(false,eval e X.env) :: backTo pos (starEach [] X.env):=by rfl) (h2:(backTo pos (starEach [e] X.env)).any (·.1)=false:=by rfl) :
  PE X (.Call (.Name "min" p) [e] [⟨some "default",d,kp⟩] pos) (tMinD ta td):=by
 intro pins s σ H Q I h;refine wpAny_Call_Name_kw (F9 I hg hm PyProof.Rows.boot_min ?_ (by decide) (by decide));refine PyProof.Rows.callWith_kw ?_ h1 h2;refine BF (ha (pos:=pos) (pins:=pins) s σ H _ I h) fun us s1 ⟨R4,H1,I1,r1,q1⟩=>?_
 refine PyProof.Rows.kws_cons (BF (hd (pins:=pins) s1 σ H1 _ I1 q1) fun dv s2 ⟨y,H2,I2,ry,x,ex,a,vs,ks,rx,ha,hl,hk,q0,q⟩=>PyProof.Rows.kws_nil ?_);subst ex rx;obtain ⟨u,rfl,ru⟩:=Ci r1;cases ru
 obtain ⟨Aw,rv,pl,hz⟩:=I2.list (AD.of ha);have il:Aw.length=ks.length:=by rw [<-rv.length,hl]
 cases ks with
 | nil=>
  have:Aw=[]:=X4.mp il;subst this;exact KH (I2.ok.hd hc) pl.isList fun h2 tk k2=>⟨y,H2,I2.kept k2,ry,q0 rfl⟩
 | cons k0 ks0=>
  generalize hks:k0 :: ks0=ks at *;have pos':0 < ks.length:=by rw [<-hks]; exact Nat.zero_lt_succ _
  have kat:=Q9 I2 rv hl hk;refine ME (bt:=fun i j=>AO (BO (ks.getD i (0,[]))) (BO (ks.getD j (0,[])))) (I2.ok.hd hc) pl.isList (by lia) (fun i j vi vj s' Q' E' g hi hj hQ=>?_) fun v h2 tk hv k2=>?_
  ·obtain ⟨ki,e1,a1,_⟩:=kat i vi hi;obtain ⟨kj,e2,a2,_⟩:=kat j vj hj;have d1:ks.getD i (0,[])=ki:=by rw [Wv,e1]; rfl
   have d2:ks.getD j (0,[])=kj:=by rw [Wv,e2]; rfl
   dsimp only at hQ;rw [d1,d2] at hQ;exact lt_kl (a1.keep g) (a2.keep g) (by rw [PySem.Around.in1_units]; lia) _ _ _ _ hQ
  ·obtain ⟨k,e1,a1,x,e3,r3⟩:=kat _ v hv;obtain ⟨b1,b2⟩:=Ec (fun i j=>AO (BO (ks.getD i (0,[]))) (BO (ks.getD j (0,[])))) (fun i=>BO (ks.getD i (0,[]))) (fun _ _=>rfl) (Aw.length - 1);refine ⟨x,H2,I2.kept k2,r3,q x k (Wo e1) (hk _ x k e3 e1) fun k' PH=>?_⟩;obtain ⟨j,hj,ej⟩:=W2 PH;have:=b2 j (by lia);have d1:ks.getD (argBest (fun i j=>AO (BO (ks.getD i (0,[]))) (BO (ks.getD j (0,[])))) (Aw.length - 1)) (0,[])=k:=by rw [Wv,e1]; rfl
   have d2:ks.getD j (0,[])=k':=by rw [Wv,Wk hj,ej]; rfl
   rw [d1,d2] at this;exact this
noncomputable def AZ (ws:List A5) (mo:Int) (s p:Str):Bool:=decide (dst ws p s<=mo)
noncomputable def B5 (ws:List A5) (mo:Int) (qs ys:List Str):Bool:=qs.all fun p=>ys.any fun s=>AZ ws mo s p
def Dc (H:Hp) (S:Addr) (ws:List A5) (ss qs:List Str) (mo:Int):Prop:=∃ nv:List (Str × V),H S=some (.dK (sK nv))/\nv.map (·.1)=ss/\∀ q ∈ nv,∃ l,q.2=.ref l/\H l=some (.lst ((qs.filter (AZ ws mo q.1)).map V.str))
theorem Dc.same {H H':Hp} {S:Addr} {ws:List A5} {ss qs:List Str} {mo:Int} (h:Dc H S ws ss qs mo) (s:Au H H'):Dc H' S ws ss qs mo:=by
 obtain ⟨nv,a,b,c⟩:=h;exact ⟨nv,s _ _ a,b,fun q hq=>let ⟨l,e1,e2⟩:=c q hq; ⟨l,e1,s _ _ e2⟩⟩
theorem Dc.get {H:Hp} {S:Addr} {ws:List A5} {ss qs:List Str} {mo:Int} {s:Str} (h:Dc H S ws ss qs mo) (nd:ss.Nodup) (hs:s ∈ ss):∃ l,BX H S (.str s) (some (.ref l))/\H l=some (.lst ((qs.filter (AZ ws mo s)).map V.str)):=by
 obtain ⟨nv,a,b,c⟩:=h;rw [<-b] at hs nd;obtain ⟨q,hq,e⟩:=W4.mp hs;obtain ⟨l,e1,e2⟩:=c q hq;obtain ⟨y,v⟩:=q;have e':y=s:=e;have OZ:v=.ref l:=e1;subst e' OZ;refine ⟨l,?_,e2⟩;rw [<-C1 nd hq];exact BX.k (k:=Sum.inr y) a
theorem AD.same5 {K:Wm} {H H':Hp} {a:Addr} {xs:List V} (h:AD K H a xs) (s:Au H H'):AD K H' a xs:=by
 rcases h with (h | ⟨ob,h⟩) | h
 ·exact .inl (.inl (s _ _ h))
 ·exact .inl (.inr ⟨ob,s _ _ h⟩)
 ·exact .inr h
def DC (H:Hp) (us:List V) (ss:List Str):Prop:=∀ u ∈ us,∃ (l:Addr) (ys:List Str),u=.ref l/\H l=some (.lst (ys.map V.str))/\ys.Sublist ss
theorem DC.same {H H':Hp} {us:List V} {ss:List Str} (h:DC H us ss) (s:Au H H'):DC H' us ss:=fun u hu=>let ⟨l,ys,a,c,d⟩:=h u hu; ⟨l,ys,a,s _ _ c,d⟩
theorem DC.up {H:Hp} {us:List V} {ss NQ:List Str} (h:DC H us ss) (s:ss.Sublist NQ):DC H us NQ:=fun u hu=>let ⟨l,ys,a,c,d⟩:=h u hu; ⟨l,ys,a,c,d.trans s⟩
theorem DC.app {H:Hp} {us vs:List V} {ss:List Str} (h:DC H us ss) (h':DC H vs ss):DC H (us ++ vs) ss:=fun u hu=>(W9.mp hu).elim (h u) (h' u)
theorem DC.one {H:Hp} {l:Addr} {ys ss:List Str} (h:H l=some (.lst (ys.map V.str))) (s:ys.Sublist ss):DC H [.ref l] ss:=fun u hu=>⟨l,ys,Wz.mp hu,h,s⟩
theorem Ie {α β:Type} {R:α->β->Prop}:∀ (xs:List α),(∀ x ∈ xs,∃ y,R x y)->∃ ys:List β,xs.length=ys.length/\(∀ (i:Nat) x y,xs[i]? = some x->ys[i]? = some y->R x y)/\∀ y ∈ ys,∃ x ∈ xs,R x y
 | [],_=>⟨[],rfl,(fun i x y e=>by simp at e),(fun y hy=>nomatch hy)⟩
 | x :: xs,h=>by
  obtain ⟨y,hy⟩:=h x W7;obtain ⟨ys,a,b,c⟩:=Ie xs fun z hz=>h z (WH _ hz)
  refine ⟨y :: ys,by rw [WO,WO,a],fun i p q e1 e2=>?_,fun q hq=>?_⟩
  ·cases i with
   | zero=>simp at e1 e2; subst e1 e2; exact hy
   | succ i=>exact b i p q (by simpa using e1) (by simpa using e2)
  ·rcases Wn.mp hq with rfl | hq
   ·exact ⟨x,W7,hy⟩
   ·obtain ⟨z,hz,r⟩:=c q hq;exact ⟨z,WH _ hz,r⟩
theorem Au.free0 {H H':Hp} {a:Addr} (s:Au H H') (h:H' a=none):H a=none:=by
 cases z:H a with
 | none=>rfl
 | some o=>rw [s _ _ z] at h; cases h
section
variable {X:Cx} {pins:List (Addr × Obj)} {σ Aq:St} {H H':Hp} {s2 s':Shared} {scope:Scope} {cl:List (Str × Addr)} {N:List Str} {fp:List Addr} {C D:Addr} {AA h':Heap} {t':Nat}
theorem Jp {ob:HO} {fn:Str->Bool} {Wd:List (Str × Addr)} (I:An X pins σ H s2) (hf:∀ b ∈ fp,CN X pins H b) (hfo:∀ b ∈ fp,∃ o,s2.heap.get? b=some o) (co:CD X scope Wd) (sub:∀ x c,cl.lookup x=some c->X.env.cells.lookup x=some c\/(s2.heap.objs.size<=c/\c ≠ D/\c ≠ C/\AA.IsCell c none)) (inj:∀ x y c,cl.lookup x=some c->cl.lookup y=some c->x=y) (own:∀ x c,fn x=true->cl.lookup x=some c->s2.heap.objs.size<=c)
  (has:∀ x,((relabel scope X.env).names.lookup x=some .cell\/(relabel scope X.env).names.lookup x=some .free)->∃ c,cl.lookup x=some c) (keepS:∀ (i:Nat) (x:Str) (v:V),N[i]? = some x->Aq[i]? = some (some v)->∀ c,cl.lookup x=some c->X.env.cells.lookup x=some c) (hσ:AK X cl scope N σ Aq)
  (k:∀ b o,s2.heap.get? b=some o->AA.get? b=some o) (hD:s2.heap.objs.size<=D) (hC:s2.heap.objs.size<=C) (hDC:C ≠ D)
  (newO:A6 X.prog X.w (upd H D ob) AA D ob) {m:Str->Option Value} (hn:AA.Ns C m) :
  An (AB X scope cl N s2 H C fp fn) [] Aq (upd H D ob) { s2 with heap:=AA,toks:=t' }:=by
 have fD:H D=none:=I.hok.fresh hD;have fC:H C=none:=I.hok.fresh hC;have lts:∀ b ∈ fp,b < s2.heap.objs.size:=fun b hb=>let ⟨_,e⟩:=hfo b hb; Wr e
 have ok:Cx.Ok (AB X scope cl N s2 H C fp fn):=by
  refine ⟨I.ok.mod,?_,I.ok.glob,I.ok.blt,hC,?_,?_,?_,I.ok.hd,I.ok.frames,.inl rfl,?_,I.bs,WJ I.ok.bsz I.sz,?_,?_,I.stack,I.stkFree⟩
  ·exact co.kind
  ·exact inj
  ·exact has
  ·exact own
  ·intro b hb;refine ⟨fun e=>?_,fun x c e=>by
    rcases sub x c e with z | ⟨z,_⟩
    ·exact (hf b hb).2.2.2.2.1 x c z
    ·exact Xa (Ws (lts b hb) z)⟩
   have z:=lts b hb;exact absurd (Ws z hC) (by rw [show b=C from e]; exact WT _)
  ·intro b o e hb;have Fz:b ∈ fp:=hb;rcases (hf b Fz).2.2.2.1 with z | z
   ·exact I.ok.noex b o e z
   ·exact absurd (Ws (Wr e) (WJ I.ok.bsz z)) (WT _)
  ·intro b hb hz;have Fz:b ∈ fp:=hb;obtain ⟨_,f1,f2,_⟩:=hf b Fz;rcases Wn.mp (I.stkSub b hz) with e | e
   ·exact f1 e
   ·exact f2 e
 refine ⟨ok,rfl,I.bare,Un.laid k hD fD,?_,?_,?_,?_,?_,I.hok.laid k hD newO,hσ.1⟩
 ·refine ⟨m,hn,fun i x v e1 e2 _=>?_⟩;obtain ⟨⟨j,j1,j2⟩,kk,kr⟩:=hσ.2 i x v e1 e2;obtain ⟨mo,_,hl⟩:=I.loc;obtain ⟨u,r,l⟩:=hl j x v j1 j2 (by
   rcases kk with z | z
   ·exact .inr (.inl z)
   ·exact .inr (.inr z))
  refine ⟨u,r,.inr ⟨kr,?_⟩⟩;obtain ⟨c,hc⟩:=has x kr;rcases l with ⟨z,_⟩ | ⟨_,c',Gn,hcell⟩
  ·rcases kk with q | q
   ·rw [z] at q; cases q
   ·rw [z] at q; cases q
  ·have e3:=keepS i x v e1 e2 c hc;rw [Gn] at e3;have e4:c'=c:=WA.inj e3;subst e4;obtain ⟨o,ho,hd⟩:=hcell;exact ⟨c',hc,o,k _ o ho,hd⟩
 ·intro x c e;rcases sub x c e with z | ⟨_,_,_,z⟩
  ·obtain ⟨v,o,ho,hd⟩:=I.cell x c z;exact ⟨v,o,k _ o ho,hd⟩
  ·exact ⟨Xu,z⟩
 ·show upd H D ob C=none
  rw [Ae hDC];exact fC
 ·intro x c e;rcases sub x c e with z | ⟨z1,z2,_,_⟩
  ·obtain ⟨v,q⟩:=I.cell x c z;rw [Ae (W6 (Ws q.lt hD))];exact I.freeC x c z
  ·rw [Ae z2];exact I.hok.fresh z1
 ·intro p hp;cases hp
end
theorem M6 {X:Cx} (fn:Str->Bool) {tg iter kx vx:Expr} {ifs:List Expr} {scope:Scope} {cl:List (Str × Addr)} {N:List Str} {pos:Pos} {wi:TI} {g:TG} {tt:TT} {tk tv:TE} {σ0:St->St} (hc:X.calm=true) (co:CD X scope cl) (hfn:∀ x,fn x=true->(x,NameKind.cell) ∈ scope.names)
  (hσ:∀ σ,σ.length=X.N.length->AK X cl scope N σ (σ0 σ)) (hK:∀ (σ:St) (i:Nat) (x:Str) (v:V),N[i]? = some x->(σ0 σ)[i]? = some (some v)->(x,NameKind.cell) ∉ scope.names) (hi:PI X tg iter wi)
  (hb:∀ s2 H C fp,PG (AB X scope (cellsFrom (C + 1) scope.names cl) N s2 H C fp fn) tg g/\Rw (AB X scope (cellsFrom (C + 1) scope.names cl) N s2 H C fp fn) ifs tt/\PE (AB X scope (cellsFrom (C + 1) scope.names cl) N s2 H C fp fn) kx tk/\PE (AB X scope (cellsFrom (C + 1) scope.names cl) N s2 H C fp fn) vx tv)
  (hs:∀ x,foldedSetIterable iter X.env x=pure x:=by intro _; rfl):PE X (.DictComp kx vx [⟨tg,iter,ifs,0⟩] scope pos) (Kx wi g tt tk tv σ0):=by
 intro pins s σ H Q I h;rw [arm_eval_DictComp];refine wpAny_comprehension_free (use:=none) rfl hs co.clos co.kind co.names (wpAny_mono (hi (pins:=pins) s σ H _ I h) (fun xv s1 h1=>wpAny_mono h1 (fun itv s2 h2=>?_) fun _ _ e=>e) fun _ _ e=>e);obtain ⟨it,fp,tn,J,H2,rfl,I2,T,Dm,f2,hW⟩:=h2;refine wpAny_newObj_type (Ey ?_);dsimp only;generalize Hg:s2.heap.push { cls:=.type "dict",dict:=none,data:=.dict #[] } = HH;have Bs:HH.objs.size=s2.heap.objs.size + 1:=by rw [<-Hg,WY]
 obtain ⟨AA,DZ⟩:∃ AA,AA=pushCells (HH.push { cls:=.type "dict",data:=.dict #[] }) scope.names:=⟨_,rfl⟩
 rw [<-DZ];have BE:AA.Ns HH.objs.size (fun _=>Xu):=by
  rw [DZ];exact (Heap.Ns.new HH (.type "dict")).keeps (pushCells_keeps _ _)
 have old:∀ b o,s2.heap.get? b=some o->AA.get? b=some o:=fun b o e=>by
  rw [DZ];exact pushCells_keeps _ _ _ _ (Wl _ (Hg ▸ Wl _ e))
 have newD:A6 X.prog X.w (upd H2 s2.heap.objs.size (.dK [])) AA s2.heap.objs.size (.dK []):=
  let ⟨z,hd,vs,rel,o,es,ep,ho,r⟩:=Ft (P:=X.prog) (w:=X.w) (H:=upd H2 s2.heap.objs.size (.dK [])) s2.heap I2.big
  ⟨z,hd,vs,rel,o,es,ep,by rw [DZ]; exact pushCells_keeps _ _ _ _ (Wl _ (Hg ▸ ho)),r⟩
 obtain ⟨Dx,ecl⟩:∃ Dx,Dx=cellsFrom (HH.objs.size + 1) scope.names cl:=⟨_,rfl⟩
 have clt:∀ x c,(x,c) ∈ cl->c < s2.heap.objs.size:=fun x c e=>by
  obtain ⟨v,q⟩:=I2.cell x c (co.sub x c e);exact q.lt
 have RY:∀ x c,(x,c) ∈ Dx->(x,c) ∈ cl\/(HH.objs.size + 1<=c/\AA.IsCell c Xu):=fun x c hm=>by
  have hsz:(HH.push { cls:=.type "dict",data:=.dict #[] }).objs.size=HH.objs.size + 1:=WY ..;rw [ecl,<-hsz] at hm;have q:=Ep scope.names (HH.push { cls:=.type "dict",data:=.dict #[] }) cl (HH.objs.size + 1) (by rw [hsz]; exact Wq _) (fun y d hy=>.inl (Ws (clt y d hy) (by rw [Bs]; lia))) x c hm;rw [DZ];exact q
 have We:Dx.Pairwise fun x y=>x.2 ≠ y.2:=by
  rw [ecl];exact CZ _ _ _ co.apart fun x c hm=>Ws (clt x c hm) (by rw [Bs]; lia)
 have K0:∀ x c,Dx.lookup x=some c->X.env.cells.lookup x=some c\/(s2.heap.objs.size<=c/\c ≠ s2.heap.objs.size/\c ≠ HH.objs.size/\AA.IsCell c Xu):=fun x c e=>by
  rcases RY x c (PySem.mem_of_lookup e) with q | ⟨q1,q2⟩
  ·exact .inl (co.sub x c q)
  ·exact .inr ⟨by rw [Bs] at q1; exact Ym (Ws (WK (WM _)) q1),Xa (by rw [Bs] at q1; exact Ws (WK (WM _)) q1),Xa (Ws (WM _) q1),q2⟩
 have Si:∀ x y c,Dx.lookup x=some c->Dx.lookup y=some c->x=y:=fun x y c e1 e2=>name_of_addr We (PySem.mem_of_lookup e1) (PySem.mem_of_lookup e2)
 have RV:∀ x c,fn x=true->Dx.lookup x=some c->s2.heap.objs.size<=c:=fun x c h e=>by
  rw [ecl] at e;exact Eo s2.heap.objs.size scope.names (HH.objs.size + 1) cl x c (by rw [Bs]; lia) (.inl (hfn x h)) e
 have Sq:∀ x,((relabel scope X.env).names.lookup x=some .cell\/(relabel scope X.env).names.lookup x=some .free)->∃ c,Dx.lookup x=some c:=fun x h=>by
  obtain ⟨c,hc⟩:=Er scope.names (HH.objs.size + 1) cl x (co.has x h);rw [ecl];exact Ce hc
 have keepS:∀ (i:Nat) (x:Str) (v:V),N[i]? = some x->(σ0 σ)[i]? = some (some v)->∀ c,Dx.lookup x=some c->X.env.cells.lookup x=some c:=fun i x v e1 e2 c e=>by
  rw [ecl] at e;have m2:=D8 scope.names (HH.objs.size + 1) cl x c (PySem.mem_of_lookup e) (hK σ i x v e1 e2);exact co.sub x c m2
 obtain ⟨W,⟨m0,w0⟩,turn⟩:=hW s2.heap.objs.size I2.fresh;have hfo:∀ b ∈ fp,∃ o,s2.heap.get? b=some o:=fun b hb=>let ⟨o,e,_⟩:=T.obj _ _ Dm b hb; ⟨o,e⟩
 have Sl:∀ σ,σ.length=X.N.length->AK X Dx scope N σ (σ0 σ):=fun σ h=>hσ σ h
 have I3:An (AB X scope Dx N s2 H2 HH.objs.size fp fn) [] (σ0 σ) (upd H2 s2.heap.objs.size (.dK [])) { s2 with heap:=AA,toks:=s2.toks }:=
  Jp I2 f2 hfo co K0 Si RV Sq keepS (Sl σ I.len) old (Wq _) (by rw [Bs]; exact WX _) (Xa (by rw [Bs]; exact WM _)) newD BE
 have fC:s2.heap.objs.size<=HH.objs.size:=by rw [Bs]; exact WX _
 obtain ⟨hg,ht,hk,hv⟩:=hb s2 H2 HH.objs.size fp;rw [<-ecl] at hg ht hk hv;have loop:∀ BW:Shared,BW = { s2 with heap:=AA,toks:=s2.toks } ->
   codeAny (model X.prog X.w) X.A (.compLoop (.DictComp kx vx [⟨tg,iter,ifs,0⟩] scope pos) 0 (.ref it) (.ref s2.heap.objs.size) (compEnvC scope Dx HH.objs.size X.env))
    (compPost (model X.prog X.w) X.A X.xe none (EP X pins σ Q) (.ref s2.heap.objs.size) HH.objs.size) BW:=by
  rintro BW rfl;have stat:∀ {H':Hp} ,(∀ b ∈ fp,H' b=none)->∀ b ∈ fp,CN (AB X scope Dx N s2 H2 HH.objs.size fp fn) [] H' b:=fun hn b hb=>by
   refine ⟨hn b hb,?_,?_,.inl hb,?_,fun p hp=>by cases hp⟩
   ·obtain ⟨o,e⟩:=hfo b hb;exact W6 (show b < HH.objs.size by rw [Bs]; exact WK (Wr e))
   ·intro hz;obtain ⟨_,q1,q2,_⟩:=f2 b hb;rcases Wn.mp (I2.stkSub b hz) with e | e
    ·exact q1 e
    ·exact q2 e
   ·intro x c e;rcases K0 x c e with z | ⟨z,_⟩
    ·exact (f2 b hb).2.2.2.2.1 x c z
    ·obtain ⟨o,eo⟩:=hfo b hb;exact Xa (Ws (Wr eo) z)
  refine BP (fun n s'=>∃ i Aq H',An (AB X scope Dx N s2 H2 HH.objs.size fp fn) [] Aq H' s'/\tn i s'.heap/\(∀ b ∈ fp,H' b=none)/\W i n Aq H') ?_ m0
   ⟨0,σ0 σ,_,I3,T.keep _ _ _ Dm fun b hb o e=>old b o e,fun b hb=>?_,w0⟩
  ·rintro n s4 ⟨i,EO,H4,I4,Gw,Ka,w4⟩;rcases turn i n EO H4 w4 with ⟨stop,qn⟩ | ⟨go,step⟩
   ·refine wpAny_mono (T.done (AB X scope Dx N s2 H2 HH.objs.size fp fn) rfl rfl rfl hc i [] s4 EO H4 (fun _ _=>False) I4 (stat Ka) Gw stop) (fun r s5 ⟨hr,I5⟩=>?_) fun _ _ z=>z.elim
    subst hr;obtain ⟨m5,OP,_⟩:=id I5.loc;exact ⟨m5,OP,fun h' J0=>⟨.ref _,H4,ID I2 f2 fC I5 J0,rfl,qn⟩⟩
   ·refine wpAny_mono (T.item (AB X scope Dx N s2 H2 HH.objs.size fp fn) rfl rfl rfl hc i [] s4 EO H4 (fun _ _=>False) I4 (stat Ka) Gw go) (fun r s5 ⟨u,hr,h5⟩=>?_) fun _ _ z=>z.elim
    subst hr;refine wpAny_mono h5 (fun _ s6 ⟨x,H6,I6,r6,y6,Gv,OV⟩=>?_) fun _ _ z=>z.elim
    have Pt:=I6.pinned (stat OV) (T.obj _ _ Gv);refine wpAny_mono (hg s6 EO H6 x u _ Pt r6 (step x H6 y6)) (fun _ s7 ⟨DG,H7,I7,q7⟩=>?_) fun _ _ z=>z.elim
    refine wpAny_mono (ht s7 DG H7 _ I7 q7) (fun ok s8 ⟨H8,I8,q8⟩=>?_) fun _ _ z=>z.elim
    have again:∀ {s9:Shared} {EN:St} {H9:Hp} ,An (AB X scope Dx N s2 H2 HH.objs.size fp fn) ([] ++ Dg fp s6.heap) EN H9 s9->(∃ m',m' < n/\W (i + 1) m' EN H9)->∃ m,m < n/\∃ i Aq H',An (AB X scope Dx N s2 H2 HH.objs.size fp fn) [] Aq H' s9/\tn i s9.heap/\(∀ b ∈ fp,H' b=none)/\W i m Aq H':=fun {s9 EN H9} I9 n9=>by
     obtain ⟨m',hm,w9⟩:=n9;refine ⟨m',hm,i + 1,EN,H9,I9.unpinned,T.keep _ _ _ Gv fun b hb o e=>(I9.pin (b,o) (Wx _ (Wx _ (AU hb e)))).1,fun b hb=>?_,w9⟩;obtain ⟨o,e,d⟩:=T.obj _ _ Gv b hb;exact (I9.pin (b,o) (Wx _ (Wx _ (AU hb e)))).2.1
    cases ok with
    | false=>
     rw [if_neg W8] at q8 ⊢;exact again I8 q8
    | true=>
     rw [if_pos rfl] at q8 ⊢;refine wpAny_mono (hk s8 DG H8 _ I8 q8) (fun yk s9 ⟨k,H9,I9,r9,q9⟩=>?_) fun _ _ z=>z.elim
     refine wpAny_mono (hv s9 DG H9 _ I9 q9) (fun yv Tz ⟨v,Nw,Pu,T5,kvs,key,ek,hacc,hsz,Of⟩=>?_) fun _ _ z=>z.elim
     subst ek;exact FE (X:=AB X scope Dx N s2 H2 HH.objs.size fp fn) Pu hacc hsz r9 T5 fun s11 Uz=>again Uz Of
  ·have z:=(f2 b hb).1;obtain ⟨o,e⟩:=hfo b hb;rw [Ae (W6 (Wr e))];exact z
 subst ecl;exact codeAny_compStart_dict (loop _ rfl) (T.self _ 0 _ _ _ (T.keep _ _ _ Dm fun b hb o e=>old b o e) (loop _ rfl))
theorem Ij {a:Addr} {kvs:List (AV × V)} {o:Obj}:Nm (Ra a kvs o) (kvs.map fun p=>kV p.1) (fun H=>H a=some (.frz o (.dK kvs))):=
 ⟨fun i H q BH=>⟨q,by rwa [Wj] at BH⟩,fun i H x H' q ⟨e,k,v,e1,e2⟩=>⟨e,by rw [Wy,e1,e2]; rfl⟩,fun H q=>⟨q,by rw [Wj]; exact Wq _⟩⟩
theorem Hj (ws:List A5) (x y:Str):dst ws x y=dst ws y x:=by
 by_cases h:∃ n,Jy ws x y n
 ·obtain ⟨n,h⟩:=h;rw [h.dst,h.symm.dst]
 ·unfold dst;rw [dif_neg h,dif_neg (fun ⟨n,z⟩=>h ⟨n,z.symm⟩)]
def Et (H:Hp) (S:Addr) (ws:List A5) (ss qs:List Str) (mo:Int):Prop:=∃ nv:List (Str × V),H S=some (.dK (sK nv))/\nv.map (·.1)=qs/\∀ q ∈ nv,∃ l,q.2=.ref l/\H l=some (.lst ((ss.filter fun s=>AZ ws mo s q.1).map V.str))
noncomputable def IV (ws:List A5) (mo:Int) (ss qs ys:List Str):Bool:=qs.all fun p=>(ss.filter fun s=>AZ ws mo s p).any fun s=>decide (s ∈ ys)
theorem JH {ws:List A5} {mo:Int} {ss qs ys:List Str} (h:∀ y ∈ ys,y ∈ ss):IV ws mo ss qs ys=B5 ws mo qs ys:=by
 unfold IV B5;congr 1;funext p;rw [Xg,Xr,Xr];constructor
 ·rintro ⟨s,hs,e⟩;exact ⟨s,of_decide_eq_true e,(Xf.mp hs).2⟩
 ·rintro ⟨s,hs,e⟩;exact ⟨s,Xf.mpr ⟨h s hs,e⟩,decide_eq_true hs⟩
theorem Js (K:Wm) {X:Cx} (h:X.K=K) (hc:X.calm=true):B0 X (.builtin "any") (fun xs H Q=>∃ (p:Addr) (bs:List Bool),xs=[.ref p]/\AD K H p (bs.map V.bl)/\Q (.bl (bs.any id)) H):=by subst h; exact Kh hc
theorem Dd.keep5 {K:Wm} {H H':Hp} {A p:Addr} {xs:List Str} {ws:List A5} (h:Dd H A xs ws) (P:CM K H p) (k:A8 p H H'):Dd H' A xs ws:=by
 obtain ⟨M,c,⟨kvs,a,b⟩,d⟩:=h;obtain ⟨_,_,_,_,hp,_⟩:=P;exact ⟨M,c,⟨kvs,k _ _ (Br a hp (fun z=>by cases z)) a,b⟩,d⟩
abbrev DK (c:Addr) (q:Str):HO:=.ext fun h=>h.CodeRec (.ref c) q
abbrev DM (a:Addr) (o:Obj):HO:=.ext fun h=>h.get? a=some o
theorem Pj {P:Program} {w:World} {H:Hp} {h:Heap} {c:Addr} {q:Str} (r:h.CodeRec (.ref c) q):A6 P w H h c (DK c q):=by
 refine ⟨r,?_,fun h1 h2 r1 k=>?_⟩
 ·obtain ⟨c1,o,vs,t,e,g,_⟩:=r;cases e
  exact ⟨o,g⟩
 ·obtain ⟨c1,o,vs,t,e,g,d⟩:=r1;cases e
  exact ⟨c,o,vs,t,rfl,k o g,d⟩
theorem El {P:Program} {w:World} {H:Hp} {h:Heap} {a:Addr} {o:Obj} (e:h.get? a=some o):A6 P w H h a (DM a o):=
 ⟨e,⟨o,e⟩,fun _ _ g k=>k o g⟩
section
variable {P:Program} {w:World} {K:Wm} {mg:Str->Option Value} {base:Heap}
theorem Q7 {k:Nat} {A:Around} {outer:List Env} {s:Shared} {H:Hp} {f c:Addr} {name qual y:Str} {params:Arguments} {body:Expr} {sc:Scope} {pm ctv:Value} {u:Value} {x:V} {Q:VK} (hr:Cs (k + 1) A) (e0:Kl P w K mg base A outer s H)
  (hf:s.heap.get? f=some (Xs name qual params body sc [] pm c ctv)) (hc:s.heap.CodeRec (.ref c) qual) (S:A4 [y] [y] sc)
  (hb:bindArgs (Yy name qual params body sc [] pm (.ref c) ctv) ⟨[u],[]⟩=pure [(y,u)]) (rx:Az x u)
  (hbody:Cs k (A.deeper (envOfC qual sc s.heap.objs.size f (.ref c)))->∃ t,PE (EC BJ P w K mg base [y] qual sc f (.ref c) A outer s H E0).nox body t/\t [some x] H Q) :
  codeAny (model P w) A (.call (.ref f) ⟨[u],[]⟩) (CR BJ outer P w H s Q E0) s:=by
 have lim:s.heap.NoLimit:=e0.mod.nolimit.keeps fun b o e=>(e0.bs b o e).1
 have hkind:∀ z ∈ [(y,u)],sc.names.lookup z.1=some .local\/(sc.names.lookup z.1=some .cell/\((cellsFrom (s.heap.objs.size + 1) sc.names []).lookup z.1).isSome=true):=fun z hz=>by
  rw [Wz.mp hz];rcases S.par y W7 with q | q
  ·exact .inl q
  ·exact .inr ⟨q,Ys _ _ _ (.inl q)⟩
 refine PySem.W.kla_callFunE hr.depth hf rfl S.co S.gen rfl hc ?_;show wpAny _ _ (bindArgs (Yy name qual params body sc [] pm (.ref c) ctv) ⟨[u],[]⟩) _ _ s
 rw [hb];refine wpAny_pure ?_;refine wpAny_newFunctionEnv_cells S.kind hkind fun env he s1 x1=>?_
 subst he;refine ⟨lim.keeps x1.toInCall.keep,PySem.W.kla_codeExpr ?_⟩;obtain ⟨t,ht,hq⟩:=hbody (hr.deeper _);have I:An (EC BJ P w K mg base [y] qual sc f (.ref c) A outer s H E0) [] (start [y] [x]) H s1:=Iu S hr.hd e0 rfl (.cons rx .nil) x1;refine wpAny_mono (ht.nox s1 (start [y] [x]) H Q I hq) (fun u' s' hs=>?_) fun e s' hs=>?_
 ·obtain ⟨v,H',J,rv,q⟩:=hs;exact ⟨v,H',J.os,J.bare,J.base,J.hok,rv,q⟩
 ·exact hs
end
abbrev Mg (S:Addr) (bv kv:Value) (c:Nat):HO:=DM S { cls:=.type "list",dict:=none,data:=.seq #[bv,kv] c,slots:=#[] }
theorem CN.nostk {X:Cx} {pins:List (Addr × Obj)} {σ:St} {H:Hp} {s:Shared} {b:Addr} (I:An X pins σ H s) (h:CN X pins H b):b ∉ MW X.stack:=fun z=>by
 rcases Wn.mp (I.stkSub b z) with e | e
 ·exact h.2.1 e
 ·exact h.2.2.1 e
def SM (X:Cx) (pins:List (Addr × Obj)) (σ:St) (f:Addr) (vs:List V) (G:Hp->Prop) (Ky:Hp->Nat->V->Prop):Prop:=
 ∀ (i:Nat) v u s H (Q:Value->Shared->Prop) (E:Value->Shared->Prop),vs[i]? = some v->Az v u->An X pins σ H s->G H ->
  (∀ ku s' kv H',An X pins σ H' s'->Az kv ku->Au H H'->(∀ b o,s.heap.get? b=some o->H b=none->b ∉ MW X.stack->s'.heap.get? b=some o/\H' b=none)->Ky H' i kv->Q ku s')->wpAny (model X.prog X.w) X.A.in1 (call (.ref f) [u]) Q E s
structure Pr (X:Cx) (pins:List (Addr × Obj)) (σ:St) (f l S:Addr) (vs:List V) (G:Hp->Prop) (Ky:Hp->Nat->V->Prop) (bt:Nat->Nat->Bool):Prop where
 gs:∀ H H',Au H H'->G H->G H'
 gu:∀ H φ,G H->G (upd H S (.ext φ))
 ks:∀ H H' i v,Au H H'->Ky H i v->Ky H' i v
 ku:∀ H φ i v,Ky H i v->Ky (upd H S (.ext φ)) i v
 gl:∀ H,G H->H l=some (.lst vs)
 key:SM X pins σ f vs G Ky
 cmp:∀ (i j:Nat) ki kj ui uj s H,An X pins σ H s->Ky H i ki->Ky H j kj->Az ki ui->Az kj uj->BQ X.A.in1 s ui uj (bt i j)
section
variable {X:Cx} {pins:List (Addr × Obj)} {σ:St} {R:Result->Shared->Prop} {f l I S:Addr} {kw:List (Str × Value)} {vs:List V} {G:Hp->Prop} {Ky:Hp->Nat->V->Prop} {bt:Nat->Nat->Bool}
theorem MF (hh:X.A.handled=none) (T:Pr X pins σ f l S vs G Ky bt) :
  ∀ (m j:Nat) (s:Shared) (H:Hp) (bv kv:Value) (bV kV:V) (c:Nat),vs.length - (j + 1)=m->j + 1<=vs.length->s.heap.get? S=some { cls:=.type "list",dict:=none,data:=.seq #[bv,kv] c,slots:=#[] }->An X pins σ H s->G H->CN X pins H I->s.heap.IsListIter I l (j + 1)->H S=some (Mg S bv kv c) ->
  vs[argBest bt j]? = some bV->Az bV bv->Ky H (argBest bt j) kV->Az kV kv ->
  (∀ v u s' H',vs[argBest bt (vs.length - 1)]? = some v->Az v u->An X pins σ H' s'->A8 S H H'->R (.ok (.ret u)) s') ->
  codeAny (model X.prog X.w) X.A (.builtin "min.loop" ⟨[.ref I,.ref f,.ref S],kw⟩) R s:=by
 have nm:(toString "min" ++ toString ".loop":String)="min.loop":=by decide
 intro m;induction m with
 | zero=>
  intro j s H bv kv bV kV c hm hj aS Iv hG fI aI hS hb rb hk rk r;refine codeAny_builtin F.entry_min_loop ?_;rw [Around.under_plainId F.plain_min_loop _];refine wpAny_bind (m:=seqItems? (.ref S)) (wpAny_seqItems aS rfl ?_);have jn:j + 1=vs.length:=by lia
  have nIS:S ≠ I:=fun z=>by rw [<-z] at fI; rw [fI.1] at hS; cases hS
  obtain ⟨Aw,rv,pl,hz⟩:=Iv.list (AD.of (T.gl H hG));have il:=rv.length;refine wpAny_bind (wpAny_tryCatch (wpAny_pyNext_list_end (A:=X.A.in1) hh aI pl.isList (by simp; lia) fun h2 k2=>?_));have HM:=k2 S _ nIS aS;obtain ⟨f0,f1,f2,f3,f4,f5⟩:=fI;have I2:An X pins σ H { s with heap:=h2 }:=Iv.turned (t':=s.toks) (fun b o hb e=>k2 b o hb e) f0 f1 f3 f4 f5;refine wpAny_bind (m:=updateSeq S (fun _=>#[])) ?_;refine wpAny_updateSeq HM rfl (wpAny_bind (wpAny_letGo (wpAny_pure ?_)));exact r bV bv _ (upd H S (DM S _)) (by rw [<-jn,YE]; exact hb) rb (I2.write (x:=S) (e:=S) (t':=s.toks) (by rw [hS]; trivial) (.inl rfl) (fun b u ne e=>(WE _ _ (Ne.symm ne)).trans e) ⟨_,WU _ HM rfl⟩ (El (WU _ HM rfl))) A8.upd
 | succ m ih=>
  intro j s H bv kv bV kV c hm hj aS Iv hG fI aI hS hb rb hk rk r;refine codeAny_builtin F.entry_min_loop ?_;rw [Around.under_plainId F.plain_min_loop _];refine wpAny_bind (m:=seqItems? (.ref S)) (wpAny_seqItems aS rfl ?_);have lt:j + 1 < vs.length:=by lia
  obtain ⟨Aw,rv,pl,hz⟩:=Iv.list (AD.of (T.gl H hG));have hvv:vs[j + 1]? = some vs[j + 1]:=Wk lt;obtain ⟨u,hu,ru⟩:=rv.get hvv;refine wpAny_bind (wpAny_tryCatch (wpAny_pyNext_list_item aI pl.isList (x:=u) (by simpa using hu) fun h2 Dm sb=>?_));have VS:=fI;obtain ⟨f0,f1,f2,f3,f4,f5⟩:=fI;have I2:An X pins σ H { s with heap:=h2 }:=Iv.turned (t':=s.toks) (fun b o hb e=>(sb.2 b hb).trans e) f0 f1 f3 f4 f5;show wpAny _ X.A.in1 (tryCatch (holding [u] (call (.ref f) [u])) _ >>= _) _ _ _
  refine wpAny_bind (wpAny_tryCatch (wpAny_holding (T.key (j + 1) _ u _ H _ _ hvv ru I2 hG fun ku s3 UE H3 I3 U7 K3 Vt UD=>?_)));obtain ⟨oI,eI,dI⟩:=Dm;obtain ⟨UU,SW⟩:=Vt I oI eI f0 (VS.nostk I2);have PK:=K3 _ _ hS;obtain ⟨PU,_,_⟩:A6 X.prog X.w H3 s3.heap S (Mg S bv kv c):=I3.hok S _ PK;have kSm:A8 S H H3:=fun b o _ e=>K3 b o e
  have fI3:CN X pins H3 I:=⟨SW,f1,f2,f3,f4,f5⟩
  have G3:=T.gs _ _ K3 hG;have hk3:=T.ks _ _ _ _ K3 hk;show wpAny _ X.A.in1 (tryCatch (holding [u,ku] (richCompare .Lt ku kv >>= _)) _ >>= _) _ _ _
  refine wpAny_bind (wpAny_tryCatch (wpAny_holding (wpAny_bind (T.cmp (j + 1) (argBest bt j) UE kV ku kv s3 H3 I3 UD hk3 U7 rk _ _ _ _ ?_))));refine wpAny_bind (wpAny_holding (wpAny_truthy_bool ?_));refine wpAny_bind (wpAny_letGo (wpAny_pure ?_));cases hbt:bt (j + 1) (argBest bt j) with
  | true=>
   simp only [if_true];refine wpAny_bind ?_;refine wpAny_updateSeq PU rfl (wpAny_bind (wpAny_letGo ?_));rw [nm];have nIS:I ≠ S:=fun z=>by rw [<-z,SW] at PK; cases PK
   exact wpAny_pure ⟨plainId_quiet F.plain_min_loop _,ih (j + 1) _ (upd H3 S (Mg S u ku _)) u ku _ UE _ (by lia) lt (WU _ PU rfl) (I3.write (x:=S) (e:=S) (t':=s3.toks) (by rw [PK]; trivial) (.inl rfl) (fun b u ne e=>(WE _ _ (Ne.symm ne)).trans e) ⟨_,WU _ PU rfl⟩ (El (WU _ PU rfl))) (T.gu _ _ G3) ⟨by rw [Ae nIS]; exact SW,f1,f2,f3,f4,f5⟩ ⟨oI,(WE _ _ (Ne.symm nIS)).trans UU,dI⟩ Ab (by simp only [argBest,hbt,if_true]; exact hvv) ru (by simp only [argBest,hbt,if_true]; exact T.ku _ _ _ _ UD) U7 fun v' u' s' H' a b c' d=>r v' u' s' H' a b c' (kSm.trans (A8.upd.trans d))⟩
  | false=>
   simp only [WB,if_false];refine wpAny_bind (wpAny_letGo ?_);rw [nm];exact wpAny_pure ⟨plainId_quiet F.plain_min_loop _,ih (j + 1) _ H3 bv kv bV kV c (by lia) lt PU I3 G3 fI3 ⟨oI,UU,dI⟩ PK (by simp only [argBest,hbt,WB,if_false]; exact hb) rb (by simp only [argBest,hbt,WB,if_false]; exact hk3) rk fun v' u' s' H' a b c' d=>r v' u' s' H' a b c' (kSm.trans d)⟩
theorem KI (hh:X.A.handled=none) (T:Pr X pins σ f l S vs G Ky bt) (hn:0 < vs.length)
  {s:Shared} {H:Hp} {c:Nat} (aS:s.heap.get? S=some { cls:=.type "list",dict:=none,data:=.seq #[] c,slots:=#[] }) (Iv:An X pins σ H s) (hG:G H) (fI:CN X pins H I) (aI:s.heap.IsListIter I l 0) (hS:H S=some (DM S { cls:=.type "list",dict:=none,data:=.seq #[] c,slots:=#[] }))
  (r:∀ v u s' H',vs[argBest bt (vs.length - 1)]? = some v->Az v u->An X pins σ H' s'->A8 S H H'->R (.ok (.ret u)) s') :
  codeAny (model X.prog X.w) X.A (.builtin "min.loop" ⟨[.ref I,.ref f,.ref S],kw⟩) R s:=by
 have nm:(toString "min" ++ toString ".loop":String)="min.loop":=by decide
 refine codeAny_builtin F.entry_min_loop ?_;rw [Around.under_plainId F.plain_min_loop _];refine wpAny_bind (m:=seqItems? (.ref S)) (wpAny_seqItems aS rfl ?_);obtain ⟨Aw,rv,pl,hz⟩:=Iv.list (AD.of (T.gl H hG));have hvv:vs[0]? = some vs[0]:=Wk hn;obtain ⟨u,hu,ru⟩:=rv.get hvv;refine wpAny_bind (wpAny_tryCatch (wpAny_pyNext_list_item aI pl.isList (x:=u) (by simpa using hu) fun h2 Dm sb=>?_));have VS:=fI;obtain ⟨f0,f1,f2,f3,f4,f5⟩:=fI;have I2:An X pins σ H { s with heap:=h2 }:=Iv.turned (t':=s.toks) (fun b o hb e=>(sb.2 b hb).trans e) f0 f1 f3 f4 f5;show wpAny _ X.A.in1 (tryCatch (holding [u] (call (.ref f) [u])) _ >>= _) _ _ _
 refine wpAny_bind (wpAny_tryCatch (wpAny_holding (T.key 0 _ u _ H _ _ hvv ru I2 hG fun ku s3 UE H3 I3 U7 K3 Vt UD=>?_)));obtain ⟨oI,eI,dI⟩:=Dm;obtain ⟨UU,SW⟩:=Vt I oI eI f0 (VS.nostk I2);have PK:=K3 _ _ hS;obtain ⟨PU,_,_⟩:A6 X.prog X.w H3 s3.heap S (DM S { cls:=.type "list",dict:=none,data:=.seq #[] c,slots:=#[] }):=I3.hok S _ PK;have kSm:A8 S H H3:=fun b o _ e=>K3 b o e
 have G3:=T.gs _ _ K3 hG;have nIS:I ≠ S:=fun z=>by rw [<-z,SW] at PK; cases PK
 refine wpAny_bind (m:=updateSeq S (fun _=>#[u,ku])) ?_;refine wpAny_updateSeq PU rfl ?_;rw [nm];exact wpAny_pure ⟨plainId_quiet F.plain_min_loop _,MF hh T _ 0 _ (upd H3 S (Mg S u ku _)) u ku _ UE _ rfl hn (WU _ PU rfl) (I3.write (x:=S) (e:=S) (t':=s3.toks) (by rw [PK]; trivial) (.inl rfl) (fun b u ne e=>(WE _ _ (Ne.symm ne)).trans e) ⟨_,WU _ PU rfl⟩ (El (WU _ PU rfl))) (T.gu _ _ G3) ⟨by rw [Ae nIS]; exact SW,f1,f2,f3,f4,f5⟩ ⟨oI,(WE _ _ (Ne.symm nIS)).trans UU,dI⟩ Ab hvv ru (T.ku _ _ _ _ UD) U7 fun v' u' s' H' a b c' d=>r v' u' s' H' a b c' (kSm.trans (A8.upd.trans d))⟩
theorem MG {Kz:Hp->Nat->V->Prop} {s:Shared} {H:Hp} {Q:Value->Shared->Prop} {E:Value->Shared->Prop} (hh:X.A.handled=none) (hl:H l=some (.lst vs)) (hn:vs ≠ [])
  (kk:∀ S H H' i v,(∀ b o,b ≠ S->H b=some o->H' b=some o)->(∃ o,H S=some (.ext o))->Kz H i v->Kz H' i v)
  (key:SM X pins σ f vs (fun H1=>Au H H1) Kz)
  (cmp:∀ (i j:Nat) ki kj ui uj s H,An X pins σ H s->Kz H i ki->Kz H j kj->Az ki ui->Az kj uj->BQ X.A.in1 s ui uj (bt i j))
  (Iv:An X pins σ H s)
  (r:∀ v u s' H',vs[argBest bt (vs.length - 1)]? = some v->Az v u->An X pins σ H' s'->Au H H'->Q u s') :
  wpAny (model X.prog X.w) X.A (call (.builtin "min") [.ref l] [("key",.ref f)]) Q E s:=by
 have nm:(toString "min" ++ toString ".loop":String)="min.loop":=by decide
 obtain ⟨Aw,rv,pl,hz⟩:=Iv.list (AD.of hl);refine EF F.kind_min F.plain_min F.entry_min (PyProof.Rows.kmk_min_key _ _) ?_;refine wpAny_bind (wpAny_of_eq (show Builtin.Builtins.bindParams "min" ["key","default"] 0 ⟨[],[("key",.ref f)]⟩=pure [some (.ref f),none] from rfl) ?_);refine wpAny_bind (wpAny_pure ?_);refine wpAny_bind (wpAny_pyIter_list pl.isList ?_);refine wpAny_bind (wpAny_newObj_type ?_);rw [nm];have aI0:(s.heap.push { cls:=.type "list_iterator",data:=.fields #[.ref l,.int 0 0] }).get? s.heap.objs.size=some { cls:=.type "list_iterator",data:=.fields #[.ref l,.int 0 0] }:=W0 _ rfl;have k1:∀ b o,s.heap.get? b=some o->(s.heap.push { cls:=.type "list_iterator",data:=.fields #[.ref l,.int 0 0] }).get? b=some o:=fun b o e=>Wl _ e
 have sz:(s.heap.push { cls:=.type "list_iterator",data:=.fields #[.ref l,.int 0 0] }).objs.size=s.heap.objs.size + 1:=WY ..;generalize s.heap.push { cls:=.type "list_iterator",data:=.fields #[.ref l,.int 0 0] } = h1 at aI0 k1 sz ⊢;have I1:An X pins σ H { s with heap:=h1 }:=Iv.kept (t':=s.toks) k1;have Vn:H h1.objs.size=none:=I1.fresh;have I2:=I1.laid (a:=h1.objs.size) (o:=DM h1.objs.size { cls:=.type "list",dict:=none,data:=.seq #[] 0,slots:=#[] }) (h':=h1.push { cls:=.type "list",dict:=none,data:=.seq #[] 0,slots:=#[] }) (t':=s.toks) (fun b o e=>Wl _ e) (Wq _) (El (W0 _ rfl));have nIS:s.heap.objs.size ≠ h1.objs.size:=by rw [sz]; exact W6 (WM _)
 have sS:Au H (upd H h1.objs.size (DM h1.objs.size { cls:=.type "list",dict:=none,data:=.seq #[] 0,slots:=#[] })):=Ac Vn;have nob:∀ {H1:Hp} {o:HO},Au H H1->Au H (upd H1 h1.objs.size o):=fun {H1 o} a b u z=>by
  rw [Ae (Ah z Vn)];exact a _ _ z
 have T:Pr X pins σ f l h1.objs.size vs (fun H1=>Au H H1/\∃ o,H1 h1.objs.size=some (.ext o)) (fun H1 i v=>Kz H1 i v/\∃ o,H1 h1.objs.size=some (.ext o)) bt:=
  ⟨fun H1 H2 sm ⟨a,o,e⟩=>⟨a.trans sm,o,sm _ _ e⟩,fun H1 φ ⟨a,o,e⟩=>⟨nob a,_,Ab⟩,fun H1 H2 i v sm ⟨z,o,e⟩=>⟨kk _ H1 H2 i v (fun b u _ q=>sm _ _ q) ⟨o,e⟩ z,o,sm _ _ e⟩,fun H1 φ i v ⟨z,o,e⟩=>⟨kk _ H1 _ i v (fun b u ne q=>by rw [Ae ne]; exact q) ⟨o,e⟩ z,_,Ab⟩,fun H1 ⟨a,_⟩=>a _ _ hl,
   fun i v u s1 H1 Q E e1 rv I ⟨a,o,e⟩ h=>key i v u s1 H1 Q E e1 rv I a fun ku s' kv H' I' rk sm kp kz=>h ku s' kv H' I' rk sm kp ⟨kz,o,sm _ _ e⟩,fun i j ki kj ui uj s1 H1 I ⟨a,_⟩ ⟨b,_⟩=>cmp i j ki kj ui uj s1 H1 I a b⟩
 refine wpAny_pure ⟨plainId_quiet F.plain_min_loop _,KI hh T (Xz.mpr hn) (W0 _ rfl) I2 ⟨sS,_,Ab⟩ ?_ ⟨_,Wl _ aI0,rfl,rfl⟩ Ab fun v u s' H' a b c d=>r v u s' H' a b c fun b o e=>d b o (Ah e Vn) (sS _ _ e)⟩;exact Iv.fpOk (Wq _) (by rw [Ae nIS]; exact Iv.fresh)
end
def BR (H:Hp) (P:Addr) (lp:Pos) (q:Str):Prop:=H P=some (.tbl #[])\/∃ c,H P=some (.tbl #[rawInt lp.line,rawInt lp.col,.ref c])/\H c=some (DK c q)
theorem BR.keep {H H':Hp} {P S:Addr} {lp:Pos} {q:Str} (h:BR H P lp q) (k:A8 S H H') (hS:H S=none\/(∃ xs,H S=some (.lst xs)) ):BR H' P lp q:=by
 have ne:∀ {b:Addr} {o:HO},H b=some o->(∀ xs,o ≠ .lst xs)->b ≠ S:=fun {b o} e n z=>by
  rw [z] at e;rcases hS with e' | ⟨xs,e'⟩
  ·rw [e] at e'; cases e'
  ·rw [e] at e';cases e'
   exact n xs rfl
 rcases h with h | ⟨c,h,g⟩
 ·exact .inl (k _ _ (ne h fun _ z=>by cases z) h)
 ·exact .inr ⟨c,k _ _ (ne h fun _ z=>by cases z) h,k _ _ (ne g fun _ z=>by cases z) g⟩
theorem BR.same {H H':Hp} {P:Addr} {lp:Pos} {q:Str} (h:BR H P lp q) (s:Au H H'):BR H' P lp q:=by
 rcases h with h | ⟨c,h,g⟩
 ·exact .inl (s _ _ h)
 ·exact .inr ⟨c,s _ _ h,s _ _ g⟩
theorem BR.some {H:Hp} {P:Addr} {lp:Pos} {q:Str} (h:BR H P lp q):∃ ps,H P=some (.tbl ps):=by
 rcases h with h | ⟨c,h,g⟩
 ·exact ⟨_,h⟩
 ·exact ⟨_,h⟩
def BM (mg:Str->Option Value) (h:Heap):Prop:=∃ bm ob,mg "__builtins__"=some (.ref bm)/\bm ≠ builtinsNs/\h.get? bm=some ob/\ob.cls=.type "module"/\ob.dict=some builtinsNs/\ob.data=.plain
section
variable {X:Cx} {pins:List (Addr × Obj)} {σ:St} {H:Hp} {s:Shared} {c P:Addr} {args:Arguments} {body:Expr} {sc:Scope} {lp:Pos} {q:Str}
theorem BM.at {H:Hp} {ps:Array Value} (bm:BM X.mg X.base) (I:An X pins σ H s) (hP:H P=some (.tbl ps)):s.heap.BuiltinsAt X.mg P:=by
 obtain ⟨b,ob,e1,e2,e3,e4,e5,e6⟩:=bm;obtain ⟨g1,g2⟩:=I.bs _ _ e3;refine ⟨b,ob,e1,e2,fun z=>?_,fun z=>?_,g1,e4,e5,e6⟩
 ·obtain ⟨o,es,ep,ho,hd,_⟩:=I.mod.glob;rw [z,ho] at e3;cases e3
  rw [hd] at e6;cases e6
 ·rw [z,hP] at g2;cases g2
theorem OH {Q:Value->Shared->Prop} {E:Value->Shared->Prop} (I:An X pins σ H s) (hc:X.env.code=.ref c) (hd:Xy X.K c P=true) (bm:BM X.mg X.base) (hcl:closureFor sc X.env=pure []) (hdf:defaultsOf args X.env=([],[])) (hq:X.env.qual ++ "<lambda>"=q) (L:BR H P lp q)
  (h:∀ f H' s' c' pm ctv,An X pins σ H' s'->H' f=some (DM f (Xs "<lambda>" q args body sc [] pm c' ctv))->H' c'=some (DK c' q)->BR H' P lp q->A8 P H H'->Q (.ref f) s') :
  wpAny (model X.prog X.w) X.A (eval (.Lambda args body sc lp) X.env) Q E s:=by
 refine PySem.W.kla_eval hdf ?_;rw [show X.env.qual ++ Str.ofString "<lambda>"=q from hq];have nG:mainGlobals ≠ P:=fun z=>by
  obtain ⟨o,es,ep,ho,hd,_⟩:=I.mod.glob;obtain ⟨_,n⟩:=I.bs _ _ ho;obtain ⟨ps,e⟩:=L.some;rw [z,e] at n;cases n
 have hns:s.heap.Ns mainGlobals X.mg:=I.mod.glob.keeps I.bk;rcases L with L | ⟨c',L,g⟩
 ·have tb:s.heap.get? P=some (XQ #[]):=I.hok P _ L;refine PySem.W.kla_makeFunction hcl I.ok.glob hns hc (Y1 I.kIn hd) tb (by trivial) rfl nG (bm.at I L) fun c' ctv h' tk ext cl ch rec tab=>?_
  have old:∀ b o,b ≠ P->s.heap.get? b=some o->h'.get? b=some o:=fun b o n e=>ext b o n e
  have Psz:P < s.heap.objs.size:=Wr tb;have SR:∀ {b:Addr} {o:HO},H b=some o->b < s.heap.objs.size:=fun {b o} e=>I.hok.lt e
  have hsz:s.heap.objs.size<=h'.objs.size:=WJ cl (Ym ch);generalize hT:(HO.tbl #[rawInt lp.line,rawInt lp.col,.ref c'])=T;generalize hO:Xs "<lambda>" q args body sc [] ((X.mg "__name__").getD .none) c' ctv=ob;have nob:ob.isFreed=false:=by rw [<-hO]; rfl
  have push:∀ b o,h'.get? b=some o->(h'.push ob).get? b=some o:=fun b o e=>Wl _ e
  have nc:c' ≠ P:=fun z=>absurd (Ws (z ▸ Psz) cl) (WT _)
  have nfc:h'.objs.size ≠ c':=Xa ch;have nfP:h'.objs.size ≠ P:=Xa (Ws Psz hsz);have H1:∀ {b:Addr},b < s.heap.objs.size->b ≠ P->(upd (upd (upd H P T) c' (DK c' q)) h'.objs.size (DM h'.objs.size ob)) b=H b:=fun {b} lt n=>by
   rw [Ae (W6 (Ws lt hsz)),Ae (W6 (Ws lt cl)),Ae n]
  have HP:(upd (upd (upd H P T) c' (DK c' q)) h'.objs.size (DM h'.objs.size ob)) P=some T:=by rw [Ae (Ne.symm nfP),Ae (Ne.symm nc),Ab]
  have Hc:(upd (upd (upd H P T) c' (DK c' q)) h'.objs.size (DM h'.objs.size ob)) c'=some (DK c' q):=by rw [Ae (Ne.symm nfc),Ab]
  have Ts:(h'.push ob).get? P=some (XQ #[rawInt lp.line,rawInt lp.col,.ref c']):=push _ _ tab;have stay:∀ {b:Addr} {o:HO},H b=some o->b ≠ P->(upd (upd (upd H P T) c' (DK c' q)) h'.objs.size (DM h'.objs.size ob)) b=some o:=fun {b o} e n=>by rw [H1 (SR e) n]; exact e
  have nt:∀ {b:Addr} {o:HO},H b=some o->(∀ ps,o ≠ .tbl ps)->b ≠ P:=fun {b o} e n z=>by rw [z,L] at e; cases e; exact n _ rfl
  have hok:EM X.prog X.w (upd (upd (upd H P T) c' (DK c' q)) h'.objs.size (DM h'.objs.size ob)) (h'.push ob):=fun b o e=>by
   by_cases z:b=h'.objs.size
   ·subst z;rw [Ab] at e;cases e
    exact El (W0 _ nob)
   by_cases z2:b=c'
   ·subst z2;rw [Hc] at e;cases e
    refine Pj ?_;obtain ⟨c1,o,vs,t,e1,e2,e3⟩:=rec;exact ⟨c1,o,vs,t,e1,push _ _ e2,e3⟩
   by_cases z3:b=P
   ·subst z3;rw [HP] at e;cases e
    rw [<-hT];exact Ts
   ·rw [Ae z,Ae z2,Ae z3] at e;refine (I.hok b o e).stay (fun d v hd r=>?_) (fun d r=>stay r (nt r fun _ z=>by cases z)) fun d xs r=>stay r (nt r fun _ z=>by cases z)
    rcases hd with rfl | hd
    ·exact push _ _ (old _ _ z3 r)
    ·exact push _ _ (old _ _ (nt hd fun _ z=>by cases z) r)
  have un:Un X.fs [] H (upd (upd (upd H P T) c' (DK c' q)) h'.objs.size (DM h'.objs.size ob)) s.heap (h'.push ob):=by
   have nP:∀ {b:Addr},H b=none->b ≠ P:=fun {b} n z=>by rw [z,L] at n; cases n
   refine ⟨fun b o e n _ _=>push _ _ (old _ _ (nP n) e),fun b o e n _ _=>⟨o.slots,push _ _ (old _ _ (nP n) e)⟩,fun b o e n _=>by rw [H1 (Wr e) (nP n)]; exact n,fun b o e _=>?_,fun b xs e=>stay e (nt e fun _ z=>by cases z),fun b o u e=>stay e (nt e fun _ z=>by cases z),fun b ps e=>?_⟩
   ·by_cases z:b=P
    ·subst z;exact ⟨_,Ts⟩
    ·exact ⟨_,push _ _ (old _ _ z e)⟩
   ·by_cases z:b=P
    ·subst z;rw [L] at e;cases e
     exact ⟨#[rawInt lp.line,rawInt lp.col,.ref c'],by rw [HP,<-hT]; rfl⟩
    ·exact ⟨#[],by rw [stay e z]; simp⟩
  refine h h'.objs.size _ _ c' ((X.mg "__name__").getD .none) ctv (I.un (t':=tk) un hok) (by rw [hO]; exact Ab) Hc (.inr ⟨c',by rw [HP,hT],Hc⟩) fun b o n e=>stay e n
 ·have tb:s.heap.get? P=some (XQ #[rawInt lp.line,rawInt lp.col,.ref c']):=I.hok P _ L;refine PySem.W.kla_makeFunctionHit hcl I.ok.glob hns hc (Y1 I.kIn hd) tb (cv:=.ref c') (by trivial) (by simp [codeAmong,rawInt]) (bm.at I L) fun ctv h' tk k sz=>?_
  have I1:=(I.kept (t':=tk) k).laid (a:=h'.objs.size) (o:=DM h'.objs.size (Xs "<lambda>" q args body sc [] ((X.mg "__name__").getD .none) c' ctv)) (h':=h'.push (Xs "<lambda>" q args body sc [] ((X.mg "__name__").getD .none) c' ctv)) (t':=tk) (fun b o e=>Wl _ e) (Wq _) (El (W0 _ rfl));have nf:H h'.objs.size=none:=(I.kept (t':=tk) k).fresh;have sm:=Ac (o:=DM h'.objs.size (Xs "<lambda>" q args body sc [] ((X.mg "__name__").getD .none) c' ctv)) nf;exact h _ _ _ c' _ ctv I1 Ab (sm _ _ g) (.inr ⟨c',sm _ _ L,sm _ _ g⟩) (A8.of_same sm)
end
section
variable {X:Cx} {pins:List (Addr × Obj)} {σ:St} {H:Hp} {c P f:Addr} {args:Arguments} {body:Expr} {sc:Scope} {lp:Pos} {q y:Str}
theorem Q8 {k:Nat} {vs:List V} {Kz:Hp->Nat->V->Prop} {pm ctv:Value} (hr:Cs (k + 1) X.A.in1) (hf:H f=some (DM f (Xs "<lambda>" q args body sc [] pm c ctv))) (hc:H c=some (DK c q)) (S:A4 [y] [y] sc)
  (hb:∀ u,bindArgs (Yy "<lambda>" q args body sc [] pm (.ref c) ctv) ⟨[u],[]⟩=pure [(y,u)])
  (hbody:∀ (A:Around) (outer:List Env) (s:Shared) (H1:Hp) (i:Nat) x,vs[i]? = some x->Au H H1->Cs k (A.deeper (envOfC q sc s.heap.objs.size f (.ref c))) ->
   ∃ t,PE (EC BJ X.prog X.w X.K X.mg X.base [y] q sc f (.ref c) A outer s H1 E0).nox body t/\t [some x] H1 fun kv H'=>Au H1 H'/\Kz H' i kv) :
  SM X pins σ f vs (fun H1=>Au H H1) Kz:=by
 intro i v u s H1 Q E e rv I sm h;obtain ⟨af,_,_⟩:A6 X.prog X.w H1 s.heap f (DM f (Xs "<lambda>" q args body sc [] pm c ctv)):=I.hok f _ (sm _ _ hf);obtain ⟨ac,_,_⟩:A6 X.prog X.w H1 s.heap c (DK c q):=I.hok c _ (sm _ _ hc);refine wpAny_call (codeAny_mono (Q7 hr I.env0.in1 af ac S (hb u) rv fun OO=>hbody _ _ s H1 i v e sm OO) fun r s' hq=>?_);cases r with
 | error e=>exact False.elim hq
 | ok fl=>
  cases fl with
  | next=>exact False.elim hq
  | brk=>exact False.elim hq
  | cont=>exact False.elim hq
  | ret ku=>
   have V5:CE X.stack X.prog X.w H1 s (fun kv H'=>Au H1 H'/\Kz H' i kv) ku s':=hq;obtain ⟨kv,H',os,bare,un,hok,rk,sm',kz⟩:=id V5;refine h ku s' kv H' ?_ rk sm' (fun b o eb n ns=>⟨un.keep b o eb n ns (by simp),un.free b o eb n (by simp)⟩) kz;obtain ⟨hh,g,d,t,Vj⟩:=s';obtain rfl:Vj=s.os:=os;exact I.call (h':=hh) (g':=g) (d':=d) (t':=t) (ch:=[]) un hok bare (fun b z=>absurd z (by simp))
end
def KzL (fs:List (List Str)) (H:Hp) (i:Nat) (v:V):Prop:=∃ g,fs[i]? = some g/\KnH H v ((g.length:Int),g)
def tMinL (P:Addr) (lp:Pos) (q:Str) (ta:TA):TE:=fun σ H Q=>ta σ H fun xs H1=>∃ (a:Addr) (us:List V) (fs:List (List Str)),xs=[.ref a]/\H1 a=some (.lst us)/\Cr H1 us fs/\fs ≠ []/\BR H1 P lp q /\
 ∀ H' t g,A8 P H1 H'->BR H' P lp q->g ∈ fs->H' t=some (.tup (g.map V.str))->(∀ g' ∈ fs,AO (BO ((g'.length:Int),g')) (BO ((g.length:Int),g))=false)->Q (.ref t) H'
def tLen0 (K:Wm):TE:=tTup (Lu (tCB (fun xs H Q=>∃ p vs,xs=[.ref p]/\(AD K H p vs\/AG K H p vs)/\Q (.int (vs.length:Int)) H) (Lu (Qc 0) RE)) (Lu (Qc 0) RE))
theorem Qr {X:Cx} {k:Nat} {c P:Addr} {e:Expr} {ta:TA} {args:Arguments} {body:Expr} {sc:Scope} {p pos kp lp:Pos} {q y:Str} (hr:Cs (k + 2) X.A) (hcm:X.calm=true) (hg:Gl X "min") (hm:X.mg "min"=none) (ha:PA X [e] ta)
  (hc:X.env.code=.ref c) (hd:Xy X.K c P=true) (bm:BM X.mg X.base) (hq:X.env.qual ++ "<lambda>"=q) (S:A4 [y] [y] sc)
  (hb:∀ pm c ctv u,bindArgs (Yy "<lambda>" q args body sc [] pm (.ref c) ctv) ⟨[u],[]⟩=pure [(y,u)])
  (hbody:∀ (A:Around) (outer:List Env) (s:Shared) (H:Hp) (f c:Addr),PE (EC BJ X.prog X.w X.K X.mg X.base [y] q sc f (.ref c) A outer s H E0).nox body (tLen0 X.K))
  (hcl:closureFor sc X.env=pure []:=by rfl) (hdf:defaultsOf args X.env=([],[]):=by rfl)
  (h1:backTo pos (starEach [e] X.env)=(false,eval e X.env) :: backTo pos (starEach [] X.env):=by rfl) (h2:(backTo pos (starEach [e] X.env)).any (·.1)=false:=by rfl) :
  PE X (.Call (.Name "min" p) [e] [⟨some "key",.Lambda args body sc lp,kp⟩] pos) (tMinL P lp q ta):=by
 intro pins s σ H Q I h;refine wpAny_Call_Name_kw (F9 I hg hm PyProof.Rows.boot_min ?_ (by decide) (by decide));refine PyProof.Rows.callWith_kw ?_ h1 h2;refine BF (ha (pos:=pos) (pins:=pins) s σ H _ I h) fun De s1 ⟨R4,H1,I1,r1,q1⟩=>?_
 obtain ⟨a,us,fs,rfl,hl,tU,ne,L,qq⟩:=q1;obtain ⟨u,rfl,ru⟩:=Ci r1;cases ru
 refine PyProof.Rows.kws_cons (OH I1 hc hd bm hcl hdf hq L fun f H2 s2 c' pm ctv I2 hf Gn L2 k2=>PyProof.Rows.kws_nil ?_);obtain ⟨ps,hP⟩:=L.some;have nlP:a ≠ P:=fun z=>by rw [z,hP] at hl; cases hl
 have ntP:∀ {t:Addr} {xs:List V},H1 t=some (.tup xs)->t ≠ P:=fun {t xs} e z=>by rw [z,hP] at e; cases e
 have UZ:Cr H2 us fs:=tU.keep fun b ys e=>k2 _ _ (ntP e) e
 have ul:=tU.len;have une:us ≠ []:=fun z=>ne (X4.mp (by rw [<-ul,z]; rfl))
 have usz:us.length<=sizeLine:=by
  obtain ⟨z,_⟩:A6 X.prog X.w H2 s2.heap a (.lst us):=I2.hok a _ (k2 _ _ nlP hl);exact z
 have gsz:∀ (i:Nat) g,fs[i]? = some g->g.length<=sizeLine:=fun i g e=>by
  have hi:i < us.length:=by rw [ul]; exact (Wt.mp e).1
  obtain ⟨t,g',e1,e2,e3⟩:=UZ.get (Wk hi);rw [e] at e2;cases e2
  obtain ⟨z,_⟩:A6 X.prog X.w H2 s2.heap t (.tup (g.map V.str)):=I2.hok t _ e3;rw [Wj] at z;exact z
 refine MG (H:=H2) (vs:=us) (Kz:=KzL fs) (bt:=fun i j=>AO (BO (((fs.getD i []).length:Int),fs.getD i [])) (BO (((fs.getD j []).length:Int),fs.getD j []))) (I2.ok.hd hcm) (k2 _ _ nlP hl) une ?_ (Q8 (k:=k) hr.in1 hf Gn S (hb pm c' ctv) ?_) ?_ I2 ?_
 ·rintro S' Ha Hb i v kp ⟨o,ho⟩ ⟨g,e,t,l,rfl,e1,e2⟩;exact ⟨g,e,t,l,rfl,kp _ _ (fun z=>by rw [z,ho] at e1; cases e1) e1,kp _ _ (fun z=>by rw [z,ho] at e2; cases e2) e2⟩
 ·intro A outer s3 H3 i x ex K3 hr3;exists _,hbody A outer s3 H3 f c';obtain ⟨t,g,rfl,eg,ht⟩:=UZ.get ex;refine ⟨_,rfl,t,_,rfl,.inr (AG.of (K3 _ _ ht)),_,rfl,(by show 2<=sizeLine; decide),fun W hW=>⟨Ac hW,g,eg,W,t,rfl,?_,Ac hW _ _ (K3 _ _ ht)⟩⟩;rw [Wj];exact Ab
 ·rintro i j ki kj ui uj s3 H3 I3 ⟨gi,ei,zi⟩ ⟨gj,ej,zj⟩ ri rj;have d1:fs.getD i []=gi:=by rw [Wv,ei]; rfl
  have d2:fs.getD j []=gj:=by rw [Wv,ej]; rfl
  rw [d1,d2];exact lt_kn (zi.at I3 ri) (zj.at I3 rj) (by rw [PySem.Around.in1_units]; have:=hr.un; lia)
 ·intro v u s3 H3 ev rv I3 K3;obtain ⟨t,g,rfl,eg,ht⟩:=UZ.get ev;have k13:A8 P H1 H3:=fun b o n e=>K3 _ _ (k2 b o n e)
  refine ⟨.ref t,H3,I3,rv,qq H3 t g k13 (L2.same K3) (Wo eg) (K3 _ _ ht) fun g' hg'=>?_⟩;obtain ⟨j,hj,ej⟩:=W2 hg';obtain ⟨b1,b2⟩:=Ec (fun i j=>AO (BO (((fs.getD i []).length:Int),fs.getD i [])) (BO (((fs.getD j []).length:Int),fs.getD j []))) (fun i=>BO (((fs.getD i []).length:Int),fs.getD i [])) (fun _ _=>rfl) (us.length - 1);have:=b2 j (by lia);have d1:fs.getD (argBest (fun i j=>AO (BO (((fs.getD i []).length:Int),fs.getD i [])) (BO (((fs.getD j []).length:Int),fs.getD j []))) (us.length - 1)) []=g:=by rw [Wv,eg]; rfl
  have d2:fs.getD j []=g':=by rw [Wv,Wk hj,ej]; rfl
  rw [d1,d2] at this;exact this
def At (K:Wm) (n:Str) (st:Stmt) (f:Addr) (fd:FuncData):Prop:=Xi K mainGlobals n=some (some (.ref f))/\Ew K n n st f fd
section
variable {K:Wm} {h:Heap} {mg:Str->Option Value} {n p q r t u:Str} {st:Stmt} {f:Addr} {fd:FuncData}
theorem at_mk {oc:Value} {od an:Option Addr} {osl:Array (Option Value)} {kV doc pm cdv ct:Value} (a:Xi K mainGlobals n=some (some (.ref f))) (l:K.lookup f=some ⟨oc,od,.func (Xn n n (C2 st) (B6 st) (Al st) .none kV doc pm an cdv ct),osl⟩)
  (c:XJ K cdv n=true) (k:XH K (.ref f)=true):At K n st f (Xn n n (C2 st) (B6 st) (Al st) .none kV doc pm an cdv ct):=⟨a,Sz l c k⟩
abbrev BA (n:Str) (st:Stmt) (us:List Value) (ps:List (Str × Value)):Prop:=∀ (kV doc pm:Value) (an:Option Addr) (cdv ct:Value),bindArgs (Xn n n (C2 st) (B6 st) (Al st) .none kV doc pm an cdv ct) ⟨us,[]⟩=pure ps
theorem S6 (X:K.In h) (G:h.Ns mainGlobals mg) (A:At K n st f fd) (hb:∀ x,BA n st [x] [(p,x)]):Fn K mg n st [p] f fd:=⟨A.2,Y4 X G A.1,A.2.binds fun _ _ _ _ _ _ us hl=>by obtain ⟨x,rfl⟩:=len1 hl; exact hb ..⟩
theorem PQ (X:K.In h) (G:h.Ns mainGlobals mg) (A:At K n st f fd) (hb:∀ x y,BA n st [x,y] [(p,x),(q,y)]):Fn K mg n st [p,q] f fd:=⟨A.2,Y4 X G A.1,A.2.binds fun _ _ _ _ _ _ us hl=>by obtain ⟨x,y,rfl⟩:=len2 hl; exact hb ..⟩
theorem Th (X:K.In h) (G:h.Ns mainGlobals mg) (A:At K n st f fd) (hb:∀ x y z,BA n st [x,y,z] [(p,x),(q,y),(r,z)]):Fn K mg n st [p,q,r] f fd:=⟨A.2,Y4 X G A.1,A.2.binds fun _ _ _ _ _ _ us hl=>by obtain ⟨x,y,z,rfl⟩:=len3 hl; exact hb ..⟩
end
structure Np (K:Wm) (x qual:Str) (st:Stmt) (f:Addr) (fd:FuncData) (c P:Addr):Prop where
 ex:∃ (oc:Value) (od:Option Addr) (kV doc pm:Value) (an:Option Addr) (ct:Value) (osl:Array (Option Value)),
  fd=Xn x qual (C2 st) (B6 st) (Al st) .none kV doc pm an (.ref c) ct/\K.lookup f=some ⟨oc,od,.func fd,osl⟩/\XJ K (.ref c) qual=true
 kp:XH K (.ref f)=true
 hd:Xy K c P=true
section
variable {P:Program} {w:World} {K:Wm} {mg:Str->Option Value} {base:Heap}
theorem Np.fun {x qual:Str} {st:Stmt} {f:Addr} {fd:FuncData} {c T:Addr} (F:Np K x qual st f fd c T):Ew K x qual st f fd:=by
 obtain ⟨oc,od,kV,doc,pm,an,ct,osl,e,lk,hcd⟩:=F.ex;exact ⟨⟨oc,od,kV,doc,pm,an,_,ct,osl,e,lk,hcd⟩,F.kp⟩
theorem Np.ok {x qual:Str} {st:Stmt} {f:Addr} {fd:FuncData} {N ps:List Str} {k:Nat} {sp:Sp} {c T:Addr} (F:Np K x qual st f fd c T) (S:A4 N ps (Al st)) (len:∀ vs H Q E,sp vs H Q E->vs.length=ps.length)
  (hbody:∀ (A:Around) (outer:List Env) (s:Shared) (H:Hp) (vs:List V) (Q:VK) (E:XK),Cs k (A.deeper (envOfC qual (Al st) s.heap.objs.size f (.ref c)))->sp vs H Q E ->
   ∃ t,Jv (EC BJ P w K mg base N qual (Al st) f (.ref c) A outer s H E).nox (B6 st) t/\t { nx:=fun _ H'=>Q .non H',rt:=Q } (start N vs) H):AH P w K mg base BJ (k + 1) f fd ps sp:=by
 obtain ⟨oc,od,kV,doc,pm,an,ct,osl,rfl,lk,hcd⟩:=F.ex;refine Rr lk hcd S len fun A outer s H vs Q E hr hsp=>?_
 obtain ⟨t,h,q⟩:=hbody A outer s H vs Q E hr hsp;exact ⟨t,h.nox,q⟩
end
def Mi (ts:List Addr) (H:Hp):Prop:=∀ b,H b=none\/(∃ o xs,H b=some (.frz o (.lst xs)))\/(b ∈ ts/\H b=some (.tbl #[]))
theorem MJ {P:Program} {w:World} {K:Wm} {mg mb:Str->Option Value} {CX:Pw} {k:Nat} {fa a:Addr} {fd:FuncData} {x:Str} {sp:Sp} {AS:Shared} {vs:List Value} {ns:List Int} {ts:List Addr}
  (KX:K.In AS.heap) (hns:AS.heap.Ns mainGlobals mg) (hb:AS.heap.Ns builtinsNs mb) (hbb:∀ x:Str,x ≠ "__name__"->mb x=bootBuiltins x) (hlim:AS.heap.NoLimit) (hbm:BM mg AS.heap) (hg:AS.gens=#[])
  (hts:∀ T ∈ ts,AS.heap.get? T=some (XQ #[])) (hKt:∀ T ∈ ts,K.lookup T=none) (hcd:∀ T ∈ ts,∃ c,Xy K c T=true)
  (ha:AS.heap.get? a=some { cls:=.type "list",data:=.seq vs.toArray }) (hi:IntsAre vs ns) (hl:ns.length<=sizeLine) (hr:Cs k callerA)
  (F:∀ base:Heap,K.In base->base.Ns mainGlobals mg->BM mg base->AH P w K mg base CX k fa fd [x] sp) (hbind:∀ (s:Shared) (u:Value),BindsTo s fd ⟨[u],[]⟩ [(x,u)])
  (hsp:∀ H:Hp,Mi ts H->(∀ T ∈ ts,H T=some (.tbl #[]))->AD K H a (ns.map V.int)->sp [.ref a] H (fun v _=>v=.bl true) fun _ _ _=>False)
  (hCX:∀ H e s',CX [] H AS (fun _ _ _=>False) e s'->False) :
  codeAny (model P w) callerA (.call (.ref fa) ⟨[.ref a],[]⟩) (fun r s'=>r=.ok (.ret (.bool true))/\OldK AS.heap s'.heap/\s'.os=AS.os/\AllBare s'.gens) AS:=by
 have rv:=HR hi;have lenV:=hi.length;have nat:a ∉ ts:=fun z=>by
  have:=hts a z;rw [ha] at this;cases this
 have core:∀ H:Hp,Mi ts H->(∀ T ∈ ts,H T=some (.tbl #[]))->AD K H a (ns.map V.int)->EM P w H AS.heap->(∀ b,H b ≠ none->b=a\/b ∈ ts)->(H a ≠ none->K.lookup a=none) ->
   codeAny (model P w) callerA (.call (.ref fa) ⟨[.ref a],[]⟩) (fun r s'=>r=.ok (.ret (.bool true))/\OldK AS.heap s'.heap/\s'.os=AS.os/\AllBare s'.gens) AS:=by
  intro H hO hT hS hok hA hK;have base_of:∀ {b:Addr} {o:Obj},AS.heap.get? b=some o->H b=none->(HE AS.heap H).get? b=some o:=fun e n=>OR e n
  have noD:∀ {b:Addr} {o:Obj},AS.heap.get? b=some o->(∀ xs n,o.data ≠ .seq xs n)->(∀ xs,o.data ≠ .fields xs)->H b=none:=fun {b o} e d1 d2=>by
   cases q:H b with
   | none=>rfl
   | some u=>
    rcases hA b (by rw [q]; simp) with e' | e'
    ·subst e';rw [ha] at e;cases e
     exact absurd rfl (d1 _ _)
    ·rw [hts b e'] at e;cases e
     exact absurd rfl (d2 _)
  have noA:∀ {b:Addr} {o:Obj} {es:Array DictEntry} {ep:Nat},AS.heap.get? b=some o->o.data=.dict es ep->H b=none:=fun {b o es ep} e d=>noD e (fun _ _ z=>by rw [d] at z; cases z) fun _ z=>by rw [d] at z; cases z
  have nsK:∀ {b:Addr} {m:Str->Option Value},AS.heap.Ns b m->(HE AS.heap H).Ns b m:=fun {b m} ⟨o,es,ep,e,d,r⟩=>⟨o,es,ep,base_of e (noA e d),d,r⟩
  have hKb:K.In (HE AS.heap H):=fun b o e=>base_of (KX b o e) (by
   cases q:H b with
   | none=>rfl
   | some u=>
    rcases hA b (by rw [q]; simp) with e' | e'
    ·subst e';rw [hK (by rw [q]; simp)] at e; cases e
    ·rw [hKt b e'] at e; cases e)
  have hM:Mod K mg (HE AS.heap H):=⟨hKb,nsK hns,⟨mb,nsK hb,hbb⟩,let ⟨mc,h1,h2⟩:=hlim; ⟨mc,nsK h1,h2⟩⟩
  have hBM:BM mg (HE AS.heap H):=by
   obtain ⟨bm,ob,e1,e2,e3,e4,e5,e6⟩:=hbm;exact ⟨bm,ob,e1,e2,base_of e3 (noD e3 (fun _ _ z=>by rw [e6] at z; cases z) fun _ z=>by rw [e6] at z; cases z),e4,e5,e6⟩
  have e0:Kl P w K mg (HE AS.heap H) callerA [] AS H:=⟨rfl,hM,fun b o e=>Qx e,Z8 (MR _ _),trivial,fun b hb=>absurd (show b ∈ ([]:List Addr) from hb) (by simp),hok,.of_eq hg⟩
  refine codeAny_mono ((F _ hKb (nsK hns) hBM).run callerA [] AS H ⟨[.ref a],[]⟩ [.ref a] [.ref a] _ _ hr e0 (hbind AS (.ref a)) (.cons rfl .nil) (hsp H hO hT hS)) fun r s' h=>?_
  cases r with
  | error e=>exact (hCX H e s' h).elim
  | ok fl=>
   cases fl with
   | next=>exact False.elim h
   | brk=>exact False.elim h
   | cont=>exact False.elim h
   | ret u=>
    obtain ⟨v,H',os,bare,un,Ub,r',q⟩:=h;have q':v=.bl true:=q;subst q';obtain rfl:u=Value.bool true:=r';refine ⟨rfl,⟨fun b o e=>?_,fun b o e=>un.there b o e (by simp)⟩,os,bare⟩;rcases hO b with q | ⟨ob,xs,z⟩ | ⟨hb,z⟩
    ·exact .inl (un.keep b o e q (by intro z; exact absurd (show b ∈ ([]:List Addr) from z) (by simp)) (by simp))
    ·have z2:=un.frzs b ob _ z;obtain ⟨e1,_⟩:=hok b _ z;obtain ⟨e2,_⟩:=Ub b _ z2;rw [e] at e1; cases e1;exact .inl e2
    ·obtain ⟨more,z2⟩:=un.tbls b _ z;have e2:s'.heap.get? b=some { cls:=.none,data:=.fields (#[] ++ more) }:=Ub b _ z2;rw [hts b hb] at e;cases e
     obtain ⟨c,hc⟩:=hcd b hb;obtain ⟨oc,R4,_,_,_,_,_,_,_,g1,g2,g3,g4,_⟩:=Y1 KX hc;exact .inr (.inl ⟨⟨c,oc,R4,g1,g2,g3,g4⟩,rfl,#[],more,rfl,e2⟩)
 have tbl:∀ {T:Addr},T ∈ ts->∀ {H:Hp},A6 P w H AS.heap T (.tbl #[]):=fun {T} hT {H}=>hts T hT
 cases hk:K.lookup a with
 | some o=>
  have e:=KX a o hk;rw [ha] at e;cases e
  refine core (fun b=>if b ∈ ts then some (.tbl #[]) else none) (fun b=>?_) (fun T hT=>if_pos hT) (.inr ⟨_,vs.toArray,_,hk,rfl,rfl,rfl,by rw [WC,lenV]; exact hl,by simpa using rv⟩) (fun b u z=>?_) (fun b z=>?_) fun z=>absurd (if_neg nat) z
  ·by_cases hb:b ∈ ts
   ·exact .inr (.inr ⟨hb,if_pos hb⟩)
   ·exact .inl (if_neg hb)
  ·by_cases hb:b ∈ ts
   ·have z':=(if_pos hb).symm.trans z;cases z'
    exact tbl hb
   ·have z':=(if_neg hb).symm.trans z;cases z'
  ·by_cases hb:b ∈ ts
   ·exact .inr hb
   ·exact absurd (if_neg hb) z
 | none=>
  refine core (fun b=>if b ∈ ts then some (.tbl #[]) else if b=a then some (.frz { cls:=.type "list",data:=.seq vs.toArray } (.lst (ns.map V.int))) else none) (fun b=>?_) (fun T hT=>if_pos hT) (.inl (.inr ⟨{ cls:=.type "list",data:=.seq vs.toArray },(if_neg nat).trans (if_pos rfl)⟩)) (fun b u z=>?_) (fun b z=>?_) fun _=>hk
  ·by_cases hb:b ∈ ts
   ·exact .inr (.inr ⟨hb,if_pos hb⟩)
   by_cases QE:b=a
   ·exact .inr (.inl ⟨_,_,(if_neg hb).trans (if_pos QE)⟩)
   ·exact .inl ((if_neg hb).trans (if_neg QE))
  ·by_cases hb:b ∈ ts
   ·have z':=(if_pos hb).symm.trans z;cases z'
    exact tbl hb
   by_cases QE:b=a
   ·have z':some (HO.frz { cls:=.type "list",data:=.seq vs.toArray } (.lst (ns.map V.int)))=some u:=((if_neg hb).trans (if_pos QE)).symm.trans z;cases z'
    subst QE;exact ⟨ha,by rw [Wj]; exact hl,vs,_,rv,ha⟩
   ·have z':(none:Option HO)=some u:=((if_neg hb).trans (if_neg QE)).symm.trans z;cases z'
  ·by_cases hb:b ∈ ts
   ·exact .inr hb
   by_cases QE:b=a
   ·exact .inl QE
   ·exact absurd ((if_neg hb).trans (if_neg QE)) z
theorem walk_ofT {l:YH} {n k:Nat} {q:Program} {loose:List Str} {XP:(Str->Option Value)->Heap->Prop} {YP:World->Heap->Prop} {d:DefRec} {K:Params->Wm} {CX:World->Pw} {sp:World->Sp} {x:Str} {ts:List Addr}
  (hn:l.most=some n) (hn2:n<=sizeLine) (hdf:d.params.defaults=[]) (hr:Cs k callerA)
  (hY:∀ (w:World) (h:Heap),YP w h->(K w.params).In h/\∀ T ∈ ts,h.get? T=some (XQ #[])) (hKt:∀ (w:World),∀ T ∈ ts,(K w.params).lookup T=none) (hcd:∀ (w:World),∀ T ∈ ts,∃ c,Xy (K w.params) c T=true)
  (F:∀ (w:World) (mg:Str->Option Value) (fa:Addr) (h:Heap),(K w.params).In h->h.Ns mainGlobals mg->mg d.name=some (.ref fa) ->
   ∃ fd:FuncData,(∀ (s:Shared) (u:Value),BindsTo s fd ⟨[u],[]⟩ [(x,u)]) /\
    ∀ base:Heap,(K w.params).In base->base.Ns mainGlobals mg->BM mg base->AH l.prog w (K w.params) mg base (CX w) k fa fd [x] (sp w))
  (hsp:∀ (w:World) (H:Hp) (a:Addr) (ns:List Int),ns.length<=n->Mi ts H->(∀ T ∈ ts,H T=some (.tbl #[]))->AD (K w.params) H a (ns.map V.int)->sp w [.ref a] H (fun v _=>v=.bl true) fun _ _ _=>False)
  (hCX:∀ (w:World) (H:Hp) (s:Shared) (e:Value) (s':Shared),CX w [] H s (fun _ _ _=>False) e s'->False) :
  Zu q loose XP YP l.row.toRowW d [] (fun f vs=>PySem.call f vs):=by
 refine Att.attach_call hn hdf fun w s₀ AS mg mb fa o pm cd doc a vs ns G Y ho hd hcd' hmg hobj hints hlen hg=>?_
 obtain ⟨KX,tabs⟩:=hY w _ Y;obtain ⟨fd,hb,hF⟩:=F w mg fa _ KX G.T.g hmg;exact MJ KX G.T.g G.T.b G.T.builtins G.T.nolimit G.T.bmain hg tabs (hKt w) (hcd w) hobj hints (WJ hlen hn2) hr hF hb (fun H hO hT hS=>hsp w H a ns hlen hO hT hS) fun H e s'=>hCX w H AS e s'
theorem Qj {K:Wm} {ts:List Addr} {H:Hp} {a:Addr} {xs:List V} (o:Mi ts H) (h:AD K H a xs):Lh K H a xs:=by
 rcases h with (h | ⟨ob,h⟩) | h
 ·rcases o a with z | ⟨ob,ys,z⟩ | ⟨_,z⟩ <;> (rw [h] at z; cases z)
 ·exact .inl ⟨ob,h⟩
 ·exact .inr h
def AtL (K:Wm) (n:Str) (st:Stmt) (f:Addr) (fd:FuncData) (c T:Addr):Prop:=Xi K mainGlobals n=some (some (.ref f))/\Np K n n st f fd c T
theorem AtL.at {K:Wm} {n:Str} {st:Stmt} {f:Addr} {fd:FuncData} {c T:Addr} (h:AtL K n st f fd c T):At K n st f fd:=⟨h.1,h.2.fun⟩
theorem at_mkL {K:Wm} {n:Str} {st:Stmt} {f c T:Addr} {oc:Value} {od an:Option Addr} {osl:Array (Option Value)} {kV doc pm ct:Value} (a:Xi K mainGlobals n=some (some (.ref f))) (l:K.lookup f=some ⟨oc,od,.func (Xn n n (C2 st) (B6 st) (Al st) .none kV doc pm an (.ref c) ct),osl⟩)
  (hc:XJ K (.ref c) n=true) (k:XH K (.ref f)=true) (hd:Xy K c T=true):AtL K n st f (Xn n n (C2 st) (B6 st) (Al st) .none kV doc pm an (.ref c) ct) c T:=⟨a,⟨⟨oc,od,kV,doc,pm,an,ct,osl,rfl,l,hc⟩,k,hd⟩⟩
end L2
namespace L2
open PySem PySem.Spec PyProof.Rows
open PySem.W
section
variable {prog:Program} {w:World} {A:Around} {E:Value->Shared->Prop} {s:Shared} {κ:SortKind} {lt:Keyed->Keyed->Bool} {a0:Array Keyed}
end
section
variable {prog:Program} {w:World} {A:Around} {s:Shared}
end
end L2
namespace L2
open PySem PySem.Spec PyProof.Rows
section
variable {prog:Program} {w:World} {A:Around} {E:Value->Shared->Prop} {s:Shared}
end
theorem EW {ss:List Str} {i:Nat} {x:V} (h:(ss.map V.str)[i]? = some x):∃ y,ss[i]? = some y/\x=.str y:=by
 rw [Wy] at h;cases q:ss[i]? with
 | none=>rw [q] at h; cases h
 | some y=>rw [q] at h; exact ⟨y,rfl,(WA.inj h).symm⟩
theorem PS.weak {X:Cx} {st:Stmt} {t t':TS} (h:PS X st t) (w:∀ D σ H,t' D σ H->t D σ H):PS X st t':=fun pins s σ H D I q=>h (pins:=pins) s σ H D I (w D σ H q)
end L2
namespace L2
open PySem
section
variable {α β:Type} {l:List α} {g h:α->Int}
end
section
variable {rs:List DL} {g h:Str->Int}
end
section
variable {D:Str->Str->Int} {P:Str->Prop} {f:Str->Int} {rs:List DL} {S O:List Str} {σ ω:Str->Str}
end
section
variable {ws:List A5} {A9 AJ:List DL} {xs op zs:List Str} {x:V}
end
end L2
namespace L2
open PySem PySem.Spec PyProof.Rows
section
variable {prog:Program} {w:World} {A:Around} {R:Result->Shared->Prop} {g0:Heap} {D it l:Addr} {vs:List Value} {ps:List (List AV × Addr × Value)}
end
section
variable {prog:Program} {w:World} {A:Around} {E:Value->Shared->Prop} {s:Shared}
end
theorem Eb (K:Wm) {X:Cx} (h:X.K=K) (hc:X.calm=true):B0 X (.builtin "max") (fun xs H Q=>∃ (a:Addr) (ns:List Int),xs=[.ref a]/\AD K H a (ns.map V.int)/\ns ≠ []/\∀ m,m ∈ ns->(∀ x ∈ ns,x<=m)->Q (.int m) H):=by subst h; exact HK hc
theorem Ng {X:Cx}:B0 X (.type "range") (fun xs H Q=>∃ i j:Int,xs=[.int i,.int j]/\∀ q,H q=none->Q (.ref q) (upd H q (.rng i j))):=by
 intro pins s σ H xs us Q I r h;obtain ⟨i,j,rfl,q⟩:=h;obtain ⟨u,v,rfl,⟨t,rfl⟩,⟨t',rfl⟩⟩:=Lp r;refine call_range_2 ⟨.ref s.heap.objs.size,_,I.laid (o:=.rng i j) (fun b o e=>Wl _ e) (Wq _) ⟨_,_,_,W0 _ rfl⟩,rfl,q _ I.fresh⟩
theorem Hs {X:Cx} (hc:X.calm=true):B0 X (.type "list") (fun xs H Q=>∃ (r:Addr) (lo:Int) (n:Nat),xs=[.ref r]/\H r=some (.rng lo (lo + n))/\0<=lo/\lo<=1000/\n<=100000/\∀ l,H l=none->Q (.ref l) (upd H l (.lst ((Xc n).map fun (i:Nat)=>V.int (lo + (i:Int)))))):=by
 intro pins s σ H xs us Q I r h;obtain ⟨r0,lo,n,rfl,hr,l0,l1,hn,q⟩:=h;obtain ⟨u,rfl,rx⟩:=Ci r;cases rx
 obtain ⟨t,u,v,e⟩:=(show A6 X.prog X.w H s.heap r0 (.rng lo (lo + n)) from I.hok r0 _ hr)
 refine call_list_range (n:=n) (I.ok.hd hc) (show IsRange s.heap r0 lo (lo + n) 1 t u v from e) (small_one (by lia) (by lia) (by lia) (by lia)) (by rw [rangeSize_one]; split <;> lia) (by lia) fun h' tk FH c' kp hS hacc=>?_
 refine ⟨.ref s.heap.objs.size,_,I.laid (o:=.lst ((Xc n).map fun (i:Nat)=>V.int (lo + (i:Int)))) kp (Wq _) ⟨?_,FH.toList,c',?_,by simpa using hS⟩,rfl,q _ I.fresh⟩
 ·rw [Wj,XU];have:100000 < sizeLine:=by decide
  lia
 ·refine Kr hacc.1 fun i v e=>?_
  obtain ⟨t,rfl⟩:=hacc.2 i v e;exact ⟨t,by simp⟩
def Jw (ws:List A5) (hs:List Str) (y:Str) (m:Int):Prop:=(∃ s ∈ hs,m=dst ws s y)/\∀ s ∈ hs,m<=dst ws s y
theorem Jw.uniq {ws:List A5} {hs:List Str} {y:Str} {m m':Int} (h:Jw ws hs y m) (g:Jw ws hs y m'):m=m':=by
 obtain ⟨⟨s,V3,rfl⟩,a⟩:=h;obtain ⟨⟨t,ht,rfl⟩,b⟩:=g;have:=a t ht;have:=b s V3;lia
def Cq (ws:List A5) (hs qs:List Str) (v:Int):Prop:=(∃ y ∈ qs,Jw ws hs y v)/\∀ y ∈ qs,∃ m,Jw ws hs y m/\m<=v
theorem Cq.uniq {ws:List A5} {hs qs:List Str} {v v':Int} (h:Cq ws hs qs v) (g:Cq ws hs qs v'):v=v':=by
 obtain ⟨⟨y,hy,a⟩,b⟩:=h;obtain ⟨⟨z,hz,a'⟩,b'⟩:=g;obtain ⟨m,c,d⟩:=b z hz;obtain ⟨m',c',d'⟩:=b' y hy;rw [c.uniq a'] at d;rw [c'.uniq a] at d';lia
theorem Cq.covers {ws:List A5} {hs qs:List Str} {v:Int} (h:Cq ws hs qs v):B5 ws v qs hs=true:=by
 unfold B5;rw [Xo];intro y hy;obtain ⟨m,⟨⟨s,V3,e⟩,_⟩,c⟩:=h.2 y hy;rw [Xr];refine ⟨s,V3,decide_eq_true ?_⟩;rw [Hj,<-e];exact c
def PY (ss hs:List Str) (many:Int):Prop:=hs ≠ []/\hs.Sublist ss/\(hs.length:Int)<=many
def EJ (ws:List A5) (ss qs:List Str) (many v:Int):Prop:=(∃ hs,PY ss hs many/\Cq ws hs qs v)/\∀ hs u,PY ss hs many->Cq ws hs qs u->v<=u
theorem EJ.uniq {ws:List A5} {ss qs:List Str} {many v v':Int} (h:EJ ws ss qs many v) (g:EJ ws ss qs many v'):v=v':=by
 obtain ⟨⟨hs,a,b⟩,c⟩:=h;obtain ⟨⟨ks,a',b'⟩,c'⟩:=g;have:=c _ _ a' b';have:=c' _ _ a b;lia
def Ee (ws:List A5) (mo:Int) (ss qs ys:List Str):Prop:=ys.Sublist ss/\B5 ws mo qs ys=true/\∀ zs,zs.Sublist ss->B5 ws mo qs zs=true->AO (BO ((zs.length:Int),zs)) (BO ((ys.length:Int),ys))=false
theorem Ee.uniq {ws:List A5} {mo:Int} {ss qs ys zs:List Str} (h:Ee ws mo ss qs ys) (g:Ee ws mo ss qs zs):ys=zs:=by
 have:=OI (LX _ _ (g.2.2 ys h.1 h.2.1) (h.2.2 zs g.1 g.2.1));exact (Prod.mk.inj this).2
theorem Nf {ws:List A5} {mo:Int} {qs ys:List Str} (hq:qs ≠ []) (h:B5 ws mo qs ys=true):ys ≠ []:=fun z=>by
 subst z;unfold B5 at h;obtain ⟨y,l,e⟩:=YQ hq;rw [e,YB] at h;simp at h
theorem O8 {ws:List A5} {hs:List Str} {y:Str} {m:Int} (h1:m ∈ hs.map fun s=>dst ws s y) (h2:∀ x ∈ hs.map fun s=>dst ws s y,m<=x):Jw ws hs y m:=by
 obtain ⟨s,a,e⟩:=W4.mp h1;exact ⟨⟨s,a,e.symm⟩,fun t ht=>h2 _ (W4.mpr ⟨t,ht,rfl⟩)⟩
theorem J5 {ws:List A5} {hs qs:List Str} {ms:List Int} (l:ms.length=qs.length) (h:∀ (i:Nat) y m,qs[i]? = some y->ms[i]? = some m->Jw ws hs y m) {v:Int} (h1:v ∈ ms) (h2:∀ x ∈ ms,x<=v):Cq ws hs qs v:=by
 constructor
 ·obtain ⟨i,hi,e⟩:=W2 h1;have hq:i < qs.length:=by lia
  exact ⟨qs[i],Xb hq,h i _ _ (Wk hq) (by rw [Wk hi,e])⟩
 ·intro y hy;obtain ⟨i,hi,e⟩:=W2 hy;have hm:i < ms.length:=by lia
  exact ⟨ms[i],h i _ _ (by rw [Wk hi,e]) (Wk hm),h2 _ (Xb hm)⟩
def HX:Sp:=fun vs H Q _=>∃ (c A m:Addr) (mo:Int) (n:Nat) (xs:List Str) (ws:List A5) (A9 AJ:List DL) (x:V) (d:PyData),vs=[.ref c,.ref A,.int mo]/\BZ H c m n xs ws A9 AJ x d/\Dd H A xs ws /\
 ∀ (H':Hp) (S:Addr),Au H H'->H S=none->Dc H' S ws (A9.map (·.1)) (AJ.map (·.1)) mo->Q (.ref S) H'
def HY (K:Wm):Sp:=fun vs H Q _=>∃ (c S L m:Addr) (mo:Int) (n:Nat) (xs ys:List Str) (ws:List A5) (A9 AJ:List DL) (x:V) (d:PyData),vs=[.ref c,.ref S,.ref L]/\BZ H c m n xs ws A9 AJ x d/\Dc H S ws (A9.map (·.1)) (AJ.map (·.1)) mo /\
 AD K H L (ys.map V.str)/\(∀ y ∈ ys,y ∈ A9.map (·.1))/\ys.length<=1000/\∀ (H':Hp),Au H H'->Q (.bl (B5 ws mo (AJ.map (·.1)) ys)) H'
def JG:Sp:=fun vs H Q _=>∃ (c S m:Addr) (mo:Int) (n:Nat) (xs:List Str) (ws:List A5) (A9 AJ:List DL) (x:V) (d:PyData),vs=[.ref c,.ref S]/\BZ H c m n xs ws A9 AJ x d/\Dc H S ws (A9.map (·.1)) (AJ.map (·.1)) mo /\
 (∀ H',Au H H'->(∀ zs,zs.Sublist (A9.map (·.1))->B5 ws mo (AJ.map (·.1)) zs=false)->Q .non H')/\∀ (H':Hp) (L:Addr) (ys:List Str),Au H H'->H' L=some (.lst (ys.map V.str))->Ee ws mo (A9.map (·.1)) (AJ.map (·.1)) ys->Q (.ref L) H'
def HW:Sp:=fun vs H Q _=>∃ (c m:Addr) (mo:Int) (n:Nat) (xs:List Str) (ws:List A5) (A9 AJ:List DL) (x:V) (d:PyData),vs=[.ref c,.int mo]/\BZ H c m n xs ws A9 AJ x d /\
 ∀ (H':Hp) (S:Addr),Au H H'->H S=none->Et H' S ws (A9.map (·.1)) (AJ.map (·.1)) mo->Q (.ref S) H'
def JD:Sp:=fun vs H Q _=>∃ (S L:Addr) (ws:List A5) (ss qs ys:List Str) (mo:Int),vs=[.ref S,.ref L]/\Et H S ws ss qs mo/\qs.Nodup/\ss.length<=1000/\qs.length<=1000/\H L=some (.tup (ys.map V.str)) /\
 ∀ (H':Hp),Au H H'->Q (.bl (IV ws mo ss qs ys)) H'
theorem Et.same {H H':Hp} {S:Addr} {ws:List A5} {ss qs:List Str} {mo:Int} (h:Et H S ws ss qs mo) (s:Au H H'):Et H' S ws ss qs mo:=by
 obtain ⟨nv,a,b,c⟩:=h;exact ⟨nv,s _ _ a,b,fun q hq=>let ⟨l,e1,e2⟩:=c q hq; ⟨l,e1,s _ _ e2⟩⟩
def IK (H:Hp) (A:Addr) (xs:List Str) (ws:List A5) (ss:List Str):Prop:=∃ nv:List (Str × V),H A=some (.dK (sK nv))/\nv.map (·.1)=ss/\∀ s v,(s,v) ∈ nv->DF H v xs ws s
theorem IK.same {H H':Hp} {A:Addr} {xs:List Str} {ws:List A5} {ss:List Str} (h:IK H A xs ws ss) (s:Au H H'):IK H' A xs ws ss:=let ⟨nv,a,b,c⟩:=h; ⟨nv,s _ _ a,b,fun y v e=>(c y v e).same s⟩
def Lv:Sp:=fun vs H Q _=>∃ (A t2 o:Addr) (us:List V) (xs:List Str) (ws:List A5) (ss hs:List Str) (AJ:List DL),vs=[.ref A,.ref t2,.ref o]/\IK H A xs ws ss/\ss.Nodup/\H t2=some (.tup us)/\BI H us (AJ.map Ff)/\EH xs 1 AJ/\AJ.length<=30/\xs.Nodup/\H o=some (.tup (hs.map V.str))/\hs ≠ []/\(∀ s ∈ hs,s ∈ ss)/\hs.length<=1000 /\
 ∀ (H':Hp) (v:Int),Au H H'->Cq ws hs (AJ.map (·.1)) v->Q (.int v) H'
def JF (P:Addr) (lp:Pos) (q:Str):Sp:=fun vs H Q _=>∃ (c S m:Addr) (mo:Int) (n:Nat) (xs:List Str) (ws:List A5) (A9 AJ:List DL) (x:V) (d:PyData),vs=[.ref c,.ref S]/\BZ H c m n xs ws A9 AJ x d/\Et H S ws (A9.map (·.1)) (AJ.map (·.1)) mo/\(∃ hs,hs.Sublist (A9.map (·.1))/\B5 ws mo (AJ.map (·.1)) hs=true)/\BR H P lp q /\
 ∀ (H':Hp) (L:Addr) (ys:List Str),A8 P H H'->BR H' P lp q->H L=none->H' L=some (.lst (ys.map V.str))->Ee ws mo (A9.map (·.1)) (AJ.map (·.1)) ys->Q (.ref L) H'
def JE (P:Addr) (lp:Pos) (q:Str):Sp:=fun vs H Q _=>∃ (c m:Addr) (many:Int) (n:Nat) (xs:List Str) (ws:List A5) (A9 AJ:List DL) (x:V) (d:PyData),vs=[.ref c,.int many]/\BZ H c m n xs ws A9 AJ x d/\1<=many/\many < 10 ^ 30/\BR H P lp q /\
 ∀ (H':Hp) (T L:Addr) (v:Int) (ys:List Str),A8 P H H'->BR H' P lp q->H L=none->H' T=some (.tup [.int v,.ref L])->H' L=some (.lst (ys.map V.str))->EJ ws (A9.map (·.1)) (AJ.map (·.1)) many v->Ee ws v (A9.map (·.1)) (AJ.map (·.1)) ys->Q (.ref T) H'
def Ly:Sp:=fun vs H Q _=>∃ (c A m:Addr) (many:Int) (n:Nat) (xs:List Str) (ws:List A5) (A9 AJ:List DL) (x:V) (d:PyData),vs=[.ref c,.ref A,.int many]/\BZ H c m n xs ws A9 AJ x d/\Dd H A xs ws/\1<=many /\
 ∀ (H':Hp) (T L:Addr) (v:Int) (ys:List Str),Au H H'->H' T=some (.tup [.int v,.ref L])->H' L=some (.lst (ys.map V.str))->EJ ws (A9.map (·.1)) (AJ.map (·.1)) many v->Ee ws v (A9.map (·.1)) (AJ.map (·.1)) ys->0<=v->v < 2 ^ 300->Q (.ref T) H'
def Ri (K:Wm):Sp:=fun vs H Q _=>∃ p:Addr,vs=[.ref p]/\CM K H p /\
 ∀ (H':Hp) (c m:Addr) (n:Nat) (xs:List Str) (ws:List A5) (A9 AJ:List DL) (x:V) (d:PyData),CM K H' p->A8 p H H'->BZ H' c m n xs ws A9 AJ x d->Q (.ref c) H'
def IT (K:Wm) (ts:List Addr):Sp:=fun vs H Q _=>∃ (a:Addr) (ns:List Int),vs=[.ref a]/\Lh K H a (ns.map V.int)/\ns.length<=63/\(∀ T ∈ ts,H T=some (.tbl #[]))/\∀ H',Q (.bl true) H'
theorem CH:∀ {ys zs:List Str},ys.map V.str=zs.map V.str->ys=zs
 | [],[],_=>rfl
 | [],_ :: _,h=>by cases h
 | _ :: _,[],h=>by cases h
 | y :: ys,z :: zs,h=>by
  rw [WG,WG] at h;injection h with h1 h2;injection h1 with h1;rw [h1,CH h2]
def Mh (H:Hp) (us:List V) (ss:List Str):Prop:=DC H us ss/\∀ zs:List Str,zs.Sublist ss->∃ l,V.ref l ∈ us/\H l=some (.lst (zs.map V.str))
theorem JA {zs ss:List Str} {r:Str} (h:zs.Sublist (ss ++ [r])):zs.Sublist ss\/∃ z',zs=z' ++ [r]/\z'.Sublist ss:=by
 obtain ⟨a,b,rfl,h1,h2⟩:=YX.mp h;cases h2 with
 | cons _ h=>rw [X3.mp h,Yh]; exact .inl h1
 | cons_cons _ h=>rw [X3.mp h]; exact .inr ⟨a,rfl,h1⟩
theorem A8.tab {H H':Hp} {P b:Addr} {ps:Array Value} {o:HO} (k:A8 P H H') (hP:H P=some (.tbl ps)) (e:H b=some o) (n:∀ qs,o ≠ .tbl qs):H' b=some o:=
 k b o (fun z=>by rw [z,hP] at e; cases e; exact n _ rfl) e
theorem CM.tab {K:Wm} {H H':Hp} {P p:Addr} {ps:Array Value} (h:CM K H p) (k:A8 P H H') (hP:H P=some (.tbl ps)):CM K H' p:=by
 obtain ⟨a,ns,i,l,h,sc,r⟩:=h;refine ⟨a,ns,i,l,k.tab hP h (fun _ z=>by cases z),?_,r⟩;rcases sc with ⟨ob,h'⟩ | h'
 ·exact .inl ⟨ob,k.tab hP h' (fun _ z=>by cases z)⟩
 ·exact .inr h'
theorem Dd.tab {H H':Hp} {P A:Addr} {ps:Array Value} {xs:List Str} {ws:List A5} (h:Dd H A xs ws) (k:A8 P H H') (hP:H P=some (.tbl ps)):Dd H' A xs ws:=by
 obtain ⟨M,c,⟨kvs,a,b⟩,d⟩:=h;exact ⟨M,c,⟨kvs,k.tab hP a (fun _ z=>by cases z),b⟩,d⟩
theorem BR.pen {K:Wm} {H H':Hp} {P p:Addr} {lp:Pos} {q:Str} (h:BR H P lp q) (hp:CM K H p) (k:A8 p H H'):BR H' P lp q:=by
 obtain ⟨a,ns,i,l,hp,_⟩:=hp;exact h.keep k (.inr ⟨_,hp⟩)
section
variable {bb:Bool} {h h':Heap} {a b i l:Addr} {k:Nat} {items:Array Value}
end
section
variable {prog:Program} {w:World} {A:Around} {E:Value->Shared->Prop} {s:Shared}
end
section
variable {prog:Program} {w:World} {A:Around} {E:Value->Shared->Prop} {s:Shared}
end
end L2
namespace K50
open PySem L2
def top (i:Nat):Stmt:=PySem.Challenge.pw_openhouses_k50_the_least_far.main.body.getD i (.Pass ⟨0,0,0,0⟩)
abbrev CA:Stmt:=top 4
theorem E2:A4 ["web","places","ways","beside","one","other","length"] ["web"] (Al CA):=⟨rfl,rfl,rfl,by decide +kernel,rfl,by decide +kernel,by decide +kernel⟩
abbrev IW:Stmt:=top 6
theorem L5:A4 ["web","place","told"] ["web","place"] (Al IW):=⟨rfl,rfl,rfl,by decide +kernel,rfl,by decide +kernel,by decide +kernel⟩
abbrev C5:Stmt:=top 7
theorem EY:A4 ["case"] ["case"] (Al C5):=⟨rfl,rfl,rfl,by decide +kernel,rfl,by decide +kernel,by decide +kernel⟩
abbrev Ei:Stmt:=top 8
theorem G2:A4 ["web","starts","beside","reached","settled","so_far","start","here","name","by_here"] ["web","starts"] (Al Ei):=⟨rfl,rfl,rfl,by decide +kernel,rfl,by decide +kernel,by decide +kernel⟩
abbrev CI:Stmt:=top 10
theorem FI:A4 ["case","most","begun","place","number"] ["case"] (Al CI):=⟨rfl,rfl,rfl,by decide +kernel,rfl,by decide +kernel,by decide +kernel⟩
abbrev Cy:Stmt:=top 11
theorem DR:A4 ["case","web","sites","folk","limit"] ["case"] (Al Cy):=⟨rfl,rfl,rfl,by decide +kernel,rfl,by decide +kernel,by decide +kernel⟩
abbrev CS:Stmt:=top 13
theorem Fb:A4 ["case","many","web","sites","folk","limit","aways","far"] ["case","many"] (Al CS):=⟨rfl,rfl,rfl,by decide +kernel,rfl,by decide +kernel,by decide +kernel⟩
abbrev CP:Stmt:=top 14
theorem EX:A4 ["aways","folk","houses"] ["aways","folk","houses"] (Al CP):=⟨rfl,rfl,rfl,by decide +kernel,rfl,by decide +kernel,by decide +kernel⟩
abbrev Cc:Stmt:=top 15
theorem Dn:A4 ["case","far","aways"] ["case","far"] (Al Cc):=⟨rfl,rfl,rfl,by decide +kernel,rfl,by decide +kernel,by decide +kernel⟩
abbrev CQ:Stmt:=top 16
theorem EZ:A4 ["served","sites"] ["served","sites"] (Al CQ):=⟨rfl,rfl,rfl,by decide +kernel,rfl,by decide +kernel,by decide +kernel⟩
abbrev C0:Stmt:=top 17
theorem DT:A4 ["case","served","web","sites","folk","limit","covers"] ["case","served"] (Al C0):=⟨rfl,rfl,rfl,by decide +kernel,rfl,by decide +kernel,by decide +kernel⟩
abbrev AI:Stmt:=top 19
theorem C4:A4 ["_law_pen","_law_many","_law_place","_law_cell","_law_number","_law_digit"] ["_law_pen","_law_many"] (Al AI):=⟨rfl,rfl,rfl,by decide +kernel,rfl,by decide +kernel,by decide +kernel⟩
abbrev C6:Stmt:=top 20
theorem Fc:A4 ["_law_pen","_law_many","_law_letters","_law_first","_law_base","_law_at","_law_more","_law_found","_law_k","_law_letter"] ["_law_pen","_law_many"] (Al C6):=⟨rfl,rfl,rfl,by decide +kernel,rfl,by decide +kernel,by decide +kernel⟩
abbrev Co:Stmt:=top 21
theorem E4:A4 ["_law_pen","_law_way"] ["_law_pen"] (Al Co):=⟨rfl,rfl,rfl,by decide +kernel,rfl,by decide +kernel,by decide +kernel⟩
abbrev Cj:Stmt:=top 22
theorem E9:A4 ["_law_pen","_law_names_here","_law_shape","_law_ways","_law_k","_law_other","_law_turn","_law_pair"] ["_law_pen","_law_names_here","_law_shape"] (Al Cj):=⟨rfl,rfl,rfl,by decide +kernel,rfl,by decide +kernel,by decide +kernel⟩
abbrev CJ:Stmt:=top 23
theorem FJ:A4 ["_law_pen","_law_names_here","_law_many","_law_left","_law_found","_law_k"] ["_law_pen","_law_names_here","_law_many"] (Al CJ):=⟨rfl,rfl,rfl,by decide +kernel,rfl,by decide +kernel,by decide +kernel⟩
abbrev D4:Stmt:=top 24
theorem FK:A4 ["_law_pen","_law_shape","_law_names_here","_law_plan","_law_way","_law_sites","_law_place","_law_folk","_law_limit"] ["_law_pen","_law_shape"] (Al D4):=⟨rfl,rfl,rfl,by decide +kernel,rfl,by decide +kernel,by decide +kernel⟩
abbrev Cz:Stmt:=top 25
theorem DS:A4 ["_law_plan","_law_found","_law_one","_law_other","_law_length_here","_law_amid","_law_here","_law_there","_law_old"] ["_law_plan"] (Al Cz):=⟨rfl,rfl,rfl,by decide +kernel,rfl,by decide +kernel,by decide +kernel⟩
abbrev CB:Stmt:=top 26
theorem E3:A4 ["_law_case_here","_law_lengths_here","_law_most","_law_found","_law_site","_law_amount"] ["_law_case_here","_law_lengths_here","_law_most"] (Al CB):=⟨rfl,rfl,rfl,by decide +kernel,rfl,by decide +kernel,by decide +kernel⟩
abbrev CC:Stmt:=top 27
theorem E5:A4 ["_law_case_here","_law_served_here","_law_some_here","_law_place","_law_many"] ["_law_case_here","_law_served_here","_law_some_here"] (Al CC):=⟨rfl,rfl,rfl,by decide +kernel,rfl,by decide +kernel,by decide +kernel⟩
abbrev CT:Stmt:=top 28
theorem Fd:A4 ["_law_case_here","_law_served_here","_law_found","_law_site","_law_amount","_law_good"] ["_law_case_here","_law_served_here"] (Al CT):=⟨rfl,rfl,rfl,by decide +kernel,rfl,by decide +kernel,by decide +kernel⟩
abbrev Ej:Stmt:=top 29
theorem G4:A4 ["_law_pen","_law_names_here","_law_plan","_law_some_here","_law_folk"] ["_law_pen"] (Al Ej):=⟨rfl,rfl,rfl,by decide +kernel,rfl,by decide +kernel,by decide +kernel⟩
abbrev Ek:Stmt:=top 30
theorem G5:A4 ["_law_case_here","_law_lengths_here","_law_many","_law_found","_law_site","_law_amount","_law_some_here","_law_least","_law_one","_law_here"] ["_law_case_here","_law_lengths_here","_law_many"] (Al Ek):=⟨rfl,rfl,rfl,by decide +kernel,rfl,by decide +kernel,by decide +kernel⟩
abbrev Oa:Stmt:=top 31
theorem NZ:A4 ["_law_script","_law_pen","_law_turn","_law_case_here","_law_lengths_here","_law_many","_law_due_here","_law_again","_law_told"] ["_law_script"] (Al Oa):=⟨rfl,rfl,rfl,by decide +kernel,rfl,by decide +kernel,by decide +kernel⟩
section
variable {P:Program} {w:World} {K:Wm} {mg:Str->Option Value} {base:Heap}
theorem RW {P0:Addr} (h_len:mg "len"=none) (h_list:mg "list"=none) (h_range:mg "range"=none) (h_repr:mg "repr"=none) {fT:Addr} {fdT:FuncData} (XT:Fn K mg "_law_take" AI ["_law_pen","_law_many"] fT fdT) (GT:AH P w K mg base BJ 1 fT fdT ["_law_pen","_law_many"] (CO K)) {fCA:Addr} {fdCA:FuncData} (XCA:Fn K mg "_law_case" D4 ["_law_pen","_law_shape"] fCA fdCA) (GCA:AH P w K mg base BJ 4 fCA fdCA ["_law_pen","_law_shape"] (Lz K)) {fLS:Addr} {fdLS:FuncData} (XLS:Fn K mg "_law_lengths" Cz ["_law_plan"] fLS fdLS) (GLS:AH P w K mg base BJ 1 fLS fdLS ["_law_plan"] Lw) {fDU:Addr} {fdDU:FuncData} (XDU:Fn K mg "_law_due" Ek ["_law_case_here","_law_lengths_here","_law_many"] fDU fdDU) (GDU:AH P w K mg base BJ 3 fDU fdDU ["_law_case_here","_law_lengths_here","_law_many"] Ly) {fLF:Addr} {fdLF:FuncData} (XLF:Fn K mg "least_far" CS ["case","many"] fLF fdLF) (GLF:AH P w K mg base BJ 6 fLF fdLF ["case","many"] (JE P0 (⟨61,32,61,68⟩:Pos) (("first_cover":Str) ++ ".<locals>." ++ "<lambda>"))) {fOW:Addr} {fdOW:FuncData} (XOW:Fn K mg "_law_own" Ej ["_law_pen"] fOW fdOW) (GOW:AH P w K mg base BJ 4 fOW fdOW ["_law_pen"] (Ri K)) {f:Addr} {fd:FuncData} (F:Ew K "law" "law" Oa f fd):AH P w K mg base BJ 7 f fd ["_law_script"] (IT K [P0]):=by
 refine F.ok NZ (fun vs H Q E h=>?_) (fun cdv A outer s H vs Q E hr h=>?_)
 ·obtain ⟨a,ns,rfl,_⟩:=h;rfl
 ·obtain ⟨a,ns,rfl,hS,hlen,hT,k⟩:=h;have nd:=NZ.nd;have Jn:=hr.units;have big:100000 < sizeLine:=by decide
  refine ⟨_,(Af (Ap (i:=1) nd rfl (Or.inl rfl) (Bq (Aa (pv 0) (Aa Ag (Aa Ag Ad)))))
  (Af (Bi PassesOwn.never rfl (CG (by rfl) h_range (Aa Ag Ad)) (Ai (i:=2) nd rfl (Or.inl rfl))
  (Af (Ap (i:=3) nd rfl (Or.inl rfl) (Aj GCA (hr.mono (by decide)) (by rfl) XCA.mg XCA.F.kp XCA.b .nil Ar (Aa (pv 1) (Aa (Aj GT (hr.mono (by decide)) (by rfl) XT.mg XT.F.kp XT.b .nil Ar (Aa (pv 1) (Aa Ag Ad))) Ad))))
  (Af (Ap (i:=4) nd rfl (Or.inl rfl) (Aj GLS (hr.mono (by decide)) (by rfl) XLS.mg XLS.F.kp XLS.b .nil Ar (Aa (AF (AL K rfl) (pv 3) Ag (fun _ _=>rfl)) Ad)))
  (Ak (Bi PassesOwn.never rfl (AN K rfl (Av F6 (AX (Hs rfl) (by rfl) h_list PyProof.Rows.boot_list (Aa (AX Ng (by rfl) h_range PyProof.Rows.boot_range (Aa Ag (Aa (Av Bg (Ao (Ax K rfl) (by rfl) h_len PySem.boot_len (Aa (AF (AL K rfl) (pv 3) Ag (fun _ _=>rfl)) Ad)) Ag) Ad))) Ad)) (Bq (Aa (Av Ow Ag Ag) Ad)))) (Ai (i:=5) nd rfl (Or.inl rfl))
  (Af (Ap (i:=6) nd rfl (Or.inl rfl) (Aj GDU (hr.mono (by decide)) (by rfl) XDU.mg XDU.F.kp XDU.b .nil Ar (Aa (pv 3) (Aa (pv 4) (Aa (pv 5) Ad)))))
  (Ak (Bi PassesOwn.never rfl (CG (by rfl) h_range (Aa Ag Ad)) (Ai (i:=7) nd rfl (Or.inl rfl))
  (Af (Ap (i:=8) nd rfl (Or.inl rfl) (Aj GLF (hr.mono (by decide)) (by rfl) XLF.mg XLF.F.kp XLF.b .nil Ar (Aa (pv 3) (Aa (pv 5) Ad))))
  (Af (CK (Bt Ox (Ao (Es hr.gd Jn) (by rfl) h_repr PyProof.Rows.boot_repr (Aa (pv 8) Ad)) (Ao (Es hr.gd Jn) (by rfl) h_repr PyProof.Rows.boot_repr (Aa (pv 6) Ad)) (B9 _))
  (Ak (AM Ig))
  BC)
  (Ak (Fg (GD PySem.F.plainAttrs_list PySem.F.slot_list_append PySem.F.type_list_append Ck (AF (AL K rfl) (pv 8) Ag (fun _ _=>rfl)) (Aa F4 Ad))))))))))))))
  (Af (CK (Bt O0 (Aj GT (hr.mono (by decide)) (by rfl) XT.mg XT.F.kp XT.b .nil Ar (Aa (pv 1) (Aa Ag Ad))) Ag (B9 _))
  (Ak (AM Ig))
  BC)
  (Af (Ap (i:=3) nd rfl (Or.inl rfl) (Aj GOW (hr.mono (by decide)) (by rfl) XOW.mg XOW.F.kp XOW.b .nil Ar (Aa (pv 1) Ad)))
  (Af (Ap (i:=4) nd rfl (Or.inl rfl) (Aj GLS (hr.mono (by decide)) (by rfl) XLS.mg XLS.F.kp XLS.b .nil Ar (Aa (AF (AL K rfl) (pv 3) Ag (fun _ _=>rfl)) Ad)))
  (Af (Bi PassesOwn.never rfl (AN K rfl (Bq (Aa (Av Bg Ag (Aj GT (hr.mono (by decide)) (by rfl) XT.mg XT.F.kp XT.b .nil Ar (Aa (pv 1) (Aa Ag Ad)))) (Aa Ag (Aa Ag (Aa Ag Ad)))))) (Ai (i:=5) nd rfl (Or.inl rfl))
  (Ak (CK (Bt Ox (Ao (Es hr.gd Jn) (by rfl) h_repr PyProof.Rows.boot_repr (Aa (Aj GLF (hr.mono (by decide)) (by rfl) XLF.mg XLF.F.kp XLF.b .nil Ar (Aa (pv 3) (Aa (pv 5) Ad))) Ad)) (Ao (Es hr.gd Jn) (by rfl) h_repr PyProof.Rows.boot_repr (Aa (Aj GDU (hr.mono (by decide)) (by rfl) XDU.mg XDU.F.kp XDU.b .nil Ar (Aa (pv 3) (Aa (pv 4) (Aa (pv 5) Ad)))) Ad)) (B9 _))
  (Ak (AM Ig))
  BC)))
  (Ak (AM Ig)))))))),?_⟩
  have hP0:=hT P0 W7;refine ⟨_,rfl,(by show 3<=sizeLine; lia),fun p hp=>?_⟩;have sp0:=Ac (o:=.lst [.ref a,.int 0,.int 0]) hp;have P1:CM K (upd H p (.lst [.ref a,.int 0,.int 0])) p:=⟨a,ns,0,0,Ab,hS.same sp0,hlen,by decide,by decide⟩
  have L1:BR (upd H p (.lst [.ref a,.int 0,.int 0])) P0 (⟨61,32,61,68⟩:Pos) (("first_cover":Str) ++ ".<locals>." ++ "<lambda>"):=.inl (sp0 _ _ hP0);generalize upd H p (.lst [.ref a,.int 0,.int 0])=H0 at P1 L1 ⊢;have tell:∀ {Hx:Hp} {T L:Addr} {v:Int} {ys:List Str} {xs:List Str} {ws:List A5} {A9 AJ:List DL} {Hc:Hp} {c m:Addr} {n:Nat} {x:V} {d:PyData},BZ Hc c m n xs ws A9 AJ x d->Hx T=some (.tup [.int v,.ref L])->Hx L=some (.lst (ys.map V.str))->Ee ws v (A9.map (·.1)) (AJ.map (·.1)) ys->0<=v->v < 2 ^ 300 ->
    J3 Hx (.ref T) (.tuple [.int v,.list (ys.map PyData.str)])/\Cw (.tuple [.int v,.list (ys.map PyData.str)]) 2 200:=fun {Hx T L v ys xs ws A9 AJ Hc c m n x d} cw hT hL fc v0 v1=>by
   have nms:∀ s ∈ ys,C9 s=true:=fun s hs=>by
    obtain ⟨r,OO,rfl⟩:=W4.mp (fc.1.subset hs);exact cw.map.at'.nm _ (cw.ok1.sub r OO)
   have yl:ys.length<=10:=by have:=fc.1.length_le; rw [Wj] at this; have:=cw.l1; lia
   exists .tup hT (.cons (.int v) (.cons (.lst hL (IC _ ys)) .nil));have f1:Cw (.list (ys.map PyData.str)) 1 70:=(Cw.list (MY nms)).mono (Wq _) (by rw [Wj]; lia);refine (Cw.tuple (k:=1) (b:=70) fun d' JZ=>?_).mono (Wq _) (by show 2 * 71<=200; decide);rcases Wn.mp JZ with rfl | JZ
   ·exact (Cw.intB v0 (Ze v1 (by decide +kernel))).mono (by decide) (by decide)
   ·rw [Wz.mp JZ];exact f1
  refine ⟨3,rfl,by decide,by decide,Hh (n:=3) (fun _ σ H'=>∃ v2 v3 v4 v5 v6 v7 v8,σ=[some (.ref a),some (.ref p),v2,v3,v4,v5,v6,v7,v8]/\CM K H' p/\BR H' P0 (⟨61,32,61,68⟩:Pos) (("first_cover":Str) ++ ".<locals>." ++ "<lambda>")) ⟨_,_,_,_,_,_,_,rfl,P1,L1⟩ ?_ ?_⟩
  ·rintro j σ H1 hj ⟨v2,v3,v4,v5,v6,v7,v8,rfl,P1,L1⟩ rt bk NN hNN;refine ⟨_,rfl,_,rfl,p,4,rfl,P1,by decide,by decide,fun sh H2 P2 k2 SS Vc=>?_⟩;refine ⟨p,sh,rfl,P2,SS,Vc,fun H3 c m n xs ws A9 AJ x d P3 k3 cs=>?_⟩;have L3:=(L1.pen P1 k2).pen P2 k3;have cw:=cs.cw;obtain ⟨t1,t2,De,HU,hc,Eu,Gd,DY,hd2⟩:=cw.ex;have Rg:=B8 Gd;have l1:=cw.l1;refine ⟨_,rfl,c,_,_,_,rfl,rfl,AG.of hc,rfl,m,n,xs,ws,rfl,cw.map,cw.n1,cw.n30,fun H4 A1 s4 fA kA=>?_⟩;have cw4:=cw.same s4;refine ⟨_,rfl,c,_,_,_,rfl,rfl,AG.of (s4 _ _ hc),rfl,t1,_,rfl,.inr (AG.of (s4 _ _ Eu)),_,_,rfl,rfl,_,_,rfl,fun R hR=>?_⟩;have sR:=Ac (o:=.rng 1 ((De.length:Int) + 3)) hR;refine ⟨R,1,De.length + 2,rfl,?_,by decide,by decide,by lia,fun Lr hLr=>?_⟩
   ·rw [show (1:Int) + ((De.length + 2:Nat):Int)=(De.length:Int) + 3 by lia];exact Ab
   have sL:=sR.trans (Ac (o:=.lst ((Xc (De.length + 2)).map fun (i:Nat)=>V.int (1 + (i:Int)))) hLr);have hLL:(upd (upd H4 R (.rng 1 ((De.length:Int) + 3))) Lr (.lst ((Xc (De.length + 2)).map fun (i:Nat)=>V.int (1 + (i:Int))))) Lr=some (.lst ((Xc (De.length + 2)).map fun (i:Nat)=>V.int (1 + (i:Int)))):=Ab;generalize upd (upd H4 R (.rng 1 ((De.length:Int) + 3))) Lr (.lst ((Xc (De.length + 2)).map fun (i:Nat)=>V.int (1 + (i:Int))))=H5 at sL hLL ⊢;refine ⟨_,_,rfl,rfl,⟨by decide,by decide,by decide⟩,(by show 1<=sizeLine; lia),fun Lx hLx=>?_⟩;have sX:=sL.trans (Ac (o:=.lst [.int (10 ^ (29:Int).toNat)]) hLx);refine ⟨Lr,Lx,_,_,rfl,rfl,Ac hLx _ _ hLL,Ab,by rw [Wj,XU]; show _ + 1<=_; lia,fun LM hLM=>?_⟩;have s6:=sX.trans (Ac (o:=.lst (((Xc (De.length + 2)).map fun (i:Nat)=>V.int (1 + (i:Int))) ++ [.int (10 ^ (29:Int).toNat)])) hLM);have QG:(upd (upd H5 Lx (.lst [.int (10 ^ (29:Int).toNat)])) LM (.lst (((Xc (De.length + 2)).map fun (i:Nat)=>V.int (1 + (i:Int))) ++ [.int (10 ^ (29:Int).toNat)]))) LM=some (.lst (((Xc (De.length + 2)).map fun (i:Nat)=>V.int (1 + (i:Int))) ++ [.int (10 ^ (29:Int).toNat)])):=Ab;generalize upd (upd H5 Lx (.lst [.int (10 ^ (29:Int).toNat)])) LM (.lst (((Xc (De.length + 2)).map fun (i:Nat)=>V.int (1 + (i:Int))) ++ [.int (10 ^ (29:Int).toNat)]))=H6 at s6 QG ⊢;have all:∀ v ∈ ((Xc (De.length + 2)).map fun (i:Nat)=>V.int (1 + (i:Int))) ++ [V.int (10 ^ (29:Int).toNat)],∃ many:Int,v=.int many/\1<=many/\many < 10 ^ 30:=fun v hv=>by
    have b30:(100:Int) < 10 ^ 30:=by decide
    rcases W9.mp hv with h | h
    ·obtain ⟨i,hi,rfl⟩:=W4.mp h;have:=X8.mp hi;exact ⟨_,rfl,by lia,by lia⟩
    ·exact ⟨_,Wz.mp h,by decide,by decide⟩
   generalize ((Xc (De.length + 2)).map fun (i:Nat)=>V.int (1 + (i:Int))) ++ [V.int (10 ^ (29:Int).toNat)]=zs at QG all;have Tx:=s4.trans s6;exists LM,rfl,⟨_,AD.of QG⟩
   refine FD (xs:=zs) (fun i σ H'=>∃ v5 v6 v7 v8,σ=[some (.ref a),some (.ref p),some (.int (0 + (j:Int))),some (.ref c),some (.ref A1),v5,v6,v7,v8]/\A8 P0 H6 H'/\BR H' P0 (⟨61,32,61,68⟩:Pos) (("first_cover":Str) ++ ".<locals>." ++ "<lambda>")) ⟨_,_,_,_,rfl,A8.refl _ _,L3.same Tx⟩ (fun i σ H' _ ⟨_,_,_,_,_,ka,_⟩=>?_) ?_ ?_
   ·obtain ⟨ps,hps⟩:=(L3.same Tx).some;exact AD.of (ka.tab hps QG fun _ z=>by cases z)
   ·rintro i v σ H7 hv ⟨v5,v6,v7,v8,rfl,k7,L7⟩ SV bk2 N2 Td;obtain ⟨many,rfl,m1,m2⟩:=all v (Wo hv);obtain ⟨ps,hps⟩:=(L3.same Tx).some;have SD:BZ H7 c m n xs ws A9 AJ x d:=(cw4.same s6).keepT fun b ys z=>k7.tab hps z fun _ q=>by cases q
    have UG:=(kA.same s6).tab k7 hps;refine ⟨_,rfl,_,rfl,_,rfl,c,A1,m,many,n,xs,ws,A9,AJ,x,d,rfl,SD,UG,m1,fun H8 TD LD vD ysD s8 hTD hLD leD fcD v0 v1=>?_⟩;refine ⟨2,rfl,by decide,by decide,Hh (n:=2) (fun _ σ H'=>∃ v7 v8,σ=[some (.ref a),some (.ref p),some (.int (0 + (j:Int))),some (.ref c),some (.ref A1),some (.int many),some (.ref TD),v7,v8]/\A8 P0 H8 H'/\BR H' P0 (⟨61,32,61,68⟩:Pos) (("first_cover":Str) ++ ".<locals>." ++ "<lambda>")) ⟨_,_,rfl,A8.refl _ _,L7.same s8⟩ ?_ ?_⟩
    ·rintro j2 σ H9 PJ ⟨w7,w8,rfl,k9,L9⟩ rt3 bk3 N3 UK;obtain ⟨ps8,Sn⟩:=(L7.same s8).some;have Wa:BZ H9 c m n xs ws A9 AJ x d:=(SD.same s8).keepT fun b ys z=>k9.tab Sn z fun _ q=>by cases q
     refine ⟨_,rfl,_,rfl,c,m,many,n,xs,ws,A9,AJ,x,d,rfl,Wa,m1,m2,L9,fun HA T L v ys Vv LA fL hT hL le fc=>?_⟩;obtain ⟨ps9,TY⟩:=L9.some;have ev:=le.uniq leD;subst ev;have ey:=fc.uniq fcD;subst ey;have VB:=k9.tab Sn hTD fun _ q=>by cases q
     have VL:=k9.tab Sn hLD fun _ q=>by cases q
     obtain ⟨dA,Kc⟩:=tell Wa hT hL fc v0 v1;obtain ⟨dB,_⟩:=tell Wa (Vv.tab TY VB fun _ q=>by cases q) (Vv.tab TY VL fun _ q=>by cases q) fc v0 v1;exists _,rfl,T,_,rfl,dA,Kc.sho,Kc.nod,by have:=Kc.dp; lia,Kc.len (by decide)
     exists _,rfl,TD,_,rfl,dB,Kc.sho,Kc.nod,by have:=Kc.dp; lia,Kc.len (by decide),rfl,_,rfl
     refine Cf (fun z=>by simp at z) (fun _=>?_);have yl:ys.length<=10:=by have:=fc.1.length_le; rw [Wj] at this; lia
     exists _,rfl,T,_,_,.ref L,rfl,rfl,AG.of hT,rfl,.inl ⟨rfl,_,AD.of hL⟩,L,_,_,rfl,rfl,hL,by rw [Wj]; lia
     have kL:A8 L HA (upd HA L (.lst (ys.map V.str ++ [.str "a"]))):=A8.upd;refine UK _ _ ⟨_,_,rfl,fun b o nb e=>?_,LA.keep kL (.inr ⟨_,hL⟩)⟩;have e9:=k9 _ _ nb e;exact kL _ _ (fun z=>by rw [z,fL] at e9; cases e9) (Vv _ _ nb e9)
    ·rintro σ H9 ⟨w7,w8,rfl,k9,L9⟩;exact Td _ _ ⟨_,_,_,_,rfl,k7.trans (fun b o nb e=>k9 _ _ nb (s8 _ _ e)),L9⟩
   ·rintro σ H7 ⟨v5,v6,v7,v8,rfl,k7,L7⟩;obtain ⟨ps,hps⟩:=(L3.same Tx).some;exact hNN _ _ ⟨_,_,_,_,_,_,_,rfl,(P3.same Tx).tab k7 hps,L7⟩
  ·rintro σ H1 ⟨v2,v3,v4,v5,v6,v7,v8,rfl,P1,L1⟩;refine ⟨_,rfl,p,4,rfl,P1,by decide,by decide,fun d1 H2 P2 k2 VZ VY=>⟨_,_,rfl,rfl,_,rfl,?_⟩⟩;refine Cf (fun _=>k H2) (fun _=>?_);have L2':=L1.pen P1 k2;refine ⟨_,rfl,p,rfl,P2,fun H3 c m n xs ws A9 AJ x d P3 k3 cw=>?_⟩;have L3:=L2'.pen P2 k3;obtain ⟨t1,t2,De,HU,hc,Eu,Gd,DY,hd2⟩:=cw.ex;refine ⟨_,rfl,c,_,_,_,rfl,rfl,AG.of hc,rfl,m,n,xs,ws,rfl,cw.map,cw.n1,cw.n30,fun H4 A1 s4 fA kA=>?_⟩;refine ⟨_,rfl,p,6,rfl,P3.same s4,by decide,by decide,fun q H5 P5 k5 q0 q1=>⟨_,_,rfl,rfl,(by show 4<=sizeLine; lia),fun LM hLM=>?_⟩⟩;have sM:=Ac (o:=.lst [.int (1 + q),.int 7,.int 8,.int 9]) hLM;have QG:(upd H5 LM (.lst [.int (1 + q),.int 7,.int 8,.int 9])) LM=some (.lst [.int (1 + q),.int 7,.int 8,.int 9]):=Ab;generalize upd H5 LM (.lst [.int (1 + q),.int 7,.int 8,.int 9])=H6 at sM QG ⊢;have b30:(100:Int) < 10 ^ 30:=by decide
   have all:∀ v ∈ [V.int (1 + q),.int 7,.int 8,.int 9],∃ many:Int,v=.int many/\1<=many/\many < 10 ^ 30:=fun v hv=>by
    rcases Wn.mp hv with h | hv
    ·exact ⟨_,h,by lia,by lia⟩
    rcases Wn.mp hv with h | hv
    ·exact ⟨_,h,by decide,by decide⟩
    rcases Wn.mp hv with h | hv
    ·exact ⟨_,h,by decide,by decide⟩
    ·exact ⟨_,Wz.mp hv,by decide,by decide⟩
   generalize [V.int (1 + q),.int 7,.int 8,.int 9]=zs at QG all;have L6:=((L3.same s4).pen (P3.same s4) k5).same sM;have cw6:BZ H6 c m n xs ws A9 AJ x d:=((cw.same s4).keepT (Ez (P3.same s4) k5)).same sM;have kA6:=(kA.keep5 (P3.same s4) k5).same sM;obtain ⟨ps,hps⟩:=L6.some;exists LM,rfl,⟨_,AD.of QG⟩
   refine FD (xs:=zs) (fun i σ H'=>∃ v2 v5 v6 v7 v8,σ=[some (.ref a),some (.ref p),v2,some (.ref c),some (.ref A1),v5,v6,v7,v8]/\A8 P0 H6 H'/\BR H' P0 (⟨61,32,61,68⟩:Pos) (("first_cover":Str) ++ ".<locals>." ++ "<lambda>")) ⟨_,_,_,_,_,rfl,A8.refl _ _,L6⟩ (fun i σ H' _ ⟨_,_,_,_,_,_,ka,_⟩=>AD.of (ka.tab hps QG fun _ z=>by cases z)) ?_ (fun σ H' _=>k H');rintro i v σ H7 hv ⟨v2,v5,v6,v7,v8,rfl,k7,L7⟩ SV bk2 N2 Td;obtain ⟨many,rfl,m1,m2⟩:=all v (Wo hv);have SD:BZ H7 c m n xs ws A9 AJ x d:=cw6.keepT fun b ys z=>k7.tab hps z fun _ q=>by cases q
   have UG:=kA6.tab k7 hps;obtain ⟨ps7,TZ⟩:=L7.some;refine ⟨_,rfl,_,rfl,c,m,many,n,xs,ws,A9,AJ,x,d,rfl,SD,m1,m2,L7,fun H8 T L v ys k8 L8 fL hT hL le fc=>?_⟩;have Wb:BZ H8 c m n xs ws A9 AJ x d:=SD.keepT fun b ys z=>k8.tab TZ z fun _ q=>by cases q
   have bnd:0<=v/\v < 2 ^ 300:=by
    obtain ⟨⟨hs,fw,⟨y,hy,⟨s',J0,e'⟩,_⟩,_⟩,_⟩:=le;obtain ⟨r,OO,rfl⟩:=W4.mp hy;obtain ⟨r0,V4,e0⟩:=W4.mp (fw.2.1.subset J0);obtain ⟨M,cc,_,hM⟩:=UG;obtain ⟨nn,_,d1,d2,d3⟩:=hM s' (by rw [<-e0]; exact SD.ok1.sub r0 V4) r.1 (SD.ok2.sub r OO);rw [e',d1.dst];exact ⟨d2,d3⟩
   obtain ⟨dA,Kc⟩:=tell Wb hT hL fc bnd.1 bnd.2;exists T,_,rfl,dA,Kc.sho,Kc.nod,by have:=Kc.dp; lia,Kc.len (by decide)
   refine ⟨_,rfl,_,rfl,_,rfl,c,A1,m,many,n,xs,ws,A9,AJ,x,d,rfl,Wb,UG.tab k8 TZ,m1,fun H9 TD LD vD ysD s9 hTD hLD leD fcD v0 v1=>?_⟩;have ev:=le.uniq leD;subst ev;have ey:=fc.uniq fcD;subst ey;obtain ⟨dB,_⟩:=tell Wb hTD hLD fcD v0 v1;exists TD,_,rfl,dB,Kc.sho,Kc.nod,by have:=Kc.dp; lia,Kc.len (by decide),rfl,_,rfl
   refine Cf (fun z=>by simp at z) (fun _=>?_);exact Td _ _ ⟨_,_,_,_,_,rfl,k7.trans (fun b o nb e=>s9 _ _ (k8 _ _ nb e)),L8.same s9⟩
end
section
variable {P:Program} {w:World} {K:Wm} {mg:Str->Option Value} {base:Heap}
theorem KD (h_tuple:mg "tuple"=none) {fT:Addr} {fdT:FuncData} (XT:Fn K mg "_law_take" AI ["_law_pen","_law_many"] fT fdT) (GT:AH P w K mg base BJ 1 fT fdT ["_law_pen","_law_many"] (CO K)) {fNM:Addr} {fdNM:FuncData} (XNM:Fn K mg "_law_names" C6 ["_law_pen","_law_many"] fNM fdNM) (GNM:AH P w K mg base BJ 2 fNM fdNM ["_law_pen","_law_many"] (Gy K)) {fMP:Addr} {fdMP:FuncData} (XMP:Fn K mg "_law_map" Cj ["_law_pen","_law_names_here","_law_shape"] fMP fdMP) (GMP:AH P w K mg base BJ 3 fMP fdMP ["_law_pen","_law_names_here","_law_shape"] (K1 K)) {fS:Addr} {fdS:FuncData} (XS:Fn K mg "_law_some" CJ ["_law_pen","_law_names_here","_law_many"] fS fdS) (GS:AH P w K mg base BJ 2 fS fdS ["_law_pen","_law_names_here","_law_many"] (IS K)) {f:Addr} {fd:FuncData} (F:Ew K "_law_own" "_law_own" Ej f fd):AH P w K mg base BJ 4 f fd ["_law_pen"] (Ri K):=by
 refine F.ok G4 (fun vs H Q E h=>?_) (fun cdv A outer s H vs Q E hr h=>?_)
 ·obtain ⟨p,rfl,_⟩:=h;rfl
 ·obtain ⟨p,rfl,hP,k⟩:=h;have nd:=G4.nd;have big:100000 < sizeLine:=by decide
  refine ⟨_,(Af (Ap (i:=1) nd rfl (Or.inl rfl) (Aj GNM (hr.mono (by decide)) (by rfl) XNM.mg XNM.F.kp XNM.b .nil Ar (Aa (pv 0) (Aa Ag Ad))))
  (Af (Ap (i:=2) nd rfl (Or.inl rfl) (Aj GMP (hr.mono (by decide)) (by rfl) XMP.mg XMP.F.kp XMP.b .nil Ar (Aa (pv 0) (Aa (pv 1) (Aa (Aj GT (hr.mono (by decide)) (by rfl) XT.mg XT.F.kp XT.b .nil Ar (Aa (pv 0) (Aa Ag Ad))) Ad)))))
  (Af (Ap (i:=3) nd rfl (Or.inl rfl) (Aj GS (hr.mono (by decide)) (by rfl) XS.mg XS.F.kp XS.b .nil Ar (Aa (pv 0) (Aa (pv 1) (Aa Ag Ad)))))
  (Af (Ap (i:=4) nd rfl (Or.inl rfl) (Aj GS (hr.mono (by decide)) (by rfl) XS.mg XS.F.kp XS.b .nil Ar (Aa (pv 0) (Aa (pv 3) (Aa (Av Bg Ag (Aj GT (hr.mono (by decide)) (by rfl) XT.mg XT.F.kp XT.b .nil Ar (Aa (pv 0) (Aa Ag Ad)))) Ad)))))
  (Af (PS.weak (t':=(fun D σ H=>∃ (p N m S F:Addr) (xs fk:List Str),σ=[some (.ref p),some (.ref N),some (.ref m),some (.ref S),some (.ref F)]/\CM K H p/\H N=some (.lst (xs.map V.str))/\N ≠ p/\xs.length=12/\xs.Nodup/\H F=some (.lst (fk.map V.str))/\F ≠ p/\8<=fk.length/\fk.length<=12/\fk.Nodup/\(∀ y ∈ fk,y ∈ xs)/\∀ (H':Hp) (F':Addr) (QI:List Str),CM K H' p->A8 p H H'->H' F'=some (.lst (QI.map V.str))->F' ≠ p->8<=QI.length->QI.length<=12->QI.Nodup->(∀ y ∈ QI,y ∈ xs)->D.nx [some (.ref p),some (.ref N),some (.ref m),some (.ref S),some (.ref F')] H')) (CK (Bt LN (Aj GT (hr.mono (by decide)) (by rfl) XT.mg XT.F.kp XT.b .nil Ar (Aa (pv 0) (Aa Ag Ad))) Ag (B9 _))
  (Ak (Ap (i:=4) nd rfl (Or.inl rfl) (Aj GS (hr.mono (by decide)) (by rfl) XS.mg XS.F.kp XS.b .nil Ar (Aa (pv 0) (Aa (pv 1) (Aa (Av Bg Ag (Aj GT (hr.mono (by decide)) (by rfl) XT.mg XT.F.kp XT.b .nil Ar (Aa (pv 0) (Aa Ag Ad)))) Ad))))))
  BC) ?w1)
  (Ak (AM (AQ (Aa (pv 2) (Aa (AX (Be K rfl) (by rfl) h_tuple PyProof.Rows.boot_tuple (Aa (Bz (N:=["_law_name"]) (σ0:=fun _=>[none]) rfl (AE.plain (by decide +kernel) (by decide +kernel) rfl (by decide +kernel)) (fun σ _=>AK.none _ _ _ ["_law_name"] σ) (AN K rfl (pv 3))
   (fun s2 H C fp=>⟨(Ai (i:=0) (show (["_law_name"]:List Str).Nodup by decide +kernel) rfl (Or.inl rfl)),Bh,(AQ (Aa (pv 0) (Aa Ag Ad)))⟩)) Ad)) (Aa (AX (Be K rfl) (by rfl) h_tuple PyProof.Rows.boot_tuple (Aa (Bz (N:=["_law_name"]) (σ0:=fun _=>[none]) rfl (AE.plain (by decide +kernel) (by decide +kernel) rfl (by decide +kernel)) (fun σ _=>AK.none _ _ _ ["_law_name"] σ) (AN K rfl (pv 4))
   (fun s2 H C fp=>⟨(Ai (i:=0) (show (["_law_name"]:List Str).Nodup by decide +kernel) rfl (Or.inl rfl)),Bh,(AQ (Aa (pv 0) (Aa Ag Ad)))⟩)) Ad)) (Aa F5 Ad)))))))))))),?_⟩
  case w1=>
   rintro D σ H1 ⟨p,N,m,S,F,xs,fk,rfl,P1,hN,nN,xl,xnd,hF,nF,f8,UO,fnd,fin,k⟩;refine ⟨_,rfl,p,2,rfl,P1,by decide,by decide,fun d1 H2 P2 k2 d0 d1'=>⟨rfl,_,rfl,?_⟩⟩;refine Cf (fun _=>?_) (fun _=>?_)
   ·refine ⟨_,rfl,_,rfl,_,rfl,p,5,rfl,P2,by decide,by decide,fun e1 H3 P3 k3 e10 e11=>⟨_,_,rfl,rfl,?_⟩⟩;obtain ⟨n1,rfl⟩:∃ n:Nat,e1=n:=⟨e1.toNat,by lia⟩
    have k13:=k2.trans k3;refine ⟨p,N,xs,8 + n1,rfl,P3,k13 _ _ nN hN,nN,by lia,by lia,fun H4 D1 ys zs P4 k4 Ti Sx pm yl so=>?_⟩;have pnd:=pm.nodup_iff.mpr xnd;exact k _ D1 ys P4 (k13.trans k4) Sx (P3.ne Ti) (by lia) (by lia) (Xq.mp pnd).1 fun y hy=>pm.mem_iff.mp (WN _ hy)
   ·exact k _ F fk P2 k2 (k2 _ _ nF hF) nF f8 UO fnd fin
  refine ⟨_,rfl,p,12,rfl,hP,by decide,fun H1 N xs P1 k1 fN hN xl xnd xnm=>?_⟩;have nN:N ≠ p:=hP.ne fN;refine ⟨_,rfl,_,rfl,_,rfl,p,4,rfl,P1,by decide,by decide,fun sh H2 P2 k2 SS Vc=>?_⟩;have Td:=k2 _ _ nN hN;refine ⟨p,N,xs,sh,rfl,P2,Td,nN,xnd,xnm,by lia,by lia,SS,Vc,fun H3 m ps ws P3 k3 pp mw=>?_⟩;have UK:=k3 _ _ nN Td;refine ⟨_,rfl,_,rfl,p,N,xs,10,rfl,P3,UK,nN,by lia,by lia,fun H4 S ys zs P4 k4 fS hS pm yl so=>?_⟩;have nS:S ≠ p:=P3.ne fS;have pnd:=pm.nodup_iff.mpr xnd;have ynd:=(Xq.mp pnd).1;have yin:∀ y ∈ ys,y ∈ xs:=fun y hy=>pm.mem_iff.mp (WN _ hy)
  refine ⟨_,rfl,_,rfl,_,rfl,p,3,rfl,P4,by decide,by decide,fun d1 H5 P5 k5 d0 d1'=>⟨_,_,rfl,rfl,?_⟩⟩;obtain ⟨n1,rfl⟩:∃ n:Nat,d1=n:=⟨d1.toNat,by lia⟩
  have hS5:=k5 _ _ nS hS;refine ⟨p,S,ys,8 + n1,rfl,P5,hS5,nS,by lia,by lia,fun H6 F fk zs2 P6 k6 fF hF RQ fl Py=>?_⟩;have nF:F ≠ p:=P5.ne fF;have Vi:=RQ.nodup_iff.mpr ynd;have fin:∀ y ∈ fk,y ∈ ys:=fun y hy=>RQ.mem_iff.mp (WN _ hy)
  have Vw:=(k4.trans k5).trans k6;refine ⟨p,N,m,S,F,xs,fk,rfl,P6,Vw _ _ nN UK,nN,xl,xnd,hF,nF,by lia,by lia,(Xq.mp Vi).1,fun y hy=>yin y (fin y hy),fun H7 F' QI P7 k7 hF' nF' f8 UO fnd fx=>?_⟩;have hS7:=k7 _ _ nS (k6 _ _ nS hS5);have UB:=(mw.keepT (Ez P3 Vw)).keepT (Ez P6 k7);have q07:A8 p H H7:=(((k1.trans k2).trans k3).trans Vw).trans k7;exists _,rfl,_,rfl,S,rfl,⟨_,AD.of hS7⟩
  refine BG Bf (xs:=ys.map V.str) (fun R i σ H' acc=>∃ v0:Option V,σ=[v0]/\Au H7 H'/\H' R=some (.lst acc)/\acc.length=i/\BI H' acc (((ys.take i).map fun y=>(y,(1:Int))).map Ff))
   (by rw [Wj]; lia) (fun R hR=>⟨_,rfl,Ac hR,Ab,rfl,.nil⟩) (fun R i σ H' acc hR ⟨v0,_,sa,hRR,al,_⟩=>⟨AD.of (sa _ _ hS7),hRR,al⟩) ?_ ?_
  ·rintro R i σ H' acc x' B hR ex ⟨v0,rfl,sa,hRR,al,dts⟩ hB;obtain ⟨y,ey,rfl⟩:=EW ex;refine ⟨_,rfl,(by show 2<=sizeLine; lia),fun W hW=>?_⟩;have sW:=Ac (o:=.tup [V.str y,V.int 1]) hW;have Ui:(upd H' W (.tup [V.str y,V.int 1])) W=some (.tup [V.str y,V.int 1]):=Ab;generalize upd H' W (.tup [V.str y,V.int 1])=H5 at sW Ui ⊢;have PM:=sW _ _ hRR;have tR:∀ b zs,H5 b=some (.tup zs)->(upd H5 R (.lst (acc ++ [.ref W]))) b=some (.tup zs):=fun b zs z=>by rw [Ae (fun e=>by rw [e,PM] at z; cases z)]; exact z
   refine hB _ _ _ PM ⟨_,rfl,fun b o z=>by rw [Ae (Ah z hR)]; exact sW _ _ (sa _ _ z),Ab,by rw [Ww,al]; rfl,?_⟩;rw [W5,ey,W3,W3];exact Ea (Bc dts fun b zs z=>tR _ _ (sW _ _ z)) (.cons (Gj (u:=(y,1)) (tR _ _ Ui)) .nil)
  rintro R1 σ H8 Nj hR1 ⟨v0,rfl,s8,VG,al1,Uw⟩;rw [Wj,WD] at Uw;refine ⟨R1,_,rfl,.inl ⟨AD.of VG,fun t1 Eu=>?_⟩⟩;have s9:=s8.trans (Ac (o:=.tup Nj) Eu);have s89:=Ac (o:=.tup Nj) Eu;have Rp:(upd H8 t1 (.tup Nj)) t1=some (.tup Nj):=Ab;generalize upd H8 t1 (.tup Nj)=H9 at s9 s89 Rp ⊢;have d1:=Bc Uw fun b zs z=>s89 _ _ z
  exists _,rfl,F',rfl,⟨_,AD.of (s9 _ _ hF')⟩
  refine BG Bf (xs:=QI.map V.str) (fun R i σ H' acc=>∃ v0:Option V,σ=[v0]/\Au H9 H'/\H' R=some (.lst acc)/\acc.length=i/\BI H' acc (((QI.take i).map fun y=>(y,(2:Int))).map Ff))
   (by rw [Wj]; lia) (fun R hR=>⟨_,rfl,Ac hR,Ab,rfl,.nil⟩) (fun R i σ H' acc hR ⟨v0,_,sa,hRR,al,_⟩=>⟨AD.of (sa _ _ (s9 _ _ hF')),hRR,al⟩) ?_ ?_
  ·rintro R i σ H' acc x' B hR ex ⟨v0,rfl,sa,hRR,al,dts⟩ hB;obtain ⟨y,ey,rfl⟩:=EW ex;refine ⟨_,rfl,(by show 2<=sizeLine; lia),fun W hW=>?_⟩;have sW:=Ac (o:=.tup [V.str y,V.int 2]) hW;have Ui:(upd H' W (.tup [V.str y,V.int 2])) W=some (.tup [V.str y,V.int 2]):=Ab;generalize upd H' W (.tup [V.str y,V.int 2])=H5 at sW Ui ⊢;have PM:=sW _ _ hRR;have tR:∀ b zs,H5 b=some (.tup zs)->(upd H5 R (.lst (acc ++ [.ref W]))) b=some (.tup zs):=fun b zs z=>by rw [Ae (fun e=>by rw [e,PM] at z; cases z)]; exact z
   refine hB _ _ _ PM ⟨_,rfl,fun b o z=>by rw [Ae (Ah z hR)]; exact sW _ _ (sa _ _ z),Ab,by rw [Ww,al]; rfl,?_⟩;rw [W5,ey,W3,W3];exact Ea (Bc dts fun b zs z=>tR _ _ (sW _ _ z)) (.cons (Gj (u:=(y,2)) (tR _ _ Ui)) .nil)
  rintro R2 σ HA Cv PN ⟨v0,rfl,sA,VF,J2,Uv⟩;rw [Wj,WD] at Uv;refine ⟨R2,_,rfl,.inl ⟨AD.of VF,fun t2 DY=>⟨(by show 4<=sizeLine; lia),fun c hc=>?_⟩⟩⟩;have sB:=(Ac (o:=.tup Cv) DY).trans (Ac (o:=.tup [.ref m,.ref t1,.ref t2,.non]) hc);have MS:=Ac (o:=.tup [.ref m,.ref t1,.ref t2,.non]) hc _ _ (Ab (H:=HA) (a:=t2) (o:=.tup Cv));have hcc:(upd (upd HA t2 (.tup Cv)) c (.tup [.ref m,.ref t1,.ref t2,.non])) c=some (.tup [.ref m,.ref t1,.ref t2,.non]):=Ab;show Q _ (upd (upd HA t2 (.tup Cv)) c (.tup [.ref m,.ref t1,.ref t2,.non]))
  generalize upd (upd HA t2 (.tup Cv)) c (.tup [.ref m,.ref t1,.ref t2,.non])=HB at sB MS hcc;have sAB:=sA.trans sB;have Vd:=s9.trans sAB;have rows:∀ {l:List Str} {v:Int},l.Nodup->(∀ y ∈ l,y ∈ xs)->1<=l.length->0<=v->v<=2->EH ps v (l.map fun y=>(y,v)):=fun {l v} nd' K0 Vl v0' v2'=>by
   refine ⟨fun r hr=>?_,?_,fun r hr=>?_,by rw [Wj]; exact Vl⟩
   ·obtain ⟨y,hy,rfl⟩:=W4.mp hr;exact pp.mem_iff.mpr (K0 y hy)
   ·rw [Xp];have:((fun r:DL=>r.1) ∘ fun y:Str=>(y,v))=id:=rfl;rw [this,List.map_id];exact nd'
   ·obtain ⟨y,hy,rfl⟩:=W4.mp hr;exact ⟨Xk _,Zr v2' (by decide)⟩
  have r1:=rows (v:=1) ynd yin (by lia) (by decide) (by decide);have r2:=rows (v:=2) fnd fx (by lia) (by decide) (by decide);refine k HB c m xs.length ps ws (ys.map fun y=>(y,1)) (QI.map fun y=>(y,2)) .non .none (P7.same Vd) (q07.trans (A8.of_same Vd)) ⟨⟨t1,t2,Nj,Cv,hcc,sAB _ _ Rp,Bc d1 (fun b zs z=>sAB _ _ z),MS,Bc Uv (fun b zs z=>sB _ _ z)⟩,UB.keepT (fun b zs z=>Vd _ _ z),by lia,by lia,⟨r1.sub,r1.nd,fun r hr=>⟨by have:=(r1.lo r hr).1; lia,(r1.lo r hr).2⟩,r1.one⟩,⟨r2.sub,r2.nd,fun r hr=>⟨by have:=(r2.lo r hr).1; lia,(r2.lo r hr).2⟩,r2.one⟩,by rw [Wj]; lia,by rw [Wj]; lia,.inl ⟨rfl,rfl⟩⟩
end
section
variable {P:Program} {w:World} {K:Wm} {mg:Str->Option Value} {base:Heap}
theorem KG (h_len:mg "len"=none) (h_max:mg "max"=none) (h_min:mg "min"=none) {fSD:Addr} {fdSD:FuncData} (XSD:Fn K mg "_law_served" CB ["_law_case_here","_law_lengths_here","_law_most"] fSD fdSD) (GSD:AH P w K mg base BJ 1 fSD fdSD ["_law_case_here","_law_lengths_here","_law_most"] HX) {fCR:Addr} {fdCR:FuncData} (XCR:Fn K mg "_law_cover" CT ["_law_case_here","_law_served_here"] fCR fdCR) (GCR:AH P w K mg base BJ 2 fCR fdCR ["_law_case_here","_law_served_here"] JG) {f:Addr} {fd:FuncData} (F:Ew K "_law_due" "_law_due" Ek f fd):AH P w K mg base BJ 3 f fd ["_law_case_here","_law_lengths_here","_law_many"] Ly:=by
 refine F.ok G5 (fun vs H Q E h=>?_) (fun cdv A outer s H vs Q E hr h=>?_)
 ·obtain ⟨c,A0,m,many,n,xs,ws,A9,AJ,x,d,rfl,_⟩:=h;rfl
 ·obtain ⟨c,A0,m,many,n,xs,ws,A9,AJ,x,d,rfl,cs,kn,m1,k⟩:=h;have nd:=G5.nd;have hu:=Du hr;have big:100000 < sizeLine:=by decide
  refine ⟨_,(Af (Ap (i:=3) nd rfl (Or.inl rfl) (Bq (Aa (Bq Ad) Ad)))
  (Af (Bi PassesOwn.never rfl (Bb K rfl (AF (AL K rfl) (pv 0) Ag (fun _ _=>rfl))) (Bv K rfl rfl (Am (Ai (i:=4) nd rfl (Or.inr rfl)) (Am (Ai (i:=5) nd rfl (Or.inl rfl)) Bu)))
  (Ak (Ap (i:=3) nd rfl (Or.inl rfl) (Av F6 (pv 3) (Bz (N:=["_law_one","_law_site"]) (σ0:=fun σ=>[none,some 4].map fun j=>j.bind fun j=>(σ[j]?).join) rfl (AE.caught (by rfl) (by decide +kernel) rfl (by decide +kernel) (by intro y hy; simp only [Wn,Wu,or_false] at hy; rcases hy with rfl <;> rfl)
   (by intro y hy e; simp only [Wn,Wu,or_false] at hy; rcases hy with rfl | rfl | rfl <;> first | exact ⟨_,rfl⟩ | cases e)) (fun σ _=>AK.of [none,some 4] rfl (by
   intro i j x h1 h2;match i,h1,h2 with
   | 0,_,h2=>cases h2
   | 1,h1,h2=>cases h1; cases h2; exact ⟨rfl,.inl rfl,.inl rfl⟩
   | n + 2,h1,_=>cases h1)) (AN K rfl (pv 3))
   (fun s2 H C fp=>⟨(Ai (i:=0) (show (["_law_one","_law_site"]:List Str).Nodup by decide +kernel) rfl (Or.inl rfl)),Bh,(Av F6 (pv 0) (Bq (Aa (pv 1) Ad)))⟩))))))
  (Af (Jb (ix:=6) (N:=["_law_one","_law_many"]) (σ0:=fun σ=>[none,some 2].map fun j=>j.bind fun j=>(σ[j]?).join) nd rfl (Or.inl rfl) rfl (AE.caught (by rfl) (by decide +kernel) rfl (by decide +kernel) (by intro y hy; simp only [Wn,Wu,or_false] at hy; rcases hy with rfl <;> rfl)
   (by intro y hy e; simp only [Wn,Wu,or_false] at hy; rcases hy with rfl | rfl | rfl | rfl <;> first | exact ⟨_,rfl⟩ | cases e)) (fun σ _=>AK.of [none,some 2] rfl (by
   intro i j x h1 h2;match i,h1,h2 with
   | 0,_,h2=>cases h2
   | 1,h1,h2=>cases h1; cases h2; exact ⟨rfl,.inl rfl,.inl rfl⟩
   | n + 2,h1,_=>cases h1)) (AN K rfl (pv 3))
   (fun s2 H C fp=>⟨(Ai (i:=0) (show (["_law_one","_law_many"]:List Str).Nodup by decide +kernel) rfl (Or.inl rfl)),(CU (Ol GG Oy Ag (Ao (Ax K rfl) (by rfl) h_len PySem.boot_len (Aa (pv 0) Ad)) (pv 1))),(pv 0)⟩))
  (Af (Ap (i:=7) nd rfl (Or.inl rfl) F5)
  (Af (Bi PassesOwn.never rfl (AN K rfl (pv 6)) (Ai (i:=8) nd rfl (Or.inr rfl))
  (Af (Ap (i:=9) nd rfl (Or.inl rfl) (Ao (Eb K rfl rfl) (by rfl) h_max PyProof.Rows.boot_max (Aa (JM (fun x=>decide (x=("_law_place":Str))) (N:=["_law_place","_law_folk","_law_lengths_here","_law_one"]) (σ0:=fun σ=>[none,none,some 1,some 8].map fun j=>j.bind fun j=>(σ[j]?).join) rfl (CD.caught (by rfl) rfl (by decide +kernel) (by intro y hy; simp only [Wn,Wu,or_false] at hy; rcases hy with rfl | rfl <;> rfl) (by refine List.Pairwise.cons (fun y hy=>?_) (X1 _ _); rw [Wz.mp hy]; show @Ne Nat _ _; lia)
   (by intro y hy e; simp only [Wn,Wu,or_false] at hy; rcases hy with rfl | rfl | rfl | rfl | rfl | rfl <;> first | exact ⟨_,W7⟩ | exact ⟨_,WH _ W7⟩ | cases e)) (by intro x h; have h':=of_decide_eq_true h; subst h'; decide +kernel) (fun σ _=>AK.of [none,none,some 1,some 8] rfl (by
   intro i j x h1 h2;match i,h1,h2 with
   | 0,_,h2=>cases h2
   | 1,_,h2=>cases h2
   | 2,h1,h2=>cases h1; cases h2; exact ⟨rfl,.inl rfl,.inl rfl⟩
   | 3,h1,h2=>cases h1; cases h2; exact ⟨rfl,.inl rfl,.inl rfl⟩
   | n + 4,h1,_=>cases h1)) (by
   intro σ i x v h1 h2;match i,h1,h2 with
   | 0,_,h2=>cases h2
   | 1,_,h2=>cases h2
   | 2,h1,h2=>cases h1; decide +kernel
   | 3,h1,h2=>cases h1; decide +kernel
   | n + 4,h1,_=>cases h1) (Bb K rfl (AF (AL K rfl) (pv 0) Ag (fun _ _=>rfl)))
   (fun s2 H C fp=>⟨(Bv K rfl (n:=2) rfl (Am (Ai (i:=0) (show (["_law_place","_law_folk","_law_lengths_here","_law_one"]:List Str).Nodup by decide +kernel) rfl (Or.inr rfl) (.inl (by dsimp only; exact decide_eq_true rfl))) (Am (Ai (i:=1) (show (["_law_place","_law_folk","_law_lengths_here","_law_one"]:List Str).Nodup by decide +kernel) rfl (Or.inl rfl)) Bu))),Bh,(Ao (Dk rfl) (by rfl) h_min PyProof.Rows.boot_min (Aa (Bz (N:=["_law_site","_law_place","_law_lengths_here"]) (σ0:=fun σ=>[none,some 0,some 2].map fun j=>j.bind fun j=>(σ[j]?).join) rfl (AE.caught (by rfl) (by decide +kernel) rfl (by decide +kernel) (by intro y hy; simp only [Wn,Wu,or_false] at hy; rcases hy with rfl | rfl <;> rfl)
   (by intro y hy e; simp only [Wn,Wu,or_false] at hy; rcases hy with rfl | rfl | rfl | rfl <;> first | exact ⟨_,rfl⟩ | cases e)) (fun σ _=>AK.of [none,some 0,some 2] rfl (by
   intro i j x h1 h2;match i,h1,h2 with
   | 0,_,h2=>cases h2
   | 1,h1,h2=>cases h1; cases h2; exact ⟨rfl,.inl rfl,.inl rfl⟩
   | 2,h1,h2=>cases h1; cases h2; exact ⟨rfl,.inl rfl,.inl rfl⟩
   | n + 3,h1,_=>cases h1)) (AN K rfl (pv 3))
   (fun s2 H C fp=>⟨(Ai (i:=0) (show (["_law_site","_law_place","_law_lengths_here"]:List Str).Nodup by decide +kernel) rfl (Or.inl rfl)),Bh,(Bj hu (pv 2) (AQ (Aa (pv 0) (Aa (pv 1) Ad))) (fun _ _=>rfl))⟩)) Ad))⟩)) Ad)))
  (Ak (CK (Og (EA (KA (pv 7))) (K7 (Bt GG (pv 9) (pv 7) (B9 _)))).pt
  (Ak (Ap (i:=7) nd rfl (Or.inl rfl) (pv 9)))
  BC))))
  (Ak (AM (AQ (Aa (pv 7) (Aa (Aj GCR (hr.mono (by decide)) (by rfl) XCR.mg XCR.F.kp XCR.b .nil Ar (Aa (pv 0) (Aa (Aj GSD (hr.mono (by decide)) (by rfl) XSD.mg XSD.F.kp XSD.b .nil Ar (Aa (pv 0) (Aa (pv 1) (Aa (pv 7) Ad)))) Ad))) Ad)))))))))),?_⟩
  obtain ⟨t1,t2,De,HU,hc,Eu,Gd,DY,hd2⟩:=cs.ex;have Rg:=B8 Gd;have Rf:=B8 hd2;have l6:=cs.l1;have l8:=cs.l2;have one2:=cs.ok2.one;have O3:=cs.ok1.one;have TK:∀ s ∈ A9.map (·.1),s ∈ xs:=fun s hs=>by
   obtain ⟨r,OO,rfl⟩:=W4.mp hs;exact cs.ok1.sub r OO
  refine ⟨(by show 0<=sizeLine; lia),fun L0 Ss=>⟨(by show 1<=sizeLine; lia),fun F0 Sv=>?_⟩⟩;have s0:=(Ac (o:=.lst []) Ss).trans (Ac (o:=.lst [.ref L0]) Sv);have hFF:(upd (upd H L0 (.lst [])) F0 (.lst [.ref L0])) F0=some (.lst [.ref L0]):=Ab;have Tv:Mh (upd (upd H L0 (.lst [])) F0 (.lst [.ref L0])) [.ref L0] []:=⟨DC.one (ys:=[]) (Ac Sv _ _ Ab) (List.Sublist.refl _),fun zs z=>⟨L0,W7,by rw [X3.mp z]; exact Ac Sv _ _ Ab⟩⟩
  generalize upd (upd H L0 (.lst [])) F0 (.lst [.ref L0])=H1 at s0 hFF Tv;exists _,rfl,c,_,_,_,rfl,rfl,AG.of (s0 _ _ hc),rfl,t1,rfl,⟨_,AG.of (s0 _ _ Eu)⟩
  refine C7 (xs:=De) (fun i σ H'=>∃ (F:Addr) (us:List V) (v3 v4:Option V),σ=[some (.ref c),some (.ref A0),some (.int many),some (.ref F),v3,v4,none,none,none,none]/\Au H H'/\H' F=some (.lst us)/\Mh H' us ((A9.map (·.1)).take i)/\us.length=2 ^ i)
   ⟨F0,_,_,_,rfl,s0,hFF,by rw [Z1]; exact Tv,rfl⟩ (fun i σ H' _ ⟨_,_,_,_,_,sa,_⟩=>AG.of (sa _ _ Eu)) ?_ ?_
  ·rintro i v σ H' hv ⟨F,us,v3,v4,rfl,sa,hF,sl,ul⟩ rt bk NN hNN;obtain ⟨r,t,er,rfl,ht⟩:=BS Gd hv;have Tj:(A9.map (·.1))[i]? = some r.1:=by rw [Wy,er]; rfl
   have hi:=(Wt.mp er).1;have p2:2 ^ i<=1024:=WJ (Xx (by decide) (show i<=10 by lia)) (by decide);have tk:(A9.map (·.1)).take (i + 1)=(A9.map (·.1)).take i ++ [r.1]:=by rw [W5,Tj]; rfl
   exists t,_,rfl,AG.of (sa _ _ ht),rfl,_,_,rfl,_,_,rfl,rfl;exists _,rfl,_,rfl,F,rfl,⟨_,AD.of hF⟩
   refine BG Bf (xs:=us) (fun D j Aq H2 acc=>∃ v0:Option V,Aq=[v0,some (.str r.1)]/\Au H' H2/\H2 D=some (.lst acc)/\(∀ u ∈ acc,u ≠ .ref D)/\DC H2 acc ((A9.map (·.1)).take (i + 1))/\acc.length=j/\∀ (j':Nat) l ys,j' < j->us[j']? = some (.ref l)->H' l=some (.lst (ys.map V.str))->∃ N,V.ref N ∈ acc/\H2 N=some (.lst ((ys ++ [r.1]).map V.str)))
    (by lia) (fun D hD=>⟨_,rfl,Ac hD,Ab,(fun u hu=>nomatch hu),(fun u hu=>nomatch hu),rfl,fun j' l ys z=>absurd z (Xl _)⟩)
    (fun D j Aq H2 acc hD ⟨v0,_,sb,Bd,_,_,al,_⟩=>⟨AD.of (sb _ _ hF),Bd,al⟩) ?_ ?_
   ·rintro D j Aq H2 acc x' B hD ex ⟨v0,rfl,sb,Bd,nD,F3,al,all2⟩ hB;obtain ⟨l,ys,rfl,hl,su⟩:=sl.1 x' (Wo ex);have OQ:=sb _ _ hl;have yl:ys.length<=10:=by
     have:=su.length_le;rw [WW,Wj] at this;lia
    refine ⟨_,rfl,_,rfl,(by show 1<=sizeLine; lia),fun T hT=>⟨l,T,_,_,rfl,rfl,Ac hT _ _ OQ,Ab,by rw [Wj]; show ys.length + 1<=sizeLine; lia,fun N hN=>?_⟩⟩;have sN:=(Ac (o:=.lst [.str r.1]) hT).trans (Ac (o:=.lst (ys.map V.str ++ [.str r.1])) hN);have La:(upd (upd H2 T (.lst [.str r.1])) N (.lst (ys.map V.str ++ [.str r.1]))) N=some (.lst ((ys ++ [r.1]).map V.str)):=by rw [W3]; exact Ab
    have Gp:=sN _ _ Bd;have nND:N ≠ D:=fun z=>by
     rw [z] at hN;rw [Ac hT _ _ Bd] at hN;cases hN
    show B _ _ (upd (upd H2 T (.lst [.str r.1])) N (.lst (ys.map V.str ++ [.str r.1])))
    generalize upd (upd H2 T (.lst [.str r.1])) N (.lst (ys.map V.str ++ [.str r.1]))=H3 at sN La Gp;refine hB _ _ _ Gp ⟨_,rfl,fun b o z=>by rw [Ae (Ah z hD)]; exact sN _ _ (sb _ _ z),Ab,fun u hu=>?_,fun u hu=>?_,by rw [Ww,al]; rfl,fun j' l' Ef Dv e1 e2=>?_⟩
    ·rcases W9.mp hu with hu | hu
     ·exact nD u hu
     ·rw [Wz.mp hu];intro z;cases z
      exact nND rfl
    ·rcases W9.mp hu with hu | hu
     ·obtain ⟨l2,y2,e1,e2,e3⟩:=F3 u hu;refine ⟨l2,y2,e1,?_,e3⟩;rw [Ae (fun z=>nD u hu (by rw [e1,z]))];exact sN _ _ e2
     ·exists N,ys ++ [r.1],Wz.mp hu,by rw [Ae nND]; exact La
      rw [tk];exact su.append (List.Sublist.refl _)
    ·by_cases hj:j' < j
     ·obtain ⟨M,a1,a2⟩:=all2 j' l' Ef hj e1 e2;exact ⟨M,WN _ a1,by rw [Ae (fun z=>nD _ a1 (by rw [z]))]; exact sN _ _ a2⟩
     ·have:j'=j:=by lia
      subst this;rw [ex] at e1;cases e1
      rw [hl] at e2;have e3:Ef=ys:=(CH (HO.lst.inj (WA.inj e2))).symm;subst e3;exact ⟨N,Wx _ W7,by rw [Ae nND]; exact La⟩
   ·rintro D Aq H2 acc hD ⟨v0,rfl,sb,Bd,nD,F3,al,all2⟩;refine ⟨F,D,_,_,rfl,rfl,sb _ _ hF,Bd,by lia,fun F2 Su=>?_⟩;have s3:=sb.trans (Ac (o:=.lst (us ++ acc)) Su);refine hNN _ _ ⟨F2,us ++ acc,_,_,rfl,sa.trans s3,Ab,⟨?_,fun zs hz=>?_⟩,by rw [Ww,al,ul,Zf]; lia⟩
    ·refine DC.app ((sl.1.same s3).up ?_) (F3.same (Ac Su));rw [tk];exact YU _ _
    ·rw [tk] at hz;rcases JA hz with h | ⟨z',rfl,h⟩
     ·obtain ⟨l,a1,a2⟩:=sl.2 zs h;exact ⟨l,WN _ a1,s3 _ _ a2⟩
     ·obtain ⟨l,a1,a2⟩:=sl.2 z' h;obtain ⟨j',Dv,e⟩:=W2 a1;obtain ⟨N,b1,b2⟩:=all2 j' l z' Dv (by rw [Wk Dv,e]) a2;exact ⟨N,Wx _ b1,Ac Su _ _ b2⟩
  ·rintro σ H2 ⟨F,us,v3,v4,rfl,sa,hF,sl,ul⟩;rw [Rg,<-Wj (f:=(·.1)),WD] at sl;have p2:us.length<=1024:=by rw [ul,Rg]; exact WJ (Xx (by decide) l6) (by decide)
   exists _,rfl,F,rfl,⟨_,AD.of hF⟩
   refine BB Bf (xs:=us) (fun D j Aq H3 acc=>∃ v0:Option V,Aq=[v0,some (.int many)]/\Au H2 H3/\H3 D=some (.lst acc)/\(∀ v ∈ acc,∃ l ys,v=.ref l/\H2 l=some (.lst (ys.map V.str))/\PY (A9.map (·.1)) ys many)/\acc.length<=j/\∀ (j':Nat) l ys,j' < j->us[j']? = some (.ref l)->H2 l=some (.lst (ys.map V.str))->PY (A9.map (·.1)) ys many->V.ref l ∈ acc)
    (by lia) (fun D hD=>⟨_,rfl,Ac hD,Ab,(fun u hu=>nomatch hu),Wq _,fun j' l ys z=>absurd z (Xl _)⟩)
    (fun D j Aq H3 acc hD ⟨v0,_,sb,Bd,_,al,_⟩=>⟨AD.of (sb _ _ hF),Bd,al⟩) ?_ ?_
   ·rintro D j Aq H3 acc x' B N hD ex ⟨v0,rfl,sb,Bd,gd,al,Ju⟩ hB hN;obtain ⟨l,ys,rfl,hl,su⟩:=sl.1 x' (Wo ex);have same_ys:∀ {l' Ef},us[j]? = some (.ref l')->H2 l'=some (.lst (Ef.map V.str))->l'=l/\Ef=ys:=fun {l' Ef} e1 e2=>by
     rw [ex] at e1;cases e1
     rw [hl] at e2;exact ⟨rfl,(CH (HO.lst.inj (WA.inj e2))).symm⟩
    have yes:PY (A9.map (·.1)) ys many->B [some (.ref l),some (.int many)] (.ref l) H3:=fun fw=>by
     refine hB _ _ _ Bd ⟨_,rfl,fun b o' z=>by rw [Ae (Ah z hD)]; exact sb _ _ z,Ab,fun v hv=>?_,by rw [Ww,Xe]; lia,fun j' l' Ef Dv e1 e2 e3=>?_⟩
     ·rcases W9.mp hv with hv | hv
      ·exact gd v hv
      ·exact ⟨l,ys,Wz.mp hv,hl,fw⟩
     ·by_cases hj:j' < j
      ·exact WN _ (Ju j' l' Ef hj e1 e2 e3)
      ·have:j'=j:=by lia
       subst this;obtain ⟨rfl,rfl⟩:=same_ys e1 e2;exact Wx _ W7
    have no:¬ PY (A9.map (·.1)) ys many->N [some (.ref l),some (.int many)] H3:=fun nf=>by
     refine hN _ _ ⟨_,rfl,sb,Bd,gd,by lia,fun j' l' Ef Dv e1 e2 e3=>?_⟩;by_cases hj:j' < j
     ·exact Ju j' l' Ef hj e1 e2 e3
     ·have:j'=j:=by lia
      subst this;obtain ⟨rfl,rfl⟩:=same_ys e1 e2;exact absurd e3 nf
    exists _,rfl,l,_,rfl,.inl (AD.of (sb _ _ hl)),_,_,rfl,rfl,_,rfl;rw [Wj];refine Cf (fun z1=>?_) (fun z1=>?_)
    ·have z1':(0:Int) < (ys.length:Int):=of_decide_eq_true z1;have yne:ys ≠ []:=fun z=>by rw [z] at z1'; exact absurd z1' (by decide)
     exists _,rfl,_,_,rfl,rfl,_,rfl;refine Cf (fun z2=>?_) (fun z2=>?_)
     ·exact ⟨_,rfl,yes ⟨yne,su,of_decide_eq_true z2⟩⟩
     ·exact no fun f=>z2 (decide_eq_true f.2.2)
    ·exists _,rfl;refine Cf (fun z=>by simp at z) (fun _=>no fun f=>z1 (decide_eq_true ?_));have:=Xz.mpr f.1;lia
   rintro D Aq H3 acc hD ⟨v0,rfl,sb,Bd,gd,al,Ju⟩;have full:∀ ys,PY (A9.map (·.1)) ys many->∃ l,V.ref l ∈ acc/\H2 l=some (.lst (ys.map V.str)):=fun ys fw=>by
    obtain ⟨l,b1,b2⟩:=sl.2 ys fw.2.1;obtain ⟨j',Dv,ej⟩:=W2 b1;exact ⟨l,Ju j' l ys Dv (by rw [Wk Dv,ej]) b2 fw,b2⟩
   have sab:=sa.trans sb;exists _,rfl,D,rfl,⟨_,AD.of Bd⟩
   refine FD (xs:=acc) (fun i σ H'=>∃ (v8 v9:Option V) (lv:V),σ=[some (.ref c),some (.ref A0),some (.int many),some (.ref F),v3,v4,some (.ref D),some lv,v8,v9]/\Au H3 H'/\((i=0/\lv=.non)\/∃ le:Int,lv=.int le/\(∃ hs,PY (A9.map (·.1)) hs many/\Cq ws hs (AJ.map (·.1)) le)/\∀ (j:Nat) l ys u,j < i->acc[j]? = some (.ref l)->H2 l=some (.lst (ys.map V.str))->Cq ws ys (AJ.map (·.1)) u->le<=u))
    ⟨_,_,.non,rfl,Au.refl _,.inl ⟨rfl,rfl⟩⟩ (fun i σ H' _ ⟨_,_,_,_,sc,_⟩=>AD.of (sc _ _ Bd)) ?_ ?_
   ·rintro i v σ H' hv ⟨v8,v9,lv,rfl,sc,inv⟩ rt bk NN hNN;obtain ⟨l,ys,rfl,hl,fw⟩:=gd v (Wo hv);have yl:ys.length<=10:=by have:=fw.2.1.length_le; rw [Wj] at this; lia
    have sd:=sab.trans sc;have Ug:=sc _ _ (sb _ _ hl);exists _,rfl,c,_,_,_,rfl,rfl,AG.of (sd _ _ hc),rfl,t2,rfl,⟨_,AG.of (sd _ _ DY)⟩
    refine BG Dp (xs:=HU) (fun D2 j Aq H4 Cv=>∃ (w0 w1:Option V) (ms:List Int),Aq=[w0,w1,some (.ref A0),some (.ref l)]/\Au H' H4/\H4 D2=some (.lst Cv)/\Cv=ms.map V.int/\Cv.length=j/\∀ (j':Nat) y m,((AJ.map (·.1)).take j)[j']? = some y->ms[j']? = some m->Jw ws ys y m)
     (by lia) (fun D2 FC=>⟨_,_,[],rfl,Ac FC,Ab,rfl,rfl,fun j' y m e=>by simp at e⟩) (fun D2 j Aq H4 Cv FC ⟨_,_,ms,_,se,h2,_,J2,_⟩=>⟨AG.of (se _ _ (sd _ _ DY)),h2,J2⟩) ?_ ?_
    ·rintro D2 j Aq H4 Cv x2 B FC Ld ⟨w0,w1,ms,rfl,se,h2,rfl,J2,hm⟩ hB;obtain ⟨u,t,eu,rfl,ht⟩:=BS hd2 Ld;have ux:=cs.ok2.sub u (Wo eu);have Rt:(AJ.map (·.1))[j]? = some u.1:=by rw [Wy,eu]; rfl
     exists t,_,rfl,AG.of (se _ _ (sd _ _ ht)),rfl,_,_,rfl,_,_,rfl,rfl;exists _,rfl,l,rfl,⟨_,AD.of (se _ _ Ug)⟩
     refine BG Bf (xs:=ys.map V.str) (fun D3 k' Km H5 Ni=>∃ z0:Option V,Km=[z0,some (.str u.1),some (.ref A0)]/\Au H4 H5/\H5 D3=some (.lst Ni)/\Ni=((ys.take k').map fun s=>dst ws s u.1).map V.int/\Ni.length=k')
      (by rw [Wj]; lia) (fun D3 Gp=>⟨_,rfl,Ac Gp,Ab,rfl,rfl⟩) (fun D3 k' Km H5 Ni Gp ⟨z0,_,sf,h3,_,UX⟩=>⟨AD.of (sf _ _ (se _ _ Ug)),h3,UX⟩) ?_ ?_
     ·rintro D3 k' Km H5 Ni x3 B3 Gp ex3 ⟨z0,rfl,sf,h3,UT,UX⟩ hB3;obtain ⟨s',es,rfl⟩:=EW ex3;have sx:=TK s' (fw.2.1.subset (Wo es));refine ⟨_,rfl,_,rfl,_,rfl,(by show 2<=sizeLine; lia),fun T hT=>?_⟩;have sT:=Ac (o:=.tup [.str s',.str u.1]) hT;have g:=((((kn.same sd).same se).same sf).same sT).get (y:=s') (z:=u.1) (t:=T) sx ux Ab;have h3T:=sT _ _ h3;have sfT:=sf.trans sT;generalize upd H5 T (.tup [.str s',.str u.1])=H6 at sT g h3T sfT ⊢;exists A0,_,rfl,g.1;rw [Hj ws u.1 s'];refine hB3 _ _ _ h3T ⟨_,rfl,fun b o' z=>by rw [Ae (Ah z Gp)]; exact sfT _ _ z,Ab,?_,by rw [Ww,UX]; rfl⟩;rw [UT,W5,es,W3,W3];rfl
     ·rintro D3 Km H5 Ni Gp ⟨z0,rfl,sf,h3,UT,UX⟩;rw [Wj,WD] at UT;refine ⟨D3,ys.map fun s=>dst ws s u.1,rfl,by rw [h3,UT],fun z=>fw.1 (Y9.mp z),fun m' V7 Kq=>?_⟩;refine hB _ _ _ (sf _ _ h2) ⟨_,_,ms ++ [m'],rfl,fun b o' z=>by rw [Ae (Ah z FC)]; exact sf _ _ (se _ _ z),Ab,by rw [W3]; rfl,by rw [Ww,J2]; rfl,fun j' y m2 e1 e2=>?_⟩;rw [Wj] at J2;have tl:((AJ.map (·.1)).take j).length=j:=by rw [WW]; have:=(Wt.mp Rt).1; lia
      rw [W5,Rt] at e1;by_cases hj:j' < j
      ·rw [WS (by lia)] at e1;rw [WS (by lia)] at e2;exact hm j' y m2 e1 e2
      ·have PJ:=(Wt.mp e2).1;rw [Ww,Xe] at PJ;have:j'=j:=by lia
       subst this;rw [WQ (by lia),tl,XE] at e1;rw [WQ (by lia),J2,XE] at e2;cases e1
       cases e2
       exact O8 V7 Kq
    rintro D2 Aq H4 Cv FC ⟨w0,w1,ms,rfl,se,h2,rfl,J2,hm⟩;rw [Wj] at J2;have e:HU.length=(AJ.map (·.1)).length:=by rw [Wj]; exact Rf
    rw [e,WD] at hm;refine ⟨D2,ms,rfl,AD.of h2,fun z=>?_,fun w VP VO=>?_⟩
    ·rw [z] at J2;simp at J2;lia
    have wd:Cq ws ys (AJ.map (·.1)) w:=J5 (by lia) hm VP VO;have sce:=sc.trans se;have same_w:∀ {l' Ef u'},acc[i]? = some (.ref l')->H2 l'=some (.lst (Ef.map V.str))->Cq ws Ef (AJ.map (·.1)) u'->u'=w:=fun {l' Ef u'} e1 e2 e3=>by
     rw [hv] at e1;cases e1
     rw [hl] at e2;have:=CH (HO.lst.inj (WA.inj e2));subst this;exact e3.uniq wd
    rcases inv with ⟨rfl,rfl⟩ | ⟨le,rfl,ex0,lo⟩
    ·exists _,rfl,_,rfl;refine Cf (fun _=>?_) (fun z=>by simp at z);refine Cf (fun _=>?_) (fun z=>by simp at z);refine ⟨_,rfl,hNN _ _ ⟨_,_,.int w,rfl,sce,.inr ⟨w,rfl,⟨ys,fw,wd⟩,fun j l' Ef u' hj e1 e2 e3=>?_⟩⟩⟩;have:j=0:=by lia
     subst this;rw [same_w e1 e2 e3];exact Xk _
    ·exists _,rfl,_,rfl;refine Cf (fun z=>by simp at z) (fun _=>?_);exists _,rfl,_,rfl,_,_,rfl,rfl,_,rfl;refine Cf (fun z=>?_) (fun z=>?_)
     ·have z':w < le:=of_decide_eq_true z;refine ⟨_,rfl,hNN _ _ ⟨_,_,.int w,rfl,sce,.inr ⟨w,rfl,⟨ys,fw,wd⟩,fun j l' Ef u' hj e1 e2 e3=>?_⟩⟩⟩;by_cases PJ:j < i
      ·have:=lo j l' Ef u' PJ e1 e2 e3;lia
      ·have:j=i:=by lia
       subst this;rw [same_w e1 e2 e3];exact Xk _
     ·have z':¬ w < le:=fun q=>z (decide_eq_true q)
      refine hNN _ _ ⟨_,_,.int le,rfl,sce,.inr ⟨le,rfl,ex0,fun j l' Ef u' hj e1 e2 e3=>?_⟩⟩;by_cases PJ:j < i
      ·exact lo j l' Ef u' PJ e1 e2 e3
      ·have:j=i:=by lia
       subst this;rw [same_w e1 e2 e3];lia
   ·rintro σ H4 ⟨v8,v9,lv,rfl,sc,inv⟩;obtain ⟨r1,UC,OZ⟩:=YQ (fun z=>by rw [z] at O3; simp at O3:A9 ≠ []);have f1:PY (A9.map (·.1)) [r1.1] many:=⟨by simp,by rw [OZ,WG]; exact (YJ _).cons₂ _,m1⟩
    obtain ⟨l0,a0,b0⟩:=full _ f1;have apos:0 < acc.length:=Za a0;rcases inv with ⟨z,_⟩ | ⟨le,rfl,⟨hs,fw,wd⟩,lo⟩
    ·lia
    have least:EJ ws (A9.map (·.1)) (AJ.map (·.1)) many le:=by
     refine ⟨⟨hs,fw,wd⟩,fun ks u fk wk=>?_⟩;obtain ⟨l,b1,b2⟩:=full ks fk;obtain ⟨j',Dv,ej⟩:=W2 b1;exact lo j' l ks u Dv (by rw [Wk Dv,ej]) b2 wk
    have bnd:0<=le/\le < 2 ^ 300:=by
     obtain ⟨⟨y,hy,⟨s',J0,e'⟩,_⟩,_⟩:=wd;obtain ⟨r,OO,rfl⟩:=W4.mp hy;obtain ⟨M,cc,_,hM⟩:=kn;obtain ⟨nn,_,d1,d2,d3⟩:=hM s' (TK s' (fw.2.1.subset J0)) r.1 (cs.ok2.sub r OO);rw [e',d1.dst];exact ⟨d2,d3⟩
    have sad:=sab.trans sc;refine ⟨_,rfl,_,rfl,_,rfl,_,rfl,_,rfl,c,A0,m,le,n,xs,ws,A9,AJ,x,d,rfl,cs.same sad,kn.same sad,fun H5 S s5 fS sv=>?_⟩;have Pz:=sad.trans s5;refine ⟨c,S,m,le,n,xs,ws,A9,AJ,x,d,rfl,cs.same Pz,sv,fun H6 s6 non=>?_,fun H6 L ys s6 hL fc=>?_⟩
    ·exact absurd wd.covers (by rw [non hs fw.2.1]; simp)
    ·refine ⟨(by show 2<=sizeLine; lia),fun T hT=>?_⟩;have s7:=Ac (o:=.tup [.int le,.ref L]) hT;exact k _ T L le ys ((Pz.trans s6).trans s7) Ab (s7 _ _ hL) least fc bnd.1 bnd.2
end
section
variable {P:Program} {w:World} {K:Wm} {mg:Str->Option Value} {base:Heap}
theorem Jj (h_len:mg "len"=none) (h_min:mg "min"=none) {fCV:Addr} {fdCV:FuncData} (XCV:Fn K mg "_law_covers" CC ["_law_case_here","_law_served_here","_law_some_here"] fCV fdCV) (GCV:AH P w K mg base BJ 1 fCV fdCV ["_law_case_here","_law_served_here","_law_some_here"] (HY K)) {f:Addr} {fd:FuncData} (F:Ew K "_law_cover" "_law_cover" CT f fd):AH P w K mg base BJ 2 f fd ["_law_case_here","_law_served_here"] JG:=by
 refine F.ok Fd (fun vs H Q E h=>?_) (fun cdv A outer s H vs Q E hr h=>?_)
 ·obtain ⟨c,S,m,mo,n,xs,ws,A9,AJ,x,d,rfl,_⟩:=h;rfl
 ·obtain ⟨c,S,m,mo,n,xs,ws,A9,AJ,x,d,rfl,cs,sv,kn,ks⟩:=h;have nd:=Fd.nd;have hu:=Du hr;have Jn:=hr.units;have big:100000 < sizeLine:=by decide
  refine ⟨_,(Af (Ap (i:=2) nd rfl (Or.inl rfl) (Bq (Aa (Bq Ad) Ad)))
  (Af (Bi PassesOwn.never rfl (Bb K rfl (AF (AL K rfl) (pv 0) Ag (fun _ _=>rfl))) (Bv K rfl rfl (Am (Ai (i:=3) nd rfl (Or.inr rfl)) (Am (Ai (i:=4) nd rfl (Or.inl rfl)) Bu)))
  (Ak (Ap (i:=2) nd rfl (Or.inl rfl) (Av F6 (pv 2) (Bz (N:=["_law_one","_law_site"]) (σ0:=fun σ=>[none,some 3].map fun j=>j.bind fun j=>(σ[j]?).join) rfl (AE.caught (by rfl) (by decide +kernel) rfl (by decide +kernel) (by intro y hy; simp only [Wn,Wu,or_false] at hy; rcases hy with rfl <;> rfl)
   (by intro y hy e; simp only [Wn,Wu,or_false] at hy; rcases hy with rfl | rfl | rfl <;> first | exact ⟨_,rfl⟩ | cases e)) (fun σ _=>AK.of [none,some 3] rfl (by
   intro i j x h1 h2;match i,h1,h2 with
   | 0,_,h2=>cases h2
   | 1,h1,h2=>cases h1; cases h2; exact ⟨rfl,.inl rfl,.inl rfl⟩
   | n + 2,h1,_=>cases h1)) (AN K rfl (pv 2))
   (fun s2 H C fp=>⟨(Ai (i:=0) (show (["_law_one","_law_site"]:List Str).Nodup by decide +kernel) rfl (Or.inl rfl)),Bh,(Av F6 (pv 0) (Bq (Aa (pv 1) Ad)))⟩))))))
  (Af (Jb (ix:=5) (N:=["_law_one","_law_case_here","_law_served_here"]) (σ0:=fun σ=>[none,some 0,some 1].map fun j=>j.bind fun j=>(σ[j]?).join) nd rfl (Or.inl rfl) rfl (AE.caught (by rfl) (by decide +kernel) rfl (by decide +kernel) (by intro y hy; simp only [Wn,Wu,or_false] at hy; rcases hy with rfl | rfl <;> rfl)
   (by intro y hy e; simp only [Wn,Wu,or_false] at hy; rcases hy with rfl | rfl | rfl | rfl | rfl | rfl <;> first | exact ⟨_,rfl⟩ | cases e)) (fun σ _=>AK.of [none,some 0,some 1] rfl (by
   intro i j x h1 h2;match i,h1,h2 with
   | 0,_,h2=>cases h2
   | 1,h1,h2=>cases h1; cases h2; exact ⟨rfl,.inl rfl,.inl rfl⟩
   | 2,h1,h2=>cases h1; cases h2; exact ⟨rfl,.inl rfl,.inl rfl⟩
   | n + 3,h1,_=>cases h1)) (AN K rfl (pv 2))
   (fun s2 H C fp=>⟨(Ai (i:=0) (show (["_law_one","_law_case_here","_law_served_here"]:List Str).Nodup by decide +kernel) rfl (Or.inl rfl)),(CU (Oj (Aj GCV (hr.mono (by decide)) (by rfl) XCV.mg XCV.F.kp XCV.b .nil Ar (Aa (pv 1) (Aa (pv 2) (Aa (pv 0) Ad)))))),(AQ (Aa (Ao (Ax K rfl) (by rfl) h_len PySem.boot_len (Aa (pv 0) Ad)) (Aa (pv 0) Ad)))⟩))
  (Ak (AM (AF (AL K rfl) (Qs rfl Jn (by rfl) h_min (Aa (pv 5) Ad) (AQ (Aa Ag (Aa F5 Ad)))) Ag (fun _ _=>rfl))))))),?_⟩
  obtain ⟨t1,t2,De,HU,hc,Eu,Gd,DY,hd2⟩:=cs.ex;have Rg:=B8 Gd;have l6:=cs.l1;refine ⟨(by show 0<=sizeLine; lia),fun L0 Ss=>⟨(by show 1<=sizeLine; lia),fun F0 Sv=>?_⟩⟩;have s0:=(Ac (o:=.lst []) Ss).trans (Ac (o:=.lst [.ref L0]) Sv);have hFF:(upd (upd H L0 (.lst [])) F0 (.lst [.ref L0])) F0=some (.lst [.ref L0]):=Ab;have Tv:Mh (upd (upd H L0 (.lst [])) F0 (.lst [.ref L0])) [.ref L0] []:=⟨DC.one (ys:=[]) (Ac Sv _ _ Ab) (List.Sublist.refl _),fun zs z=>⟨L0,W7,by rw [X3.mp z]; exact Ac Sv _ _ Ab⟩⟩
  generalize upd (upd H L0 (.lst [])) F0 (.lst [.ref L0])=H1 at s0 hFF Tv;exists _,rfl,c,_,_,_,rfl,rfl,AG.of (s0 _ _ hc),rfl,t1,rfl,⟨_,AG.of (s0 _ _ Eu)⟩
  refine C7 (xs:=De) (fun i σ H'=>∃ (F:Addr) (us:List V) (v3 v4:Option V),σ=[some (.ref c),some (.ref S),some (.ref F),v3,v4,none]/\Au H H'/\H' F=some (.lst us)/\Mh H' us ((A9.map (·.1)).take i)/\us.length=2 ^ i)
   ⟨F0,_,_,_,rfl,s0,hFF,by rw [Z1]; exact Tv,rfl⟩ (fun i σ H' _ ⟨_,_,_,_,_,sa,_⟩=>AG.of (sa _ _ Eu)) ?_ ?_
  ·rintro i v σ H' hv ⟨F,us,v3,v4,rfl,sa,hF,sl,ul⟩ rt bk NN hNN;obtain ⟨r,t,er,rfl,ht⟩:=BS Gd hv;have Tj:(A9.map (·.1))[i]? = some r.1:=by rw [Wy,er]; rfl
   have hi:=(Wt.mp er).1;have p2:2 ^ i<=1024:=WJ (Xx (by decide) (show i<=10 by lia)) (by decide);have tk:(A9.map (·.1)).take (i + 1)=(A9.map (·.1)).take i ++ [r.1]:=by rw [W5,Tj]; rfl
   exists t,_,rfl,AG.of (sa _ _ ht),rfl,_,_,rfl,_,_,rfl,rfl;exists _,rfl,_,rfl,F,rfl,⟨_,AD.of hF⟩
   refine BG Bf (xs:=us) (fun D j Aq H2 acc=>∃ v0:Option V,Aq=[v0,some (.str r.1)]/\Au H' H2/\H2 D=some (.lst acc)/\(∀ u ∈ acc,u ≠ .ref D)/\DC H2 acc ((A9.map (·.1)).take (i + 1))/\acc.length=j/\∀ (j':Nat) l ys,j' < j->us[j']? = some (.ref l)->H' l=some (.lst (ys.map V.str))->∃ N,V.ref N ∈ acc/\H2 N=some (.lst ((ys ++ [r.1]).map V.str)))
    (by lia) (fun D hD=>⟨_,rfl,Ac hD,Ab,(fun u hu=>nomatch hu),(fun u hu=>nomatch hu),rfl,fun j' l ys z=>absurd z (Xl _)⟩)
    (fun D j Aq H2 acc hD ⟨v0,_,sb,Bd,_,_,al,_⟩=>⟨AD.of (sb _ _ hF),Bd,al⟩) ?_ ?_
   ·rintro D j Aq H2 acc x' B hD ex ⟨v0,rfl,sb,Bd,nD,F3,al,all2⟩ hB;obtain ⟨l,ys,rfl,hl,su⟩:=sl.1 x' (Wo ex);have OQ:=sb _ _ hl;have yl:ys.length<=10:=by
     have:=su.length_le;rw [WW,Wj] at this;lia
    refine ⟨_,rfl,_,rfl,(by show 1<=sizeLine; lia),fun T hT=>⟨l,T,_,_,rfl,rfl,Ac hT _ _ OQ,Ab,by rw [Wj]; show ys.length + 1<=sizeLine; lia,fun N hN=>?_⟩⟩;have sN:=(Ac (o:=.lst [.str r.1]) hT).trans (Ac (o:=.lst (ys.map V.str ++ [.str r.1])) hN);have La:(upd (upd H2 T (.lst [.str r.1])) N (.lst (ys.map V.str ++ [.str r.1]))) N=some (.lst ((ys ++ [r.1]).map V.str)):=by rw [W3]; exact Ab
    have Gp:=sN _ _ Bd;have nND:N ≠ D:=fun z=>by
     rw [z] at hN;rw [Ac hT _ _ Bd] at hN;cases hN
    show B _ _ (upd (upd H2 T (.lst [.str r.1])) N (.lst (ys.map V.str ++ [.str r.1])))
    generalize upd (upd H2 T (.lst [.str r.1])) N (.lst (ys.map V.str ++ [.str r.1]))=H3 at sN La Gp;refine hB _ _ _ Gp ⟨_,rfl,fun b o z=>by rw [Ae (Ah z hD)]; exact sN _ _ (sb _ _ z),Ab,fun u hu=>?_,fun u hu=>?_,by rw [Ww,al]; rfl,fun j' l' Ef Dv e1 e2=>?_⟩
    ·rcases W9.mp hu with hu | hu
     ·exact nD u hu
     ·rw [Wz.mp hu];intro z;cases z
      exact nND rfl
    ·rcases W9.mp hu with hu | hu
     ·obtain ⟨l2,y2,e1,e2,e3⟩:=F3 u hu;refine ⟨l2,y2,e1,?_,e3⟩;rw [Ae (fun z=>nD u hu (by rw [e1,z]))];exact sN _ _ e2
     ·exists N,ys ++ [r.1],Wz.mp hu,by rw [Ae nND]; exact La
      rw [tk];exact su.append (List.Sublist.refl _)
    ·by_cases hj:j' < j
     ·obtain ⟨M,a1,a2⟩:=all2 j' l' Ef hj e1 e2;exact ⟨M,WN _ a1,by rw [Ae (fun z=>nD _ a1 (by rw [z]))]; exact sN _ _ a2⟩
     ·have:j'=j:=by lia
      subst this;rw [ex] at e1;cases e1
      rw [hl] at e2;have e3:Ef=ys:=(CH (HO.lst.inj (WA.inj e2))).symm;subst e3;exact ⟨N,Wx _ W7,by rw [Ae nND]; exact La⟩
   ·rintro D Aq H2 acc hD ⟨v0,rfl,sb,Bd,nD,F3,al,all2⟩;refine ⟨F,D,_,_,rfl,rfl,sb _ _ hF,Bd,by lia,fun F2 Su=>?_⟩;have s3:=sb.trans (Ac (o:=.lst (us ++ acc)) Su);refine hNN _ _ ⟨F2,us ++ acc,_,_,rfl,sa.trans s3,Ab,⟨?_,fun zs hz=>?_⟩,by rw [Ww,al,ul,Zf]; lia⟩
    ·refine DC.app ((sl.1.same s3).up ?_) (F3.same (Ac Su));rw [tk];exact YU _ _
    ·rw [tk] at hz;rcases JA hz with h | ⟨z',rfl,h⟩
     ·obtain ⟨l,a1,a2⟩:=sl.2 zs h;exact ⟨l,WN _ a1,s3 _ _ a2⟩
     ·obtain ⟨l,a1,a2⟩:=sl.2 z' h;obtain ⟨j',Dv,e⟩:=W2 a1;obtain ⟨N,b1,b2⟩:=all2 j' l z' Dv (by rw [Wk Dv,e]) a2;exact ⟨N,Wx _ b1,Ac Su _ _ b2⟩
  ·rintro σ H2 ⟨F,us,v3,v4,rfl,sa,hF,sl,ul⟩;rw [Rg,<-Wj (f:=(·.1)),WD] at sl;have p2:us.length<=1024:=by rw [ul,Rg]; exact WJ (Xx (by decide) l6) (by decide)
   exists _,rfl,F,rfl,⟨_,AD.of hF⟩
   refine BB Bf (xs:=us) (fun D j Aq H3 acc=>∃ v0:Option V,Aq=[v0,some (.ref c),some (.ref S)]/\Au H2 H3/\H3 D=some (.lst acc)/\(∀ v ∈ acc,∃ t l ys,v=.ref t/\H3 t=some (.tup [.int (ys.length:Int),.ref l])/\H2 l=some (.lst (ys.map V.str))/\ys.Sublist (A9.map (·.1))/\B5 ws mo (AJ.map (·.1)) ys=true)/\acc.length<=j/\∀ (j':Nat) l ys,j' < j->us[j']? = some (.ref l)->H2 l=some (.lst (ys.map V.str))->B5 ws mo (AJ.map (·.1)) ys=true->∃ t,V.ref t ∈ acc/\H3 t=some (.tup [.int (ys.length:Int),.ref l]))
    (by lia) (fun D hD=>⟨_,rfl,Ac hD,Ab,(fun u hu=>nomatch hu),Wq _,fun j' l ys z=>absurd z (Xl _)⟩)
    (fun D j Aq H3 acc hD ⟨v0,_,sb,Bd,_,al,_⟩=>⟨AD.of (sb _ _ hF),Bd,al⟩) ?_ ?_
   ·rintro D j Aq H3 acc x' B N hD ex ⟨v0,rfl,sb,Bd,gd,al,Ju⟩ hB hN;obtain ⟨l,ys,rfl,hl,su⟩:=sl.1 x' (Wo ex);have yl:ys.length<=10:=by
     have:=su.length_le;rw [Wj] at this;lia
    have sab:=sa.trans sb;refine ⟨_,rfl,_,rfl,_,rfl,c,S,l,m,mo,n,xs,ys,ws,A9,AJ,x,d,rfl,cs.same sab,sv.same sab,AD.of (sb _ _ hl),fun y hy=>su.subset hy,by lia,fun H4 s4=>⟨_,rfl,?_⟩⟩;have sc:=sb.trans s4;have same_ys:∀ {l' Ef},us[j]? = some (.ref l')->H2 l'=some (.lst (Ef.map V.str))->l'=l/\Ef=ys:=fun {l' Ef} e1 e2=>by
     rw [ex] at e1;cases e1
     rw [hl] at e2;exact ⟨rfl,(CH (HO.lst.inj (WA.inj e2))).symm⟩
    refine Cf (fun hz=>?_) (fun hz=>?_)
    ·refine ⟨_,rfl,l,_,rfl,.inl (AD.of (sc _ _ hl)),_,rfl,(by show 2<=sizeLine; lia),fun T hT=>?_⟩;have s5:=Ac (o:=.tup [.int (ys.length:Int),.ref l]) hT;have HG:(upd H4 T (.tup [.int (ys.length:Int),.ref l])) T=some (.tup [.int (ys.length:Int),.ref l]):=Ab;have Nt:=s5 _ _ (s4 _ _ Bd);have sd:=sc.trans s5;have el:((ys.map V.str).length:Int)=(ys.length:Int):=by rw [Wj]
     show B _ _ (upd H4 T (.tup [.int ((ys.map V.str).length:Int),.ref l]))
     rw [el];generalize upd H4 T (.tup [.int (ys.length:Int),.ref l])=H5 at HG Nt sd s5;have U5:=s4.trans s5;have tD:∀ {t:Addr} {zs:List V},H5 t=some (.tup zs)->t ≠ D:=fun z=>Br z Nt (fun q=>by cases q)
     refine hB _ _ _ Nt ⟨_,rfl,fun b o z=>by rw [Ae (Ah z hD)]; exact sd _ _ z,Ab,fun v hv=>?_,by rw [Ww,Xe]; lia,fun j' l' Ef Dv e1 e2 e3=>?_⟩
     ·rcases W9.mp hv with hv | hv
      ·obtain ⟨t,l',Ef,a1,a2,a3,a4,a5⟩:=gd v hv;exact ⟨t,l',Ef,a1,by rw [Ae (tD (U5 _ _ a2))]; exact U5 _ _ a2,a3,a4,a5⟩
      ·exact ⟨T,l,ys,Wz.mp hv,by rw [Ae (tD HG)]; exact HG,hl,su,hz⟩
     ·by_cases hj:j' < j
      ·obtain ⟨t,a1,a2⟩:=Ju j' l' Ef hj e1 e2 e3;exact ⟨t,WN _ a1,by rw [Ae (tD (U5 _ _ a2))]; exact U5 _ _ a2⟩
      ·have:j'=j:=by lia
       subst this;obtain ⟨rfl,rfl⟩:=same_ys e1 e2;exact ⟨T,Wx _ W7,by rw [Ae (tD HG)]; exact HG⟩
    ·refine hN _ _ ⟨_,rfl,sc,s4 _ _ Bd,fun v hv=>?_,by lia,fun j' l' Ef Dv e1 e2 e3=>?_⟩
     ·obtain ⟨t,l',Ef,a1,a2,a3⟩:=gd v hv;exact ⟨t,l',Ef,a1,s4 _ _ a2,a3⟩
     ·by_cases hj:j' < j
      ·obtain ⟨t,a1,a2⟩:=Ju j' l' Ef hj e1 e2 e3;exact ⟨t,a1,s4 _ _ a2⟩
      ·have:j'=j:=by lia
       subst this;obtain ⟨rfl,rfl⟩:=same_ys e1 e2;exact absurd e3 hz
   ·rintro D Aq H3 acc hD ⟨v0,rfl,sb,Bd,gd,al,Ju⟩;refine ⟨_,rfl,(by show 2<=sizeLine; lia),fun T0 VD=>?_⟩;have s4:=Ac (o:=.tup [.int 0,.non]) VD;have HG:(upd H3 T0 (.tup [.int 0,.non])) T0=some (.tup [.int 0,.non]):=Ab;generalize upd H3 T0 (.tup [.int 0,.non])=H4 at HG s4;have OU:=s4 _ _ Bd;have Ve:=sb.trans s4;have sz:=sa.trans Ve;obtain ⟨kl,e1,e2,e3⟩:=Ie (R:=fun v (k:Int × List Str)=>Tp H4 v k/\k.1=(k.2.length:Int)/\k.2.Sublist (A9.map (·.1))/\B5 ws mo (AJ.map (·.1)) k.2=true) acc fun v hv=>by
     obtain ⟨t,l,ys,a1,a2,a3,a4,a5⟩:=gd v hv;exact ⟨((ys.length:Int),ys),⟨t,l,a1,s4 _ _ a2,Ve _ _ a3⟩,rfl,a4,a5⟩
    have full:∀ zs,zs.Sublist (A9.map (·.1))->B5 ws mo (AJ.map (·.1)) zs=true->((zs.length:Int),zs) ∈ kl:=fun zs z1 z2=>by
     obtain ⟨l,b1,b2⟩:=sl.2 zs z1;obtain ⟨j',Dv,ej⟩:=W2 b1;obtain ⟨t,c1,c2⟩:=Ju j' l zs Dv (by rw [Wk Dv,ej]) b2 z2;obtain ⟨i,hi,ei⟩:=W2 c1;have ik:i < kl.length:=by lia
     obtain ⟨⟨t',l',d1,d2,d3⟩,d4,_⟩:=e2 i _ kl[i] (by rw [Wk hi,ei]) (Wk ik);cases d1
     rw [s4 _ _ c2] at d2;injection d2 with d2;injection d2 with d2;have UC:l=l':=by injection d2 with _ d2; injection d2 with d2; injection d2
     rw [<-UC,Ve _ _ b2] at d3;have e5:zs=(kl[i]).2:=CH (HO.lst.inj (WA.inj d3));have:kl[i]=((zs.length:Int),zs):=Prod.ext (by rw [d4,<-e5]) e5.symm;rw [<-this];exact Xb ik
    refine ⟨_,rfl,D,acc,kl,rfl,OU,e1,fun i v k h1 h2=>(e2 i v k h1 h2).1,fun z=>⟨T0,_,_,.non,rfl,rfl,AG.of HG,rfl,kn _ sz fun zs z1=>?_⟩,fun v k hk hv mn=>?_⟩
    ·cases q:B5 ws mo (AJ.map (·.1)) zs with
     | false=>rfl
     | true=>
      have:=full zs z1 q;rw [z] at this;cases this
    ·obtain ⟨t,l,rfl,ht,hl⟩:=hv;obtain ⟨_,_,_,d4,d5,d6⟩:=e3 k hk;have ek:k=((k.2.length:Int),k.2):=Prod.ext d4 rfl;refine ⟨t,_,_,.ref l,rfl,rfl,AG.of ht,rfl,ks _ l k.2 sz hl ⟨d5,d6,fun zs z1 z2=>?_⟩⟩;rw [<-ek];exact mn _ (full zs z1 z2)
end
section
variable {P:Program} {w:World} {K:Wm} {mg:Str->Option Value} {base:Heap}
theorem Ji {P0:Addr} (h_min:mg "min"=none) {fSF:Addr} {fdSF:FuncData} (XSF:Fn K mg "site_fars" C5 ["case"] fSF fdSF) (GSF:AH P w K mg base BJ 4 fSF fdSF ["case"] E8) {fOP:Addr} {fdOP:FuncData} (XOP:Fn K mg "openings" CI ["case"] fOP fdOP) (GOP:AH P w K mg base BJ 2 fOP fdOP ["case"] NW) {fWW:Addr} {fdWW:FuncData} (XWW:Fn K mg "worst_way" CP ["aways","folk","houses"] fWW fdWW) (GWW:AH P w K mg base BJ 1 fWW fdWW ["aways","folk","houses"] Lv) {fSW:Addr} {fdSW:FuncData} (XSW:Fn K mg "served_within" Cc ["case","far"] fSW fdSW) (GSW:AH P w K mg base BJ 5 fSW fdSW ["case","far"] HW) {fFC:Addr} {fdFC:FuncData} (XFC:Fn K mg "first_cover" C0 ["case","served"] fFC fdFC) (GFC:AH P w K mg base BJ 4 fFC fdFC ["case","served"] (JF P0 (⟨61,32,61,68⟩:Pos) (("first_cover":Str) ++ ".<locals>." ++ "<lambda>"))) {f:Addr} {fd:FuncData} (F:Ew K "least_far" "least_far" CS f fd):AH P w K mg base BJ 6 f fd ["case","many"] (JE P0 (⟨61,32,61,68⟩:Pos) (("first_cover":Str) ++ ".<locals>." ++ "<lambda>")):=by
 refine F.ok Fb (fun vs H Q E h=>?_) (fun cdv A outer s H vs Q E hr h=>?_)
 ·obtain ⟨c,m,many,n,xs,ws,A9,AJ,x,d,rfl,_⟩:=h;rfl
 ·obtain ⟨c,m,many,n,xs,ws,A9,AJ,x,d,rfl,cs,m1,m2,L,k⟩:=h;have nd:=Fb.nd;have big:100000 < sizeLine:=by decide
  refine ⟨_,(Af (DU (pv 0) (Bv K rfl rfl (Am (Ai (i:=2) nd rfl (Or.inl rfl)) (Am (Ai (i:=3) nd rfl (Or.inl rfl)) (Am (Ai (i:=4) nd rfl (Or.inr rfl)) (Am (Ai (i:=5) nd rfl (Or.inl rfl)) Bu))))))
  (Af (Ap (i:=6) nd rfl (Or.inr rfl) (Aj GSF (hr.mono (by decide)) (by rfl) XSF.mg XSF.F.kp XSF.b .nil Ar (Aa (pv 0) Ad)))
  (Af (Ap (i:=7) nd rfl (Or.inl rfl) (Ao (Dk rfl) (by rfl) h_min PyProof.Rows.boot_min (Aa (Bz (N:=["houses","folk","aways"]) (σ0:=fun σ=>[none,some 4,some 6].map fun j=>j.bind fun j=>(σ[j]?).join) rfl (AE.caught (by rfl) (by decide +kernel) rfl (by decide +kernel) (by intro y hy; simp only [Wn,Wu,or_false] at hy; rcases hy with rfl | rfl <;> rfl)
   (by intro y hy e; simp only [Wn,Wu,or_false] at hy; rcases hy with rfl | rfl | rfl | rfl | rfl <;> first | exact ⟨_,rfl⟩ | cases e)) (fun σ _=>AK.of [none,some 4,some 6] rfl (by
   intro i j x h1 h2;match i,h1,h2 with
   | 0,_,h2=>cases h2
   | 1,h1,h2=>cases h1; cases h2; exact ⟨rfl,.inl rfl,.inl rfl⟩
   | 2,h1,h2=>cases h1; cases h2; exact ⟨rfl,.inl rfl,.inl rfl⟩
   | n + 3,h1,_=>cases h1)) (AN K rfl (Aj GOP (hr.mono (by decide)) (by rfl) XOP.mg XOP.F.kp XOP.b .nil Ar (Aa (AQ (Aa (pv 2) (Aa (pv 3) (Aa (pv 4) (Aa (pv 1) Ad))))) Ad)))
   (fun s2 H C fp=>⟨(Ai (i:=0) (show (["houses","folk","aways"]:List Str).Nodup by decide +kernel) rfl (Or.inl rfl)),Bh,(Aj GWW (hr.mono (by decide)) (by rfl) XWW.mg XWW.F.kp XWW.b .nil Ar (Aa (pv 2) (Aa (pv 1) (Aa (pv 0) Ad))))⟩)) Ad)))
  (Ak (AM (AQ (Aa (pv 7) (Aa (Aj GFC (hr.mono (by decide)) (by rfl) XFC.mg XFC.F.kp XFC.b .nil Ar (Aa (pv 0) (Aa (Aj GSW (hr.mono (by decide)) (by rfl) XSW.mg XSW.F.kp XSW.b .nil Ar (Aa (pv 0) (Aa (pv 7) Ad))) Ad))) Ad)))))))),?_⟩
  obtain ⟨t1,t2,De,HU,hc,Eu,Gd,DY,hd2⟩:=cs.ex;have sn:=cs.ok1.nd;have l1:=cs.l1;have l2:=cs.l2;exists _,rfl,c,_,rfl,AG.of hc,rfl,_,_,rfl,_,_,rfl,_,_,rfl,_,_,rfl,rfl;refine ⟨_,rfl,c,m,n,xs,ws,A9,AJ,x,d,rfl,cs,fun H1 AW nvA s1 fA hA nkA nfA=>?_⟩;refine ⟨_,rfl,_,rfl,_,rfl,_,rfl,(by show 4<=sizeLine; lia),fun c2 HF=>?_⟩;have s2:=s1.trans (Ac (o:=.tup [.ref m,.ref t1,.ref t2,.int many]) HF);have sA:=Ac (o:=.tup [.ref m,.ref t1,.ref t2,.int many]) HF;have hcc:(upd H1 c2 (.tup [.ref m,.ref t1,.ref t2,.int many])) c2=some (.tup [.ref m,.ref t1,.ref t2,.int many]):=Ab;generalize upd H1 c2 (.tup [.ref m,.ref t1,.ref t2,.int many])=H2 at s2 sA hcc ⊢;have aw2:IK H2 AW xs ws (A9.map (·.1)):=IK.same ⟨nvA,hA,nkA,nfA⟩ sA;refine ⟨c2,A9.map (·.1),.int many,.int many,rfl,⟨_,_,t1,De,A9,hcc,s2 _ _ Eu,Bc Gd (fun b ys z=>s2 _ _ z),rfl,sn,by rw [Wj]; exact l1,.inr ⟨many,rfl,rfl,m1,m2⟩⟩,fun H3 EV us os s3 fE hE tU op ol=>?_⟩;have ul:=tU.len;have SU:=s2.trans s3;have few:∀ g,g ∈ os ↔ PY (A9.map (·.1)) g many:=fun g=>by
   rw [op.2.2 g];exact ⟨fun h=>⟨h.1,h.2.1,of_decide_eq_true h.2.2⟩,fun h=>⟨h.1,h.2.1,decide_eq_true h.2.2⟩⟩
  have O3:=cs.ok1.one;have one:os ≠ []:=op.ne (d:=.int many) (fun z=>by have:=congrArg XI z; rw [Wj] at this; simp at this; rw [this] at O3; simp at O3) (.inr ⟨many,rfl,rfl,m1,m2⟩);exists EV,rfl,⟨_,AD.of hE⟩
  refine BG Bf (xs:=us) (fun D i σ H' acc=>∃ (v0:Option V) (ms:List Int),σ=[v0,some (.ref t2),some (.ref AW)]/\Au H3 H'/\H' D=some (.lst acc)/\acc=ms.map V.int/\acc.length=i/\∀ (j:Nat) g w,(os.take i)[j]? = some g->ms[j]? = some w->Cq ws g (AJ.map (·.1)) w)
   (by lia) (fun D hD=>⟨_,[],rfl,Ac hD,Ab,rfl,rfl,fun j g w e=>by simp at e⟩) (fun D i σ H' acc hD ⟨_,ms,_,sa,Bd,_,al,_⟩=>⟨AD.of (sa _ _ hE),Bd,al⟩) ?_ ?_
  ·rintro D i σ H' acc x' B hD ex ⟨v0,ms,rfl,sa,Bd,rfl,al,hm⟩ hB;obtain ⟨o,g,rfl,eg,ho⟩:=tU.get ex;obtain ⟨g1,g2,g3⟩:=(few g).mp (Wo eg);have gl:g.length<=10:=by have:=g2.length_le; rw [Wj] at this; lia
   have sb:=SU.trans sa;refine ⟨_,rfl,_,rfl,_,rfl,AW,t2,o,HU,xs,ws,A9.map (·.1),g,AJ,rfl,(aw2.same s3).same sa,sn,sb _ _ DY,Bc hd2 (fun b ys z=>sb _ _ z),cs.ok2,l2,cs.map.at'.nd,sa _ _ ho,g1,fun y hy=>g2.subset hy,by lia,fun H4 w s4 wd=>?_⟩;refine hB _ _ _ (s4 _ _ Bd) ⟨_,ms ++ [w],rfl,fun b o' z=>by rw [Ae (Ah z hD)]; exact s4 _ _ (sa _ _ z),Ab,by rw [W3]; rfl,by rw [Ww,al]; rfl,fun j g' w' e1 e2=>?_⟩;rw [Wj] at al;have tl:(os.take i).length=i:=by rw [WW]; have:=(Wt.mp eg).1; lia
   rw [W5,eg] at e1;by_cases hj:j < i
   ·rw [WS (by lia)] at e1;rw [WS (by lia)] at e2;exact hm j g' w' e1 e2
   ·have PJ:=(Wt.mp e2).1;rw [Ww,Xe] at PJ;have:j=i:=by lia
    subst this;rw [WQ (by lia),tl,XE] at e1;rw [WQ (by lia),al,XE] at e2;cases e1
    cases e2
    exact wd
  ·rintro D σ H4 acc hD ⟨v0,ms,rfl,sa,Bd,rfl,al,hm⟩;rw [Wj] at al;rw [ul,WD] at hm;refine ⟨D,ms,rfl,Bd,fun z=>?_,fun v h1 h2=>?_⟩
   ·rw [z] at al;exact one (X4.mp (by rw [<-ul,<-al]; rfl))
   have s14:=SU.trans sa;obtain ⟨i,hi,ei⟩:=W2 h1;have io:i < os.length:=by lia
   have w0:=hm i os[i] v (Wk io) (by rw [Wk hi,ei]);have f0:=(few os[i]).mp (Xb io);have least:EJ ws (A9.map (·.1)) (AJ.map (·.1)) many v:=by
    refine ⟨⟨_,f0,w0⟩,fun hs u f1 w1=>?_⟩;obtain ⟨j,hj,ej⟩:=W2 ((few hs).mpr f1);have jm:j < ms.length:=by lia
    have w2:=hm j hs ms[j] (by rw [Wk hj,ej]) (Wk jm);rw [w1.uniq w2];exact h2 _ (Xb jm)
   refine ⟨_,rfl,_,rfl,_,rfl,_,rfl,c,m,v,n,xs,ws,A9,AJ,x,d,rfl,cs.same s14,fun H5 S s5 fS wi=>?_⟩;have Pz:=s14.trans s5;refine ⟨c,S,m,v,n,xs,ws,A9,AJ,x,d,rfl,cs.same Pz,wi,⟨_,f0.2.1,w0.covers⟩,L.same Pz,fun H6 Lc ys k6 L6 fL hL fc=>?_⟩;refine ⟨(by show 2<=sizeLine; lia),fun T hT=>?_⟩;have s7:=Ac (o:=.tup [.int v,.ref Lc]) hT;exact k _ T Lc v ys (fun b o nb e=>s7 _ _ (k6 _ _ nb (Pz _ _ e))) (L6.same s7) (Pz.free0 fL) Ab (s7 _ _ hL) least fc
end
section
variable {P:Program} {w:World} {K:Wm} {mg:Str->Option Value} {base:Heap}
theorem GK (h_list:mg "list"=none) (h_len:mg "len"=none) (h_min:mg "min"=none) {fOP:Addr} {fdOP:FuncData} (XOP:Fn K mg "openings" CI ["case"] fOP fdOP) (GOP:AH P w K mg base BJ 2 fOP fdOP ["case"] NW) {fSV:Addr} {fdSV:FuncData} (XSV:Fn K mg "serve_all" CQ ["served","sites"] fSV fdSV) (GSV:AH P w K mg base BJ 1 fSV fdSV ["served","sites"] JD) {f:Addr} {fd:FuncData} {cT P0:Addr} (F:Np K "first_cover" "first_cover" C0 f fd cT P0) (bm:BM mg base):AH P w K mg base BJ 4 f fd ["case","served"] (JF P0 (⟨61,32,61,68⟩:Pos) (("first_cover":Str) ++ ".<locals>." ++ "<lambda>")):=by
 refine F.ok DT (fun vs H Q E h=>?_) (fun A outer s H vs Q E hr h=>?_)
 ·obtain ⟨c,S,m,mo,n,xs,ws,A9,AJ,x,d,rfl,_⟩:=h;rfl
 ·obtain ⟨c,S,m,mo,n,xs,ws,A9,AJ,x,d,rfl,cs,wi,cov,L,k⟩:=h;have nd:=DT.nd;have big:100000 < sizeLine:=by decide
  refine ⟨_,(Af (DU (pv 0) (Bv K rfl rfl (Am (Ai (i:=2) nd rfl (Or.inl rfl)) (Am (Ai (i:=3) nd rfl (Or.inl rfl)) (Am (Ai (i:=4) nd rfl (Or.inl rfl)) (Am (Ai (i:=5) nd rfl (Or.inl rfl)) Bu))))))
  (Af (Jb (ix:=6) (N:=["houses","served"]) (σ0:=fun σ=>[none,some 1].map fun j=>j.bind fun j=>(σ[j]?).join) nd rfl (Or.inl rfl) rfl (AE.caught (by rfl) (by decide +kernel) rfl (by decide +kernel) (by intro y hy; simp only [Wn,Wu,or_false] at hy; rcases hy with rfl <;> rfl)
   (by intro y hy e; simp only [Wn,Wu,or_false] at hy; rcases hy with rfl | rfl | rfl | rfl <;> first | exact ⟨_,rfl⟩ | cases e)) (fun σ _=>AK.of [none,some 1] rfl (by
   intro i j x h1 h2;match i,h1,h2 with
   | 0,_,h2=>cases h2
   | 1,h1,h2=>cases h1; cases h2; exact ⟨rfl,.inl rfl,.inl rfl⟩
   | n + 2,h1,_=>cases h1)) (AN K rfl (Aj GOP (hr.mono (by decide)) (by rfl) XOP.mg XOP.F.kp XOP.b .nil Ar (Aa (AQ (Aa (pv 2) (Aa (pv 3) (Aa (pv 4) (Aa F5 Ad))))) Ad)))
   (fun s2 H C fp=>⟨(Ai (i:=0) (show (["houses","served"]:List Str).Nodup by decide +kernel) rfl (Or.inl rfl)),(CU (Oj (Aj GSV (hr.mono (by decide)) (by rfl) XSV.mg XSV.F.kp XSV.b .nil Ar (Aa (pv 1) (Aa (pv 0) Ad))))),(pv 0)⟩))
  (Af (CK (RP (G7 (pv 6) (fun _=>rfl)))
  Mz
  BC)
  (Ak (AM (AX Fw (by rfl) h_list PyProof.Rows.boot_list (Aa (Qr (k:=0) (y:="houses") (hr.mono (by decide)) rfl (by rfl) h_min (Aa (pv 6) Ad) rfl F.hd bm rfl ⟨rfl,rfl,rfl,by decide +kernel,rfl,by decide +kernel,by decide +kernel⟩ (fun _ _ _ _=>rfl) (fun A outer s H f c=>AQ (Aa (Ao (Ax K rfl) (by rfl) h_len PySem.boot_len (Aa (pv 0) Ad)) (Aa (pv 0) Ad)))) Ad))))))),?_⟩
  obtain ⟨t1,t2,De,HU,hc,Eu,Gd,DY,hd2⟩:=cs.ex;have sn:=cs.ok1.nd;have l1:=cs.l1;have l2:=cs.l2;exists _,rfl,c,_,rfl,AG.of hc,rfl,_,_,rfl,_,_,rfl,_,_,rfl,_,_,rfl,rfl;refine ⟨_,rfl,_,rfl,_,rfl,(by show 4<=sizeLine; lia),fun c2 HF=>?_⟩;have s1:=Ac (o:=.tup [.ref m,.ref t1,.ref t2,.non]) HF;have hcc:(upd H c2 (.tup [.ref m,.ref t1,.ref t2,.non])) c2=some (.tup [.ref m,.ref t1,.ref t2,.non]):=Ab;generalize upd H c2 (.tup [.ref m,.ref t1,.ref t2,.non])=H1 at s1 hcc ⊢;refine ⟨c2,A9.map (·.1),.non,.none,rfl,⟨_,_,t1,De,A9,hcc,s1 _ _ Eu,Bc Gd (fun b ys z=>s1 _ _ z),rfl,sn,by rw [Wj]; exact l1,.inl ⟨rfl,rfl⟩⟩,fun H2 EV us os s2 fE hE tU op ol=>?_⟩;have ul:=tU.len;have s12:=s1.trans s2;exists EV,rfl,⟨_,AD.of hE⟩
  have qnd:=cs.ok2.nd;refine BB Bf (xs:=us) (fun D i σ H' acc=>∃ (v0:Option V) (fs:List (List Str)),σ=[v0,some (.ref S)]/\Au H2 H'/\H' D=some (.lst acc)/\Cr H' acc fs/\acc.length<=i/\(∀ g,g ∈ fs ↔ g ∈ os.take i/\B5 ws mo (AJ.map (·.1)) g=true))
   (by lia) (fun D hD=>⟨_,[],rfl,Ac hD,Ab,.nil,Wq _,fun g=>by simp⟩) (fun D i σ H' acc hD ⟨_,fs,_,sa,Bd,_,al,_⟩=>⟨AD.of (sa _ _ hE),Bd,al⟩) ?_ ?_
  ·rintro D i σ H' acc x' B N hD ex ⟨v0,fs,rfl,sa,Bd,tp,al,fo⟩ hB hN;obtain ⟨o,g,rfl,eg,ho⟩:=tU.get ex;have og:=(op.2.2 g).mp (Wo eg);have gsub:∀ y ∈ g,y ∈ A9.map (·.1):=fun y hy=>og.2.1.subset hy
   refine ⟨_,rfl,_,rfl,S,o,ws,A9.map (·.1),AJ.map (·.1),g,mo,rfl,wi.same (s12.trans sa),qnd,by rw [Wj]; lia,by rw [Wj]; lia,sa _ _ ho,fun H3 s3=>⟨_,rfl,?_⟩⟩;rw [JH gsub];have Vf:=sa.trans s3;refine Cf (fun hz=>?_) (fun hz=>?_)
   ·refine ⟨_,rfl,hB _ _ _ (s3 _ _ Bd) ⟨_,fs ++ [g],rfl,fun b o' z=>by rw [Ae (Ah z hD)]; exact Vf _ _ z,Ab,?_,by rw [Ww,Xe]; lia,fun g'=>?_⟩⟩
    ·refine ((tp.keep fun b ys z=>s3 _ _ z).app (.cons (Vf _ _ ho) .nil)).keep fun b ys z=>?_
     rw [Ae (fun e=>by rw [e,s3 _ _ Bd] at z; cases z)];exact z
    ·rw [W5,eg,W9,W9,fo,Wz];constructor
     ·rintro (h | rfl)
      ·exact ⟨.inl h.1,h.2⟩
      ·exact ⟨.inr W7,hz⟩
     ·rintro ⟨h | h,h'⟩
      ·exact .inl ⟨h,h'⟩
      ·exact .inr (Wz.mp h)
   ·refine hN _ _ ⟨_,fs,rfl,Vf,s3 _ _ Bd,tp.keep fun b ys z=>s3 _ _ z,by lia,fun g'=>?_⟩;rw [fo,W5,eg,W9];constructor
    ·exact fun h=>⟨.inl h.1,h.2⟩
    ·rintro ⟨h | h,h'⟩
     ·exact ⟨h,h'⟩
     ·rw [Wz.mp h] at h';exact absurd h' hz
  ·rintro D σ H3 acc hD ⟨v0,fs,rfl,sa,Bd,tp,al,fo⟩;rw [ul,WD] at fo;have SU:=s12.trans sa;have q1:=cs.ok2.one;have qne:AJ.map (·.1) ≠ []:=fun z=>by
    have:=congrArg XI z;rw [Wj] at this;simp at this;rw [this] at q1;simp at q1
   have mem:∀ g,g ∈ fs ↔ g.Sublist (A9.map (·.1))/\B5 ws mo (AJ.map (·.1)) g=true:=fun g=>by
    rw [fo];constructor
    ·exact fun h=>⟨((op.2.2 g).mp h.1).2.1,h.2⟩
    ·exact fun h=>⟨(op.2.2 g).mpr ⟨Nf qne h.2,h.1,rfl⟩,h.2⟩
   have fne:fs ≠ []:=fun z=>by
    obtain ⟨hs,a,b⟩:=cov;have:=(mem hs).mpr ⟨a,b⟩;rw [z] at this;cases this
   have ane:acc.isEmpty=false:=by
    have:=tp.len;cases acc with
    | nil=>exact absurd (X4.mp this.symm) fne
    | cons _ _=>rfl
   exists _,rfl,_,.inl ⟨_,AD.of Bd,rfl⟩;dsimp only;rw [ane];refine Cf (fun z=>by simp at z) (fun _=>?_);refine ⟨_,rfl,D,acc,fs,rfl,Bd,tp,fne,L.same SU,fun H4 t g k4 L4 hg ht mn=>⟨t,_,rfl,.inr (AG.of ht),fun l hl=>?_⟩⟩;have s5:=Ac (o:=.lst (g.map V.str)) hl;have nl:H l=none:=by
    cases z:H l with
    | none=>rfl
    | some o=>
     by_cases e:l=P0
     ·obtain ⟨ps,e2⟩:=L4.some;rw [e,e2] at hl;cases hl
     ·rw [k4 _ _ e (SU _ _ z)] at hl;cases hl
   refine k _ l g (fun b o n e=>s5 _ _ (k4 _ _ n (SU _ _ e))) (L4.same s5) nl Ab ⟨((mem g).mp hg).1,((mem g).mp hg).2,fun zs z1 z2=>mn zs ((mem zs).mpr ⟨z1,z2⟩)⟩
end
section
variable {P:Program} {w:World} {K:Wm} {mg:Str->Option Value} {base:Heap}
theorem Jg (h_max:mg "max"=none) (h_min:mg "min"=none)  {f:Addr} {fd:FuncData} (F:Ew K "worst_way" "worst_way" CP f fd):AH P w K mg base BJ 1 f fd ["aways","folk","houses"] Lv:=by
 refine F.ok EX (fun vs H Q E h=>?_) (fun cdv A outer s H vs Q E hr h=>?_)
 ·obtain ⟨A0,t2,o,us,xs,ws,ss,hs,AJ,rfl,_⟩:=h;rfl
 ·obtain ⟨A0,t2,o,us,xs,ws,ss,hs,AJ,rfl,aw,snd,DY,dt2,rk2,rl2,xnd,ho,hne,hsub,hl,k⟩:=h;have nd:=EX.nd;have hu:=Du hr;have big:100000 < sizeLine:=by decide
  refine ⟨_,(Ak (AM (Ao (Eb K rfl rfl) (by rfl) h_max PyProof.Rows.boot_max (Aa (JM (fun x=>decide (x=("place":Str))) (N:=["place","many","aways","houses"]) (σ0:=fun σ=>[none,none,some 0,some 2].map fun j=>j.bind fun j=>(σ[j]?).join) rfl (CD.caught (by rfl) rfl (by decide +kernel) (by intro y hy; simp only [Wn,Wu,or_false] at hy; rcases hy with rfl | rfl <;> rfl) (by refine List.Pairwise.cons (fun y hy=>?_) (X1 _ _); rw [Wz.mp hy]; show @Ne Nat _ _; lia)
   (by intro y hy e; simp only [Wn,Wu,or_false] at hy; rcases hy with rfl | rfl | rfl | rfl | rfl | rfl <;> first | exact ⟨_,W7⟩ | exact ⟨_,WH _ W7⟩ | cases e)) (by intro x h; have h':=of_decide_eq_true h; subst h'; decide +kernel) (fun σ _=>AK.of [none,none,some 0,some 2] rfl (by
   intro i j x h1 h2;match i,h1,h2 with
   | 0,_,h2=>cases h2
   | 1,_,h2=>cases h2
   | 2,h1,h2=>cases h1; cases h2; exact ⟨rfl,.inl rfl,.inl rfl⟩
   | 3,h1,h2=>cases h1; cases h2; exact ⟨rfl,.inl rfl,.inl rfl⟩
   | n + 4,h1,_=>cases h1)) (by
   intro σ i x v h1 h2;match i,h1,h2 with
   | 0,_,h2=>cases h2
   | 1,_,h2=>cases h2
   | 2,h1,h2=>cases h1; decide +kernel
   | 3,h1,h2=>cases h1; decide +kernel
   | n + 4,h1,_=>cases h1) (Bb K rfl (pv 1))
   (fun s2 H C fp=>⟨(Bv K rfl (n:=2) rfl (Am (Ai (i:=0) (show (["place","many","aways","houses"]:List Str).Nodup by decide +kernel) rfl (Or.inr rfl) (.inl (by dsimp only; exact decide_eq_true rfl))) (Am (Ai (i:=1) (show (["place","many","aways","houses"]:List Str).Nodup by decide +kernel) rfl (Or.inl rfl)) Bu))),Bh,(Ao (Dk rfl) (by rfl) h_min PyProof.Rows.boot_min (Aa (Bz (N:=["house","place","aways"]) (σ0:=fun σ=>[none,some 0,some 2].map fun j=>j.bind fun j=>(σ[j]?).join) rfl (AE.caught (by rfl) (by decide +kernel) rfl (by decide +kernel) (by intro y hy; simp only [Wn,Wu,or_false] at hy; rcases hy with rfl | rfl <;> rfl)
   (by intro y hy e; simp only [Wn,Wu,or_false] at hy; rcases hy with rfl | rfl | rfl | rfl <;> first | exact ⟨_,rfl⟩ | cases e)) (fun σ _=>AK.of [none,some 0,some 2] rfl (by
   intro i j x h1 h2;match i,h1,h2 with
   | 0,_,h2=>cases h2
   | 1,h1,h2=>cases h1; cases h2; exact ⟨rfl,.inl rfl,.inl rfl⟩
   | 2,h1,h2=>cases h1; cases h2; exact ⟨rfl,.inl rfl,.inl rfl⟩
   | n + 3,h1,_=>cases h1)) (Bb K rfl (pv 3))
   (fun s2 H C fp=>⟨(Ai (i:=0) (show (["house","place","aways"]:List Str).Nodup by decide +kernel) rfl (Or.inl rfl)),Bh,(Bj hu (Bj hu (pv 2) (pv 0) (fun _ _=>rfl)) (pv 1) (fun _ _=>rfl))⟩)) Ad))⟩)) Ad)))),?_⟩
  obtain ⟨nv,hA,nk,nf⟩:=aw;have ul:=B8 dt2;exists _,rfl,t2,rfl,⟨_,AG.of DY⟩
  refine BG Dp (xs:=us) (fun D i σ H' acc=>∃ (v0 v1:Option V) (ms:List Int),σ=[v0,v1,some (.ref A0),some (.ref o)]/\Au H H'/\H' D=some (.lst acc)/\acc=ms.map V.int/\acc.length=i/\∀ (j:Nat) y m,((AJ.map (·.1)).take i)[j]? = some y->ms[j]? = some m->Jw ws hs y m)
   (by lia) (fun D hD=>⟨_,_,[],rfl,Ac hD,Ab,rfl,rfl,fun j y m e=>by simp at e⟩) (fun D i σ H' acc hD ⟨_,_,ms,_,sa,Bd,_,al,_⟩=>⟨AG.of (sa _ _ DY),Bd,al⟩) ?_ ?_
  ·rintro D i σ H' acc x' B hD ex ⟨v0,v1,ms,rfl,sa,Bd,rfl,al,hm⟩ hB;obtain ⟨u,t,eu,rfl,ht⟩:=BS dt2 ex;have ux:=rk2.sub u (Wo eu);have Rt:(AJ.map (·.1))[i]? = some u.1:=by rw [Wy,eu]; rfl
   exists t,_,rfl,AG.of (sa _ _ ht),rfl,_,_,rfl,_,_,rfl,rfl;exists _,rfl,o,rfl,⟨_,AG.of (sa _ _ ho)⟩
   refine BG Dp (xs:=hs.map V.str) (fun D2 j Aq H2 Cv=>∃ w0:Option V,Aq=[w0,some (.str u.1),some (.ref A0)]/\Au H' H2/\H2 D2=some (.lst Cv)/\Cv=((hs.take j).map fun s=>dst ws s u.1).map V.int/\Cv.length=j)
    (by rw [Wj]; lia) (fun D2 FC=>⟨_,rfl,Ac FC,Ab,rfl,rfl⟩) (fun D2 j Aq H2 Cv FC ⟨w0,_,sb,h2,_,J2⟩=>⟨AG.of (sb _ _ (sa _ _ ho)),h2,J2⟩) ?_ ?_
   ·rintro D2 j Aq H2 Cv x2 B2 FC Ld ⟨w0,rfl,sb,h2,QO,J2⟩ Ur;obtain ⟨s,es,rfl⟩:=EW Ld;have ssm:s ∈ nv.map (·.1):=by rw [nk]; exact hsub s (Wo es)
    obtain ⟨⟨s',v⟩,hp,e⟩:=W4.mp ssm;have e':s'=s:=e;subst e';have sab:=sa.trans sb;obtain ⟨B3,rfl,dg⟩:=((nf _ v hp).same sab).get xnd ux;have dgA:BX H2 A0 (.str s') (some (.ref B3)):=by
     rw [<-C1 (nv:=nv) (by rw [nk]; exact snd) hp];exact BX.k (k:=Sum.inr s') (sab _ _ hA)
    exists _,rfl,_,rfl,A0,_,rfl,dgA,_,rfl,B3,_,rfl,dg;refine Ur _ _ _ h2 ⟨_,rfl,fun b o' z=>by rw [Ae (Ah z FC)]; exact sb _ _ z,Ab,?_,by rw [Ww,J2]; rfl⟩;rw [QO,W5,es,W3,W3];rfl
   ·rintro D2 Aq H2 Cv FC ⟨w0,rfl,sb,h2,QO,J2⟩;rw [Wj,WD] at QO;refine ⟨D2,hs.map fun s=>dst ws s u.1,rfl,by rw [h2,QO],fun z=>hne (Y9.mp z),fun m V7 Kq=>?_⟩;refine hB _ _ _ (sb _ _ Bd) ⟨_,_,ms ++ [m],rfl,fun b o' z=>by rw [Ae (Ah z hD)]; exact sb _ _ (sa _ _ z),Ab,by rw [W3]; rfl,by rw [Ww,al]; rfl,fun j y m' e1 e2=>?_⟩;rw [Wj] at al;have tl:((AJ.map (·.1)).take i).length=i:=by rw [WW]; have:=(Wt.mp Rt).1; lia
    rw [W5,Rt] at e1;by_cases hj:j < i
    ·rw [WS (by lia)] at e1;rw [WS (by lia)] at e2;exact hm j y m' e1 e2
    ·have PJ:=(Wt.mp e2).1;rw [Ww,Xe] at PJ;have:j=i:=by lia
     subst this;rw [WQ (by lia),tl,XE] at e1;rw [WQ (by lia),al,XE] at e2;cases e1
     cases e2
     exact O8 V7 Kq
  ·rintro D σ H' acc hD ⟨v0,v1,ms,rfl,sa,Bd,rfl,al,hm⟩;rw [Wj] at al;have e:us.length=(AJ.map (·.1)).length:=by rw [Wj]; exact ul
   rw [e,WD] at hm;have one:=rk2.one;refine ⟨D,ms,rfl,AD.of Bd,fun z=>?_,fun v h1 h2=>k H' v sa (J5 (by lia) hm h1 h2)⟩;rw [z] at al;simp at al;lia
end
section
variable {P:Program} {w:World} {K:Wm} {mg:Str->Option Value} {base:Heap}
theorem Jh (h_all:mg "all"=none) (h_any:mg "any"=none)  {f:Addr} {fd:FuncData} (F:Ew K "serve_all" "serve_all" CQ f fd):AH P w K mg base BJ 1 f fd ["served","sites"] JD:=by
 refine F.ok EZ (fun vs H Q E h=>?_) (fun cdv A outer s H vs Q E hr h=>?_)
 ·obtain ⟨S,L,ws,ss,qs,ys,mo,rfl,_⟩:=h;rfl
 ·obtain ⟨S,L,ws,ss,qs,ys,mo,rfl,wi,qnd,sl,ql,hL,k⟩:=h;have nd:=EZ.nd;have hu:=Du hr;have big:100000 < sizeLine:=by decide
  refine ⟨_,(Ak (AM (LJ (Ao (Ki rfl) (by rfl) h_all PyProof.Rows.boot_all (Aa (Bz (N:=["place","served","sites"]) (σ0:=fun σ=>[none,some 0,some 1].map fun j=>j.bind fun j=>(σ[j]?).join) rfl (AE.caught (by rfl) (by decide +kernel) rfl (by decide +kernel) (by intro y hy; simp only [Wn,Wu,or_false] at hy; rcases hy with rfl | rfl <;> rfl)
   (by intro y hy e; simp only [Wn,Wu,or_false] at hy; rcases hy with rfl | rfl | rfl | rfl | rfl <;> first | exact ⟨_,rfl⟩ | cases e)) (fun σ _=>AK.of [none,some 0,some 1] rfl (by
   intro i j x h1 h2;match i,h1,h2 with
   | 0,_,h2=>cases h2
   | 1,h1,h2=>cases h1; cases h2; exact ⟨rfl,.inl rfl,.inl rfl⟩
   | 2,h1,h2=>cases h1; cases h2; exact ⟨rfl,.inl rfl,.inl rfl⟩
   | n + 3,h1,_=>cases h1)) (Gk (pv 0))
   (fun s2 H C fp=>⟨(Ai (i:=0) (show (["place","served","sites"]:List Str).Nodup by decide +kernel) rfl (Or.inl rfl)),Bh,(Ao (Js K rfl rfl) (by rfl) h_any PyProof.Rows.boot_any (Aa (Bz (N:=["site","sites"]) (σ0:=fun σ=>[none,some 2].map fun j=>j.bind fun j=>(σ[j]?).join) rfl (AE.caught (by rfl) (by decide +kernel) rfl (by decide +kernel) (by intro y hy; simp only [Wn,Wu,or_false] at hy; rcases hy with rfl <;> rfl)
   (by intro y hy e; simp only [Wn,Wu,or_false] at hy; rcases hy with rfl | rfl | rfl <;> first | exact ⟨_,rfl⟩ | cases e)) (fun σ _=>AK.of [none,some 2] rfl (by
   intro i j x h1 h2;match i,h1,h2 with
   | 0,_,h2=>cases h2
   | 1,h1,h2=>cases h1; cases h2; exact ⟨rfl,.inl rfl,.inl rfl⟩
   | n + 2,h1,_=>cases h1)) (AN K rfl (Bj hu (pv 1) (pv 0) (fun _ _=>rfl)))
   (fun s2 H C fp=>⟨(Ai (i:=0) (show (["site","sites"]:List Str).Nodup by decide +kernel) rfl (Or.inl rfl)),Bh,(Gm (Oz K rfl) (pv 0) (pv 1) (by rfl))⟩)) Ad))⟩)) Ad))))),?_⟩
  obtain ⟨nv,hS,nk,nl⟩:=wi;have nvl:nv.length=qs.length:=by rw [<-nk,Wj]
  refine ⟨_,rfl,S,_,rfl,.inl hS,fun o H1 fz=>?_⟩;have VE:=fz.at;have Vu:∀ b u,b ≠ S->H b=some u->H1 b=some u:=fun b u hb z=>by rw [fz.ne hb]; exact z
  have hL1:=Vu _ _ (Br hL hS (fun z=>by cases z)) hL;refine BG Ij (xs:=(sK nv).map fun p=>kV p.1) (fun D j σ H' acc=>∃ v0:Option V,σ=[v0,some (.ref S),some (.ref L)]/\Au H1 H'/\H' D=some (.lst acc)/\acc=((qs.take j).map fun p=>(ss.filter fun s=>AZ ws mo s p).any fun s=>decide (s ∈ ys)).map V.bl/\acc.length=j)
   (by rw [Wj,Ca]; lia) (fun D hD=>⟨_,rfl,Ac hD,Ab,rfl,rfl⟩) (fun D j σ H' acc hD ⟨v0,_,sa,Bd,_,al⟩=>⟨sa _ _ VE,Bd,al⟩) ?_ ?_
  ·rintro D j σ H' acc x' B hD ex ⟨v0,rfl,sa,Bd,ea,al⟩ hB;obtain ⟨p,v,e1,rfl⟩:∃ s v,nv[j]? = some (s,v)/\x'=.str s:=by
    rw [Wy] at ex;cases z:(sK nv)[j]? with
    | none=>rw [z] at ex; cases ex
    | some p=>
     rw [z] at ex;obtain ⟨ky,v⟩:=p;obtain ⟨y,e1,rfl⟩:=LB z;exact ⟨y,v,e1,(WA.inj ex).symm⟩
   have pm:=Wo e1;have ep:qs[j]? = some p:=by rw [<-nk,Wy,e1]; rfl
   obtain ⟨l,e2,hl⟩:=nl (p,v) pm;have Tn:v=.ref l:=e2;subst Tn;have Ug:=sa _ _ (Vu _ _ (Br hl hS (fun z=>by cases z)) hl);have dg:BX H' S (.str p) (some (.ref l)):=.inl ⟨_,Sum.inr p,.inr ⟨o,sa _ _ VE⟩,rfl,(C1 (nv:=nv) (by rw [nk]; exact qnd) pm).symm⟩;exists _,rfl,_,rfl,S,_,rfl,dg,l,rfl,⟨_,AD.of Ug⟩
   have fl:(ss.filter fun s=>AZ ws mo s p).length<=1000:=WJ (XY _ _) sl;refine BG Bf (xs:=(ss.filter fun s=>AZ ws mo s p).map V.str) (fun D2 i Aq H2 Cv=>∃ w0:Option V,Aq=[w0,some (.ref L)]/\Au H' H2/\H2 D2=some (.lst Cv)/\Cv=(((ss.filter fun s=>AZ ws mo s p).take i).map fun s=>decide (s ∈ ys)).map V.bl/\Cv.length=i)
    (by rw [Wj]; lia) (fun D2 FC=>⟨_,rfl,Ac FC,Ab,rfl,rfl⟩) (fun D2 i Aq H2 Cv FC ⟨w0,_,sb,h2,_,al⟩=>⟨AD.of (sb _ _ Ug),h2,al⟩) ?_ ?_
   ·rintro D2 i Aq H2 Cv x2 B2 FC Ld ⟨w0,rfl,sb,h2,QO,J2⟩ Ur;obtain ⟨s,es,rfl⟩:∃ s,(ss.filter fun s=>AZ ws mo s p)[i]? = some s/\x2=.str s:=by
     rw [Wy] at Ld;cases z:(ss.filter fun s=>AZ ws mo s p)[i]? with
     | none=>rw [z] at Ld; cases Ld
     | some s=>rw [z] at Ld; exact ⟨s,rfl,(WA.inj Ld).symm⟩
    exists _,rfl,_,rfl,L,_,rfl,.inr (AG.of (sb _ _ (sa _ _ hL1))),rfl,Iw ys;refine Ur _ _ _ h2 ⟨_,rfl,fun b o' z=>by rw [Ae (Ah z FC)]; exact sb _ _ z,Ab,?_,by rw [Ww,J2]; rfl⟩;rw [JY,QO,W5,es,W3,W3];simp
   ·rintro D2 Aq H2 Cv FC ⟨w0,rfl,sb,h2,QO,J2⟩;rw [Wj,WD] at QO;exists D2,_,rfl,AD.of (by rw [h2,QO]);have Gp:=sb _ _ Bd;refine hB _ _ _ Gp ⟨_,rfl,fun b o' z=>by rw [Ae (Ah z hD)]; exact sb _ _ (sa _ _ z),Ab,?_,by rw [Ww,al]; rfl⟩;rw [ea,W5,ep,W3,W3,List.any_map];rfl
  ·rintro D σ H' acc hD ⟨v0,rfl,sa,Bd,ea,al⟩;rw [Wj,Ca,nvl,WD] at ea;exists D,_,rfl,AD.of (by rw [Bd,ea]);exists S,o,sK nv,sa _ _ VE,(by intro ob w z; have z':H S=some (.frz ob w):=z; rw [hS] at z'; cases z')
   have q:=k (upd H' S (.dK (sK nv))) fun b u z=>by
    by_cases hb:b=S
    ·subst hb;rw [hS] at z;cases z
     exact Ab
    ·rw [Ae hb];exact sa _ _ (Vu _ _ hb z)
   unfold IV at q;rw [Z5];exact q
end
section
variable {P:Program} {w:World} {K:Wm} {mg:Str->Option Value} {base:Heap}
theorem F7  {fSF:Addr} {fdSF:FuncData} (XSF:Fn K mg "site_fars" C5 ["case"] fSF fdSF) (GSF:AH P w K mg base BJ 4 fSF fdSF ["case"] E8) {f:Addr} {fd:FuncData} (F:Ew K "served_within" "served_within" Cc f fd):AH P w K mg base BJ 5 f fd ["case","far"] HW:=by
 refine F.ok Dn (fun vs H Q E h=>?_) (fun cdv A outer s H vs Q E hr h=>?_)
 ·obtain ⟨c,m,mo,n,xs,ws,A9,AJ,x,d,rfl,_⟩:=h;rfl
 ·obtain ⟨c,m,mo,n,xs,ws,A9,AJ,x,d,rfl,cs,k⟩:=h;have nd:=Dn.nd;have hu:=Du hr;have big:100000 < sizeLine:=by decide
  refine ⟨_,(Af (Ap (i:=2) nd rfl (Or.inr rfl) (Aj GSF (hr.mono (by decide)) (by rfl) XSF.mg XSF.F.kp XSF.b .nil Ar (Aa (pv 0) Ad)))
  (Ak (AM (M6 (fun x=>decide (x=("place":Str))) (N:=["place","many","far","aways"]) (σ0:=fun σ=>[none,none,some 1,some 2].map fun j=>j.bind fun j=>(σ[j]?).join) rfl (CD.caught (by rfl) rfl (by decide +kernel) (by intro y hy; simp only [Wn,Wu,or_false] at hy; rcases hy with rfl | rfl <;> rfl) (by refine List.Pairwise.cons (fun y hy=>?_) (X1 _ _); rw [Wz.mp hy]; show @Ne Nat _ _; lia)
   (by intro y hy e; simp only [Wn,Wu,or_false] at hy; rcases hy with rfl | rfl | rfl | rfl | rfl <;> first | exact ⟨_,W7⟩ | exact ⟨_,WH _ W7⟩ | cases e)) (by intro x h; have h':=of_decide_eq_true h; subst h'; decide +kernel) (fun σ _=>AK.of [none,none,some 1,some 2] rfl (by
   intro i j x h1 h2;match i,h1,h2 with
   | 0,_,h2=>cases h2
   | 1,_,h2=>cases h2
   | 2,h1,h2=>cases h1; cases h2; exact ⟨rfl,.inl rfl,.inl rfl⟩
   | 3,h1,h2=>cases h1; cases h2; exact ⟨rfl,.inl rfl,.inl rfl⟩
   | n + 4,h1,_=>cases h1)) (by
   intro σ i x v h1 h2;match i,h1,h2 with
   | 0,_,h2=>cases h2
   | 1,_,h2=>cases h2
   | 2,h1,h2=>cases h1; decide +kernel
   | 3,h1,h2=>cases h1; decide +kernel
   | n + 4,h1,_=>cases h1) (Bb K rfl (AF (AL K rfl) (pv 0) Ag (fun _ _=>rfl)))
   (fun s2 H C fp=>⟨(Bv K rfl (n:=2) rfl (Am (Ai (i:=0) (show (["place","many","far","aways"]:List Str).Nodup by decide +kernel) rfl (Or.inr rfl) (.inl (by dsimp only; exact decide_eq_true rfl))) (Am (Ai (i:=1) (show (["place","many","far","aways"]:List Str).Nodup by decide +kernel) rfl (Or.inl rfl)) Bu))),Bh,(pv 0),(Bz (N:=["site","place","far","aways"]) (σ0:=fun σ=>[none,some 0,some 2,some 3].map fun j=>j.bind fun j=>(σ[j]?).join) rfl (AE.caught (by rfl) (by decide +kernel) rfl (by decide +kernel) (by intro y hy; simp only [Wn,Wu,or_false] at hy; rcases hy with rfl | rfl | rfl <;> rfl)
   (by intro y hy e; simp only [Wn,Wu,or_false] at hy; rcases hy with rfl | rfl | rfl | rfl | rfl <;> first | exact ⟨_,rfl⟩ | cases e)) (fun σ _=>AK.of [none,some 0,some 2,some 3] rfl (by
   intro i j x h1 h2;match i,h1,h2 with
   | 0,_,h2=>cases h2
   | 1,h1,h2=>cases h1; cases h2; exact ⟨rfl,.inl rfl,.inl rfl⟩
   | 2,h1,h2=>cases h1; cases h2; exact ⟨rfl,.inl rfl,.inl rfl⟩
   | 3,h1,h2=>cases h1; cases h2; exact ⟨rfl,.inl rfl,.inl rfl⟩
   | n + 4,h1,_=>cases h1)) (Gk (pv 3))
   (fun s2 H C fp=>⟨(Ai (i:=0) (show (["site","place","far","aways"]:List Str).Nodup by decide +kernel) rfl (Or.inl rfl)),(CU (Bt Oy (Bj hu (Bj hu (pv 3) (pv 0) (fun _ _=>rfl)) (pv 1) (fun _ _=>rfl)) (pv 2) (B9 _))),(pv 0)⟩))⟩))))),?_⟩
  obtain ⟨t1,t2,De,HU,hc,Eu,Gd,DY,hd2⟩:=cs.ex;have Rf:=B8 hd2;have l6:=cs.l1;have l8:=cs.l2;refine ⟨_,rfl,c,m,n,xs,ws,A9,AJ,x,d,rfl,cs,fun H1 AW nvA s1 fA hA nkA fars=>?_⟩;have nvl:nvA.length=A9.length:=by
   have:=congrArg XI nkA;rw [Wj,Wj] at this;exact this
  have nBA:∀ s v,(s,v) ∈ nvA->∀ {H':Hp},(∀ b o,b ≠ AW->H1 b=some o->H' b=some o)->DF H' v xs ws s:=fun s v hm H' kp=>by
   obtain ⟨B2,Hw,rfl,z1,z2,z3⟩:=fars s v hm;refine ⟨B2,Hw,rfl,kp _ _ (fun e=>?_) z1,z2,z3⟩;subst e;rw [hA] at z1;have e:=HO.dK.inj (WA.inj z1);have Tb:((Sum.inr s:AV),V.ref B2) ∈ sK Hw:=by rw [<-e]; exact W4.mpr ⟨_,hm,rfl⟩
   obtain ⟨⟨y,u'⟩,h1,h2⟩:=W4.mp Tb;cases h2
   obtain ⟨n',e',_⟩:=z3 _ _ h1;cases e'
  exists _,rfl,c,_,_,_,rfl,rfl,AG.of (s1 _ _ hc),rfl,t2,rfl,⟨_,AG.of (s1 _ _ DY)⟩
  have tA:∀ {b:Addr} {ys:List V},H1 b=some (.tup ys)->b ≠ AW:=fun z=>Br z hA (fun q=>by cases q)
  refine Ic Dp (xs:=HU) (AJ.map (·.1)) (by rw [Wj,Rf]) cs.ok2.nd (fun D i σ H' nv=>∃ (v0 v1:Option V),σ=[v0,v1,some (.int mo),some (.ref AW)]/\(∀ b o,b ≠ AW->H1 b=some o->H' b=some o)/\Rd H' AW (.dK (sK nvA))/\H' D=some (.dK (sK nv))/\nv.map (·.1)=(AJ.map (·.1)).take i/\∀ q ∈ nv,∃ l,q.2=.ref l/\H' l=some (.lst (((A9.map (·.1)).filter fun s=>AZ ws mo s q.1).map V.str)))
   (by lia) (fun D hD=>⟨_,_,rfl,fun b o _ z=>Ac hD _ _ z,.inl (Ac hD _ _ hA),Ab,rfl,fun q hq=>nomatch hq⟩) (fun D i σ H' nv hD ⟨v0,v1,_,kp,_,Bd,nk,_⟩=>⟨AG.of (kp _ _ (tA (s1 _ _ DY)) (s1 _ _ DY)),Bd,nk⟩) ?_ ?_
  ·rintro D i σ H' nv x' kk Y hD ex ek ⟨v0,v1,rfl,kp,rd,Bd,nk,nl⟩ hY;obtain ⟨u,t,eu,rfl,ht⟩:=BS hd2 ex;have e:kk=u.1:=by
    rw [Wy,eu] at ek;exact (WA.inj ek).symm
   subst e;have ux:=cs.ok2.sub u (Wo eu);have nDA:D ≠ AW:=(Ah hA hD).symm;exists t,_,rfl,AG.of (kp _ _ (tA (s1 _ _ ht)) (s1 _ _ ht)),rfl,_,_,rfl,_,_,rfl,rfl;refine ⟨_,rfl,_,rfl,AW,_,rfl,rd,fun o H3 fz=>?_⟩;have VN:=fz.at;refine BB Ij (xs:=(sK nvA).map fun p=>kV p.1) (fun D2 j Aq H4 acc=>∃ w0:Option V,Aq=[w0,some (.str u.1),some (.int mo),some (.ref AW)]/\Au H3 H4/\H4 D2=some (.lst acc)/\acc=(((A9.map (·.1)).take j).filter fun s=>AZ ws mo s u.1).map V.str/\acc.length<=j)
    (by rw [Wj,Ca]; lia) (fun D2 FC=>⟨_,rfl,Ac FC,Ab,rfl,Wq _⟩)
    (fun D2 j Aq H4 acc FC ⟨w0,_,sb,h2,_,al⟩=>⟨sb _ _ VN,h2,al⟩) ?_ ?_
   ·rintro D2 j Aq H4 acc x2 B N FC Ld ⟨w0,rfl,sb,h2,ea,al⟩ hB hN;obtain ⟨s,v,e1,rfl⟩:∃ s v,nvA[j]? = some (s,v)/\x2=.str s:=by
     rw [Wy] at Ld;cases z:(sK nvA)[j]? with
     | none=>rw [z] at Ld; cases Ld
     | some p=>
      rw [z] at Ld;obtain ⟨ky,v⟩:=p;obtain ⟨y,e1,rfl⟩:=LB z;exact ⟨y,v,e1,(WA.inj Ld).symm⟩
    have sm:=Wo e1;have es:(A9.map (·.1))[j]? = some s:=by rw [<-nkA,Wy,e1]; rfl
    have kp4:∀ b o,b ≠ AW->H1 b=some o->H4 b=some o:=fun b o hb z=>sb _ _ (by rw [fz.ne hb]; exact kp b o hb z)
    obtain ⟨B2,rfl,dg⟩:=(nBA s v sm kp4).get cs.map.at'.nd ux;have dgA:BX H4 AW (.str s) (some (.ref B2)):=.inl ⟨_,Sum.inr s,.inr ⟨o,sb _ _ VN⟩,rfl,(C1 (nv:=nvA) (by rw [nkA]; exact cs.ok1.nd) sm).symm⟩;exists _,rfl,_,rfl,AW,_,rfl,dgA,_,rfl,B2,_,rfl,dg,_,rfl,_,_,rfl,rfl,_,rfl;rw [Hj ws s u.1];refine Cf (fun hz=>?_) (fun hz=>?_)
    ·have Gb:AZ ws mo s u.1=true:=hz;exists _,rfl;refine hB _ _ _ h2 ⟨_,rfl,fun b o' z=>by rw [Ae (Ah z FC)]; exact sb _ _ z,Ab,?_,by rw [Ww]; simp; lia⟩;rw [ea,W5,es,Xj,W3];simp [Gb]
    ·have Gb:AZ ws mo s u.1=false:=by
      cases q:AZ ws mo s u.1 with
      | false=>rfl
      | true=>exact absurd q hz
     refine hN _ _ ⟨_,rfl,sb,h2,?_,by lia⟩;rw [ea,W5,es,Xj,W3];simp [Gb]
   ·rintro D2 Aq H4 acc FC ⟨w0,rfl,sb,h2,ea,al⟩;rw [Wj,Ca,nvl,<-Wj (f:=(·.1)),WD] at ea;have OU:H4 D=some (.dK (sK nv)):=sb _ _ (by rw [fz.ne nDA]; exact Bd);have UA:D2 ≠ D:=Br h2 OU (fun z=>by cases z);refine hY _ _ _ OU ⟨_,_,rfl,fun b o' hb z=>?_,.inr ⟨o,by rw [Ae nDA.symm]; exact sb _ _ VN⟩,Ab,?_,fun q hq=>?_⟩
    ·rw [Ae (Ah z hD)];exact sb _ _ (by rw [fz.ne hb]; exact kp b o' hb z)
    ·rw [W3,nk,W5,ek];rfl
    ·rcases W9.mp hq with hq | hq
     ·obtain ⟨l,e1,e2⟩:=nl q hq;have lA:l ≠ AW:=by
       rcases rd with z | ⟨o',z⟩
       ·exact Br e2 z (fun q=>by cases q)
       ·exact Br e2 z (fun q=>by cases q)
      have e4:H4 l=some (.lst (((A9.map (·.1)).filter fun s=>AZ ws mo s q.1).map V.str)):=sb _ _ (by rw [fz.ne lA]; exact e2);exact ⟨l,e1,by rw [Ae (Br e4 OU (fun z=>by cases z))]; exact e4⟩
     ·rw [Wz.mp hq];exists D2,rfl;rw [Ae UA,h2,ea]
  ·rintro D σ H' nv hD ⟨v0,v1,rfl,kp,rd,Bd,nk,nl⟩;rw [Rf,<-Wj (f:=(·.1)),WD] at nk;exact k H' D (fun b o z=>kp b o (Ah z fA) (s1 _ _ z)) (s1.free0 hD) ⟨nv,Bd,nk,nl⟩
end
section
variable {P:Program} {w:World} {K:Wm} {mg:Str->Option Value} {base:Heap}
theorem Hz   {f:Addr} {fd:FuncData} (F:Ew K "_law_served" "_law_served" CB f fd):AH P w K mg base BJ 1 f fd ["_law_case_here","_law_lengths_here","_law_most"] HX:=by
 refine F.ok E3 (fun vs H Q E h=>?_) (fun cdv A outer s H vs Q E hr h=>?_)
 ·obtain ⟨c,A0,m,mo,n,xs,ws,A9,AJ,x,d,rfl,_⟩:=h;rfl
 ·obtain ⟨c,A0,m,mo,n,xs,ws,A9,AJ,x,d,rfl,cs,kn,k⟩:=h;have nd:=E3.nd;have hu:=Du hr;have big:100000 < sizeLine:=by decide
  refine ⟨_,(Af (Ap (i:=3) nd rfl (Or.inl rfl) GB)
  (Af (Bi PassesOwn.never rfl (Bb K rfl (AF (AL K rfl) (pv 0) Ag (fun _ _=>rfl))) (Bv K rfl rfl (Am (Ai (i:=4) nd rfl (Or.inr rfl)) (Am (Ai (i:=5) nd rfl (Or.inl rfl)) Bu)))
  (Ak (Cp hu (pv 3) (pv 4) (Bz (N:=["_law_place","_law_many","_law_lengths_here","_law_most","_law_site"]) (σ0:=fun σ=>[none,none,some 1,some 2,some 4].map fun j=>j.bind fun j=>(σ[j]?).join) rfl (AE.caught (by rfl) (by decide +kernel) rfl (by decide +kernel) (by intro y hy; simp only [Wn,Wu,or_false] at hy; rcases hy with rfl | rfl | rfl <;> rfl)
   (by intro y hy e; simp only [Wn,Wu,or_false] at hy; rcases hy with rfl | rfl | rfl | rfl | rfl | rfl <;> first | exact ⟨_,rfl⟩ | cases e)) (fun σ _=>AK.of [none,none,some 1,some 2,some 4] rfl (by
   intro i j x h1 h2;match i,h1,h2 with
   | 0,_,h2=>cases h2
   | 1,_,h2=>cases h2
   | 2,h1,h2=>cases h1; cases h2; exact ⟨rfl,.inl rfl,.inl rfl⟩
   | 3,h1,h2=>cases h1; cases h2; exact ⟨rfl,.inl rfl,.inl rfl⟩
   | 4,h1,h2=>cases h1; cases h2; exact ⟨rfl,.inl rfl,.inl rfl⟩
   | n + 5,h1,_=>cases h1)) (Bb K rfl (AF (AL K rfl) (pv 0) Ag (fun _ _=>rfl)))
   (fun s2 H C fp=>⟨(Bv K rfl (n:=2) rfl (Am (Ai (i:=0) (show (["_law_place","_law_many","_law_lengths_here","_law_most","_law_site"]:List Str).Nodup by decide +kernel) rfl (Or.inl rfl)) (Am (Ai (i:=1) (show (["_law_place","_law_many","_law_lengths_here","_law_most","_law_site"]:List Str).Nodup by decide +kernel) rfl (Or.inl rfl)) Bu))),(CU (Bt Oy (Bj hu (pv 2) (AQ (Aa (pv 4) (Aa (pv 0) Ad))) (fun _ _=>rfl)) (pv 3) (B9 _))),(pv 0)⟩)) rfl)))
  (Ak (AM (pv 3))))),?_⟩
  obtain ⟨t1,t2,De,HU,hc,Eu,Gd,DY,hd2⟩:=cs.ex;have Rg:=B8 Gd;have Rf:=B8 hd2;have l6:=cs.l1;have l8:=cs.l2;intro S hS;have s0:=Ac (o:=.dK []) hS;have hSS:(upd H S (.dK [])) S=some (.dK (sK [])):=Ab;generalize upd H S (.dK [])=H1 at s0 hSS;exists _,rfl,c,_,_,_,rfl,rfl,AG.of (s0 _ _ hc),rfl,t1,rfl,⟨_,AG.of (s0 _ _ Eu)⟩
  refine Gq (xs:=De) (fun i σ H'=>∃ (v4 v5:Option V) (nv:List (Str × V)),σ=[some (.ref c),some (.ref A0),some (.int mo),some (.ref S),v4,v5]/\Au H H'/\H' S=some (.dK (sK nv))/\nv.map (·.1)=(A9.map (·.1)).take i/\∀ q ∈ nv,∃ l,q.2=.ref l/\H' l=some (.lst (((AJ.map (·.1)).filter (AZ ws mo q.1)).map V.str)))
   ⟨_,_,[],rfl,s0,hSS,rfl,fun q hq=>nomatch hq⟩ (fun i σ H' _ ⟨_,_,_,_,sa,_⟩=>AG.of (sa _ _ Eu)) ?_ ?_
  ·rintro i v σ H' hv ⟨v4,v5,nv,rfl,sa,OS,nk,nl⟩;obtain ⟨r,t,er,rfl,ht⟩:=BS Gd hv;have rx:=cs.ok1.sub r (Wo er);exists t,_,rfl,AG.of (sa _ _ ht),rfl,_,_,rfl,_,_,rfl,rfl;exists _,rfl,c,_,_,_,rfl,rfl,AG.of (sa _ _ hc),rfl,t2,rfl,⟨_,AG.of (sa _ _ DY)⟩
   refine BB Dp (xs:=HU) (fun D j Aq H2 acc=>∃ v0 v1:Option V,Aq=[v0,v1,some (.ref A0),some (.int mo),some (.str r.1)]/\Au H' H2/\H2 D=some (.lst acc)/\acc=(((AJ.map (·.1)).take j).filter (AZ ws mo r.1)).map V.str/\acc.length<=j)
    (by lia) (fun D hD=>⟨_,_,rfl,Ac hD,Ab,rfl,Wq _⟩)
    (fun D j Aq H2 acc hD ⟨v0,v1,_,sb,Bd,_,al⟩=>⟨AG.of (sb _ _ (sa _ _ DY)),Bd,al⟩) ?_ ?_
   ·rintro D j Aq H2 acc x' B N hD ex ⟨v0,v1,rfl,sb,Bd,ea,al⟩ hB hN;obtain ⟨u,t',eu,rfl,UI⟩:=BS hd2 ex;have ux:=cs.ok2.sub u (Wo eu);have Rt:(AJ.map (·.1))[j]? = some u.1:=by rw [Wy,eu]; rfl
    exists t',_,rfl,AG.of (sb _ _ (sa _ _ UI)),rfl,_,_,rfl,_,_,rfl,rfl;refine ⟨_,rfl,_,rfl,_,rfl,(by show 2<=sizeLine; lia),fun T hT=>?_⟩;have sT:=sb.trans (Ac (o:=.tup [.str r.1,.str u.1]) hT);have hDT:=Ac (o:=.tup [.str r.1,.str u.1]) hT _ _ Bd;have g:=((kn.same sa).same sT).get (y:=r.1) (z:=u.1) (t:=T) rx ux Ab;generalize upd H2 T (.tup [.str r.1,.str u.1])=H3 at sT hDT g;exists A0,_,rfl,g.1,_,rfl,_,_,rfl,rfl,_,rfl;refine Cf (fun hz=>?_) (fun hz=>?_)
    ·have Gb:AZ ws mo r.1 u.1=true:=hz;exists _,rfl;refine hB _ _ _ hDT ⟨_,_,rfl,fun b o' z=>by rw [Ae (Ah z hD)]; exact sT _ _ z,Ab,?_,by rw [Ww]; simp; lia⟩;rw [ea,W5,Rt,Xj,W3];simp [Gb]
    ·have Gb:AZ ws mo r.1 u.1=false:=by
      cases q:AZ ws mo r.1 u.1 with
      | false=>rfl
      | true=>exact absurd q hz
     refine hN _ _ ⟨_,_,rfl,sT,hDT,?_,by lia⟩;rw [ea,W5,Rt,Xj,W3];simp [Gb]
   ·rintro D Aq H2 acc hD ⟨v0,v1,rfl,sb,Bd,ea,al⟩;rw [Rf,<-Wj (f:=(·.1)),WD] at ea;have sc:=sa.trans sb;have hS2:=sb _ _ OS;have nvl:nv.length<=10:=by
     have:=congrArg XI nk;rw [Wj,WW,Wj] at this;lia
    have new:r.1 ∉ nv.map (·.1):=by
     rw [nk];intro z;obtain ⟨j,hj,ej⟩:=W2 z;rw [WW] at hj;rw [XW] at ej;have e1:(A9.map (·.1))[j]? = some r.1:=by rw [Wk (by lia),ej]
     have e2:(A9.map (·.1))[i]? = some r.1:=by rw [Wy,er]; rfl
     have:=DX cs.ok1.nd e1 e2;lia
    exists _,rfl,_,rfl,S,_,rfl,DO.k (k:=Sum.inr r.1) hS2 (by rw [Ca]; lia);rw [Df new];have nSD:D ≠ S:=Ah OS hD |>.symm;refine ⟨_,_,nv ++ [(r.1,.ref D)],rfl,fun b o z=>by rw [Ae (Ah z hS)]; exact sc _ _ z,Ab,?_,fun q hq=>?_⟩
    ·rw [W3,nk,W5,Wy,er];rfl
    ·rcases W9.mp hq with hq | hq
     ·obtain ⟨l,e1,e2⟩:=nl q hq;exists l,e1;rw [Ae (Br (sb _ _ e2) hS2 (fun z=>by cases z))];exact sb _ _ e2
     ·rw [Wz.mp hq];exists D,rfl;rw [Ae nSD,Bd,ea]
  ·rintro σ H' ⟨v4,v5,nv,rfl,sa,OS,nk,nl⟩;rw [Rg,<-Wj (f:=(·.1)),WD] at nk;exact ⟨_,rfl,k H' S sa hS ⟨nv,OS,nk,nl⟩⟩
theorem HC   {f:Addr} {fd:FuncData} (F:Ew K "_law_covers" "_law_covers" CC f fd):AH P w K mg base BJ 1 f fd ["_law_case_here","_law_served_here","_law_some_here"] (HY K):=by
 refine F.ok E5 (fun vs H Q E h=>?_) (fun cdv A outer s H vs Q E hr h=>?_)
 ·obtain ⟨c,S,L,m,mo,n,xs,ys,ws,A9,AJ,x,d,rfl,_⟩:=h;rfl
 ·obtain ⟨c,S,L,m,mo,n,xs,ys,ws,A9,AJ,x,d,rfl,cs,sv,hL,yin,yl,k⟩:=h;have nd:=E5.nd;have hu:=Du hr;have big:100000 < sizeLine:=by decide
  refine ⟨_,(Af (Bi PassesOwn.never rfl (Bb K rfl (AF (AL K rfl) (pv 0) Ag (fun _ _=>rfl))) (Bv K rfl rfl (Am (Ai (i:=3) nd rfl (Or.inr rfl)) (Am (Ai (i:=4) nd rfl (Or.inl rfl)) Bu)))
  (Ak (CK (Bt (MA (Nat.lt_of_succ_lt hu)) (Bz (N:=["_law_site","_law_served_here","_law_place"]) (σ0:=fun σ=>[none,some 1,some 3].map fun j=>j.bind fun j=>(σ[j]?).join) rfl (AE.caught (by rfl) (by decide +kernel) rfl (by decide +kernel) (by intro y hy; simp only [Wn,Wu,or_false] at hy; rcases hy with rfl | rfl <;> rfl)
   (by intro y hy e; simp only [Wn,Wu,or_false] at hy; rcases hy with rfl | rfl | rfl | rfl <;> first | exact ⟨_,rfl⟩ | cases e)) (fun σ _=>AK.of [none,some 1,some 3] rfl (by
   intro i j x h1 h2;match i,h1,h2 with
   | 0,_,h2=>cases h2
   | 1,h1,h2=>cases h1; cases h2; exact ⟨rfl,.inl rfl,.inl rfl⟩
   | 2,h1,h2=>cases h1; cases h2; exact ⟨rfl,.inl rfl,.inl rfl⟩
   | n + 3,h1,_=>cases h1)) (AN K rfl (pv 2))
   (fun s2 H C fp=>⟨(Ai (i:=0) (show (["_law_site","_law_served_here","_law_place"]:List Str).Nodup by decide +kernel) rfl (Or.inl rfl)),(CU (Bt (Oz K rfl) (pv 2) (Bj hu (pv 1) (pv 0) (fun _ _=>rfl)) (by rfl))),(pv 0)⟩)) (Bq Ad) (B9 _))
  (Ak (AM Ig))
  BC)))
  (Ak (AM Ig))),?_⟩
  obtain ⟨t1,t2,De,HU,hc,Eu,Gd,DY,hd2⟩:=cs.ex;have Rf:=B8 hd2;have l8:=cs.l2;exists _,rfl,c,_,_,_,rfl,rfl,AG.of hc,rfl,t2,rfl,⟨_,AG.of DY⟩
  refine Gq (xs:=HU) (fun i σ H'=>∃ (v3 v4:Option V),σ=[some (.ref c),some (.ref S),some (.ref L),v3,v4]/\Au H H'/\((AJ.map (·.1)).take i).all (fun p=>ys.any fun s=>AZ ws mo s p)=true)
   ⟨_,_,rfl,Au.refl _,rfl⟩ (fun i σ H' _ ⟨_,_,_,sa,_⟩=>AG.of (sa _ _ DY)) ?_ ?_
  ·rintro i v σ H' hv ⟨v3,v4,rfl,sa,al⟩;obtain ⟨r,t,er,rfl,ht⟩:=BS hd2 hv;have Tj:(AJ.map (·.1))[i]? = some r.1:=by rw [Wy,er]; rfl
   have rq:r.1 ∈ AJ.map (·.1):=Wo Tj;exists t,_,rfl,AG.of (sa _ _ ht),rfl,_,_,rfl,_,_,rfl,rfl;exists _,rfl,L,rfl,⟨_,hL.same5 sa⟩
   refine BB Bf (xs:=ys.map V.str) (fun D j Aq H2 acc=>∃ v0:Option V,Aq=[v0,some (.ref S),some (.str r.1)]/\Au H' H2/\H2 D=some (.lst acc)/\acc=((ys.take j).filter fun s=>AZ ws mo s r.1).map V.str/\acc.length<=j)
    (by rw [Wj]; lia) (fun D hD=>⟨_,rfl,Ac hD,Ab,rfl,Wq _⟩)
    (fun D j Aq H2 acc hD ⟨v0,_,sb,Bd,_,al⟩=>⟨(hL.same5 sa).same5 sb,Bd,al⟩) ?_ ?_
   ·rintro D j Aq H2 acc x' B N hD ex ⟨v0,rfl,sb,Bd,ea,al⟩ hB hN;obtain ⟨y,ey,rfl⟩:∃ y,ys[j]? = some y/\x'=.str y:=by
     rw [Wy] at ex;cases z:ys[j]? with
     | none=>rw [z] at ex; cases ex
     | some y=>rw [z] at ex; exact ⟨y,rfl,(WA.inj ex).symm⟩
    obtain ⟨l,dg,hl⟩:=((sv.same sa).same sb).get cs.ok1.nd (yin y (Wo ey));exists _,rfl,_,rfl,_,rfl,S,_,rfl,dg,l,_,rfl,.inl (AD.of hl),rfl,Iw _,_,rfl;rw [JY];have im:(decide (r.1 ∈ (AJ.map (·.1)).filter (AZ ws mo y)))=AZ ws mo y r.1:=by
     rw [Xg,decide_eq_true_iff,Xf];exact ⟨fun z=>z.2,fun z=>⟨rq,z⟩⟩
    rw [im];refine Cf (fun hz=>?_) (fun hz=>?_)
    ·have Gb:AZ ws mo y r.1=true:=by simpa using hz
     exists _,rfl;refine hB _ _ _ Bd ⟨_,rfl,fun b o' z=>by rw [Ae (Ah z hD)]; exact sb _ _ z,Ab,?_,by rw [Ww]; simp; lia⟩;rw [ea,W5,ey,Xj,W3];simp [Gb]
    ·have Gb:AZ ws mo y r.1=false:=by
      cases q:AZ ws mo y r.1 with
      | false=>rfl
      | true=>rw [q] at hz; exact absurd rfl hz
     refine hN _ _ ⟨_,rfl,sb,Bd,?_,by lia⟩;rw [ea,W5,ey,Xj,W3];simp [Gb]
   ·rintro D Aq H2 acc hD ⟨v0,rfl,sb,Bd,ea,al'⟩;rw [Wj,WD] at ea;refine ⟨(by show 0<=sizeLine; lia),fun E0 hE0=>?_⟩;have s3:=sb.trans (Ac (o:=.lst []) hE0);exists D,E0,_,rfl,rfl,AD.of (Ac hE0 _ _ Bd),AD.of Ab,_,rfl;have any_of:acc.isEmpty = !(ys.any fun s=>AZ ws mo s r.1):=by
     rw [ea];cases q:ys.any fun s=>AZ ws mo s r.1 with
     | true=>
      obtain ⟨s,hs,e⟩:=Xr.mp q;have:s ∈ ys.filter fun s=>AZ ws mo s r.1:=Xf.mpr ⟨hs,e⟩
      cases z:ys.filter fun s=>AZ ws mo s r.1 with
      | nil=>rw [z] at this; cases this
      | cons _ _=>rfl
     | false=>
      have:ys.filter (fun s=>AZ ws mo s r.1)=[]:=by
       refine List.filter_eq_nil_iff.mpr fun s hs e=>?_
       rw [Xr.mpr ⟨s,hs,e⟩] at q;cases q
      rw [this];rfl
    rw [any_of];refine Cf (fun hz=>?_) (fun hz=>?_)
    ·have Gb:(ys.any fun s=>AZ ws mo s r.1)=false:=by simpa using hz
     have no:B5 ws mo (AJ.map (·.1)) ys=false:=by
      unfold B5;cases q:(AJ.map (·.1)).all fun p=>ys.any fun s=>AZ ws mo s p with
      | false=>rfl
      | true=>rw [Xo.mp q _ rq] at Gb; cases Gb
     have q:=k _ (sa.trans s3);rw [no] at q;exact q
    ·have Gb:(ys.any fun s=>AZ ws mo s r.1)=true:=by
      cases q:ys.any fun s=>AZ ws mo s r.1 with
      | true=>rfl
      | false=>rw [q] at hz; exact absurd rfl hz
     exists _,_,rfl,sa.trans s3;rw [W5,Tj,List.all_append,al];simpa using Gb
  ·rintro σ H' ⟨v3,v4,rfl,sa,al⟩;rw [Rf,<-Wj (f:=(·.1)),WD] at al;have q:=k _ sa;unfold B5 at q;rw [al] at q;exact q
end
section
variable {P:Program} {w:World} {K:Wm} {mg:Str->Option Value} {base:Heap}
theorem GH {f:Addr} {fd:FuncData} (F:Ew K "neighbours" "neighbours" CA f fd):AH P w K mg base BJ 1 f fd ["web"] (NT K):=by
 refine F.ok E2 (fun vs H Q E h=>?_) (fun cdv A outer s H vs Q E hr h=>?_)
 ·obtain ⟨q,ps,ws,r,rfl,_⟩:=h;rfl
 ·obtain ⟨q,ps,ws,r,rfl,ok,k⟩:=h;obtain ⟨tp,tw,us,hq,htp,htw,hD⟩:=ok.web.ex;have nd:=E2.nd;have hu:=Du hr;have big:1000 < sizeLine:=by decide
  have l30:=ok.l30;have l64:=ok.l64;refine ⟨_,Af (DU (pv 0) (Bv K rfl rfl (Am (Ai (i:=1) nd rfl (Or.inl rfl)) (Am (Ai (i:=2) nd rfl (Or.inl rfl)) Bu))))
   (Af (Oo (ix:=3) (N:=["place"]) (σ0:=fun _=>[none]) nd rfl (Or.inl rfl) rfl (AE.plain (by decide +kernel) (by decide +kernel) rfl (by decide +kernel)) (fun σ _=>AK.none _ _ _ ["place"] σ) (Bb K rfl (pv 1))
    (fun s2 H C fp=>⟨Ai (i:=0) (show (["place"]:List Str).Nodup by decide +kernel) rfl (Or.inl rfl),Bh,pv 0,GB⟩))
   (Af (Bi PassesOwn.never rfl (Bb K rfl (pv 2)) (Bv K rfl rfl (Am (Ai (i:=4) nd rfl (Or.inl rfl)) (Am (Ai (i:=5) nd rfl (Or.inl rfl)) (Am (Ai (i:=6) nd rfl (Or.inl rfl)) Bu))))
    (Af (Cp hu (Bj hu (pv 3) (pv 4) (fun _ _=>rfl)) (pv 5) (pv 6) rfl) (Ak (Cp hu (Bj hu (pv 3) (pv 5) (fun _ _=>rfl)) (pv 4) (pv 6) rfl))))
   (Ak (AM (pv 3))))),?_⟩
  exists _,rfl,q,_,rfl,AG.of hq,rfl,_,_,rfl,_,_,rfl,rfl;refine ⟨_,rfl,tp,rfl,⟨_,AG.of htp⟩,fun C hC=>⟨fun i m Aq H'=>m=ps.length - i/\i<=ps.length/\(∃ v,Aq=[v])/\∃ ds:List Addr,Au H H'/\ds.length=i/\ds.Nodup/\C ∉ ds/\(∀ d ∈ ds,H d=none/\H' d=some (.dK []))/\H' C=some (.dK (sK (LR (ps.take i) ds))),
   ⟨_,rfl,WR _,⟨_,rfl⟩,[],Ac hC,rfl,.nil,by simp,by simp,Ab⟩,?_⟩⟩
  rintro i m Aq H' ⟨rfl,hi,⟨v,rfl⟩,ds,s1,dl,dn,dC,dH,Ma⟩;have KY:=s1 _ _ htp;by_cases BH:i < ps.length
  ·refine .inr ⟨⟨_,V.str ps[i],AG.of KY,by rw [Wy,Wk BH]; rfl⟩,?_⟩;rintro x H6 ⟨rfl,hx⟩;have Nr:=hx _ (AG.of KY);rw [Wy,Wk BH] at Nr;cases Nr
   have tl:(ps.take i).length=i:=by rw [WW]; lia
   have np:ps[i] ∉ (LR (ps.take i) ds).map (·.1):=by
    rw [GP (by lia)];intro hm;obtain ⟨j,hj,e⟩:=W2 hm;rw [XW] at e;have:=FP ok.nd (Wk (show j < ps.length by lia)) (by rw [Wk BH,e]);lia
   refine ⟨_,rfl,fun d hd=>⟨_,Sum.inr ps[i],rfl,Ac hd _ _ Ma,?_,_,by lia,rfl,BH,⟨_,rfl⟩,ds ++ [d],fun b o z=>?_,by simp [dl],?_,?_,fun c hc=>?_,?_⟩⟩
   ·rw [Ca];unfold LR;rw [Wj,YM];lia
   ·rw [Ae (Ah z hC)];exact Ac hd _ _ (s1 _ _ z)
   ·refine Xq.mpr ⟨dn,Xm.mpr ⟨by simp,.nil⟩,fun a ha b hb=>?_⟩;have e:b=d:=by simpa using hb
    subst e;rintro rfl;rw [(dH _ ha).2] at hd;cases hd
   ·rw [W9,not_or];refine ⟨dC,fun hm=>?_⟩;have e:C=d:=by simpa using hm
    rw [<-e,Ma] at hd;cases hd
   ·rcases W9.mp hc with hc | hc
    ·exists (dH c hc).1;rw [Ae (fun z=>dC (by rw [<-z]; exact hc))];exact Ac hd _ _ (dH c hc).2
    ·have e:c=d:=by simpa using hc
     subst e;exists s1.free hd;rw [Ae (fun z=>by rw [z,Ma] at hd; cases hd)];exact Ab
   ·rw [Ab,Df np];have e1:ps.take (i + 1)=ps.take i ++ [ps[i]]:=by rw [W5,Wk BH]; rfl
    have e2:LR (ps.take (i + 1)) (ds ++ [d])=LR (ps.take i) ds ++ [(ps[i],.ref d)]:=by
     unfold LR;rw [e1,List.zip_append (by lia),W3];rfl
    rw [e2]
  ·have e0:i=ps.length:=by lia
   subst e0;rw [WD] at Ma;refine .inl ⟨⟨_,AG.of KY,by rw [Wj]; exact Wq _⟩,?_⟩;have NB0:NB H' C ps ds (J4 (ws.take 0)) 0:=⟨Ma,dl,dn,dC,fun j p d e1 e2=>⟨[],(dH d (Wo e2)).2,Wq _,fun y=>⟨fun z=>absurd z Wu,fun ⟨u,hu,_⟩=>absurd hu Wu⟩⟩⟩
   have Wi:PV H' ps ds (BV (ws.take 0)):=fun j p d nv e1 e2 hr y v hy=>by
    have:nv=[]:=Rd.inj hr (.inl (dH d (Wo e2)).2);subst this;cases hy
   have hwl:us.length=ws.length:=by rw [Hn hD,Wj]
   refine ⟨_,rfl,tw,rfl,⟨_,AG.of (s1 _ _ htw)⟩,Kb (xs:=us) (fun i σ H2=>(∃ v4 v5 v6,σ=[some (.ref q),some (.ref tp),some (.ref tw),some (.ref C),v4,v5,v6])/\Au H H2/\NB H2 C ps ds (J4 (ws.take i)) (2 * i)/\PV H2 ps ds (BV (ws.take i))) ⟨⟨_,_,_,rfl⟩,s1,NB0,Wi⟩ (fun i σ H2 _ hP=>AG.of (hP.2.1 _ _ htw)) (fun i x σ H2 hx hP rt bk=>?_) (fun σ H2 hP=>?_)⟩
   ·obtain ⟨⟨v4,v5,v6,rfl⟩,s2,nb,nbv⟩:=hP;obtain ⟨u,t,gu,rfl,ht⟩:=Hm hD hx;have So:i < ws.length:=(Wt.mp gu).1;have hu2:=ok.ends u (Wo gu);exists t,_,rfl,AG.of (s2 _ _ ht),rfl,_,_,rfl,_,_,rfl,_,_,rfl,rfl;obtain ⟨j,d,nv,a1,a2,a3,a4,a5,a6⟩:=nb.get ok.nd hu2.1;obtain ⟨Dr,b1,b2,b3⟩:=K6 nv u.2.1 (.int u.2.2);have dH1:∀ c ∈ ds,H c=none:=fun c hc=>(dH c hc).1
    exists _,rfl,_,rfl,_,rfl,C,_,rfl,?_,_,rfl,d,_,rfl,DO.k (k:=Sum.inr u.2.1) a4 (by rw [Ca]; lia)
    ·have:=BX.k (k:=Sum.inr u.1) nb.top;rw [a3] at this;exact this
    rw [b1];have Hw:=nb.put ok.nd a1 a2 a4 b2 b3 a6 a5;have T7:=nbv.put ok.nd nb.nd a1 a2 a4 b1 (fun _ _ _=>Na) (Kd gu);have s3:Au H (upd H2 d (.dK (sK Dr))):=fun b o z=>by
     rw [Ae (Ah z (dH1 d (Wo a2)))];exact s2 _ _ z
    generalize upd H2 d (.dK (sK Dr))=H3 at Hw T7 s3 ⊢;obtain ⟨j',d',mv,c1,c2,c3,c4,c5,c6⟩:=Hw.get ok.nd hu2.2;obtain ⟨mv',e1,e2,e3⟩:=K6 mv u.1 (.int u.2.2);exists _,rfl,_,rfl,_,rfl,C,_,rfl,?_,_,rfl,d',_,rfl,DO.k (k:=Sum.inr u.1) c4 (by rw [Ca]; lia)
    ·have:=BX.k (k:=Sum.inr u.2.1) Hw.top;rw [c3] at this;exact this
    rw [e1];have nb3:=Hw.put ok.nd c1 c2 c4 e2 e3 c6 c5;have Vm:=T7.put (Ed':=BV (ws.take (i + 1))) ok.nd Hw.nd c1 c2 c4 e1 (fun _ _ _ h=>h) (Kd gu).symm;refine ⟨⟨_,_,_,rfl⟩,fun b o z=>?_,nb3.mono (fun a b=>(Pn gu a b).symm) (by lia),Vm⟩;rw [Ae (Ah z (dH1 d' (Wo c2)))];exact s3 _ _ z
   ·obtain ⟨⟨v4,v5,v6,rfl⟩,s2,nb,nbv⟩:=hP;rw [hwl,WD] at nb nbv;exact ⟨_,rfl,k H2 C ds s2 (nb.mono (fun _ _=>Iff.rfl) (by lia)) nbv hC fun d hd=>(dH d hd).1⟩
end
section
variable {P:Program} {w:World} {K:Wm} {mg:Str->Option Value} {base:Heap}
structure NbF (K:Wm) (mg:Str->Option Value) (f:Addr) (fd:FuncData):Prop where
 F:Ew K "neighbours" "neighbours" CA f fd
 mg:mg "neighbours"=some (.ref f)
 b:FY K fd ["web"] []
theorem KC {f fN:Addr} {fd fdN:FuncData} (NK:NbF K mg fN fdN) (hmi:mg "min"=none) (F:Ew K "nearest" "nearest" Ei f fd):AH P w K mg base BJ 2 f fd ["web","starts"] (NS K):=by
 have GN:AH P w K mg base BJ 1 fN fdN ["web"] (NT K):=GH NK.F;refine F.ok G2 (fun vs H Q E h=>?_) (fun cdv A outer s H vs Q E hr h=>?_)
 ·obtain ⟨q,st,ps,ss,ws,r,rfl,_⟩:=h;rfl
 ·obtain ⟨q,st,ps,ss,ws,r,rfl,ok,pos,uniq,hst,ssne,ssn,sssub,k⟩:=h;have nd:=G2.nd;have hu:=Du hr;have Jn:=hr.units;have big:1000 < sizeLine:=by decide
  have l30:=ok.l30;have ssl:ss.length<=30:=by
   have:=Cb ssn sssub;lia
  refine ⟨_,Af (Ap (i:=2) nd rfl (Or.inl rfl) (Aj GN hr (by rfl) NK.mg NK.F.kp NK.b .nil Ar (Aa (pv 0) Ad)))
   (Af (Ap (i:=3) nd rfl (Or.inr rfl) (GC (N:=["start"]) (σ0:=fun _=>[none]) rfl (AE.plain (by decide +kernel) (by decide +kernel) rfl (by decide +kernel)) (fun σ _=>AK.none _ _ _ ["start"] σ) (PI.or (AN K rfl (pv 1)) (Bb K rfl (pv 1)))
    (fun s2 H C fp=>⟨Ai (i:=0) (show (["start"]:List Str).Nodup by decide +kernel) rfl (Or.inl rfl),Bh,pv 0,AQ (Aa Ag (Aa (pv 0) Ad))⟩)))
   (Af (Ap (i:=4) nd rfl (Or.inl rfl) GB)
   (Af (Om PassesOwn.never (G7 (pv 3) (fun _=>rfl))
    (Af (DU (LJ (Ao (Hr rfl Jn) (by rfl) hmi PyProof.Rows.boot_min (Aa
      (Bz (N:=["name","reached"]) (σ0:=fun σ=>[none,some 3].map fun j=>j.bind fun j=>(σ[j]?).join) rfl
       (AE.caught (by rfl) (by decide +kernel) rfl (by decide +kernel) (by intro y hy; simp only [Wn,Wu,or_false] at hy; rcases hy with rfl <;> rfl)
        (by intro y hy e; simp only [Wn,Wu,or_false] at hy; rcases hy with rfl | rfl | rfl <;> first | exact ⟨_,rfl⟩ | cases e))
       (fun σ _=>AK.of [none,some 3] rfl (by
        intro i j x h1 h2;match i,h1,h2 with
        | 0,_,h2=>cases h2
        | 1,h1,h2=>cases h1; cases h2; exact ⟨rfl,.inl rfl,.inl rfl⟩
        | n + 2,h1,_=>cases h1)) (Gk (pv 3))
       (fun s2 H C fp=>⟨Ai (i:=0) (show (["name","reached"]:List Str).Nodup by decide +kernel) rfl (Or.inl rfl),Bh,AQ (Aa (Bj hu (pv 1) (pv 0) (fun _ _=>rfl)) (Aa (pv 0) Ad))⟩)) Ad)))
      (Bv K rfl rfl (Am (Bv K rfl rfl (Am (Ai (i:=5) nd rfl (Or.inl rfl)) (Am (Ai (i:=6) nd rfl (Or.inl rfl)) Bu))) (Am (Ai (i:=7) nd rfl (Or.inl rfl)) Bu))))
    (Af (Qp (pv 3) (pv 7))
    (Af (Cp hu (pv 4) (pv 7) (AQ (Aa (pv 5) (Aa (pv 6) Ad))) rfl)
    (Ak (Bi PassesOwn.never rfl (Gk (Bj hu (pv 2) (pv 7) (fun _ _=>rfl))) (Ai (i:=8) nd rfl (Or.inl rfl))
     (Ak (CK (EA (Ih hu (pv 8) (pv 4)))
      (Af (Ap (i:=9) nd rfl (Or.inl rfl) (AQ (Aa (Av Bg (pv 5) (Bj hu (Bj hu (pv 2) (pv 7) (fun _ _=>rfl)) (pv 8) (fun _ _=>rfl))) (Aa (pv 6) Ad))))
      (Ak (Cp hu (pv 3) (pv 8) (Ao (HJ rfl Jn) (by rfl) hmi PyProof.Rows.boot_min (Aa (pv 9) (Aa (Ou hu (pv 3) (pv 8) (pv 9) ⟨rfl,rfl,rfl,rfl⟩) Ad))) rfl))) BC))))))))
   (Ak (AM (pv 4)))))),?_⟩
  refine ⟨_,rfl,q,ps,ws,r,rfl,ok,fun H1 B ds s1 nb nbv hB hds=>?_⟩;have nbAt:∀ a,a ∈ ds->∃ u,H1 a=some u:=fun a hm=>by
   obtain ⟨i,hi,e⟩:=W2 hm;have So:i < ps.length:=by rw [<-nb.len]; exact hi
   obtain ⟨nv,a1,_⟩:=nb.inner i ps[i] a (Wk So) (by rw [Wk hi,e]);exact ⟨_,a1⟩
  have Tf:=nb.top;rcases hst with hst | hst
  case' inl=>
   refine .inl ⟨_,rfl,st,rfl,⟨_,AD.of (s1 _ _ hst)⟩,fun RA hRA=>?_⟩
  case' inr=>
   refine .inr ⟨_,rfl,st,rfl,⟨_,AG.of (s1 _ _ hst)⟩,fun RA hRA=>?_⟩
  all_goals
   refine ⟨fun i m Aq H'=>m=ss.length - i/\i<=ss.length/\(∃ v,Aq=[v])/\∃ nv:List (Str × V),Au H1 H'/\H' RA=some (.dK (sK nv))/\nv.map (·.1)=ss.take i/\∀ y v,(y,v) ∈ nv->IJ H' v (0,y),
    ⟨_,rfl,WR _,⟨_,rfl⟩,[],Ac hRA,Ab,rfl,fun y v hy=>absurd hy Wu⟩,?_⟩
   rintro i m Aq H' ⟨rfl,hi,⟨v,rfl⟩,nv,s2,Ma,nk,np⟩;have KZ:=s2 _ _ (s1 _ _ hst);by_cases BH:i < ss.length
   ·refine .inr ⟨⟨_,V.str ss[i],by first | exact AD.of KZ | exact AG.of KZ,by rw [Wy,Wk BH]; rfl⟩,?_⟩;rintro x H6 ⟨rfl,hx⟩;have Nr:=hx _ (by first | exact AD.of KZ | exact AG.of KZ);rw [Wy,Wk BH] at Nr;cases Nr
    have nn:ss[i] ∉ nv.map (·.1):=by
     rw [nk];intro hm;obtain ⟨j,hj,e⟩:=W2 hm;rw [WW] at hj;rw [XW] at e;have:=FP ssn (Wk (show j < ss.length by lia)) (by rw [Wk BH,e]);lia
    have nl:nv.length=i:=by
     have:=congrArg XI nk;rw [Wj,WW] at this;lia
    refine ⟨_,rfl,_,rfl,(by show 2<=sizeLine; lia),fun t ht=>⟨_,Sum.inr ss[i],rfl,Ac ht _ _ Ma,by rw [Ca]; lia,_,by lia,rfl,BH,⟨_,rfl⟩,nv ++ [(ss[i],.ref t)],fun b o z=>?_,by rw [Ab,Df nn],?_,fun y v hy=>?_⟩⟩
    ·rw [Ae (Ah z hRA)];exact Ac ht _ _ (s2 _ _ z)
    ·rw [W3,nk,W5,Wk BH]; rfl
    ·have tk:∀ b xs,(upd H6 t (.tup [.int 0,.str ss[i]])) b=some (.tup xs)->(upd (upd H6 t (.tup [.int 0,.str ss[i]])) RA (.dK (BK (sK nv) (Sum.inr ss[i]:AV) (.ref t)))) b=some (.tup xs):=fun b xs z=>by
      rw [Ae (Br z (Ac ht _ _ Ma) (by intro z; cases z))]; exact z
     rcases W9.mp hy with hy | hy
     ·exact (np y v hy).same fun b xs z=>tk b xs (Ac ht _ _ z)
     ·simp only [Wz,Prod.mk.injEq] at hy;obtain ⟨rfl,rfl⟩:=hy;exact ⟨t,rfl,tk _ _ Ab⟩
   ·have e0:i=ss.length:=by lia
    subst e0;rw [WD] at nk;refine .inl ⟨⟨_,by first | exact AD.of KZ | exact AG.of KZ,by rw [Wj]; exact Wq _⟩,fun SA hSA=>?_⟩;have sS:=Ac (o:=.dK []) hSA;have aR:RA ∉ ds/\RA ≠ B/\RA ≠ SA/\H RA=none:=⟨(fun hm=>by obtain ⟨u,e⟩:=nbAt RA hm; rw [hRA] at e; cases e),(fun z=>by rw [z,Tf] at hRA; cases hRA),(fun z=>by rw [<-z,Ma] at hSA; cases hSA),s1.free hRA⟩
    have aS:SA ∉ ds/\SA ≠ B/\SA ≠ RA/\H SA=none:=⟨(fun hm=>by obtain ⟨u,e⟩:=nbAt SA hm; rw [s2 _ _ e] at hSA; cases hSA),(fun z=>by rw [z,s2 _ _ Tf] at hSA; cases hSA),(fun z=>aR.2.2.1 z.symm),(s1.trans s2).free hSA⟩
    have s3:Au H1 (upd H' SA (.dK [])):=s2.trans sS;have N0:NI H (upd H' SA (.dK [])) ps ws B RA SA ds nv [] (fun _ _=>False) (fun y p=>y ∈ ss/\p=(0,y)):=by
     refine ⟨s1.trans s3,nb.r.same s3,nbv.of nb.r (fun d _ nv z=>by rcases z with a | ⟨o,a⟩; exact .inl (s3 _ _ a); exact .inr ⟨o,s3 _ _ a⟩),sS _ _ Ma,Ab,⟨by rw [nk]; exact ssn,fun y v hy=>⟨(0,y),(np y v hy).same fun b xs z=>sS _ _ z,by rw [<-nk]; exact W4.mpr ⟨_,hy,rfl⟩,rfl⟩,fun y p hp=>?_⟩,⟨.nil,fun y v hy=>absurd hy Wu,fun y p hp=>hp.elim⟩,fun y hy=>sssub y (by rw [<-nk]; exact hy),fun y hy=>absurd hy Wu⟩;obtain ⟨hy,rfl⟩:=hp;rw [<-nk] at hy;obtain ⟨⟨z,v⟩,a,b⟩:=W4.mp hy;have b':z=y:=b;subst b';exact ⟨v,a,(np z v a).same fun b xs z=>sS _ _ z⟩
    have D0:Rc ws ss (fun _ _=>False) (fun y p=>y ∈ ss/\p=(0,y)):=⟨fun _ _ h=>h.elim,fun y p ⟨h1,h2⟩=>by subst h2; exact ⟨h1,.nil y⟩,fun _ _ _ _ h=>h.elim,fun s hs=>.inr ⟨(0,s),⟨hs,rfl⟩,CW.refl _⟩⟩
    clear Ma KZ np;generalize upd H' SA (.dK [])=H5 at N0 ⊢;refine ⟨fun m σ H2=>∃ nvR nvS S R v5 v6 v7 v8 v9,m=ps.length - nvS.length/\σ=[some (.ref q),some (.ref st),some (.ref B),some (.ref RA),some (.ref SA),v5,v6,v7,v8,v9]/\NI H H2 ps ws B RA SA ds nvR nvS S R/\Rc ws ss S R/\∀ y p,R y p->∀ q,¬ S y q,
     ⟨_,nv,[],_,_,_,_,_,_,_,rfl,rfl,N0,D0,fun _ _ _ _ h=>h⟩,?_⟩
    clear N0 D0 hSA sS s3 s2 nk;rintro m σ H2 ⟨nvR,nvS,S,R,v5,v6,v7,v8,v9,rfl,rfl,N,Dj,dis⟩;exists _,rfl,_,.inr (.inr ⟨_,N.dR,rfl⟩);by_cases hne:nvR=[]
    ·subst hne;refine JX ?_;have all:∀ x ∈ ps,∃ q,S x q:=Dj.done (fun y p h=>by obtain ⟨v,a,_⟩:=N.pR.2.2 y p h; cases a) ssne ok.con (fun T x hx tx cl=>ok.con (fun z=>T z->T r) (fun h=>h) (fun a b hab h tb=>h (cl b a hab.symm tb)) x hx tx) sssub;refine ⟨_,rfl,k H2 SA nvS N.same aS.2.2.2 N.dS N.pS.1 (fun x=>⟨N.subS x,fun hx=>N.inS.mpr (all x hx)⟩) fun y v hy=>?_⟩;obtain ⟨p,h1,h2⟩:=N.pS.2.1 y v hy;exact ⟨p,h1,Dj.near y p h2⟩
    ·have V6:(!(sK nvR).isEmpty)=true:=by cases nvR with
      | nil=>exact absurd rfl hne
      | cons=>rfl
     rw [V6];refine MQ ?_;obtain ⟨NN,hNN⟩:∃ NN:St->Hp->Prop,NN=fun Aq H'=>∃ m',m' < ps.length - nvS.length/\∃ nvR nvS S R v5 v6 v7 v8 v9,m'=ps.length - nvS.length/\Aq=[some (.ref q),some (.ref st),some (.ref B),some (.ref RA),some (.ref SA),v5,v6,v7,v8,v9]/\NI H H' ps ws B RA SA ds nvR nvS S R/\Rc ws ss S R/\∀ y p,R y p->∀ q,¬ S y q:=⟨_,rfl⟩
     exists NN,fun Aq H' z=>by rw [hNN] at z; exact z
     have lR:=N.lenR;have lS:=N.lenS;refine ⟨_,rfl,RA,_,rfl,.inl N.dR,fun o H3 fz C hC=>?_⟩;have fz':H3=upd H2 RA (.frz o (.dK (sK nvR))):=by
      rcases fz with ⟨_,e⟩ | ⟨e,_⟩
      ·exact e
      ·rw [N.dR] at e; cases e
     have hR3:=fz.at;have Va:∀ b xs,H2 b=some (.tup xs)->H3 b=some (.tup xs):=fun b xs z=>by
      rw [fz.ne (Br z N.dR (by intro z; cases z))]; exact z
     refine ⟨fun i m Aq H'=>m=nvR.length - i/\i<=nvR.length/\(∃ v,Aq=[v,some (.ref RA)])/\∃ (acc:List V) (ks:List ((Int × Str) × Str)),Au H3 H'/\H' C=some (.lst acc)/\acc.length=i/\ks.length=i/\(∀ (j:Nat) v k,acc[j]? = some v->ks[j]? = some k->Rz H' v k)/\(∀ (j:Nat) y v,j < i->nvR[j]? = some (y,v)->∃ p,IJ H3 v p/\ks[j]? = some (p,y)),
      ⟨_,rfl,WR _,⟨_,rfl⟩,[],[],Ac hC,Ab,rfl,rfl,fun j v k h=>(by simp at h),fun j y v hj=>absurd hj (Xl _)⟩,?_⟩
     rintro i m Aq H' ⟨rfl,hi,⟨v,rfl⟩,acc,ks,s4,Ma,al,kl,hky,hks⟩;have Ul:=s4 _ _ hR3;have nCR:RA ≠ C:=Ah hR3 hC;by_cases BH:i < nvR.length
     ·refine .inr ⟨⟨Ul,by rw [Ca]; exact BH⟩,?_⟩;rintro z H6 ⟨rfl,key,v2,ek,rfl⟩;obtain ⟨y,ey,rfl⟩:=LB ek;have hm:=Wo ey;obtain ⟨p,hp,hRp⟩:=N.pR.2.1 y v2 hm;have hp3:=hp.same Va;refine ⟨_,rfl,_,rfl,RA,v2,rfl,.inl ⟨_,Sum.inr y,.inr ⟨o,Ul⟩,rfl,(C1 N.pR.1 hm).symm⟩,_,rfl,(by show 2<=sizeLine; lia),fun t ht=>?_⟩;have st:=Ac (o:=.tup [v2,.str y]) ht;have hC2:=st _ _ Ma;have tC:∀ b xs,(upd H6 t (.tup [v2,.str y])) b=some (.tup xs)->(upd (upd H6 t (.tup [v2,.str y])) C (.lst (acc ++ [.ref t]))) b=some (.tup xs):=fun b xs z=>by
       rw [Ae (Br z hC2 (by intro z; cases z))]; exact z
      refine ⟨acc,hC2,by lia,_,by lia,rfl,BH,⟨_,rfl⟩,acc ++ [.ref t],ks ++ [(p,y)],fun b u z=>?_,Ab,by simp [al],by simp [kl],fun j v k h1 h2=>?_,fun j y' v' hj h=>?_⟩
      ·rw [Ae (Ah z hC)];exact st _ _ (s4 _ _ z)
      ·by_cases hj:j < acc.length
       ·rw [WS hj] at h1;rw [WS (by lia)] at h2;exact (hky j v k h1 h2).same fun b xs z=>tC b xs (st _ _ z)
       ·rw [WQ (by lia)] at h1;rw [WQ (by lia)] at h2;have j0:j - acc.length=0:=by
         have:=(Wt.mp h1).1;simp at this;lia
        have j1:j - ks.length=0:=by lia
        rw [j0] at h1;rw [j1] at h2;cases h1
        cases h2
        obtain ⟨t2,e2,g2⟩:=hp3;subst e2;exact ⟨t,t2,rfl,tC _ _ Ab,t2,rfl,tC _ _ (st _ _ (s4 _ _ g2))⟩
      ·by_cases ej:j=i
       ·subst ej;rw [ey] at h;cases h
        exact ⟨p,hp3,by rw [WQ (by lia),kl,XE]; rfl⟩
       ·obtain ⟨p',a1,a2⟩:=hks j y' v' (by lia) h;exact ⟨p',a1,by rw [WS (by lia)]; exact a2⟩
     ·have e0:i=nvR.length:=by lia
      subst e0;have ksne:ks ≠ []:=by
       intro z;rw [z] at kl;exact hne (X4.mp kl.symm)
      refine .inl ⟨⟨Ul,by rw [Ca]; exact Wq _⟩,C,acc,ks,rfl,Ma,by lia,ksne,hky,fun v kk hk hKy hmin=>?_⟩;exists RA,o,sK nvR,Ul,fun ob w z=>?_
      ·have z':H RA=some (.frz ob w):=z;rw [aR.2.2.2] at z';cases z'
      obtain ⟨⟨d0,Gx⟩,here⟩:=kk;obtain ⟨t,t2,rfl,ht,t2',e2,DY⟩:=hKy;cases e2
      have t45:∀ b xs,H' b=some (.tup xs)->(upd H' RA (.dK (sK nvR))) b=some (.tup xs):=fun b xs z=>by
       rw [Ae (Br z Ul (by intro z; cases z))]; exact z
      have s25:Au H2 (upd H' RA (.dK (sK nvR))):=fun b u z=>by
       by_cases eb:b=RA
       ·subst eb;rw [N.dR] at z;cases z
        exact Ab
       ·rw [Ae eb];refine s4 _ _ ?_;rw [fz.ne eb]; exact z
      have N5:=N.grow s25;have ht5:=t45 _ _ ht;have TX:=t45 _ _ DY;have inR:∀ j y p,ks[j]? = some (p,y)->R y p:=fun j y p h=>by
       have hj:j < nvR.length:=by
        have:=(Wt.mp h).1;lia
       obtain ⟨p',a1,a2⟩:=hks j nvR[j].1 nvR[j].2 hj (Wk hj);rw [h] at a2;cases a2
       obtain ⟨p'',b1,b2⟩:=N.pR.2.1 _ _ (Xb hj);rw [a1.fn (b1.same Va)];exact b2
      have hRh:R here (d0,Gx):=by
       obtain ⟨j,hj,ej⟩:=W2 hk;exact inR j here (d0,Gx) (by rw [Wk hj,ej])
      have least:∀ z p,R z p->CW (d0,Gx) p:=fun z p hz=>by
       obtain ⟨v,a,b⟩:=N.pR.2.2 z p hz;obtain ⟨j,hj,ej⟩:=W2 a;obtain ⟨p',a1,a2⟩:=hks j z v hj (by rw [Wk hj,ej]);have:=a1.fn (b.same Va);subst this;exact hmin _ (Wo a2)
      have nSh:∀ q,¬ S here q:=dis here _ hRh;have nearH:Lk ws ss here (d0,Gx):=Dj.pick pos hRh nSh least;exists t,_,rfl,AG.of ht5,rfl,_,_,rfl,t2,_,rfl,AG.of TX,rfl,_,_,rfl,_,_,rfl,rfl,_,_,rfl,rfl;generalize upd H' RA (.dK (sK nvR))=H5 at N5 ht5 TX s25 ⊢;have hin:here ∈ nvR.map (·.1):=N5.inR.mpr ⟨_,hRh⟩;have hps:here ∈ ps:=N5.subR here hin;exists _,rfl,_,rfl,RA,_,Sum.inr here,rfl,N5.dR,rfl,by rw [G6,decide_eq_true hin]
      rw [Ql];have N6:=N5.setR aR (N5.pR.drop here) (fun y hy=>by
       obtain ⟨e,he,ee⟩:=W4.mp hy;exact N5.subR y (W4.mpr ⟨e,(Xf.mp he).1,ee⟩))
      generalize upd H5 RA (.dK (sK (nvR.filter fun q=>decide (q.1 ≠ here))))=H6 at N6 ⊢;have nhS:here ∉ nvS.map (·.1):=fun h=>by
       obtain ⟨q,hq⟩:=N6.inS.mp h;exact nSh q hq
      refine ⟨_,rfl,_,rfl,(by show 2<=sizeLine; lia),fun t3 V2=>?_⟩;have N7:=N6.grow (Ac (o:=.tup [.int d0,.str Gx]) V2);have TV:(upd H6 t3 (.tup [.int d0,.str Gx])) t3=some (.tup [.int d0,.str Gx]):=Ab;generalize upd H6 t3 (.tup [.int d0,.str Gx])=H7 at N7 TV ⊢;exists _,rfl,_,rfl,SA,_,rfl,DO.k (k:=Sum.inr here) N7.dS (by rw [Ca]; have:=N7.lenS; lia);rw [Df nhS];have N8:=N7.setS aS (N7.pS.put (Df nhS) (p:=(d0,Gx)) ⟨t3,rfl,TV⟩) (fun y hy=>by
       rw [W3] at hy;rcases W9.mp hy with hy | hy
       ·exact N7.subS y hy
       ·have:y=here:=by simpa using hy
        rw [this]; exact hps)
      generalize upd H7 SA (.dK (sK (nvS ++ [(here,.ref t3)])))=H8 at N8 ⊢;obtain ⟨S',OS⟩:∃ S':Str->Int × Str->Prop,S'=fun z q=>(z=here/\q=(d0,Gx))\/(z ≠ here/\S z q):=⟨_,rfl⟩
      obtain ⟨MC,hnvS⟩:∃ MC:List (Str × V),MC=nvS ++ [(here,.ref t3)]:=⟨_,rfl⟩
      rw [<-OS,<-hnvS] at N8;have nSl:MC.length=nvS.length + 1:=by rw [hnvS]; simp
      have nearS:∀ y q,S' y q->Lk ws ss y q:=fun y q h=>by
       rw [OS] at h;rcases h with ⟨rfl,rfl⟩ | ⟨_,h⟩
       ·exact nearH
       ·exact Dj.near y q h
      have hSh:S' here (d0,Gx):=by rw [OS]; exact .inl ⟨rfl,rfl⟩
      have toS:∀ y q,S y q->∃ q',S' y q':=fun y q h=>by
       by_cases e:y=here
       ·rw [e]; exact ⟨_,hSh⟩
       ·exact ⟨q,by rw [OS]; exact .inr ⟨e,h⟩⟩
      obtain ⟨i0,d,Qz,a1,a2,a3,a4,a5⟩:=N8.nr.get ok.nd hps;have dm:=Wo a2;refine ⟨_,rfl,_,rfl,B,.ref d,rfl,?_,d,sK Qz,rfl,a4,fun o9 H9 fz9=>?_⟩
      ·have:=BX.k (k:=Sum.inr here) N8.nr.top;rw [a3] at this;exact this
      have N9:=N8.frz aR.1 aS.1 hds a1 a2 fz9 a5;obtain ⟨Pv,hPv⟩:∃ Pv:Nat->St->Hp->Prop,Pv=fun i σ H'=>∃ FZ R' v8 v9,σ=[some (.ref q),some (.ref st),some (.ref B),some (.ref RA),some (.ref SA),some (.int d0),some (.str Gx),some (.str here),v8,v9]/\NI H H' ps ws B RA SA ds FZ MC S' R'/\H' d=some (.frz o9 (.dK (sK Qz))) /\
        (∀ y p,R' y p->p.2 ∈ ss/\Bo ws p.2 y p.1)/\(∀ s ∈ ss,(∃ q,S' s q)\/∃ q,R' s q/\CW q (0,s)) /\
        (∀ x q y l,S' x q->BV ws x y l->(∃ q',S' y q')\/(∃ q',R' y q'/\CW q' (q.1 + l,q.2))\/(x=here/\∀ (j:Nat) (v:V),j < i->Qz[j]? ≠ some (y,v)))/\(∀ y p,R' y p->∀ q,¬ S' y q):=⟨_,rfl⟩
      refine MX (a:=d) (o:=o9) (kvs:=sK Qz) Pv ?_ (fun i σ H' _ hP=>by rw [hPv] at hP; obtain ⟨_,_,_,_,_,_,z,_⟩:=hP; exact z) (fun i key v σ H' hx hP rt bk=>?_) (fun σ H' hP=>?_)
      ·rw [hPv];refine ⟨_,_,_,_,rfl,N9,fz9.at,fun y p h=>Dj.reach y p h.2,fun s hs=>?_,fun x qq y l hx he=>?_,fun y p h qq hq=>?_⟩
       ·rcases Dj.start s hs with ⟨qq,h⟩ | ⟨qq,h,le⟩
        ·exact .inl (toS s qq h)
        ·by_cases e:s=here
         ·rw [e]; exact .inl ⟨_,hSh⟩
         ·exact .inr ⟨qq,⟨e,h⟩,le⟩
       ·by_cases ex:x=here
        ·exact .inr (.inr ⟨ex,fun j v hj=>absurd hj (Xl _)⟩)
        ·rw [OS] at hx;rcases hx with ⟨h,_⟩ | ⟨_,hx⟩
         ·exact absurd h ex
         ·rcases Dj.relax x qq y l hx he with ⟨q',h⟩ | ⟨q',h,le⟩
          ·exact .inl (toS y q' h)
          ·by_cases e:y=here
           ·rw [e]; exact .inl ⟨_,hSh⟩
           ·exact .inr (.inl ⟨q',⟨e,h⟩,le⟩)
       ·rw [OS] at hq;rcases hq with ⟨h2,_⟩ | ⟨_,h2⟩
        ·exact h.1 h2
        ·exact dis y p h.2 qq h2
      ·rw [hPv] at hP;obtain ⟨FZ,R',v8,v9,rfl,PX,hf,rch,sta,rel,QQ⟩:=hP;obtain ⟨y,e1,rfl⟩:=LB hx;have hym:=Wo e1;obtain ⟨w0,hw0⟩:∃ w0,Bn (sK Qz) (Sum.inr y:AV)=some w0:=by
        have:(Bn (sK Qz) (Sum.inr y:AV)).isSome=true:=by rw [G6,decide_eq_true (W4.mpr ⟨_,hym,rfl⟩)]
        exact Yp.mp this
       obtain ⟨l,rfl,ed⟩:=PX.nbv i0 here d Qz a1 a2 (.inr ⟨o9,hf⟩) y w0 (Ia hw0);have hyp:y ∈ ps:=by
        obtain ⟨u,hu,e⟩:=ed.adj;obtain ⟨q1,q2⟩:=ok.ends u hu;rcases e with ⟨_,e⟩ | ⟨e,_⟩
        ·rw [<-e]; exact q2
        ·rw [<-e]; exact q1
       exists _,rfl,_,rfl,SA,_,rfl,BX.k (k:=Sum.inr y) PX.dS,_,rfl;rw [G6];have step:∀ {z:Str},(∀ (j:Nat) (v:V),j < i->Qz[j]? ≠ some (z,v))->z ≠ y->∀ (j:Nat) (v:V),j < i + 1->Qz[j]? ≠ some (z,v):=fun h2 hz j v hj e=>by
        by_cases ej:j=i
        ·subst ej;rw [e1] at e;cases e
         exact hz rfl
        ·exact h2 j v (by lia) e
       by_cases hy:y ∈ MC.map (·.1)
       ·rw [decide_eq_true hy];refine JX ?_;show Pv (i + 1) _ _
        rw [hPv];refine ⟨FZ,R',_,_,rfl,PX,hf,rch,sta,fun x qq z l' Nr he=>?_,QQ⟩;rcases rel x qq z l' Nr he with h | h | ⟨h1,h2⟩
        ·exact .inl h
        ·exact .inr (.inl h)
        ·by_cases ez:z=y
         ·rw [ez]; exact .inl (PX.inS.mp hy)
         ·exact .inr (.inr ⟨h1,step h2 ez⟩)
       ·rw [decide_eq_false hy];refine MQ ?_;have nSy:∀ qq,¬ S' y qq:=fun qq h=>hy (PX.inS.mpr ⟨qq,h⟩)
        have dgT:BX H' B (.str here) (some (.ref d)):=by
         have:=BX.k (k:=Sum.inr here) PX.nr.top;rw [a3] at this;exact this
        refine ⟨_,rfl,_,rfl,_,rfl,B,.ref d,rfl,dgT,_,rfl,d,.int l,rfl,.inl ⟨_,Sum.inr y,.inr ⟨o9,hf⟩,rfl,hw0.symm⟩,_,_,rfl,rfl,_,rfl,(by show 2<=sizeLine; lia),fun t4 ht4=>?_⟩;have s4':=Ac (o:=.tup [.int (d0 + l),.str Gx]) ht4;have Nu:=PX.grow s4';have Uh:=s4' _ _ hf;have TU:(upd H' t4 (.tup [.int (d0 + l),.str Gx])) t4=some (.tup [.int (d0 + l),.str Gx]):=Ab;generalize upd H' t4 (.tup [.int (d0 + l),.str Gx])=Rb at Nu Uh TU ⊢;have cand:IJ Rb (.ref t4) (d0 + l,Gx):=⟨t4,rfl,TU⟩
        have candW:Gx ∈ ss/\Bo ws Gx y (d0 + l):=⟨nearH.1.1,nearH.1.2.snoc ed⟩
        have lR':=Nu.lenR;have fin:∀ (x:V) (pn:Int × Str),IJ Rb x pn->CW pn (d0 + l,Gx)->(∀ old,R' y old->CW pn old)->(pn.2 ∈ ss/\Bo ws pn.2 y pn.1) ->
          Pv (i + 1) [some (.ref q),some (.ref st),some (.ref B),some (.ref RA),some (.ref SA),some (.int d0),some (.str Gx),some (.str here),some (.str y),some (.ref t4)] (upd Rb RA (.dK (BK (sK FZ) (Sum.inr y:AV) x))):=by
         intro x pn hx1 hle hold hW;obtain ⟨nv2,p1,p2,p3⟩:=K6 FZ y x;rw [p1,hPv];have N12:=Nu.setR aR (Nu.pR.put p1 hx1) (fun z hz=>by
          rcases (p3 z).mp hz with hz | rfl
          ·exact Nu.subR z hz
          ·exact hyp)
         refine ⟨nv2,_,_,_,rfl,N12,?_,fun z p hz=>?_,fun s hs=>?_,fun x' qq z l' Nr he=>?_,fun z p hz qq hq=>?_⟩
         ·rw [Ae (fun z=>aR.1 (by rw [<-z]; exact dm))]; exact Uh
         ·rcases hz with ⟨rfl,rfl⟩ | ⟨_,hz⟩
          ·exact hW
          ·exact rch z p hz
         ·rcases sta s hs with h | ⟨qq,h,le⟩
          ·exact .inl h
          ·by_cases e:s=y
           ·subst e;exact .inr ⟨pn,.inl ⟨rfl,rfl⟩,(hold qq h).trans le⟩
           ·exact .inr ⟨qq,.inr ⟨e,h⟩,le⟩
         ·rcases rel x' qq z l' Nr he with h | ⟨q',h,le⟩ | ⟨h1,h2⟩
          ·exact .inl h
          ·by_cases e:z=y
           ·subst e;exact .inr (.inl ⟨pn,.inl ⟨rfl,rfl⟩,(hold q' h).trans le⟩)
           ·exact .inr (.inl ⟨q',.inr ⟨e,h⟩,le⟩)
          ·by_cases e:z=y
           ·subst e;subst h1;have e2:=uniq _ _ _ _ he ed;subst e2;have e3:=Nu.pS.fn Nr hSh;subst e3;exact .inr (.inl ⟨pn,.inl ⟨rfl,rfl⟩,hle⟩)
           ·exact .inr (.inr ⟨h1,step h2 e⟩)
         ·rcases hz with ⟨rfl,rfl⟩ | ⟨_,hz⟩
          ·exact nSy qq hq
          ·exact QQ z p hz qq hq
        have put:∀ {x:V},DO Rb RA (.str y) x (upd Rb RA (.dK (BK (sK FZ) (Sum.inr y:AV) x))):=fun {x}=>DO.k (k:=Sum.inr y) Nu.dR (by rw [Ca]; lia)
        obtain ⟨w1,pq,ew,hw1,hold,hWq⟩:∃ w1 pq,(Bn (sK FZ) (Sum.inr y:AV)).getD (.ref t4)=w1/\IJ Rb w1 pq/\(∀ old,R' y old->CW pq old)/\(pq.2 ∈ ss/\Bo ws pq.2 y pq.1):=by
         cases hv:Bn (sK FZ) (Sum.inr y:AV) with
         | none=>
          refine ⟨_,_,rfl,cand,fun old h=>?_,candW⟩;have h1:y ∈ FZ.map (·.1):=Nu.inR.mpr ⟨old,h⟩;have h2:(Bn (sK FZ) (Sum.inr y:AV)).isSome=true:=by rw [G6,decide_eq_true h1]
          rw [hv] at h2;cases h2
         | some w1=>
          obtain ⟨pq,h1,h2⟩:=Nu.pR.2.1 y w1 (Ia hv);exact ⟨w1,pq,rfl,h1,fun old h=>by rw [Nu.pR.fn h2 h]; exact CW.refl _,rch y pq h2⟩
        refine ⟨_,rfl,_,rfl,RA,rfl,.inl ⟨_,.inl Nu.dR⟩,_,rfl,_,rfl,_,BX.k (k:=Sum.inr y) Nu.dR,_,_,(d0 + l,Gx),pq,rfl,cand,(by rw [ew]; exact hw1),fun le=>⟨_,rfl,_,rfl,RA,_,rfl,put,?_⟩,fun le=>⟨_,rfl,_,rfl,RA,_,rfl,put,?_⟩⟩
        ·rw [ew];exact fin w1 pq hw1 le hold hWq
        ·exact fin (.ref t4) _ cand (CW.refl _) (fun old h=>le.trans (hold old h)) candW
      ·rw [hPv] at hP;obtain ⟨FZ,R',v8,v9,rfl,PX,hf,rch,sta,rel,QQ⟩:=hP;show NN _ _
       rw [hNN];refine ⟨_,?_,FZ,MC,S',R',_,_,_,_,_,rfl,rfl,PX,⟨nearS,rch,fun x qq y l hx he=>?_,sta⟩,QQ⟩
       ·have:=PX.lenS;lia
       ·rcases rel x qq y l hx he with h | h | ⟨rfl,h2⟩
        ·exact .inl h
        ·exact .inr h
        ·exfalso
         obtain ⟨⟨z,v⟩,Kq,e⟩:=W4.mp ((a5 y).mpr he.adj);have e':z=y:=e;subst e';obtain ⟨j,hj,e2⟩:=W2 Kq;exact h2 j v (by rw [Ca]; exact hj) (by rw [Wk hj,e2])
end
section
variable {P:Program} {w:World} {K:Wm} {mg:Str->Option Value} {base:Heap}
structure NeF (K:Wm) (mg:Str->Option Value) (fN:Addr) (fdN:FuncData) (f:Addr) (fd:FuncData):Prop where
 N:NbF K mg fN fdN
 mi:mg "min"=none
 F:Ew K "nearest" "nearest" Ei f fd
 mg:mg "nearest"=some (.ref f)
 b:FY K fd ["web","starts"] []
theorem LO {f fN fE:Addr} {fd fdN fdE:FuncData} (EK:NeF K mg fN fdN fE fdE) (F:Ew K "fars" "fars" IW f fd):AH P w K mg base BJ 3 f fd ["web","place"] (NV K):=by
 have GE:AH P w K mg base BJ 2 fE fdE ["web","starts"] (NS K):=KC EK.N EK.mi EK.F;refine F.ok L5 (fun vs H Q E h=>?_) (fun cdv A outer s H vs Q E hr h=>?_)
 ·obtain ⟨q,ps,ws,r,x,rfl,_⟩:=h;rfl
 ·obtain ⟨q,ps,ws,r,x,rfl,ok,pos,uniq,hx,k⟩:=h;have hu:=Du hr;have nd:=L5.nd;have big:1000 < sizeLine:=by decide
  have l30:=ok.l30;refine ⟨_,Af (Ap (i:=2) nd rfl (Or.inr rfl) (Aj GE hr (by rfl) EK.mg EK.F.kp EK.b .nil Ar (Aa (pv 0) (Aa (Bq (Aa (pv 1) Ad)) Ad))))
   (Ak (AM (GC (N:=["name","told"]) (σ0:=fun σ=>[none,some 2].map fun j=>j.bind fun j=>(σ[j]?).join) rfl
      (AE.caught (by rfl) (by decide +kernel) rfl (by decide +kernel) (by intro y hy; simp only [Wn,Wu,or_false] at hy; rcases hy with rfl <;> rfl)
       (by intro y hy e; simp only [Wn,Wu,or_false] at hy; rcases hy with rfl | rfl | rfl <;> first | exact ⟨_,rfl⟩ | cases e))
      (fun σ _=>AK.of [none,some 2] rfl (by
       intro i j x h1 h2;match i,h1,h2 with
       | 0,_,h2=>cases h2
       | 1,h1,h2=>cases h1; cases h2; exact ⟨rfl,.inl rfl,.inl rfl⟩
       | n + 2,h1,_=>cases h1)) (Bb K rfl (AF (AL K rfl) (pv 0) Ag (fun _ _=>rfl)))
      (fun s2 H C fp=>⟨Ai (i:=0) (show (["name","told"]:List Str).Nodup by decide +kernel) rfl (Or.inl rfl),Bh,pv 0,AF (AL K rfl) (Bj hu (pv 1) (pv 0) (fun _ _=>rfl)) Ag (fun _ _=>rfl)⟩)))),?_⟩
  refine ⟨_,rfl,_,rfl,(by show 1<=sizeLine; lia),fun st hst=>?_⟩;have s0:=Ac (o:=.lst [.str x]) hst;refine ⟨q,st,ps,[x],ws,r,rfl,ok.same s0,pos,uniq,.inl Ab,by simp,Xm.mpr ⟨by simp,.nil⟩,by simpa using hx,fun H1 B nv s1 hB Tf nn nk nr=>?_⟩;have T4:=s0.trans s1;obtain ⟨tp,tw,us,hq,htp,htw,hD⟩:=ok.web.ex;refine ⟨_,rfl,q,_,0,.ref tp,rfl,rfl,AG.of (T4 _ _ hq),DB (j:=0) rfl,tp,rfl,⟨_,AG.of (T4 _ _ htp)⟩,fun C hC=>?_⟩;exists fun i m Aq H2=>m=ps.length - i/\i<=ps.length/\(∃ v,Aq=[v,some (.ref B)])/\∃ nc:List (Str × V),H2=upd H1 C (.dK (sK nc))/\nc.map (·.1)=ps.take i/\∀ y v,(y,v) ∈ nc->∃ n,v=.int n/\Jy ws x y n,⟨_,rfl,WR _,⟨_,rfl⟩,[],rfl,rfl,fun y v hy=>absurd hy Wu⟩
  rintro i m Aq H2 ⟨rfl,hi,⟨v,rfl⟩,nc,rfl,ncK,ncV⟩;have sC:=Ac (o:=.dK (sK nc)) hC;have KY:=sC _ _ (T4 _ _ htp);by_cases BH:i < ps.length
  ·refine .inr ⟨⟨_,V.str ps[i],AG.of KY,by rw [Wy,Wk BH]; rfl⟩,?_⟩;rintro z H6 ⟨rfl,hz⟩;have Gb:=hz _ (AG.of KY);rw [Wy,Wk BH] at Gb;cases Gb
   obtain ⟨⟨y,v2⟩,hm,e⟩:=W4.mp ((nk ps[i]).mpr (Xb BH));have e':y=ps[i]:=e;subst e';obtain ⟨p,⟨t,e2,ht⟩,hnr⟩:=nr ps[i] v2 hm;subst e2;have Ur:=sC _ _ Tf;have DY:=sC _ _ ht;have nn':ps[i] ∉ nc.map (·.1):=by
    rw [ncK];intro Kq;obtain ⟨j,hj,e⟩:=W2 Kq;rw [WW] at hj;rw [XW] at e;have:=FP ok.nd (Wk (show j < ps.length by lia)) (by rw [Wk BH,e]);lia
   have ncl:nc.length=i:=by
    have:=congrArg XI ncK;rw [Wj,WW] at this;lia
   refine ⟨_,rfl,_,rfl,_,rfl,B,.ref t,rfl,.inl ⟨_,Sum.inr ps[i],.inl Ur,rfl,(C1 nn hm).symm⟩,t,_,0,.int p.1,rfl,rfl,AG.of DY,DB (j:=0) rfl,_,Sum.inr ps[i],rfl,Ab,by rw [Ca]; lia,_,by lia,rfl,BH,⟨_,rfl⟩,nc ++ [(ps[i],.int p.1)],by rw [Ls,Df nn'],?_,fun y v hy=>?_⟩
   ·rw [W3,ncK,W5,Wk BH]; rfl
   ·rcases W9.mp hy with hy | hy
    ·exact ncV y v hy
    ·simp only [Wz,Prod.mk.injEq] at hy;obtain ⟨rfl,rfl⟩:=hy;exact ⟨p.1,rfl,hnr.dst.2⟩
  ·have e0:i=ps.length:=by lia
   subst e0;rw [WD] at ncK;exact .inl ⟨⟨_,AG.of KY,by rw [Wj]; exact Wq _⟩,k _ C nc (T4.trans sC) (T4.free hC) Ab ncK ncV⟩
end
section
variable {P:Program} {w:World} {K:Wm} {mg:Str->Option Value} {base:Heap}
end
section
variable {P:Program} {w:World} {K:Wm} {mg:Str->Option Value} {base:Heap}
theorem Fi {fF:Addr} {fdF:FuncData} (XF:Fn K mg "fars" IW ["web","place"] fF fdF) (GF:AH P w K mg base BJ 3 fF fdF ["web","place"] (NV K)) {f:Addr} {fd:FuncData} (F:Ew K "site_fars" "site_fars" C5 f fd):AH P w K mg base BJ 4 f fd ["case"] E8:=by
 refine F.ok EY (fun vs H Q E h=>?_) (fun cdv A outer s H vs Q E hr h=>?_)
 ·obtain ⟨c,m,n,xs,ws,A9,AJ,x,d,rfl,_⟩:=h;rfl
 ·obtain ⟨c,m,n,xs,ws,A9,AJ,x,d,rfl,cw,k⟩:=h;have nd:=EY.nd;have big:100000 < sizeLine:=by decide
  refine ⟨_,(Ak (AM (GC (N:=["place","price","case"]) (σ0:=fun σ=>[none,none,some 0].map fun j=>j.bind fun j=>(σ[j]?).join) rfl (AE.caught (by rfl) (by decide +kernel) rfl (by decide +kernel) (by intro y hy; simp only [Wn,Wu,or_false] at hy; rcases hy with rfl <;> rfl)
   (by intro y hy e; simp only [Wn,Wu,or_false] at hy; rcases hy with rfl | rfl | rfl | rfl | rfl <;> first | exact ⟨_,rfl⟩ | cases e)) (fun σ _=>AK.of [none,none,some 0] rfl (by
   intro i j x h1 h2;match i,h1,h2 with
   | 0,_,h2=>cases h2
   | 1,_,h2=>cases h2
   | 2,h1,h2=>cases h1; cases h2; exact ⟨rfl,.inl rfl,.inl rfl⟩
   | n + 3,h1,_=>cases h1)) (Bb K rfl (AF (AL K rfl) (pv 0) Ag (fun _ _=>rfl)))
   (fun s2 H C fp=>⟨(Bv K rfl (n:=2) rfl (Am (Ai (i:=0) (show (["place","price","case"]:List Str).Nodup by decide +kernel) rfl (Or.inl rfl)) (Am (Ai (i:=1) (show (["place","price","case"]:List Str).Nodup by decide +kernel) rfl (Or.inl rfl)) Bu))),Bh,(pv 0),(Aj GF (hr.mono (by decide)) (by rfl) XF.mg XF.F.kp XF.b .nil Ar (Aa (AF (AL K rfl) (pv 2) Ag (fun _ _=>rfl)) (Aa (pv 0) Ad)))⟩)))),?_⟩
  obtain ⟨t1,t2,De,HU,hc,Eu,Gd,DY,hd2⟩:=cw.ex;obtain ⟨r,okw,pos,uni⟩:=cw.map.web cw.n1 cw.n30;have ul:=B8 Gd;have l1:=cw.l1;exists _,rfl,c,_,_,_,rfl,rfl,AG.of hc,rfl,t1,rfl,⟨_,AG.of Eu⟩
  refine Ic Dp (xs:=De) (A9.map (·.1)) (by rw [Wj,ul]) cw.ok1.nd (fun D i σ H' nv=>∃ (v0 v1:Option V),σ=[v0,v1,some (.ref c)]/\Au H H'/\H' D=some (.dK (sK nv))/\nv.map (·.1)=(A9.map (·.1)).take i/\∀ s v,(s,v) ∈ nv->DF H' v xs ws s)
   (by lia) (fun D hD=>⟨_,_,rfl,Ac hD,Ab,rfl,fun s v hm=>nomatch hm⟩) (fun D i σ H' nv hD ⟨v0,v1,_,sa,Bd,nk,_⟩=>⟨AG.of (sa _ _ Eu),Bd,nk⟩) ?_ ?_
  ·rintro D i σ H' nv x' kk B hD ex ek ⟨v0,v1,rfl,sa,Bd,nk,nf⟩ hB;obtain ⟨u,t,eu,rfl,ht⟩:=BS Gd ex;have e:kk=u.1:=by
    rw [Wy,eu] at ek;exact (WA.inj ek).symm
   subst e;exists t,_,rfl,AG.of (sa _ _ ht),rfl,_,_,rfl,_,_,rfl,rfl;refine ⟨_,rfl,_,rfl,c,_,_,_,rfl,rfl,AG.of (sa _ _ hc),rfl,_,rfl,m,xs,ws,r,u.1,rfl,okw.same sa,pos,uni,cw.ok1.sub u (Wo eu),fun H1 B1 nb s1 fB Tf nbK nbV=>?_⟩;have Sx:=s1 _ _ Bd;refine hB _ _ _ Sx ⟨_,_,rfl,fun b o' z=>by rw [Ae (Ah z hD)]; exact s1 _ _ (sa _ _ z),Ab,?_,fun s v hm=>?_⟩
   ·rw [W3,nk,W5,ek];rfl
   ·have nB:∀ {b:Addr} {kv:List (AV × V)},b ≠ D->H1 b=some (.dK kv)->(upd H1 D (.dK (sK (nv ++ [(u.1,.ref B1)])))) b=some (.dK kv):=fun nb z=>by rw [Ae nb]; exact z
    rcases W9.mp hm with hm | hm
    ·obtain ⟨B2,Hw,rfl,z1,z2,z3⟩:=nf s v hm;by_cases e:B2=D
     ·subst e;rw [Bd] at z1;have e:=HO.dK.inj (WA.inj z1);have Tb:((Sum.inr s:AV),V.ref B2) ∈ sK Hw:=by rw [<-e]; exact W4.mpr ⟨_,hm,rfl⟩
      obtain ⟨⟨y,u'⟩,h1,h2⟩:=W4.mp Tb;cases h2
      obtain ⟨n',e',_⟩:=z3 _ _ h1;cases e'
     ·exact ⟨B2,Hw,rfl,nB e (s1 _ _ z1),z2,z3⟩
    ·simp only [Wz,Prod.mk.injEq] at hm;obtain ⟨rfl,rfl⟩:=hm;exact ⟨B1,nb,rfl,nB (fun z=>by rw [z,Bd] at fB; cases fB) Tf,nbK,nbV⟩
  ·rintro D σ H' nv hD ⟨v0,v1,rfl,sa,Bd,nk,nf⟩;rw [ul,show A9.length=(A9.map (·.1)).length by rw [Wj],WD] at nk;exact k H' D nv sa hD Bd nk nf
end
section
variable {P:Program} {w:World} {K:Wm} {mg:Str->Option Value} {base:Heap}
theorem DV (h_len:mg "len"=none) (h_min:mg "min"=none) {f:Addr} {fd:FuncData} (F:Ew K "most_houses" "most_houses" Cy f fd):AH P w K mg base BJ 1 f fd ["case"] NU:=by
 refine F.ok DR (fun vs H Q E h=>?_) (fun cdv A outer s H vs Q E hr h=>?_)
 ·obtain ⟨c,sites,x,d,rfl,_⟩:=h;rfl
 ·obtain ⟨c,sites,x,d,rfl,cs,k⟩:=h;have nd:=DR.nd;have big:100000 < sizeLine:=by decide
  refine ⟨_,(Af (DU (pv 0) (Bv K rfl rfl (Am (Ai (i:=1) nd rfl (Or.inl rfl)) (Am (Ai (i:=2) nd rfl (Or.inl rfl)) (Am (Ai (i:=3) nd rfl (Or.inl rfl)) (Am (Ai (i:=4) nd rfl (Or.inl rfl)) Bu))))))
  (Ak (AM (Ot (EA (KA (pv 4))) (Ao (Ax K rfl) (by rfl) h_len PySem.boot_len (Aa (pv 2) Ad)) (Ao (FF rfl) (by rfl) h_min PyProof.Rows.boot_min (Aa (pv 4) (Aa (Ao (Ax K rfl) (by rfl) h_len PySem.boot_len (Aa (pv 2) Ad)) Ad))))))),?_⟩
  obtain ⟨mV,t2V,t1,De,A9,hc,Eu,Gd,rfl,snd,sl,lim⟩:=cs;have ul:=B8 Gd;exists _,rfl,c,_,rfl,AG.of hc,rfl,_,_,rfl,_,_,rfl,_,_,rfl,_,_,rfl,rfl;exists _,rfl,_,rfl;rcases lim with ⟨rfl,_⟩ | ⟨lm,rfl,_,lm1,lm2⟩
  ·refine Cf (fun _=>?_) (fun z=>by simp at z);exists _,rfl,t1,_,rfl,.inr (AG.of Eu);refine k _ (by lia) fun j hj=>?_
   rw [Wj] at hj;simp only [Q5,iff_true];lia
  ·refine Cf (fun z=>by simp at z) (fun _=>?_);exists _,rfl,_,rfl,t1,_,rfl,.inr (AG.of Eu),_,_,rfl;refine k _ (by split <;> lia) fun j hj=>?_
   rw [Wj] at hj;simp only [Q5,decide_eq_true_eq];split <;> lia
theorem FN (h_len:mg "len"=none) (h_sorted:mg "sorted"=none) {fM:Addr} {fdM:FuncData} (XM:Fn K mg "most_houses" Cy ["case"] fM fdM) (GM:AH P w K mg base BJ 1 fM fdM ["case"] NU) {f:Addr} {fd:FuncData} (F:Ew K "openings" "openings" CI f fd):AH P w K mg base BJ 2 f fd ["case"] NW:=by
 refine F.ok FI (fun vs H Q E h=>?_) (fun cdv A outer s H vs Q E hr h=>?_)
 ·obtain ⟨c,sites,x,d,rfl,_⟩:=h;rfl
 ·obtain ⟨c,sites,x,d,rfl,cs,k⟩:=h;have nd:=FI.nd;have big:100000 < sizeLine:=by decide
  refine ⟨_,(Af (Ap (i:=1) nd rfl (Or.inr rfl) (Aj GM (hr.mono (by decide)) (by rfl) XM.mg XM.F.kp XM.b .nil Ar (Aa (pv 0) Ad)))
  (Af (Ap (i:=2) nd rfl (Or.inl rfl) (Bq (Aa (AQ Ad) Ad)))
  (Af (Bi PassesOwn.never rfl (Bb K rfl (AF (AL K rfl) (pv 0) Ag (fun _ _=>rfl))) (Bv K rfl rfl (Am (Ai (i:=3) nd rfl (Or.inr rfl)) (Am (Ai (i:=4) nd rfl (Or.inl rfl)) Bu)))
  (Ak (Ap (i:=2) nd rfl (Or.inl rfl) (Av F6 (pv 2) (Bz (N:=["houses","most","place"]) (σ0:=fun σ=>[none,some 1,some 3].map fun j=>j.bind fun j=>(σ[j]?).join) rfl (AE.caught (by rfl) (by decide +kernel) rfl (by decide +kernel) (by intro y hy; simp only [Wn,Wu,or_false] at hy; rcases hy with rfl | rfl <;> rfl)
   (by intro y hy e; simp only [Wn,Wu,or_false] at hy; rcases hy with rfl | rfl | rfl | rfl | rfl <;> first | exact ⟨_,rfl⟩ | cases e)) (fun σ _=>AK.of [none,some 1,some 3] rfl (by
   intro i j x h1 h2;match i,h1,h2 with
   | 0,_,h2=>cases h2
   | 1,h1,h2=>cases h1; cases h2; exact ⟨rfl,.inl rfl,.inl rfl⟩
   | 2,h1,h2=>cases h1; cases h2; exact ⟨rfl,.inl rfl,.inl rfl⟩
   | n + 3,h1,_=>cases h1)) (AN K rfl (pv 2))
   (fun s2 H C fp=>⟨(Ai (i:=0) (show (["houses","most","place"]:List Str).Nodup by decide +kernel) rfl (Or.inl rfl)),(CU (Bt GG (Ao (Ax K rfl) (by rfl) h_len PySem.boot_len (Aa (pv 0) Ad)) (pv 1) (B9 _))),(Av (O2 K rfl) (pv 0) (AQ (Aa (pv 2) Ad)))⟩))))))
  (Ak (AM (Ao (EG K rfl) (by rfl) h_sorted PyProof.Rows.boot_sorted (Aa (Bz (N:=["houses"]) (σ0:=fun _=>[none]) rfl (AE.plain (by decide +kernel) (by decide +kernel) rfl (by decide +kernel)) (fun σ _=>AK.none _ _ _ ["houses"] σ) (AN K rfl (pv 2))
   (fun s2 H C fp=>⟨(Ai (i:=0) (show (["houses"]:List Str).Nodup by decide +kernel) rfl (Or.inl rfl)),(CU (My K rfl (pv 0) (fun _=>rfl))),(pv 0)⟩)) Ad))))))),?_⟩
  refine ⟨_,rfl,c,sites,x,d,rfl,cs,fun mo mo0 mok=>?_⟩;obtain ⟨mV,t2V,t1,De,A9,hc,Eu,Gd,rfl,snd,sl,lim⟩:=cs;have ul:=B8 Gd;rw [Wj] at sl mok;refine ⟨(by show 0<=sizeLine; lia),fun T0 VD=>⟨(by show 1<=sizeLine; lia),fun L0 Ss=>?_⟩⟩;have s0:=(Ac (o:=.tup []) VD).trans (Ac (o:=.lst [.ref T0]) Ss);exists _,rfl,c,_,_,_,rfl,rfl,AG.of (s0 _ _ hc),rfl,t1,rfl,⟨_,AG.of (s0 _ _ Eu)⟩
  refine Kb (xs:=De) (fun i σ H'=>∃ (L:Addr) (us:List V) (fs:List (List Str)) (v2 v3:Option V),σ=[some (.ref c),some (.int mo),some (.ref L),v2,v3]/\Au H H'/\H' L=some (.lst us)/\Cr H' us fs/\FX ((A9.map (·.1)).take i) mo fs/\fs.length<=2 ^ i)
   ⟨L0,[.ref T0],[[]],_,_,rfl,s0,Ab,.cons (by rw [Ae (by intro z; subst z; rw [Ab] at Ss; cases Ss)]; exact Ab) .nil,FX.nil mo0,Wq _⟩
   (fun i σ H' _ ⟨_,_,_,_,_,_,sa,_⟩=>AG.of (sa _ _ Eu)) ?_ ?_
  ·rintro i xx σ H' ex ⟨L,us,fs,v2,v3,rfl,sa,hL,tU,sub,fl⟩ rt bk;obtain ⟨u,t,eu,rfl,ht⟩:=BS Gd ex;have hi:i < A9.length:=(Wt.mp eu).1;have f512:fs.length<=512:=WJ fl (WJ (Xx (by decide) (show i<=9 by lia)) (by decide));have hul:=tU.len;have VR:∀ f ∈ fs,f.length<=10:=fun f hf=>by
    have:=((sub.2 f).mp hf).1.length_le;rw [WW,Wj] at this;lia
   exists t,_,rfl,AG.of (sa _ _ ht),rfl,_,_,rfl,_,_,rfl,rfl;exists _,rfl,_,rfl,L,rfl,⟨_,AD.of hL⟩
   refine BB Bf (xs:=us) (fun D j Aq H2 acc=>∃ v0:Option V,Aq=[v0,some (.int mo),some (.str u.1)]/\Au H' H2/\H2 D=some (.lst acc)/\Cr H2 acc (((fs.take j).filter fun f=>decide ((f.length:Int) < mo)).map (· ++ [u.1]))/\acc.length<=j)
    (by lia) (fun D hD=>⟨_,rfl,Ac hD,Ab,.nil,Wq _⟩) (fun D j Aq H2 acc hD ⟨v0,_,sb,Bd,_,al⟩=>⟨AD.of (sb _ _ hL),Bd,al⟩) ?_ ?_
   ·rintro D j Aq H2 acc x' B N hD ex' ⟨v0,rfl,sb,Bd,tp,al⟩ hB hN;obtain ⟨tf,f,rfl,ef,htf⟩:=tU.get ex';have fm:=VR f (Wo ef);have ON:=sb _ _ htf;exists _,rfl,tf,_,rfl,.inr (AG.of ON),_,rfl,_,_,rfl,rfl,_,rfl;rw [Wj];refine Cf (fun z=>?_) (fun z=>?_)
    ·have go:∀ (H5:Hp) (T:Addr),Au H2 H5->H5 T=some (.tup ((f ++ [u.1]).map V.str))->B [some (.ref tf),some (.int mo),some (.str u.1)] (.ref T) H5:=fun H5 T s5 hT=>by
      refine hB _ _ _ (s5 _ _ Bd) ⟨_,rfl,fun b o' z=>by rw [Ae (Ah z hD)]; exact s5 _ _ (sb _ _ z),Ab,?_,by rw [Ww]; simp; lia⟩;rw [W5,ef,Xj,W3];simp only [Yo,X9,z,if_true,Yz,WG,YZ];refine ((tp.keep fun b ys z=>s5 _ _ z).app (.cons hT .nil)).keep fun b ys z=>?_
      rw [Ae (Br z (s5 _ _ Bd) (fun q=>by cases q))];exact z
     refine ⟨_,rfl,_,rfl,(by show 1<=sizeLine; lia),fun T1 Rp=>⟨tf,T1,_,_,rfl,rfl,AG.of (Ac Rp _ _ ON),AG.of Ab,by rw [Wj]; show f.length + 1<=sizeLine; lia,fun e=>?_,fun ne e=>?_,fun ne ne' p hp=>?_⟩⟩
     ·have e':f=[]:=by simpa using e
      subst e';exact go _ T1 (Ac Rp) Ab
     ·cases e
     ·exact go _ p ((Ac Rp).trans (Ac hp)) (by rw [Ab,W3]; rfl)
    ·have z':decide ((f.length:Int) < mo)=false:=by simpa using z
     refine hN _ _ ⟨_,rfl,sb,Bd,?_,by lia⟩;rw [W5,ef,Xj];simp only [Yo,X9,z',WB,if_false,Yz,Yh];exact tp
   ·rintro D Aq H2 acc hD ⟨v0,rfl,sb,Bd,tp,al⟩;refine ⟨L,D,us,acc,rfl,rfl,sb _ _ hL,Bd,by lia,fun p hp=>?_⟩;have sp:=Ac (o:=.lst (us ++ acc)) hp;rw [hul,WD] at tp;have e0:(A9.map (·.1))[i]? = some u.1:=by rw [Wy,eu]; rfl
    have e1:(A9.map (·.1)).take (i + 1)=(A9.map (·.1)).take i ++ [u.1]:=by rw [W5,e0]; rfl
    have nin:u.1 ∉ (A9.map (·.1)).take i:=by
     have:=snd.sublist (Zp (i + 1) _);rw [e1] at this;exact fun z=>(Xq.mp this).2.2 _ z _ (by simp) rfl
    exists p,us ++ acc,_,_,_,rfl,(sa.trans sb).trans sp,Ab,((tU.keep fun b ys z=>sb _ _ z).app tp).keep (fun b ys z=>sp _ _ z),?_
    ·rw [e1];exact FX.step nin sub
    ·rw [Ww,Wj,Zf];have:=XY (fun f=>decide ((f.length:Int) < mo)) fs;lia
  ·rintro σ H' ⟨L,us,fs,v2,v3,rfl,sa,hL,tU,sub,fl⟩;rw [ul,show A9.length=(A9.map (·.1)).length by rw [Wj],WD] at sub;rw [ul] at fl;have Us:fs.length<=1024:=WJ fl (WJ (Xx (by decide) sl) (by decide));have hul:=tU.len;exists _,rfl,L,rfl,⟨_,AD.of hL⟩
   refine BB Bf (xs:=us) (fun D i Aq H2 acc=>∃ v0:Option V,Aq=[v0]/\Au H' H2/\H2 D=some (.lst acc)/\Cr H2 acc ((fs.take i).filter fun f=>!f.isEmpty)/\acc.length<=i)
    (by lia) (fun D hD=>⟨_,rfl,Ac hD,Ab,.nil,Wq _⟩) (fun D i Aq H2 acc hD ⟨v0,_,sb,Bd,_,al⟩=>⟨AD.of (sb _ _ hL),Bd,al⟩) ?_ ?_
   ·rintro D i Aq H2 acc x' B N hD ex ⟨v0,rfl,sb,Bd,tp,al⟩ hB hN;obtain ⟨tf,f,rfl,ef,htf⟩:=tU.get ex;have ON:=sb _ _ htf;exists _,rfl,!f.isEmpty,.inr (.inl ⟨_,AG.of ON,by cases f <;> rfl⟩);refine Cf (fun z=>?_) (fun z=>?_)
    ·refine ⟨_,rfl,hB _ _ _ Bd ⟨_,rfl,fun b o' z=>by rw [Ae (Ah z hD)]; exact sb _ _ z,Ab,?_,by rw [Ww]; simp; lia⟩⟩;rw [W5,ef,Xj];simp only [Yo,X9,z,if_true,Yz];refine (tp.app (.cons ON .nil)).keep fun b ys z=>?_
     rw [Ae (Br z Bd (fun q=>by cases q))];exact z
    ·have z':(!f.isEmpty)=false:=by simpa using z
     refine hN _ _ ⟨_,rfl,sb,Bd,?_,by lia⟩;rw [W5,ef,Xj];simp only [Yo,X9,z',WB,if_false,Yz,Yh];exact tp
   ·rintro D Aq H2 acc hD ⟨v0,rfl,sb,Bd,tp,al⟩;rw [hul,WD] at tp;refine ⟨D,acc,fun _=>true,rfl,AD.of Bd,tp.kinds (fun f hf=>?_),fun l Kn hl pm=>?_⟩
    ·have:=(Xf.mp hf).2;intro z;rw [z] at this;cases this
    ·obtain ⟨os,po,to⟩:=Cr.perm pm tp;have U4:=Ac (o:=.lst Kn) hl;refine k _ l Kn os ((sa.trans sb).trans U4) ?_ Ab (to.keep fun b ys z=>U4 _ _ z) ⟨po.nodup_iff.mpr (sub.1.sublist Y7),?_,fun ss=>?_⟩ (by rw [po.length_eq]; exact WJ (XY _ _) Us)
     ·cases e:H l with
      | none=>rfl
      | some o=>rw [sb _ _ (sa _ _ e)] at hl; cases hl
     ·trivial
     ·rw [po.mem_iff,Xf,sub.2];constructor
      ·rintro ⟨⟨h1,h2⟩,h3⟩;have:=h1.length_le;rw [Wj] at this;exact ⟨(by intro z; rw [z] at h3; cases h3),h1,(mok _ this).mp h2⟩
      ·rintro ⟨h1,h2,h3⟩;have:=h2.length_le;rw [Wj] at this;exact ⟨⟨h2,(mok _ this).mpr h3⟩,by cases ss with | nil=>exact absurd rfl h1 | cons _ _=>rfl⟩
end
section
variable {P:Program} {w:World} {K:Wm} {mg:Str->Option Value} {base:Heap}
theorem GJ (h_int:mg "int"=none) {f:Addr} {fd:FuncData} (F:Ew K "_law_lengths" "_law_lengths" Cz f fd):AH P w K mg base BJ 1 f fd ["_law_plan"] Lw:=by
 refine F.ok DS (fun vs H Q E h=>?_) (fun cdv A outer s H vs Q E hr h=>?_)
 ·obtain ⟨q,n,xs,ws,rfl,_⟩:=h;rfl
 ·obtain ⟨q,n,xs,ws,rfl,mw,U9,Qy,k⟩:=h;have hu:=Du hr;have nd:=DS.nd;have big:16000000 < sizeLine:=by decide
  have two:2<=sizeLine:=by decide
  obtain ⟨r0,okw,pos,uni⟩:=mw.web U9 Qy;obtain ⟨D,e,us,hq,hD,hE,hW⟩:=mw.at'.ex;have ends:=okw.ends;have x30:xs.length<=30:=okw.l30;have w64:=okw.l64;have wof:∀ u ∈ ws,u.1 ∈ xs/\u.2.1 ∈ xs/\u.1 ≠ u.2.1/\1<=u.2.2:=fun u hu=>⟨(ends u hu).1,(ends u hu).2,mw.apart hu,pos u hu⟩
  have hwl:us.length=ws.length:=by rw [Hn hW,Wj]
  refine ⟨_,(Af (Ap (i:=1) nd rfl (Or.inl rfl) JL)
  (Af (Bi PassesOwn.never rfl (Bb K rfl (AF (AL K rfl) (pv 0) Ag (fun _ _=>rfl))) (Ai (i:=2) nd rfl (Or.inl rfl))
  (Ak (Bi PassesOwn.never rfl (Bb K rfl (AF (AL K rfl) (pv 0) Ag (fun _ _=>rfl))) (Ai (i:=3) nd rfl (Or.inl rfl))
  (Ak (Cp hu (pv 1) (AQ (Aa (pv 2) (Aa (pv 3) Ad))) (AF (Ba K rfl) (Bq (Aa F5 (Aa Ag Ad))) (AX FG (by rfl) h_int PyProof.Rows.boot_int (Aa (Gm LN (pv 2) (pv 3) (B9 _)) Ad)) (fun _ _=>rfl)) rfl)))))
  (Af (Bi PassesOwn.never rfl (Bb K rfl (AF (AL K rfl) (pv 0) Ag (fun _ _=>rfl))) (Bv K rfl rfl (Am (Ai (i:=2) nd rfl (Or.inl rfl)) (Am (Ai (i:=3) nd rfl (Or.inl rfl)) (Am (Ai (i:=4) nd rfl (Or.inl rfl)) Bu))))
  (Af (Cp hu (pv 1) (AQ (Aa (pv 2) (Aa (pv 3) Ad))) (pv 4) rfl)
  (Ak (Cp hu (pv 1) (AQ (Aa (pv 3) (Aa (pv 2) Ad))) (pv 4) rfl))))
  (Af (Bi PassesOwn.never rfl (Bb K rfl (AF (AL K rfl) (pv 0) Ag (fun _ _=>rfl))) (Ai (i:=5) nd rfl (Or.inl rfl))
  (Ak (Bi PassesOwn.never rfl (Bb K rfl (AF (AL K rfl) (pv 0) Ag (fun _ _=>rfl))) (Ai (i:=2) nd rfl (Or.inl rfl))
  (Ak (Bi PassesOwn.never rfl (Bb K rfl (AF (AL K rfl) (pv 0) Ag (fun _ _=>rfl))) (Ai (i:=3) nd rfl (Or.inl rfl))
  (Af (Ap (i:=6) nd rfl (Or.inl rfl) (Bj hu (pv 1) (AQ (Aa (pv 2) (Aa (pv 5) Ad))) (fun _ _=>rfl)))
  (Af (Ap (i:=7) nd rfl (Or.inl rfl) (Bj hu (pv 1) (AQ (Aa (pv 5) (Aa (pv 3) Ad))) (fun _ _=>rfl)))
  (Af (Ap (i:=8) nd rfl (Or.inl rfl) (Bj hu (pv 1) (AQ (Aa (pv 2) (Aa (pv 3) Ad))) (fun _ _=>rfl)))
  (Ak (CK (K8 (EA (LK (pv 6))) (K8 (EA (LK (pv 7))) (LC (Og (EA (KA (pv 8))) (K7 (Bt GG (Av Bg (pv 6) (pv 7)) (pv 8) (B9 _)))).pt))).pt
  (Ak (Cp hu (pv 1) (AQ (Aa (pv 2) (Aa (pv 3) Ad))) (Av Bg (pv 6) (pv 7)) rfl))
  BC))))))))))
  (Ak (AM (pv 1))))))),?_⟩
  intro A hA;have V0:MV (upd H A (.dT [])) A (fun _ _=>none) 0:=⟨[],Ab,Wq _,fun x y=>rfl⟩
  have nAD:∀ {b:Addr} {u:HO},H b=some u->b ≠ A:=fun z=>Ah z hA
  have strAt:∀ {i:Nat} {v:V},(xs.map V.str)[i]? = some v->∃ x,xs[i]? = some x/\v=.str x/\i < xs.length:=fun {i v} h=>by
   rw [Wy] at h;cases ex:xs[i]? with
   | none=>rw [ex] at h; cases h
   | some x=>rw [ex] at h; exact ⟨x,rfl,(WA.inj h).symm,(Wt.mp ex).1⟩
  refine ⟨_,rfl,q,_,_,_,rfl,rfl,AG.of (Ac hA _ _ hq),rfl,D,rfl,⟨_,AG.of (Ac hA _ _ hD)⟩,C7 (xs:=xs.map V.str) (fun i σ H2=>(∃ v4 v5 v6 v7 v8 v9 v10,σ=[some (.ref q),some (.ref A),v4,v5,v6,v7,v8,v9,v10])/\Au H H2/\∃ G,MV H2 A G (i * 30)/\(∀ x y v,G x y=some v->x ∈ xs/\y ∈ xs/\v=oI (if x=y then some 0 else none))/\∀ (a:Nat) x,a < i->xs[a]? = some x->∀ y ∈ xs,∃ v,G x y=some v)
   ⟨⟨_,_,_,_,_,_,_,rfl⟩,Ac hA,_,V0.up (WR _),fun x y v h=>(by cases h),fun j x hj=>absurd hj (Xl _)⟩ (fun i σ H2 _ hP=>AG.of (hP.2.1 _ _ hD)) (fun i v σ H2 hv hP rt bk N hNi=>?_) (fun σ H2 hP=>?_)⟩
  ·obtain ⟨⟨v4,v5,v6,v7,v8,v9,v10,rfl⟩,s2,G0,hG0,m1,m2⟩:=hP;obtain ⟨one,eone,rfl,ilt⟩:=strAt hv;refine ⟨_,rfl,q,_,_,_,rfl,rfl,AG.of (s2 _ _ hq),rfl,D,rfl,⟨_,AG.of (s2 _ _ hD)⟩,C7 (xs:=xs.map V.str) (fun j σ H3=>(∃ v5 v6 v7 v8 v9 v10,σ=[some (.ref q),some (.ref A),some (.str one),v5,v6,v7,v8,v9,v10])/\Au H H3/\∃ G,MV H3 A G (i * 30 + j)/\(∀ x y v,G x y=some v->x ∈ xs/\y ∈ xs/\v=oI (if x=y then some 0 else none))/\(∀ (a:Nat) x,a < i->xs[a]? = some x->∀ y ∈ xs,∃ v,G x y=some v)/\∀ (b:Nat) y,b < j->xs[b]? = some y->∃ v,G one y=some v)
    ⟨⟨_,_,_,_,_,_,rfl⟩,s2,G0,hG0.up (by lia),m1,m2,fun b y hb=>absurd hb (Xl _)⟩ (fun i σ H3 _ hP=>AG.of (hP.2.1 _ _ hD)) (fun j v σ H3 hv hP rt bk N hNj=>?_) (fun σ H3 hP=>?_)⟩
   ·obtain ⟨⟨v5,v6,v7,v8,v9,v10,rfl⟩,s3,G1,UL,m3,m4,m5⟩:=hP;obtain ⟨oth,eoth,rfl,jlt⟩:=strAt hv;have cb:i * 30 + j < 16000000:=by
     have:i * 30<=30 * 30:=Y5 _ (by lia);lia
    refine ⟨(by show 2<=sizeLine; lia),fun L hL=>?_⟩;have q1:=Ac (o:=.lst [.non,.int 0]) hL;have hL':(upd H3 L (.lst [.non,.int 0])) L=some (.lst [.non,.int 0]):=Ab;generalize upd H3 L (.lst [.non,.int 0])=H4 at q1 hL' ⊢;have ix:J1 [V.non,.int 0] (if decide (V.str one=V.str oth)=true then 1 else 0)=some (oI (if one=oth then some 0 else none)):=by
     by_cases z:one=oth
     ·subst z;rw [if_pos (decide_eq_true rfl),if_pos rfl];rfl
     ·rw [if_neg (fun h=>z (by have:=of_decide_eq_true h; injection this)),if_neg z];rfl
    refine ⟨_,rfl,_,rfl,rfl,.inr ⟨_,rfl,L,_,_,_,rfl,rfl,AD.of hL',ix,?_⟩⟩;refine ⟨_,rfl,_,rfl,_,rfl,two,fun t ht=>?_⟩;have q2:=q1.trans (Ac (o:=.tup [.str one,.str oth]) ht);obtain ⟨H5,dp,hG5,kvs,e5⟩:=(UL.same q2).put (by lia) (v:=oI (if one=oth then some 0 else none)) (t:=t) (x:=one) (y:=oth) Ab;refine ⟨A,H5,rfl,dp,hNj _ _ ⟨⟨_,_,_,_,_,_,rfl⟩,fun b u z=>?_,_,hG5.up (by lia),fun x y v h=>?_,fun a x ha ex y hy=>?_,fun b y hb ey=>?_⟩⟩
    ·rw [e5,Ae (nAD z)];exact q2 _ _ (s3 _ _ z)
    ·unfold K5 at h;split at h
     ·rename_i hc
      obtain ⟨rfl,rfl⟩:=hc;cases h
      exact ⟨Wo eone,Wo eoth,rfl⟩
     ·exact m3 x y v h
    ·unfold K5;split
     ·exact ⟨_,rfl⟩
     ·exact m4 a x ha ex y hy
    ·unfold K5;split
     ·exact ⟨_,rfl⟩
     ·rename_i hc
      refine m5 b y ?_ ey;have:b ≠ j:=by
       rintro rfl;rw [eoth] at ey;exact hc ⟨rfl,(WA.inj ey).symm⟩
      lia
   ·obtain ⟨⟨v5,v6,v7,v8,v9,v10,rfl⟩,s3,G1,UL,m3,m4,m5⟩:=hP;rw [Wj] at UL m5;refine hNi _ _ ⟨⟨_,_,_,_,_,_,_,rfl⟩,s3,G1,UL.up (by lia),m3,fun a x ha ex y hy=>?_⟩;by_cases ea:a=i
    ·subst ea;rw [eone] at ex;cases ex
     obtain ⟨b,hb,eb⟩:=W2 hy;exact m5 b y hb (by rw [Wk hb,eb])
    ·exact m4 a x (by lia) ex y hy
  obtain ⟨⟨v4,v5,v6,v7,v8,v9,v10,rfl⟩,s2,G,hG,m1,m2⟩:=hP;rw [Wj] at hG m2;obtain ⟨M,hMe⟩:∃ M:Str->Str->Option Int,M=fun x y=>if x=y/\x ∈ xs then some 0 else none:=⟨_,rfl⟩
  have hM:MO H2 A xs M 1000:=by
   refine ⟨G,hG.up (by lia),fun x hx y hy=>?_,fun x y hn=>?_⟩
   ·obtain ⟨a,ha,ea⟩:=W2 hx;obtain ⟨v,hv⟩:=m2 a x ha (by rw [Wk ha,ea]) y hy;rw [hv,(m1 x y v hv).2.2,hMe];by_cases z:x=y
    ·rw [if_pos z];show _=some (oI (if x=y/\x ∈ xs then some 0 else none))
     rw [if_pos ⟨z,hx⟩]
    ·rw [if_neg z];show _=some (oI (if x=y/\x ∈ xs then some 0 else none))
     rw [if_neg (fun h=>z h.1)]
   ·cases hg:G x y with
    | none=>rfl
    | some v=>exact absurd ⟨(m1 x y v hg).1,(m1 x y v hg).2.1⟩ hn
  have m1:∀ x y n,M x y=some n->x=y/\n=0:=fun x y n h=>by
   rw [hMe] at h;dsimp only at h;split at h
   ·rename_i hc
    cases h
    exact ⟨hc.1,rfl⟩
   ·cases h
  have Ux:∀ x ∈ xs,M x x=some 0:=fun x hx=>by
   rw [hMe];exact if_pos ⟨rfl,hx⟩
  refine ⟨_,rfl,q,_,_,_,rfl,rfl,AG.of (s2 _ _ hq),rfl,e,rfl,⟨_,AG.of (s2 _ _ hE)⟩,C7 (xs:=us) (fun i σ H3=>(∃ v4 v5 v6 v7 v8 v9 v10,σ=[some (.ref q),some (.ref A),v4,v5,v6,v7,v8,v9,v10])/\Au H H3/\∃ M,MO H3 A xs M (1000 + 2 * i)/\(∀ x y n,M x y=some n->(x=y/\n=0)\/BV ws x y n)/\(∀ x ∈ xs,M x x=some 0)/\∀ x y n,BV (ws.take i) x y n->M x y=some n)
   ⟨⟨_,_,_,_,_,_,_,rfl⟩,s2,M,(hM.up (by lia)),fun x y n h=>.inl (m1 x y n h),Ux,fun x y n h=>(by obtain ⟨u,hu,_⟩:=h; exact absurd hu Wu)⟩ (fun i σ H3 _ hP=>AG.of (hP.2.1 _ _ hE)) (fun i v σ H3 hv hP rt bk N hN=>?_) (fun σ H3 hP=>?_)⟩
  ·obtain ⟨⟨v4,v5,v6,v7,v8,v9,v10,rfl⟩,s3,M,hM,n1,n2,n3⟩:=hP;obtain ⟨u,tt,gu,rfl,htt⟩:=Hm hW hv;have um:=Wo gu;have une:u.1 ≠ u.2.1:=(wof u um).2.2.1;have hi:i < ws.length:=(Wt.mp gu).1;exists tt,_,rfl,AG.of (s3 _ _ htt),rfl,_,_,rfl,_,_,rfl,_,_,rfl,rfl;refine ⟨_,rfl,_,rfl,_,rfl,_,rfl,two,fun t ht=>?_⟩;obtain ⟨H4,dp,hM4,kvs,e4⟩:=(hM.same (Ac (o:=.tup [.str u.1,.str u.2.1]) ht)).put (by lia) (wof u um).1 (wof u um).2.1 (n:=u.2.2) (t:=t) (x:=u.1) (y:=u.2.1) Ab;have s4:Au H H4:=fun b o z=>by
    rw [e4,Ae (nAD z)];exact Ac ht _ _ (s3 _ _ z)
   exists A,H4,rfl,dp;refine ⟨_,rfl,_,rfl,_,rfl,_,rfl,two,fun t2 DY=>?_⟩;obtain ⟨H5,dp2,hM5,kvs2,e5⟩:=(hM4.same (Ac (o:=.tup [.str u.2.1,.str u.1]) DY)).put (by lia) (wof u um).2.1 (wof u um).1 (n:=u.2.2) (t:=t2) (x:=u.2.1) (y:=u.1) Ab;refine ⟨A,H5,rfl,dp2,hN _ _ ⟨⟨_,_,_,_,_,_,_,rfl⟩,fun b o z=>?_,_,(hM5.up (by lia)),fun a b n h=>?_,fun x hx=>?_,fun a b n h=>?_⟩⟩
   ·rw [e5,Ae (nAD z)];exact Ac DY _ _ (s4 _ _ z)
   ·unfold IU at h;split at h
    ·rename_i hc
     cases h
     exact .inr ⟨u,um,.inr ⟨hc.2.symm,hc.1.symm⟩,rfl⟩
    ·split at h
     ·rename_i hc
      cases h
      exact .inr ⟨u,um,.inl ⟨hc.1.symm,hc.2.symm⟩,rfl⟩
     ·exact n1 a b n h
   ·unfold IU;rw [if_neg (fun z=>une (z.2.symm.trans z.1)),if_neg (fun z=>une (z.1.symm.trans z.2))];exact n2 x hx
   ·have hE':BV ws a b n:=by
     obtain ⟨v,hv,r⟩:=h;exact ⟨v,List.mem_of_mem_take hv,r⟩
    unfold IU;split
    ·rename_i hc
     have:=uni _ _ _ _ hE' ⟨u,um,.inr ⟨hc.2.symm,hc.1.symm⟩,rfl⟩;rw [this]
    ·rename_i hc1
     split
     ·rename_i hc
      have:=uni _ _ _ _ hE' ⟨u,um,.inl ⟨hc.1.symm,hc.2.symm⟩,rfl⟩;rw [this]
     ·rename_i HF
      refine n3 a b n ?_;obtain ⟨v,hv,ev,el⟩:=h;rw [W5,gu] at hv;rcases W9.mp hv with hv | hv
      ·exact ⟨v,hv,ev,el⟩
      ·have:v=u:=by simpa using hv
       subst this;rcases ev with ⟨x1,x2⟩ | ⟨x1,x2⟩
       ·exact absurd ⟨x1.symm,x2.symm⟩ HF
       ·exact absurd ⟨x2.symm,x1.symm⟩ hc1
  obtain ⟨⟨v4,v5,v6,v7,v8,v9,v10,rfl⟩,s3,M,hM,n1,n2,n3⟩:=hP;rw [hwl,WD] at n3;have FW0:FW ws xs 0 M:=by
   refine ⟨fun x y n h=>?_,fun x y m g=>?_,fun x hx=>⟨0,n2 x hx,Xk _⟩⟩
   ·rcases n1 x y n h with ⟨rfl,rfl⟩ | h
    ·exact .nil x
    ·have:=Bo.cons h (.nil y);rwa [Zb] at this
   ·cases g with
    | edge e=>exact ⟨m,n3 x y m e,Xk _⟩
    | cons _ h _=>exact absurd h Wu
  refine ⟨_,rfl,q,_,_,_,rfl,rfl,AG.of (s3 _ _ hq),rfl,D,rfl,⟨_,AG.of (s3 _ _ hD)⟩,C7 (xs:=xs.map V.str) (fun t σ H4=>(∃ v4 v5 v6 v7 v8 v9 v10,σ=[some (.ref q),some (.ref A),v4,v5,v6,v7,v8,v9,v10])/\Au H H4/\∃ M,MO H4 A xs M (2000 + t * 1000)/\FW ws xs t M)
   ⟨⟨_,_,_,_,_,_,_,rfl⟩,s3,M,(hM.up (by lia)),FW0⟩ (fun i σ H4 _ hP=>AG.of (hP.2.1 _ _ hD)) (fun t v σ H4 hv hP rt bk N hNt=>?_) (fun σ H4 hP=>?_)⟩
  ·obtain ⟨⟨v4,v5,v6,v7,v8,v9,v10,rfl⟩,s4,M0,hM0,fw⟩:=hP;have strAt:∀ {i:Nat} {v:V},(xs.map V.str)[i]? = some v->∃ x,xs[i]? = some x/\v=.str x/\i < xs.length:=fun {i v} h=>by
    rw [Wy] at h;cases ex:xs[i]? with
    | none=>rw [ex] at h; cases h
    | some x=>rw [ex] at h; exact ⟨x,rfl,(WA.inj h).symm,(Wt.mp ex).1⟩
   obtain ⟨mid,emid,rfl,tlt⟩:=strAt hv;refine ⟨_,rfl,q,_,_,_,rfl,rfl,AG.of (s4 _ _ hq),rfl,D,rfl,⟨_,AG.of (s4 _ _ hD)⟩,C7 (xs:=xs.map V.str) (fun i σ H5=>(∃ v4 v5 v6 v8 v9 v10,σ=[some (.ref q),some (.ref A),v4,v5,v6,some (.str mid),v8,v9,v10])/\Au H H5/\∃ M,MO H5 A xs M (2000 + t * 1000 + i * 30)/\Fx M0 M/\(∀ x y n,M x y=some n->Bo ws x y n)/\∀ (a:Nat) x,a < i->xs[a]? = some x->∀ y ∈ xs,∀ p1 p2,M0 x mid=some p1->M0 mid y=some p2->∃ n,M x y=some n/\n<=p1 + p2)
    ⟨⟨_,_,_,_,_,_,rfl⟩,s4,M0,(hM0.up (by lia)),Fx.refl _,fw.sound,fun a x ha=>absurd ha (Xl _)⟩ (fun i σ H5 _ hP=>AG.of (hP.2.1 _ _ hD)) (fun i v σ H5 hv hP rt bk N hNi=>?_) (fun σ H5 hP=>?_)⟩
   ·obtain ⟨⟨v4,v5,v6,v8,v9,v10,rfl⟩,s5,M1,Sr,TC,U3,Qa⟩:=hP;obtain ⟨one,eone,rfl,ilt⟩:=strAt hv;refine ⟨_,rfl,q,_,_,_,rfl,rfl,AG.of (s5 _ _ hq),rfl,D,rfl,⟨_,AG.of (s5 _ _ hD)⟩,C7 (xs:=xs.map V.str) (fun j σ H6=>(∃ v5 v6 v8 v9 v10,σ=[some (.ref q),some (.ref A),some (.str one),v5,v6,some (.str mid),v8,v9,v10])/\Au H H6/\∃ M,MO H6 A xs M (2000 + t * 1000 + i * 30 + j)/\Fx M1 M/\(∀ x y n,M x y=some n->Bo ws x y n)/\∀ (b:Nat) y,b < j->xs[b]? = some y->∀ p1 p2,M0 one mid=some p1->M0 mid y=some p2->∃ n,M one y=some n/\n<=p1 + p2)
     ⟨⟨_,_,_,_,_,rfl⟩,s5,M1,(Sr.up (by lia)),Fx.refl _,U3,fun b y hb=>absurd hb (Xl _)⟩ (fun i σ H6 _ hP=>AG.of (hP.2.1 _ _ hD)) (fun j v σ H6 hv hP rt bk N hNj=>?_) (fun σ H6 hP=>?_)⟩
    ·obtain ⟨⟨v5,v6,v8,v9,v10,rfl⟩,s6,M2,Rq,SX,Py,NC⟩:=hP;obtain ⟨oth,eoth,rfl,jlt⟩:=strAt hv;have cb:2000 + t * 1000 + i * 30 + j < 16000000:=by
      have:t * 1000<=30 * 1000:=Y5 _ (by lia);have:i * 30<=30 * 30:=Y5 _ (by lia);lia
     have moAll:=TC.trans SX;have hone:one ∈ xs:=Wo eone;have hoth:oth ∈ xs:=Wo eoth;have hmid:mid ∈ xs:=Wo emid;have keepM:∀ {H7:Hp} (v8 v9 v10:Option V),Au H6 H7->(∀ p1 p2,M0 one mid=some p1->M0 mid oth=some p2->∃ n,M2 one oth=some n/\n<=p1 + p2) ->
       (∃ w5 w6 w8 w9 UY,([some (.ref q),some (.ref A),some (.str one),some (.str oth),v6,some (.str mid),v8,v9,v10]:St)=[some (.ref q),some (.ref A),some (.str one),w5,w6,some (.str mid),w8,w9,UY])/\Au H H7/\∃ M,MO H7 A xs M (2000 + t * 1000 + i * 30 + (j + 1))/\Fx M1 M/\(∀ x y n,M x y=some n->Bo ws x y n)/\∀ (b:Nat) y,b < j + 1->xs[b]? = some y->∀ p1 p2,M0 one mid=some p1->M0 mid y=some p2->∃ n,M one y=some n/\n<=p1 + p2:=by
      intro H7 v8 v9 v10 s7 hv2;refine ⟨⟨_,_,_,_,_,rfl⟩,s6.trans s7,M2,((Rq.same s7).up (by lia)),SX,Py,fun b y hb ey p1 p2 q1 q2=>?_⟩;by_cases eb:b=j
      ·subst eb;rw [eoth] at ey;cases ey
       exact hv2 p1 p2 q1 q2
      ·exact NC b y (by lia) ey p1 p2 q1 q2
     refine ⟨_,rfl,_,rfl,_,rfl,two,fun t1 Eu=>?_⟩;have z1:=Ac (o:=.tup [.str one,.str mid]) Eu;exists A,_,rfl,(Rq.same z1).get hone hmid Ab;refine ⟨_,rfl,_,rfl,_,rfl,two,fun t2 DY=>?_⟩;have z2:=z1.trans (Ac (o:=.tup [.str mid,.str oth]) DY);exists A,_,rfl,(Rq.same z2).get hmid hoth Ab;refine ⟨_,rfl,_,rfl,_,rfl,two,fun t3 V2=>?_⟩;have z3:=z2.trans (Ac (o:=.tup [.str one,.str oth]) V2);exists A,_,rfl,(Rq.same z3).get hone hoth Ab;generalize upd (upd (upd H6 t1 (.tup [.str one,.str mid])) t2 (.tup [.str mid,.str oth])) t3 (.tup [.str one,.str oth])=H7 at z3;exists _,rfl,_,rfl;cases eo:M2 one mid with
     | none=>
      refine JX (JX ?_);refine hNj _ _ (keepM _ _ _ z3 fun p1 p2 q1 _=>?_);obtain ⟨n',e',_⟩:=moAll one mid p1 q1;rw [eo] at e';cases e'
     | some a1=>
      refine MQ ?_;exists _,rfl,_,rfl;cases em:M2 mid oth with
      | none=>
       refine JX (JX ?_);refine hNj _ _ (keepM _ _ _ z3 fun p1 p2 _ q2=>?_);obtain ⟨n',e',_⟩:=moAll mid oth p2 q2;rw [em] at e';cases e'
      | some a2=>
       refine MQ ?_;have low:∀ p1 p2,M0 one mid=some p1->M0 mid oth=some p2->a1 + a2<=p1 + p2:=fun p1 p2 q1 q2=>by
        obtain ⟨n1',OZ,UC⟩:=moAll one mid p1 q1;obtain ⟨n2',Tn,l2'⟩:=moAll mid oth p2 q2;rw [eo] at OZ;rw [em] at Tn;cases OZ
        cases Tn
        lia
       have putM:∀ (v10:Option V),(∀ n,M2 one oth=some n->a1 + a2<=n)->∀ t6,H7 t6=none->∃ a H8,V.ref A=.ref a/\DO (upd H7 t6 (.tup [.str one,.str oth])) a (.ref t6) (.int (a1 + a2)) H8 /\
         ((∃ w5 w6 w8 w9 UY,([some (.ref q),some (.ref A),some (.str one),some (.str oth),v6,some (.str mid),some (.int a1),some (.int a2),v10]:St)=[some (.ref q),some (.ref A),some (.str one),w5,w6,some (.str mid),w8,w9,UY])/\Au H H8/\∃ M,MO H8 A xs M (2000 + t * 1000 + i * 30 + (j + 1))/\Fx M1 M/\(∀ x y n,M x y=some n->Bo ws x y n)/\∀ (b:Nat) y,b < j + 1->xs[b]? = some y->∀ p1 p2,M0 one mid=some p1->M0 mid y=some p2->∃ n,M one y=some n/\n<=p1 + p2):=by
        intro v10 hle t6 TR;have hws:=(Py _ _ _ eo).app (Py _ _ _ em);have z6:=z3.trans (Ac (o:=.tup [.str one,.str oth]) TR);obtain ⟨H8,dp,hM8,kvs,e8⟩:=(Rq.same z6).put (by lia) hone hoth (n:=a1 + a2) (t:=t6) (x:=one) (y:=oth) Ab;have mo8:Fx M2 (IU M2 one oth (a1 + a2)):=fun x y n h=>by
         unfold IU;split
         ·rename_i hc
          obtain ⟨rfl,rfl⟩:=hc;exact ⟨_,rfl,hle n h⟩
         ·exact ⟨n,h,Xk _⟩
        refine ⟨A,H8,rfl,dp,⟨_,_,_,_,_,rfl⟩,fun b o z=>?_,_,hM8,SX.trans mo8,fun x y n h=>?_,fun b y hb ey p1 p2 q1 q2=>?_⟩
        ·rw [e8,Ae (nAD z)];exact z6 _ _ (s6 _ _ z)
        ·unfold IU at h;split at h
         ·rename_i hc
          obtain ⟨rfl,rfl⟩:=hc;cases h
          exact hws
         ·exact Py x y n h
        ·by_cases eb:b=j
         ·subst eb;rw [eoth] at ey;cases ey
          refine ⟨a1 + a2,?_,low p1 p2 q1 q2⟩;unfold IU;rw [if_pos ⟨rfl,rfl⟩]
         ·obtain ⟨n,en,ln⟩:=NC b y (by lia) ey p1 p2 q1 q2;obtain ⟨n',VT,ln'⟩:=mo8 one y n en;exact ⟨n',VT,by lia⟩
       exists _,rfl,_,rfl;cases ez:M2 one oth with
       | none=>
        refine MQ (MQ ?_);refine ⟨_,rfl,_,rfl,_,_,rfl,rfl,_,rfl,_,rfl,_,rfl,two,fun t6 TR=>?_⟩;exact (putM _ (fun n h=>by rw [ez] at h; cases h) t6 TR).imp fun _ h=>h.imp fun _ h=>⟨h.1,h.2.1,hNj _ _ h.2.2⟩
       | some a3=>
        refine JX ?_;exists _,rfl,_,rfl,_,_,rfl,rfl,_,rfl,_,_,rfl,rfl,_,rfl;refine Cf (fun BH=>?_) (fun BH=>?_)
        ·have BH:=of_decide_eq_true BH;refine ⟨_,rfl,_,rfl,_,_,rfl,rfl,_,rfl,_,rfl,_,rfl,two,fun t6 TR=>?_⟩;exact (putM _ (fun n h=>by rw [ez] at h; cases h; lia) t6 TR).imp fun _ h=>h.imp fun _ h=>⟨h.1,h.2.1,hNj _ _ h.2.2⟩
        ·have BH:¬ a1 + a2 < a3:=fun z=>BH (decide_eq_true z)
         refine hNj _ _ (keepM _ _ _ z3 fun p1 p2 q1 q2=>⟨a3,ez,?_⟩);have:=low p1 p2 q1 q2;lia
    ·obtain ⟨⟨v5,v6,v8,v9,v10,rfl⟩,s6,M2,Rq,SX,Py,NC⟩:=hP;rw [Wj] at Rq NC;refine hNi _ _ ⟨⟨_,_,_,_,_,_,rfl⟩,s6,M2,(Rq.up (by lia)),TC.trans SX,Py,fun a x ha ex y hy p1 p2 q1 q2=>?_⟩;by_cases ea:a=i
     ·subst ea;rw [eone] at ex;cases ex
      obtain ⟨b,hb,eb⟩:=W2 hy;exact NC b y hb (by rw [Wk hb,eb]) p1 p2 q1 q2
     ·obtain ⟨n,en,ln⟩:=Qa a x (by lia) ex y hy p1 p2 q1 q2;obtain ⟨n',VT,ln'⟩:=SX x y n en;exact ⟨n',VT,by lia⟩
   ·obtain ⟨⟨v4,v5,v6,v8,v9,v10,rfl⟩,s5,M1,Sr,TC,U3,Qa⟩:=hP;rw [Wj] at Sr Qa;refine hNt _ _ ⟨⟨_,_,_,_,_,_,_,rfl⟩,s5,M1,(Sr.up (by lia)),fw.next pos ends emid TC U3 fun x hx y hy p1 p2 q1 q2=>?_⟩;obtain ⟨a,ha,ea⟩:=W2 hx;exact Qa a x ha (by rw [Wk ha,ea]) y hy p1 p2 q1 q2
  ·obtain ⟨⟨v4,v5,v6,v7,v8,v9,v10,rfl⟩,s4,M1,Sr,fw⟩:=hP;rw [Wj] at Sr fw;exact ⟨_,rfl,k H4 A s4 hA ⟨_,_,Sr.md (fun x hx y hy=>let ⟨nn,e,_⟩:=fw.doneW ends (fun x hx y hy=>let ⟨kk,a,_⟩:=mw.sums U9 Qy x hx y hy; ⟨kk,a⟩) x hx y hy; ⟨nn,e⟩),fun x hx y hy=>(fw.doneW ends (fun x hx y hy=>let ⟨kk,a,_⟩:=mw.sums U9 Qy x hx y hy; ⟨kk,a⟩) x hx y hy).imp fun nn h=>⟨by rw [if_pos ⟨hx,hy⟩]; exact h.1,h.2,mw.bound U9 Qy hx hy h.2⟩⟩⟩
end
section
variable {P:Program} {w:World} {K:Wm} {mg:Str->Option Value} {base:Heap}
theorem JO (h_int:mg "int"=none) (h_len:mg "len"=none) (h_min:mg "min"=none) (h_tuple:mg "tuple"=none) {fT:Addr} {fdT:FuncData} (XT:Fn K mg "_law_take" AI ["_law_pen","_law_many"] fT fdT) (GT:AH P w K mg base BJ 1 fT fdT ["_law_pen","_law_many"] (CO K)) {fN:Addr} {fdN:FuncData} (XN:Fn K mg "_law_names" C6 ["_law_pen","_law_many"] fN fdN) (GN:AH P w K mg base BJ 2 fN fdN ["_law_pen","_law_many"] (Gy K)) {fL:Addr} {fdL:FuncData} (XL:Fn K mg "_law_length" Co ["_law_pen"] fL fdL) (GL:AH P w K mg base BJ 2 fL fdL ["_law_pen"] (K2 K)) {fS:Addr} {fdS:FuncData} (XS:Fn K mg "_law_some" CJ ["_law_pen","_law_names_here","_law_many"] fS fdS) (GS:AH P w K mg base BJ 2 fS fdS ["_law_pen","_law_names_here","_law_many"] (IS K)) {fM:Addr} {fdM:FuncData} (XM:Fn K mg "_law_map" Cj ["_law_pen","_law_names_here","_law_shape"] fM fdM) (GM:AH P w K mg base BJ 3 fM fdM ["_law_pen","_law_names_here","_law_shape"] (K1 K)) {f:Addr} {fd:FuncData} (F:Ew K "_law_case" "_law_case" D4 f fd):AH P w K mg base BJ 4 f fd ["_law_pen","_law_shape"] (Lz K):=by
 refine F.ok FK (fun vs H Q E h=>?_) (fun cdv A outer s H vs Q E hr h=>?_)
 ·obtain ⟨p,sh,rfl,_⟩:=h;rfl
 ·obtain ⟨p,sh,rfl,hP,SS,sh4,k⟩:=h;have nd:=FK.nd;have big:100000 < sizeLine:=by decide
  refine ⟨_,(Af (Ap (i:=2) nd rfl (Or.inl rfl) (Aj GN (hr.mono (by decide)) (by rfl) XN.mg XN.F.kp XN.b .nil Ar (Aa (pv 0) (Aa (Av Bg Ag (Aj GT (hr.mono (by decide)) (by rfl) XT.mg XT.F.kp XT.b .nil Ar (Aa (pv 0) (Aa Ag Ad)))) Ad))))
  (Af (Ap (i:=3) nd rfl (Or.inl rfl) (Aj GM (hr.mono (by decide)) (by rfl) XM.mg XM.F.kp XM.b .nil Ar (Aa (pv 0) (Aa (pv 2) (Aa (pv 1) Ad)))))
  (Af (Ap (i:=4) nd rfl (Or.inl rfl) (Aj GT (hr.mono (by decide)) (by rfl) XT.mg XT.F.kp XT.b .nil Ar (Aa (pv 0) (Aa Ag Ad))))
  (Af (Ap (i:=5) nd rfl (Or.inl rfl) (Bq Ad))
  (Af (Bi PassesOwn.never rfl (AN K rfl (Aj GS (hr.mono (by decide)) (by rfl) XS.mg XS.F.kp XS.b .nil Ar (Aa (pv 0) (Aa (pv 2) (Aa (Av Bg Ag (Aj GT (hr.mono (by decide)) (by rfl) XT.mg XT.F.kp XT.b .nil Ar (Aa (pv 0) (Aa (Ao (FF rfl) (by rfl) h_min PyProof.Rows.boot_min (Aa Ag (Aa (Ao (Ax K rfl) (by rfl) h_len PySem.boot_len (Aa (pv 2) Ad)) Ad))) Ad)))) Ad))))) (Ai (i:=6) nd rfl (Or.inl rfl))
  (Ak (Fg (GD PySem.F.plainAttrs_list PySem.F.slot_list_append PySem.F.type_list_append Ck (pv 5) (Aa (AQ (Aa (pv 6) (Aa (AF (Ba K rfl) (Bq (Aa Ag (Aa (Aj GT (hr.mono (by decide)) (by rfl) XT.mg XT.F.kp XT.b .nil Ar (Aa (pv 0) (Aa Ag Ad))) (Aa (Aj GT (hr.mono (by decide)) (by rfl) XT.mg XT.F.kp XT.b .nil Ar (Aa (pv 0) (Aa Ag Ad))) (Aa (Av Jf (Aj GL (hr.mono (by decide)) (by rfl) XL.mg XL.F.kp XL.b .nil Ar (Aa (pv 0) Ad)) Ag) Ad))))) (pv 4) (fun _ _=>rfl)) Ad))) Ad)))))
  (Af (Ap (i:=7) nd rfl (Or.inl rfl) (Bq Ad))
  (Af (Bi PassesOwn.never rfl (AN K rfl (Aj GS (hr.mono (by decide)) (by rfl) XS.mg XS.F.kp XS.b .nil Ar (Aa (pv 0) (Aa (pv 2) (Aa (Av Bg Ag (Aj GT (hr.mono (by decide)) (by rfl) XT.mg XT.F.kp XT.b .nil Ar (Aa (pv 0) (Aa (Ao (FF rfl) (by rfl) h_min PyProof.Rows.boot_min (Aa Ag (Aa (Ao (Ax K rfl) (by rfl) h_len PySem.boot_len (Aa (pv 2) Ad)) Ad))) Ad)))) Ad))))) (Ai (i:=6) nd rfl (Or.inl rfl))
  (Ak (Fg (GD PySem.F.plainAttrs_list PySem.F.slot_list_append PySem.F.type_list_append Ck (pv 7) (Aa (AQ (Aa (pv 6) (Aa (AF (Ba K rfl) (Bq (Aa (Av Bg Ag (Aj GT (hr.mono (by decide)) (by rfl) XT.mg XT.F.kp XT.b .nil Ar (Aa (pv 0) (Aa Ag Ad)))) (Aa (Aj GL (hr.mono (by decide)) (by rfl) XL.mg XL.F.kp XL.b .nil Ar (Aa (pv 0) Ad)) Ad))) (AX FG (by rfl) h_int PyProof.Rows.boot_int (Aa (Gm LN (Aj GT (hr.mono (by decide)) (by rfl) XT.mg XT.F.kp XT.b .nil Ar (Aa (pv 0) (Aa Ag Ad))) Ag (B9 _)) Ad)) (fun _ _=>rfl)) Ad))) Ad)))))
  (Af (Ap (i:=8) nd rfl (Or.inl rfl) (AF (Ba K rfl) (Bq (Aa F5 (Aa (Av Bg Ag (Aj GT (hr.mono (by decide)) (by rfl) XT.mg XT.F.kp XT.b .nil Ar (Aa (pv 0) (Aa (Ao (Ax K rfl) (by rfl) h_len PySem.boot_len (Aa (pv 5) Ad)) Ad)))) (Aa (Av Bg Ag (Aj GT (hr.mono (by decide)) (by rfl) XT.mg XT.F.kp XT.b .nil Ar (Aa (pv 0) (Aa Ag Ad)))) Ad)))) (Aj GT (hr.mono (by decide)) (by rfl) XT.mg XT.F.kp XT.b .nil Ar (Aa (pv 0) (Aa Ag Ad))) (fun _ _=>rfl)))
  (Ak (AM (AQ (Aa (pv 3) (Aa (AX (Be K rfl) (by rfl) h_tuple PyProof.Rows.boot_tuple (Aa (pv 5) Ad)) (Aa (AX (Be K rfl) (by rfl) h_tuple PyProof.Rows.boot_tuple (Aa (pv 7) Ad)) (Aa (pv 8) Ad))))))))))))))),?_⟩
  have t30:(100:Int) < 10 ^ 30:=by decide
  refine ⟨_,rfl,_,rfl,p,9,rfl,hP,by decide,by decide,fun d1 H1 P1 k1 VZ VY=>⟨_,_,rfl,rfl,?_⟩⟩;obtain ⟨n1,rfl⟩:∃ n:Nat,d1=n:=⟨d1.toNat,by lia⟩
  refine ⟨p,1 + n1,rfl,P1,by lia,fun H2 D xs P2 k2 fD hD xl xnd xnm=>?_⟩;have nD:D ≠ p:=P1.ne fD;refine ⟨_,rfl,_,rfl,_,rfl,p,D,xs,sh,rfl,P2,hD,nD,xnd,xnm,by lia,by lia,SS,sh4,fun H3 m ps ws P3 k3 pp mw=>?_⟩;have Gp:=k3 _ _ nD hD;have q3:=(k1.trans k2).trans k3;refine ⟨_,rfl,p,4,rfl,P3,by decide,by decide,fun wy H4 P4 k4 wy0 wy4=>?_⟩;have q4:=q3.trans k4;have mw4:=mw.keepT (Ez P3 k4);have OU:=k4 _ _ nD Gp;clear mw Gp hD k1 k2 k3 k4 q3 P1 P2 P3 fD;refine ⟨(by show 0<=sizeLine; lia),fun R hR=>?_⟩;have nR:R ≠ p:=P4.ne hR;have nRD:R ≠ D:=fun z=>by rw [z,OU] at hR; cases hR
  have s5:=Ac (o:=.lst []) hR;have P5:=P4.same s5;have Vq:=mw4.keepT (fun b ys z=>s5 _ _ z);have Nt:=s5 _ _ OU;have PM:(upd H4 R (.lst [])) R=some (.lst []):=Ab;have q5:A8 p H (upd H4 R (.lst [])):=q4.trans (A8.of_same s5);have frR:H R=none:=by
   cases z:H R with
   | none=>rfl
   | some o=>rw [q4 _ _ nR z] at hR; cases hR
  generalize upd H4 R (.lst [])=H5 at P5 Vq Nt PM q5;clear mw4 OU hR s5 P4 q4;have lx:((xs.map V.str).length:Int)=1 + (n1:Int):=by rw [Wj,xl]; lia
  refine ⟨_,rfl,_,rfl,_,rfl,_,rfl,D,_,rfl,.inl (AD.of Nt),_,_,rfl,p,_,rfl,P5,by rw [lx]; split <;> lia,by rw [lx]; split <;> lia,fun d2 H6 P6 k6 d20 UW=>⟨_,_,rfl,rfl,?_⟩⟩;rw [lx] at UW;obtain ⟨n2,rfl⟩:∃ n:Nat,d2=n:=⟨d2.toNat,by lia⟩
  have n2b:1 + n2<=xs.length/\n2 < 6:=by
   rw [xl];split at UW <;> lia
  refine ⟨p,D,xs,1 + n2,rfl,P6,k6 _ _ nD Nt,nD,by lia,n2b.1,fun H7 D1 ys zs P7 k7 Ti Sx pm yl so=>⟨D1,rfl,⟨_,AD.of Sx⟩,?_⟩⟩;have TJ:=k6.trans k7;have UB:=Vq.keepT (Ez P5 TJ);have hD7:=TJ _ _ nD Nt;have VJ:=TJ _ _ nR PM;have q7:=q5.trans TJ;have nD1:D1 ≠ p:=P6.ne Ti;have nDR:D1 ≠ R:=fun z=>by rw [z,k6 _ _ nR PM] at Ti; cases Ti
  clear Vq Nt PM q5 k6 k7 TJ P5 P6 Ti;refine Hi (xs:=ys.map V.str) (fun i σ H'=>∃ (v6:Option V) (rs:List DL) (vs:List V),σ=[some (.ref p),some (.int sh),some (.ref D),some (.ref m),some (.int wy),some (.ref R),v6,none,none]/\R5 K H7 H' p R rs vs/\rs.map (·.1)=ys.take i/\vs.length=i/\∀ r ∈ rs,0<=r.2/\r.2 < 10 ^ 30)
   ⟨_,[],[],rfl,⟨P7,fun b o _ _ z=>z,VJ,.nil,nR⟩,rfl,rfl,fun r hr=>nomatch hr⟩ (fun i σ H' _ ⟨_,_,_,_,r5,_⟩=>AD.of (r5.kp _ _ nD1 nDR Sx)) ?_ ?_
  ·rintro i v σ H' hv ⟨v6,rs,vs,rfl,r5,rt,vl,rl⟩;obtain ⟨y,ey,rfl⟩:∃ y,ys[i]? = some y/\v=.str y:=by
    rw [Wy] at hv;cases ex:ys[i]? with
    | none=>rw [ex] at hv; cases hv
    | some x=>rw [ex] at hv; exact ⟨x,rfl,(WA.inj hv).symm⟩
   have ii:=(Wt.mp ey).1;refine ⟨_,rfl,.inl ⟨rfl,_,AD.of r5.hR⟩,_,rfl,_,rfl,p,5,rfl,r5.pn,by decide,by decide,fun e1 Ha Pa ka e10 e11=>?_⟩;refine ⟨_,rfl,p,40,rfl,Pa,by decide,by decide,fun e2 Hb Pb kb e20 e21=>?_⟩;refine ⟨_,rfl,p,rfl,Pb,fun le Hc Pc kc le1 TF=>⟨_,_,rfl,rfl,(by show 4<=sizeLine; lia),fun T hT=>?_⟩⟩;have rc:=r5.step Pc ((ka.trans kb).trans kc);obtain ⟨a,ha,a0,Wf⟩:∃ a:Int,J1 [V.int 0,V.int e1,V.int e2,V.int (le - 1)] wy=some (.int a)/\0<=a/\a < 10 ^ 30:=by
    have c:wy=0\/wy=1\/wy=2\/wy=3:=by lia
    rcases c with rfl | rfl | rfl | rfl
    ·exact ⟨0,rfl,by lia,by lia⟩
    ·exact ⟨e1,rfl,by lia,by lia⟩
    ·exact ⟨e2,rfl,by lia,by lia⟩
    ·exact ⟨le - 1,rfl,by lia,by lia⟩
   have rd:=rc.add hT (.lst [.int 0,.int e1,.int e2,.int (le - 1)]);refine ⟨_,rfl,T,_,_,_,rfl,rfl,AD.of Ab,ha,(by show 2<=sizeLine; lia),fun T2 MS=>?_⟩;have re:=rd.add MS (.tup [.str y,.int a]);exists R,_,_,rfl,rfl,re.hR,by lia
   refine ⟨_,rs ++ [(y,a)],_,rfl,re.app Ab,by rw [W3,rt,W5,ey]; rfl,by rw [Ww,vl]; rfl,fun r hr=>?_⟩;rcases W9.mp hr with hr | hr
   ·exact rl r hr
   ·rw [Wz.mp hr]; exact ⟨a0,Wf⟩
  rintro σ H8 ⟨v6,A9,R4,rfl,r8,U6,vl1,rl1⟩;rw [Wj,WD] at U6;rw [Wj] at vl1;have rs1l:A9.length=ys.length:=by rw [<-U6,Wj]
  have tp8:∀ b xs,H7 b=some (.tup xs)->H8 b=some (.tup xs):=fun b xs z=>r8.kp b _ (by obtain ⟨_,_,_,_,y,_⟩:=P7; exact Br z y (fun q=>by cases q)) (Br z VJ (fun q=>by cases q)) z
  have mw8:=UB.keepT tp8;have VM:=r8.kp _ _ nD nRD.symm hD7;have q8:A8 p H H8:=fun b o hb z=>r8.kp b o hb (Ah z frR) (q7 b o hb z)
  have P8:=r8.pn;have VI:=r8.hR;have dd8:=r8.dd;have ok1:EH ps 0 A9:=Fe pm xnd U6 rl1 (by lia) pp;clear r8 UB hD7 VJ tp8 Sx nDR nD1 q7 P7;refine ⟨(by show 0<=sizeLine; lia),fun R2 PN=>?_⟩;have T8:R2 ≠ p:=P8.ne PN;have nR2D:R2 ≠ D:=fun z=>by rw [z,VM] at PN; cases PN
  have nRR:R ≠ R2:=fun z=>by rw [<-z,VI] at PN; cases PN
  have s9:=Ac (o:=.lst []) PN;have P9:=P8.same s9;have Vp:=mw8.keepT (fun b ys z=>s9 _ _ z);have UM:=s9 _ _ VM;have VH:=s9 _ _ VI;have VW:=Bc dd8 (fun b ys z=>s9 _ _ z);have QF:(upd H8 R2 (.lst [])) R2=some (.lst []):=Ab;have q9:A8 p H (upd H8 R2 (.lst [])):=q8.trans (A8.of_same s9);have VQ:H R2=none:=by
   cases z:H R2 with
   | none=>rfl
   | some o=>rw [q8 _ _ T8 z] at PN; cases PN
  generalize upd H8 R2 (.lst [])=H9 at P9 Vp UM VH VW QF q9;clear mw8 VM VI dd8 q8 P8 s9 PN;refine ⟨_,rfl,_,rfl,_,rfl,_,rfl,D,_,rfl,.inl (AD.of UM),_,_,rfl,p,_,rfl,P9,by rw [lx]; split <;> lia,by rw [lx]; split <;> lia,fun d3 Nw Wh k10 d30 d31=>⟨_,_,rfl,rfl,?_⟩⟩;rw [lx] at d31;obtain ⟨n3,rfl⟩:∃ n:Nat,d3=n:=⟨d3.toNat,by lia⟩
  have n3b:1 + n3<=xs.length/\n3 < 8:=by
   rw [xl];split at d31 <;> lia
  refine ⟨p,D,xs,1 + n3,rfl,Wh,k10 _ _ nD UM,nD,by lia,n3b.1,fun Rb D2 Tr zs2 Wg k11 UN FC RQ yl2 Py=>⟨D2,rfl,⟨_,AD.of FC⟩,?_⟩⟩;have MN:=k10.trans k11;have TB:=Vp.keepT (Ez P9 MN);have Up:=MN _ _ nR VH;have Uy:=Bc VW (Ez P9 MN);have OT:=MN _ _ T8 QF;have q11:=q9.trans MN;have UA:D2 ≠ p:=Wh.ne UN;have T9:D2 ≠ R2:=fun z=>by rw [z,k10 _ _ T8 QF] at UN; cases UN
  clear Vp UM VH VW QF q9 P9 Wh k10 k11 MN UN;refine Hi (xs:=Tr.map V.str) (fun i σ H'=>∃ (v6:Option V) (rs:List DL) (vs:List V),σ=[some (.ref p),some (.int sh),some (.ref D),some (.ref m),some (.int wy),some (.ref R),v6,some (.ref R2),none]/\R5 K Rb H' p R2 rs vs/\rs.map (·.1)=Tr.take i/\vs.length=i/\∀ r ∈ rs,1<=r.2/\r.2 < 10 ^ 30)
   ⟨_,[],[],rfl,⟨Wg,fun b o _ _ z=>z,OT,.nil,T8⟩,rfl,rfl,fun r hr=>nomatch hr⟩ (fun i σ H' _ ⟨_,_,_,_,r5,_⟩=>AD.of (r5.kp _ _ UA T9 FC)) ?_ ?_
  ·rintro i v σ H' hv ⟨v6,rs,vs,rfl,r5,rt,vl,rl⟩;obtain ⟨y,ey,rfl⟩:∃ y,Tr[i]? = some y/\v=.str y:=by
    rw [Wy] at hv;cases ex:Tr[i]? with
    | none=>rw [ex] at hv; cases hv
    | some x=>rw [ex] at hv; exact ⟨x,rfl,(WA.inj hv).symm⟩
   have ii:=(Wt.mp ey).1;refine ⟨_,rfl,.inl ⟨rfl,_,AD.of r5.hR⟩,_,rfl,_,rfl,p,4,rfl,r5.pn,by decide,by decide,fun e1 Ha Pa ka e10 e11=>⟨_,_,rfl,rfl,?_⟩⟩;refine ⟨_,rfl,p,rfl,Pa,fun le Hc Pc kc le1 TF=>⟨(by show 2<=sizeLine; lia),fun T hT=>?_⟩⟩;have rd:=(r5.step Pc (ka.trans kc)).add hT (.lst [.int (1 + e1),.int le]);have nT:T ≠ p:=Pc.ne hT;have HG:(upd Hc T (.lst [.int (1 + e1),.int le])) T=some (.lst [.int (1 + e1),.int le]):=Ab;generalize upd Hc T (.lst [.int (1 + e1),.int le])=Hd at rd HG;refine ⟨_,rfl,p,5,rfl,rd.pn,by decide,by decide,fun e3 He Pe ke e30 e31=>⟨rfl,.inr ⟨_,rfl,?_⟩⟩⟩;have re:=rd.step Pe ke;have hTe:=ke _ _ nT HG;obtain ⟨a,ha,a0,Wf⟩:∃ a:Int,J1 [V.int (1 + e1),V.int le] (if decide (V.int e3=V.int 0)=true then 1 else 0)=some (.int a)/\1<=a/\a < 10 ^ 30:=by
    split
    ·exact ⟨le,rfl,le1,TF⟩
    ·exact ⟨1 + e1,rfl,by lia,by lia⟩
   refine ⟨T,_,_,_,rfl,rfl,AD.of hTe,ha,(by show 2<=sizeLine; lia),fun T2 MS=>?_⟩;have rf:=re.add MS (.tup [.str y,.int a]);exists R2,_,_,rfl,rfl,rf.hR,by lia
   refine ⟨_,rs ++ [(y,a)],_,rfl,rf.app Ab,by rw [W3,rt,W5,ey]; rfl,by rw [Ww,vl]; rfl,fun r hr=>?_⟩;rcases W9.mp hr with hr | hr
   ·exact rl r hr
   ·rw [Wz.mp hr]; exact ⟨a0,Wf⟩
  rintro σ H12 ⟨v6',AJ,U1,rfl,RO,SV,vl2,rl2⟩;rw [Wj,WD] at SV;rw [Wj] at vl2;have rs2l:AJ.length=Tr.length:=by rw [<-SV,Wj]
  have RB:∀ b xs,Rb b=some (.tup xs)->H12 b=some (.tup xs):=fun b xs z=>RO.kp b _ (by obtain ⟨_,_,_,_,y,_⟩:=Wg; exact Br z y (fun q=>by cases q)) (Br z OT (fun q=>by cases q)) z
  have Vr:=TB.keepT RB;have Uo:=RO.kp _ _ nR nRR Up;have VX:=Bc Uy RB;have q12:A8 p H H12:=fun b o hb z=>RO.kp b o hb (Ah z VQ) (q11 b o hb z)
  have P12:=RO.pn;have Um:=RO.hR;have VV:=RO.dd;have ok2:EH ps 1 AJ:=Fe RQ xnd SV rl2 (by lia) pp;clear RO TB Up Uy OT q11 Wg RB FC UA T9;refine ⟨_,rfl,_,rfl,R,_,rfl,.inl (AD.of Uo),p,_,rfl,P12,by lia,by lia,fun f1 H13 P13 k13 f10 f11=>⟨_,_,rfl,rfl,?_⟩⟩;refine ⟨_,rfl,p,12,rfl,P13,by decide,by decide,fun f2 H14 P14 k14 f20 f21=>⟨_,_,rfl,rfl,(by show 3<=sizeLine; lia),fun T hT=>?_⟩⟩;have Pz:=Ac (o:=.lst [.non,.int (1 + f1),.int (1 + f2)]) hT;have P15:=P14.same Pz;have nT:T ≠ p:=P14.ne hT;have HG:(upd H14 T (.lst [.non,.int (1 + f1),.int (1 + f2)])) T=some (.lst [.non,.int (1 + f1),.int (1 + f2)]):=Ab;have k15:=(k13.trans k14).trans (A8.of_same Pz);generalize upd H14 T (.lst [.non,.int (1 + f1),.int (1 + f2)])=H15 at P15 HG k15;refine ⟨_,rfl,p,3,rfl,P15,by decide,by decide,fun f3 H16 P16 k16 f30 f31=>?_⟩;obtain ⟨x,d,hx,lim⟩:∃ (x:V) (d:PyData),J1 [V.non,V.int (1 + f1),V.int (1 + f2)] f3=some x/\Lim x d:=by
   have c:f3=0\/f3=1\/f3=2:=by lia
   rcases c with rfl | rfl | rfl
   ·exact ⟨_,_,rfl,.inl ⟨rfl,rfl⟩⟩
   ·exact ⟨_,_,rfl,.inr ⟨1 + f1,rfl,rfl,by lia,by lia⟩⟩
   ·exact ⟨_,_,rfl,.inr ⟨1 + f2,rfl,rfl,by lia,by lia⟩⟩
  exists T,_,_,x,rfl,rfl,AD.of (k16 _ _ nT HG),hx;have kk:=k15.trans k16;have tt:=Ez P12 kk;have q16:=q12.trans kk;refine ⟨_,rfl,_,rfl,R,_,rfl,.inl ⟨AD.of (kk _ _ nR Uo),fun t1 Eu=>?_⟩⟩;have s17:=Ac (o:=.tup R4) Eu;refine ⟨_,rfl,R2,_,rfl,.inl ⟨AD.of (s17 _ _ (kk _ _ T8 Um)),fun t2 DY=>?_⟩⟩;have s18:=Ac (o:=.tup U1) DY;refine ⟨_,rfl,(by show 4<=sizeLine; lia),fun c hc=>?_⟩;have Vg:=Ac (o:=.tup [.ref m,.ref t1,.ref t2,x]) hc;have sa:=s17.trans (s18.trans Vg);refine k _ c m (1 + n1) ps ws A9 AJ x d (P16.same sa) (q16.trans (A8.of_same sa)) ⟨⟨⟨t1,t2,R4,U1,Ab,Vg _ _ (s18 _ _ Ab),Bc VX fun b ys z=>sa _ _ (tt _ _ z),Vg _ _ Ab,Bc VV fun b ys z=>sa _ _ (tt _ _ z)⟩,by rw [<-xl]; exact Vr.keepT fun b ys z=>sa _ _ (tt _ _ z),by lia,by lia,ok1,ok2,by lia,by lia,lim⟩,by lia,by lia,by lia,by rw [U6]; exact so,by rw [SV]; exact Py⟩
end
section
variable {P:Program} {w:World} {K:Wm} {mg:Str->Option Value} {base:Heap}
theorem RZ (h_sorted:mg "sorted"=none) (h_tuple:mg "tuple"=none) {f:Addr} {cdv:Value} {A:Around} {outer:List Env} {s:Shared} {H:Hp} {E:XK} (hr:Cs 2 (A.deeper (PyProof.Rows.envOfC "_law_map" (Al Cj) s.heap.objs.size f cdv))) :
  ∃ tl,Jv (EC BJ P w K mg base ["_law_pen","_law_names_here","_law_shape","_law_ways","_law_k","_law_other","_law_turn","_law_pair"] "_law_map" (Al Cj) f cdv A outer s H E).nox ((B6 Cj).drop 3) tl /\
   ∀ (W:DN) (H0 H1:Hp) (p e D:Addr) (xs:List Str) (us:List A5) (v2 v4 v5 v6 v7:Option V),M5 K H0 H1 p e D xs us->E6 xs us->us.length<=31->(∀ u ∈ us,u.2.2 < 10 ^ 30)->xs.Nodup->(∀ x ∈ xs,C9 x=true)->xs.length<=26 ->
    (∀ (H':Hp) (m:Addr) (ps:List Str) (ws:List A5),CM K H' p->A8 p H0 H'->ps.Perm xs->EI H' m xs.length ps ws->W.rt (.ref m) H')->tl W [some (.ref p),some (.ref e),v2,some (.ref D),v4,v5,v6,v7] H1:=by
 have nd:=E9.nd;have hu:=Du hr;have big:100000 < sizeLine:=by decide
 refine ⟨_,(Ak (AM (AQ (Aa (AX (Be K rfl) (by rfl) h_tuple PyProof.Rows.boot_tuple (Aa (Ao Cu (by rfl) h_sorted PyProof.Rows.boot_sorted (Aa (pv 1) Ad)) Ad)) (Aa (AX (Be K rfl) (by rfl) h_tuple PyProof.Rows.boot_tuple (Aa (Bz (N:=["_law_pair","_law_ways"]) (σ0:=fun σ=>[none,some 3].map fun j=>j.bind fun j=>(σ[j]?).join) rfl (AE.caught (by rfl) (by decide +kernel) rfl (by decide +kernel) (by intro y hy; simp only [Wn,Wu,or_false] at hy; rcases hy with rfl <;> rfl)
   (by intro y hy e; simp only [Wn,Wu,or_false] at hy; rcases hy with rfl | rfl | rfl <;> first | exact ⟨_,rfl⟩ | cases e)) (fun σ _=>AK.of [none,some 3] rfl (by
   intro i j x h1 h2;match i,h1,h2 with
   | 0,_,h2=>cases h2
   | 1,h1,h2=>cases h1; cases h2; exact ⟨rfl,.inl rfl,.inl rfl⟩
   | n + 2,h1,_=>cases h1)) (AN K rfl (Ao (Hq rfl) (by rfl) h_sorted PyProof.Rows.boot_sorted (Aa (pv 3) Ad)))
   (fun s2 H C fp=>⟨(Ai (i:=0) (show (["_law_pair","_law_ways"]:List Str).Nodup by decide +kernel) rfl (Or.inl rfl)),Bh,(Av (O1 K rfl) (pv 0) (AQ (Aa (Bj hu (pv 1) (pv 0) (fun _ _=>rfl)) Ad)))⟩)) Ad)) Ad))))),?_⟩
 intro W H0 H1 p e D xs us v2 v4 v5 v6 v7 mi wc ul Px xnd xnm x26 k;refine ⟨_,rfl,e,xs,rfl,AD.of mi.he,by lia,fun l ps hl pm so=>⟨l,_,rfl,.inl ⟨AD.of Ab,fun T1 Rp=>?_⟩⟩⟩;have m1:=(mi.add hl (.lst (ps.map V.str))).add Rp (.tup (ps.map V.str));have Uk:(upd (upd H1 l (.lst (ps.map V.str))) T1 (.tup (ps.map V.str))) T1=some (.tup (ps.map V.str)):=Ab;generalize upd (upd H1 l (.lst (ps.map V.str))) T1 (.tup (ps.map V.str))=H2 at m1 Uk;refine ⟨_,rfl,D,_,fun _=>true,rfl,m1.hw,fun q hq=>?_,by rw [Wj]; lia,fun l2 ts ks OQ pk tl tt=>⟨l2,rfl,⟨_,AD.of Ab⟩,?_⟩⟩
 ·obtain ⟨u,_,rfl⟩:=W4.mp hq;refine ⟨(fun z=>by cases z),fun i y ey=>?_⟩;have hm:=Wo ey;have Tb:y ∈ [Sum.inr (BL u.1 u.2.1),Sum.inr (BN u.1 u.2.1)]:=hm;simp only [Wn,Wu,or_false] at Tb;rcases Tb with rfl | rfl
  ·exact ⟨_,rfl⟩
  ·exact ⟨_,rfl⟩
 have m2:=m1.add OQ (.lst (ts.map V.ref));have Ue:(upd H2 l2 (.lst (ts.map V.ref))) l2=some (.lst (ts.map V.ref)):=Ab;have s2:=Ac (o:=.lst (ts.map V.ref)) OQ;have Uj:=s2 _ _ Uk;generalize upd H2 l2 (.lst (ts.map V.ref))=H3 at m2 Ue s2 Uj;rw [Xp] at pk;obtain ⟨Lq,pu,rfl⟩:=FL _ pk.symm us rfl;have ulen:=pu.length_eq;rw [Wj] at tl;refine BG Bf (xs:=ts.map V.ref) (fun B i σ H' acc=>∃ v0:Option V,σ=[v0,some (.ref D)]/\Au H3 H'/\H' B=some (.lst acc)/\acc.length=i/\BI H' acc (((Lq.take i).map DW).map Ml))
  (by rw [Wj]; lia) (fun B hB=>⟨_,rfl,Ac hB,Ab,rfl,.nil⟩) (fun B i σ H' acc hB ⟨v0,_,kp,Te,al,_⟩=>⟨AD.of (kp _ _ Ue),Te,al⟩) ?_ ?_
 ·rintro B i σ H' acc x' Y hB ex ⟨v0,rfl,kp,Te,al,dd⟩ hY;obtain ⟨t,et,rfl⟩:∃ t,ts[i]? = some t/\x'=.ref t:=by
   rw [Wy] at ex;cases z:ts[i]? with
   | none=>rw [z] at ex; cases ex
   | some t=>rw [z] at ex; exact ⟨t,rfl,(WA.inj ex).symm⟩
  have hi:i < Lq.length:=by rw [<-tl]; exact (Wt.mp et).1
  obtain ⟨u,eu⟩:∃ u,Lq[i]? = some u:=⟨_,Wk hi⟩
  have ht:H2 t=some (.tup [.str (BL u.1 u.2.1),.str (BN u.1 u.2.1)]):=tt i t (Dt u) et (by rw [Wy,eu]; rfl);have UI:=kp _ _ (s2 _ _ ht);have um:u ∈ us:=pu.mem_iff.mp (Wo eu);have dg:BX H' D (.ref t) (some (.int u.2.2)):=by
   rw [<-valW wc.2.1 um];exact BX.t (k:=Dt u) (kp _ _ m2.hw) UI
  refine ⟨_,rfl,_,rfl,_,rfl,D,_,rfl,dg,(by show 1<=sizeLine; lia),fun T2 MS=>?_⟩;refine ⟨t,T2,_,_,rfl,rfl,AG.of (Ac MS _ _ UI),AG.of Ab,by simp,by show 2 + 1<=sizeLine; lia,(fun z=>by cases z),fun _ T hT=>?_⟩;have s4:=(Ac (o:=.tup [.int u.2.2]) MS).trans (Ac (o:=.tup [.str (BL u.1 u.2.1),.str (BN u.1 u.2.1),.int u.2.2]) hT);have HG:(upd (upd H' T2 (.tup [.int u.2.2])) T (.tup [.str (BL u.1 u.2.1),.str (BN u.1 u.2.1),.int u.2.2])) T=some (.tup [.str (BL u.1 u.2.1),.str (BN u.1 u.2.1),.int u.2.2]):=Ab;show Y _ _ (upd (upd H' T2 (.tup [.int u.2.2])) T (.tup [.str (BL u.1 u.2.1),.str (BN u.1 u.2.1),.int u.2.2]))
  generalize upd (upd H' T2 (.tup [.int u.2.2])) T (.tup [.str (BL u.1 u.2.1),.str (BN u.1 u.2.1),.int u.2.2])=H5 at s4 HG;have hB5:=s4 _ _ Te;have nT:T ≠ B:=Br HG hB5 (fun z=>by cases z);refine hY _ _ _ hB5 ⟨_,rfl,fun b o z=>by rw [Ae (Ah z hB)]; exact s4 _ _ (kp _ _ z),Ab,by rw [Ww,al]; rfl,?_⟩;rw [W5,eu,Option.toList_some,W3,W3];refine Ea (ET dd fun b ys z=>?_) (.cons (.tup (vs:=[.str (BL u.1 u.2.1),.str (BN u.1 u.2.1),.int u.2.2]) (by rw [Ae nT]; exact HG) ?_) .nil)
  ·rw [Ae (Br z Te (fun y=>by cases y))];exact s4 _ _ z
  ·exact .cons (.str _) (.cons (.str _) (.cons (.int _) .nil))
 ·rintro B σ H' acc hB ⟨v0,rfl,kp,Te,al,dd⟩;rw [Wj,tl,WD] at dd;refine ⟨B,_,rfl,.inl ⟨AD.of Te,fun T hT=>⟨(by show 2<=sizeLine; lia),fun m hm=>?_⟩⟩⟩;have s5:=(Ac (o:=.tup acc) hT).trans (Ac (o:=.tup [.ref T1,.ref T]) hm);have s6:=kp.trans s5;have m6:=m2.step (m2.pn.same s6) (A8.of_same s6);have pw:(Lq.map DW).Perm (us.map DW):=pu.map _;refine k _ m ps (Lq.map DW) m6.pn m6.kp pm ⟨⟨⟨T1,T,acc,Ab,s6 _ _ Uj,Ac hm _ _ Ab,ET dd fun b ys z=>s5 _ _ z⟩,pm.length_eq,pm.nodup_iff.mpr xnd,fun x hx=>xnm x (pm.mem_iff.mp hx),by rw [Wj]; lia,fun w hw=>?_⟩,⟨xs,us,pm,pw,wc⟩,so,by rw [Wj]; lia⟩;have hn:=Iy pw (fun u hu=>⟨(wc.1 u hu).1,(wc.1 u hu).2.1⟩) w hw;obtain ⟨u,V1,rfl⟩:=W4.mp hw;have um:=pu.mem_iff.mp V1;exact ⟨xnm _ hn.1,xnm _ hn.2,(wc.1 u um).2.2.2,Px u um⟩
theorem GI (h_int:mg "int"=none) (h_len:mg "len"=none) (h_max:mg "max"=none) (h_range:mg "range"=none) (h_sorted:mg "sorted"=none) (h_tuple:mg "tuple"=none) {fT:Addr} {fdT:FuncData} (XT:Fn K mg "_law_take" AI ["_law_pen","_law_many"] fT fdT) (GT:AH P w K mg base BJ 1 fT fdT ["_law_pen","_law_many"] (CO K)) {fL:Addr} {fdL:FuncData} (XL:Fn K mg "_law_length" Co ["_law_pen"] fL fdL) (GL:AH P w K mg base BJ 2 fL fdL ["_law_pen"] (K2 K)) {f:Addr} {fd:FuncData} (F:Ew K "_law_map" "_law_map" Cj f fd):AH P w K mg base BJ 3 f fd ["_law_pen","_law_names_here","_law_shape"] (K1 K):=by
 refine F.ok E9 (fun vs H Q E h=>?_) (fun cdv A outer s H vs Q E hr h=>?_)
 ·obtain ⟨p,e,xs,sh,rfl,_⟩:=h;rfl
 ·obtain ⟨p,e,xs,sh,rfl,P0,he,nep,xnd,xnm,x1,x26,SS,sh4,k⟩:=h;have nd:=E9.nd;have hu:=Du hr;have big:100000 < sizeLine:=by decide
  obtain ⟨tE,hE,kE⟩:=RZ (P:=P) (w:=w) (K:=K) (mg:=mg) (base:=base) h_sorted h_tuple (f:=f) (cdv:=cdv) (A:=A) (outer:=outer) (s:=s) (H:=H) (E:=E) hr;refine ⟨_,(Af (Ap (i:=3) nd rfl (Or.inr rfl) JL)
  (Af (Bi PassesOwn.never rfl (M4 (by rfl) h_range (Aa Ag (Aa (Ao (Ax K rfl) (by rfl) h_len PySem.boot_len (Aa (pv 1) Ad)) Ad))) (Ai (i:=4) nd rfl (Or.inl rfl))
  (Af (Ap (i:=5) nd rfl (Or.inl rfl) (AF (Ba K rfl) (Bq (Aa (Av Jf (pv 4) Ag) (Aa (Aj GT (hr.mono (by decide)) (by rfl) XT.mg XT.F.kp XT.b .nil Ar (Aa (pv 0) (Aa (pv 4) Ad))) (Aa (Ao (Nh rfl) (by rfl) h_max PyProof.Rows.boot_max (Aa Ag (Aa (Av Jf (Av Jf (pv 4) Ag) (Aj GT (hr.mono (by decide)) (by rfl) XT.mg XT.F.kp XT.b .nil Ar (Aa (pv 0) (Aa Ag Ad)))) Ad))) (Aa Ag Ad))))) (pv 2) (fun _ _=>rfl)))
  (Ak (Cp hu (pv 3) (AX (Be K rfl) (by rfl) h_tuple PyProof.Rows.boot_tuple (Aa (Ao Dy (by rfl) h_sorted PyProof.Rows.boot_sorted (Aa (Bq (Aa (AF (Ba K rfl) (pv 1) (pv 4) (fun _ _=>rfl)) (Aa (AF (Ba K rfl) (pv 1) (pv 5) (fun _ _=>rfl)) Ad))) Ad)) Ad)) (Aj GL (hr.mono (by decide)) (by rfl) XL.mg XL.F.kp XL.b .nil Ar (Aa (pv 0) Ad)) rfl))))
  (Af (Bi PassesOwn.never rfl (CG (by rfl) h_range (Aa (Av D5 (Aj GT (hr.mono (by decide)) (by rfl) XT.mg XT.F.kp XT.b .nil Ar (Aa (pv 0) (Aa Ag Ad))) (AX FG (by rfl) h_int PyProof.Rows.boot_int (Aa (Gm O0 (pv 2) Ag (B9 _)) Ad))) Ad)) (Ai (i:=6) nd rfl (Or.inl rfl))
  (Af (Ap (i:=7) nd rfl (Or.inl rfl) (AX (Be K rfl) (by rfl) h_tuple PyProof.Rows.boot_tuple (Aa (Ao Dy (by rfl) h_sorted PyProof.Rows.boot_sorted (Aa (Bq (Aa (AF (Ba K rfl) (pv 1) (Aj GT (hr.mono (by decide)) (by rfl) XT.mg XT.F.kp XT.b .nil Ar (Aa (pv 0) (Aa (Ao (Ax K rfl) (by rfl) h_len PySem.boot_len (Aa (pv 1) Ad)) Ad))) (fun _ _=>rfl)) (Aa (AF (Ba K rfl) (pv 1) (Aj GT (hr.mono (by decide)) (by rfl) XT.mg XT.F.kp XT.b .nil Ar (Aa (pv 0) (Aa (Ao (Ax K rfl) (by rfl) h_len PySem.boot_len (Aa (pv 1) Ad)) Ad))) (fun _ _=>rfl)) Ad))) Ad)) Ad)))
  (Ak (CK (K8 (Bt Ox (AF (AL K rfl) (pv 7) Ag (fun _ _=>rfl)) (AF (AL K rfl) (pv 7) Ag (fun _ _=>rfl)) (B9 _)) (LC (EA (Ih hu (pv 7) (pv 3))))).pt
  (Ak (Cp hu (pv 3) (pv 7) (Aj GL (hr.mono (by decide)) (by rfl) XL.mg XL.F.kp XL.b .nil Ar (Aa (pv 0) Ad)) rfl))
  BC))))
  hE))),?_⟩
  intro D hD;have m0:M5 K H (upd H D (.dT [])) p e D xs []:=⟨P0.same (Ac hD),Ac hD _ _ he,Ab,A8.of_same (Ac hD),nep,P0.ne hD,hD⟩
  generalize upd H D (.dT [])=H1 at m0;exists _,rfl,e,_,rfl,.inl (AD.of m0.he),_,_,rfl,⟨by lia,by lia,by rw [Wj]; lia,by rw [Wj]; lia⟩
  refine Dw (lo:=1) (fun j σ H'=>∃ (v4 v5 v6 v7:Option V) (us:List A5),σ=[some (.ref p),some (.ref e),some (.int sh),some (.ref D),v4,v5,v6,v7]/\M5 K H H' p e D xs us/\us.length=j/\Ge xs (j + 1) us/\∀ u ∈ us,u.2.2 < 10 ^ 30)
   ⟨_,_,_,_,[],rfl,m0,rfl,Ge.nil xs,fun u hu=>nomatch hu⟩ ?_ ?_
  ·rintro j σ H' hj ⟨v4,v5,v6,v7,us,rfl,mi,ul,tr,Px⟩;rw [Wj] at hj;have Dv:j + 1 < xs.length:=by lia
   refine ⟨_,rfl,_,_,rfl,rfl,_,rfl,_,rfl,p,_,rfl,mi.pn,by lia,by lia,fun d H2 P2 k2 d0 d1=>?_⟩;refine ⟨_,rfl,_,_,rfl,rfl,_,rfl,p,2,rfl,P2,by decide,by decide,fun d' H3 P3 k3 d'0 d'1=>⟨_,_,rfl,rfl,_,_,rfl,?_⟩⟩;have Ta:=mi.step P3 (k2.trans k3);clear mi P2 k2 k3;refine ⟨(by show 4<=sizeLine; lia),fun T hT=>?_⟩;have SY:=Ta.add hT (.lst [.int (1 + (j:Int) - 1),.int d,.int (if 1 + (j:Int) - 1 - d' > 0 then 1 + (j:Int) - 1 - d' else 0),.int 0]);have HG:(upd H3 T (.lst [.int (1 + (j:Int) - 1),.int d,.int (if 1 + (j:Int) - 1 - d' > 0 then 1 + (j:Int) - 1 - d' else 0),.int 0])) T=some (.lst [.int (1 + (j:Int) - 1),.int d,.int (if 1 + (j:Int) - 1 - d' > 0 then 1 + (j:Int) - 1 - d' else 0),.int 0]):=Ab;obtain ⟨o,hv,o0⟩:∃ o:Nat,J1 [V.int (1 + (j:Int) - 1),V.int d,V.int (if 1 + (j:Int) - 1 - d' > 0 then 1 + (j:Int) - 1 - d' else 0),V.int 0] sh=some (.int (o:Int))/\o < j + 1:=by
    have c:sh=0\/sh=1\/sh=2\/sh=3:=by lia
    rcases c with rfl | rfl | rfl | rfl
    ·exact ⟨j,by show some (V.int _)=_; rw [show 1 + (j:Int) - 1=(j:Int) by lia],by lia⟩
    ·exact ⟨d.toNat,by show some (V.int _)=_; rw [Zo d0],by lia⟩
    ·exists (if 1 + (j:Int) - 1 - d' > 0 then 1 + (j:Int) - 1 - d' else 0).toNat,?_
     ·show some (V.int _)=_
      rw [Zo (by split <;> lia)]
     ·split <;> lia
    ·exact ⟨0,rfl,by lia⟩
   generalize upd H3 T (.lst [.int (1 + (j:Int) - 1),.int d,.int (if 1 + (j:Int) - 1 - d' > 0 then 1 + (j:Int) - 1 - d' else 0),.int 0])=H4 at SY HG;exists _,rfl,T,_,_,_,rfl,rfl,AD.of HG,hv;refine ⟨_,rfl,p,rfl,SY.pn,fun le H5 P5 k5 l1 l30=>?_⟩;have Vs:=SY.step P5 k5;have ea:(xs.map V.str)[j + 1]? = some (.str xs[j + 1]):=by rw [Wy,Wk Dv]; rfl
   have eo:(xs.map V.str)[o]? = some (.str (xs[o]'(by lia))):=by rw [Wy,Wk (by lia)]; rfl
   have e1j:(1 + (j:Int))=((j + 1:Nat):Int):=by lia
   have xo:xs[o]? = some (xs[o]'(by lia)):=Wk _;have xj:xs[j + 1]? = some xs[j + 1]:=Wk _;generalize (xs[o]'(by lia))=x at eo xo;generalize xs[j + 1]=y at ea xj;refine ⟨_,rfl,_,rfl,_,rfl,e,_,_,_,rfl,rfl,AD.of Vs.he,(by rw [e1j]; exact DB ea),_,rfl,_,rfl,e,_,_,_,rfl,rfl,AD.of Vs.he,DB eo,(by show 2<=sizeLine; lia),fun T2 MS=>⟨T2,y,x,rfl,Ab,fun l hl=>⟨l,_,rfl,.inl ⟨AD.of Ab,fun T3 VC=>?_⟩⟩⟩⟩;have PB:=((Vs.add MS (.lst [.str y,.str x])).add hl (.lst [.str (BL y x),.str (BN y x)])).add VC (.tup [.str (BL y x),.str (BN y x)]);have pn:=LF (RX tr xnd (x:=x) (n:=le) xj);have hk:(upd (upd (upd H5 T2 (.lst [.str y,.str x])) l (.lst [.str (BL y x),.str (BN y x)])) T3 (.tup [.str (BL y x),.str (BN y x)])) T3=some (.tup ((Dt (x,y,le)).map kV)):=by
    rw [Il y x,Im y x];exact Ab
   generalize upd (upd (upd H5 T2 (.lst [.str y,.str x])) l (.lst [.str (BL y x),.str (BN y x)])) T3 (.tup [.str (BL y x),.str (BN y x)])=H6 at PB hk;exists D,_,rfl,DO.t PB.hw hk (by rw [Wj]; lia);rw [show V.int le=V.int (x,y,le).2.2 from rfl,pn];refine ⟨_,_,_,_,us ++ [(x,y,le)],rfl,PB.put _,by rw [Ww,ul]; rfl,NH tr xnd o0 xo xj l1,fun u hu=>?_⟩;rcases W9.mp hu with hu | hu
   ·exact Px u hu
   ·rw [Wz.mp hu]; exact l30
  ·rintro σ H' ⟨v4,v5,v6,v7,us,rfl,mi,ul,tr,Px⟩;rw [Wj] at ul tr;rw [show ((xs.length:Int) - 1).toNat + 1=xs.length by lia] at tr;have wc:=(tr.ways xnd).c;refine ⟨_,rfl,p,6,rfl,mi.pn,by decide,by decide,fun d H2 P2 k2 d0 d1=>?_⟩;have mi2:=mi.step P2 k2;clear mi P2 k2;refine ⟨_,rfl,_,_,rfl,rfl,.inr ⟨_,rfl,?_⟩⟩;have i01:∀ b:Bool,(if b=true then (1:Int) else 0)=0\/(if b=true then (1:Int) else 0)=1:=fun b=>by cases b <;> simp
   have i1:=i01 (decide (1 < sh));generalize (if decide (1 < sh)=true then (1:Int) else 0)=i at i1;have mb:0<=d * i/\d * i<=5:=by rcases i1 with rfl | rfl <;> lia
   exists _,_,rfl,rfl,.inl ⟨by lia,by lia⟩,_,rfl,by lia,by lia
   generalize d * i=m at mb;refine Dw (lo:=0) (fun j σ H'=>∃ (v4 v5 v6 v7:Option V) (us:List A5),σ=[some (.ref p),some (.ref e),some (.int sh),some (.ref D),v4,v5,v6,v7]/\M5 K H H' p e D xs us/\us.length<=26 + j/\E6 xs us/\∀ u ∈ us,u.2.2 < 10 ^ 30)
    ⟨_,_,_,_,us,rfl,mi2,by lia,wc,Px⟩ ?_ ?_
   ·rintro j σ H' hj ⟨v4,v5,v6,v7,us,rfl,mi,ul,wc,Px⟩;have xl0:(0:Int) < ((xs.map V.str).length:Int):=by rw [Wj]; lia
    have xlB:((xs.map V.str).length:Int) < 1073741824:=by rw [Wj]; lia
    refine ⟨_,rfl,_,rfl,_,rfl,e,_,rfl,.inl (AD.of mi.he),p,_,rfl,mi.pn,xl0,xlB,fun g H3 P3 k3 g0 g1=>?_⟩;rw [Wj] at g1;have Ta:=mi.step P3 k3;obtain ⟨gn,rfl⟩:∃ n:Nat,g=n:=⟨g.toNat,by lia⟩
    have hgn:gn < xs.length:=by lia
    have eg:(xs.map V.str)[gn]? = some (.str xs[gn]):=by rw [Wy,Wk hgn]; rfl
    exists e,_,_,_,rfl,rfl,AD.of Ta.he,DB eg;refine ⟨_,rfl,_,rfl,_,rfl,e,_,rfl,.inl (AD.of Ta.he),p,_,rfl,Ta.pn,xl0,xlB,fun h H4 P4 k4 h0 h1=>?_⟩;rw [Wj] at h1;have SY:=Ta.step P4 k4;obtain ⟨hn,rfl⟩:∃ n:Nat,h=n:=⟨h.toNat,by lia⟩
    have hhn:hn < xs.length:=by lia
    have eh:(xs.map V.str)[hn]? = some (.str xs[hn]):=by rw [Wy,Wk hhn]; rfl
    refine ⟨e,_,_,_,rfl,rfl,AD.of SY.he,DB eh,(by show 2<=sizeLine; lia),fun T2 MS=>?_⟩;have mx:xs[gn] ∈ xs:=Xb hgn;have my:xs[hn] ∈ xs:=Xb hhn;generalize xs[gn]=x at mx;generalize xs[hn]=y at my;refine ⟨T2,x,y,rfl,Ab,fun l hl=>⟨l,_,rfl,.inl ⟨AD.of Ab,fun T3 VC=>?_⟩⟩⟩;have PB:=((SY.add MS (.lst [.str x,.str y])).add hl (.lst [.str (BL x y),.str (BN x y)])).add VC (.tup [.str (BL x y),.str (BN x y)]);have hk:(upd (upd (upd H4 T2 (.lst [.str x,.str y])) l (.lst [.str (BL x y),.str (BN x y)])) T3 (.tup [.str (BL x y),.str (BN x y)])) T3=some (.tup [.str (BL x y),.str (BN x y)]):=Ab;generalize upd (upd (upd H4 T2 (.lst [.str x,.str y])) l (.lst [.str (BL x y),.str (BN x y)])) T3 (.tup [.str (BL x y),.str (BN x y)])=H6 at PB hk;exists _,rfl,T3,_,_,_,rfl,rfl,AG.of hk,rfl,_,rfl,T3,_,_,_,rfl,rfl,AG.of hk,rfl,rfl,_,rfl;have stay:∀ v4 v5 v6 v7:Option V,∃ (v4' v5' v6' v7':Option V) (us:List A5),[some (.ref p),some (.ref e),some (.int sh),some (.ref D),v4,v5,v6,v7]=[some (.ref p),some (.ref e),some (.int sh),some (.ref D),v4',v5',v6',v7']/\M5 K H H6 p e D xs us/\us.length<=26 + (j + 1)/\E6 xs us/\∀ u ∈ us,u.2.2 < 10 ^ 30:=fun v4 v5 v6 v7=>⟨_,_,_,_,us,rfl,PB,by lia,wc,Px⟩
    refine Cf (fun z1=>?_) (fun _=>JX (stay _ _ _ _));have ne:x ≠ y:=by
     intro z;subst z;simp [BL,BN] at z1
    exists _,rfl,_,rfl,D,_,rfl,BX.t (k:=Dt (x,y,1)) PB.hw hk,_,rfl;refine Cf (fun z2=>?_) (fun _=>stay _ _ _ _);refine ⟨_,rfl,p,rfl,PB.pn,fun le H7 P7 k7 l1 l30=>?_⟩;have mi7:=PB.step P7 k7;have hk7:=Ez PB.pn k7 _ _ hk;have no:∀ u ∈ us,¬ Dz u (x,y,le):=fun u V1 al=>Qb (x:=(x,y,1)) (by simpa using z2) u V1 al
    have pn:=LF no;exists _,rfl,_,rfl,D,_,rfl,DO.t (k:=Dt (x,y,le)) mi7.hw hk7 (by rw [Wj]; lia);rw [show V.int le=V.int (x,y,le).2.2 from rfl,pn];refine ⟨_,_,_,_,us ++ [(x,y,le)],rfl,mi7.put _,by rw [Ww]; simp; lia,Mk wc mx my ne l1 no,fun u hu=>?_⟩;rcases W9.mp hu with hu | hu
    ·exact Px u hu
    ·rw [Wz.mp hu]; exact l30
   ·rintro σ H' ⟨v4,v5,v6,v7,us,rfl,mi,ul,wc,Px⟩;exact kE _ H H' p e D xs us _ _ _ _ _ mi wc (by lia) Px xnd xnm x26 fun H' m ps ws a b c d=>k H' m ps ws a b c d
end
section
variable {P:Program} {w:World} {K:Wm} {mg:Str->Option Value} {base:Heap}
theorem Fj (h_len:mg "len"=none) (h_range:mg "range"=none) {fT:Addr} {fdT:FuncData} (XT:Fn K mg "_law_take" AI ["_law_pen","_law_many"] fT fdT) (GT:AH P w K mg base BJ 1 fT fdT ["_law_pen","_law_many"] (CO K)) {f:Addr} {fd:FuncData} (F:Ew K "_law_names" "_law_names" C6 f fd):AH P w K mg base BJ 2 f fd ["_law_pen","_law_many"] (Gy K):=by
 refine F.ok Fc (fun vs H Q E h=>?_) (fun cdv A outer s H vs Q E hr h=>?_)
 ·obtain ⟨p,n,rfl,_⟩:=h;rfl
 ·obtain ⟨p,n,rfl,hP,hn,k⟩:=h;have nd:=Fc.nd;have big:100000 < sizeLine:=by decide
  refine ⟨_,(Af (Ap (i:=2) nd rfl (Or.inr rfl) F4)
  (Af (Ap (i:=3) nd rfl (Or.inl rfl) (Aj GT (hr.mono (by decide)) (by rfl) XT.mg XT.F.kp XT.b .nil Ar (Aa (pv 0) (Aa Ag Ad))))
  (Af (Ap (i:=4) nd rfl (Or.inl rfl) (GD PySem.F.plainAttrs_str PySem.F.slot_str_join PySem.F.type_str_join Q0 F4 (Aa (Bz (N:=["_law_k","_law_pen","_law_letters"]) (σ0:=fun σ=>[none,some 0,some 2].map fun j=>j.bind fun j=>(σ[j]?).join) rfl (AE.caught (by rfl) (by decide +kernel) rfl (by decide +kernel) (by intro y hy; simp only [Wn,Wu,or_false] at hy; rcases hy with rfl | rfl <;> rfl)
   (by intro y hy e; simp only [Wn,Wu,or_false] at hy; rcases hy with rfl | rfl | rfl | rfl | rfl <;> first | exact ⟨_,rfl⟩ | cases e)) (fun σ _=>AK.of [none,some 0,some 2] rfl (by
   intro i j x h1 h2;match i,h1,h2 with
   | 0,_,h2=>cases h2
   | 1,h1,h2=>cases h1; cases h2; exact ⟨rfl,.inl rfl,.inl rfl⟩
   | 2,h1,h2=>cases h1; cases h2; exact ⟨rfl,.inl rfl,.inl rfl⟩
   | n + 3,h1,_=>cases h1)) (CG (by rfl) h_range (Aa (Aj GT (hr.mono (by decide)) (by rfl) XT.mg XT.F.kp XT.b .nil Ar (Aa (pv 0) (Aa Ag Ad))) Ad))
   (fun s2 H C fp=>⟨(Ai (i:=0) (show (["_law_k","_law_pen","_law_letters"]:List Str).Nodup by decide +kernel) rfl (Or.inl rfl)),Bh,(AF OL (pv 2) (Aj GT (hr.mono (by decide)) (by rfl) XT.mg XT.F.kp XT.b .nil Ar (Aa (pv 1) (Aa Ag Ad))) (fun _ _=>rfl))⟩)) Ad)))
  (Af (Ap (i:=5) nd rfl (Or.inl rfl) (Aj GT (hr.mono (by decide)) (by rfl) XT.mg XT.F.kp XT.b .nil Ar (Aa (pv 0) (Aa (Av Bg (Ao Jq (by rfl) h_len PySem.boot_len (Aa (pv 4) Ad)) Ag) Ad))))
  (Af (Ap (i:=6) nd rfl (Or.inl rfl) (Aj GT (hr.mono (by decide)) (by rfl) XT.mg XT.F.kp XT.b .nil Ar (Aa (pv 0) (Aa Ag Ad))))
  (Af (Ap (i:=7) nd rfl (Or.inl rfl) (Bq Ad))
  (Af (Bi PassesOwn.never rfl (CG (by rfl) h_range (Aa (pv 1) Ad)) (Ai (i:=8) nd rfl (Or.inl rfl))
  (Af (Ap (i:=9) nd rfl (Or.inl rfl) (AF OL (pv 2) (Av D6 (Av Bg (pv 3) (Av D5 Ag (pv 8))) Ag) (fun _ _=>rfl)))
  (Ak (Fg (GD PySem.F.plainAttrs_list PySem.F.slot_list_append PySem.F.type_list_append Ck (pv 7) (Aa (Av D7 (Av D7 (Av D7 (Fh (pv 4) LH (LG (pv 5))) (pv 9)) (Fh (pv 4) (LG (pv 5)) LH)) (Av Ov F4 (Av D5 (pv 6) (Av D6 (pv 8) Ag)))) Ad))))))
  (Ak (AM (pv 7)))))))))),?_⟩
  refine ⟨_,rfl,p,26,rfl,hP,by decide,by decide,fun st H0 P0 k0 Gx st1=>?_⟩;refine ⟨rfl,_,rfl,p,5,rfl,P0,by decide,by decide,fun d H1 P1 k1 da db=>⟨_,rfl,by lia,by lia,?_⟩⟩;have q1:=k0.trans k1;refine Oc (n:=d.toNat) (fun D i σ H' acc=>∃ (v0:Option V) (ss:List Str),σ=[v0,some (.ref p),some (.str Fp)]/\CM K H' p/\A8 p H1 H'/\H' D=some (.lst acc)/\acc=ss.map V.str/\acc.length=i/\∀ s ∈ ss,s.length=1/\QY s)
   (by lia) (fun D hD=>⟨_,[],rfl,P1.same (Ac hD),A8.of_same (Ac hD),Ab,rfl,rfl,fun s hs=>nomatch hs⟩) (fun D i σ H' acc hD ⟨v0,ss,_,_,_,Bd,_,al,_⟩=>⟨Bd,al⟩) ?_ ?_
  ·rintro D i σ H' acc B hD hi ⟨v0,ss,rfl,P2,q2,Bd,ea,al,lo⟩ hB;have nD:=P1.ne hD;refine ⟨_,rfl,_,rfl,p,26,rfl,P2,by decide,by decide,fun e H3 P3 k3 VU US=>?_⟩;have lc:=FQ _ (Pm (D9 VU US));have Gp:=k3 _ _ nD Bd;exists _,_,_,rfl,rfl,by decide,D9 VU US
   refine hB _ _ _ Gp ⟨_,ss ++ [⟨#[97 + e.toNat]⟩],rfl,P3.other Gp nD,fun b' o hb z=>?_,Ab,by rw [ea,W3]; rfl,by rw [Ww,al]; rfl,fun s hs=>?_⟩
   ·rw [Ae (Ah z hD)];exact k3 _ _ hb (q2 b' o hb z)
   ·rcases W9.mp hs with hs | hs
    ·exact lo s hs
    ·rw [Wz] at hs;subst hs;refine ⟨rfl,fun c hc=>?_⟩;have:c=97 + e.toNat:=by simpa using hc
     subst this;exact lc
  rintro D0 σ0 H2 acc hD0 ⟨v0,ss,rfl,P2,q2,Bd,ea,al,lo⟩;obtain ⟨j1,j2,j3⟩:=OK lo;have sl:ss.length=d.toNat:=by rw [<-al,ea,Wj]
  exists _,D0,ss,rfl,rfl,by rw [Bd,ea],by decide,by lia
  generalize Txt.join (Str.ofString "") ss=bs at j1 j2;have bl:bs.length<=4:=by lia
  refine ⟨_,rfl,_,rfl,bs,rfl,by lia,_,_,rfl,rfl,p,_,rfl,P2,by lia,by lia,fun at' H3 P3 k3 at0 at1=>?_⟩;refine ⟨_,rfl,p,2,rfl,P3,by decide,by decide,fun mo H5 P5 k5 mo0 TC=>?_⟩;have q5:A8 p H H5:=((q1.trans q2).trans k3).trans k5;refine ⟨(by show 0<=sizeLine; lia),fun D hD=>?_⟩;have nD:D ≠ p:=P5.ne hD;have fD:H D=none:=by
   cases z:H D with
   | none=>rfl
   | some o=>rw [q5 _ _ nD z] at hD; cases hD
  have spm:(7:Int) ∈ ([1,3,5,7,9,11,15,17]:List Int):=by simp
  exists _,rfl,n,rfl,by lia,by lia
  refine Dw (n:=n) (lo:=0) (fun j σ H'=>∃ (xs:List Str) (v9 v10:Option V),σ=[some (.ref p),some (.int n),some (.str Fp),some (.int st),some (.str bs),some (.int at'),some (.int mo),some (.ref D),v9,v10]/\H'=upd H5 D (.lst (xs.map V.str))/\xs.length=j/\(∀ x ∈ xs,C9 x=true)/\∀ (i:Nat) x,xs[i]? = some x->∃ tl,x.cps.toList=(Txt.slice bs none (some at')).cps.toList ++ (M8 n st 7 i ++ tl))
   ⟨[],_,_,rfl,rfl,rfl,(fun x hx=>nomatch hx),(fun i x e=>by simp at e)⟩ ?_ ?_
  ·rintro j σ H' hj ⟨xs,v9,v10,rfl,rfl,xl,nm,sh⟩;have r0:0<=(st + 7 * (0 + (j:Int))) % 26:=Xv _ (by decide);have r1:(st + 7 * (0 + (j:Int))) % 26 < 26:=X6 _ (by decide);exists _,rfl,_,rfl,_,rfl,_,_,rfl,rfl,.inl ⟨by decide,by decide⟩,_,_,rfl,rfl,_,_,rfl,rfl,(by show (0:Int) < 26; decide),_,_,_,rfl,rfl,by decide,D9 r0 r1
   have lc:=FQ _ (Pm (D9 r0 r1));have s1:=NX (z:=bs) at0 (by lia);have s2:=K4 (z:=bs) at0 (by lia);have w1:=HZ (z:=bs) none (some at') j1;have w2:=HZ (z:=bs) (some at') none j1;have dD:(upd H5 D (.lst (xs.map V.str))) D=some (.lst (xs.map V.str)):=Ab;have m01:mo * ((0 + (j:Int)) % 2)=0\/mo * ((0 + (j:Int)) % 2)=1:=by
    have e1:mo=0\/mo=1:=by lia
    have e2:(0 + (j:Int)) % 2=0\/(0 + (j:Int)) % 2=1:=by lia
    rcases e1 with rfl | rfl <;> rcases e2 with e2 | e2 <;> rw [e2] <;> simp
   have hz:∀ z:Str,z=(if mo * ((0 + (j:Int)) % 2)=1 then Str.ofString "z" else Str.empty)->z.length<=1/\QY z:=fun z e=>by
    subst e;split
    ·refine ⟨by decide,fun c hc=>?_⟩;have e:(Str.ofString "z").cps.toList=[122]:=by decide +kernel
     rw [e,Wz] at hc;subst hc;decide
    ·exact ⟨by decide,fun c hc=>by cases hc⟩
   obtain ⟨zz,ezz⟩:∃ zz,zz=(if mo * ((0 + (j:Int)) % 2)=1 then Str.ofString "z" else Str.empty):=⟨_,rfl⟩
   obtain ⟨z1,z2⟩:=hz zz ezz;have fin:∀ (x:Str),x=Txt.slice bs none (some at') ++ ⟨#[97 + ((st + 7 * (0 + (j:Int))) % 26).toNat]⟩ ++ Txt.slice bs (some at') none ++ zz->C9 x=true/\∃ tl,x.cps.toList=(Txt.slice bs none (some at')).cps.toList ++ (M8 n st 7 j ++ tl):=fun x e=>by
    have ec:x.cps.toList=(Txt.slice bs none (some at')).cps.toList ++ ([97 + ((st + 7 * (0 + (j:Int))) % 26).toNat] ++ ((Txt.slice bs (some at') none).cps.toList ++ zz.cps.toList)):=by
     rw [e,Str.cps_append,Str.cps_append,Str.cps_append,WV,WV,WV,Xw,Xw]
    have el:x.length=(Txt.slice bs none (some at')).length + 1 + (Txt.slice bs (some at') none).length + zz.length:=by
     rw [e,Str.length_append,Str.length_append,Str.length_append];rfl
    exists O5 (by lia) (by lia) fun c hc=>?_
    ·rw [ec,W9,W9,W9,Wz] at hc;rcases hc with hc | hc | hc | hc
     ·exact w1 c hc
     ·rw [hc]; exact lc
     ·exact w2 c hc
     ·exact z2 c hc
    ·exists (Txt.slice bs (some at') none).cps.toList ++ zz.cps.toList;rw [ec];unfold M8;rw [if_neg (by lia),YG]
   exists _,rfl,.inl ⟨rfl,_,AD.of dD⟩,_,rfl,_,rfl,_,rfl,bs,rfl,by lia,_,rfl,_,_,rfl,rfl,?_,_,rfl,_,rfl,_,rfl,bs,rfl,by lia,_,_,rfl,rfl,?_,_,rfl,_,rfl,_,_,rfl,rfl,(by show (0:Int) < 2; decide),_,_,rfl,rfl,.inl ⟨by lia,by lia⟩,_,_,rfl,rfl,m01,_,_,rfl,rfl,?_,D,_,_,rfl,rfl,dD,(by rw [Wj]; lia)
   ·show (Txt.slice bs none (some at')).length + 1<=sizeLine
    lia
   ·rw [Str.length_append];show (Txt.slice bs none (some at')).length + 1 + _<=sizeLine
    lia
   ·rw [<-ezz,Str.length_append,Str.length_append];show (Txt.slice bs none (some at')).length + 1 + _ + _<=sizeLine
    lia
   rw [<-ezz];obtain ⟨f1,f2⟩:=fin _ rfl;refine ⟨xs ++ [_],_,_,rfl,by rw [Ls,W3]; rfl,by rw [Ww,xl]; rfl,fun x hx=>?_,fun i x e=>?_⟩
   ·rcases W9.mp hx with hx | hx
    ·exact nm x hx
    ·rw [Wz.mp hx];exact f1
   ·by_cases hi:i < xs.length
    ·rw [WS hi] at e;exact sh i x e
    ·have So:i=j:=by
      have:=(Wt.mp e).1;rw [Ww,Xe] at this;lia
     subst So;rw [WQ (by lia),xl,XE,X2] at e;rw [<-WA.inj e];exact f2
  ·rintro σ H' ⟨xs,v9,v10,rfl,rfl,xl,nm,sh⟩;exact ⟨_,rfl,k _ D xs (P5.same (Ac hD)) (fun b' o hb z=>by rw [Ae (Ah z fD)]; exact q5 _ _ hb z) fD Ab xl (JP sh fun i j hij hj tl RC=>RU (by lia) spm hij (by lia) tl RC) nm⟩
end
section
variable {P:Program} {w:World} {K:Wm} {mg:Str->Option Value} {base:Heap}
theorem Di (h_int:mg "int"=none) {fT:Addr} {fdT:FuncData} (XT:Fn K mg "_law_take" AI ["_law_pen","_law_many"] fT fdT) (GT:AH P w K mg base BJ 1 fT fdT ["_law_pen","_law_many"] (CO K)) {f:Addr} {fd:FuncData} (F:Ew K "_law_length" "_law_length" Co f fd):AH P w K mg base BJ 2 f fd ["_law_pen"] (K2 K):=by
 refine F.ok E4 (fun vs H Q E h=>?_) (fun cdv A outer s H vs Q E hr h=>?_)
 ·obtain ⟨p,rfl,_⟩:=h;rfl
 ·obtain ⟨p,rfl,hP,k⟩:=h;have nd:=E4.nd;have big:100000 < sizeLine:=by decide
  refine ⟨_,(Af (Ap (i:=1) nd rfl (Or.inl rfl) (Aj GT (hr.mono (by decide)) (by rfl) XT.mg XT.F.kp XT.b .nil Ar (Aa (pv 0) (Aa Ag Ad))))
  (Af (CK (Bt GG (pv 1) Ag (B9 _))
  (Ak (AM (Av Bg Ag (Aj GT (hr.mono (by decide)) (by rfl) XT.mg XT.F.kp XT.b .nil Ar (Aa (pv 0) (Aa Ag Ad))))))
  BC)
  (Af (CK (Bt GG (pv 1) Ag (B9 _))
  (Ak (AM (Av Bg Ag (Aj GT (hr.mono (by decide)) (by rfl) XT.mg XT.F.kp XT.b .nil Ar (Aa (pv 0) (Aa Ag Ad))))))
  BC)
  (Ak (AM (Av Bg (AX HL (by rfl) h_int PyProof.Rows.boot_int (Aa (Av D7 F4 (Av Qt F4 (Aj GT (hr.mono (by decide)) (by rfl) XT.mg XT.F.kp XT.b .nil Ar (Aa (pv 0) (Aa Ag Ad))))) Ad)) (Aj GT (hr.mono (by decide)) (by rfl) XT.mg XT.F.kp XT.b .nil Ar (Aa (pv 0) (Aa Ag Ad))))))))),?_⟩
  have ten:(100:Int) < 10 ^ 30:=by decide
  refine ⟨_,rfl,p,12,rfl,hP,by decide,by decide,fun d H1 P1 k1 d0 d1=>?_⟩;exists _,rfl,_,_,rfl,rfl,_,rfl;refine Cf (fun _=>?_) (fun _=>?_)
  ·exact ⟨_,rfl,p,3,rfl,P1,by decide,by decide,fun e H2 P2 k2 e0 e1=>⟨_,_,rfl,rfl,k _ H2 P2 (k1.trans k2) (by lia) (by lia)⟩⟩
  exists _,rfl,_,_,rfl,rfl,_,rfl;refine Cf (fun _=>?_) (fun _=>?_)
  ·exact ⟨_,rfl,p,30,rfl,P1,by decide,by decide,fun e H2 P2 k2 e0 e1=>⟨_,_,rfl,rfl,k _ H2 P2 (k1.trans k2) (by lia) (by lia)⟩⟩
  refine ⟨_,rfl,p,30,rfl,P1,by decide,by decide,fun e H2 P2 k2 e0 e1=>?_⟩;obtain ⟨n,rfl⟩:∃ n:Nat,e=(n:Int):=⟨e.toNat,by lia⟩
  have hn:n < 30:=by lia
  have it:=LZ ⟨n,hn⟩;have l1:(Str.ofString "1").length=1:=by decide +kernel
  have zl:(HN n).length=n:=it.2;refine ⟨n,rfl,rfl,hn,_,_,rfl,rfl,(by lia),_,_,rfl,it.1,(by rw [Str.length_append,l1,zl]; lia),_,rfl,p,10,rfl,P2,by decide,by decide,fun e2 H3 P3 k3 e20 e21=>⟨_,_,rfl,rfl,k _ H3 P3 (k1.trans (k2.trans k3)) ?_ ?_⟩⟩
  ·have:(1:Int)<=10 ^ n:=(NL ⟨n,hn⟩).1;show 1<=(10:Int) ^ n + e2
   lia
  ·have h1:(10:Int) ^ n + 10<=10 ^ 30:=(NL ⟨n,hn⟩).2;show (10:Int) ^ n + e2 < 10 ^ 30
   lia
theorem FO (h_len:mg "len"=none) (h_list:mg "list"=none) (h_range:mg "range"=none) (h_sorted:mg "sorted"=none) {fT:Addr} {fdT:FuncData} (XT:Fn K mg "_law_take" AI ["_law_pen","_law_many"] fT fdT) (GT:AH P w K mg base BJ 1 fT fdT ["_law_pen","_law_many"] (CO K)) {f:Addr} {fd:FuncData} (F:Ew K "_law_some" "_law_some" CJ f fd):AH P w K mg base BJ 2 f fd ["_law_pen","_law_names_here","_law_many"] (IS K):=by
 refine F.ok FJ (fun vs H Q E h=>?_) (fun cdv A outer s H vs Q E hr h=>?_)
 ·obtain ⟨p,e,xs,m,rfl,_⟩:=h;rfl
 ·obtain ⟨p,e,xs,m,rfl,P0,he,nep,x30,mx,k⟩:=h;have nd:=FJ.nd;have big:100000 < sizeLine:=by decide
  refine ⟨_,(Af (Ap (i:=3) nd rfl (Or.inl rfl) (AX Fw (by rfl) h_list PyProof.Rows.boot_list (Aa (pv 1) Ad)))
  (Af (Ap (i:=4) nd rfl (Or.inl rfl) (Bq Ad))
  (Af (Bi PassesOwn.never rfl (CG (by rfl) h_range (Aa (pv 2) Ad)) (Ai (i:=5) nd rfl (Or.inl rfl))
  (Ak (Fg (GD PySem.F.plainAttrs_list PySem.F.slot_list_append PySem.F.type_list_append Ck (pv 4) (Aa (GD PySem.F.plainAttrs_list PySem.F.slot_list_pop PySem.F.type_list_pop O6 (pv 3) (Aa (Aj GT (hr.mono (by decide)) (by rfl) XT.mg XT.F.kp XT.b .nil Ar (Aa (pv 0) (Aa (Ao (Ax K rfl) (by rfl) h_len PySem.boot_len (Aa (pv 3) Ad)) Ad))) Ad)) Ad)))))
  (Ak (AM (Ao Cu (by rfl) h_sorted PyProof.Rows.boot_sorted (Aa (pv 4) Ad))))))),?_⟩
  refine ⟨_,rfl,e,_,rfl,.inl (AD.of he),fun PL hPL=>?_⟩;have s0:=Ac (o:=.lst (xs.map V.str)) hPL;have nPL:PL ≠ p:=P0.ne hPL;have P1:=P0.same s0;have hPP:(upd H PL (.lst (xs.map V.str))) PL=some (.lst (xs.map V.str)):=Ab;generalize upd H PL (.lst (xs.map V.str))=H1 at s0 P1 hPP ⊢;refine ⟨(by show 0<=sizeLine; lia),fun D hD=>?_⟩;have s1:=Ac (o:=.lst []) hD;have Bd:(upd H1 D (.lst [])) D=some (.lst []):=Ab;have nD:D ≠ p:=P1.ne hD;have nDP:D ≠ PL:=fun z=>by rw [z,hPP] at hD; cases hD
  have P2:=P1.same s1;have frD:H D=none:=s0.free hD;generalize upd H1 D (.lst [])=H2 at s1 Bd P2 ⊢;refine ⟨_,rfl,m,rfl,by lia,by lia,Dw (n:=m) (fun i σ H'=>∃ (v5:Option V) (ys left:List Str),σ=[some (.ref p),some (.ref e),some (.int (m:Int)),some (.ref PL),some (.ref D),v5]/\CM K H' p/\(∀ b o,b ≠ p->H b=some o->H' b=some o)/\H' PL=some (.lst (left.map V.str))/\H' D=some (.lst (ys.map V.str))/\ys.length=i/\(ys ++ left).Perm xs)
   ⟨_,[],xs,rfl,P2,fun b o _ z=>s1 _ _ (s0 _ _ z),s1 _ _ hPP,Bd,rfl,List.Perm.refl _⟩ ?_ (fun σ H' hP=>?_)⟩
  ·rintro i σ H3 hi ⟨v5,ys,left,rfl,P3,k3,h3,Gp,yl,pm⟩;have ll:ys.length + left.length=xs.length:=by rw [<-Ww]; exact pm.length_eq
   refine ⟨_,rfl,.inl ⟨rfl,_,AD.of Gp⟩,_,rfl,.inl ⟨rfl,_,AD.of h3⟩,_,rfl,_,rfl,PL,_,rfl,.inl (AD.of h3),p,_,rfl,P3,?_,?_,fun e' H4 P4 k4 VU US=>?_⟩
   ·rw [Wj]; lia
   ·rw [Wj]; lia
   rw [Wj] at US;obtain ⟨q,rfl⟩:∃ q:Nat,e'=(q:Int):=⟨e'.toNat,by lia⟩
   have hq:q < left.length:=by lia
   have hget:left[q]? = some left[q]:=Wk hq;have h4:=k4 _ _ nPL h3;have OU:=k4 _ _ nD Gp;exists PL,_,_,q,.str left[q],rfl,rfl,h4,by lia,by lia,?_,by rw [Wy,hget]; rfl
   ·rw [Wj];exact (Jl (by show QC left.length (q:Int)=some q; unfold QC; rw [if_pos (by lia),if_pos (by lia)]; rfl)).1
   rw [Io];have P5:=P4.other (zs:=(left.eraseIdx q).map V.str) h4 nPL;have Nt:(upd H4 PL (.lst ((left.eraseIdx q).map V.str))) D=some (.lst (ys.map V.str)):=by rw [Ae nDP]; exact OU
   exists D,_,_,rfl,rfl,Nt,by rw [Wj]; lia
   exists _,ys ++ [left[q]],left.eraseIdx q,rfl,P5.other Nt nD,fun b' o hb z=>?_,?_,by rw [Ab,W3]; rfl,by rw [Ww,yl]; rfl
   ·rw [Ae (Ah z frD),Ae (Ah z hPL)];exact k4 _ _ hb (k3 b' o hb z)
   ·rw [Ae nDP.symm];exact Ab
   ·refine List.Perm.trans ?_ pm;rw [Xw];exact List.Perm.append_left _ (DI hget)
  ·obtain ⟨v5,ys,left,rfl,P3,k3,h3,Gp,yl,pm⟩:=hP;have ll:ys.length + left.length=xs.length:=by rw [<-Ww]; exact pm.length_eq
   refine ⟨_,rfl,D,ys,rfl,AD.of Gp,by lia,fun l ss hl RQ srt=>?_⟩;have sl:=Ac (o:=.lst (ss.map V.str)) hl;exact k _ l ss left (P3.same sl) (fun b o hb z=>sl _ _ (k3 b o hb z)) (by
    cases z:H l with
    | none=>rfl
    | some o=>
     by_cases hb:l=p
     ·subst hb;obtain ⟨_,_,_,_,q,_⟩:=P3;rw [q] at hl;cases hl
     ·rw [k3 l o hb z] at hl;cases hl) Ab ((RQ.append_right left).trans pm) (by rw [RQ.length_eq]; exact yl) srt
end
section
variable {P:Program} {w:World} {K:Wm} {mg:Str->Option Value} {base:Heap}
theorem takeB {f:Addr} {cdv:Value} {A:Around} {outer:List Env} {s:Shared} {H:Hp} {E:XK} :
  ∃ tl,Jv (EC BJ P w K mg base ["_law_pen","_law_many","_law_place","_law_cell","_law_number","_law_digit"] "_law_take" (Al AI) f cdv A outer s H E).nox ((B6 AI).drop 1) tl /\
   ∀ (W:DN) (H6:Hp) (p a:Addr) (ns:List Int) (i l m:Int) (v2 v3 v4 v5:Option V),H6 p=some (.lst (Jc a i l))->Lh K H6 a (ns.map V.int)->ns.length<=63->0<=i->0<=l->0 < m->m < 1073741824->(∀ (d:Int) (H':Hp),CM K H' p->A8 p H6 H'->0<=d->d < m->W.rt (.int d) H')->tl W [some (.ref p),some (.int m),v2,v3,v4,v5] H6:=by
 have nd:=C4.nd;refine ⟨_,(Af (Ap (i:=5) nd rfl (Or.inl rfl) (Av D6 (AF (Ba K rfl) (pv 0) Ag (fun _ _=>rfl)) (pv 1)))
  (Af (DU (Av LL (AF (Ba K rfl) (pv 0) Ag (fun _ _=>rfl)) (pv 1)) (K9 (pv 0) Ag Gz))
  (Ak (AM (pv 5))))),?_⟩
 intro W H6 p a ns i l m v2 v3 v4 v5 hp sc ln i0 l0 hm Kq k;have sq:∀ {H':Hp} {a:Addr} {i l:Int},H' p=some (.lst (Jc a i l))->AD K H' p (Jc a i l):=fun h=>.inl (.inl h)
 exists _,rfl,p,_,_,_,rfl,rfl,sq hp,Oq _ _ _,_,rfl,_,_,rfl,rfl,hm;exists _,rfl,p,_,_,_,rfl,rfl,sq hp,Oq _ _ _,_,rfl,_,_,rfl,rfl,⟨hm,Kq⟩,_,rfl,p,_,_,2,rfl,rfl,hp,rfl,_,rfl;exact k _ _ (CM.put hp sc ln i0 (Int.ediv_nonneg l0 (by lia))) A8.upd (Xv _ (by lia)) (X6 _ hm)
theorem takeD {f:Addr} {cdv:Value} {A:Around} {outer:List Env} {s:Shared} {H:Hp} {E:XK} :
  ∃ tl,Jv (EC BJ P w K mg base ["_law_pen","_law_many","_law_place","_law_cell","_law_number","_law_digit"] "_law_take" (Al AI) f cdv A outer s H E).nox (KS ((KS ((B6 AI).getD 0 (.Pass ⟨0,0,0,0⟩))).getD 4 (.Pass ⟨0,0,0,0⟩))) tl /\
   ∀ (W:DN) (H6:Hp) (p:Addr) (m i c:Int) (v4 v5:Option V),0 < m->0<=i->(∀ d:Int,0<=d->d < m->W.rt (.int d) H6)->tl W [some (.ref p),some (.int m),some (.int i),some (.int c),v4,v5] H6:=by
 have nd:=C4.nd;refine ⟨_,(Af (Ap (i:=4) nd rfl (Or.inl rfl) (Av D6 (Av D5 (Av Bg (Av Bg (Av D6 (pv 3) Ag) (Av D5 Ag (pv 2))) Ag) Ag) Ag))
  (Af (Ap (i:=4) nd rfl (Or.inl rfl) (Av D6 (Av Bg (Av Bg (Av D5 (pv 4) (pv 4)) (Av D5 Ag (pv 4))) (pv 2)) Ag))
  (Ak (AM (Av D6 (Av LL (Av D6 (Av Bg (Av Bg (Av D5 (pv 4) (pv 4)) (Av D5 Ag (pv 4))) Ag) Ag) Ag) (pv 1)))))),?_⟩
 intro W H6 p m i c v4 v5 hm i0 k;exists _,rfl,_,_,rfl,rfl,(by show (0:Int) < 2147483629; decide),_,rfl,_,_,rfl,rfl,.inl ⟨by decide,by decide⟩,_,_,rfl,rfl,_,_,rfl,rfl,_,_,rfl,rfl,.inr ⟨by decide,by decide⟩,_,_,rfl,rfl,(by show (0:Int) < 2147483647; decide)
 have h0:0<=(c % 2147483629 + 40503 * i + 977) * 48271 % 2147483647:=Xv _ (by decide);have h1:(c % 2147483629 + 40503 * i + 977) * 48271 % 2147483647 < 2147483647:=X6 _ (by decide);have big:∀ z:Int,0<=z->z < 2147483647->-(2 ^ 64) < z/\z < 2 ^ 64:=fun z a b=>⟨Int.lt_of_lt_of_le (b:=0) (by decide) a,Ze b (by decide)⟩
 exists _,rfl,_,rfl,_,_,rfl,rfl,.inl (big _ h0 h1),_,rfl,_,_,rfl,rfl,.inl ⟨by decide,by decide⟩,_,_,rfl,rfl,_,rfl,_,_,rfl,rfl,_,_,rfl,rfl,(by show (0:Int) < 2147483587; decide)
 obtain ⟨u,eu,u0,u1⟩:∃ u:Int,((c % 2147483629 + 40503 * i + 977) * 48271 % 2147483647 * ((c % 2147483629 + 40503 * i + 977) * 48271 % 2147483647) + 69621 * ((c % 2147483629 + 40503 * i + 977) * 48271 % 2147483647) + i) % 2147483587=u/\0<=u/\u < 2147483647:=⟨_,rfl,Xv _ (by decide),Ze (X6 _ (by decide)) (by decide)⟩
 exists _,rfl,_,rfl,_,_,rfl,rfl,.inl (big _ (by rw [eu]; exact u0) (by rw [eu]; exact u1)),_,rfl,_,_,rfl,rfl,.inl ⟨by decide,by decide⟩,_,_,rfl,rfl,_,_,rfl,rfl,_,_,rfl,rfl,(by show (0:Int) < 2147483563; decide),_,_,rfl,rfl,⟨by decide,by decide⟩,_,rfl,_,_,rfl,rfl,hm;exact k _ (Xv _ (by lia)) (X6 _ hm)
theorem takeC (h_len:mg "len"=none) {f:Addr} {cdv:Value} {A:Around} {outer:List Env} {s:Shared} {H:Hp} {E:XK} :
  ∃ tl,Jv (EC BJ P w K mg base ["_law_pen","_law_many","_law_place","_law_cell","_law_number","_law_digit"] "_law_take" (Al AI) f cdv A outer s H E).nox ((KS ((B6 AI).getD 0 (.Pass ⟨0,0,0,0⟩))).drop 4) tl /\
   ∀ (W:DN) (H6:Hp) (p a:Addr) (ns:List Int) (i l m c:Int) (v4 v5:Option V),H6 p=some (.lst (Jc a (i + 1) l))->Lh K H6 a (ns.map V.int)->ns.length<=63->0<=i->0<=l->0 < m->m < 1073741824->0<=c->(∀ d:Int,0<=d->d < m->W.rt (.int d) H6)->(∀ (c':Int) (v4:Option V),0<=c'->W.nx [some (.ref p),some (.int m),some (.int i),some (.int c),v4,v5] (upd H6 p (.lst (Jc a (i + 1) c'))))->tl W [some (.ref p),some (.int m),some (.int i),some (.int c),v4,v5] H6:=by
 have nd:=C4.nd;obtain ⟨tlD,htD,rdD⟩:=takeD (P:=P) (w:=w) (K:=K) (mg:=mg) (base:=base) (f:=f) (cdv:=cdv) (A:=A) (outer:=outer) (s:=s) (H:=H) (E:=E);refine ⟨_,(Af (CK (Og (Bt op_ge (pv 2) (Ao (Ax K rfl) (by rfl) h_len PySem.boot_len (Aa (AF (Ba K rfl) (pv 0) Ag (fun _ _=>rfl)) Ad)) (B9 _)) (K7 (Bt GG (pv 3) (Av Ow Ag Ag) (B9 _)))).pt
  htD
  BC)
  (Ak (DU (pv 3) (K9 (pv 0) Ag Gz)))),?_⟩
 intro W H6 p a ns i l m c v4 v5 hp sc ln i0 l0 hm Kq c0 kr kn;have sq:∀ {H':Hp} {a:Addr} {i l:Int},H' p=some (.lst (Jc a i l))->AD K H' p (Jc a i l):=fun h=>.inl (.inl h)
 exists _,rfl,_,rfl,p,_,_,_,rfl,rfl,sq hp,LI _ _ _,a,_,rfl,.inl sc.sq,_,_,rfl,rfl,_,rfl;refine Cf (fun _=>rdD _ H6 p m i c v4 v5 hm i0 kr) (fun _=>?_);exists _,rfl,_,_,rfl,rfl,⟨by decide,by decide,by decide⟩,_,_,rfl,rfl,_,rfl;refine Cf (fun _=>rdD _ H6 p m i c v4 v5 hm i0 kr) (fun _=>?_);exists _,rfl,_,rfl,p,_,_,2,rfl,rfl,hp,rfl;exact kn c _ c0
theorem AY (h_abs:mg "abs"=none) (h_len:mg "len"=none) {f:Addr} {fd:FuncData} (F:Ew K "_law_take" "_law_take" AI f fd):AH P w K mg base BJ 1 f fd ["_law_pen","_law_many"] (CO K):=by
 refine F.ok C4 (fun vs H Q E h=>?_) (fun cdv A outer s H vs Q E hr h=>?_)
 ·obtain ⟨p,m,rfl,_⟩:=h;rfl
 ·obtain ⟨p,m,rfl,⟨a,ns,i,l,hp,sc,ln,i0,l0⟩,hm,Kq,k⟩:=h;have nd:=C4.nd;have big:100000 < sizeLine:=by decide
  obtain ⟨tlC,htC,rdC⟩:=takeC (P:=P) (w:=w) (K:=K) (mg:=mg) (base:=base) h_len (f:=f) (cdv:=cdv) (A:=A) (outer:=outer) (s:=s) (H:=H) (E:=E);obtain ⟨tlB,htB,rdB⟩:=takeB (P:=P) (w:=w) (K:=K) (mg:=mg) (base:=base) (f:=f) (cdv:=cdv) (A:=A) (outer:=outer) (s:=s) (H:=H) (E:=E);refine ⟨_,(Af (CK (Bt LN (AF (Ba K rfl) (pv 0) Ag (fun _ _=>rfl)) Ag (B9 _))
  (Af (Ap (i:=2) nd rfl (Or.inl rfl) (AF (Ba K rfl) (pv 0) Ag (fun _ _=>rfl)))
  (Af (DU (Av Bg (pv 2) Ag) (K9 (pv 0) Ag Gz))
  (Af (Ap (i:=3) nd rfl (Or.inl rfl) Ag)
  (Af (CK (Bt O0 (Ao (Ax K rfl) (by rfl) h_len PySem.boot_len (Aa (AF (Ba K rfl) (pv 0) Ag (fun _ _=>rfl)) Ad)) Ag (B9 _))
  (Ak (Ap (i:=3) nd rfl (Or.inl rfl) (Ao Pl (by rfl) h_abs PyProof.Rows.boot_abs (Aa (AF (Ba K rfl) (AF (Ba K rfl) (pv 0) Ag (fun _ _=>rfl)) (Av D6 (pv 2) (Ao (Ax K rfl) (by rfl) h_len PySem.boot_len (Aa (AF (Ba K rfl) (pv 0) Ag (fun _ _=>rfl)) Ad))) (fun _ _=>rfl)) Ad))))
  BC)
  htC))))
  BC)
  htB),?_⟩
  have sq:∀ {H':Hp} {a:Addr} {i l:Int},H' p=some (.lst (Jc a i l))->AD K H' p (Jc a i l):=fun h=>.inl (.inl h)
  exists _,rfl,p,_,_,_,rfl,rfl,sq hp,Oq _ _ _,rfl,_,rfl;refine Cf (fun z0=>?_) (fun _=>rdB _ H p a ns i l m _ _ _ _ hp sc ln i0 l0 hm Kq k);exists _,rfl,p,_,_,_,rfl,rfl,sq hp,pn5_1 _ _ _;exists _,rfl,_,_,rfl,rfl,_,rfl,p,_,_,1,rfl,rfl,hp,rfl;have Ua:(upd H p (.lst (Jc a (i + 1) l))) p=some (.lst (Jc a (i + 1) l)):=Ab;have Tw:Lh K (upd H p (.lst (Jc a (i + 1) l))) a (ns.map V.int):=sc.keep hp A8.upd;have fin:∀ (c:Int),0<=c->tlC ⟨fun σ H'=>tlB ⟨fun _ H'=>Q .non H',Q,fun _ _=>False,fun _ _=>False⟩ σ H',Q,fun _ _=>False,fun _ _=>False⟩ [some (.ref p),some (.int m),some (.int i),some (.int c),none,none] (upd H p (.lst (Jc a (i + 1) l))):=fun c c0=>by
   refine rdC _ _ p a ns i l m c _ _ Ua Tw ln i0 l0 hm Kq c0 (fun d d0 d1=>?_) fun c' v4 c0'=>?_
   ·exact k d _ (CM.put hp sc ln (by lia) l0) A8.upd d0 d1
   ·refine rdB _ _ p a ns (i + 1) c' m _ _ _ _ Ab (Tw.keep Ua A8.upd) ln (by lia) c0' hm Kq fun d H' P' k' d0 d1=>k d H' P' ((A8.upd.trans A8.upd).trans k') d0 d1
  exists _,rfl,p,_,_,_,rfl,rfl,sq Ua,LI _ _ _,a,_,rfl,.inl Tw.sq,_,_,rfl,rfl,_,rfl;refine Cf (fun zl=>?_) (fun _=>fin 0 (Xk _));have zl':0 < ns.length:=by have:=of_decide_eq_true zl; rw [Wj] at this; lia
  have j0:0<=i % ((ns.map V.int).length:Int):=Xv _ (by rw [Wj]; lia);have j1:i % ((ns.map V.int).length:Int) < (ns.map V.int).length:=X6 _ (by rw [Wj]; lia);obtain ⟨j,ej⟩:∃ j:Nat,i % ((ns.map V.int).length:Int)=(j:Int):=⟨(i % ((ns.map V.int).length:Int)).toNat,by lia⟩
  have jl:j < ns.length:=by rw [ej,Wj] at j1; lia
  exists _,rfl,p,_,_,_,rfl,rfl,sq Ua,LI _ _ _,_,rfl,_,rfl,p,_,_,_,rfl,rfl,sq Ua,LI _ _ _,a,_,rfl,.inl Tw.sq,_,_,rfl,rfl,(by show (0:Int) < ((ns.map V.int).length:Int); rw [Wj]; lia),a,_,_,.int ns[j],rfl,rfl,Tw.sq,(by rw [ej]; exact DB (by rw [Wy,Wk jl]; rfl))
  exists _,rfl;exact fin _ (by first | exact Int.natCast_nonneg _ | exact Int.ofNat_nonneg _ | (split <;> lia))
end
theorem all_mk {l:YH} {w:World} {K:Wm} {h:Heap} {mg:Str->Option Value} {fa f1 f2 f3 f4 f5 f6 f7 f8 f9 f10 f11 UO f13 f14 f15 f16 f17 f18 f19 f20 f21 f22 f23 f24:Addr} {d1 d2 d3 d4 d5 d6 d7 d8 d9 VZ VY d12 d13 d14 d15 d16 d17 d18 d19 d20 UW d22 d23 d24:FuncData} (X:K.In h) (G:h.Ns mainGlobals mg) (hfa:mg "law"=some (.ref fa))
  (a1:At K "neighbours" CA f1 d1) (a2:At K "fars" IW f2 d2) (a3:At K "site_fars" C5 f3 d3) (a4:At K "nearest" Ei f4 d4) (a5:At K "openings" CI f5 d5) (a6:At K "most_houses" Cy f6 d6) (a7:At K "least_far" CS f7 d7) (a8:At K "worst_way" CP f8 d8) (a9:At K "served_within" Cc f9 d9) (a10:At K "serve_all" CQ f10 VZ) {c11 T11:Addr} (a11:AtL K "first_cover" C0 f11 VY c11 T11) (a12:At K "_law_take" AI UO d12) (a13:At K "_law_names" C6 f13 d13) (a14:At K "_law_length" Co f14 d14) (a15:At K "_law_map" Cj f15 d15) (a16:At K "_law_some" CJ f16 d16) (a17:At K "_law_case" D4 f17 d17) (a18:At K "_law_lengths" Cz f18 d18) (a19:At K "_law_served" CB f19 d19) (a20:At K "_law_covers" CC f20 d20) (a21:At K "_law_cover" CT f21 UW) (a22:At K "_law_own" Ej f22 d22) (a23:At K "_law_due" Ek f23 d23) (a24:At K "law" Oa f24 d24)
  (z1:Xi K mainGlobals "len"=some none) (z2:Xi K mainGlobals "list"=some none) (z3:Xi K mainGlobals "range"=some none) (z4:Xi K mainGlobals "repr"=some none) (z5:Xi K mainGlobals "abs"=some none) (z6:Xi K mainGlobals "int"=some none) (z7:Xi K mainGlobals "min"=some none) (z8:Xi K mainGlobals "tuple"=some none) (z9:Xi K mainGlobals "sorted"=some none) (z10:Xi K mainGlobals "max"=some none) (z11:Xi K mainGlobals "all"=some none) (z12:Xi K mainGlobals "any"=some none)  :
  ∃ fd:FuncData,(∀ (s:Shared) (v:Value),BindsTo s fd ⟨[v],[]⟩ [("_law_script",v)])/\∀ base:Heap,K.In base->base.Ns mainGlobals mg->BM mg base->AH l.prog w K mg base BJ 7 fa fd ["_law_script"] (IT K [T11]):=by
 cases hfa.symm.trans (Y4 X G a24.1)
 have y1:=Xd X G z1;have y2:=Xd X G z2;have y3:=Xd X G z3;have y4:=Xd X G z4;have y5:=Xd X G z5;have y6:=Xd X G z6;have y7:=Xd X G z7;have y8:=Xd X G z8;have y9:=Xd X G z9;have U0:=Xd X G z10;have y11:=Xd X G z11;have y12:=Xd X G z12;have n1:=S6 X G a1 (p:="web") fun _ _ _ _ _ _ _=>rfl
 have n2:=PQ X G a2 (p:="web") (q:="place") fun _ _ _ _ _ _ _ _=>rfl
 have n3:=S6 X G a3 (p:="case") fun _ _ _ _ _ _ _=>rfl
 have n4:=PQ X G a4 (p:="web") (q:="starts") fun _ _ _ _ _ _ _ _=>rfl
 have n5:=S6 X G a5 (p:="case") fun _ _ _ _ _ _ _=>rfl
 have n6:=S6 X G a6 (p:="case") fun _ _ _ _ _ _ _=>rfl
 have n7:=PQ X G a7 (p:="case") (q:="many") fun _ _ _ _ _ _ _ _=>rfl
 have n8:=Th X G a8 (p:="aways") (q:="folk") (r:="houses") fun _ _ _ _ _ _ _ _ _=>rfl
 have n9:=PQ X G a9 (p:="case") (q:="far") fun _ _ _ _ _ _ _ _=>rfl
 have n10:=PQ X G a10 (p:="served") (q:="sites") fun _ _ _ _ _ _ _ _=>rfl
 have n11:=PQ X G a11.at (p:="case") (q:="served") fun _ _ _ _ _ _ _ _=>rfl
 have Nq:=PQ X G a12 (p:="_law_pen") (q:="_law_many") fun _ _ _ _ _ _ _ _=>rfl
 have n13:=PQ X G a13 (p:="_law_pen") (q:="_law_many") fun _ _ _ _ _ _ _ _=>rfl
 have Vo:=S6 X G a14 (p:="_law_pen") fun _ _ _ _ _ _ _=>rfl
 have n15:=Th X G a15 (p:="_law_pen") (q:="_law_names_here") (r:="_law_shape") fun _ _ _ _ _ _ _ _ _=>rfl
 have n16:=Th X G a16 (p:="_law_pen") (q:="_law_names_here") (r:="_law_many") fun _ _ _ _ _ _ _ _ _=>rfl
 have n17:=PQ X G a17 (p:="_law_pen") (q:="_law_shape") fun _ _ _ _ _ _ _ _=>rfl
 have n18:=S6 X G a18 (p:="_law_plan") fun _ _ _ _ _ _ _=>rfl
 have n19:=Th X G a19 (p:="_law_case_here") (q:="_law_lengths_here") (r:="_law_most") fun _ _ _ _ _ _ _ _ _=>rfl
 have n20:=Th X G a20 (p:="_law_case_here") (q:="_law_served_here") (r:="_law_some_here") fun _ _ _ _ _ _ _ _ _=>rfl
 have n21:=PQ X G a21 (p:="_law_case_here") (q:="_law_served_here") fun _ _ _ _ _ _ _ _=>rfl
 have n22:=S6 X G a22 (p:="_law_pen") fun _ _ _ _ _ _ _=>rfl
 have n23:=Th X G a23 (p:="_law_case_here") (q:="_law_lengths_here") (r:="_law_many") fun _ _ _ _ _ _ _ _ _=>rfl
 obtain ⟨oc,od,kV,doc,pm,an,cdv,ct,osl,e,lk,hcd⟩:=a24.2.ex;exact ⟨d24,fun s v=>by subst e; exact .of_eq rfl,fun base _ _ hbm=>RW y1 y2 y3 y4 Nq (AY y5 y1 a12.2) n17 (JO y6 y1 y7 y8 Nq (AY y5 y1 a12.2) n13 (Fj y1 y3 Nq (AY y5 y1 a12.2) a13.2) Vo (Di y6 Nq (AY y5 y1 a12.2) a14.2) n16 (FO y1 y2 y3 y9 Nq (AY y5 y1 a12.2) a16.2) n15 (GI y6 y1 U0 y3 y9 y8 Nq (AY y5 y1 a12.2) Vo (Di y6 Nq (AY y5 y1 a12.2) a14.2) a15.2) a17.2) n18 (GJ y6 a18.2) n23 (KG y1 U0 y7 n19 (Hz a19.2) n21 (Jj y1 y7 n20 (HC a20.2) a21.2) a23.2) n7 (Ji y7 n3 (Fi n2 (LO ⟨⟨n1.F,n1.mg,n1.b⟩,y7,n4.F,n4.mg,n4.b⟩ a2.2) a3.2) n5 (FN y1 y9 n6 (DV y1 y7 a6.2) a5.2) n8 (Jg U0 y7 a8.2) n9 (F7 n3 (Fi n2 (LO ⟨⟨n1.F,n1.mg,n1.b⟩,y7,n4.F,n4.mg,n4.b⟩ a2.2) a3.2) a9.2) n11 (GK y2 y1 y7 n5 (FN y1 y9 n6 (DV y1 y7 a6.2) a5.2) n10 (Jh y11 y12 a10.2) a11.2 hbm) a7.2) n22 (KD y8 Nq (AY y5 y1 a12.2) n13 (Fj y1 y3 Nq (AY y5 y1 a12.2) a13.2) n15 (GI y6 y1 U0 y3 y9 y8 Nq (AY y5 y1 a12.2) Vo (Di y6 Nq (AY y5 y1 a12.2) a14.2) a15.2) n16 (FO y1 y2 y3 y9 Nq (AY y5 y1 a12.2) a16.2) a22.2) a24.2⟩
theorem walk {l:YH} {q:Program} {loose:List Str} {XP:(Str->Option Value)->Heap->Prop} {YP:World->Heap->Prop} {d:DefRec} {K:Params->Wm} (ts:List Addr) (hn:l.most=some 63) (hdf:d.params.defaults=[])
  (hY:∀ (w:World) (h:Heap),YP w h->(K w.params).In h/\∀ T ∈ ts,h.get? T=some (XQ #[])) (hKt:∀ (w:World),∀ T ∈ ts,(K w.params).lookup T=none) (hcd:∀ (w:World),∀ T ∈ ts,∃ c,Xy (K w.params) c T=true)
  (F:∀ (w:World) (mg:Str->Option Value) (fa:Addr) (h:Heap),(K w.params).In h->h.Ns mainGlobals mg->mg d.name=some (.ref fa) ->
   ∃ fd:FuncData,(∀ (s:Shared) (u:Value),BindsTo s fd ⟨[u],[]⟩ [("_law_script",u)])/\∀ base:Heap,(K w.params).In base->base.Ns mainGlobals mg->BM mg base->AH l.prog w (K w.params) mg base BJ 7 fa fd ["_law_script"] (IT (K w.params) ts)) :
  Zu q loose XP YP l.row.toRowW d [] (fun f vs=>PySem.call f vs):=
 L2.walk_ofT (n:=63) (k:=7) (x:="_law_script") (CX:=fun _=>BJ) (sp:=fun w=>IT (K w.params) ts) (ts:=ts) hn (by decide) hdf ⟨rfl,by decide,by decide,rfl⟩ hY hKt hcd F (fun _ _ a ns hl ho hT hS=>⟨a,ns,rfl,Qj ho hS,hl,hT,fun _=>rfl⟩) fun _ _ _ _ _ z=>z
end K50
structure PySem.W.Fast:Prop where
  (tw2523164177839342756 tw3440540655702743682 tw14980200842648686729 tw9657063315648694104 tw15248523688184646034 tw8249637576645994024 tw2803746295722231426 tw6310856486759003103 tw6391591574962459828 tw12050946845370101973 tw14401639898756099120 tw8321496593694532024 tw6542448482147823388 tw1247010941746679600 tw1288313963983765791 tw358149812698951054 tw12911180599282076263 tw17703643374834360559 tw5608209080015846129 tw17244366634623314304 tw3992885558830679563 tw13568446306254068122 tw6629483964203893436 tw15405002459551409862 tw1369361429236325492 tw6704933742252833549 tw10517230071993136002 tw1276423296110633658 tw6115990189078665460 tw9301345037496048172 tw3073622625238783077 tw1870511030165433958 tw16987238692586584133 tw16913980258689713981 tw13383635614364950556 tw7238664285860445564 tw12385386350015360841 tw7156752793750710375 tw8067658391480323739 tw9341136349560022604 tw12809080098670525794 tw11885552818426192943 tw8119882463361743601 tw6885119937570043007 tw14120401080130497061 tw2721862494577016714 tw9844445034808528568 tw9782713477146105633 tw16530403433461020029 tw2823136210614818900 tw11349015087170827332 tw10497408333153053849 tw16107730902982375226 tw6256019809220981879 tw16127901283723828273 tw4385215205839405501 tw17866342779162040441 tw10032128148233777443 tw13722746394461602486 tw6428617453475364480 tw10182207468011352040 tw7264056581467157520 tw5703861482595239984 tw10918552385130261688 tw1364882050274083718 tw13465218493896319375 tw18267739642759797010 tw707919824136218959 tw6395905994735284291 tw4234024371832743829 tw15536516026196040609 tw15788393672124215105 tw4218684215966698061 tw1992572694416673232 tw1707141238835004649 tw125129493515081215 tw15299354195734230361 tw17963315278547446519 tw15235933364806929113 tw11357993896502029787 tw5959233449820832572 tw4582785239699743640 tw17795265352573759205 tw238970416757513774 tw1593323475421065691 tw6629734155389225636 tw11121885316488176484 tw12888681908575083111 tw6332474365024648113 tw14744178080209845867 tw11177985863887513397 tw15529829435874084891 tw2973932275946107673 tw4963830421502616055 tw10774333267011949171 tw10534977048226763430 tw13005915605785815064 tw3977021261589332177 tw8489737489852923603 tw8227148035096228587 tw18185368851873340079 tw12541690526327725847 tw10780492837055691884 tw18104065671140416424 tw8713905953735433978 tw12756841981878522010 tw14063932780802347775 tw4750315837080307930 tw16944591367317989713 tw4434940233176757410 tw12201548981005849456 tw2035088192748507324 tw5484974787239847362:True)
open PySem PySem.W PyProof.Rows
set_option maxRecDepth 100000 in
set_option maxHeartbeats 0 in
theorem PySem.Challenge.cw_openhouses_k50_the_least_far_holds : PySem.Challenge.rw_openhouses_k50_the_least_far.Holds := by
 w_on; o_law; k_head; (case hw=>w_witness2)
 k_fill
 refine K50.walk (l:=PySem.Challenge.rw_openhouses_k50_the_least_far) [93] rfl rfl (fun w h Y=>⟨PySem.W.km_in_of Y,PySem.W.km_tabs_of Y⟩) ?Kt ?Cd ?F
 case Kt=>
  intro w T hT;simp only [Wn,Wu,or_false] at hT;rcases hT with rfl <;> rfl
 case Cd=>
  intro w T hT;simp only [Wn,Wu,or_false] at hT;rcases hT with rfl
  ·exact ⟨95,rfl⟩
 case F=>
  intro w mg fa h KX G hmg;refine' K50.all_mk KX G hmg (L2.at_mk ?a1 ?l1 ?c1 ?k1) (L2.at_mk ?a2 ?l2 ?c2 ?k2) (L2.at_mk ?a3 ?l3 ?c3 ?k3) (L2.at_mk ?a4 ?l4 ?c4 ?k4) (L2.at_mk ?a5 ?l5 ?c5 ?k5) (L2.at_mk ?a6 ?l6 ?c6 ?k6) (L2.at_mk ?a7 ?l7 ?c7 ?k7) (L2.at_mk ?a8 ?l8 ?c8 ?k8) (L2.at_mk ?a9 ?l9 ?c9 ?k9) (L2.at_mk ?a10 ?l10 ?c10 ?k10) (L2.at_mkL (T:=93) ?a11 ?l11 ?c11 ?k11 ?h11) (L2.at_mk ?a12 ?l12 ?c12 ?k12) (L2.at_mk ?a13 ?l13 ?c13 ?k13) (L2.at_mk ?a14 ?l14 ?c14 ?k14) (L2.at_mk ?a15 ?l15 ?c15 ?k15) (L2.at_mk ?a16 ?l16 ?c16 ?k16) (L2.at_mk ?a17 ?l17 ?c17 ?k17) (L2.at_mk ?a18 ?l18 ?c18 ?k18) (L2.at_mk ?a19 ?l19 ?c19 ?k19) (L2.at_mk ?a20 ?l20 ?c20 ?k20) (L2.at_mk ?a21 ?l21 ?c21 ?k21) (L2.at_mk ?a22 ?l22 ?c22 ?k22) (L2.at_mk ?a23 ?l23 ?c23 ?k23) (L2.at_mk ?a24 ?l24 ?c24 ?k24) ?z1 ?z2 ?z3 ?z4 ?z5 ?z6 ?z7 ?z8 ?z9 ?z10 ?z11 ?z12;any_goals (first | k_is | rfl)
