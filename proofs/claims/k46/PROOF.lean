import PyProof.Rows.All
import Wide.All
import OpenK.AllK
import Wide.FinOn
import Lean
import PyProof.EqAt
import PyProof.EqKinds
import PyProof.TupleCall
import PyProof.P3Eq
import PyProof.NeData
import PyProof.P3In
import PyProof.StrLawsChain
import KE.KIntText
import KE.IntTextLaws
import PyProof.Rows.StrJoinMade
import PyProof.Rows.FStr
import PyProof.ListMulRoad
import PyProof.EnumStmt
import PySem.Challenge.RW_openhouses_k46_whole_better_and_better
open List renaming length_map→YI,getElem?_eq_getElem→YJ,mem_cons→YM,mem_of_getElem?→YN,getElem?_eq_some_iff→YQ,length_append→YR,getElem?_map→YS,mem_map→YT,not_mem_nil→YU,map_append→YY,mem_append_right→Za,map_cons→Zb,mem_singleton→Zc,mem_cons_of_mem→Ze,mem_cons_self→Zg,getElem_of_mem→Zh,size_toArray→Zi,take_add_one→Zk,mem_append→Zl,length_cons→Zm,take_length→Zn,getD_eq_getElem?_getD→Zo,getElem?_append_right→Zr,getElem?_append_left→Zs,map_map→Zt,nodup_cons→Zu,mem_filter→Zx,length_take→Zy,length_filter_le→Z2,nodup_append→Z4,getElem?_cons_zero→Z9,length_singleton→ZC,append_nil→ZE,length_eq_zero_iff→ZF,append_assoc→ZG,pairwise_iff_getElem→ZH,getElem_mem→ZI,getElem_map→ZJ,mem_append_left→ZN,filter_cons→ZP,pairwise_cons→ZQ,pairwise_map→ZS,all_eq_true→ZT,filter_append→ZU,length→ZW,getElem?_of_mem→ZY,length_pos_iff→ZZ,nodup_nil→aa,any_eq_true→ab,getElem?_cons_succ→ae,ext_getElem→af,find?_cons→aj,lt_trans→ak,range→aq,cons_append→au,filter_sublist→ax,length_zip→ay,filter_nil→az,pairwise_singleton→aB,not_lt→aD,length_range→aF,take_of_length_le→aG,getElem_take→aH,nil_sublist→aM,any_cons→aN,map_congr_left→aO,mem_map_of_mem→aP,cons→aT,mem_range→aU,nodup_iff_pairwise_ne→aV,flatMap_cons→aX,lt_asymm→aY,lookup_cons→ba,getElem?_eq_none→bx,length_filter_lt_length_iff_exists→bz,lt_irrefl→b5,filterMap_cons→b7,all_cons→bA,mem_filterMap→bB,zip_cons_cons→bD,take_sublist→bG,map_nil→bH,all_map→bI,getElem_inj→bN,getElem_zip→bO,sublist_nil→bP,mem_flatMap→bQ,of_mem_zip→bU,getElem?_eq_none_iff→bX,isEmpty_eq_false_iff→bY,length_filterMap_le→bZ,getElem?_set_self→cq,getElem_cons_drop→cu,take_append_drop→cA,getElem?_set_ne→cD,mem_erase_of_ne→cH,pairwise_append→cI,getElem_toArray→cK,length_eraseIdx→cL,flatMap_append→cO,map_eq_nil_iff→cP,map_inj_right→cR,flatten_cons→cX,ext_getElem?→dc,length_drop→df,flatMap_nil→dk,length_nil→dq,nil_append→dt,foldl_cons→du,replicate→dw,filterMap→dy,take_zero→dz,le_trans→dF,sum_cons→dI,drop_nil→dM,map→e6
open PySem.Heap renaming get?_push_of_some→YK,lt_size→YV,get?_push_size→YW,size_push→Z6,get?_update_other→Z7,get?_update_self→Z8,get?_update_ne→b8,size_update→di
open PySem.W renaming Frag→YL,mg_none_of→Z1,nsIn→ZA,kia_one→ZM,mg_of→ZV,fnOf→ag,kitOne→bh,keepIn→bj,codeIn→bp,methodObj→b9,instObj→bJ,OpenLaw→bK,lookIn→bR,cellsFrom_some→bW,kitx_list→cE,kitx_dict→cF,plainGet→cM,findIn→cU,KdlSrc→cY,WalkO→dh
open Nat renaming le_refl→YO,ne_of_lt→YX,lt_of_lt_of_le→YZ,le_trans→Zj,lt_succ_of_lt→Zq,lt_succ_self→Zw,zero_le→Zz,le_succ→Z0,lt_irrefl→Z5,ne_of_gt→ZD,pow_le_pow_right→ZR,zero_add→aw,min_le_left→aA,sub_self→aJ,le_succ_of_le→aZ,lt_or_ge→bc,le_of_lt→bg,not_lt→bq,pow_succ→cB,add_sub_cancel→cV,eq_zero_or_pos→cZ,lt_trichotomy→dj,min_le_right→dv,not_lt_zero→dA,succ_mul→dO,min_self→dP,add_mul→dW,log2_lt→dX,mod_lt→dZ
open Bool renaming false_ne_true→Zd,false_eq_true→Zp,and_eq_true→Z3,eq_iff_iff→ZO,not_eq_true'→aW,false_and→b0,or_false→dB,and_true→dE,not_true→dJ
open Option renaming some→Zf,toList→aK,none→aL,isSome_map→bC,isSome_iff_exists→bV,isSome_some→cG,mem_toList→cN,getD_none→cQ,map_some→cW
open Array renaming length_toList→Zv,getElem?_eq_getElem→ZK,getElem?_toList→ZL,getElem?_eq_none→aE,perm_iff_toList_perm→aQ,toList_append→b6,toList→bE,toList_inj→bL,getD_eq_getD_getElem?→bT,ext→cc,mem_of_getElem?→cj,mem_toList_iff→cy,toArray_toList→cz,toList_push→cS,getD→dN
open Int renaming emod_nonneg→ZX,mul_le_mul_of_nonneg_right→ah,emod_lt_of_pos→ai,le_refl→ar,toNat_natCast→aI,lt_of_le_of_lt→bF,zero_add→bM,add_assoc→cg,natAbs_dvd_natAbs→cJ,toNat_of_nonneg→cT,lt_of_lt_of_le→de,ediv_one→dQ,lt_trans→dU,add_mul→dY
set_option Elab.async false
set_option linter.all false
set_option maxRecDepth 100000
set_option maxHeartbeats 4000000
namespace L2
open PySem PySem.W PyProof.Rows
structure O5 (lt:Keyed->Keyed->Bool):Prop where
 irr:∀ a,lt a a=false
 tra:∀ a b c,lt a b=true->lt b c=true->lt a c=true
 neg:∀ a b c,lt a c=true->lt a b=true\/lt b c=true
def Nl (lt:Keyed->Keyed->Bool) (a b:Keyed):Prop:=lt b a=false
section
variable {lt:Keyed->Keyed->Bool}
theorem O5.rfl' (h:O5 lt) (a:Keyed):Nl lt a a:=h.irr a
theorem O5.of_lt (h:O5 lt) {a b:Keyed} (e:lt a b=true):Nl lt a b:=by
 unfold Nl;cases z:lt b a
 ·rfl
 ·have:=h.tra _ _ _ e z;rw [h.irr] at this;cases this
theorem O5.trans (h:O5 lt) {a b c:Keyed} (x:Nl lt a b) (y:Nl lt b c):Nl lt a c:=by
 unfold Nl at *;cases z:lt c a
 ·rfl
 ·rcases h.neg _ b _ z with q | q
  ·rw [y] at q; cases q
  ·rw [x] at q; cases q
end
def Cc (xs:Array Keyed) (i:Nat):Keyed:=xs.getD i (Value.none,Value.none)
theorem Oq {xs:Array Keyed} {i:Nat} (h:i < xs.size):xs[i]? = some (Cc xs i):=by
 unfold Cc;simp [dN,h]
theorem IK {xs ys:Array Keyed} {i j:Nat} (h:xs[i]? = ys[j]?):Cc xs i=Cc ys j:=by
 unfold Cc;rw [bT,bT,h]
theorem Oo {xs:Array Keyed} {i:Nat} (h:i < xs.size):Cc xs i ∈ xs:=cj (Oq h)
def TU (prog:Program) (w:World) (A:Around) (s:Shared) (κ:SortKind) (lt:Keyed->Keyed->Bool) (a0:Array Keyed):Prop:=
 ∀ x y,x ∈ a0->y ∈ a0->∀ (Q:Bool->Shared->Prop) (E:Value->Shared->Prop),Q (lt x y) s->wpAny (model prog w) A (keyLt' κ x.1 y.1) Q E s
section
variable {prog:Program} {w:World} {A:Around} {E:Value->Shared->Prop} {s:Shared} {κ:SortKind} {lt:Keyed->Keyed->Bool} {a0:Array Keyed}
theorem JD {xs:Array Keyed} {i:Nat} {Q:Keyed->SortSt->Prop} {st:SortSt} (hi:i < xs.size) (h:Q (Cc xs i) st):wpS (model prog w) A E s (elem' xs i) Q st:=by
 rw [elem'_eq,Oq hi];exact wpS_pure h
theorem Sv {x y:Keyed} {Q:Option Bool->SortSt->Prop} {st:SortSt} (an:TU prog w A s κ lt a0) (hk:kindOf st=κ) (hx:x ∈ a0) (hy:y ∈ a0) (h:Q (some (lt x y)) st) :
  wpS (model prog w) A E s (lt' x y) Q st:=by
 rw [lt'_eq];refine wpS_bind (wpS_get ?_);rw [hk];refine wpS_bind (wpS_lift (wpAny_attempt (an x y hx hy _ _ ⟨rfl,?_⟩)));exact wpS_pure h
theorem Df {i j:Nat} {Q:Option Bool->SortSt->Prop} {st:SortSt} (an:TU prog w A s κ lt a0) (hk:kindOf st=κ) (hp:(arrOf st).Perm a0) (hi:i < a0.size) (hj:j < a0.size)
  (h:Q (some (lt (Cc (arrOf st) i) (Cc (arrOf st) j))) st):wpS (model prog w) A E s (ltAt' i j) Q st:=by
 rw [ltAt'_eq];refine wpS_bind (wpS_get ?_);have e:=hp.size_eq;refine wpS_bind (JD (by lia) (wpS_bind (JD (by lia) ?_)));exact Sv an hk ((Array.Perm.mem_iff hp).mp (Oo (by lia))) ((Array.Perm.mem_iff hp).mp (Oo (by lia))) h
theorem Lv {ρ:Type} {body:Nat->Option ρ × Nat × Nat->StateT SortSt Sem (ForInStep (Option ρ × Nat × Nat))} {f:Nat->Bool} {n lo hi:Nat} {st:SortSt}
  (hs:∀ x l (R:ForInStep (Option ρ × Nat × Nat)->SortSt->Prop),R (.done (none,l,l)) st->wpS (model prog w) A E s (body x (none,l,l)) R st)
  (hg:∀ x l r (R:ForInStep (Option ρ × Nat × Nat)->SortSt->Prop),l < r->r<=n ->
   (f (l + (r - l) / 2)=true->R (.yield (none,l + (r - l) / 2 + 1,r)) st)->(f (l + (r - l) / 2)=false->R (.yield (none,l,l + (r - l) / 2)) st)->wpS (model prog w) A E s (body x (none,l,r)) R st)
  (hl:lo<=hi) (hn:hi<=n) (mono:∀ i j,i<=j->j < n->f j=true->f i=true)
  (h1:∀ i,i < lo->f i=true) (h2:∀ i,hi<=i->i < n->f i=false) :
  wpS (model prog w) A E s (forIn [0:n] (none,lo,hi) body) (fun c AM=>AM=st/\∃ r,c=(none,r,r)/\r<=n/\(∀ i,i < r->f i=true)/\(∀ i,r<=i->i < n->f i=false)) st:=by
 refine wpS_forRange (I:=fun x c AM=>AM=st/\∃ l r,c=(none,l,r)/\l<=r/\r<=n/\r - l<=n - x/\(∀ i,i < l->f i=true)/\(∀ i,r<=i->i < n->f i=false)) ?_ ?_ ⟨rfl,lo,hi,rfl,hl,hn,by lia,h1,h2⟩
 ·rintro x c AM _ hx ⟨rfl,l,r,rfl,q1,q2,q3,q4,q5⟩;by_cases hlr:l < r
  ·have hm:l + (r - l) / 2 < r:=by lia
   refine hg _ _ _ _ hlr q2 (fun e=>?_) (fun e=>?_)
   ·exact ⟨rfl,_,r,rfl,by lia,by lia,by lia,fun i i1=>mono _ _ (by lia) (by lia) e,q5⟩
   ·refine ⟨rfl,l,_,rfl,by lia,by lia,by lia,q4,fun i i1 i2=>?_⟩;cases z:f i
    ·rfl
    ·rw [mono _ _ i1 i2 z] at e; cases e
  ·have:l=r:=by lia
   subst this;exact hs _ _ _ ⟨rfl,l,rfl,q2,q4,q5⟩
 ·rintro c AM ⟨rfl,l,r,rfl,q1,q2,q3,q4,q5⟩;have:l=r:=by lia
  subst this;exact ⟨rfl,l,rfl,q2,q4,q5⟩
end
section lists
variable {lt:Keyed->Keyed->Bool}
theorem IJ {xs:Array Keyed} {i:Nat} (h:i < xs.toList.length):xs.toList[i]=Cc xs i:=by
 have h':i < xs.size:=by simpa using h
 unfold Cc;simp [dN,h']
theorem Ut {xs:Array Keyed} (h:∀ i j,i < j->j < xs.size->Nl lt (Cc xs i) (Cc xs j)):xs.toList.Pairwise (Nl lt):=by
 rw [ZH];intro i j hi hj hij;rw [IJ,IJ];exact h i j hij (by simpa using hj)
end lists
section
variable {prog:Program} {w:World} {A:Around} {E:Value->Shared->Prop} {s:Shared} {κ:SortKind} {lt:Keyed->Keyed->Bool} {a0:Array Keyed}
end
section
variable {prog:Program} {w:World} {A:Around} {E:Value->Shared->Prop} {s:Shared} {κ:SortKind} {lt:Keyed->Keyed->Bool} {a0:Array Keyed}
end
section segs
variable {lt:Keyed->Keyed->Bool}
def SS (lt:Keyed->Keyed->Bool) (xs:Array Keyed) (lo hi:Nat):Prop:=∀ i j,lo<=i->i<=j->j < hi->Nl lt (Cc xs i) (Cc xs j)
def NS (lt:Keyed->Keyed->Bool) (xs:Array Keyed) (lo hi:Nat):Prop:=∀ i j,lo<=i->i<=j->j < hi->Nl lt (Cc xs j) (Cc xs i)
theorem Ds {xs:Array Keyed} {i j:Nat} (hj:j<=xs.size) (k:Nat):Cc (mirror xs i j ((j - i) / 2)) k=if i<=k/\k < j then Cc xs (i + j - 1 - k) else Cc xs k:=by
 have e:=getElem?_mirror_all (i:=i) hj k;split at e
 ·rw [if_pos ‹_›]; exact IK e
 ·rw [if_neg ‹_›]; exact IK e
theorem F8 {xs:Array Keyed} {src d:Nat} (hs:src < xs.size) (hd:d<=src) (k:Nat) :
  Cc (bubble xs src d) k=if k=src - d then Cc xs src else if src - d < k/\k<=src then Cc xs (k - 1) else Cc xs k:=by
 have e:=getElem?_bubble hs d hd k;by_cases h1:k=src - d
 ·rw [if_pos h1] at e ⊢; exact IK e
 ·by_cases h2:src - d < k/\k<=src
  ·rw [if_neg h1,if_pos h2] at e ⊢; exact IK e
  ·rw [if_neg h1,if_neg h2] at e ⊢; exact IK e
theorem NS.mirror {xs:Array Keyed} {lo hi:Nat} (h:NS lt xs lo hi) (hs:hi<=xs.size):SS lt (mirror xs lo hi ((hi - lo) / 2)) lo hi:=by
 intro i j h1 h2 h3;rw [Ds hs,Ds hs,if_pos ⟨h1,by lia⟩,if_pos ⟨by lia,h3⟩];exact h _ _ (by lia) (by lia) (by lia)
theorem NS.even {xs:Array Keyed} {lo p hi:Nat} (h:NS lt xs lo hi) (hs:hi<=xs.size) (hp:lo<=p) (e:∀ i j,p<=i->i < hi->p<=j->j < hi->Nl lt (Cc xs i) (Cc xs j)) {top:Nat} (ht:hi<=top) (h':NS lt xs lo top) :
  NS lt (PyProof.Rows.mirror xs p hi ((hi - p) / 2)) lo top:=by
 intro i j h1 h2 h3;rw [Ds hs,Ds hs];by_cases c1:p<=j/\j < hi
 ·rw [if_pos c1];by_cases c2:p<=i/\i < hi
  ·rw [if_pos c2];exact e _ _ (by lia) (by lia) (by lia) (by lia)
  ·rw [if_neg c2];exact h' _ _ h1 (by lia) (by lia)
 ·rw [if_neg c1];by_cases c2:p<=i/\i < hi
  ·rw [if_pos c2];exact h' _ _ (by lia) (by lia) h3
  ·rw [if_neg c2];exact h' _ _ h1 h2 h3
def Kp (xs ys:Array Keyed) (lo:Nat):Prop:=ys.Perm xs/\∀ k,k < lo->Cc ys k=Cc xs k
theorem Kp.refl (xs:Array Keyed) (lo:Nat):Kp xs xs lo:=⟨Array.Perm.refl _,fun _ _=>rfl⟩
theorem Kp.size {xs ys:Array Keyed} {lo:Nat} (h:Kp xs ys lo):ys.size=xs.size:=h.1.size_eq
theorem Kp.mirror {xs ys:Array Keyed} {lo i j:Nat} (h:Kp xs ys lo) (hj:j<=xs.size) (hi:lo<=i):Kp xs (PyProof.Rows.mirror ys i j ((j - i) / 2)) lo:=by
 refine ⟨(mirror_perm _ _ _ _).trans h.1,fun k hk=>?_⟩;rw [Ds (by rw [h.size]; exact hj),if_neg (by lia)];exact h.2 k hk
theorem Kp.bubble {xs ys:Array Keyed} {lo src d:Nat} (h:Kp xs ys lo) (hs:src < xs.size) (hd:lo + d<=src):Kp xs (PyProof.Rows.bubble ys src d) lo:=by
 refine ⟨(bubble_perm _ _ _).trans h.1,fun k hk=>?_⟩;rw [F8 (by rw [h.size]; exact hs) (by lia),if_neg (by lia),if_neg (by lia)];exact h.2 k hk
end segs
section
variable {prog:Program} {w:World} {A:Around} {E:Value->Shared->Prop} {s:Shared} {κ:SortKind} {lt:Keyed->Keyed->Bool} {a0:Array Keyed}
theorem FG {i j:Nat} {Q:Unit->SortSt->Prop} {st:SortSt} (h:Q () (setArr st (mirror (arrOf st) i j ((j - i) / 2)))):wpS (model prog w) A E s (reverseSlice' i j) Q st:=by
 rw [reverseSlice'_eq];exact wpS_modify h
theorem Nz {body:Nat->Option (Option Nat) × Nat->StateT SortSt Sem (ForInStep (Option (Option Nat) × Nat))} {f:Nat->Bool} {a nrem:Nat} {st:SortSt} (ha:a<=nrem)
  (hb:∀ x n (R:ForInStep (Option (Option Nat) × Nat)->SortSt->Prop),a<=n->n < nrem->(f n=true->R (.done (none,n)) st)->(f n=false->R (.yield (none,n + 1)) st)->wpS (model prog w) A E s (body x (none,n)) R st) :
  wpS (model prog w) A E s (forIn [a:nrem] (none,a) body) (fun c AM=>AM=st/\∃ n,c=(none,n)/\a<=n/\n<=nrem/\(∀ i,a<=i->i < n->f i=false)/\(n=nrem\/f n=true)) st:=by
 refine wpS_forRange (I:=fun x c AM=>AM=st/\c=(none,x)/\(∀ i,a<=i->i < x->f i=false)) ?_ ?_ ⟨rfl,rfl,fun i h1 h2=>by lia⟩
 ·rintro x c AM h1 h2 ⟨rfl,rfl,q⟩;refine hb _ _ _ h1 h2 (fun e=>⟨rfl,x,rfl,h1,by lia,q,.inr e⟩) (fun e=>⟨rfl,rfl,fun i i1 i2=>?_⟩);by_cases z:i=x
  ·rw [z]; exact e
  ·exact q i i1 (by lia)
 ·rintro c AM ⟨rfl,rfl,q⟩;rw [Nat.max_eq_right ha] at q ⊢;exact ⟨rfl,nrem,rfl,ha,YO _,q,.inl rfl⟩
theorem TX {xs:Array Keyed} (sw:O5 lt) {lo a n:Nat} (h:SS lt xs lo (lo + a)) (ha:1<=a) (q:∀ i,a<=i->i < n->lt (Cc xs (lo + i)) (Cc xs (lo + i - 1))=false):SS lt xs lo (lo + n):=by
 have step:∀ d,a + d<=n->SS lt xs lo (lo + (a + d)):=by
  intro d;induction d with
  | zero=>intro _; exact h
  | succ d ih=>
   intro hd i j h1 h2 h3;by_cases hj:j < lo + (a + d)
   ·exact ih (by lia) i j h1 h2 hj
   ·have ej:j=lo + (a + d):=by lia
    by_cases hi:i=j
    ·rw [hi]; exact sw.rfl' _
    ·have q1:=q (a + d) (by lia) (by lia);rw [<-ej] at q1;exact sw.trans (ih (by lia) i (j - 1) h1 (by lia) (by lia)) q1
 rcases bc n a with Bv | hge
 ·exact fun i j h1 h2 h3=>h i j h1 h2 (by lia)
 ·have:=step (n - a) (by lia);rw [show a + (n - a)=n by lia] at this;exact this
theorem Jt {lo nrem:Nat} {Q:Option Nat->SortSt->Prop} {st:SortSt} (sw:O5 lt) (an:TU prog w A s κ lt a0) (hk:kindOf st=κ) (hp:(arrOf st).Perm a0) (hn:lo + nrem<=a0.size) (h1:1<=nrem)
  (h:∀ m ys,Kp (arrOf st) ys lo->1<=m->m<=nrem->SS lt ys lo (lo + m)->Q (some m) (setArr st ys)):wpS (model prog w) A E s (countRun' lo nrem) Q st:=by
 have hz:=hp.size_eq;refine wpS_bind (wpS_mono (Nz (f:=fun n=>lt (Cc (arrOf st) (lo + n)) (Cc (arrOf st) (lo + n - 1))) h1 ?_) ?_)
 ·intro x n R n1 n2 y1 y2;dsimp only;refine wpS_bind (Df an hk hp (by lia) (by lia) ?_);dsimp only;cases e:lt (Cc (arrOf st) (lo + n)) (Cc (arrOf st) (lo + n - 1))
  ·exact wpS_pure (y2 e)
  ·exact wpS_pure (y1 e)
 rintro c AM ⟨rfl,n,rfl,n1,n2,q,hor⟩;dsimp only;have s0:SS lt (arrOf AM) lo (lo + 1):=fun i j a1 a2 a3=>by
  have:i=j:=by lia
  rw [this];exact sw.rfl' _
 have sn:SS lt (arrOf AM) lo (lo + n):=TX sw s0 (YO _) q;by_cases hnn:n=nrem
 ·rw [if_pos (by simpa using hnn)];exact wpS_pure (h n _ (Kp.refl _ _) n1 n2 sn)
 rw [if_neg (by simpa using hnn)];have Bv:lt (Cc (arrOf AM) (lo + n)) (Cc (arrOf AM) (lo + n - 1))=true:=hor.resolve_left hnn;by_cases hgt:n > 1
 case' pos=>
  rw [if_pos hgt];refine wpS_bind (Df an hk hp (by lia) (by lia) ?_);dsimp only;cases hrose:lt (Cc (arrOf AM) lo) (Cc (arrOf AM) (lo + n - 1))
  case' true=>
   simp only [if_true];exact wpS_pure (h n _ (Kp.refl _ _) n1 n2 sn)
  case' false=>
   simp only [Zp,if_false];refine wpS_bind (FG ?_);have even:∀ i j,lo<=i->i < lo + n->lo<=j->j < lo + n->Nl lt (Cc (arrOf AM) i) (Cc (arrOf AM) j):=by
    intro i j a1 a2 a3 a4;have b1:=sn lo j (YO _) a3 a4;have b2:=sn i (lo + n - 1) a1 (by lia) (by lia);exact sw.trans (sw.trans b2 hrose) b1
   have ns0:NS lt (arrOf AM) lo (lo + n):=fun i j a1 a2 a3=>even j i (by lia) a3 a1 (by lia)
   have ns1:NS lt (arrOf AM) lo (lo + (n + 1)):=by
    intro i j a1 a2 a3;by_cases hj:j < lo + n
    ·exact ns0 i j a1 a2 hj
    ·have ej:j=lo + n:=by lia
     by_cases hi:i=j
     ·rw [hi]; exact sw.rfl' _
     ·rw [ej];exact sw.trans (sw.of_lt Bv) (even _ _ (by lia) (by lia) a1 (by lia))
   have kp:Kp (arrOf AM) (mirror (arrOf AM) lo (lo + n) ((lo + n - lo) / 2)) lo:=(Kp.refl _ _).mirror (by lia) (YO _);have ns:NS lt (mirror (arrOf AM) lo (lo + n) ((lo + n - lo) / 2)) lo (lo + (n + 1)):=ns0.even (by lia) (YO _) even (by lia) ns1;obtain ⟨ys,ey⟩:∃ ys,ys=mirror (arrOf AM) lo (lo + n) ((lo + n - lo) / 2):=⟨_,rfl⟩
   rw [<-ey] at kp ns;show wpS (model prog w) A E s _ Q (setArr AM (mirror (arrOf AM) lo (lo + n) ((lo + n - lo) / 2)))
   rw [<-ey]
 case' neg=>
  rw [if_neg hgt];have en:n=1:=by lia
  have kp:Kp (arrOf AM) (arrOf AM) lo:=Kp.refl _ _;have ns:NS lt (arrOf AM) lo (lo + (n + 1)):=by
   intro i j a1 a2 a3;by_cases hi:i=j
   ·rw [hi]; exact sw.rfl' _
   ·have e1:j=lo + n:=by lia
    have e2:i=lo + n - 1:=by lia
    rw [e1,e2];exact sw.of_lt Bv
  obtain ⟨ys,ey⟩:∃ ys,ys=arrOf AM:=⟨_,rfl⟩
  rw [<-ey] at ns;have kp:Kp (arrOf AM) ys lo:=by rw [ey]; exact Kp.refl _ _
  show wpS (model prog w) A E s _ Q (setArr AM (arrOf AM))
  rw [<-ey]
 all_goals
  refine wpS_bind (wpS_lift (wpAny_rule ⟨rfl,?_⟩));refine wpS_bind (wpS_mono (wpS_forRange (I:=fun x c Hz=>∃ neq ys,c=(none,x,neq)/\Hz=setArr AM ys/\Kp (arrOf AM) ys lo/\NS lt ys lo (lo + x)/\neq + 1<=x /\
    (∀ i j,lo + x - (neq + 1)<=i->i < lo + x->lo + x - (neq + 1)<=j->j < lo + x->Nl lt (Cc ys i) (Cc ys j)))
   (Q:=fun c Hz=>∃ m neq ys,c=(none,m,neq)/\Hz=setArr AM ys/\Kp (arrOf AM) ys lo/\n + 1<=m/\m<=nrem/\NS lt ys lo (lo + m)/\neq + 1<=m /\
    (∀ i j,lo + m - (neq + 1)<=i->i < lo + m->lo + m - (neq + 1)<=j->j < lo + m->Nl lt (Cc ys i) (Cc ys j))) ?dstep ?dfin ?dinit) ?dpost)
  case dinit=>
   refine ⟨0,ys,rfl,rfl,kp,ns,by lia,fun i j a1 a2 a3 a4=>?_⟩;have:i=j:=by lia
   rw [this];exact sw.rfl' _
  case dfin=>
   rintro c Hz ⟨neq,ys,rfl,rfl,kp,ns,a1,a2⟩;have e:max (n + 1) nrem=nrem:=by lia
   rw [e] at ns a1 a2 ⊢;exact ⟨nrem,neq,ys,rfl,rfl,kp,by lia,YO _,ns,a1,a2⟩
  case dstep=>
   rintro x c Hz x1 x2 ⟨neq,ys,rfl,rfl,kp,ns,a1,a2⟩;dsimp only;have hzy:=kp.size;have hpy:(arrOf (setArr AM ys)).Perm a0:=kp.1.trans hp;refine wpS_bind (Df (st:=setArr AM ys) an hk hpy (by lia) (by lia) ?_);dsimp only;cases hless:lt (Cc ys (lo + x)) (Cc ys (lo + x - 1))
   ·simp only [Zp,if_false];refine wpS_bind (Df (st:=setArr AM ys) an hk hpy (by lia) (by lia) ?_);dsimp only;cases hlarger:lt (Cc ys (lo + x - 1)) (Cc ys (lo + x))
    ·simp only [Zp,if_false];refine wpS_pure ⟨neq + 1,ys,rfl,rfl,kp,?_,by lia,?_⟩
     ·intro i j b1 b2 b3;by_cases hj:j < lo + x
      ·exact ns i j b1 b2 hj
      ·have ej:j=lo + x:=by lia
       by_cases hi:i=j
       ·rw [hi]; exact sw.rfl' _
       ·rw [ej];exact sw.trans hlarger (ns _ _ b1 (by lia) (by lia))
     ·have pin:∀ i,lo + (x + 1) - (neq + 1 + 1)<=i->i < lo + (x + 1)->Nl lt (Cc ys i) (Cc ys (lo + x - 1))/\Nl lt (Cc ys (lo + x - 1)) (Cc ys i):=by
       intro i b1 b2;by_cases hi:i=lo + x
       ·rw [hi];exact ⟨hlarger,hless⟩
       ·exact ⟨a2 _ _ (by lia) (by lia) (by lia) (by lia),a2 _ _ (by lia) (by lia) (by lia) (by lia)⟩
      intro i j b1 b2 b3 b4;exact sw.trans (pin i b1 b2).1 (pin j b3 b4).2
    ·simp only [if_true];exact wpS_pure ⟨x,neq,ys,rfl,rfl,kp,x1,by lia,ns,a1,a2⟩
   ·simp only [if_true];have ns':NS lt ys lo (lo + (x + 1)):=by
     intro i j b1 b2 b3;by_cases hj:j < lo + x
     ·exact ns i j b1 b2 hj
     ·have ej:j=lo + x:=by lia
      by_cases hi:i=j
      ·rw [hi]; exact sw.rfl' _
      ·rw [ej];exact sw.trans (sw.of_lt hless) (ns _ _ b1 (by lia) (by lia))
    have one:∀ (zs:Array Keyed) i j,lo + (x + 1) - (0 + 1)<=i->i < lo + (x + 1)->lo + (x + 1) - (0 + 1)<=j->j < lo + (x + 1)->Nl lt (Cc zs i) (Cc zs j):=by
     intro zs i j b1 b2 b3 b4;have:i=j:=by lia
     rw [this];exact sw.rfl' _
    by_cases hq:neq > 0
    ·rw [if_pos hq];refine wpS_bind (FG (wpS_pure ⟨0,_,rfl,rfl,kp.mirror (by lia) (by lia),?_,by lia,one _⟩));exact ns.even (by show _<=ys.size; lia) (by lia) a2 (by lia) ns'
    ·rw [if_neg hq];exact wpS_pure ⟨0,ys,rfl,rfl,kp,ns',by lia,one _⟩
  case dpost=>
   rintro c Hz ⟨m,neq,zs,rfl,rfl,kz,m1,m2,nz,a1,a2⟩;dsimp only;have hzz:=kz.size;by_cases hq:neq > 0
   case' pos=>
    rw [if_pos hq];refine wpS_bind (FG ?_);have WZ:Kp (arrOf AM) (mirror zs (lo + m - (neq + 1)) (lo + m) ((lo + m - (lo + m - (neq + 1))) / 2)) lo:=kz.mirror (by lia) (by lia);have X8:NS lt (mirror zs (lo + m - (neq + 1)) (lo + m) ((lo + m - (lo + m - (neq + 1))) / 2)) lo (lo + m):=nz.even (by lia) (by lia) a2 (YO _) nz;obtain ⟨us,eu⟩:∃ us,us=mirror zs (lo + m - (neq + 1)) (lo + m) ((lo + m - (lo + m - (neq + 1))) / 2):=⟨_,rfl⟩
    rw [<-eu] at WZ X8;show wpS (model prog w) A E s _ Q (setArr AM (mirror zs (lo + m - (neq + 1)) (lo + m) ((lo + m - (lo + m - (neq + 1))) / 2)))
    rw [<-eu]
   case' neg=>
    rw [if_neg hq];obtain ⟨us,eu⟩:∃ us,us=zs:=⟨_,rfl⟩
    have WZ:Kp (arrOf AM) us lo:=by rw [eu]; exact kz
    have X8:NS lt us lo (lo + m):=by rw [eu]; exact nz
    rw [<-eu]
   all_goals
    have hzu:=WZ.size;refine wpS_bind (FG ?_);show wpS (model prog w) A E s _ Q (setArr AM (mirror us lo (lo + m) ((lo + m - lo) / 2)))
    have kv:Kp (arrOf AM) (mirror us lo (lo + m) ((lo + m - lo) / 2)) lo:=WZ.mirror (by lia) (YO _);have sv:SS lt (mirror us lo (lo + m) ((lo + m - lo) / 2)) lo (lo + m):=X8.mirror (by lia);obtain ⟨vs,ev⟩:∃ vs,vs=mirror us lo (lo + m) ((lo + m - lo) / 2):=⟨_,rfl⟩
    rw [<-ev] at kv sv;rw [<-ev];have hzv:=kv.size;refine wpS_bind (wpS_mono (Nz (f:=fun n=>lt (Cc vs (lo + n)) (Cc vs (lo + n - 1))) m2 ?_) ?_)
    ·intro x n R n1 n2 y1 y2;dsimp only;refine wpS_bind (Df (st:=setArr AM vs) an hk (kv.1.trans hp) (by lia) (by lia) ?_);dsimp only;cases e:lt (Cc vs (lo + n)) (Cc vs (lo + n - 1))
     ·exact wpS_pure (y2 e)
     ·exact wpS_pure (y1 e)
    rintro c Xz ⟨rfl,n',rfl,b1,b2,b3,_⟩;exact wpS_pure (h n' vs kv (by lia) b2 (TX sw sv (by lia) b3))
theorem Hy {lo n ok:Nat} {Q:Bool->SortSt->Prop} {st:SortSt} (sw:O5 lt) (an:TU prog w A s κ lt a0) (hk:kindOf st=κ) (hp:(arrOf st).Perm a0) (hn:lo + n<=a0.size) (h1:1<=ok) (hok:ok<=n)
  (hs:SS lt (arrOf st) lo (lo + ok)) (h:∀ ys,Kp (arrOf st) ys lo->SS lt ys lo (lo + n)->Q true (setArr st ys)):wpS (model prog w) A E s (binarySort' lo n ok) Q st:=by
 have hz:=hp.size_eq;refine wpS_bind (wpS_mono (wpS_forRange (I:=fun k c AM=>c=(none,())/\∃ ys,AM=setArr st ys/\Kp (arrOf st) ys lo/\SS lt ys lo (lo + k))
  (Q:=fun c AM=>c=(none,())/\∃ ys,AM=setArr st ys/\Kp (arrOf st) ys lo/\SS lt ys lo (lo + n)) ?step ?fin ?init) ?post)
 case init=>
  rw [Nat.max_eq_left h1];exact ⟨rfl,arrOf st,rfl,Kp.refl _ _,hs⟩
 case fin=>
  rintro c AM ⟨rfl,ys,rfl,kp,ss⟩;rw [show max (max ok 1) n=n by lia] at ss;exact ⟨rfl,ys,rfl,kp,ss⟩
 case post=>
  rintro c AM ⟨rfl,ys,rfl,kp,ss⟩;exact wpS_pure (h ys kp ss)
 case step=>
  rintro k c AM k1 k2 ⟨rfl,ys,rfl,kp,ss⟩;dsimp only;have hzy:=kp.size;have hpy:(arrOf (setArr st ys)).Perm a0:=kp.1.trans hp;refine wpS_bind (wpS_mono (Lv (f:=fun m=>!(lt (Cc ys (lo + k)) (Cc ys (lo + m)))) (n:=k) ?_ ?_ (Zz _) (YO _) ?_ ?_ ?_) ?_)
  ·intro x l R hR;dsimp only;rw [if_pos (YO _)];exact wpS_pure hR
  ·intro x l r R hlr hrk y1 y2;dsimp only;rw [if_neg (by lia),show (l + r) / 2=l + (r - l) / 2 by lia];refine wpS_bind (Df (st:=setArr st ys) an hk hpy (by lia) (by lia) ?_);dsimp only;cases e:lt (Cc ys (lo + k)) (Cc ys (lo + (l + (r - l) / 2)))
   ·exact wpS_pure (y1 (by rw [e]; rfl))
   ·exact wpS_pure (y2 (by rw [e]; rfl))
  ·intro i j hij hj e;simp only [aW] at e ⊢;exact sw.trans (ss _ _ (by lia) (by lia) (by lia)) e
  ·intro i hi;lia
  ·intro i hi1 Vh;lia
  ·rintro c Ff ⟨rfl,r,rfl,r1,r2,r3⟩;refine wpS_bind ?_;rw [show (sortPriv% PySem.Builtin.moveDown)=moveDown' from rfl,moveDown'_eq];refine wpS_modify (wpS_pure ⟨rfl,bubble ys (lo + k) (lo + k - (lo + r)),rfl,kp.bubble (by lia) (by lia),?_⟩);intro i j a1 a2 a3;rw [F8 (by lia) (by lia),F8 (by lia) (by lia)];have g1:∀ m,lo<=m->m < lo + r->Nl lt (Cc ys m) (Cc ys (lo + k)):=fun m b1 b2=>by
    have q:=r2 (m - lo) (by lia);simp only [aW] at q;rw [show lo + (m - lo)=m by lia] at q;exact q
   have g2:∀ m,lo + r<=m->m < lo + k->Nl lt (Cc ys (lo + k)) (Cc ys m):=fun m b1 b2=>by
    have q:=r3 (m - lo) (by lia) (by lia);simp only [Bool.not_eq_false'] at q;rw [show lo + (m - lo)=m by lia] at q;exact sw.of_lt q
   repeat' split
   all_goals first
    | exact sw.rfl' _
    | exact g1 _ (by lia) (by lia)
    | exact g2 _ (by lia) (by lia)
    | exact ss _ _ (by lia) (by lia) (by lia)
    | (exfalso; lia)
end
section
variable {lt:Keyed->Keyed->Bool}
end
section
variable {prog:Program} {w:World} {A:Around} {E:Value->Shared->Prop} {s:Shared} {κ:SortKind} {lt:Keyed->Keyed->Bool} {a0:Array Keyed}
end
section
variable {prog:Program} {w:World} {A:Around} {E:Value->Shared->Prop} {s:Shared} {κ:SortKind} {lt:Keyed->Keyed->Bool} {a0:Array Keyed}
end
end L2
namespace L2
open PySem PySem.Spec PyProof.Rows
abbrev A7:=Sum Int Str
def II:A7->Value->Bool
 | .inl k,v=>Value.isInt k v
 | .inr x,v=>Value.isStrOf x v
def keyH (w:World):A7->Int
 | .inl k=>hashInt k
 | .inr x=>hashStr w x
theorem Bb:∀ {k:A7} {v:Value},II k v=true->(∃ i t,k=Sum.inl i/\v=Value.int i t)\/(∃ x t,k=Sum.inr x/\v=Value.str x t)
 | .inl i,v,h=>by
  obtain ⟨t,e⟩:=Value.isInt_shape (k:=i) (v:=v) h;exact .inl ⟨i,t,rfl,e⟩
 | .inr x,v,h=>by
  obtain ⟨t,e⟩:=Value.isStrOf_shape (x:=x) (v:=v) h;exact .inr ⟨x,t,rfl,e⟩
theorem PF (i:Int) (t:Tok):II (.inl i) (.int i t)=true:=by simp [II,Value.isInt]
theorem PD (x:Str) (t:Tok):II (.inr x) (.str x t)=true:=by simp [II,Value.isStrOf]
theorem Vc (a b:Int):decide ((Sum.inl a:A7)=Sum.inl b)=(a == b):=by
 by_cases e:a=b
 ·subst e; simp
 ·have h:¬ (Sum.inl a:A7)=Sum.inl b:=fun q=>e (Sum.inl.inj q)
  rw [decide_eq_false h];exact (beq_eq_false_iff_ne.mpr e).symm
theorem UZ (a b:Str):decide ((Sum.inr a:A7)=Sum.inr b)=decide (a=b):=by
 by_cases e:a=b
 ·subst e; simp
 ·have h:¬ (Sum.inr a:A7)=Sum.inr b:=fun q=>e (Sum.inr.inj q)
  rw [decide_eq_false h,decide_eq_false e]
theorem Vb (a:Int) (b:Str):decide ((Sum.inl a:A7)=Sum.inr b)=false:=decide_eq_false (fun q=>nomatch q)
theorem Va (a:Str) (b:Int):decide ((Sum.inr a:A7)=Sum.inl b)=false:=decide_eq_false (fun q=>nomatch q)
def AL (prog:Program) (w:World):PySem.KeyKind prog w A7 where
 is:=II
 hash:=keyH w
 inj:=fun v a b ha hb=>by
  rcases Bb ha with ⟨i,t,rfl,rfl⟩ | ⟨x,t,rfl,rfl⟩
  ·rcases Bb hb with ⟨j,u,rfl,e⟩ | ⟨y,u,rfl,e⟩
   ·injection e with e1 _; rw [e1]
   ·exact nomatch e
  ·rcases Bb hb with ⟨j,u,rfl,e⟩ | ⟨y,u,rfl,e⟩
   ·exact nomatch e
   ·injection e with e1 _; rw [e1]
 byValue:=fun k v h=>by
  rcases Bb h with ⟨i,t,rfl,rfl⟩ | ⟨x,t,rfl,rfl⟩ <;> rfl
 pyHash:=fun hv h=>by
  rcases Bb hv with ⟨i,t,rfl,rfl⟩ | ⟨x,t,rfl,rfl⟩
  ·exact wpAny_pyHash_int h
  ·exact wpAny_pyHash_str h
 eqBool:=fun hu hv h=>by
  rcases Bb hu with ⟨i,t,rfl,rfl⟩ | ⟨x,t,rfl,rfl⟩
  ·rcases Bb hv with ⟨j,u,rfl,rfl⟩ | ⟨y,u,rfl,rfl⟩
   ·rw [Vc] at h; exact wpAny_eqBool_int h
   ·rw [Vb] at h; exact SeqAt.EqAt.int_str i t y u _ _ _ _ h
  ·rcases Bb hv with ⟨j,u,rfl,rfl⟩ | ⟨y,u,rfl,rfl⟩
   ·rw [Va] at h; exact SeqAt.EqAt.str_int x t j u _ _ _ _ h
   ·rw [UZ] at h; exact wpAny_eqBool_str h
 «strs»:=fun k x t v h=>by
  rcases Bb h with ⟨i,u,rfl,e⟩ | ⟨y,u,rfl,e⟩
  ·exact nomatch e
  ·injection e with e1 _;subst e1;cases v <;> rfl
theorem LZ (prog:Program) (w:World) (i:Int) (t:Tok):(AL prog w).is (.inl i) (.int i t)=true:=PF i t
theorem Hq (prog:Program) (w:World) (x:Str) (t:Tok):(AL prog w).is (.inr x) (.str x t)=true:=PD x t
inductive V where
 | non | bl (b:Bool) | int (i:Int) | str (x:Str) | byt (b:Array UInt8) | flt (b:UInt64) | ref (a:Addr) | ty (n:String)
 deriving DecidableEq
def A1:V->Value->Prop
 | .non,u=>u=Value.none
 | .bl b,u=>u=Value.bool b
 | .int i,u=>∃ t,u=Value.int i t
 | .str x,u=>∃ t,u=Value.str x t
 | .byt b,u=>∃ t,u=Value.bytes b t
 | .flt b,u=>∃ t,u=Value.float b t
 | .ref a,u=>u=Value.ref a
 | .ty n,u=>u=Value.type n
abbrev A0:List V->List Value->Prop:=Paired A1
theorem A0.length {xs:List V} {us:List Value} (r:A0 xs us):xs.length=us.length:=Paired.length r
theorem A0.get:∀ {xs:List V} {us:List Value} {i:Nat} {x:V},A0 xs us->xs[i]? = some x->∃ u,us[i]? = some u/\A1 x u
 | _,_,_,_,.nil,e=>by simp at e
 | _,_,0,_,.cons r _,e=>by simp at e; subst e; exact ⟨_,rfl,r⟩
 | _,_,i + 1,x,.cons _ t,e=>by
  obtain ⟨u,h1,h2⟩:=A0.get (i:=i) (x:=x) t (by simpa using e);exact ⟨u,by simpa using h1,h2⟩
theorem A0.set {x:V} {u:Value} (r:A1 x u):∀ {xs:List V} {us:List Value} (i:Nat),A0 xs us->A0 (xs.set i x) (us.set i u)
 | _,_,_,.nil=>.nil
 | _,_,0,.cons _ t=>.cons r t
 | _,_,i + 1,.cons q t=>.cons q (A0.set r i t)
theorem A0.append:∀ {xs ys:List V} {us ws:List Value},A0 xs us->A0 ys ws->A0 (xs ++ ys) (us ++ ws)
 | _,_,_,_,.nil,s=>s
 | _,_,_,_,.cons r t,s=>.cons r (A0.append t s)
theorem A0.take:∀ {xs:List V} {us:List Value} (n:Nat),A0 xs us->A0 (xs.take n) (us.take n)
 | _,_,0,_=>.nil
 | _,_,_ + 1,.nil=>.nil
 | _,_,n + 1,.cons r t=>.cons r (A0.take n t)
theorem A0.drop:∀ {xs:List V} {us:List Value} (n:Nat),A0 xs us->A0 (xs.drop n) (us.drop n)
 | _,_,0,r=>r
 | _,_,_ + 1,.nil=>.nil
 | _,_,n + 1,.cons _ t=>A0.drop n t
def GX:Option V->Option Value->Prop
 | some v,some u=>A1 v u
 | none,none=>True
 | _,_=>False
def KV {κ:Type}:List (κ × V)->List (κ × Value)->Prop:=Paired fun (p:κ × V) (q:κ × Value)=>p.1=q.1/\A1 p.2 q.2
def kV:A7->V
 | .inl i=>.int i
 | .inr x=>.str x
inductive HO where
 /-- a list -/
 | lst (xs:List V)
 /-- a tuple (never changes) -/
 | tup (xs:List V)
 /-- a dict whose keys are ints and texts; one whose keys are tuples of ints and texts (the empty one is both) -/
 | dK (kvs:List (A7 × V)) | dT (kvs:List (List A7 × V))
 /-- a set of ints: Aq members,Aq size -/
 | set (S:Int->Bool) (n:Nat)
 /-- an instance of the class at C,Aq dict at dx,Aq attributes -/
 | ins (C dx:Addr) (fs:List (Str × V))
 /-- the dict of the instance at x -/
 | own (x:Addr)
 /-- the dict of an exception -/
 | xd (fs:List (Str × V))
 /-- a bound method,f of x -/
 | met (f x:Addr)
 /-- a range object lo,lo + 1,.. below hi -/
 | rng (lo hi:Int)
 /-- a thing that is known to the object (the script; a dict while a loop walks it): read,never written while it is so -/
 | frz (o:Obj) (u:HO)
 /-- a code VV table -/
 | tbl (ps:Array Value)
 /-- any other thing,by what is true of Aq one object (a def of one's own: SetO a S n:=HO.ext fun h=>..) -/
 | ext (φ:Heap->Prop)
abbrev Hp:=Addr->Option HO
def upd (H:Hp) (a:Addr) (o:HO):Hp:=fun b=>if b=a then some o else H b
theorem Ab {H:Hp} {a:Addr} {o:HO}:upd H a o a=some o:=by unfold upd; rw [if_pos rfl]
theorem Ae {H:Hp} {a b:Addr} {o:HO} (h:b ≠ a):upd H a o b=H b:=by unfold upd; rw [if_neg h]
theorem Kz {H:Hp} {a:Addr} {o u:HO}:upd (upd H a o) a u=upd H a u:=by
 funext b; unfold upd; split <;> rfl
theorem Bz {H:Hp} {a b:Addr} {o u:HO} (h:H a=some o) (h':H b=some u) (d:o ≠ u):a ≠ b:=by
 intro e; subst e; rw [h] at h'; exact d (Zf.inj h')
theorem Ag {H:Hp} {a b:Addr} {o:HO} (h:H a=some o) (h':H b=none):a ≠ b:=by
 intro e; subst e; rw [h] at h'; cases h'
def Np (h:Heap) (a:Addr):Prop:=∀ o,h.get? a=some o->o.dict=none
theorem Np.new {h:Heap} {o:Obj} (hd:o.dict=none) (hf:o.isFreed=false):Np (h.push o) h.objs.size:=fun o' e=>by
 rw [YW _ hf] at e;cases e
 exact hd
section
variable (P:Program) (w:World)
def A5 (H:Hp) (h:Heap) (a:Addr):HO->Prop
 | .lst xs=>xs.length<=sizeLine/\∃ (Aq:List Value) (n:Nat),A0 xs Aq/\h.get? a=some { cls:=.type "list",data:=.seq Aq.toArray n }
 | .tup xs=>xs.length<=sizeLine/\∃ Aq:List Value,A0 xs Aq/\IsTup h a Aq.toArray/\Np h a
 | .dK kvs=>kvs.length<=sizeLine/\(a == sysModules)=false/\∃ vs,KV kvs vs/\h.DictOf (AL P w) a vs
 | .dT kvs=>kvs.length<=sizeLine/\(a == sysModules)=false/\∃ xs:List (List A7 × Addr × Value),
   Paired (fun (p:List A7 × V) (q:List A7 × Addr × Value)=>p.1=q.1/\H q.2.1=some (.tup (p.1.map kV))/\A1 p.2 q.2.2) kvs xs /\
   ∃ o es ep,h.get? a=some o/\o.ExactDict/\o.data=.dict es ep/\es.toList=xs.map (entryOfKey (tupleKind (AL P w)))/\(xs.map (·.1)).Nodup
 | .set S n=>h.SetOf (intKind P w) a S n
 | .ins C dx fs=>H dx=some (.own a)/\fs.length<=1000/\dx ≠ a/\h.get? a=some (bJ C dx) /\
   ∃ mA,h.Ns1 dx mA/\(∀ f,GX (fs.lookup f) (mA f))/\PySem.Within mA (fs.map (·.1))
 | .own _=>∃ o,h.get? a=some o
 | .xd fs=>∃ mA,h.Ns1 a mA/\∀ f,GX (fs.lookup f) (mA f)
 | .rng lo hi=>∃ t u v,h.get? a=some { cls:=.type "range",data:=.fields #[.int lo t,.int hi u,.int 1 v] }
 | .frz o u=>h.get? a=some o/\A5 H h a u
 | .tbl ps=>h.get? a=some { cls:=.none,data:=.fields ps }
 | .met f x=>h.get? a=some (b9 (.ref f) (.ref x))
 | .ext φ=>φ h/\(∃ o,h.get? a=some o)/\∀ h1 h2:Heap,φ h1->(∀ o,h1.get? a=some o->h2.get? a=some o)->φ h2
def FD (H:Hp) (h:Heap):Prop:=∀ a o,H a=some o->A5 P w H h a o
end
section
variable {P:Program} {w:World} {H H':Hp} {h h':Heap} {a:Addr} {o:HO}
theorem A5.lt (x:A5 P w H h a o):a < h.objs.size:=by
 cases o with
 | lst xs=>obtain ⟨_,_,_,_,e⟩:=x; exact YV e
 | tup xs=>obtain ⟨_,_,_,p,_⟩:=x; exact p.lt
 | dK kvs=>obtain ⟨_,_,_,_,o,_,_,e,_⟩:=x; exact YV e
 | dT kvs=>obtain ⟨_,_,_,_,o,_,_,e,_⟩:=x; exact YV e
 | set S n=>obtain ⟨o,_,_,_,e,_⟩:=x; exact YV e
 | ins C dx fs=>obtain ⟨_,_,_,e,_⟩:=x; exact YV e
 | own y=>obtain ⟨_,e⟩:=x; exact YV e
 | xd fs=>obtain ⟨_,⟨_,_,_,e,_⟩,_⟩:=x; exact YV e
 | rng lo hi=>obtain ⟨_,_,_,e⟩:=x; exact YV e
 | frz ob u=>obtain ⟨e,_⟩:=x; exact YV e
 | tbl ps=>exact YV (show h.get? a=some _ from x)
 | met f y=>exact YV (show h.get? a=some _ from x)
 | ext φ=>obtain ⟨_,⟨_,e⟩,_⟩:=x; exact YV e
theorem Paired.mapP {α β:Type} {F G:α->β->Prop}:∀ {Me:List α} {Mc:List β},Paired F Me Mc->(∀ a b,F a b->G a b)->Paired G Me Mc
 | _,_,.nil,_=>.nil
 | _,_,.cons r t,f=>.cons (f _ _ r) (Paired.mapP t f)
theorem A5.stay (x:A5 P w H h a o) (k:∀ b u,(b=a\/H b=some (.own a))->h.get? b=some u->h'.get? b=some u)
  (ho:∀ b,H b=some (.own a)->H' b=some (.own a)) (ht:∀ b xs,H b=some (.tup xs)->H' b=some (.tup xs)):A5 P w H' h' a o:=by
 induction o with
 | lst xs=>obtain ⟨z,Aq,n,r,e⟩:=x; exact ⟨z,Aq,n,r,k _ _ (.inl rfl) e⟩
 | tup xs=>
  obtain ⟨z,Aq,r,⟨ob,e,c⟩,dn⟩:=x;have e':=k _ _ (.inl rfl) e;exact ⟨z,Aq,r,⟨ob,e',c⟩,fun o q=>by rw [e'] at q; cases q; exact dn _ e⟩
 | dK kvs=>obtain ⟨z,y,vs,r,ob,es,ep,e,c⟩:=x; exact ⟨z,y,vs,r,ob,es,ep,k _ _ (.inl rfl) e,c⟩
 | dT kvs=>
  obtain ⟨z,y,xs,r,ob,es,ep,e,c⟩:=x;exact ⟨z,y,xs,Paired.mapP r fun p q z=>⟨z.1,ht _ _ z.2.1,z.2.2⟩,ob,es,ep,k _ _ (.inl rfl) e,c⟩
 | set S n=>obtain ⟨ob,es,ep,t,e,c⟩:=x; exact ⟨ob,es,ep,t,k _ _ (.inl rfl) e,c⟩
 | ins C dx fs=>
  obtain ⟨d,z,ne,e,mA,⟨od,es,ep,e2,c⟩,r⟩:=x;exact ⟨ho _ d,z,ne,k _ _ (.inl rfl) e,mA,⟨od,es,ep,k _ _ (.inr d) e2,c⟩,r⟩
 | own y=>obtain ⟨ob,e⟩:=x; exact ⟨ob,k _ _ (.inl rfl) e⟩
 | xd fs=>obtain ⟨mA,⟨od,es,ep,e,c⟩,r⟩:=x; exact ⟨mA,⟨od,es,ep,k _ _ (.inl rfl) e,c⟩,r⟩
 | rng lo hi=>obtain ⟨t,u,v,e⟩:=x; exact ⟨t,u,v,k _ _ (.inl rfl) e⟩
 | frz ob u ih=>obtain ⟨e,q⟩:=x; exact ⟨k _ _ (.inl rfl) e,ih q⟩
 | tbl ps=>
  have e:h.get? a=some { cls:=.none,data:=.fields ps }:=x;show h'.get? a=some { cls:=.none,data:=.fields ps }
  exact k a _ (.inl rfl) e
 | met f y=>
  have e:h.get? a=some (b9 (.ref f) (.ref y)):=x;show h'.get? a=some (b9 (.ref f) (.ref y))
  exact k a _ (.inl rfl) e
 | ext φ=>obtain ⟨p,⟨o,e⟩,st⟩:=x; exact ⟨st _ _ p fun o q=>k _ _ (.inl rfl) q,⟨o,k _ _ (.inl rfl) e⟩,st⟩
theorem FD.lt (x:FD P w H h) (e:H a=some o):a < h.objs.size:=(x a o e).lt
theorem FD.fresh (x:FD P w H h) (e:h.objs.size<=a):H a=none:=by
 cases q:H a with
 | none=>rfl
 | some u=>exact absurd (YZ (x.lt q) e) (Z5 _)
theorem FD.kept (x:FD P w H h) (k:∀ b u,h.get? b=some u->h'.get? b=some u):FD P w H h':=fun a o e=>
 (x a o e).stay (fun b u _ q=>k b u q) (fun _ q=>q) fun _ _ q=>q
theorem FD.laid (x:FD P w H h) (k:∀ b u,h.get? b=some u->h'.get? b=some u) (hp:h.objs.size<=a) (new:A5 P w (upd H a o) h' a o):FD P w (upd H a o) h':=fun b u e=>by
 have hn:=x.fresh hp;by_cases hb:b=a
 ·subst hb; rw [Ab] at e; cases e; exact new
 ·rw [Ae hb] at e;exact (x b u e).stay (fun c v _ q=>k c v q) (fun c q=>by rw [Ae (Ag q hn)]; exact q) fun c xs q=>by rw [Ae (Ag q hn)]; exact q
end
def Rd (H:Hp) (a:Addr) (u:HO):Prop:=H a=some u\/∃ o,H a=some (.frz o u)
theorem Rd.ok {P:Program} {w:World} {H:Hp} {h:Heap} {a:Addr} {u:HO} (r:Rd H a u) (x:FD P w H h):A5 P w H h a u:=by
 rcases r with r | ⟨o,r⟩
 ·exact x a u r
 ·obtain ⟨_,q⟩:=x a _ r;exact q
def Mut:Option HO->Prop
 | some (.lst _)=>True
 | some (.dK _)=>True
 | some (.dT _)=>True
 | some (.set _ _)=>True
 | some (.ins _ _ _)=>True
 | some (.ext _)=>True
 | _=>False
section
variable {P:Program} {w:World} {H:Hp} {h h':Heap} {x e:Addr} {o':HO}
theorem FD.write (ok:FD P w H h) (mu:Mut (H x)) (he:e=x\/H e=some (.own x)) (k:∀ b u,b ≠ e->h.get? b=some u->h'.get? b=some u) (heo:∃ u,h'.get? e=some u)
  (new:A5 P w (upd H x o') h' x o'):FD P w (upd H x o') h':=fun b u q=>by
 have nown:∀ c y,H c=some (.own y)->c ≠ x:=fun c y r z=>by subst z; rw [r] at mu; exact mu
 have ntup:∀ c xs,H c=some (.tup xs)->c ≠ x:=fun c xs r z=>by subst z; rw [r] at mu; exact mu
 by_cases hb:b=x
 ·subst hb; rw [Ab] at q; cases q; exact new
 ·rw [Ae hb] at q;by_cases hbe:b=e
  ·have q':H b=some (.own x):=by
    rcases he with z | z
    ·exact absurd (hbe.trans z) hb
    ·rw [hbe]; exact z
   rw [q] at q'; cases q';obtain ⟨v,hv⟩:=heo;exact ⟨v,by rw [hbe]; exact hv⟩
  ·refine (ok b u q).stay (fun c v hc r=>k c v ?_ r) (fun c r=>by rw [Ae (nown c b r)]; exact r) fun c xs r=>by rw [Ae (ntup c xs r)]; exact r
   rcases hc with rfl | hc
   ·exact hbe
   ·rintro rfl;rcases he with z | z
    ·exact nown c b hc z
    ·rw [hc] at z; cases z; exact hb rfl
end
structure Un (fs ex:List Addr) (H H':Hp) (h h':Heap):Prop where
 keep:∀ b o,h.get? b=some o->H b=none->b ∉ fs->b ∉ ex->h'.get? b=some o
 slot:∀ b o,h.get? b=some o->H b=none->b ∈ fs->b ∉ ex->∃ sl,h'.get? b=some { o with slots:=sl }
 free:∀ b o,h.get? b=some o->H b=none->b ∉ ex->H' b=none
 there:∀ b o,h.get? b=some o->b ∉ ex->∃ o',h'.get? b=some o'
 tups:∀ b xs,H b=some (.tup xs)->H' b=some (.tup xs)
 frzs:∀ b o u,H b=some (.frz o u)->H' b=some (.frz o u)
 tbls:∀ b ps,H b=some (.tbl ps)->∃ more,H' b=some (.tbl (ps ++ more))
section
variable {fs VC ex Xi:List Addr} {H H1 H2:Hp} {h h1 h2 h':Heap} {a x e:Addr} {o:HO}
theorem Un.any (u:Un fs ex H H1 h h1) {b:Addr} {ob:Obj} (q:h.get? b=some ob) (n:H b=none) (hx:b ∉ ex):∃ sl,h1.get? b=some { ob with slots:=sl }:=by
 by_cases hb:b ∈ fs
 ·exact u.slot b ob q n hb hx
 ·exact ⟨ob.slots,u.keep b ob q n hb hx⟩
theorem Un.kept (k:∀ b u,h.get? b=some u->h'.get? b=some u):Un fs ex H H h h':=
 ⟨fun b ob q _ _ _=>k b ob q,fun b ob q _ _ _=>⟨ob.slots,k b ob q⟩,fun _ _ _ n _=>n,fun b ob q _=>⟨ob,k b ob q⟩,fun _ _ q=>q,fun _ _ _ q=>q,fun _ ps q=>⟨#[],by rw [q]; simp⟩⟩
theorem Un.refl:Un fs ex H H h h:=Un.kept fun _ _ q=>q
theorem Un.laid (k:∀ b u,h.get? b=some u->h'.get? b=some u) (hp:h.objs.size<=a) (hn:H a=none):Un fs ex H (upd H a o) h h' where
 keep:=fun b u q _ _ _=>k b u q
 slot:=fun b u q _ _ _=>⟨u.slots,k b u q⟩
 free:=fun b u q n _=>by rw [Ae (YX (YZ (YV q) hp))]; exact n
 there:=fun b u q _=>⟨u,k b u q⟩
 tups:=fun b xs q=>by rw [Ae (Ag q hn)]; exact q
 frzs:=fun b u xs q=>by rw [Ae (Ag q hn)]; exact q
 tbls:=fun b ps q=>⟨#[],by rw [Ae (Ag q hn),q]; simp⟩
theorem Un.write (mu:Mut (H x)) (he:e=x\/H e=some (.own x)) (k:∀ b u,b ≠ e->h.get? b=some u->h'.get? b=some u) (heo:∃ u,h'.get? e=some u):Un fs ex H (upd H x o) h h':=by
 have hx:∀ b,H b=none->b ≠ x:=fun b n z=>by subst z; rw [n] at mu; exact mu
 have hb:∀ b,H b=none->b ≠ e:=fun b n z=>by
  subst z;rcases he with r | r
  ·exact hx b n r
  ·rw [n] at r; cases r
 have hm:∀ b u,H b=some u->¬ Mut (some u)->b ≠ x:=fun b u q nm z=>by subst z; rw [q] at mu; exact nm mu
 refine ⟨fun b u q n _ _=>k b u (hb b n) q,fun b u q n _ _=>⟨u.slots,k b u (hb b n) q⟩,fun b u q n _=>by rw [Ae (hx b n)]; exact n,fun b u q _=>?_,
  fun b xs q=>by rw [Ae (hm b _ q fun z=>z)]; exact q,fun b u xs q=>by rw [Ae (hm b _ q fun z=>z)]; exact q,fun b ps q=>⟨#[],by rw [Ae (hm b _ q fun z=>z),q]; simp⟩⟩
 by_cases hbe:b=e
 ·subst hbe; exact heo
 ·exact ⟨u,k b u hbe q⟩
end
def trk (h:Heap) (H:Hp):List Addr:=(aq h.objs.size).filter fun a=>(H a).isSome
def Lb (h:Heap) (H:Hp):Heap:=PySem.W.hideAll h (trk h H)
theorem PN (h:Heap) (H:Hp):(Lb h H).objs.size=h.objs.size:=PySem.W.hideAll_size _ _
theorem R7 {h:Heap} {H:Hp} {b:Addr} {o:Obj} (e:h.get? b=some o) (n:H b=none):(Lb h H).get? b=some o:=
 PySem.W.hideAll_get _ e fun hm=>by
  have q:(H b).isSome=true:=(Zx.mp hm).2;rw [n] at q; simp at q
theorem SY {h:Heap} {H:Hp} {b:Addr} {o:Obj} (e:(Lb h H).get? b=some o):h.get? b=some o/\H b=none:=by
 have e':h.get? b=some o:=PySem.W.of_hideAll (trk h H) e;refine ⟨e',?_⟩;cases q:H b with
 | none=>rfl
 | some x=>
  have hm:b ∈ trk h H:=Zx.mpr ⟨aU.mpr (YV e'),by simp [q]⟩;have z:(Lb h H).get? b=none:=PySem.W.hideAll_none (trk h H) hm;rw [z] at e; cases e
def TF (g h:Heap) (L:Addr):List (Addr × Obj):=(aq h.objs.size).filterMap fun a=>if a=L\/(g.get? a).isSome=true then none else (h.get? a).map fun o=>(a,o)
def C6 (g h:Heap) (L d:Addr):List (Addr × Obj):=(TF g h L).filter fun p=>decide (p.1 ≠ d)
structure Mod (K:YL) (mg:Str->Option Value) (base:Heap):Prop where
 kin:K.In base
 glob:base.Ns mainGlobals mg
 blt:∃ mb,base.Ns builtinsNs mb/\∀ x:Str,x ≠ "__name__"->mb x=bootBuiltins x
 nolimit:base.NoLimit
structure Cx where
 prog:Program
 w:World
 K:YL
 mg:Str->Option Value
 base:Heap
 A:Around
 N:List Str
 s₀:Shared
 H₀:Hp
 env:Env
 outer:List Env
 stack:List Env
 ex:List Addr
 fn:Str->Bool
 calm:Bool
 pn:List (Addr × Obj)
 xe:Value->Shared->Prop
def RD (l:List Env):List Addr:=l.filterMap (·.frame)
abbrev Cx.fs (X:Cx):List Addr:=RD X.outer
def Vis (sc:Scope) (x:Str):Prop:=sc.names.lookup x=some .local\/sc.names.lookup x=some .cell\/sc.names.lookup x=some .free
def Vx (sc:Scope) (x:Str):Prop:=sc.names.lookup x=some .local\/sc.names.lookup x=some .cell
def Look (env:Env) (h:Heap) (m:Str->Option Value) (x:Str) (u:Value):Prop:=
 (env.kindOf x=some .local/\m x=some u)\/((env.kindOf x=some .cell\/env.kindOf x=some .free)/\∃ c,env.cells.lookup x=some c/\h.IsCell c (some u))
structure Cx.Ok (X:Cx):Prop where
 mod:Mod X.K X.mg X.base
 kind:X.env.scope.kind=.function
 glob:X.env.globals=mainGlobals
 blt:X.env.builtins=builtinsNs
 above:X.s₀.heap.objs.size<=X.env.locals
 inj:∀ x y c,X.env.cells.lookup x=some c->X.env.cells.lookup y=some c->x=y
 has:∀ x,(X.env.kindOf x=some .cell\/X.env.kindOf x=some .free)->∃ c,X.env.cells.lookup x=some c
 cab:∀ x c,X.fn x=true->X.env.cells.lookup x=some c->X.s₀.heap.objs.size<=c
 hd:X.calm=true->X.A.handled=none
 frames:X.A.frames=some X.stack
 stk:X.stack=X.outer\/(X.stack=X.env :: X.outer/\X.env.frame=some X.env.locals)
 exf:∀ b ∈ X.ex,b ≠ X.env.locals/\∀ x c,X.env.cells.lookup x=some c->c ≠ b
 bs:∀ b o,X.base.get? b=some o->X.s₀.heap.get? b=some o/\X.H₀ b=none
 bsz:X.base.objs.size<=X.s₀.heap.objs.size
 noex:∀ b o,X.base.get? b=some o->b ∉ X.ex
 exfs:∀ b ∈ X.ex,b ∉ X.fs
 funs:X.s₀.heap.FunFrames X.base X.outer
 frf:∀ b ∈ X.fs,X.H₀ b=none
structure An (X:Cx) (pins:List (Addr × Obj)) (σ:List (Option V)) (H:Hp) (s:Shared):Prop where
 ok:X.Ok
 os:s.os=X.s₀.os
 bare:AllBare s.gens
 base:Un X.fs X.ex X.H₀ H X.s₀.heap s.heap
 loc:∃ m,s.heap.Ns X.env.locals m/\∀ (i:Nat) (x:Str) (v:V),X.N[i]? = some x->σ[i]? = some (some v)->Vis X.env.scope x->∃ u,A1 v u/\Look X.env s.heap m x u
 cell:∀ x c,X.env.cells.lookup x=some c->∃ v,s.heap.IsCell c v
 free:H X.env.locals=none
 freeC:∀ x c,X.env.cells.lookup x=some c->H c=none
 pin:∀ p ∈ X.pn ++ pins,s.heap.get? p.1=some p.2/\H p.1=none/\p.1 ≠ X.env.locals/\p.1 ∉ X.fs/\∀ v,p.2.data ≠ .cell v
 hok:FD X.prog X.w H s.heap
 len:σ.length=X.N.length
section
variable {X:Cx} {pins:List (Addr × Obj)} {σ:List (Option V)} {H H':Hp} {s:Shared} {h':Heap}
theorem Cx.Ok.nofr (ok:X.Ok) {b:Addr} {o:Obj} (e:X.base.get? b=some o):b ∉ X.fs:=fun hb=>by
 have:=(ok.funs.mem hb).1;rw [e] at this; cases this
theorem An.bs (I:An X pins σ H s):∀ b o,X.base.get? b=some o->s.heap.get? b=some o/\H b=none:=fun b o e=>
 ⟨I.base.keep b o (I.ok.bs b o e).1 (I.ok.bs b o e).2 (I.ok.nofr e) (I.ok.noex b o e),I.base.free b o (I.ok.bs b o e).1 (I.ok.bs b o e).2 (I.ok.noex b o e)⟩
theorem An.bk (I:An X pins σ H s):∀ b o,X.base.get? b=some o->s.heap.get? b=some o:=fun b o e=>(I.bs b o e).1
theorem An.mod (I:An X pins σ H s):Mod X.K X.mg X.base:=I.ok.mod
theorem An.kIn (I:An X pins σ H s):X.K.In s.heap:=I.ok.mod.kin.keeps I.bk
theorem An.lt (I:An X pins σ H s):X.env.locals < s.heap.objs.size:=let ⟨_,hn,_⟩:=I.loc; hn.lt
theorem An.sz (I:An X pins σ H s):X.s₀.heap.objs.size<=s.heap.objs.size:=Zj I.ok.above (bg I.lt)
theorem An.nofs (I:An X pins σ H s) {a:Addr} (h:s.heap.objs.size<=a):a ∉ X.fs:=fun hb=>by
 obtain ⟨_,o,ho,_⟩:=I.ok.funs.mem hb;exact absurd (YZ (YV ho) (Zj I.sz h)) (Z5 _)
theorem An.cne (I:An X pins σ H s):∀ x c,X.env.cells.lookup x=some c->c ≠ X.env.locals:=fun x c e z=>by
 obtain ⟨v,o,ho,hd⟩:=I.cell x c e;obtain ⟨m,⟨o',es,ep,J2,M0,_⟩,_⟩:=I.loc;rw [z,J2] at ho; cases ho; rw [M0] at hd; cases hd
theorem An.funs (I:An X pins σ H s):s.heap.FunFrames X.base X.outer:=by
 have all:∀ (l:List Env),(∀ b ∈ RD l,b ∈ X.fs)->X.s₀.heap.FunFrames X.base l->s.heap.FunFrames X.base l:=by
  intro l;induction l with
  | nil=>intro _ _; trivial
  | cons env r ih=>
   intro hs hl;obtain ⟨hk,⟨L,o,hf,hn,ho,hd⟩,hr⟩:=hl;have hL:L ∈ X.fs:=hs L (by unfold RD; rw [b7,hf]; exact Zg);obtain ⟨sl,e⟩:=I.base.slot L o ho (I.ok.frf L hL) hL fun z=>I.ok.exfs L z hL
   exact ⟨hk,⟨L,_,hf,hn,e,hd⟩,ih (fun b hb=>hs b (by unfold RD; rw [b7,hf]; exact Ze _ hb)) hr⟩
 exact all X.outer (fun _ hb=>hb) I.ok.funs
theorem An.stack (I:An X pins σ H s):s.heap.FunFrames X.base X.stack:=by
 rcases I.ok.stk with e | ⟨e,hf⟩
 ·rw [e]; exact I.funs
 ·rw [e];obtain ⟨m,hn,_⟩:=I.loc;refine .cons (by rw [I.ok.kind]; decide) hf hn ?_ I.funs;exact Heap.get?_none_of_le (Zj I.ok.bsz I.ok.above)
theorem An.stkSub (I:An X pins σ H s):∀ b ∈ RD X.stack,b ∈ X.env.locals :: X.fs:=fun b hb=>by
 rcases I.ok.stk with e | ⟨e,hf⟩
 ·rw [e] at hb; exact Ze _ hb
 ·rw [e] at hb;unfold RD at hb;rw [b7,hf] at hb;exact hb
theorem An.stkFree (I:An X pins σ H s):∀ b ∈ RD X.stack,H b=none:=fun b hb=>by
 rcases YM.mp (I.stkSub b hb) with e | hb
 ·rw [e]; exact I.free
 ·obtain ⟨_,o,ho,_⟩:=I.ok.funs.mem hb;exact I.base.free b o ho (I.ok.frf b hb) fun z=>I.ok.exfs b z hb
theorem An.step {g':Array GenState} {t':Nat} {d':Drawn} {ch:List Addr} (I:An X pins σ H s)
  (hch:∀ b ∈ ch,(b ∈ X.ex\/X.s₀.heap.objs.size<=b)/\b ≠ X.env.locals/\(∀ x c,X.env.cells.lookup x=some c->c ≠ b)/\∀ p ∈ X.pn ++ pins,p.1 ≠ b)
  (keep:∀ b o,b ≠ X.env.locals->b ∉ X.fs->b ∉ ch->s.heap.get? b=some o->H b=none->h'.get? b=some o)
  (slot:∀ b o,b ≠ X.env.locals->b ∈ X.fs->b ∉ ch->s.heap.get? b=some o->H b=none->∃ sl,h'.get? b=some { o with slots:=sl }) (free:∀ b o,b ∉ ch->s.heap.get? b=some o->H b=none->H' b=none)
  (there:∀ b o,b ∉ ch->s.heap.get? b=some o->∃ o',h'.get? b=some o')
  (tups:∀ b xs,H b=some (.tup xs)->H' b=some (.tup xs)) (frzs:∀ b o u,H b=some (.frz o u)->H' b=some (.frz o u)) (tbls:∀ b ps,H b=some (.tbl ps)->∃ more,H' b=some (.tbl (ps ++ more)))
  (ns:∀ m,s.heap.Ns X.env.locals m->h'.Ns X.env.locals m) (hok:FD X.prog X.w H' h') (hg:AllBare g') :
  An X pins σ H' { s with heap:=h',gens:=g',drawn:=d',toks:=t' }:=by
 have neL:∀ b o,X.s₀.heap.get? b=some o->b ≠ X.env.locals:=fun b o e=>YX (YZ (YV e) I.ok.above)
 have neC:∀ b o,X.s₀.heap.get? b=some o->b ∉ X.ex->b ∉ ch:=fun b o e hx hb=>by
  rcases (hch b hb).1 with z | z
  ·exact hx z
  ·exact absurd (YZ (YV e) z) (Z5 _)
 have cellK:∀ x c,X.env.cells.lookup x=some c->∀ v,s.heap.IsCell c v->h'.IsCell c v:=fun x c e v ⟨o,ho,hd⟩=>by
  have nch:c ∉ ch:=fun z=>(hch c z).2.2.1 x c e rfl
  by_cases hc:c ∈ X.fs
  ·obtain ⟨sl,q⟩:=slot c o (I.cne x c e) hc nch ho (I.freeC x c e);exact ⟨_,q,hd⟩
  ·exact ⟨o,keep c o (I.cne x c e) hc nch ho (I.freeC x c e),hd⟩
 refine ⟨I.ok,I.os,hg,⟨fun b o e n hb hx=>?_,fun b o e n hb hx=>?_,fun b o e n hx=>?_,fun b o e hx=>?_,fun b xs e=>tups b xs (I.base.tups b xs e),fun b o xs e=>frzs b o xs (I.base.frzs b o xs e),fun b ps e=>?_⟩,?_,fun x c e=>?_,?_,fun x c e=>?_,fun p hp=>?_,hok,I.len⟩
 ·exact keep b o (neL b o e) hb (neC b o e hx) (I.base.keep b o e n hb hx) (I.base.free b o e n hx)
 ·obtain ⟨sl,e1⟩:=I.base.slot b o e n hb hx;obtain ⟨Sg,e2⟩:=slot b _ (neL b o e) hb (neC b o e hx) e1 (I.base.free b o e n hx);exact ⟨Sg,e2⟩
 ·obtain ⟨o',e1⟩:=I.base.there b o e hx;exact free b o' (neC b o e hx) e1 (I.base.free b o e n hx)
 ·obtain ⟨o',e1⟩:=I.base.there b o e hx;exact there b o' (neC b o e hx) e1
 ·obtain ⟨m1,e1⟩:=I.base.tbls b ps e;obtain ⟨m2,e2⟩:=tbls b _ e1;exact ⟨m1 ++ m2,by rw [e2,Array.append_assoc]⟩
 ·obtain ⟨m,hn,hl⟩:=I.loc;refine ⟨m,ns m hn,fun i x v e1 e2 e3=>?_⟩;obtain ⟨u,r,l⟩:=hl i x v e1 e2 e3;refine ⟨u,r,?_⟩;rcases l with l | ⟨k,c,e,z⟩
  ·exact .inl l
  ·exact .inr ⟨k,c,e,cellK x c e _ z⟩
 ·obtain ⟨v,z⟩:=I.cell x c e;exact ⟨v,cellK x c e v z⟩
 ·obtain ⟨m,⟨o,_,_,ho,_⟩,_⟩:=I.loc;exact free _ o (fun z=>(hch _ z).2.1 rfl) ho I.free
 ·obtain ⟨v,o,ho,hd⟩:=I.cell x c e;exact free c o (fun z=>(hch c z).2.2.1 x c e rfl) ho (I.freeC x c e)
 ·obtain ⟨e,n,ne,nf,d⟩:=I.pin p hp;have nch:p.1 ∉ ch:=fun z=>(hch p.1 z).2.2.2 p hp rfl
  exact ⟨keep p.1 p.2 ne nf nch e n,free p.1 p.2 nch e n,ne,nf,d⟩
theorem An.un {t':Nat} (I:An X pins σ H s) (u:Un X.fs [] H H' s.heap h') (hok:FD X.prog X.w H' h'):An X pins σ H' { s with heap:=h',toks:=t' }:=by
 obtain ⟨m,⟨o,es,ep,ho,r⟩,_⟩:=id I.loc;obtain ⟨sl,hL⟩:=u.any ho I.free (by simp);exact I.step (g':=s.gens) (d':=s.drawn) (ch:=[]) (fun _ z=>nomatch z) (fun b o _ hb _ e n=>u.keep b o e n hb (by simp)) (fun b o _ hb _ e n=>u.slot b o e n hb (by simp)) (fun b o _ e n=>u.free b o e n (by simp)) (fun b o _ e=>u.there b o e (by simp)) u.tups u.frzs u.tbls (fun m' hm=>by
  obtain ⟨o',Tw,T5,J2,r'⟩:=hm;rw [ho] at J2; cases J2;exact ⟨_,Tw,T5,hL,r'⟩) hok I.bare
theorem An.call {g':Array GenState} {t':Nat} {d':Drawn} {ch:List Addr} (I:An X pins σ H s) (u:Un (RD X.stack) ch H H' s.heap h') (hok:FD X.prog X.w H' h') (hg:AllBare g')
  (hch:∀ b ∈ ch,(b ∈ X.ex\/X.s₀.heap.objs.size<=b)/\b ≠ X.env.locals/\(∀ x c,X.env.cells.lookup x=some c->c ≠ b)/\∀ p ∈ X.pn ++ pins,p.1 ≠ b) :
  An X pins σ H' { s with heap:=h',gens:=g',drawn:=d',toks:=t' }:=by
 obtain ⟨m,⟨o,es,ep,ho,r⟩,_⟩:=id I.loc;obtain ⟨sl,hL⟩:=u.any ho I.free fun z=>(hch _ z).2.1 rfl
 exact I.step (ch:=ch) hch (fun b o hL hb hc e n=>u.keep b o e n (fun z=>(YM.mp (I.stkSub b z)).elim hL hb) hc) (fun b o _ _ hc e n=>u.any e n hc) (fun b o hc e n=>u.free b o e n hc) (fun b o hc e=>u.there b o e hc) u.tups u.frzs u.tbls (fun m' hm=>by
  obtain ⟨o',Tw,T5,J2,r'⟩:=hm;rw [ho] at J2; cases J2;exact ⟨_,Tw,T5,hL,r'⟩) hok hg
theorem An.turned {t':Nat} {it:Addr} (I:An X pins σ H s) (k:∀ b o,b ≠ it->s.heap.get? b=some o->h'.get? b=some o) (hn:H it=none) (hL:it ≠ X.env.locals)
  (h1:it ∈ X.ex\/X.s₀.heap.objs.size<=it) (h2:∀ x c,X.env.cells.lookup x=some c->c ≠ it) (h3:∀ p ∈ X.pn ++ pins,p.1 ≠ it):An X pins σ H { s with heap:=h',toks:=t' }:=by
 have nit:∀ b u,H b=some u->b ≠ it:=fun b u e z=>by rw [z,hn] at e; cases e
 refine I.step (g':=s.gens) (d':=s.drawn) (ch:=[it]) (fun b hb=>?_) (fun b o _ _ hc e _=>k b o (fun z=>hc (by simp [z])) e) (fun b o _ _ hc e _=>⟨o.slots,k b o (fun z=>hc (by simp [z])) e⟩) (fun _ _ _ _ n=>n)
  (fun b o hc e=>⟨o,k b o (fun z=>hc (by simp [z])) e⟩) (fun _ _ e=>e) (fun _ _ _ e=>e) (fun b ps e=>⟨#[],by rw [e]; simp⟩) (fun m hm=>?_) (fun b u e=>?_) I.bare
 ·have e:b=it:=by simpa using hb
  subst e;exact ⟨h1,hL,h2,h3⟩
 ·obtain ⟨o,es,ep,ho,r⟩:=hm;exact ⟨o,es,ep,k _ o (Ne.symm hL) ho,r⟩
 ·refine (I.hok b u e).stay (fun c v hc q=>k c v ?_ q) (fun _ q=>q) fun _ _ q=>q
  rcases hc with z | z
  ·rw [z]; exact nit b u e
  ·exact nit c _ z
theorem An.tok (I:An X pins σ H s) (t:Nat):An X pins σ H { s with toks:=t }:=I.un (h':=s.heap) (t':=t) Un.refl I.hok
theorem An.kept {t':Nat} (I:An X pins σ H s) (k:∀ b u,s.heap.get? b=some u->h'.get? b=some u):An X pins σ H { s with heap:=h',toks:=t' }:=I.un (Un.kept k) (I.hok.kept k)
theorem An.laid {a:Addr} {o:HO} {t':Nat} (I:An X pins σ H s) (k:∀ b u,s.heap.get? b=some u->h'.get? b=some u) (hp:s.heap.objs.size<=a) (new:A5 X.prog X.w (upd H a o) h' a o) :
  An X pins σ (upd H a o) { s with heap:=h',toks:=t' }:=I.un (Un.laid k hp (I.hok.fresh hp)) (I.hok.laid k hp new)
theorem An.write {x e:Addr} {o:HO} {t':Nat} (I:An X pins σ H s) (mu:Mut (H x)) (he:e=x\/H e=some (.own x)) (k:∀ b u,b ≠ e->s.heap.get? b=some u->h'.get? b=some u) (heo:∃ u,h'.get? e=some u)
  (new:A5 X.prog X.w (upd H x o) h' x o):An X pins σ (upd H x o) { s with heap:=h',toks:=t' }:=I.un (Un.write mu he k heo) (I.hok.write mu he k heo new)
theorem An.pins_of {Ui:List (Addr × Obj)} (I:An X pins σ H s) (h:∀ p ∈ Ui,s.heap.get? p.1=some p.2/\H p.1=none/\p.1 ≠ X.env.locals/\p.1 ∉ X.fs/\∀ v,p.2.data ≠ .cell v):An X Ui σ H s:=
 ⟨I.ok,I.os,I.bare,I.base,I.loc,I.cell,I.free,I.freeC,fun p hp=>(Zl.mp hp).elim (fun z=>I.pin p (ZN _ z)) (h p),I.hok,I.len⟩
theorem IA {N:List Str} (hN:N.Nodup) {i j:Nat} {x:Str} (a:N[i]? = some x) (b:N[j]? = some x):i=j:=by
 obtain ⟨h1,e1⟩:=YQ.mp a;obtain ⟨h2,e2⟩:=YQ.mp b;exact (bN hN).mp (e1.trans e2.symm)
theorem EU {M:Model} {A:Around} {E:Value->Shared->Prop} {i:Nat} {x:Str} {v:V} {u:Value} {Q:Unit->Shared->Prop} (I:An X pins σ H s) (hN:X.N.Nodup) (hi:X.N[i]? = some x) (hx:Vx X.env.scope x) (r:A1 v u)
  (h:∀ s',An X pins (σ.set i (some v)) H s'->(∃ a,Heap.SameBut a s.heap s'.heap/\(a=X.env.locals\/X.env.cells.lookup x=some a))->Q () s') (hf:X.fn x=true\/X.env.scope.names.lookup x=some .local:=by first | exact .inl rfl | exact .inr rfl | assumption):wpAny M A (storeName X.env x u) Q E s:=by
 obtain ⟨m,hn,hl⟩:=id I.loc;have hcls:(X.env.scope.kind == .class || (X.env.scope.kind == .module && X.env.locals != X.env.globals))=false:=by rw [I.ok.kind]; rfl
 have hiσ:i < σ.length:=by rw [I.len]; exact (YQ.mp hi).1
 have cne:=I.cne;have tracked:∀ {a:Addr} {h':Heap},(∃ o,s.heap.get? a=some o/\H a=none)->Heap.SameBut a s.heap h'->FD X.prog X.w H h':=fun {a h'} ha hs b ob e=>by
  obtain ⟨_,_,hfree⟩:=ha;refine (I.hok b ob e).stay (fun c w' hc q=>(hs.2 c ?_).trans q) (fun _ q=>q) fun _ _ q=>q
  rintro rfl;rcases hc with rfl | hc
  ·rw [hfree] at e; cases e
  ·rw [hfree] at hc; cases hc
 rcases hx with hk | hk
 ·refine wpAny_storeName_local hk hn (fun h' Xc hs=>?_) hcls;obtain ⟨oL,_,_,hoL,_⟩:=id hn;refine h _ ⟨I.ok,I.os,I.bare,⟨fun b o e n hb hx=>?_,fun b o e n hb hx=>?_,I.base.free,fun b o e hx=>?_,I.base.tups,I.base.frzs,I.base.tbls⟩,⟨_,Xc,fun j y v' e1 e2 e3=>?_⟩,fun y c e=>?_,I.free,I.freeC,fun p hp=>?_,tracked ⟨oL,hoL,I.free⟩ hs,by simpa using I.len⟩ ⟨_,hs,.inl rfl⟩
  ·exact (hs.2 b (YX (YZ (YV e) I.ok.above))).trans (I.base.keep b o e n hb hx)
  ·obtain ⟨sl,e1⟩:=I.base.slot b o e n hb hx;exact ⟨sl,(hs.2 b (YX (YZ (YV e) I.ok.above))).trans e1⟩
  ·obtain ⟨o',e1⟩:=I.base.there b o e hx;exact ⟨o',(hs.2 b (YX (YZ (YV e) I.ok.above))).trans e1⟩
  ·by_cases hj:j=i
   ·subst hj;rw [hi] at e1; cases e1;rw [cq hiσ] at e2;cases e2
    exact ⟨u,r,.inl ⟨hk,by simp⟩⟩
   ·rw [cD (Ne.symm hj)] at e2;obtain ⟨u',r',q⟩:=hl j y v' e1 e2 e3;refine ⟨u',r',?_⟩;rcases q with ⟨k,e⟩ | ⟨k,c,e,z⟩
    ·refine .inl ⟨k,?_⟩;have:y ≠ x:=fun e=>hj (IA hN e1 (e ▸ hi))
     simp [this,e]
    ·exact .inr ⟨k,c,e,z.sameBut hs (cne y c e)⟩
  ·obtain ⟨w',z⟩:=I.cell y c e;exact ⟨w',z.sameBut hs (cne y c e)⟩
  ·obtain ⟨e,n,ne,nf,d⟩:=I.pin p hp;exact ⟨(hs.2 p.1 ne).trans e,n,ne,nf,d⟩
 ·have hfn:X.fn x=true:=by
   rcases hf with z | z
   ·exact z
   ·rw [z] at hk; cases hk
  obtain ⟨c,hc⟩:=I.ok.has x (.inl hk);obtain ⟨w',z⟩:=I.cell x c hc;refine wpAny_storeName_cell I.ok.kind hk hc z (fun h' HS hs=>?_);obtain ⟨oc,hoc,hocd⟩:=id z;refine h { s with heap:=h' } ⟨I.ok,I.os,I.bare,⟨fun b o e n hb hx=>?_,fun b o e n hb hx=>?_,I.base.free,fun b o e hx=>?_,I.base.tups,I.base.frzs,I.base.tbls⟩,⟨m,hn.sameBut hs (Ne.symm (cne x c hc)),fun j y v' e1 e2 e3=>?_⟩,fun y c' e=>?_,I.free,I.freeC,fun p hp=>?_,tracked ⟨oc,hoc,I.freeC x c hc⟩ hs,by simpa using I.len⟩ ⟨c,hs,.inr hc⟩
  ·exact (hs.2 b (YX (YZ (YV e) (I.ok.cab x c hfn hc)))).trans (I.base.keep b o e n hb hx)
  ·obtain ⟨sl,e1⟩:=I.base.slot b o e n hb hx;exact ⟨sl,(hs.2 b (YX (YZ (YV e) (I.ok.cab x c hfn hc)))).trans e1⟩
  ·obtain ⟨o',e1⟩:=I.base.there b o e hx;exact ⟨o',(hs.2 b (YX (YZ (YV e) (I.ok.cab x c hfn hc)))).trans e1⟩
  ·by_cases hj:j=i
   ·subst hj;rw [hi] at e1; cases e1;rw [cq hiσ] at e2;cases e2
    exact ⟨u,r,.inr ⟨.inl hk,c,hc,HS⟩⟩
   ·rw [cD (Ne.symm hj)] at e2;obtain ⟨u',r',q⟩:=hl j y v' e1 e2 e3;refine ⟨u',r',?_⟩;rcases q with q | ⟨k,c',e,z'⟩
    ·exact .inl q
    ·refine .inr ⟨k,c',e,z'.sameBut hs ?_⟩;rintro rfl;exact hj (IA hN e1 (I.ok.inj _ _ _ e hc ▸ hi))
  ·by_cases hcc:c'=c
   ·subst hcc; exact ⟨_,HS⟩
   ·obtain ⟨w2,z2⟩:=I.cell y c' e;exact ⟨w2,z2.sameBut hs hcc⟩
  ·obtain ⟨e,n,ne,nf,d⟩:=I.pin p hp;refine ⟨(hs.2 p.1 ?_).trans e,n,ne,nf,d⟩;intro q;rw [q,hoc] at e;have q':oc=p.2:=Zf.inj e;exact d w' (by rw [<-q']; exact hocd)
theorem L9 {M:Model} {A:Around} {E:Value->Shared->Prop} {i:Nat} {x:Str} {v:V} {u:Value} {Q:Unit->Shared->Prop} (I:An X pins σ H s) (hN:X.N.Nodup) (hi:X.N[i]? = some x) (hx:Vx X.env.scope x) (r:A1 v u)
  (h:∀ s',An X pins (σ.set i (some v)) H s'->Q () s') (hf:X.fn x=true\/X.env.scope.names.lookup x=some .local:=by first | exact .inl rfl | exact .inr rfl | assumption):wpAny M A (storeName X.env x u) Q E s:=
 EU I hN hi hx r (fun s' I' _=>h s' I') hf
theorem An.call' {s':Shared} {ch:List Addr} (I:An X pins σ H s) (ho:s'.os=s.os) (u:Un (RD X.stack) ch H H' s.heap s'.heap) (hok:FD X.prog X.w H' s'.heap) (hg:AllBare s'.gens)
  (hch:∀ b ∈ ch,(b ∈ X.ex\/X.s₀.heap.objs.size<=b)/\b ≠ X.env.locals/\(∀ x c,X.env.cells.lookup x=some c->c ≠ b)/\∀ p ∈ X.pn ++ pins,p.1 ≠ b):An X pins σ H' s':=by
 obtain ⟨h',g',d',t',o'⟩:=s';have e:o'=s.os:=ho;subst e;exact I.call (g':=g') (t':=t') (d':=d') u hok hg hch
end
abbrev XK:=Value->Option Addr->Hp->Prop
abbrev St:=List (Option V)
abbrev VK:=V->Hp->Prop
abbrev TE:=St->Hp->VK->Prop
abbrev TT:=St->Hp->(Bool->Hp->Prop)->Prop
abbrev TA:=St->Hp->(List V->Hp->Prop)->Prop
structure Ex where
 nx:St->Hp->Prop
 rt:VK
 bk:St->Hp->Prop:=fun _ _=>False
 ct:St->Hp->Prop:=fun _ _=>False
abbrev TS:=Ex->St->Hp->Prop
def EP (X:Cx) (pins:List (Addr × Obj)) (σ:St) (Q:VK) (u:Value) (s':Shared):Prop:=∃ v H',An X pins σ H' s'/\A1 v u/\Q v H'
def TP (X:Cx) (pins:List (Addr × Obj)) (σ:St) (Q:Bool->Hp->Prop) (b:Bool) (s':Shared):Prop:=∃ H',An X pins σ H' s'/\Q b H'
def AP (X:Cx) (pins:List (Addr × Obj)) (σ:St) (Q:List V->Hp->Prop) (us:List Value) (s':Shared):Prop:=∃ vs H',An X pins σ H' s'/\A0 vs us/\Q vs H'
def SP (X:Cx) (pins:List (Addr × Obj)) (D:Ex) (f:Flow) (s':Shared):Prop:=
 match f with
 | .next=>∃ Aw H',An X pins Aw H' s'/\D.nx Aw H'
 | .brk=>∃ Aw H',An X pins Aw H' s'/\D.bk Aw H'
 | .cont=>∃ Aw H',An X pins Aw H' s'/\D.ct Aw H'
 | .ret u=>∃ v Aw H',An X pins Aw H' s'/\A1 v u/\D.rt v H'
def PE (X:Cx) (e:Expr) (t:TE):Prop:=
 ∀ ⦃pins:List (Addr × Obj)⦄ (s:Shared) (σ:St) (H:Hp) (Q:VK),An X pins σ H s->t σ H Q->wpAny (model X.prog X.w) X.A (eval e X.env) (EP X pins σ Q) X.xe s
def PT (X:Cx) (e:Expr) (t:TT):Prop:=
 ∀ ⦃pins:List (Addr × Obj)⦄ (s:Shared) (σ:St) (H:Hp) (Q:Bool->Hp->Prop),An X pins σ H s->t σ H Q->wpAny (model X.prog X.w) X.A (isTrue e X.env (eval e X.env)) (TP X pins σ Q) X.xe s
def PW (X:Cx) (e:Expr) (t:TT):Prop:=
 ∀ ⦃whole:Sem Value⦄ (pins:List (Addr × Obj)) (s:Shared) (σ:St) (H:Hp) (Q:Bool->Hp->Prop),An X pins σ H s->t σ H Q->wpAny (model X.prog X.w) X.A (isTrue e X.env whole) (TP X pins σ Q) X.xe s
theorem PW.pt {X:Cx} {e:Expr} {t:TT} (h:PW X e t):PT X e t:=@h _
def PA (X:Cx) (es:List Expr) (t:TA):Prop:=
 ∀ ⦃pos:Pos⦄ (pins:List (Addr × Obj)) (s:Shared) (σ:St) (H:Hp) (Q:List V->Hp->Prop),An X pins σ H s->t σ H Q->wpAny (model X.prog X.w) X.A (spliced (backTo pos (starEach es X.env))) (AP X pins σ Q) X.xe s
def PS (X:Cx) (st:Stmt) (t:TS):Prop:=
 ∀ ⦃pins:List (Addr × Obj)⦄ (s:Shared) (σ:St) (H:Hp) (D:Ex),An X pins σ H s->t D σ H->wpAny (model X.prog X.w) X.A (exec st X.env) (SP X pins D) X.xe s
def Mx (X:Cx) (st:List Stmt) (t:TS):Prop:=
 ∀ ⦃pins:List (Addr × Obj)⦄ (s:Shared) (σ:St) (H:Hp) (D:Ex),An X pins σ H s->t D σ H->wpAny (model X.prog X.w) X.A (execs st X.env) (SP X pins D) X.xe s
theorem Bj {α:Type} {t:Sem α} {Q Q':α->Shared->Prop} {M:Model} {A:Around} {E:Value->Shared->Prop} {s:Shared} (h:wpAny M A t Q E s) (hQ:∀ a s,Q a s->Q' a s):wpAny M A t Q' E s:=wpAny_mono h hQ fun _ _ x=>x
section
variable {X:Cx}
def S3 (i:Nat):TE:=fun σ H Q=>∃ v,σ[i]? = some (some v)/\Q v H
def tC (v:V):TE:=fun _ H Q=>Q v H
theorem UN {i:Nat} {x:Str} {pos:Pos} (hN:X.N[i]? = some x) (hv:Vis X.env.scope x) (hd:(x == ("__debug__":Str))=false:=by decide) (hcd:(x == ("__classdict__":Str))=false:=by decide):PE X (.Name x pos) (S3 i):=by
 intro pins s σ H Q I h;obtain ⟨v,e,h⟩:=h;obtain ⟨m,hn,hl⟩:=I.loc;obtain ⟨u,r,l⟩:=hl i x v hN e hv;have fin:EP X pins σ Q u s:=⟨v,H,I,r,h⟩
 rcases l with ⟨hk,hm⟩ | ⟨hk,c,hc,hcell⟩
 ·exact wpAny_Name (wpAny_loadName_local I.ok.kind hk hn hm fin) hd
 ·rcases hk with hk | hk
  ·exact wpAny_Name (wpAny_loadName_cell I.ok.kind hk hc hcell fin) hd
  ·exact wpAny_Name (wpAny_loadName_free I.ok.kind hk hc hcell fin hcd) hd
theorem Ah {i j pos}:PE X (.Constant (.int i) j pos) (tC (.int i)):=fun _ _ _ H _ I h=>wpAny_Constant_int ⟨.int i,H,I.tok _,⟨_,rfl⟩,h⟩
theorem FW {b j pos}:PE X (.Constant (.bool b) j pos) (tC (.bl b)):=fun _ _ _ H _ I h=>Constant_bool ⟨.bl b,H,I,rfl,h⟩
theorem KI {j pos}:PE X (.Constant .none j pos) (tC .non):=fun _ _ _ H _ I h=>Constant_none ⟨.non,H,I,rfl,h⟩
theorem C7 {x j pos}:PE X (.Constant (.str x) j pos) (tC (.str x)):=fun _ _ _ H _ I h=>Calls.Constant_str ⟨.str x,H,I.tok _,⟨_,rfl⟩,h⟩
def Gl (X:Cx) (x:Str):Prop:=X.env.kindOf x=some .globalImplicit
theorem Ol {E:Value->Shared->Prop} {pins:List (Addr × Obj)} {s:Shared} {σ:St} {H:Hp} {x:Str} {u:Value} {pos:Pos} {Q:Value->Shared->Prop} (I:An X pins σ H s) (hg:Gl X x) (hm:X.mg x=some u) (h:Q u s)
  (hd:(x == ("__debug__":Str))=false:=by decide):wpAny (model X.prog X.w) X.A (eval (.Name x pos) X.env) Q E s:=
 Calls.Name_function_global I.ok.kind hg (Calls.loadGlobal_global (by rw [I.ok.glob]; exact I.mod.glob.keeps I.bk) hm h) hd
theorem GB {E:Value->Shared->Prop} {pins:List (Addr × Obj)} {s:Shared} {σ:St} {H:Hp} {x:Str} {u:Value} {pos:Pos} {Q:Value->Shared->Prop} (I:An X pins σ H s) (hg:Gl X x) (hm:X.mg x=none) (hv:bootBuiltins x=some u) (h:Q u s)
  (hn:x ≠ "__name__":=by decide) (hd:(x == ("__debug__":Str))=false:=by decide):wpAny (model X.prog X.w) X.A (eval (.Name x pos) X.env) Q E s:=by
 obtain ⟨mb,h1,h2⟩:=I.mod.blt;exact Calls.Name_function_global I.ok.kind hg (Calls.loadGlobal_builtin (by rw [I.ok.glob]; exact I.mod.glob.keeps I.bk) hm (by rw [I.ok.blt]; exact h1.keeps I.bk) ((h2 x hn).trans hv) h) hd
theorem SQ {x:Str} {v:V} {u:Value} {pos:Pos} (hg:Gl X x) (hm:X.mg x=some u) (r:A1 v u) (hd:(x == ("__debug__":Str))=false:=by decide):PE X (.Name x pos) (tC v):=
 fun _ _ _ H _ I h=>Ol I hg hm ⟨v,H,I,r,h⟩ hd
theorem NZ {x:Str} {v:V} {u:Value} {pos:Pos} (hg:Gl X x) (hm:X.mg x=none) (hv:bootBuiltins x=some u) (r:A1 v u) (hn:x ≠ "__name__":=by decide) (hd:(x == ("__debug__":Str))=false:=by decide):PE X (.Name x pos) (tC v):=
 fun _ _ _ H _ I h=>GB I hg hm hv ⟨v,H,I,r,h⟩ hn hd
variable {a b:Expr} {ta tb:TE} {pos:Pos}
def PC (X:Cx) (op:CmpOp) (a b:Expr) (t:TE):Prop:=
 ∀ ⦃pins:List (Addr × Obj)⦄ (s:Shared) (σ:St) (H:Hp) (Q:VK),An X pins σ H s->t σ H Q ->
  wpAny (model X.prog X.w) X.A (eval a X.env) (fun v AK=>wpAny (model X.prog X.w) X.A (eval b X.env) (fun u Eu=>wpAny (model X.prog X.w) X.A (compareOp op v u) (EP X pins σ Q) X.xe Eu) X.xe AK) X.xe s
theorem LX (b:Expr) {op:CmpOp} (h:op ≠ .In) (h2:op ≠ .NotIn):behindInMarks op b=false:=by
 have e1:(op == CmpOp.In)=false:=by cases op <;> first | rfl | exact absurd rfl h
 have e2:(op == CmpOp.NotIn)=false:=by cases op <;> first | rfl | exact absurd rfl h2
 cases b <;> simp [behindInMarks,e1,e2]
def tIsN (ta:TE):TE:=fun σ H Q=>ta σ H fun x H1=>Q (.bl (decide (x=.non))) H1
def tNotN (ta:TE):TE:=fun σ H Q=>ta σ H fun x H1=>Q (.bl (!decide (x=.non))) H1
theorem A1.none_iff {x:V} {v:Value} (r:A1 x v):(v == Value.none)=decide (x=.non):=by
 cases x with
 | non=>cases r; rfl
 | bl _=>cases r; rfl
 | int _=>obtain ⟨t,rfl⟩:=r; rfl
 | str _=>obtain ⟨t,rfl⟩:=r; rfl
 | byt _=>obtain ⟨t,rfl⟩:=r; rfl
 | flt _=>obtain ⟨t,rfl⟩:=r; rfl
 | ref _=>cases r; rfl
 | ty _=>cases r; rfl
theorem KJ {j pos'} (ha:PE X a ta):PC X .Is a (.Constant .none j pos') (tIsN ta):=by
 intro pins s σ H Q I h;refine Bj (ha (pins:=pins) s σ H _ I h) fun v s1 ⟨x,H1,I1,r1,q1⟩=>?_
 exact Constant_none (is_none_gen ⟨.bl _,H1,I1,by rw [r1.none_iff]; rfl,q1⟩)
theorem SR {j pos'} (ha:PE X a ta):PC X .IsNot a (.Constant .none j pos') (tNotN ta):=by
 intro pins s σ H Q I h;refine Bj (ha (pins:=pins) s σ H _ I h) fun v s1 ⟨x,H1,I1,r1,q1⟩=>?_
 exact Constant_none (isnot_none_gen ⟨.bl _,H1,I1,by rw [r1.none_iff]; rfl,q1⟩)
def tB (t:TE):TT:=fun σ H Q=>t σ H fun x H1=>∃ c,x=.bl c/\Q c H1
theorem MP {op:CmpOp} {t:TE} (h:PC X op a b t) (h1:behindInMarks op b=false:=by first | exact LX _ (by decide) (by decide) | rfl):PE X (.Compare a [op] [b] pos) t:=fun pins s σ H Q I hw=>wpAny_Compare1 (h (pins:=pins) s σ H Q I hw) h1
theorem Im {op:CmpOp} {t:TE} (h:PC X op a b t) (h1:behindInMarks op b=false:=by first | exact LX _ (by decide) (by decide) | rfl):PT X (.Compare a [op] [b] pos) (tB t):=by
 intro pins s σ H Q I hw;refine wpAny_isTrue_Compare1 (Bj (h (pins:=pins) s σ H _ I hw) fun v s1 h1=>Bj h1 fun u s2 h2=>Bj h2 fun c s3 ⟨x,H1,I1,r1,q1⟩=>?_) h1;obtain ⟨d,rfl,q⟩:=q1;cases r1
 exact wpAny_truthy_bool ⟨H1,I1,q⟩
theorem G1 {e:Expr} {t:TE} (h:PE X e t) (he:∀ whole,isTrue e X.env whole=(do let v <- whole; standAt e.pos; holding [v] (truthy v)):=by intro _; rfl):PT X e (tB t):=by
 intro pins s σ H Q I hw;refine isTrue_plain (Bj (h (pins:=pins) s σ H _ I hw) fun v s1 ⟨x,H1,I1,r1,q1⟩=>?_) (he _);obtain ⟨d,rfl,q⟩:=q1;cases r1
 exact wpAny_truthy_bool ⟨H1,I1,q⟩
variable {tA WM:TT} {C6:List Expr}
def tAnd (t u:TT):TT:=fun σ H Q=>t σ H fun c H1=>if c=true then u σ H1 Q else Q false H1
def tOr (t u:TT):TT:=fun σ H Q=>t σ H fun c H1=>if c=true then Q true H1 else u σ H1 Q
def tNot (t:TT):TT:=fun σ H Q=>t σ H fun c H1=>Q (!c) H1
theorem NT (ha:PT X a tA):PW X (.BoolOp .And [a] pos) tA:=by
 intro wh pins s σ H Q I h;refine isTrue_and (Bj (ha (pins:=pins) s σ H Q I h) fun c s1 e=>?_);cases c with
 | true=>exact isTrue_and_nil e
 | false=>exact e
theorem G0 (ha:PT X a tA):PW X (.BoolOp .Or [a] pos) tA:=by
 intro wh pins s σ H Q I h;refine isTrue_or (Bj (ha (pins:=pins) s σ H Q I h) fun c s1 e=>?_);cases c with
 | false=>exact isTrue_or_nil e
 | true=>exact e
theorem QV (ha:PT X a tA) (hb:PW X (.BoolOp .And (b :: C6) pos) WM):PW X (.BoolOp .And (a :: b :: C6) pos) (tAnd tA WM):=by
 intro wh pins s σ H Q I h;refine isTrue_and (Bj (ha (pins:=pins) s σ H _ I h) fun c s1 ⟨H1,I1,q1⟩=>?_);cases c with
 | true=>exact hb (whole:=wh) (pins:=pins) s1 σ H1 Q I1 q1
 | false=>exact ⟨H1,I1,q1⟩
theorem JT (ha:PT X a tA) (hb:PW X (.BoolOp .Or (b :: C6) pos) WM):PW X (.BoolOp .Or (a :: b :: C6) pos) (tOr tA WM):=by
 intro wh pins s σ H Q I h;refine isTrue_or (Bj (ha (pins:=pins) s σ H _ I h) fun c s1 ⟨H1,I1,q1⟩=>?_);cases c with
 | true=>exact ⟨H1,I1,q1⟩
 | false=>exact hb (whole:=wh) (pins:=pins) s1 σ H1 Q I1 q1
theorem F1 (ha:PT X a tA):PT X (.UnaryOp .Not a pos) (tNot tA):=by
 intro pins s σ H Q I h;exact isTrue_not (ha (pins:=pins) s σ H (fun c H1=>Q (!c) H1) I h)
def tAndV (ta tb:TE):TE:=fun σ H Q=>ta σ H fun x H1=>∃ c,x=.bl c/\if c=true then tb σ H1 Q else Q (.bl false) H1
theorem MO {op} {t:TE} (h:PE X a t):PE X (.BoolOp op [a] pos) t:=fun pins s σ H Q I hw=>BoolOp_one (h (pins:=pins) s σ H Q I hw)
theorem MQ (ha:PE X a ta) (hb:PE X (.BoolOp .And (b :: C6) pos) tb):PE X (.BoolOp .And (a :: b :: C6) pos) (tAndV ta tb):=by
 intro pins s σ H Q I h;refine BoolOp_and (Bj (ha (pins:=pins) s σ H _ I h) fun v s1 ⟨x,H1,I1,r1,q1⟩=>?_);obtain ⟨c,rfl,q1⟩:=q1;cases r1
 refine wpAny_truthy_bool ?_;cases c with
 | true=>exact hb (pins:=pins) s1 σ H1 Q I1 q1
 | false=>exact ⟨.bl false,H1,I1,rfl,q1⟩
def tIf (t:TT) (ta tb:TE):TE:=fun σ H Q=>t σ H fun c H1=>if c=true then ta σ H1 Q else tb σ H1 Q
theorem Ip {c:Expr} (hc:PT X c tA) (ha:PE X a ta) (hb:PE X b tb):PE X (.IfExp c a b pos) (tIf tA ta tb):=by
 intro pins s σ H Q I h;refine wpAny_IfExp (Bj (hc (pins:=pins) s σ H _ I h) fun d s1 ⟨H1,I1,q1⟩=>?_);cases d with
 | true=>exact ha (pins:=pins) s1 σ H1 Q I1 q1
 | false=>exact hb (pins:=pins) s1 σ H1 Q I1 q1
end
def AD (K:YL) (H:Hp) (a:Addr) (xs:List V):Prop:=
 Rd H a (.lst xs) \/
  ∃ (o:Obj) (Aq:Array Value) (n:Nat),K.lookup a=some o/\o.cls=.type "list"/\o.dict=none/\o.data=.seq Aq n/\Aq.size<=sizeLine/\A0 xs Aq.toList
def AI (K:YL) (H:Hp) (a:Addr) (xs:List V):Prop:=
 Rd H a (.tup xs) \/
  ∃ (o:Obj) (Aq:Array Value) (n:Nat),K.lookup a=some o/\o.cls=.type "tuple"/\o.data=.seq Aq n/\Aq.size<=sizeLine/\A0 xs Aq.toList
def absV:Value->Option V
 | .none=>some .non
 | .bool b=>some (.bl b)
 | .int i _=>some (.int i)
 | .str x _=>some (.str x)
 | .bytes b _=>some (.byt b)
 | .float b _=>some (.flt b)
 | .ref a=>some (.ref a)
 | .type n=>some (.ty n)
 | _=>none
theorem A1.abs {x:V} {u:Value} (r:A1 x u):absV u=some x:=by
 cases x with
 | non=>cases r; rfl
 | bl _=>cases r; rfl
 | int _=>obtain ⟨t,rfl⟩:=r; rfl
 | str _=>obtain ⟨t,rfl⟩:=r; rfl
 | byt _=>obtain ⟨t,rfl⟩:=r; rfl
 | flt _=>obtain ⟨t,rfl⟩:=r; rfl
 | ref _=>cases r; rfl
 | ty _=>cases r; rfl
theorem A1.inj {x y:V} {u:Value} (r:A1 x u) (q:A1 y u):x=y:=Zf.inj (r.abs.symm.trans q.abs)
theorem A0.inj:∀ {xs ys:List V} {us:List Value},A0 xs us->A0 ys us->xs=ys
 | _,_,_,.nil,.nil=>rfl
 | _,_,_,.cons r t,.cons r' t'=>by rw [r.inj r',A0.inj t t']
section
variable {X:Cx} {pins:List (Addr × Obj)} {σ:St} {H:Hp} {s:Shared} {a:Addr} {xs ys:List V}
theorem AD.of {K:YL} (h:H a=some (.lst xs)):AD K H a xs:=.inl (.inl h)
theorem AI.of {K:YL} (h:H a=some (.tup xs)):AI K H a xs:=.inl (.inl h)
theorem An.list (I:An X pins σ H s) (h:AD X.K H a xs):∃ Aq:List Value,A0 xs Aq/\PlainL s.heap a Aq.toArray/\xs.length<=sizeLine:=by
 rcases h with h | ⟨o,Aq,n,hk,hc,hd,hs,hz,r⟩
 ·obtain ⟨z,Aq,n,r,e⟩:=h.ok I.hok;exact ⟨Aq,r,⟨_,n,e,rfl,rfl,rfl⟩,z⟩
 ·refine ⟨Aq.toList,r,⟨o,n,I.kIn a o hk,hc,hd,by simpa using hs⟩,?_⟩;have e:=r.length;simp only [Zv] at e;lia
theorem An.tuple (I:An X pins σ H s) (h:AI X.K H a xs):∃ Aq:List Value,A0 xs Aq/\IsTup s.heap a Aq.toArray/\xs.length<=sizeLine:=by
 rcases h with h | ⟨o,Aq,n,hk,hc,hs,hz,r⟩
 ·obtain ⟨z,Aq,r,p,_⟩:=h.ok I.hok;exact ⟨Aq,r,p,z⟩
 ·refine ⟨Aq.toList,r,⟨o,I.kIn a o hk,hc,n,by simpa using hs⟩,?_⟩;have e:=r.length;simp only [Zv] at e;lia
theorem An.list_inj (I:An X pins σ H s) (h:AD X.K H a xs) (h':AD X.K H a ys):xs=ys:=by
 obtain ⟨Aq,r,⟨o,n,e,_,_,d⟩,_⟩:=I.list h;obtain ⟨its',r',⟨o',n',e',_,_,d'⟩,_⟩:=I.list h';rw [e] at e'; cases e';rw [d] at d';injection d' with d1 _;have:Aq=its':=by simpa using congrArg bE d1
 subst this;exact r.inj r'
theorem An.tuple_inj (I:An X pins σ H s) (h:AI X.K H a xs) (h':AI X.K H a ys):xs=ys:=by
 obtain ⟨Aq,r,⟨o,e,_,n,d⟩,_⟩:=I.tuple h;obtain ⟨its',r',⟨o',e',_,n',d'⟩,_⟩:=I.tuple h';rw [e] at e'; cases e';rw [d] at d';injection d' with d1 _;have:Aq=its':=by simpa using congrArg bE d1
 subst this;exact r.inj r'
end
abbrev Cx.wish (X:Cx) (E:Value->Shared->Prop):Cx:={ X with xe:=E }
abbrev Cx.nox (X:Cx):Cx:=X.wish fun _ _=>False
theorem Cx.Ok.wish {X:Cx} (ok:X.Ok) (E:Value->Shared->Prop):(X.wish E).Ok:=
 ⟨ok.mod,ok.kind,ok.glob,ok.blt,ok.above,ok.inj,ok.has,ok.cab,ok.hd,ok.frames,ok.stk,ok.exf,ok.bs,ok.bsz,ok.noex,ok.exfs,ok.funs,ok.frf⟩
theorem Cx.Ok.unwish {X:Cx} {E:Value->Shared->Prop} (ok:(X.wish E).Ok):X.Ok:=
 ⟨ok.mod,ok.kind,ok.glob,ok.blt,ok.above,ok.inj,ok.has,ok.cab,ok.hd,ok.frames,ok.stk,ok.exf,ok.bs,ok.bsz,ok.noex,ok.exfs,ok.funs,ok.frf⟩
section
variable {X:Cx} {pins:List (Addr × Obj)} {σ:St} {H:Hp} {s:Shared} {E:Value->Shared->Prop}
theorem An.wish (I:An X pins σ H s) (E:Value->Shared->Prop):An (X.wish E) pins σ H s:=⟨I.ok.wish E,I.os,I.bare,I.base,I.loc,I.cell,I.free,I.freeC,I.pin,I.hok,I.len⟩
theorem An.unwish (I:An (X.wish E) pins σ H s):An X pins σ H s:=⟨I.ok.unwish,I.os,I.bare,I.base,I.loc,I.cell,I.free,I.freeC,I.pin,I.hok,I.len⟩
theorem SP.unwish {D:Ex} {f:Flow} {s':Shared} (h:SP (X.wish E) pins D f s'):SP X pins D f s':=by
 cases f with
 | next=>obtain ⟨Aw,H',I,q⟩:=h; exact ⟨Aw,H',I.unwish,q⟩
 | brk=>obtain ⟨Aw,H',I,q⟩:=h; exact ⟨Aw,H',I.unwish,q⟩
 | cont=>obtain ⟨Aw,H',I,q⟩:=h; exact ⟨Aw,H',I.unwish,q⟩
 | ret u=>obtain ⟨v,Aw,H',I,r,q⟩:=h; exact ⟨v,Aw,H',I.unwish,r,q⟩
theorem Mx.nox {st:List Stmt} {t:TS} (h:Mx X.nox st t):Mx X st t:=fun pins s σ H D I hw=>
 wpAny_mono (h (pins:=pins) s σ H D (I.wish _) hw) (fun _ _ q=>q.unwish) fun _ _ z=>False.elim z
end
section
variable {X:Cx} {st:Stmt} {C6:List Stmt} {t u:TS} {e:Expr} {te:TE} {pos:Pos}
def tNext:TS:=fun D σ H=>D.nx σ H
def tSeq (t u:TS):TS:=fun D σ H=>t { D with nx:=u D } σ H
theorem BG:Mx X [] tNext:=fun _ _ σ H _ I h=>wpAny_execs_nil ⟨σ,H,I,h⟩
theorem Af (h1:PS X st t) (h2:Mx X C6 u):Mx X (st :: C6) (tSeq t u):=by
 intro pins s σ H D I h;refine wpAny_execs_cons (Bj (h1 (pins:=pins) s σ H { D with nx:=u D } I h) fun f s1 q=>?_);cases f with
 | next=>
  obtain ⟨Aw,H',I',q⟩:=q;exact h2 (pins:=pins) s1 Aw H' D I' q
 | ret v=>exact q
 | brk=>exact q
 | cont=>exact q
theorem Ak (h1:PS X st t):Mx X [st] t:=by
 intro pins s σ H D I h;refine wpAny_execs_cons (Bj (h1 (pins:=pins) s σ H D I h) fun f s1 q=>?_);cases f with
 | next=>exact wpAny_execs_nil q
 | ret v=>exact q
 | brk=>exact q
 | cont=>exact q
theorem An.quiet {pins:List (Addr × Obj)} {σ:St} {H:Hp} {s:Shared} (I:An X pins σ H s):interactive X.env=false:=by simp [interactive,I.ok.kind]
def tDrop (te:TE):TS:=fun D σ H=>te σ H fun _ H1=>D.nx σ H1
theorem FT (he:PE X e te) (hs:swapsWith e none pos.line X.env=pure false:=by rfl):PS X (.Expr e pos) (tDrop te):=by
 intro pins s σ H D I h;exact wpAny_Expr_any (Bj (he (pins:=pins) s σ H _ I h) fun v s1 ⟨x,H1,I1,r1,q1⟩=>⟨σ,H1,I1,q1⟩) I.quiet hs
def tRet (te:TE):TS:=fun D σ H=>te σ H D.rt
theorem A4 (he:PE X e te):PS X (.Return (some e) pos) (tRet te):=by
 intro pins s σ H D I h;exact wpAny_Return_some (Bj (he (pins:=pins) s σ H _ I h) fun v s1 ⟨x,H1,I1,r1,q1⟩=>⟨x,σ,H1,I1,r1,q1⟩)
def tIfS (c:TT) (t u:TS):TS:=fun D σ H=>c σ H fun b H1=>if b=true then t D σ H1 else u D σ H1
theorem D5 {c:Expr} {a b:List Stmt} {tc:TT} (hc:PT X c tc) (ha:Mx X a t) (hb:Mx X b u):PS X (.If c a b pos) (tIfS tc t u):=by
 intro pins s σ H D I h;refine wpAny_If (Bj (hc (pins:=pins) s σ H _ I h) fun d s1 ⟨H1,I1,q1⟩=>?_);cases d with
 | true=>exact ha (pins:=pins) s1 σ H1 D I1 q1
 | false=>exact hb (pins:=pins) s1 σ H1 D I1 q1
end
abbrev TG:=V->St->Hp->(St->Hp->Prop)->Prop
abbrev Uv:=List V->St->Hp->(St->Hp->Prop)->Prop
def PG (X:Cx) (target:Expr) (t:TG):Prop:=
 ∀ ⦃pins:List (Addr × Obj)⦄ (s:Shared) (σ:St) (H:Hp) (v:V) (u:Value) (Q:St->Hp->Prop),An X pins σ H s->A1 v u->t v σ H Q ->
  wpAny (model X.prog X.w) X.A (assign target X.env u) (fun _ s'=>∃ Aw H',An X pins Aw H' s'/\Q Aw H') X.xe s
def PGs (X:Cx) (ts:List Expr) (t:Uv):Prop:=
 ∀ ⦃pins:List (Addr × Obj)⦄ (s:Shared) (σ:St) (H:Hp) (vs:List V) (us:List Value) (Q:St->Hp->Prop),An X pins σ H s->A0 vs us->t vs σ H Q ->
  wpAny (model X.prog X.w) X.A (assignInOrder ((assignEach ts X.env).map (·.2)) us) (fun _ s'=>∃ Aw H',An X pins Aw H' s'/\Q Aw H') X.xe s
abbrev Vv:=V->V->V->Hp->(Hp->Prop)->Prop
def PSet (X:Cx) (t:Vv):Prop:=
 ∀ ⦃pins:List (Addr × Obj)⦄ (s:Shared) (σ:St) (H:Hp) (o i v:V) (ov iv u:Value) (Q:Hp->Prop),An X pins σ H s->A1 o ov->A1 i iv->A1 v u->t o i v H Q ->
  wpAny (model X.prog X.w) X.A (setItem ov iv u) (fun _ s'=>∃ H',An X pins σ H' s'/\Q H') X.xe s
section
variable {X:Cx} {pos:Pos}
def Kf (i:Nat):TG:=fun v σ H Q=>Q (σ.set i (some v)) H
theorem Ai {i:Nat} {x:Str} (hN:X.N.Nodup) (hi:X.N[i]? = some x) (hx:Vx X.env.scope x) (hf:X.fn x=true\/X.env.scope.names.lookup x=some .local:=by first | exact .inl rfl | exact .inr rfl | assumption):PG X (.Name x pos) (Kf i):=by
 intro pins s σ H v u Q I r h;exact wpAny_assign_Name (L9 I hN hi hx r (fun s' I'=>⟨_,H,I',h⟩) hf)
def gNil:Uv:=fun vs σ H Q=>vs=[]/\Q σ H
def gCons (t:TG) (u:Uv):Uv:=fun vs σ H Q=>∃ v r,vs=v :: r/\t v σ H fun Aw H'=>u r Aw H' Q
theorem Bw:PGs X [] gNil:=by
 intro pins s σ H vs us Q I r h;obtain ⟨e,h⟩:=h;subst e;cases r
 exact assignInOrder_nil ⟨σ,H,I,h⟩
theorem Ap {e:Expr} {es:List Expr} {t:TG} {u:Uv} (h1:PG X e t) (h2:PGs X es u)
  (hs:(assignEach (e :: es) X.env).map (·.2)=assign e X.env :: (assignEach es X.env).map (·.2):=by rfl):PGs X (e :: es) (gCons t u):=by
 intro pins s σ H vs us Q I r h;obtain ⟨v,vr,e1,h⟩:=h;subst e1;cases r with
 | cons r rr=>
  rw [hs];refine assignInOrder_cons (Bj (h1 (pins:=pins) s σ H _ _ _ I r h) fun _ s1 ⟨V1,H1,I1,q1⟩=>?_);exact h2 (pins:=pins) s1 V1 H1 _ _ Q I1 rr q1
def gTup (K:YL) (n:Nat) (t:Uv):TG:=fun v σ H Q=>∃ a xs,v=.ref a/\AI K H a xs/\xs.length=n/\t xs σ H Q
theorem QZ {es:List Expr} {k:Nat} {t:Uv} {n:Nat} (hc:X.calm=true) (h:PGs X es t)
  (hn:(assignEach es X.env).length=n:=by rfl) (hst:(assignEach es X.env).findIdx? (·.1)=none:=by rfl):PG X (.Tuple es k pos) (gTup X.K n t):=by
 intro pins s σ H v u Q I r hw;obtain ⟨a,xs,e1,hq,hl,hw⟩:=hw;subst e1;cases r
 obtain ⟨Aq,rv,ht,hz⟩:=I.tuple hq;refine assign_Tuple_tuple (I.ok.hd hc) ht (by simp [hn,<-hl,rv.length]) hst fun h' hx=>?_
 have I1:An X pins σ H { s with heap:=h' }:=I.kept (t':=s.toks) fun b o e=>hx b o (YX (YV e)) e
 exact h (pins:=pins) _ σ H xs _ Q I1 (by simpa using rv) hw
def gSub (to ti:TE) (t:Vv):TG:=fun v σ H Q=>to σ H fun o H1=>ti σ H1 fun i H2=>t o i v H2 fun H3=>Q σ H3
theorem MN {o i:Expr} {to ti:TE} {t:Vv} (ho:PE X o to) (hi:PE X i ti) (hs:PSet X t)
  (ha:∀ v,assign (.Subscript o i pos) X.env v=(do
   let ov <- holding [v] (eval o X.env)
   let iv <- holding [v,ov] (eval i X.env)
   standAt pos
   holding [v,ov,iv] (setItem ov iv v)
   release [v,ov,iv] []):=by intro _; rfl):PG X (.Subscript o i pos) (gSub to ti t):=by
 intro pins s σ H v u Q I r h;rw [ha];refine wpAny_bind (wpAny_holding (Bj (ho (pins:=pins) s σ H _ I h) fun ov s1 ⟨x,H1,I1,r1,q1⟩=>?_));refine wpAny_bind (wpAny_holding (Bj (hi (pins:=pins) s1 σ H1 _ I1 q1) fun iv s2 ⟨y,H2,I2,r2,q2⟩=>?_));refine wpAny_bind (wpAny_standAt (wpAny_bind (wpAny_holding (Bj (hs (pins:=pins) s2 σ H2 x y v ov iv u _ I2 r1 r2 r q2) fun _ s3 ⟨H3,I3,q3⟩=>?_))));exact wpAny_release ⟨σ,H3,I3,q3⟩
def Q3 (te:TE) (g:TG):TS:=fun D σ H=>te σ H fun x H1=>g x σ H1 D.nx
theorem Eb {tg e:Expr} {te:TE} {g:TG} (he:PE X e te) (hg:PG X tg g) (hs:swapsWithSole [tg] e pos.line X.env=pure false:=by rfl) (hw:swappedStores [tg] e X.env=pure none:=by rfl)
  (h1:(assignEach [tg] X.env).map (·.2)=[assign tg X.env]:=by rfl):PS X (.Assign [tg] e pos) (Q3 te g):=by
 intro pins s σ H D I h;refine wpAny_Assign_stores (Bj (he (pins:=pins) s σ H _ I h) fun v s1 ⟨x,H1,I1,r1,q1⟩=>?_) hs hw;rw [h1];exact Bj (hg (pins:=pins) s1 σ H1 x v _ I1 r1 q1) fun _ s2 q=>q
theorem Ar {i:Nat} {x:Str} {e:Expr} {te:TE} {pos':Pos} (hN:X.N.Nodup) (hi:X.N[i]? = some x) (hx:Vx X.env.scope x) (he:PE X e te) (hs:swapsWith e (some (.Name x pos')) pos.line X.env=pure false:=by rfl) (hf:X.fn x=true\/X.env.scope.names.lookup x=some .local:=by first | exact .inl rfl | exact .inr rfl | assumption) :
  PS X (.Assign [.Name x pos'] e pos) (Q3 te (Kf i)):=by
 intro pins s σ H D I h;refine wpAny_Assign_Name (Bj (he (pins:=pins) s σ H _ I h) fun v s1 ⟨y,H1,I1,r1,q1⟩=>?_) hs;exact L9 I1 hN hi hx r1 (fun s2 I2=>⟨_,H1,I2,q1⟩) hf
end
section
variable {X:Cx} {pos:Pos}
def U7 (c:TT) (tb:TS):TS:=fun D σ H=>∃ W:Nat->St->Hp->Prop,(∃ m,W m σ H)/\∀ m σ H,W m σ H ->
 c σ H fun b H1=>if b=true then ∃ N:St->Hp->Prop,(∀ Aw H',N Aw H'->∃ m',m' < m/\W m' Aw H')/\tb { D with nx:=N,ct:=N,bk:=D.nx } σ H1 else D.nx σ H1
theorem LM {c:Expr} {body:List Stmt} {tc:TT} {tb:TS} (hp:PassesOwn (model X.prog X.w) X.A X.env X.xe) (hc:PT X c tc) (hb:Mx X body tb):PS X (.While c body [] pos) (U7 tc tb):=by
 intro pins s σ H D I h;obtain ⟨W,⟨m0,w0⟩,turn⟩:=h;refine wpAny_While (codeAny_whileLoop (fun n s'=>∃ Aw H',An X pins Aw H' s'/\W n Aw H') ?_ m0 ⟨σ,H,I,w0⟩);rintro n s1 ⟨V1,H1,I1,w1⟩;refine wpAny_passesOwn hp (Bj (hc (pins:=pins) s1 V1 H1 _ I1 (turn n V1 H1 w1)) fun b s2 ⟨H2,I2,q2⟩=>?_);cases b with
 | true=>
  obtain ⟨N,hN,q2⟩:=q2;rw [if_pos rfl];refine wpAny_passesOwn hp (Bj (hb (pins:=pins) s2 V1 H2 _ I2 q2) fun f s3 q3=>?_);cases f with
  | next=>
   obtain ⟨Qp,H3,I3,n3⟩:=q3;obtain ⟨m',hm,w3⟩:=hN Qp H3 n3;exact ⟨m',hm,Qp,H3,I3,w3⟩
  | cont=>
   obtain ⟨Qp,H3,I3,n3⟩:=q3;obtain ⟨m',hm,w3⟩:=hN Qp H3 n3;exact ⟨m',hm,Qp,H3,I3,w3⟩
  | brk=>exact q3
  | ret v=>exact q3
 | false=>
  rw [if_neg Zd];exact wpAny_execs_nil ⟨V1,H2,I2,q2⟩
end
structure It where
 go:Nat->Hp->Prop
 yld:Nat->Hp->V->Hp->Prop
 stop:Nat->Hp->Prop
def DG (X:Cx) (pins:List (Addr × Obj)) (H:Hp) (b:Addr):Prop:=
 H b=none/\b ≠ X.env.locals/\b ∉ X.fs/\(b ∈ X.ex\/X.s₀.heap.objs.size<=b)/\(∀ x c,X.env.cells.lookup x=some c->c ≠ b)/\∀ p ∈ X.pn ++ pins,p.1 ≠ b
theorem An.fpOk {X:Cx} {pins:List (Addr × Obj)} {σ:St} {H H':Hp} {s:Shared} {b:Addr} (I:An X pins σ H s) (hb:s.heap.objs.size<=b) (hn:H' b=none):DG X pins H' b:=by
 refine ⟨hn,ZD (YZ I.lt hb),I.nofs hb,.inr (Zj I.sz hb),fun x c e z=>?_,fun p hp z=>?_⟩
 ·obtain ⟨v,q⟩:=I.cell x c e;exact absurd (YZ q.lt (by rw [z]; exact hb)) (Z5 _)
 ·exact absurd (YZ (YV (I.pin p hp).1) (by rw [z]; exact hb)) (Z5 _)
structure Lk (P:Program) (w:World) (K:YL) (tg:Expr) (J:It) (fp:List Addr) (it:Addr) (tn:Nat->Heap->Prop):Prop where
 mem:it ∈ fp
 obj:∀ i h,tn i h->∀ b ∈ fp,∃ o,h.get? b=some o/\∀ v,o.data ≠ .cell v
 keep:∀ i h h',tn i h->(∀ b ∈ fp,∀ o,h.get? b=some o->h'.get? b=some o)->tn i h'
 item:∀ (X:Cx),X.prog=P->X.w=w->X.K=K->X.calm=true->∀ (i:Nat) (pins:List (Addr × Obj)) (s:Shared) (σ:St) (H:Hp) (E:Value->Shared->Prop),An X pins σ H s->(∀ b ∈ fp,DG X pins H b)->tn i s.heap->J.go i H ->
  wpAny (model P w) X.A (pyNext (.ref it)) (fun r s1=>∃ u,r=some u /\
   wpAny (model P w) X.A (letOwnedTupleGo tg (.ref it) u) (fun _ s2=>∃ x H',An X pins σ H' s2/\A1 x u/\J.yld i H x H'/\tn (i + 1) s2.heap/\∀ b ∈ fp,H' b=none) E s1) E s
 done:∀ (X:Cx),X.prog=P->X.w=w->X.K=K->X.calm=true->∀ (i:Nat) (pins:List (Addr × Obj)) (s:Shared) (σ:St) (H:Hp) (E:Value->Shared->Prop),An X pins σ H s->(∀ b ∈ fp,DG X pins H b)->tn i s.heap->J.stop i H ->
  wpAny (model P w) X.A (pyNext (.ref it)) (fun r s1=>r=none/\An X pins σ H s1) E s
 self:∀ (A:Around) (i:Nat) (s:Shared) (Q:Value->Shared->Prop) (E:Value->Shared->Prop),tn i s.heap->Q (.ref it) s->wpAny (model P w) A (pyIter (.ref it)) Q E s
abbrev TI:=St->Hp->(It->Hp->Prop)->Prop
def PIE (X:Cx) (pins:List (Addr × Obj)) (σ:St) (tg:Expr) (R:It->Hp->Prop) (itv:Value) (s2:Shared):Prop:=
 ∃ (it:Addr) (fp:List Addr) (tn:Nat->Heap->Prop) (J:It) (H':Hp),itv=.ref it/\An X pins σ H' s2/\Lk X.prog X.w X.K tg J fp it tn/\tn 0 s2.heap/\(∀ b ∈ fp,DG X pins H' b)/\R J H'
def PI (X:Cx) (tg iter:Expr) (wi:TI):Prop:=
 ∀ ⦃pins:List (Addr × Obj)⦄ (s:Shared) (σ:St) (H:Hp) (R:It->Hp->Prop),An X pins σ H s->wi σ H R ->
  wpAny (model X.prog X.w) X.A (eval iter X.env) (fun v s1=>wpAny (model X.prog X.w) X.A (pyIter v) (PIE X pins σ tg R) X.xe s1) X.xe s
theorem IT {M:Model} {A:Around} {E:Value->Shared->Prop} {s:Shared} {tg:Expr} {it:Addr} {u:Value} {o:Obj} {n:String} {vs:Array Value} {Q:Unit->Shared->Prop} (ho:s.heap.get? it=some o) (hc:o.cls=.type n) (hd:o.data=.fields vs)
  (hn:["enumerate","zip","dict_itemiterator","dict_reverseitemiterator","odict_iterator","itertools.zip_longest","itertools.pairwise"].contains n=false) (hQ:Q () s):wpAny M A (letOwnedTupleGo tg (.ref it) u) Q E s:=by
 unfold letOwnedTupleGo;cases tg <;> first
  | exact wpAny_pure hQ
  | (cases u <;> first
    | exact wpAny_pure hQ
    | (refine wpAny_bind (wpAny_load ho ?_)
       rw [hc,hd];show wpAny M A (if (["enumerate","zip","dict_itemiterator","dict_reverseitemiterator","odict_iterator","itertools.zip_longest","itertools.pairwise"].contains n && vs[0]? == some (rawInt _))=true then _ else _) Q E s
       rw [if_neg (by intro h; rw [hn,b0] at h; cases h)];exact wpAny_pure hQ))
def Sr (K:YL) (a:Addr):It:=
 ⟨fun i H=>∃ xs x,AD K H a xs/\xs[i]? = some x,fun i H x H'=>H'=H/\∀ xs,AD K H a xs->xs[i]? = some x,fun i H=>∃ xs,AD K H a xs/\xs.length<=i⟩
def Qf (K:YL) (a:Addr):It:=
 ⟨fun i H=>∃ xs x,AI K H a xs/\xs[i]? = some x,fun i H x H'=>H'=H/\∀ xs,AI K H a xs->xs[i]? = some x,fun i H=>∃ xs,AI K H a xs/\xs.length<=i⟩
def Sq (lo:Int) (n:Nat):It:=⟨fun i _=>i < n,fun i H x H'=>H'=H/\x=.int (lo + i),fun i _=>n<=i⟩
theorem JI {P:Program} {w:World} {K:YL} {tg:Expr} (a it:Addr):Lk P w K tg (Sr K a) [it] it (fun i h=>h.IsListIter it a i) where
 mem:=by simp
 obj:=fun i h st b hb=>by
  have e:b=it:=by simpa using hb
  subst e;obtain ⟨o,e,c,d⟩:=st;exact ⟨o,e,fun v z=>by rw [d] at z; cases z⟩
 keep:=fun i h h' st k=>st.at fun o e=>k it (by simp) o e
 item:=by
  intro X hP hw hK hc i pins s σ H E I hf st hg;subst hP hw hK;obtain ⟨xs,x,hq,hx⟩:=hg;obtain ⟨Aq,rv,p,hz⟩:=I.list hq;obtain ⟨u,hu,ru⟩:=rv.get hx;obtain ⟨f0,f1,f2,f3,f4,f5⟩:=hf it (by simp);refine wpAny_pyNext_list_item st p.isList (x:=u) (by simpa using hu) fun h' AM sb=>?_
  have I1:An X pins σ H { s with heap:=h' }:=I.turned (t':=s.toks) (fun b o hb e=>(sb.2 b hb).trans e) f0 f1 f3 f4 f5;obtain ⟨o,e,c,d⟩:=id AM;exact ⟨u,rfl,IT (s:={ s with heap:=h' }) e c d (by decide) ⟨x,H,I1,ru,⟨rfl,fun ys hy=>by rw [I.list_inj hy hq]; exact hx⟩,AM,fun b hb=>(hf b hb).1⟩⟩
 done:=by
  intro X hP hw hK hc i pins s σ H E I hf st hg;subst hP hw hK;obtain ⟨xs,hq,hx⟩:=hg;obtain ⟨Aq,rv,p,hz⟩:=I.list hq;obtain ⟨f0,f1,f2,f3,f4,f5⟩:=hf it (by simp);have hl:=rv.length;exact wpAny_pyNext_list_end (I.ok.hd hc) st p.isList (by simp; lia) fun h' eb=>⟨rfl,I.turned (t':=s.toks) (fun b o hb e=>eb b o hb e) f0 f1 f3 f4 f5⟩
 self:=fun _ _ _ _ _ st h=>wpAny_pyIter_listiter st h
theorem HX {P:Program} {w:World} {K:YL} {tg:Expr} (a it:Addr):Lk P w K tg (Qf K a) [it] it (fun i h=>h.IsTupleIter it a i) where
 mem:=by simp
 obj:=fun i h st b hb=>by
  have e:b=it:=by simpa using hb
  subst e;obtain ⟨o,e,c,d⟩:=st;exact ⟨o,e,fun v z=>by rw [d] at z; cases z⟩
 keep:=fun i h h' st k=>st.at fun o e=>k it (by simp) o e
 item:=by
  intro X hP hw hK hc i pins s σ H E I hf st hg;subst hP hw hK;obtain ⟨xs,x,hq,hx⟩:=hg;obtain ⟨Aq,rv,p,hz⟩:=I.tuple hq;obtain ⟨u,hu,ru⟩:=rv.get hx;obtain ⟨f0,f1,f2,f3,f4,f5⟩:=hf it (by simp);refine wpAny_pyNext_tuple_item st (show s.heap.IsTuple a Aq.toArray from p) (x:=u) (by simpa using hu) fun h' AM sb=>?_
  have I1:An X pins σ H { s with heap:=h' }:=I.turned (t':=s.toks) (fun b o hb e=>(sb.2 b hb).trans e) f0 f1 f3 f4 f5;obtain ⟨o,e,c,d⟩:=id AM;exact ⟨u,rfl,IT (s:={ s with heap:=h' }) e c d (by decide) ⟨x,H,I1,ru,⟨rfl,fun ys hy=>by rw [I.tuple_inj hy hq]; exact hx⟩,AM,fun b hb=>(hf b hb).1⟩⟩
 done:=by
  intro X hP hw hK hc i pins s σ H E I hf st hg;subst hP hw hK;obtain ⟨xs,hq,hx⟩:=hg;obtain ⟨Aq,rv,p,hz⟩:=I.tuple hq;obtain ⟨f0,f1,f2,f3,f4,f5⟩:=hf it (by simp);have hl:=rv.length;exact wpAny_pyNext_tuple_end (I.ok.hd hc) st (show s.heap.IsTuple a Aq.toArray from p) (by simp; lia) fun h' eb=>⟨rfl,I.turned (t':=s.toks) (fun b o hb e=>eb b o hb e) f0 f1 f3 f4 f5⟩
 self:=fun _ _ _ _ _ st h=>wpAny_pyIter_tupleiter st h
theorem MC {P:Program} {w:World} {K:YL} {tg:Expr} (it:Addr) (lo:Int) (n:Nat):Lk P w K tg (Sq lo n) [it] it (fun i h=>IsRangeIter h it (lo + (i:Nat) * 1) ((n:Int) - (i:Nat)) 1) where
 mem:=by simp
 obj:=fun i h st b hb=>by
  have e:b=it:=by simpa using hb
  subst e;exact ⟨_,st,fun v z=>by
   have z':Data.fields _=Data.cell v:=z;cases z'⟩
 keep:=fun i h h' st k=>k it (by simp) _ st
 item:=by
  intro X hP hw hK hc i pins s σ H E I hf st hg;subst hP hw hK;obtain ⟨f0,f1,f2,f3,f4,f5⟩:=hf it (by simp);have W:=Walks.range (prog:=X.prog) (w:=X.w) (I.ok.hd hc) it lo 1 n;refine W.item i s _ _ hg st fun v h' tk hv AM kk=>?_
  obtain ⟨t,rfl⟩:=hv;have I1:An X pins σ H { s with heap:=h',toks:=tk }:=I.turned (fun b o hb e=>kk b o (by simpa using hb) e) f0 f1 f3 f4 f5;refine ⟨_,rfl,IT (s:={ s with heap:=h',toks:=tk }) (n:="range_iterator") AM rfl rfl (by decide) ⟨.int (lo + i),H,I1,⟨t,?_⟩,⟨rfl,rfl⟩,AM,fun b hb=>(hf b hb).1⟩⟩;rw [Int.mul_one]
 done:=by
  intro X hP hw hK hc i pins s σ H E I hf st hg;subst hP hw hK;obtain ⟨f0,f1,f2,f3,f4,f5⟩:=hf it (by simp);exact wpAny_pyNext_range_end (I.ok.hd hc) st (by have:n<=i:=hg; lia) fun h' eb=>⟨rfl,I.turned (t':=s.toks) (fun b o hb e=>eb b o hb e) f0 f1 f3 f4 f5⟩
 self:=fun _ _ _ _ _ st h=>wpAny_pyIter_rangeiter st h
section
variable {X:Cx} {tg:Expr}
def Uo (K:YL) (tl:TE):TI:=fun σ H R=>tl σ H fun x H1=>∃ a,x=.ref a/\(∃ xs,AD K H1 a xs)/\R (Sr K a) H1
def iTup (K:YL) (tl:TE):TI:=fun σ H R=>tl σ H fun x H1=>∃ a,x=.ref a/\(∃ xs,AI K H1 a xs)/\R (Qf K a) H1
theorem HN {l:Expr} {tl:TE} (hl:PE X l tl):PI X tg l (Uo X.K tl):=by
 intro pins s σ H R I h;refine Bj (hl (pins:=pins) s σ H _ I h) fun v s1 ⟨x,H1,I1,r1,q1⟩=>?_
 obtain ⟨a,e,⟨xs,hq⟩,q⟩:=q1;subst e;cases r1
 obtain ⟨Aq,rv,p,hz⟩:=I1.list hq;refine wpAny_pyIter_list p.isList ?_;refine ⟨s1.heap.objs.size,[s1.heap.objs.size],_,_,H1,rfl,I1.kept (t':=s1.toks) fun b o e=>YK _ e,JI a _,⟨_,YW _ rfl,rfl,rfl⟩,fun b hb=>?_,q⟩;have e:b=s1.heap.objs.size:=by simpa using hb
 subst e;exact I1.fpOk (YO _) (I1.hok.fresh (YO _))
theorem KH {l:Expr} {tl:TE} (hl:PE X l tl):PI X tg l (iTup X.K tl):=by
 intro pins s σ H R I h;refine Bj (hl (pins:=pins) s σ H _ I h) fun v s1 ⟨x,H1,I1,r1,q1⟩=>?_
 obtain ⟨a,e,⟨xs,hq⟩,q⟩:=q1;subst e;cases r1
 obtain ⟨Aq,rv,p,hz⟩:=I1.tuple hq;refine wpAny_pyIter_tuple (show s1.heap.IsTuple a Aq.toArray from p) ?_;refine ⟨s1.heap.objs.size,[s1.heap.objs.size],_,_,H1,rfl,I1.kept (t':=s1.toks) fun b o e=>YK _ e,HX a _,⟨_,YW _ rfl,rfl,rfl⟩,fun b hb=>?_,q⟩;have e:b=s1.heap.objs.size:=by simpa using hb
 subst e;exact I1.fpOk (YO _) (I1.hok.fresh (YO _))
theorem LL {pins:List (Addr × Obj)} {σ:St} {H:Hp} {s:Shared} {R:It->Hp->Prop} {E:Value->Shared->Prop} {lo hi:Int} {t u v:Tok} {tk:Nat} (I:An X pins σ H s) (h1:-(2 ^ 62)<=lo) (h2:lo < 2 ^ 62) (h3:-(2 ^ 62)<=hi) (h4:hi < 2 ^ 62)
  (q:R (Sq lo (hi - lo).toNat) H):wpAny (model X.prog X.w) X.A (pyIter (.ref s.heap.objs.size)) (PIE X pins σ tg R) E { s with heap:=s.heap.push { cls:=.type "range",data:=.fields #[.int lo t,.int hi u,.int 1 v] },toks:=tk }:=by
 refine wpAny_pyIter_range (IsRange.new ..) (small_one h1 h2 h3 h4) ?_;have I1:An X pins σ H { s with heap:=s.heap.push { cls:=.type "range",data:=.fields #[.int lo t,.int hi u,.int 1 v] },toks:=tk }:=I.kept fun b o e=>YK _ e
 refine ⟨(s.heap.push { cls:=.type "range",data:=.fields #[.int lo t,.int hi u,.int 1 v] }).objs.size,[(s.heap.push { cls:=.type "range",data:=.fields #[.int lo t,.int hi u,.int 1 v] }).objs.size],_,_,H,rfl,
  I1.kept (t':=tk) fun b o e=>YK _ e,MC _ lo (hi - lo).toNat,?_,fun b hb=>?_,q⟩
 ·have e1:lo + ((0:Nat):Int) * 1=lo:=by simp
  have e2:(((hi - lo).toNat:Nat):Int) - ((0:Nat):Int)=Builtin.Range.rangeSize lo hi 1:=by rw [rangeSize_one]; split <;> lia
  show IsRangeIter _ _ (lo + ((0:Nat):Int) * 1) ((((hi - lo).toNat:Nat):Int) - ((0:Nat):Int)) 1
  rw [e1,e2];exact YW _ rfl
 ·have e:b=(s.heap.push { cls:=.type "range",data:=.fields #[.int lo t,.int hi u,.int 1 v] }).objs.size:=by simpa using hb
  subst e;exact I1.fpOk (YO _) (I1.hok.fresh (YO _))
def iRng1 (ta:TA):TI:=fun σ H R=>ta σ H fun vs H1=>∃ j:Int,vs=[.int j]/\-(2 ^ 62)<=j/\j < 2 ^ 62/\R (Sq 0 j.toNat) H1
def iRng2 (ta:TA):TI:=fun σ H R=>ta σ H fun vs H1=>∃ i j:Int,vs=[.int i,.int j]/\(-(2 ^ 62)<=i/\i < 2 ^ 62/\-(2 ^ 62)<=j/\j < 2 ^ 62)/\R (Sq i (j - i).toNat) H1
theorem Dg {a:Expr} {ta:TA} {p pos:Pos} (hg:Gl X "range") (hm:X.mg "range"=none) (ha:PA X [a] ta) (hs:starEach [a] X.env=[(false,eval a X.env)]:=by rfl):PI X tg (.Call (.Name "range" p) [a] [] pos) (iRng1 ta):=by
 intro pins s σ H R I h;refine Call_ (GB I hg hm boot_range (PyProof.Rows.callWith_type1 (Bj (ha (pos:=pos) (pins:=pins) s σ H _ I h) fun us s1 ⟨vs,H1,I1,r1,q1⟩=>?_) hs rfl));obtain ⟨j,e,q1,q2,q⟩:=q1;subst e;cases r1 with
 | cons r rr=>
  cases rr
  obtain ⟨t,rfl⟩:=r;exact call_range_1 (LL I1 (by lia) (by lia) q1 q2 (by simpa using q))
theorem Pm {a b:Expr} {ta:TA} {p pos:Pos} (hg:Gl X "range") (hm:X.mg "range"=none) (ha:PA X [a,b] ta) (hs:starEach [a,b] X.env=[(false,eval a X.env),(false,eval b X.env)]:=by rfl) (Wq:starEach [b] X.env=[(false,eval b X.env)]:=by rfl) :
  PI X tg (.Call (.Name "range" p) [a,b] [] pos) (iRng2 ta):=by
 intro pins s σ H R I h;refine Call_ (GB I hg hm boot_range (PyProof.Rows.callWith_type1 (Bj (ha (pos:=pos) (pins:=pins) s σ H _ I h) fun us s1 ⟨vs,H1,I1,r1,q1⟩=>?_) (by rw [hs,Wq]) (by rw [Wq]; rfl)));obtain ⟨i,j,e,⟨q1,q2,q3,q4⟩,q⟩:=q1;subst e;cases r1 with
 | cons r rr=>
  cases rr with
  | cons r' rr=>
   cases rr
   obtain ⟨t,rfl⟩:=r;obtain ⟨t',rfl⟩:=r';exact call_range_2 (LL I1 q1 q2 q3 q4 q)
def tFor (wi:TI) (g:TG) (tb:TS):TS:=fun D σ H=>wi σ H fun J H1=>∃ W:Nat->Nat->St->Hp->Prop,(∃ m,W 0 m σ H1)/\∀ i m σ H,W i m σ H ->
 (J.stop i H/\D.nx σ H)\/(J.go i H/\∃ N:St->Hp->Prop,(∀ Aw H',N Aw H'->∃ m',m' < m/\W (i + 1) m' Aw H')/\∀ x H',J.yld i H x H'->g x σ H' fun Az H2=>tb { D with nx:=N,ct:=N,bk:=D.nx } Az H2)
def DA (fp:List Addr) (h:Heap):List (Addr × Obj):=fp.filterMap fun b=>(h.get? b).map fun o=>(b,o)
theorem AR {fp:List Addr} {h:Heap} {b:Addr} {o:Obj} (hb:b ∈ fp) (e:h.get? b=some o):(b,o) ∈ DA fp h:=bB.mpr ⟨b,hb,by rw [e]; rfl⟩
theorem Pt {fp:List Addr} {h:Heap} {p:Addr × Obj} (hp:p ∈ DA fp h):p.1 ∈ fp/\h.get? p.1=some p.2:=by
 obtain ⟨b,hb,e⟩:=bB.mp hp;cases q:h.get? b with
 | none=>rw [q] at e; cases e
 | some o=>
  rw [q] at e;have e':(b,o)=p:=Zf.inj e;subst e';exact ⟨hb,q⟩
theorem An.pinned {pins:List (Addr × Obj)} {σ:St} {H:Hp} {s:Shared} {fp:List Addr} (I:An X pins σ H s) (hf:∀ b ∈ fp,DG X pins H b) (ho:∀ b ∈ fp,∃ o,s.heap.get? b=some o/\∀ v,o.data ≠ .cell v):An X (pins ++ DA fp s.heap) σ H s:=
 I.pins_of fun p hp=>(Zl.mp hp).elim (fun z=>I.pin p (Za _ z)) fun z=>by
  obtain ⟨hb,e⟩:=Pt z;obtain ⟨f0,f1,f2,_⟩:=hf p.1 hb;obtain ⟨o,e',d⟩:=ho p.1 hb;rw [e] at e'; cases e';exact ⟨e,f0,f1,f2,d⟩
theorem An.unpinned {pins pl:List (Addr × Obj)} {σ:St} {H:Hp} {s:Shared} (I:An X (pins ++ pl) σ H s):An X pins σ H s:=I.pins_of fun p hp=>I.pin p (Za _ (ZN _ hp))
theorem BL {iter:Expr} {body:List Stmt} {wi:TI} {g:TG} {tb:TS} {pos:Pos} (hp:PassesOwn (model X.prog X.w) X.A X.env X.xe) (hc:X.calm=true) (hi:PI X tg iter wi) (hg:PG X tg g) (hb:Mx X body tb)
  (hs:∀ x,foldedSetIterable iter X.env x=pure x:=by intro _; rfl):PS X (.For tg iter body [] pos) (tFor wi g tb):=by
 intro pins s σ H D I h;refine wpAny_For (Bj (hi (pins:=pins) s σ H _ I h) fun v s1 h1=>Bj h1 fun itv s2 h2=>?_) hs;obtain ⟨it,fp,tn,J,H2,e,I2,T,Ff,f2,W,⟨m0,w0⟩,turn⟩:=h2;subst e;have stat:∀ {H':Hp},(∀ b ∈ fp,H' b=none)->∀ b ∈ fp,DG X pins H' b:=fun hn b hb=>⟨hn b hb,(f2 b hb).2⟩
 refine codeAny_forLoop_any (fun n s'=>∃ i Aw H',An X pins Aw H' s'/\tn i s'.heap/\(∀ b ∈ fp,H' b=none)/\W i n Aw H') ?_ m0 ⟨0,σ,H2,I2,Ff,fun b hb=>(f2 b hb).1,w0⟩;rintro n s3 ⟨i,Qp,H3,I3,Xz,fr3,w3⟩;rcases turn i n Qp H3 w3 with ⟨stop,qn⟩ | ⟨go,N,hN,step⟩
 ·refine wpAny_passesOwn hp (Bj (T.done X rfl rfl rfl hc i (pins:=pins) s3 Qp H3 X.xe I3 (stat fr3) Xz stop) fun r s4 ⟨hr,I4⟩=>?_);subst hr;exact wpAny_execs_nil ⟨Qp,H3,I4,qn⟩
 ·refine wpAny_passesOwn hp (Bj (T.item X rfl rfl rfl hc i (pins:=pins) s3 Qp H3 X.xe I3 (stat fr3) Xz go) fun r s4 ⟨u,hr,h4⟩=>?_);subst hr;refine wpAny_passesOwn hp (Bj h4 fun _ s5 ⟨x,H5,I5,r5,y5,Xy,fr5⟩=>?_);have I5':=I5.pinned (stat fr5) (T.obj _ _ Xy);refine wpAny_passesOwn hp (Bj (hg s5 Qp H5 x u _ I5' r5 (step x H5 y5)) fun _ s6 ⟨σ6,H6,I6,q6⟩=>?_);refine wpAny_passesOwn hp (Bj (hb s6 σ6 H6 _ I6 q6) fun f s7 q7=>?_);have again:∀ {Er:St} {H7:Hp},An X (pins ++ DA fp s5.heap) Er H7 s7->N Er H7->∃ m,m < n/\∃ i Aw H',An X pins Aw H' s7/\tn i s7.heap/\(∀ b ∈ fp,H' b=none)/\W i m Aw H':=fun {Er H7} I7 n7=>by
   obtain ⟨m',hm,w7⟩:=hN Er H7 n7;refine ⟨m',hm,i + 1,Er,H7,I7.unpinned,T.keep _ _ _ Xy fun b hb o e=>(I7.pin (b,o) (Za _ (Za _ (AR hb e)))).1,fun b hb=>?_,w7⟩;obtain ⟨o,e,d⟩:=T.obj _ _ Xy b hb;exact (I7.pin (b,o) (Za _ (Za _ (AR hb e)))).2.1
  cases f with
  | next=>obtain ⟨Er,H7,I7,n7⟩:=q7; exact again I7 n7
  | cont=>obtain ⟨Er,H7,I7,n7⟩:=q7; exact again I7 n7
  | brk=>obtain ⟨Er,H7,I7,q7⟩:=q7; exact ⟨Er,H7,I7.unpinned,q7⟩
  | ret v=>obtain ⟨x7,Er,H7,I7,r7,q7⟩:=q7; exact ⟨x7,Er,H7,I7.unpinned,r7,q7⟩
end
theorem Gg {K:YL} {a:Addr} {xs:List V} {g:TG} {tb:TS} {D:Ex} {σ:St} {H:Hp} (Pv:Nat->St->Hp->Prop) (h0:Pv 0 σ H) (hl:∀ i σ H,i<=xs.length->Pv i σ H->AD K H a xs)
  (hs:∀ i x σ H,xs[i]? = some x->Pv i σ H->g x σ H fun Az H2=>tb { D with nx:=Pv (i + 1),ct:=Pv (i + 1),bk:=D.nx } Az H2) (hd:∀ σ H,Pv xs.length σ H->D.nx σ H) :
  ∃ W:Nat->Nat->St->Hp->Prop,(∃ m,W 0 m σ H)/\∀ i m σ H,W i m σ H ->
   ((Sr K a).stop i H/\D.nx σ H)\/((Sr K a).go i H/\∃ N:St->Hp->Prop,(∀ Aw H',N Aw H'->∃ m',m' < m/\W (i + 1) m' Aw H')/\∀ x H',(Sr K a).yld i H x H'->g x σ H' fun Az H2=>tb { D with nx:=N,ct:=N,bk:=D.nx } Az H2):=by
 refine ⟨fun i m σ H=>m=xs.length - i/\i<=xs.length/\Pv i σ H,⟨xs.length,by simp,Zz _,h0⟩,?_⟩;rintro i m σ H ⟨rfl,hi,p⟩;have q:=hl i σ H hi p;by_cases Bv:i < xs.length
 ·refine .inr ⟨⟨xs,xs[i],q,by simp [Bv]⟩,Pv (i + 1),fun Aw H' p'=>⟨xs.length - (i + 1),by lia,rfl,Bv,p'⟩,fun x H' y=>?_⟩;obtain ⟨e,y⟩:=y;subst e;exact hs i x σ _ (y xs q) p
 ·have e:i=xs.length:=by lia
  subst e;exact .inl ⟨⟨xs,q,YO _⟩,hd σ H p⟩
theorem Ox {K:YL} {a:Addr} {xs:List V} {g:TG} {tb:TS} {D:Ex} {σ:St} {H:Hp} (Pv:Nat->St->Hp->Prop) (h0:Pv 0 σ H) (hl:∀ i σ H,i<=xs.length->Pv i σ H->AI K H a xs)
  (hs:∀ i x σ H,xs[i]? = some x->Pv i σ H->g x σ H fun Az H2=>tb { D with nx:=Pv (i + 1),ct:=Pv (i + 1),bk:=D.nx } Az H2) (hd:∀ σ H,Pv xs.length σ H->D.nx σ H) :
  ∃ W:Nat->Nat->St->Hp->Prop,(∃ m,W 0 m σ H)/\∀ i m σ H,W i m σ H ->
   ((Qf K a).stop i H/\D.nx σ H)\/((Qf K a).go i H/\∃ N:St->Hp->Prop,(∀ Aw H',N Aw H'->∃ m',m' < m/\W (i + 1) m' Aw H')/\∀ x H',(Qf K a).yld i H x H'->g x σ H' fun Az H2=>tb { D with nx:=N,ct:=N,bk:=D.nx } Az H2):=by
 refine ⟨fun i m σ H=>m=xs.length - i/\i<=xs.length/\Pv i σ H,⟨xs.length,by simp,Zz _,h0⟩,?_⟩;rintro i m σ H ⟨rfl,hi,p⟩;have q:=hl i σ H hi p;by_cases Bv:i < xs.length
 ·refine .inr ⟨⟨xs,xs[i],q,by simp [Bv]⟩,Pv (i + 1),fun Aw H' p'=>⟨xs.length - (i + 1),by lia,rfl,Bv,p'⟩,fun x H' y=>?_⟩;obtain ⟨e,y⟩:=y;subst e;exact hs i x σ _ (y xs q) p
 ·have e:i=xs.length:=by lia
  subst e;exact .inl ⟨⟨xs,q,YO _⟩,hd σ H p⟩
theorem Di {lo:Int} {n:Nat} {g:TG} {tb:TS} {D:Ex} {σ:St} {H:Hp} (Pv:Nat->St->Hp->Prop) (h0:Pv 0 σ H)
  (hs:∀ i σ H,i < n->Pv i σ H->g (.int (lo + i)) σ H fun Az H2=>tb { D with nx:=Pv (i + 1),ct:=Pv (i + 1),bk:=D.nx } Az H2) (hd:∀ σ H,Pv n σ H->D.nx σ H) :
  ∃ W:Nat->Nat->St->Hp->Prop,(∃ m,W 0 m σ H)/\∀ i m σ H,W i m σ H ->
   ((Sq lo n).stop i H/\D.nx σ H)\/((Sq lo n).go i H/\∃ N:St->Hp->Prop,(∀ Aw H',N Aw H'->∃ m',m' < m/\W (i + 1) m' Aw H')/\∀ x H',(Sq lo n).yld i H x H'->g x σ H' fun Az H2=>tb { D with nx:=N,ct:=N,bk:=D.nx } Az H2):=by
 refine ⟨fun i m σ H=>m=n - i/\i<=n/\Pv i σ H,⟨n,by simp,Zz _,h0⟩,?_⟩;rintro i m σ H ⟨rfl,hi,p⟩;by_cases Bv:i < n
 ·refine .inr ⟨Bv,Pv (i + 1),fun Aw H' p'=>⟨n - (i + 1),by lia,rfl,Bv,p'⟩,fun x H' y=>?_⟩;obtain ⟨e,y⟩:=y;subst e y;exact hs i σ _ Bv p
 ·have e:i=n:=by lia
  subst e;exact .inl ⟨YO _,hd σ H p⟩
abbrev R2:=V->V->Hp->VK->Prop
def Ey (X:Cx) (f:Value->Value->Sem Value) (r:R2):Prop:=
 ∀ ⦃pins:List (Addr × Obj)⦄ (s:Shared) (σ:St) (H:Hp) (x y:V) (v u:Value) (Q:VK),An X pins σ H s->A1 x v->A1 y u->r x y H Q ->
  wpAny (model X.prog X.w) X.A (f v u) (EP X pins σ Q) X.xe s
def UnR (X:Cx) (f:Value->Sem Value) (r:V->Hp->VK->Prop):Prop:=
 ∀ ⦃pins:List (Addr × Obj)⦄ (s:Shared) (σ:St) (H:Hp) (x:V) (v:Value) (Q:VK),An X pins σ H s->A1 x v->r x H Q ->
  wpAny (model X.prog X.w) X.A (f v) (EP X pins σ Q) X.xe s
def Bd (X:Cx) (f:Value) (r:List V->Hp->VK->Prop):Prop:=
 ∀ ⦃pins:List (Addr × Obj)⦄ (s:Shared) (σ:St) (H:Hp) (xs:List V) (us:List Value) (Q:VK),An X pins σ H s->A0 xs us->r xs H Q ->
  wpAny (model X.prog X.w) X.A (call f us) (EP X pins σ Q) X.xe s
def TruR (X:Cx) (r:V->Hp->(Bool->Hp->Prop)->Prop):Prop:=
 ∀ ⦃pins:List (Addr × Obj)⦄ (s:Shared) (σ:St) (H:Hp) (x:V) (v:Value) (Q:Bool->Hp->Prop),An X pins σ H s->A1 x v->r x H Q ->
  wpAny (model X.prog X.w) X.A (truthy v) (TP X pins σ Q) X.xe s
def tOp (r:R2) (ta tb:TE):TE:=fun σ H Q=>ta σ H fun x H1=>tb σ H1 fun y H2=>r x y H2 Q
def tUn (r:V->Hp->VK->Prop) (ta:TE):TE:=fun σ H Q=>ta σ H fun x H1=>r x H1 Q
def rI (C:Int->Int->Prop) (g:Int->Int->V):R2:=fun x y H Q=>∃ i j,x=.int i/\y=.int j/\C i j/\Q (g i j) H
def Ug (g:Int->Int->V):R2:=fun x y H Q=>∃ i j,x=.int i/\y=.int j/\Q (g i j) H
def rU (g:Int->V):V->Hp->VK->Prop:=fun x H Q=>∃ i,x=.int i/\Q (g i) H
section
variable {X:Cx} {a b c:Expr} {ta tb tc:TE} {pos:Pos}
theorem Vr (ha:PE X a ta) (hb:PE X b tb) {pins:List (Addr × Obj)} {s:Shared} {σ:St} {H:Hp} {R:V->V->Hp->Prop} (I:An X pins σ H s)
  (h:ta σ H fun x H1=>tb σ H1 fun y H2=>R x y H2) {Q:Value->Shared->Prop} {f:Value->Value->Sem Value}
  (hf:∀ v u s2 x y H2,An X pins σ H2 s2->A1 x v->A1 y u->R x y H2->wpAny (model X.prog X.w) X.A (f v u) Q X.xe s2) :
  wpAny (model X.prog X.w) X.A (eval a X.env) (fun v AK=>wpAny (model X.prog X.w) X.A (eval b X.env) (fun u Eu=>wpAny (model X.prog X.w) X.A (f v u) Q X.xe Eu) X.xe AK) X.xe s:=by
 refine Bj (ha (pins:=pins) s σ H _ I h) fun v s1 ⟨x,H1,I1,r1,q1⟩=>?_
 refine Bj (hb (pins:=pins) s1 σ H1 _ I1 q1) fun u s2 ⟨y,H2,I2,r2,q2⟩=>?_
 exact hf v u s2 x y H2 I2 r1 r2 q2
theorem Ay {op:Operator} {r:R2} (ho:Ey X (binaryOp op) r) (ha:PE X a ta) (hb:PE X b tb):PE X (.BinOp a op b pos) (tOp r ta tb):=by
 intro pins s σ H Q I h;exact wpAny_BinOp (Vr ha hb I h fun v u s2 x y H2 I2 rx ry q=>ho (pins:=pins) s2 σ H2 x y v u Q I2 rx ry q)
theorem pe_un {op:UnaryOp} {r:V->Hp->VK->Prop} (ho:UnR X (unaryOp op) r) (ha:PE X a ta):PE X (.UnaryOp op a pos) (tUn r ta):=by
 intro pins s σ H Q I h;exact UnaryOp_ (Bj (ha (pins:=pins) s σ H _ I h) fun v s1 ⟨x,H1,I1,r1,q1⟩=>ho (pins:=pins) s1 σ H1 x v Q I1 r1 q1)
theorem opI {f:Value->Value->Sem Value} {C:Int->Int->Prop} {g:Int->Int->Int}
  (rule:∀ (i j:Int) (t u:Tok) (s:Shared) (Q:Value->Shared->Prop) (E:Value->Shared->Prop),C i j->Q (.int (g i j) s.toks) { s with toks:=s.toks + 1 }->wpAny (model X.prog X.w) X.A (f (.int i t) (.int j u)) Q E s) :
  Ey X f (rI C fun i j=>.int (g i j)):=by
 intro pins s σ H x y v u Q I rx ry h;obtain ⟨i,j,rfl,rfl,hc,q⟩:=h;obtain ⟨t,rfl⟩:=rx;obtain ⟨t',rfl⟩:=ry;exact rule i j t t' s _ _ hc ⟨.int (g i j),H,I.tok _,⟨_,rfl⟩,q⟩
theorem opI0 {f:Value->Value->Sem Value} {g:Int->Int->Int}
  (rule:∀ (i j:Int) (t u:Tok) (s:Shared) (Q:Value->Shared->Prop) (E:Value->Shared->Prop),Q (.int (g i j) s.toks) { s with toks:=s.toks + 1 }->wpAny (model X.prog X.w) X.A (f (.int i t) (.int j u)) Q E s) :
  Ey X f (Ug fun i j=>.int (g i j)):=by
 intro pins s σ H x y v u Q I rx ry h;obtain ⟨i,j,rfl,rfl,q⟩:=h;obtain ⟨t,rfl⟩:=rx;obtain ⟨t',rfl⟩:=ry;exact rule i j t t' s _ _ ⟨.int (g i j),H,I.tok _,⟨_,rfl⟩,q⟩
theorem SW {f:Value->Value->Sem Value} {g:Int->Int->Bool}
  (rule:∀ (i j:Int) (t u:Tok) (s:Shared) (Q:Value->Shared->Prop) (E:Value->Shared->Prop),Q (.bool (g i j)) s->wpAny (model X.prog X.w) X.A (f (.int i t) (.int j u)) Q E s) :
  Ey X f (Ug fun i j=>.bl (g i j)):=by
 intro pins s σ H x y v u Q I rx ry h;obtain ⟨i,j,rfl,rfl,q⟩:=h;obtain ⟨t,rfl⟩:=rx;obtain ⟨t',rfl⟩:=ry;exact rule i j t t' s _ _ ⟨.bl (g i j),H,I,rfl,q⟩
def CDiv (i j:Int):Prop:=0 < j/\j < 1073741824
def CPow (i j:Int):Prop:=0<=j/\j<=1000000/\i.natAbs < 2 ^ 64
def V0 (i j:Int):Prop:=(-(2 ^ 64) < i/\i < 2 ^ 64)\/(-(2 ^ 64) < j/\j < 2 ^ 64)
theorem V0.ok {i j:Int} (h:V0 i j):IntMulOk i j:=by
 rcases h with ⟨h1,h2⟩ | ⟨h1,h2⟩
 ·exact .of_left (intBits_le_64 h1 h2)
 ·exact .of_right (intBits_le_64 h1 h2)
theorem Bc:Ey X (binaryOp .Add) (Ug fun i j=>.int (i + j)):=opI0 fun _ _ _ _ _ _ _ q=>add_int q
theorem Iw:Ey X (binaryOp .Sub) (Ug fun i j=>.int (i - j)):=opI0 fun _ _ _ _ _ _ _ q=>sub_int q
theorem DB:Ey X (binaryOp .Mult) (rI V0 fun i j=>.int (i * j)):=opI fun _ _ _ _ _ _ _ hc q=>mul_int q hc.ok
theorem Ob:Ey X (binaryOp .FloorDiv) (rI CDiv fun i j=>.int (i / j)):=opI fun i j _ _ _ _ _ hc q=>by
 have h1:(0:Int) < j:=hc.1;have h2:j < 1073741824:=hc.2;exact floordiv_int (by lia) (by rw [Int.fdiv_eq_ediv_of_nonneg i (by lia)]; exact q) (.inl (PyProof.noPylong_small (by lia)))
theorem Ec:Ey X (binaryOp .Mod) (rI (fun _ j=>0 < j) fun i j=>.int (i % j)):=opI fun i j _ _ _ _ _ hc q=>by
 have h1:(0:Int) < j:=hc;exact mod_int' (by lia) (by rw [Int.fmod_eq_emod_of_nonneg i (by lia)]; exact q)
theorem UQ:Ey X (binaryOp .Pow) (rI CPow fun i j=>.int (i ^ j.toNat)):=opI fun _ _ _ _ _ _ _ hc q=>pow_int_small hc.1 hc.2.1 hc.2.2 q
theorem unI {f:Value->Sem Value} {g:Int->Int}
  (rule:∀ (i:Int) (t:Tok) (s:Shared) (Q:Value->Shared->Prop) (E:Value->Shared->Prop),Q (.int (g i) s.toks) { s with toks:=s.toks + 1 }->wpAny (model X.prog X.w) X.A (f (.int i t)) Q E s) :
  UnR X f (rU fun i=>.int (g i)):=by
 intro pins s σ H x v Q I rx h;obtain ⟨i,rfl,q⟩:=h;obtain ⟨t,rfl⟩:=rx;exact rule i t s _ _ ⟨.int (g i),H,I.tok _,⟨_,rfl⟩,q⟩
theorem U2:UnR X (unaryOp .USub) (rU fun i=>.int (-i)):=unI fun _ _ _ _ _ q=>neg_int q
end
def UC:V->V->Bool
 | .non,.non=>true | .non,.int _=>true | .int _,.non=>true | .non,.bl _=>true | .bl _,.non=>true | .non,.str _=>true | .str _,.non=>true
 | .int _,.int _=>true | .bl _,.bl _=>true | .str _,.str _=>true | .byt _,.byt _=>true
 | .int _,.str _=>true | .str _,.int _=>true | .bl _,.str _=>true | .str _,.bl _=>true
 | _,_=>false
def rEq:R2:=fun x y H Q=>UC x y=true/\Q (.bl (decide (x=y))) H
def rNe:R2:=fun x y H Q=>UC x y=true/\Q (.bl (!decide (x=y))) H
theorem O0 {i j:Int}:decide (V.int i=V.int j)=(i == j):=by
 rw [ZO];simp
theorem RP {i j:Bool}:decide (V.bl i=V.bl j)=(i == j):=by
 rw [ZO];simp
theorem Oz {i j:Str}:decide (V.str i=V.str j)=(i == j):=by
 rw [ZO];simp
theorem O1 {i j:Array UInt8}:decide (V.byt i=V.byt j)=(i.toList == j.toList):=by
 rw [ZO];cases i
 cases j
 simp
section
variable {X:Cx} {a b c:Expr} {ta tb tc:TE} {pos:Pos}
theorem AO {pins:List (Addr × Obj)} {σ:St} {H:Hp} {s:Shared} {Q:VK} {k k':Bool} (I:An X pins σ H s) (q:Q (.bl k) H) (e:k=k'):EP X pins σ Q (.bool k') s:=by
 subst e;exact ⟨.bl k,H,I,rfl,q⟩
theorem Oc:Ey X (compareOp .Eq) rEq:=by
 intro pins s σ H x y v u Q I rx ry h;obtain ⟨hs,q⟩:=h;cases x with
 | non=>
  cases rx
  cases y with
  | non=>cases ry; exact PySem.EqNone.eq_none_none (AO I q (by simp))
  | bl j=>cases ry; exact PySem.EqNone.eq_none_bool (AO I q (by simp))
  | int j=>obtain ⟨t',rfl⟩:=ry; exact PySem.EqNone.eq_none_int (AO I q (by simp))
  | str j=>obtain ⟨t',rfl⟩:=ry; exact PySem.EqNone.eq_none_str (AO I q (by simp))
  | _=>exact absurd (show false=true from hs) Zd
 | bl i=>
  cases rx
  cases y with
  | non=>cases ry; exact PySem.EqNone.eq_bool_none (AO I q (by simp))
  | bl j=>cases ry; exact eq_bool (AO I q RP)
  | str j=>obtain ⟨t',rfl⟩:=ry; exact PySem.EqMixed.eq_bool_str (AO I q (by simp))
  | _=>exact absurd (show false=true from hs) Zd
 | int i=>
  obtain ⟨t,rfl⟩:=rx;cases y with
  | non=>cases ry; exact PySem.EqNone.eq_int_none (AO I q (by simp))
  | int j=>obtain ⟨t',rfl⟩:=ry; exact eq_int (AO I q O0)
  | str j=>obtain ⟨t',rfl⟩:=ry; exact PySem.EqMixed.eq_int_str (AO I q (by simp))
  | _=>exact absurd (show false=true from hs) Zd
 | str i=>
  obtain ⟨t,rfl⟩:=rx;cases y with
  | non=>cases ry; exact PySem.EqNone.eq_str_none (AO I q (by simp))
  | bl j=>cases ry; exact PySem.EqMixed.eq_str_bool (AO I q (by simp))
  | int j=>obtain ⟨t',rfl⟩:=ry; exact PySem.EqMixed.eq_str_int (AO I q (by simp))
  | str j=>obtain ⟨t',rfl⟩:=ry; exact eq_str (AO I q Oz)
  | _=>exact absurd (show false=true from hs) Zd
 | byt i=>
  obtain ⟨t,rfl⟩:=rx;cases y with
  | byt j=>obtain ⟨t',rfl⟩:=ry; exact PySem.W.eq_bytes (AO I q O1)
  | _=>exact absurd (show false=true from hs) Zd
 | _=>cases y <;> exact absurd (show false=true from hs) Zd
theorem Rk:Ey X (compareOp .NotEq) rNe:=by
 intro pins s σ H x y v u Q I rx ry h;obtain ⟨hs,q⟩:=h;cases x with
 | non=>
  cases rx
  cases y with
  | non=>cases ry; exact PySem.EqNone.ne_none_none (AO I q (by simp))
  | bl j=>cases ry; exact PySem.EqNone.ne_none_bool (AO I q (by simp))
  | int j=>obtain ⟨t',rfl⟩:=ry; exact PySem.EqNone.ne_none_int (AO I q (by simp))
  | str j=>obtain ⟨t',rfl⟩:=ry; exact PySem.EqNone.ne_none_str (AO I q (by simp))
  | _=>exact absurd (show false=true from hs) Zd
 | bl i=>
  cases rx
  cases y with
  | non=>cases ry; exact PySem.EqNone.ne_bool_none (AO I q (by simp))
  | bl j=>cases ry; exact ne_bool (AO I q (congrArg not RP))
  | str j=>obtain ⟨t',rfl⟩:=ry; exact PySem.EqMixed.ne_bool_str (AO I q (by simp))
  | _=>exact absurd (show false=true from hs) Zd
 | int i=>
  obtain ⟨t,rfl⟩:=rx;cases y with
  | non=>cases ry; exact PySem.EqNone.ne_int_none (AO I q (by simp))
  | int j=>obtain ⟨t',rfl⟩:=ry; exact ne_int (AO I q (congrArg not O0))
  | str j=>obtain ⟨t',rfl⟩:=ry; exact PySem.EqMixed.ne_int_str (AO I q (by simp))
  | _=>exact absurd (show false=true from hs) Zd
 | str i=>
  obtain ⟨t,rfl⟩:=rx;cases y with
  | non=>cases ry; exact PySem.EqNone.ne_str_none (AO I q (by simp))
  | bl j=>cases ry; exact PySem.EqMixed.ne_str_bool (AO I q (by simp))
  | int j=>obtain ⟨t',rfl⟩:=ry; exact PySem.EqMixed.ne_str_int (AO I q (by simp))
  | str j=>obtain ⟨t',rfl⟩:=ry; exact ne_str (AO I q (congrArg not Oz))
  | _=>exact absurd (show false=true from hs) Zd
 | byt i=>
  obtain ⟨t,rfl⟩:=rx;cases y with
  | byt j=>obtain ⟨t',rfl⟩:=ry; exact PySem.W.ne_bytes (AO I q (congrArg not O1))
  | _=>exact absurd (show false=true from hs) Zd
 | _=>cases y <;> exact absurd (show false=true from hs) Zd
theorem Hm:Ey X (compareOp .Lt) (Ug fun i j=>.bl (decide (i < j))):=SW fun _ _ _ _ _ _ _ q=>lt_int q
theorem LR:Ey X (compareOp .LtE) (Ug fun i j=>.bl (decide (i<=j))):=SW fun _ _ _ _ _ _ _ q=>le_int q
theorem Rl:Ey X (compareOp .Gt) (Ug fun i j=>.bl (decide (j < i))):=SW fun _ _ _ _ _ _ _ q=>gt_int q
theorem op_ge:Ey X (compareOp .GtE) (Ug fun i j=>.bl (decide (j<=i))):=SW fun _ _ _ _ _ _ _ q=>ge_int q
theorem Bi (b:Expr) {op:CmpOp} (h:op ≠ .In:=by decide) (h2:op ≠ .NotIn:=by decide):behindInMarks op b=false:=by
 have e1:(op == CmpOp.In)=false:=by cases op <;> first | rfl | exact absurd rfl h
 have e2:(op == CmpOp.NotIn)=false:=by cases op <;> first | rfl | exact absurd rfl h2
 cases b <;> simp [behindInMarks,e1,e2]
theorem Fb {op:CmpOp} {r:R2} (ho:Ey X (compareOp op) r) (ha:PE X a ta) (hb:PE X b tb) (hm:behindInMarks op b=false):PE X (.Compare a [op] [b] pos) (tOp r ta tb):=by
 intro pins s σ H Q I h;exact wpAny_Compare1 (Vr ha hb I h fun v u s2 x y H2 I2 rx ry q=>ho (pins:=pins) s2 σ H2 x y v u Q I2 rx ry q) hm
def TV (t:TE):TT:=fun σ H Q=>t σ H fun x H'=>∃ k,x=.bl k/\Q k H'
theorem AV {op:CmpOp} {r:R2} (ho:Ey X (compareOp op) r) (ha:PE X a ta) (hb:PE X b tb) (hm:behindInMarks op b=false):PT X (.Compare a [op] [b] pos) (TV (tOp r ta tb)):=by
 intro pins s σ H Q I h;refine wpAny_isTrue_Compare1 (Bj (ha (pins:=pins) s σ H _ I h) fun v s1 ⟨x,H1,I1,r1,q1⟩=>Bj (hb (pins:=pins) s1 σ H1 _ I1 q1) fun u s2 ⟨y,H2,I2,r2,q2⟩=>
  Bj (ho (pins:=pins) s2 σ H2 x y v u _ I2 r1 r2 q2) fun c s3 ⟨z,H3,I3,r3,k,e,q3⟩=>?_) hm
 subst e;cases r3
 exact wpAny_truthy_bool ⟨H3,I3,q3⟩
def MD (r r':R2) (ta tb tc:TE):TE:=fun σ H Q=>ta σ H fun x H1=>tb σ H1 fun y H2=>r x y H2 fun z H3=>∃ k,z=.bl k /\
 (if k=true then tc σ H3 fun w' H4=>r' y w' H4 Q else Q (.bl false) H3)
theorem Rf {op UR:CmpOp} {r r':R2} (ho:Ey X (compareOp op) r) (J2:Ey X (compareOp UR) r') (ha:PE X a ta) (hb:PE X b tb) (hc:PE X c tc)
  (hm:lastMarks [op,UR] [b,c]=false:=by with_unfolding_all rfl):PE X (.Compare a [op,UR] [b,c] pos) (MD r r' ta tb tc):=by
 intro pins s σ H Q I h;refine Compare_chain (Bj (ha (pins:=pins) s σ H _ I h) fun v s1 ⟨x,H1,I1,r1,q1⟩=>chain_link (Bj (hb (pins:=pins) s1 σ H1 _ I1 q1) fun u s2 ⟨y,H2,I2,r2,q2⟩=>
  Bj (ho (pins:=pins) s2 σ H2 x y v u _ I2 r1 r2 q2) fun d s3 ⟨z,H3,I3,r3,k,e,q3⟩=>?_)) hm
 subst e;cases r3
 refine wpAny_truthy_bool ?_;cases k with
 | false=>exact ite_ff ⟨.bl false,H3,I3,rfl,q3⟩
 | true=>exact ite_tt (chain_last (Bj (hc (pins:=pins) s3 σ H3 _ I3 q3) fun w' s4 ⟨z',H4,I4,r4,q4⟩=>J2 (pins:=pins) s4 σ H4 y z' u w' Q I4 r2 r4 q4))
theorem Io {op UR:CmpOp} {r r':R2} (ho:Ey X (compareOp op) r) (J2:Ey X (compareOp UR) r') (ha:PE X a ta) (hb:PE X b tb) (hc:PE X c tc)
  (hm:lastMarks [op,UR] [b,c]=false:=by with_unfolding_all rfl):PT X (.Compare a [op,UR] [b,c] pos) (TV (MD r r' ta tb tc)):=by
 intro pins s σ H Q I h;refine isTrue_chain (Bj (ha (pins:=pins) s σ H _ I h) fun v s1 ⟨x,H1,I1,r1,q1⟩=>test_link (Bj (hb (pins:=pins) s1 σ H1 _ I1 q1) fun u s2 ⟨y,H2,I2,r2,q2⟩=>
  Bj (ho (pins:=pins) s2 σ H2 x y v u _ I2 r1 r2 q2) fun d s3 ⟨z,H3,I3,r3,k,e,q3⟩=>?_)) hm
 subst e;cases r3
 refine wpAny_truthy_bool ?_;cases k with
 | false=>
  obtain ⟨k',e',q'⟩:=q3;cases e'
  exact ite_ff ⟨H3,I3,q'⟩
 | true=>
  refine ite_tt (test_last (Bj (hc (pins:=pins) s3 σ H3 _ I3 q3) fun w' s4 ⟨z',H4,I4,r4,q4⟩=>Bj (J2 (pins:=pins) s4 σ H4 y z' u w' _ I4 r2 r4 q4) fun d' s5 ⟨z2,H5,I5,r5,k2,e2,q5⟩=>?_));subst e2;cases r5
  exact wpAny_truthy_bool ⟨H5,I5,q5⟩
def Vu (K:YL) (x:V) (H:Hp) (k:Bool):Prop:=
 match x with
 | .non=>k=false
 | .bl b=>k=b
 | .int i=>k=(i != 0)
 | .str y=>y.length<=sizeLine/\k=((y.length:Int) != 0)
 | .byt y=>y.size<=sizeLine/\k=((y.size:Int) != 0)
 | .ref p=>(∃ xs,AD K H p xs/\k = !xs.isEmpty)\/(∃ xs,AI K H p xs/\k = !xs.isEmpty)\/∃ kvs,H p=some (.dK kvs)/\k = !kvs.isEmpty
 | _=>False
theorem MW {κ:Type} {kvs:List (κ × V)} {vs:List (κ × Value)} (r:KV kvs vs):(!vs.isEmpty) = !kvs.isEmpty:=by
 cases r <;> rfl
theorem IL {xs:List V} {Aq:List Value} (r:A0 xs Aq):(!Aq.toArray.isEmpty) = !xs.isEmpty:=by
 cases r <;> simp
theorem F5:(sizeLine:Nat) < 2 ^ 63:=by rw [sizeLine_eq]; decide
theorem U4:TruR X (fun x H Q=>∃ k,Vu X.K x H k/\Q k H):=by
 intro pins s σ H x v Q I rx h;obtain ⟨k,e,q⟩:=h;have hl:=F5;have hs:sizeLine=16777216:=sizeLine_eq;cases x with
 | non=>
  cases rx
  have e':k=false:=e;subst e';exact truthy_none ⟨H,I,q⟩
 | bl b=>
  cases rx
  have e':k=b:=e;subst e';exact wpAny_truthy_bool ⟨H,I,q⟩
 | int i=>
  obtain ⟨t,rfl⟩:=rx;have e':k=(i != 0):=e;subst e';exact PySem.P.truthy_int ⟨H,I,q⟩
 | str y=>
  obtain ⟨t,rfl⟩:=rx;obtain ⟨hy,e'⟩:y.length<=sizeLine/\k=((y.length:Int) != 0):=e;subst e';exact PySem.P.truthy_str (by lia) ⟨H,I.tok _,q⟩
 | byt y=>
  obtain ⟨t,rfl⟩:=rx;obtain ⟨hy,e'⟩:y.size<=sizeLine/\k=((y.size:Int) != 0):=e;subst e';exact PySem.W.truthy_bytes (by lia) ⟨H,I.tok _,q⟩
 | ref p=>
  cases rx
  have e':(∃ xs,AD X.K H p xs/\k = !xs.isEmpty)\/(∃ xs,AI X.K H p xs/\k = !xs.isEmpty)\/∃ kvs,H p=some (.dK kvs)/\k = !kvs.isEmpty:=e;rcases e' with ⟨xs,hx,e'⟩ | ⟨xs,hx,e'⟩ | ⟨kvs,hx,e'⟩
  ·subst e';obtain ⟨Aq,r,pl,hz⟩:=I.list hx;have hlen:=r.length;exact wpAny_truthy_list pl.isList (by simp only [Zi]; lia) ⟨H,I.tok _,by rw [IL r]; exact q⟩
  ·subst e';obtain ⟨Aq,r,pl,hz⟩:=I.tuple hx;have hlen:=r.length;exact truthy_tuple pl (by simp only [Zi]; lia) ⟨H,I.tok _,by rw [IL r]; exact q⟩
  ·subst e';obtain ⟨hz,hS,vs,r,m⟩:kvs.length<=sizeLine/\(p == sysModules)=false/\∃ vs,KV kvs vs/\s.heap.DictOf (AL X.prog X.w) p vs:=I.hok p _ hx;have hlen:kvs.length=vs.length:=Paired.length r;exact wpAny_truthy_dict hS m (by lia) ⟨H,I.tok _,by rw [MW r]; exact q⟩
 | _=>exact (show False from e).elim
theorem Il (ha:PE X a ta) (he:∀ whole,isTrue a X.env whole=(do let v <- whole; standAt a.pos; holding [v] (truthy v))) :
  PT X a (fun σ H Q=>ta σ H fun x H'=>∃ k,Vu X.K x H' k/\Q k H'):=by
 intro pins s σ H Q I h;exact isTrue_plain (Bj (ha (pins:=pins) s σ H _ I h) fun v s1 ⟨x,H1,I1,r1,q1⟩=>U4 (pins:=pins) s1 σ H1 x v Q I1 r1 q1) (he _)
theorem Ee:Ey X (binaryOp .Add) (fun x y H Q=>∃ i j,x=.str i/\y=.str j/\i.length + j.length<=sizeLine/\Q (.str (i ++ j)) H):=by
 intro pins s σ H x y v u Q I rx ry h;obtain ⟨i,j,rfl,rfl,hz,q⟩:=h;obtain ⟨t,rfl⟩:=rx;obtain ⟨t',rfl⟩:=ry;exact add_str (fun t' tk=>⟨.str (i ++ j),H,I.tok _,⟨_,rfl⟩,q⟩) hz
theorem BZ {x:V} {us:List Value} (r:A0 [x] us):∃ u,us=[u]/\A1 x u:=by
 cases r with
 | cons r1 r2=>cases r2; exact ⟨_,rfl,r1⟩
theorem N1 {x y:V} {us:List Value} (r:A0 [x,y] us):∃ u w',us=[u,w']/\A1 x u/\A1 y w':=by
 cases r with
 | cons r1 r2=>
  cases r2 with
  | cons r3 r4=>cases r4; exact ⟨_,_,rfl,r1,r3⟩
theorem RQ:Bd X (.builtin "abs") (fun xs H Q=>∃ i,xs=[.int i]/\Q (.int (if i < 0 then -i else i)) H):=by
 intro pins s σ H xs us Q I r h;obtain ⟨i,rfl,q⟩:=h;obtain ⟨u,rfl,t,rfl⟩:=BZ r;exact call_abs_int fun u tk=>⟨.int (if i < 0 then -i else i),H,I.tok _,⟨_,rfl⟩,q⟩
theorem Qe (hc:X.calm=true):Bd X (.builtin "max") (fun xs H Q=>∃ i j,xs=[.int i,.int j]/\Q (.int (if j > i then j else i)) H):=by
 intro pins s σ H xs us Q I r h;obtain ⟨i,j,rfl,q⟩:=h;obtain ⟨u,w',rfl,⟨t,rfl⟩,⟨t',rfl⟩⟩:=N1 r;refine max_two_ints (I.ok.hd hc) fun h' tk k=>⟨_,H,I.kept k,?_,q⟩
 by_cases hj:j > i
 ·rw [if_pos hj,if_pos hj]; exact ⟨_,rfl⟩
 ·rw [if_neg hj,if_neg hj]; exact ⟨_,rfl⟩
theorem GP (hc:X.calm=true):Bd X (.builtin "min") (fun xs H Q=>∃ i j,xs=[.int i,.int j]/\Q (.int (if j < i then j else i)) H):=by
 intro pins s σ H xs us Q I r h;obtain ⟨i,j,rfl,q⟩:=h;obtain ⟨u,w',rfl,⟨t,rfl⟩,⟨t',rfl⟩⟩:=N1 r;refine min_two_ints (I.ok.hd hc) fun h' tk k=>⟨_,H,I.kept k,?_,q⟩
 by_cases hj:j < i
 ·rw [if_pos hj,if_pos hj]; exact ⟨_,rfl⟩
 ·rw [if_neg hj,if_neg hj]; exact ⟨_,rfl⟩
theorem GQ:Bd X (.type "int") (fun xs H Q=>(∃ i,xs=[.int i]/\Q (.int i) H)\/∃ k,xs=[.bl k]/\Q (.int (if k then 1 else 0)) H):=by
 intro pins s σ H xs us Q I r h;rcases h with ⟨i,rfl,q⟩ | ⟨k,rfl,q⟩
 ·obtain ⟨u,rfl,t,rfl⟩:=BZ r;exact call_int_int ⟨.int i,H,I,⟨_,rfl⟩,q⟩
 ·obtain ⟨u,rfl,r1⟩:=BZ r;cases r1
  exact call_int_bool ⟨.int (if k then 1 else 0),H,I.tok _,⟨_,rfl⟩,q⟩
end
structure Vw (h:Heap) (x dx C:Addr) (mA:Str->Option Value):Prop where
 obj:h.get? x=some (bJ C dx)
 ns:h.Ns1 dx mA
 ne:dx ≠ x
theorem Py {h:Heap} {dx:Addr} {mA:Str->Option Value} (n:h.Ns1 dx mA):∃ od,h.get? dx=some od/\∀ name,bR name od=some (mA name):=by
 obtain ⟨o,es,ep,ho,hd,hk,_,hm⟩:=n;refine ⟨o,ho,fun name=>?_⟩;have e:=hm name;unfold nsFind findBy at e;rw [<-Array.find?_toList] at e;unfold bR;rw [hd];dsimp only;split
 ·rename_i y q
  rw [q] at e;exact congrArg some e
 ·rename_i q
  rw [q] at e;have a:es.toList.any (·.refKey)=false:=by
   rw [List.any_eq_false];intro y hy;obtain ⟨z,t,hkey⟩:=hk y (cy.mp hy);simp [DictEntry.refKey,hkey]
  have a':¬ es.toList.any (·.refKey)=true:=by rw [a]; exact Zd
  rw [if_neg a'];exact congrArg some e
theorem Vw.look {h:Heap} {x dx C:Addr} {mA:Str->Option Value} (I:Vw h x dx C mA):∃ od,PySem.W.InstAt h x (bJ C dx) C (some od)/\∀ name,bR name od=some (mA name):=
 let ⟨od,ho,hl⟩:=Py I.ns
 ⟨od,⟨I.obj,rfl,rfl,ho⟩,hl⟩
section
variable {prog:Program} {w:World} {A:Around} {E:Value->Shared->Prop} {s:Shared} {K:YL} {x dx C f:Addr} {mA:Str->Option Value} {name:Str} {v:Value}
end
theorem GX.some_of {v:V} {o:Option Value} (r:GX (some v) o):∃ u,o=some u/\A1 v u:=by
 cases o with
 | none=>exact (show False from r).elim
 | some u=>exact ⟨u,rfl,r⟩
section
variable {P:Program} {w:World} {H H':Hp} {h h':Heap} {a C dx:Addr} {fs VC:List (Str × V)}
theorem To (hok:FD P w H h) (e:H a=some (.ins C dx fs)):∃ mA,Vw h a dx C mA/\(∀ f,GX (fs.lookup f) (mA f))/\PySem.Within mA (fs.map (·.1))/\fs.length<=1000/\H dx=some (.own a):=by
 obtain ⟨d,z,ne,ob,mA,n,r,q⟩:=(show A5 P w H h a (.ins C dx fs) from hok a _ e)
 exact ⟨mA,⟨ob,n,ne⟩,r,q,z,d⟩
end
structure Cls (K:YL) (C:Addr):Prop where
 pg:cM K C Str.empty=true
 hd:PySem.W.hasDictIn K C=true
 po:PySem.W.plainOver K C=true
 sa:cU K (.ref C) "__setattr__"=some (some (.builtin "object.__setattr__"))
theorem Cls.get {K:YL} {C:Addr} (c:Cls K C) (f:Str):cM K C f=true:=c.pg
section
variable {X:Cx} {pins:List (Addr × Obj)} {σ:St} {H:Hp} {s:Shared} {a C dx:Addr} {fs:List (Str × V)} {f:Str} {v:V} {A:Around} {E:Value->Shared->Prop}
end
section
variable {X:Cx} {o e value:Expr} {f:Str} {pos pos' tpos:Pos} {ta tv:TE}
end
section
variable {X:Cx} {pins:List (Addr × Obj)} {σ:St} {H:Hp} {s:Shared} {A:Around} {E:Value->Shared->Prop} {Q:Value->Shared->Prop} {c:Value} {b:Bool}
inductive EO (K:YL) (H:Hp):V->Value->Prop where
 | non:EO K H .non (.type "NoneType")
 | bl (x:Bool):EO K H (.bl x) (.type "bool")
 | int (i:Int):EO K H (.int i) (.type "int")
 | str (x:Str):EO K H (.str x) (.type "str")
 | flt (x:UInt64):EO K H (.flt x) (.type "float")
 | lst {a:Addr} {xs:List V} (e:H a=some (.lst xs)):EO K H (.ref a) (.type "list")
 | frz {a:Addr} {o:Obj} {xs:List V} (e:H a=some (.frz o (.lst xs))):EO K H (.ref a) (.type "list")
 | tup {a:Addr} {xs:List V} (e:H a=some (.tup xs)):EO K H (.ref a) (.type "tuple")
 | dK {a:Addr} {kvs:List (A7 × V)} (e:H a=some (.dK kvs)):EO K H (.ref a) (.type "dict")
 | dT {a:Addr} {kvs:List (List A7 × V)} (e:H a=some (.dT kvs)):EO K H (.ref a) (.type "dict")
 | ins {a C dx:Addr} {fs:List (Str × V)} (e:H a=some (.ins C dx fs)) (cl:Cls K C) (ha:cU K (.ref C) "__class__"=some (some (.builtin "object.__class__")))
   (hn:PySem.W.specialIn K (.builtin "object.__class__") "__get__"=some (some (.builtin "getset_descriptor.__get__"))) (htk:PySem.W.takesIn K (.builtin "object.__class__")=some true)
   (hm:PySem.W.mroIn K C (.type "object")=some true):EO K H (.ref a) (.ref C)
theorem PK {x:V} {u t:Value} (I:An X pins σ H s) (rx:A1 x u) (ty:EO X.K H x t) (e:bh X.K t c=some b) (h:∀ tk,Q (.bool b) { s with toks:=tk }) :
  wpAny (model X.prog X.w) A (call (.builtin "isinstance") [u,c]) Q E s:=by
 cases ty with
 | non=>cases (show u=Value.none from rx); exact ZM PySem.W.kitx_none I.kIn True.intro e (fun z=>nomatch z) h
 | bl y=>cases (show u=Value.bool y from rx); exact ZM PySem.W.kitx_bool I.kIn True.intro e (fun z=>nomatch z) h
 | int i=>obtain ⟨t,q⟩:=(show ∃ t,u=Value.int i t from rx); cases q; exact ZM PySem.W.kitx_int I.kIn True.intro e (fun z=>nomatch z) h
 | str y=>obtain ⟨t,q⟩:=(show ∃ t,u=Value.str y t from rx); cases q; exact ZM PySem.W.kitx_str I.kIn True.intro e (fun z=>nomatch z) h
 | flt y=>obtain ⟨t,q⟩:=(show ∃ t,u=Value.float y t from rx); cases q; exact ZM PySem.W.kitx_float I.kIn True.intro e (fun z=>nomatch z) h
 | @lst a xs ea=>
  cases (show u=Value.ref a from rx)
  obtain ⟨_,_,n,_,h1⟩:=(show A5 X.prog X.w H s.heap a (.lst xs) from I.hok a _ ea)
  exact ZM cE I.kIn ⟨_,h1,rfl⟩ e (fun z=>nomatch z) h
 | @frz a ob xs ea=>
  cases (show u=Value.ref a from rx)
  obtain ⟨_,_,_,n,_,h1⟩:=(show A5 X.prog X.w H s.heap a (.frz ob (.lst xs)) from I.hok a _ ea)
  exact ZM cE I.kIn ⟨_,h1,rfl⟩ e (fun z=>nomatch z) h
 | @tup a xs ea=>
  cases (show u=Value.ref a from rx)
  obtain ⟨_,_,_,p,_⟩:=(show A5 X.prog X.w H s.heap a (.tup xs) from I.hok a _ ea)
  obtain ⟨o,h1,h2,_⟩:=p;exact ZM PySem.W.kitx_tuple I.kIn ⟨o,h1,h2⟩ e (fun z=>nomatch z) h
 | @dK a kvs ea=>
  cases (show u=Value.ref a from rx)
  obtain ⟨_,_,vs,_,p⟩:=(show A5 X.prog X.w H s.heap a (.dK kvs) from I.hok a _ ea)
  obtain ⟨o,es,ep,h1,h2,_⟩:=p;exact ZM cF I.kIn ⟨o,h1,h2.1⟩ e (fun z=>nomatch z) h
 | @dT a kvs ea=>
  cases (show u=Value.ref a from rx)
  obtain ⟨_,_,xs,_,o,es,ep,h1,h2,_⟩:=(show A5 X.prog X.w H s.heap a (.dT kvs) from I.hok a _ ea)
  exact ZM cF I.kIn ⟨o,h1,h2.1⟩ e (fun z=>nomatch z) h
 | @ins a C dx fs ea cl ha hn htk hm=>
  cases (show u=Value.ref a from rx)
  obtain ⟨mA,O,_⟩:=To I.hok ea;obtain ⟨od,J,_⟩:=O.look;exact ZM (PySem.W.kitx_own (cl.get _) cl.hd ha hn htk hm) I.kIn J e (fun z=>nomatch z) h
end
structure En (k:Nat) (A:Around):Prop where
 hd:A.handled=none
 dp:A.depth + 3 * k + 5 < recursionLimit
 un:A.units + 16 * k + 200 < cLine
 gd:A.guards=some []:=by rfl
theorem En.mono {j k:Nat} {A:Around} (r:En k A) (h:j<=k):En j A:=⟨r.hd,by have:=r.dp; lia,by have:=r.un; lia,r.gd⟩
theorem En.deeper {k:Nat} {A:Around} (r:En (k + 1) A) (env:Env):En k (A.deeper env):=
 ⟨r.hd,by have:=r.dp; show A.depth + 1 + 3 * k + 5 < _; lia,by have:=r.un; show A.units + 3 + 16 * k + 200 < _; lia,r.gd⟩
theorem En.depth {k:Nat} {A:Around} (r:En k A):A.depth < recursionLimit:=by have:=r.dp; lia
theorem En.units {k:Nat} {A:Around} (r:En k A):A.units + 64 < cLine:=by have:=r.un; lia
def tNil:TA:=fun _ H Q=>Q [] H
def tCons (ta:TE) (tr:TA):TA:=fun σ H Q=>ta σ H fun x H1=>tr σ H1 fun xs H2=>Q (x :: xs) H2
section
variable {X:Cx} {e:Expr} {es:List Expr} {te:TE} {t:TA} {pos:Pos}
theorem Ac:PA X [] tNil:=fun _ _ _ _ H Q I h=>Calls.spliced_nil ⟨[],H,I,.nil,h⟩
theorem Aa (ha:PE X e te) (hr:PA X es t) (hs:starEach (e :: es) X.env=(false,eval e X.env) :: starEach es X.env:=by rfl):PA X (e :: es) (tCons te t):=by
 intro pos pins s σ H Q I h;rw [hs];show wpAny _ _ (spliced ((false,eval e X.env) :: backTo pos (starEach es X.env))) _ _ s
 refine Calls.spliced_cons (Bj (ha (pins:=pins) s σ H _ I h) fun u s1 ⟨x,H1,I1,r1,q1⟩=>?_);exact Bj (hr (pos:=pos) (pins:=pins) s1 σ H1 _ I1 q1) fun us s2 ⟨xs,H2,I2,r2,q2⟩=>⟨x :: xs,H2,I2,.cons r1 r2,q2⟩
def tTup (t:TA):TE:=fun σ H Q=>t σ H fun xs H1=>xs.length<=sizeLine/\∀ p,H1 p=none->Q (.ref p) (upd H1 p (.tup xs))
def tLst (t:TA):TE:=fun σ H Q=>t σ H fun xs H1=>xs.length<=sizeLine/\∀ p,H1 p=none->Q (.ref p) (upd H1 p (.lst xs))
theorem Bh {x1} (h:PA X es t):PE X (.Tuple es x1 pos) (tTup t):=by
 intro pins s σ H Q I hq;refine wpAny_Tuple_spliced (Bj (h (pos:=pos) (pins:=pins) s σ H _ I hq) fun us s1 ⟨xs,H1,I1,r,z,q⟩=>⟨by rw [<-r.length]; exact z,?_⟩);have hf:H1 s1.heap.objs.size=none:=I1.hok.fresh (YO _);refine ⟨.ref s1.heap.objs.size,upd H1 s1.heap.objs.size (.tup xs),I1.laid (t':=s1.toks) (fun b u e=>YK _ e) (YO _) ?_,rfl,q _ hf⟩;exact ⟨z,us,r,⟨_,YW _ rfl,rfl,_,rfl⟩,Np.new rfl rfl⟩
theorem Bq (h:PA X es t):PE X (.List es pos) (tLst t):=by
 intro pins s σ H Q I hq;refine wpAny_List_spliced (Bj (h (pos:=pos) (pins:=pins) s σ H _ I hq) fun us s1 ⟨xs,H1,I1,r,z,q⟩=>⟨by rw [<-r.length]; exact z,?_⟩);have hf:H1 s1.heap.objs.size=none:=I1.hok.fresh (YO _);refine ⟨.ref s1.heap.objs.size,upd H1 s1.heap.objs.size (.lst xs),I1.laid (t':=s1.toks) (fun b u e=>YK _ e) (YO _) ?_,rfl,q _ hf⟩;exact ⟨z,us,0,r,YW _ rfl⟩
end
abbrev Sp:=List V->Hp->VK->XK->Prop
abbrev Sb:=List Env->Hp->Shared->XK->Value->Shared->Prop
structure TN (P:Program) (w:World) (K:YL) (mg:Str->Option Value) (base:Heap) (A:Around) (outer:List Env) (s:Shared) (H:Hp):Prop where
 frames:A.frames=some outer
 mod:Mod K mg base
 bs:∀ b o,base.get? b=some o->s.heap.get? b=some o/\H b=none
 bsz:base.objs.size<=s.heap.objs.size
 funs:s.heap.FunFrames base outer
 frf:∀ b ∈ RD outer,H b=none
 hok:FD P w H s.heap
 bare:AllBare s.gens
def CE (outer:List Env) (P:Program) (w:World) (H:Hp) (s:Shared) (Q:VK) (u:Value) (s':Shared):Prop:=
 ∃ v H',s'.os=s.os/\AllBare s'.gens/\Un (RD outer) [] H H' s.heap s'.heap/\FD P w H' s'.heap/\A1 v u/\Q v H'
def CR (CX:Sb) (outer:List Env) (P:Program) (w:World) (H:Hp) (s:Shared) (Q:VK) (E:XK) (r:Result) (s':Shared):Prop:=
 match r with
 | .ok (.ret u)=>CE outer P w H s Q u s'
 | .ok _=>False
 | .error e=>CX outer H s E e s'
structure A3 (P:Program) (w:World) (K:YL) (mg:Str->Option Value) (base:Heap) (CX:Sb) (k:Nat) (f:Addr) (fd:FuncData) (ps:List Str) (sp:Sp):Prop where
 len:∀ vs H Q E,sp vs H Q E->vs.length=ps.length
 run:∀ (A:Around) (outer:List Env) (s:Shared) (H:Hp) (args:Args) (us:List Value) (vs:List V) (Q:VK) (E:XK),En k A->TN P w K mg base A outer s H->BindsTo s fd args (ps.zip us)->A0 vs us->sp vs H Q E ->
  codeAny (model P w) A (.call (.ref f) args) (CR CX outer P w H s Q E) s
section
variable {X:Cx} {pins:List (Addr × Obj)} {σ:St} {H:Hp} {s s':Shared}
theorem An.env0 (I:An X pins σ H s):TN X.prog X.w X.K X.mg X.base X.A X.stack s H:=
 ⟨I.ok.frames,I.ok.mod,I.bs,Zj I.ok.bsz I.sz,I.stack,I.stkFree,I.hok,I.bare⟩
theorem An.after {Q:VK} {u:Value} (I:An X pins σ H s) (h:CE X.stack X.prog X.w H s Q u s'):EP X pins σ Q u s':=by
 obtain ⟨v,H',os,bare,un,hok,r,q⟩:=h;obtain ⟨hh,g,d,t,X4⟩:=s';obtain rfl:X4=s.os:=os;exact ⟨v,H',I.call (h':=hh) (g':=g) (d':=d) (t':=t) (ch:=[]) un hok bare (fun b z=>absurd z (by simp)),r,q⟩
end
def tCall (sp:Sp) (dvs:List V) (E:XK) (t:TA):TE:=fun σ H Q=>t σ H fun vs H1=>sp (vs ++ dvs) H1 Q E
def Hx (K:YL) (fd:FuncData) (ps:List Str) (ds:List Value):Prop:=
 ∀ (s:Shared) (us:List Value),K.In s.heap->(us ++ ds).length=ps.length->BindsTo s fd ⟨us,[]⟩ (ps.zip (us ++ ds))
theorem Hx.all {K:YL} {fd:FuncData} {ps:List Str} (h:∀ us:List Value,us.length=ps.length->bindArgs fd ⟨us,[]⟩=pure (ps.zip us)):Hx K fd ps []:=fun s us _ hl=>by
 rw [ZE] at hl ⊢;exact .of_eq (h us hl)
def Nu (CX:Sb) (X:Cx) (E:XK):Prop:=∀ (pins:List (Addr × Obj)) (σ:St) (H:Hp) (s:Shared) (e:Value) (s':Shared),An X pins σ H s->CX X.stack H s E e s'->X.xe e s'
section
variable {X:Cx} {CX:Sb} {k:Nat} {f C:Addr} {fd:FuncData} {ps:List Str} {sp:Sp} {dvs:List V} {ds:List Value} {E:XK} {x m:Str} {p pos apos:Pos} {e o:Expr} {es:List Expr} {ta:TE} {t:TA}
theorem UG {pins:List (Addr × Obj)} {σ:St} {H:Hp} {s:Shared} {Q:VK} {us:List Value} {vs:List V} (F:A3 X.prog X.w X.K X.mg X.base CX k f fd ps sp) (hr:En k X.A) (hb:Hx X.K fd ps ds) (hd:A0 dvs ds) (hx:Nu CX X E)
  (I:An X pins σ H s) (r:A0 vs us) (h:sp (vs ++ dvs) H Q E):wpAny (model X.prog X.w) X.A (call (.ref f) us) (EP X pins σ Q) X.xe s:=by
 have r2:A0 (vs ++ dvs) (us ++ ds):=r.append hd;have hl:(us ++ ds).length=ps.length:=by rw [<-r2.length]; exact F.len _ _ _ _ h
 refine wpAny_call (codeAny_mono (F.run X.A X.stack s H ⟨us,[]⟩ (us ++ ds) (vs ++ dvs) Q E hr I.env0 (hb s us I.kIn hl) r2 h) fun r s' hq=>?_);cases r with
 | error e=>exact hx pins σ H s e s' I hq
 | ok fl=>
  cases fl with
  | ret u=>exact I.after hq
  | next=>exact False.elim hq
  | brk=>exact False.elim hq
  | cont=>exact False.elim hq
theorem Aj (F:A3 X.prog X.w X.K X.mg X.base CX k f fd ps sp) (hr:En k X.A) (hg:Gl X x) (hm:X.mg x=some (.ref f)) (hk:bj X.K (.ref f)=true) (hb:Hx X.K fd ps ds) (hd:A0 dvs ds) (hx:Nu CX X E)
  (ha:PA X (e :: es) t) (hdb:(x == ("__debug__":Str))=false:=by decide) (he:starEach (e :: es) X.env=(false,eval e X.env) :: starEach es X.env:=by rfl) (hpl:(backTo pos (starEach es X.env)).any (·.1)=false:=by rfl) :
  PE X (.Call (.Name x p) (e :: es) [] pos) (tCall sp dvs E t):=by
 intro pins s σ H Q I h;refine wpAny_Call_Name_kw (Ol I hg hm ?_ hdb);refine PySem.W.callWith_K (h₀:=X.base) I.ok.mod.kin hk (Bj (ha (pos:=pos) (pins:=pins) s σ H _ I h) fun us s1 ⟨vs,H1,I1,r,q⟩=>⟨I1.kIn,?_⟩) he hpl;exact UG F hr hb hd hx I1 r q
end
section
variable {X:Cx} {CX:Sb} {k:Nat} {f C:Addr} {fd:FuncData} {ps ks:List Str} {sp:Sp} {E:XK} {x m:Str} {p pos apos kpos:Pos} {e o:Expr} {es:List Expr} {kws:List Keyword} {te ta:TE} {t tk:TA} {nm:Option Str}
variable {g:List Value->List Value->List Value} {gV:List V->List V->List V}
end
structure A2 (N P:List Str) (sc:Scope):Prop where
 kind:sc.kind=.function
 co:sc.isCoroutine=false
 gen:sc.isGenerator=false
 nd:N.Nodup
 pre:N.take P.length=P
 par:∀ x ∈ P,sc.names.lookup x=some .local\/sc.names.lookup x=some .cell
 nofree:∀ y ∈ sc.names,y.2 ≠ .free
theorem Km {kindOf:Str->Option NameKind} {x:Str}:∀ {binds:List (Str × Value)} {m:Str->Option Value},(∀ v,(x,v) ∉ binds)->bindL kindOf binds m x=m x
 | [],_,_=>rfl
 | (n,v) :: r,m,h=>by
  unfold bindL;rw [Km fun w hw=>h w (Ze _ hw)];split
  ·have:x ≠ n:=by rintro rfl; exact h v Zg
   simp [this]
  ·rfl
theorem Ko {kindOf:Str->Option NameKind} {x:Str}:∀ {binds:List (Str × Value)} {m:Str->Option Value},(∀ v,(x,v) ∉ binds)->bindC kindOf binds m x=m x
 | [],_,_=>rfl
 | (n,v) :: r,m,h=>by
  unfold bindC;rw [Ko fun w hw=>h w (Ze _ hw)];split
  ·rfl
  ·have:x ≠ n:=by rintro rfl; exact h v Zg
   simp [this]
theorem Kn {kindOf:Str->Option NameKind} {x:Str} {v:Value}:∀ {P:List Str} {vs:List Value} {i:Nat} {m:Str->Option Value},P.Nodup->P[i]? = some x->vs[i]? = some v->kindOf x=some .local ->
  bindL kindOf (P.zip vs) m x=some v
 | [],_,_,_,_,h,_,_=>by simp at h
 | _ :: _,[],_,_,_,_,h,_=>by simp at h
 | p :: P,w :: vs,0,m,nd,h1,h2,hk=>by
  simp at h1 h2; subst h1; subst h2;show bindL kindOf ((p,w) :: P.zip vs) m p=_
  unfold bindL;rw [Km fun v hv=>(Zu.mp nd).1 (bU hv).1,if_pos hk];simp
 | p :: P,w :: vs,i + 1,m,nd,h1,h2,hk=>by
  show bindL kindOf ((p,w) :: P.zip vs) m x=_
  unfold bindL;exact Kn (i:=i) (Zu.mp nd).2 (by simpa using h1) (by simpa using h2) hk
theorem Kq {kindOf:Str->Option NameKind} {x:Str} {v:Value}:∀ {P:List Str} {vs:List Value} {i:Nat} {m:Str->Option Value},P.Nodup->P[i]? = some x->vs[i]? = some v->kindOf x ≠ some .local ->
  bindC kindOf (P.zip vs) m x=some v
 | [],_,_,_,_,h,_,_=>by simp at h
 | _ :: _,[],_,_,_,_,h,_=>by simp at h
 | p :: P,w :: vs,0,m,nd,h1,h2,hk=>by
  simp at h1 h2; subst h1; subst h2;show bindC kindOf ((p,w) :: P.zip vs) m p=_
  unfold bindC;rw [Ko fun v hv=>(Zu.mp nd).1 (bU hv).1,if_neg hk];simp
 | p :: P,w :: vs,i + 1,m,nd,h1,h2,hk=>by
  show bindC kindOf ((p,w) :: P.zip vs) m x=_
  unfold bindC;exact Kq (i:=i) (Zu.mp nd).2 (by simpa using h1) (by simpa using h2) hk
def start (N:List Str) (vs:List V):St:=vs.map some ++ dw (N.length - vs.length) none
def J5 (CX:Sb) (P:Program) (w:World) (K:YL) (mg:Str->Option Value) (base:Heap) (N:List Str) (qual:Str) (scope:Scope) (f:Addr) (cd:Value) (A:Around) (outer:List Env) (s:Shared) (H:Hp) (E:XK):Cx where
 prog:=P
 w:=w
 K:=K
 mg:=mg
 base:=base
 A:=A.deeper (envOfC qual scope s.heap.objs.size f cd)
 N:=N
 s₀:=s
 H₀:=H
 env:=envOfC qual scope s.heap.objs.size f cd
 outer:=outer
 stack:=envOfC qual scope s.heap.objs.size f cd :: outer
 ex:=[]
 calm:=true
 fn:=fun _=>true
 pn:=[]
 xe:=fun e s'=>wpAny (model P w) (A.deeper (envOfC qual scope s.heap.objs.size f cd)) (leaving (envOfC qual scope s.heap.objs.size f cd) e) (fun _ VR=>CX outer H s E e VR) (fun e' VR=>CX outer H s E e' VR) s'
theorem Mu {sc:Scope} {n:Nat} {x:Str} (h:sc.names.lookup x=some .cell):∃ c,(cellsFrom n sc.names []).lookup x=some c:=by
 have q:=bW sc.names n [] (.inl h);exact bV.mp q
theorem PM {CX:Sb} {P:Program} {w:World} {K:YL} {mg:Str->Option Value} {base:Heap} {N ps:List Str} {qual:Str} {scope:Scope} {f:Addr} {cd:Value} {A:Around} {outer:List Env} {s s1:Shared} {H:Hp} {E:XK} {us:List Value} {vs:List V}
  (S:A2 N ps scope) (hd:A.handled=none) (e0:TN P w K mg base A outer s H) (hl:vs.length=ps.length) (r:A0 vs us)
  (x:InCallC s s.heap.objs.size (bindL (envOfC qual scope s.heap.objs.size f cd).kindOf (ps.zip us) fun _=>none) (cellsFrom (s.heap.objs.size + 1) scope.names []) (bindC (envOfC qual scope s.heap.objs.size f cd).kindOf (ps.zip us) fun _=>none) s1) :
  An (J5 CX P w K mg base N qual scope f cd A outer s H E) [] (start N vs) H s1:=by
 have hpl:ps.length<=N.length:=by have:=congrArg ZW S.pre; rw [Zy] at this; lia
 obtain ⟨h1,tk,rfl,hk⟩:=x.done;have noA:∀ b:Addr,b ∉ (J5 CX P w K mg base N qual scope f cd A outer s H E).ex:=fun b z=>absurd (show b ∈ ([]:List Addr) from z) (by simp)
 refine ⟨⟨e0.mod,S.kind,rfl,rfl,YO _,fun y z c h1 h2=>?_,fun y hy=>?_,fun y c _ h=>?_,fun _=>hd,Around.frames_deeper e0.frames,.inr ⟨rfl,rfl⟩,fun b z=>absurd z (noA b),e0.bs,e0.bsz,fun b _ _=>noA b,fun b z=>absurd z (noA b),e0.funs,e0.frf⟩,
  rfl,e0.bare,Un.kept hk,⟨_,x.toInCall.ns,fun i y v h1 h2 h3=>?_⟩,fun y c h=>⟨_,x.cell y c h⟩,e0.hok.fresh (YO _),fun y c h=>?_,fun p hp=>absurd (show p ∈ ([]:List (Addr × Obj)) from hp) (by simp),e0.hok.kept hk,?_⟩
 ·exact name_of_addr x.apart (PySem.mem_of_lookup h1) (PySem.mem_of_lookup h2)
 ·have hy:scope.names.lookup y=some .cell\/scope.names.lookup y=some .free:=hy;rcases hy with hy | hy
  ·exact Mu hy
  ·exact absurd rfl (S.nofree _ (PySem.mem_of_lookup hy))
 ·exact bg (x.above y c (PySem.mem_of_lookup h))
 ·have hi:i < vs.length:=by
   unfold start at h2;by_cases hi:i < vs.length
   ·exact hi
   ·rw [Zr (by simpa using hi)] at h2;rw [List.getElem?_replicate] at h2;split at h2 <;> cases h2
  have ha:vs[i]? = some v:=by
   unfold start at h2;rw [Zs (by simpa using hi),YS] at h2;cases e:vs[i]? with
   | none=>rw [e] at h2; cases h2
   | some a=>rw [e] at h2; cases h2; rfl
  obtain ⟨u,hu,rv⟩:=r.get ha;have hp:ps[i]? = some y:=by
   rw [<-S.pre,List.getElem?_take_of_lt (by lia)]; exact h1
  have ndP:ps.Nodup:=by rw [<-S.pre]; exact S.nd.sublist (bG _ _)
  refine ⟨u,rv,?_⟩;rcases S.par y (YN hp) with k | k
  ·exact .inl ⟨k,Kn ndP hp hu k⟩
  ·obtain ⟨c,e⟩:=Mu (n:=s.heap.objs.size + 1) k;refine .inr ⟨.inl k,c,e,?_⟩;have q:=x.cell y c e;rw [Kq ndP hp hu (by show scope.names.lookup y ≠ _; rw [k]; decide)] at q;exact q
 ·exact e0.hok.fresh (bg (x.above y c (PySem.mem_of_lookup h)))
 ·unfold start;show _=N.length
  rw [YR,YI,List.length_replicate];lia
theorem fn_of {CX:Sb} {P:Program} {w:World} {K:YL} {mg:Str->Option Value} {base:Heap} {k:Nat} {f:Addr} {name qual:Str} {params:Arguments} {body:List Stmt} {scope:Scope} {dV kV doc pm cdv ct oc:Value} {an od:Option Addr}
  {osl:Array (Option Value)} {N ps:List Str} {sp:Sp} (lk:K.lookup f=some ⟨oc,od,.func (ag name qual params body scope dV kV doc pm an cdv ct),osl⟩) (hcd:bp K cdv qual=true) (S:A2 N ps scope)
  (len:∀ vs H Q E,sp vs H Q E->vs.length=ps.length)
  (hbody:∀ (A:Around) (outer:List Env) (s:Shared) (H:Hp) (vs:List V) (Q:VK) (E:XK),En k (A.deeper (envOfC qual scope s.heap.objs.size f cdv))->sp vs H Q E ->
   ∃ t,Mx (J5 CX P w K mg base N qual scope f cdv A outer s H E) body t/\t { nx:=fun _ H'=>Q .non H',rt:=Q } (start N vs) H) :
  A3 P w K mg base CX (k + 1) f (ag name qual params body scope dV kV doc pm an cdv ct) ps sp:=by
 refine ⟨len,fun A outer s H args us vs Q E hr e0 hb r hsp=>?_⟩;have hl:=len _ _ _ _ hsp;have KX:K.In s.heap:=e0.mod.kin.keeps fun b o e=>(e0.bs b o e).1
 have lim:s.heap.NoLimit:=e0.mod.nolimit.keeps fun b o e=>(e0.bs b o e).1
 have hkind:∀ y ∈ ps.zip us,scope.names.lookup y.1=some .local\/(scope.names.lookup y.1=some .cell/\((cellsFrom (s.heap.objs.size + 1) scope.names []).lookup y.1).isSome=true):=fun ⟨n,v⟩ hy=>by
  rcases S.par n (bU hy).1 with q | q
  ·exact .inl q
  ·exact .inr ⟨q,bW _ _ _ (.inl q)⟩
 refine codeAny_call_function hr.depth (KX _ _ lk) rfl S.co S.gen rfl (PySem.W.codeRec_of KX hcd) (hb _ _ _ _ ?_);refine wpAny_newFunctionEnv_cells S.kind hkind fun env he s1 x=>?_
 subst he;refine ⟨lim.keeps x.toInCall.keep,codeAny_func ?_⟩;obtain ⟨t,ht,hq⟩:=hbody A outer s H vs Q E (hr.deeper _) hsp;have I:An (J5 CX P w K mg base N qual scope f cdv A outer s H E) [] (start N vs) H s1:=PM S hr.hd e0 hl r x;refine wpAny_mono (ht s1 (start N vs) H _ I hq) (fun fl s' hs=>?_) fun e s' hs=>hs
 have fin:∀ {Aw:St} {H':Hp} {v:V} {u:Value},An (J5 CX P w K mg base N qual scope f cdv A outer s H E) [] Aw H' s'->A1 v u->Q v H'->CE outer P w H s Q u s':=
  fun {Aw H' v u} J rv q=>⟨v,H',J.os,J.bare,J.base,J.hok,rv,q⟩
 cases fl with
 | ret u=>
  obtain ⟨v,Aw,H',J,rv,q⟩:=hs;exact fin J rv q
 | next=>
  obtain ⟨Aw,H',J,q⟩:=hs;exact fin (v:=V.non) (u:=Value.none) J rfl q
 | brk=>
  obtain ⟨_,_,_,q⟩:=hs;exact False.elim q
 | cont=>
  obtain ⟨_,_,_,q⟩:=hs;exact False.elim q
section
variable {X:Cx} {x:Str} {p pos:Pos} {e:Expr} {es:List Expr} {t:TA} {id T:String} {r:List V->Hp->VK->Prop}
def tCB (r:List V->Hp->VK->Prop) (t:TA):TE:=fun σ H Q=>t σ H fun vs H1=>r vs H1 Q
theorem Al (hc:Bd X (.builtin id) r) (hg:Gl X x) (hm:X.mg x=none) (hv:bootBuiltins x=some (.builtin id)) (ha:PA X (e :: es) t) (hn:x ≠ "__name__":=by decide) (hdb:(x == ("__debug__":Str))=false:=by decide)
  (he:starEach (e :: es) X.env=(false,eval e X.env) :: starEach es X.env:=by rfl) (hpl:(backTo pos (starEach es X.env)).any (·.1)=false:=by rfl):PE X (.Call (.Name x p) (e :: es) [] pos) (tCB r t):=by
 intro pins s σ H Q I h;refine wpAny_Call_Name_kw (GB I hg hm hv ?_ hn hdb);exact PyProof.Rows.callWith_builtin1 (Bj (ha (pos:=pos) (pins:=pins) s σ H _ I h) fun us s1 ⟨vs,H1,I1,r1,q1⟩=>hc (pins:=pins) s1 σ H1 vs us Q I1 r1 q1) he hpl
theorem A9 (hc:Bd X (.type T) r) (hg:Gl X x) (hm:X.mg x=none) (hv:bootBuiltins x=some (.type T)) (ha:PA X (e :: es) t) (hn:x ≠ "__name__":=by decide) (hdb:(x == ("__debug__":Str))=false:=by decide)
  (he:starEach (e :: es) X.env=(false,eval e X.env) :: starEach es X.env:=by rfl) (hpl:(backTo pos (starEach es X.env)).any (·.1)=false:=by rfl):PE X (.Call (.Name x p) (e :: es) [] pos) (tCB r t):=by
 intro pins s σ H Q I h;refine wpAny_Call_Name_kw (GB I hg hm hv ?_ hn hdb);exact PyProof.Rows.callWith_type1 (Bj (ha (pos:=pos) (pins:=pins) s σ H _ I h) fun us s1 ⟨vs,H1,I1,r1,q1⟩=>hc (pins:=pins) s1 σ H1 vs us Q I1 r1 q1) he hpl
end
end L2
namespace HT
open PySem PyProof.Rows
section
open PySem.SeqAt
open PySem.AutoSeq1 (wpAny_loadPart')
open PySem.MeetsSeq PySem.MeetsSeq2 PySem.MeetsSeq3
end
section
variable {prog:Program} {w:World} {A:Around} {E:Value->Shared->Prop} {s:Shared}
theorem cat_tup {t b:Addr} {vs ws:List Value} {Q:Value->Shared->Prop} (ht:IsTup s.heap t vs.toArray) (hb:IsTup s.heap b ws.toArray) (hv:vs ≠ [])
  (h1:ws=[]->Q (.ref t) s) (h2:ws ≠ []->Q (.ref s.heap.objs.size) { s with heap:=s.heap.push { cls:=.type "tuple",data:=.seq (vs ++ ws).toArray } })
  (hsz:vs.length + ws.length<=sizeLine):wpAny (model prog w) A (binaryOp .Add (.ref t) (.ref b)) Q E s:=by
 obtain ⟨⟨cls,dd,data,sl⟩,ho,hc,n,hd⟩:=id ht;obtain ⟨⟨Vq,O2,data2,Qj⟩,Mi,R8,n2,hd2⟩:=id hb;simp only at hc hd R8 hd2;subst hc hd R8 hd2;have e:vs.toArray ++ ws.toArray=(vs ++ ws).toArray:=by simp
 by_cases hw:ws=[]
 ·exact concat_meets ⟨_,ho,rfl⟩ ⟨_,Mi,rfl⟩ noFill_tuple_add seq_tuple_add PySem.F.slot_tuple_add PySem.F.entry_tuple_add (PySem.F.args_tuple_add_2 _ _)
   (tuple_addW1 t b vs.toArray ws.toArray n n2 dd O2 sl Qj (by simpa using hv) (by simp [hw])) ⟨ho,Mi,h1 hw⟩
 ·refine concat_meets ⟨_,ho,rfl⟩ ⟨_,Mi,rfl⟩ noFill_tuple_add seq_tuple_add PySem.F.slot_tuple_add PySem.F.entry_tuple_add (PySem.F.args_tuple_add_2 _ _)
   (tuple_addW2 t b vs.toArray ws.toArray n n2 dd O2 sl Qj (by simpa using hv) (by simpa using hw) (by rw [Zi,Zi]; exact hsz)) ⟨ho,Mi,?_⟩
  rw [e];exact h2 hw
def sIx (n d:Nat):Option Int->Nat
 | none=>d
 | some v=>if v < 0 then (v + (n:Int)).toNat else min v.toNat n
theorem sIx_none (n d:Nat):sIx n d none=d:=rfl
theorem sIx_nat (n d k:Nat):sIx n d (some (k:Int))=min k n:=by
 show (if (k:Int) < 0 then ((k:Int) + (n:Int)).toNat else min (k:Int).toNat n)=min k n
 rw [if_neg (by lia),aI]
end
end HT
namespace L2
open PySem PySem.Spec PyProof.Rows
abbrev TO:=St->Hp->(Option Int->Hp->Prop)->Prop
def PO (X:Cx) (e:Option Expr) (t:TO):Prop:=
 ∀ ⦃pins:List (Addr × Obj)⦄ (s:Shared) (σ:St) (H:Hp) (Q:Option Int->Hp->Prop),An X pins σ H s->t σ H Q ->
  wpAny (model X.prog X.w) X.A (evalPart e X.env) (fun u s'=>∃ o H',An X pins σ H' s'/\IsPart u o/\Q o H') X.xe s
def S4:TO:=fun _ H Q=>Q none H
def tPart (t:TE):TO:=fun σ H Q=>t σ H fun x H1=>∃ i,x=.int i/\Q (some i) H1
section
variable {X:Cx} {e:Expr} {te:TE} {lo hi:Option Expr} {tl th:TO} {pos p2:Pos}
theorem KD:PO X none S4:=by
 intro pins s σ H Q I h;rw [evalPart_none];exact wpAny_pure ⟨none,H,I,.none,h⟩
theorem KC (h:PE X e te):PO X (some e) (tPart te):=by
 intro pins s σ H Q I hw;rw [evalPart_some];refine Bj (h (pins:=pins) s σ H _ I hw) fun u s1 ⟨x,H1,I1,r1,q1⟩=>?_
 obtain ⟨i,rfl,q⟩:=q1;obtain ⟨t,rfl⟩:=r1;exact ⟨some i,H1,I1,.int i t,q⟩
def SlR (X:Cx) (r:V->Option Int->Option Int->Hp->VK->Prop):Prop:=
 ∀ ⦃pins:List (Addr × Obj)⦄ (s:Shared) (σ:St) (H:Hp) (x:V) (v vl vu:Value) (lo hi:Option Int) (sl:Addr) (Q:VK),An X pins σ H s->A1 x v->s.heap.IsSliceOf sl vl vu .none->IsPart vl lo->IsPart vu hi->r x lo hi H Q ->
  ∃ T id,typeLookup (.type T) "__getitem__"=pure (some (.builtin id))/\s.TypeIs v T/\wpAny (model X.prog X.w) X.A (getItem v (.ref sl)) (EP X pins σ Q) X.xe s
def tSl (r:V->Option Int->Option Int->Hp->VK->Prop) (te:TE) (tl th:TO):TE:=fun σ H Q=>te σ H fun x H1=>tl σ H1 fun l H2=>th σ H2 fun u H3=>r x l u H3 Q
theorem Rb {r:V->Option Int->Option Int->Hp->VK->Prop} (hr:SlR X r) (he:PE X e te) (hl:PO X lo tl) (hu:PO X hi th):PE X (.Subscript e (.Slice lo hi none p2) pos) (tSl r te tl th):=by
 intro pins s σ H Q I h;refine Subscript_ (Bj (he (pins:=pins) s σ H _ I h) fun v s1 ⟨x,H1,I1,r1,q1⟩=>?_);refine wpAny_Slice (Bj (hl (pins:=pins) s1 σ H1 _ I1 q1) fun vl s2 ⟨l,H2,I2,pl,q2⟩=>Bj (hu (pins:=pins) s2 σ H2 _ I2 q2) fun vu s3 ⟨u,H3,I3,pu,q3⟩=>?_);rw [evalPart_none];refine wpAny_pure ?_;have I4:An X pins σ H3 { s3 with heap:=s3.heap.push { cls:=.type "slice",data:=.fields #[vl,vu,.none] } }:=I3.kept (t':=s3.toks) fun b ob q=>YK _ q
 obtain ⟨T,id,hT,ht,hg⟩:=hr { s3 with heap:=s3.heap.push { cls:=.type "slice",data:=.fields #[vl,vu,.none] } } σ H3 x v vl vu l u s3.heap.objs.size Q I4 r1 (Heap.IsSliceOf.new ..) pl pu q3;show wpAny (model X.prog X.w) X.A (subscriptTail e (.Slice lo hi none p2) v (.ref s3.heap.objs.size)) (EP X pins σ Q) X.xe { s3 with heap:=s3.heap.push { cls:=.type "slice",data:=.fields #[vl,vu,.none] } }
 exact tail_any (ops:=[.ref s3.heap.objs.size,v]) ht hT hg (by with_unfolding_all rfl)
def Li (xs:List V) (lo hi:Option Int):List V:=(xs.drop (HT.sIx xs.length 0 lo)).take (HT.sIx xs.length xs.length hi - HT.sIx xs.length 0 lo)
theorem Ms (xs:List V) (lo hi:Option Int):(Li xs lo hi).length<=xs.length:=by
 unfold Li;rw [Zy,df];lia
def Uh (K:YL):R2:=fun x y H Q=>∃ a b xs ys,x=.ref a/\y=.ref b/\AI K H a xs/\AI K H b ys/\xs ≠ []/\xs.length + ys.length<=sizeLine /\
 (ys=[]->Q (.ref a) H)/\(ys ≠ []->∀ p,H p=none->Q (.ref p) (upd H p (.tup (xs ++ ys))))
theorem A0.nil_iff {xs:List V} {us:List Value} (r:A0 xs us):us=[] ↔ xs=[]:=by
 cases r with
 | nil=>simp
 | cons _ _=>simp
theorem SV:Ey X (binaryOp .Add) (Uh X.K):=by
 intro pins s σ H x y v u Q I rx ry h;obtain ⟨a,b,xs,ys,rfl,rfl,ha,hb,hx,hz,q1,q2⟩:=h;cases rx
 cases ry
 obtain ⟨Aq,r1,p1,_⟩:=I.tuple ha;obtain ⟨PJ,r2,p2,_⟩:=I.tuple hb;refine HT.cat_tup p1 p2 (fun z=>hx (r1.nil_iff.mp z)) (fun z=>⟨.ref a,H,I,rfl,q1 (r2.nil_iff.mp z)⟩) (fun z=>?_) (by rw [<-r1.length,<-r2.length]; exact hz);refine ⟨.ref s.heap.objs.size,_,I.laid (t':=s.toks) (o:=.tup (xs ++ ys)) (fun b ob q=>YK _ q) (YO _) ?_,rfl,q2 (fun w=>z (r2.nil_iff.mpr w)) _ (I.hok.fresh (YO _))⟩;exact ⟨by rw [YR]; exact hz,_,r1.append r2,IsTup.new _ _,Np.new rfl rfl⟩
end
def R0 (n:Nat) (i:Int):Option Nat:=if 0<=i then (if i < n then some i.toNat else none) else if -(n:Int)<=i then some (i + n).toNat else none
def JA {α:Type} (xs:List α) (i:Int):Option α:=(R0 xs.length i).bind fun j=>xs[j]?
theorem KZ {n:Nat} {i:Int} {j:Nat} (h:R0 n i=some j):seqIndex? i n=some j/\j < n/\-(n:Int)<=i/\i < n:=by
 unfold R0 at h;by_cases h0:0<=i
 ·rw [if_pos h0] at h;by_cases h1:i < n
  ·rw [if_pos h1] at h;have e:i.toNat=j:=Zf.inj h;exact ⟨by rw [seqIndex_of h0 h1,e],by lia,by lia,h1⟩
  ·rw [if_neg h1] at h; cases h
 ·rw [if_neg h0] at h;by_cases h1:-(n:Int)<=i
  ·rw [if_pos h1] at h;have e:(i + n).toNat=j:=Zf.inj h;exact ⟨by rw [seqIndex_neg (by lia) h1,e],by lia,h1,by lia⟩
  ·rw [if_neg h1] at h; cases h
theorem HU {α:Type} {xs:List α} {i:Int} {v:α} (h:JA xs i=some v):∃ j,seqIndex? i xs.length=some j/\xs[j]? = some v/\j < xs.length/\-(xs.length:Int)<=i/\i < xs.length:=by
 unfold JA at h;cases e:R0 xs.length i with
 | none=>rw [e] at h; cases h
 | some j=>
  rw [e] at h;obtain ⟨h1,h2,h3,h4⟩:=KZ e;exact ⟨j,h1,h,h2,h3,h4⟩
theorem Cq {α:Type} {xs:List α} {j:Nat} {v:α} (h:xs[j]? = some v):JA xs (j:Int)=some v:=by
 have hj:j < xs.length:=(YQ.mp h).1;have e:R0 xs.length (j:Int)=some j:=by
  unfold R0;rw [if_pos (by lia),if_pos (by lia)]; simp
 unfold JA; rw [e]; exact h
theorem RS {α:Type} (xs:List α) (v:α):JA (xs ++ [v]) (-1)=some v:=by
 have hl:(xs ++ [v]).length=xs.length + 1:=by simp
 have e:R0 (xs ++ [v]).length (-1)=some xs.length:=by
  unfold R0;rw [hl,if_neg (by decide),if_pos (by lia)];congr 1;lia
 unfold JA;rw [e];show (xs ++ [v])[xs.length]? = some v
 simp
def TJ (b:Expr):Prop:=∀ o i,subscripted b false o i=operate [o,i] (getItem o i)
def VD (X:Cx) (r:R2):Prop:=
 ∀ (value slice:Expr) (pins:List (Addr × Obj)) (s:Shared) (σ:St) (H:Hp) (x y:V) (v u:Value) (Q:VK),An X pins σ H s->A1 x v->A1 y u->r x y H Q ->
  subscripted slice false v u=operate [v,u] (getItem v u)->wpAny (model X.prog X.w) X.A (subscriptTail value slice v u) (EP X pins σ Q) X.xe s
def MtR (X:Cx) (id:String) (r:V->List V->Hp->VK->Prop):Prop:=
 ∀ ⦃pins:List (Addr × Obj)⦄ (s:Shared) (σ:St) (H:Hp) (x:V) (xs:List V) (v:Value) (us:List Value) (Q:VK),An X pins σ H s->A1 x v->A0 xs us->r x xs H Q ->
  wpAny (model X.prog X.w) X.A (call (.builtin id) (v :: us)) (EP X pins σ Q) X.xe s
section
variable {X:Cx} {a b:Expr} {ta tb:TE} {pos:Pos}
theorem AJ {r:R2} (hr:VD X r) (ha:PE X a ta) (hb:PE X b tb) (hs:TJ b):PE X (.Subscript a b pos) (tOp r ta tb):=by
 intro pins s σ H Q I h;exact Subscript_ (Vr ha hb I h fun v u s2 x y H2 I2 rx ry q=>hr a b (pins:=pins) s2 σ H2 x y v u Q I2 rx ry q (hs _ _))
def rIxL (K:YL):R2:=fun x y H Q=>∃ p xs i v,x=.ref p/\y=.int i/\AD K H p xs/\JA xs i=some v/\Q v H
def rIxT (K:YL):R2:=fun x y H Q=>∃ p xs i v,x=.ref p/\y=.int i/\AI K H p xs/\JA xs i=some v/\Q v H
def rIxS:R2:=fun x y H Q=>∃ z i c,x=.str z/\y=.int i/\z.length<=sizeLine/\JA z.cps.toList i=some c/\Q (.str ⟨#[c]⟩) H
theorem Om:VD X (rIxL X.K):=by
 intro value slice pins s σ H x y v u Q I rx ry h hs;obtain ⟨p,xs,i,z,rfl,rfl,hq,he,q⟩:=h;cases rx
 obtain ⟨t,rfl⟩:=ry;obtain ⟨Aq,r,pl,hz⟩:=I.list hq;obtain ⟨j,h1,h2,h3,h4,h5⟩:=HU he;obtain ⟨w,ew,OV⟩:=r.get h2;have hl:=r.length;have hn:=F5;have fin:EP X pins σ Q w s:=⟨z,H,I,OV,q⟩
 by_cases h0:0<=i
 ·have hj:i.toNat=j:=by
   rw [seqIndex_of h0 h5] at h1;exact Zf.inj h1
  exact item_listR pl.isList h0 (by lia) (by rw [hj]; simpa using ew) fin hs
 ·have hj:(i + (Aq.toArray.size:Int)).toNat=j:=by
   rw [seqIndex_neg (by lia) h4] at h1;rw [Zi,<-hl];exact Zf.inj h1
  exact subscriptTail_builtinR (x:=w) pl.isList.typeIs slot_list_getitem.lookup
   (wpAny_getItem_list_neg (Q:=fun r s'=>r=w/\EP X pins σ Q r s') pl.isList (by lia) (by rw [Zi] <;> lia) (by lia) (by rw [hj]; simpa using ew) ⟨rfl,fin⟩) hs
theorem KY:VD X (rIxT X.K):=by
 intro value slice pins s σ H x y v u Q I rx ry h hs;obtain ⟨p,xs,i,z,rfl,rfl,hq,he,q⟩:=h;cases rx
 obtain ⟨t,rfl⟩:=ry;obtain ⟨Aq,r,pl,hz⟩:=I.tuple hq;obtain ⟨j,h1,h2,h3,h4,h5⟩:=HU he;obtain ⟨w,ew,OV⟩:=r.get h2;have hl:=r.length;have hn:=F5;have fin:EP X pins σ Q w s:=⟨z,H,I,OV,q⟩
 exact subscriptTail_builtinR (x:=w) pl.typeIs slot_tuple_getitem.lookup
  (getItem_tuple (j:=j) (Q:=fun r s'=>r=w/\EP X pins σ Q r s') pl (by lia) (by lia) (by rw [Zi,<-hl]; exact h1) (by simpa using ew) ⟨rfl,fin⟩) hs
theorem Rz:VD X rIxS:=by
 intro value slice pins s σ H x y v u Q I rx ry h hs;obtain ⟨z,i,c,rfl,rfl,hz,he,q⟩:=h;obtain ⟨t,rfl⟩:=rx;obtain ⟨t',rfl⟩:=ry;obtain ⟨j,h1,h2,h3,h4,h5⟩:=HU he;have hl:z.cps.toList.length=z.length:=by simp [Str.length]
 rw [hl] at h1 h4 h5;have hn:=F5;exact tail_any (typeIs_str s z t) slot_str_getitem.lookup (getItem_str (c:=c) (by
  have e1:decide (i < -(2 ^ 63:Int))=false:=decide_eq_false (by lia);have e2:decide (i >= 2 ^ 63)=false:=decide_eq_false (by lia);rw [e1,e2,dB]) (by rw [h1]; simpa using h2) ⟨.str ⟨#[c]⟩,H,I.tok _,⟨_,rfl⟩,q⟩) hs
theorem MS (Aq:List Value) (n j:Nat) (u:Value):Obj.mapSeq (·.setIfInBounds j u) { cls:=.type "list",data:=.seq Aq.toArray n } = { cls:=.type "list",data:=.seq (Aq.set j u).toArray n }:=by
 simp [Obj.mapSeq]
theorem An.lst {pins:List (Addr × Obj)} {σ:St} {H:Hp} {s:Shared} {p:Addr} {xs:List V} (I:An X pins σ H s) (h:H p=some (.lst xs)) :
  ∃ (Aq:List Value) (n:Nat),A0 xs Aq/\s.heap.get? p=some { cls:=.type "list",data:=.seq Aq.toArray n }/\xs.length<=sizeLine:=by
 obtain ⟨z,Aq,n,r,e⟩:=I.hok p _ h;exact ⟨Aq,n,r,e,z⟩
theorem An.lstUpd {pins:List (Addr × Obj)} {σ:St} {H:Hp} {s:Shared} {p:Addr} {xs ys:List V} {Aq its':List Value} {n n':Nat} {f:Obj->Obj} (I:An X pins σ H s) (h:H p=some (.lst xs))
  (ho:s.heap.get? p=some { cls:=.type "list",data:=.seq Aq.toArray n }) (hf:f { cls:=.type "list",data:=.seq Aq.toArray n } = { cls:=.type "list",data:=.seq its'.toArray n' }) (r:A0 ys its') (hz:ys.length<=sizeLine) (t:Nat) :
  An X pins σ (upd H p (.lst ys)) { s with heap:=s.heap.update p f,toks:=t }:=by
 have e:(s.heap.update p f).get? p=some { cls:=.type "list",data:=.seq its'.toArray n' }:=by
  rw [Z8 f ho (by rw [hf] <;> rfl),hf]
 refine I.write (x:=p) (e:=p) (by rw [h]; trivial) (.inl rfl) (fun b u hb q=>(Z7 _ _ (Ne.symm hb)).trans q) ⟨_,e⟩ ?_;exact ⟨hz,its',n',r,e⟩
def rSetL:V->V->V->Hp->(Hp->Prop)->Prop:=fun o i v H Q=>∃ p xs k j,o=.ref p/\i=.int k/\H p=some (.lst xs)/\R0 xs.length k=some j/\Q (upd H p (.lst (xs.set j v)))
theorem Ih:PSet X rSetL:=by
 intro pins s σ H o i v ov iv u Q I ro ri rv h;obtain ⟨p,xs,k,j,rfl,rfl,hp,hj,q⟩:=h;cases ro
 obtain ⟨t,rfl⟩:=ri;obtain ⟨Aq,n,r,ho,hz⟩:=I.lst hp;obtain ⟨h1,h2,h3,h4⟩:=KZ hj;have hl:=r.length;have hn:=F5;have I':An X pins σ (upd H p (.lst (xs.set j v))) { s with heap:=s.heap.update p (Obj.mapSeq (·.setIfInBounds j u)) }:=
  I.lstUpd hp ho (MS Aq n j u) (r.set rv j) (by rw [List.length_set]; exact hz) s.toks
 by_cases h0:0<=k
 ·have hk:k.toNat=j:=by
   rw [seqIndex_of h0 h4] at h1;exact Zf.inj h1
  exact PySem.W.ki_setAt ho h0 (by lia) (by rw [Zi,<-hl]; exact h4) (by rw [hk]; exact ⟨_,I',q⟩)
 ·have hk:(k + (Aq.toArray.size:Int)).toNat=j:=by
   rw [seqIndex_neg (by lia) h3] at h1;rw [Zi,<-hl];exact Zf.inj h1
  exact PySem.W.ki_setBack ho (by lia) (by rw [Zi,<-hl]; exact h3) (by lia) (by rw [hk]; exact ⟨_,I',q⟩)
theorem K4 (lo hi:Option Int) (n:Nat):(sliceBounds lo hi none n).1=((HT.sIx n 0 lo:Nat):Int)/\(sliceBounds lo hi none n).2.1=((HT.sIx n n hi:Nat):Int)/\(sliceBounds lo hi none n).2.2=1:=by
 refine ⟨?_,?_,rfl⟩
 ·cases lo with
  | none=>simp [sliceBounds,HT.sIx]
  | some i=>
   simp only [sliceBounds,HT.sIx,cQ,show (1:Int) > 0 by decide,if_true];by_cases h:i < 0
   ·simp only [h,if_true] <;> lia
   ·simp only [h,if_false] <;> lia
 ·cases hi with
  | none=>simp [sliceBounds,HT.sIx]
  | some i=>
   simp only [sliceBounds,HT.sIx,cQ,show (1:Int) > 0 by decide,if_true];by_cases h:i < 0
   ·simp only [h,if_true] <;> lia
   ·simp only [h,if_false] <;> lia
theorem Jx (Aq:List Value) (lo hi:Option Int):slicePick Aq.toArray lo hi none=((Aq.drop (HT.sIx Aq.length 0 lo)).take (HT.sIx Aq.length Aq.length hi - HT.sIx Aq.length 0 lo)).toArray:=by
 obtain ⟨h1,h2,h3⟩:=K4 lo hi Aq.toArray.size;unfold slicePick;rw [h1,h2,h3];simp only [sliceRange_one,pick_run,Zi] <;> rfl
def rSlL (K:YL):V->Option Int->Option Int->Hp->VK->Prop:=fun x lo hi H Q=>∃ a xs,x=.ref a/\AD K H a xs/\∀ p,H p=none->Q (.ref p) (upd H p (.lst (Li xs lo hi)))
theorem S9:SlR X (rSlL X.K):=by
 intro pins s σ H x v vl vu lo hi sl Q I rx hs pl pu h;obtain ⟨a,xs,rfl,hx,q⟩:=h;cases rx
 obtain ⟨Aq,r,ht,hz⟩:=I.list hx;have hlen:=r.length;refine ⟨"list",_,slot_list_getitem.lookup,ht.isList.typeIs,?_⟩;refine wpAny_getItem_list_slice ht.isList hs pl pu .none (by simp) ?_ (by rw [Zi] <;> lia);rw [Jx,<-hlen];refine ⟨.ref s.heap.objs.size,_,I.laid (t':=s.toks) (o:=.lst (Li xs lo hi)) (fun b ob q=>YK _ q) (YO _) ?_,rfl,q _ (I.hok.fresh (YO _))⟩;exact ⟨Zj (Ms xs lo hi) hz,_,0,(r.drop (HT.sIx xs.length 0 lo)).take (HT.sIx xs.length xs.length hi - HT.sIx xs.length 0 lo),YW _ rfl⟩
def ED:V->Bool
 | .non=>true
 | .bl _=>true
 | .int _=>true
 | .str _=>true
 | _=>false
def Tz:V->V->Bool
 | .non,.non=>true
 | .bl a,.bl b=>a == b
 | .bl a,.int b=>(if a then 1 else 0) == b
 | .int a,.bl b=>a == (if b then 1 else 0)
 | .int a,.int b=>a == b
 | .str a,.str b=>a == b
 | _,_=>false
theorem Vo {A:Around} {s:Shared} {y x:V} {u v:Value} (ry:A1 y u) (rx:A1 x v) (fy:ED y=true) (fx:ED x=true):SeqAt.EqAt A s u v (Tz y x):=by
 cases y with
 | non=>
  cases ry
  cases x with
  | non=>cases rx; exact SeqAt.EqAt.same _
  | bl b=>cases rx; exact SeqAt.EqAt.none_bool b
  | int b=>obtain ⟨t,rfl⟩:=rx; exact SeqAt.EqAt.none_int b t
  | str b=>obtain ⟨t,rfl⟩:=rx; exact SeqAt.EqAt.none_str b t
  | _=>exact absurd (show false=true from fx) Zd
 | bl a=>
  cases ry
  cases x with
  | non=>cases rx; exact SeqAt.EqAt.bool_none a
  | bl b=>cases rx; exact SeqAt.EqAt.bool_bool a b
  | int b=>obtain ⟨t,rfl⟩:=rx; exact SeqAt.EqAt.bool_int a b t
  | str b=>obtain ⟨t,rfl⟩:=rx; exact SeqAt.EqAt.bool_str a b t
  | _=>exact absurd (show false=true from fx) Zd
 | int a=>
  obtain ⟨t',rfl⟩:=ry;cases x with
  | non=>cases rx; exact SeqAt.EqAt.int_none a t'
  | bl b=>cases rx; exact SeqAt.EqAt.int_bool a t' b
  | int b=>obtain ⟨t,rfl⟩:=rx; exact SeqAt.EqAt.int_int a t' b t
  | str b=>obtain ⟨t,rfl⟩:=rx; exact SeqAt.EqAt.int_str a t' b t
  | _=>exact absurd (show false=true from fx) Zd
 | str a=>
  obtain ⟨t',rfl⟩:=ry;cases x with
  | non=>cases rx; exact SeqAt.EqAt.str_none a t'
  | bl b=>cases rx; exact SeqAt.EqAt.str_bool a t' b
  | int b=>obtain ⟨t,rfl⟩:=rx; exact SeqAt.EqAt.str_int a t' b t
  | str b=>obtain ⟨t,rfl⟩:=rx; exact SeqAt.EqAt.str_str a t' b t
  | _=>exact absurd (show false=true from fx) Zd
 | _=>exact absurd (show false=true from fy) Zd
def T4 (x:V) (u:Value):Bool:=match u with
 | .none=>Tz .non x
 | .bool b=>Tz (.bl b) x
 | .int i _=>Tz (.int i) x
 | .str z _=>Tz (.str z) x
 | _=>false
theorem RM {x y:V} {u:Value} (r:A1 y u) (f:ED y=true):T4 x u=Tz y x:=by
 cases y with
 | non=>cases r; rfl
 | bl b=>cases r; rfl
 | int i=>obtain ⟨t,rfl⟩:=r; rfl
 | str z=>obtain ⟨t,rfl⟩:=r; rfl
 | _=>exact absurd (show false=true from f) Zd
theorem Lj {x:V}:∀ {xs:List V} {us:List Value},A0 xs us->xs.all ED=true->us.any (T4 x)=xs.any fun y=>Tz y x
 | _,_,.nil,_=>rfl
 | y :: xs,u :: us,.cons r t,f=>by
  rw [bA,Z3] at f;rw [aN,aN,RM r f.1,Lj t f.2]
theorem IF {A:Around} {s:Shared} {x:V} {v:Value} (rx:A1 x v) (fx:ED x=true):∀ {xs:List V} {us:List Value},A0 xs us->xs.all ED=true->∀ u ∈ us,SeqAt.EqAt A s u v (T4 x u)
 | _,_,.nil,_=>fun u hu=>by cases hu
 | y :: xs,u :: us,.cons r t,f=>fun u' hu=>by
  rw [bA,Z3] at f;rcases YM.mp hu with rfl | hu
  ·rw [RM r f.1]; exact Vo r rx f.1 fx
  ·exact IF rx fx t f.2 u' hu
def inV (x:V) (xs:List V):Bool:=xs.any fun y=>Tz y x
def rIn (K:YL) (neg:Bool):R2:=fun x y H Q=>∃ p xs,y=.ref p/\(AD K H p xs\/AI K H p xs)/\ED x=true/\xs.all ED=true/\Q (.bl (if neg then !inV x xs else inV x xs)) H
theorem KL:Ey X (compareOp .NotIn) (rIn X.K true):=by
 intro pins s σ H x y v u Q I rx ry h;obtain ⟨p,xs,rfl,hq,fx,fs,q⟩:=h;cases ry
 rcases hq with hq | hq
 ·obtain ⟨Aq,r,pl,hz⟩:=I.list hq;refine SeqAt.notIn_listAt (T4 x) pl.isList (fun w hw=>IF rx fx r fs w (by simpa using hw)) ⟨.bl _,H,I,rfl,?_⟩;rw [show Aq.toArray.any (T4 x)=Aq.any (T4 x) by simp,Lj r fs];exact q
 ·obtain ⟨Aq,r,pl,hz⟩:=I.tuple hq;refine SeqAt.notIn_tupleAt (T4 x) pl (fun w hw=>IF rx fx r fs w (by simpa using hw)) ⟨.bl _,H,I,rfl,?_⟩;rw [show Aq.toArray.any (T4 x)=Aq.any (T4 x) by simp,Lj r fs];exact q
theorem Em:Bd X (.builtin "len") (fun xs H Q=>∃ p ys,xs=[.ref p]/\(AD X.K H p ys\/AI X.K H p ys)/\Q (.int ys.length) H):=by
 intro pins s σ H xs us Q I r h;obtain ⟨p,ys,rfl,hq,q⟩:=h;obtain ⟨u,rfl,rx⟩:=BZ r;cases rx
 have hn:=F5;rcases hq with hq | hq
 ·obtain ⟨Aq,r',pl,hz⟩:=I.list hq;have hlen:=r'.length;exact Calls.call_len_list pl.isList (by simp only [Zi] <;> lia) ⟨.int ys.length,H,I.tok _,⟨s.toks + 1,by rw [Zi,hlen]⟩,q⟩
 ·obtain ⟨Aq,r',pl,hz⟩:=I.tuple hq;have hlen:=r'.length;exact len_tuple pl (by simp only [Zi] <;> lia) ⟨.int ys.length,H,I.tok _,⟨s.toks + 1,by rw [Zi,hlen]⟩,q⟩
theorem Gn:Bd X (.builtin "len") (fun xs H Q=>∃ z,xs=[.str z]/\z.length<=sizeLine/\Q (.int z.length) H):=by
 intro pins s σ H xs us Q I r h;obtain ⟨z,rfl,hz,q⟩:=h;obtain ⟨u,rfl,t,rfl⟩:=BZ r;have hn:=F5;exact len_str (by lia) ⟨.int z.length,H,I.tok _,⟨_,rfl⟩,q⟩
theorem Gm:Bd X (.type "list") (fun xs H Q=>∃ p ys,xs=[.ref p]/\(AD X.K H p ys\/AI X.K H p ys)/\∀ l,H l=none->Q (.ref l) (upd H l (.lst ys))):=by
 intro pins s σ H xs us Q I r h;obtain ⟨p,ys,rfl,hq,q⟩:=h;obtain ⟨u,rfl,rx⟩:=BZ r;cases rx
 have fin:∀ (Aq:List Value),A0 ys Aq->ys.length<=sizeLine->∀ (h':Heap) (c':Nat),(∀ b o',s.heap.get? b=some o'->h'.get? b=some o') ->
   h'.get? s.heap.objs.size=some { cls:=.type "list",dict:=none,data:=.seq Aq.toArray c',slots:=#[] }->EP X pins σ Q (.ref s.heap.objs.size) { s with heap:=h' }:=fun Aq r' hz h' c' kp e=>
  ⟨.ref s.heap.objs.size,_,I.laid (t':=s.toks) kp (YO _) (show A5 X.prog X.w _ h' _ (.lst ys) from ⟨hz,Aq,c',r',e⟩),rfl,q _ (I.hok.fresh (YO _))⟩
 rcases hq with hq | hq
 ·obtain ⟨Aq,r',pl,hz⟩:=I.list hq;have hlen:=r'.length;obtain ⟨o,ho,hc,n,hd⟩:=pl.isList;exact call_list_seq p (.inl rfl) ho hc hd (fun h' c' kp e=>fin Aq r' hz h' c' kp e) (by simp only [Zi] <;> lia)
 ·obtain ⟨Aq,r',pl,hz⟩:=I.tuple hq;have hlen:=r'.length;obtain ⟨o,ho,hc,n,hd⟩:=pl;exact call_list_seq p (.inr rfl) ho hc hd (fun h' c' kp e=>fin Aq r' hz h' c' kp e) (by simp only [Zi] <;> lia)
theorem J6:Bd X (.type "tuple") (fun xs H Q=>∃ p ys,xs=[.ref p]/\((AD X.K H p ys/\∀ l,H l=none->Q (.ref l) (upd H l (.tup ys)))\/(AI X.K H p ys/\Q (.ref p) H))):=by
 intro pins s σ H xs us Q I r h;obtain ⟨p,ys,rfl,h⟩:=h;obtain ⟨u,rfl,rx⟩:=BZ r;cases rx
 rcases h with ⟨hq,q⟩ | ⟨hq,q⟩
 ·obtain ⟨Aq,r',pl,hz⟩:=I.list hq;have hlen:=r'.length;refine call_tuple_list pl.isList (fun h' kp=>?_) (by simp only [Zi] <;> lia);have I1:An X pins σ H { s with heap:=h' }:=I.kept (t':=s.toks) kp;have I2:An X pins σ (upd H h'.objs.size (.tup ys)) { s with heap:=h'.push { cls:=.type "tuple",data:=.seq Aq.toArray } }:=
   I1.laid (t':=s.toks) (fun b o e=>YK _ e) (YO _) (show A5 X.prog X.w _ _ _ (.tup ys) from ⟨hz,Aq,r',IsTup.new _ _,Np.new rfl rfl⟩)
  exact ⟨.ref h'.objs.size,_,I2,rfl,q _ (I1.hok.fresh (YO _))⟩
 ·obtain ⟨Aq,r',pl,hz⟩:=I.tuple hq;exact call_tuple_same pl ⟨.ref p,H,I,rfl,q⟩
def tyV (K:YL) (T:String) (x:V) (H:Hp):Prop:=match x with
 | .str _=>T="str"
 | .int _=>T="int"
 | .ref p=>(T="list"/\∃ xs,AD K H p xs)\/(T="tuple"/\∃ o,K.lookup p=some o/\o.cls=.type "tuple"/\o.dict=none) \/
   (T="dict"/\((∃ kvs,H p=some (.dK kvs))\/∃ kvs,H p=some (.dT kvs)))\/(T="set"/\∃ S n,H p=some (.set S n))
 | _=>False
theorem Qv {pins:List (Addr × Obj)} {σ:St} {H:Hp} {s:Shared} {T:String} {x:V} {v:Value} (I:An X pins σ H s) (r:A1 x v) (ty:tyV X.K T x H) :
  s.TypeIs v T/\∀ a,v=.ref a->∃ ob,s.heap.get? a=some ob/\ob.dict=none:=by
 cases x with
 | str z=>
  obtain ⟨t,rfl⟩:=r;cases (show T="str" from ty)
  exact ⟨typeIs_str s z t,fun _ e=>nomatch e⟩
 | int i=>
  obtain ⟨t,rfl⟩:=r;cases (show T="int" from ty)
  exact ⟨typeIs_int s i t,fun _ e=>nomatch e⟩
 | ref p=>
  cases r
  rcases ty with ⟨rfl,xs,hq⟩ | ⟨rfl,o,hk,hc,hd⟩ | ⟨rfl,hk⟩ | ⟨rfl,S,n,hk⟩
  ·obtain ⟨Aq,_,pl,_⟩:=I.list hq;refine ⟨pl.isList.typeIs,fun a e=>?_⟩;cases e
   obtain ⟨o,n,e,c,hd,_⟩:=pl;exact ⟨o,e,hd⟩
  ·refine ⟨⟨o,I.kIn p o hk,hc⟩,fun a e=>?_⟩;cases e
   exact ⟨o,I.kIn _ o hk,hd⟩
  ·have z:∃ o,s.heap.get? p=some o/\o.ExactDict:=by
    rcases hk with ⟨kvs,hk⟩ | ⟨kvs,hk⟩
    ·obtain ⟨_,_,_,_,o,_,_,e,ex,_⟩:=I.hok p _ hk;exact ⟨o,e,ex⟩
    ·obtain ⟨_,_,_,_,o,_,_,e,ex,_⟩:=I.hok p _ hk;exact ⟨o,e,ex⟩
   obtain ⟨o,e,ex⟩:=z;refine ⟨⟨o,e,ex.1⟩,fun a e2=>?_⟩;cases e2
   exact ⟨o,e,ex.2.1⟩
  ·obtain ⟨o,_,_,_,e,ex,_⟩:=I.hok p _ hk;refine ⟨⟨o,e,ex.1⟩,fun a e2=>?_⟩;cases e2
   exact ⟨o,e,ex.2.1⟩
 | _=>exact False.elim ty
def tBM0 (K:YL) (T:String) (r:V->List V->Hp->VK->Prop) (to:TE):TE:=fun σ H Q=>to σ H fun x H1=>tyV K T x H1/\r x [] H1 Q
def tBM (K:YL) (T:String) (r:V->List V->Hp->VK->Prop) (to:TE) (t:TA):TE:=fun σ H Q=>to σ H fun x H1=>tyV K T x H1/\t σ H1 fun xs H2=>r x xs H2 Q
variable {o e:Expr} {es:List Expr} {to:TE} {t:TA} {name:Str} {apos EH:Pos} {T id:String} {r:V->List V->Hp->VK->Prop}
theorem Rg (pa:PlainAttrs T) (slot:Slot T name id) (hty:typeOf (.builtin id)=pure (.type "method_descriptor")) (hm:MtR X id r) (ho:PE X o to)
  (hbase:attributeBase o name X.env (eval o X.env)=eval o X.env:=by rfl) (hline:(apos.endLine == EH.line)=true:=by rfl):PE X (.Call (.Attribute o name apos) [] [] EH) (tBM0 X.K T r to):=by
 intro pins s σ H Q I h;refine wpAny_Call_method0_late hbase hline (Bj (ho (pins:=pins) s σ H _ I h) fun v s1 ⟨x,H1,I1,r1,ty,q1⟩=>?_);obtain ⟨h1,h2⟩:=Qv I1 r1 ty;exact ⟨T,id,pa,slot,hty,h1,h2,Calls.callWith_builtin rfl (PySem.evalArgs_none (hm (pins:=pins) s1 σ H1 x [] v [] Q I1 r1 .nil q1))⟩
theorem Ir (pa:PlainAttrs T) (slot:Slot T name id) (hty:typeOf (.builtin id)=pure (.type "method_descriptor")) (hm:MtR X id r) (ho:PE X o to) (ha:PA X (e :: es) t)
  (hbase:attributeBase o name X.env (eval o X.env)=eval o X.env:=by rfl)
  (hfew:((backTo EH (starEach (e :: es) X.env)).all (fun x=>!x.1) && (backToKw EH (keywordEach [] X.env)).all (fun x=>x.1.isSome)
   && decide ((e :: es).length + ([]:List Keyword).length + (if ([]:List Keyword).isEmpty then 0 else 1) < 30))=true:=by rfl)
  (hline:(apos.endLine == EH.line)=true:=by rfl) (hs:starEach (e :: es) X.env=(false,eval e X.env) :: starEach es X.env:=by rfl) (hplain:(backTo EH (starEach es X.env)).any (·.1)=false:=by rfl) :
  PE X (.Call (.Attribute o name apos) (e :: es) [] EH) (tBM X.K T r to t):=by
 intro pins s σ H Q I h;refine wpAny_Call_method_late hbase hfew hline rfl (Bj (ho (pins:=pins) s σ H _ I h) fun v s1 ⟨x,H1,I1,r1,ty,q1⟩=>?_);obtain ⟨h1,h2⟩:=Qv I1 r1 ty;refine ⟨T,id,pa,slot,hty,h1,h2,?_⟩;have hA:=ha (pos:=EH) (pins:=pins) s1 σ H1 _ I1 q1;rw [hs] at hA ⊢;refine Calls.callWith_builtin (by show (false || (backTo EH (starEach es X.env)).any (·.1))=false; rw [hplain] <;> rfl) (Calls.evalArgs_plain ?_);exact Bj hA fun us s2 ⟨vs,H2,I2,r2,q2⟩=>hm (pins:=pins) s2 σ H2 x vs v us Q I2 r1 r2 q2
end
def MtM (X:Cx) (id:String) (r:V->List V->Hp->VK->Prop):Prop:=
 ∀ ⦃pins:List (Addr × Obj)⦄ (s:Shared) (σ:St) (H:Hp) (x:V) (xs:List V) (v:Value) (us:List Value) (Q:VK),An X pins σ H s->A1 x v->A0 xs us->r x xs H Q ->
  wpAny (model X.prog X.w) X.A (call (.builtin id) (v :: us)) (EP X pins σ Q) X.xe s
theorem A0.one:∀ {x:V} {us:List Value},A0 [x] us->∃ u,us=[u]/\A1 x u
 | _,_,.cons r .nil=>⟨_,rfl,r⟩
theorem A0.eraseIdx:∀ {xs:List V} {us:List Value} (i:Nat),A0 xs us->A0 (xs.eraseIdx i) (us.eraseIdx i)
 | _,_,_,.nil=>.nil
 | _,_,0,.cons _ t=>t
 | _,_,i + 1,.cons r t=>.cons r (A0.eraseIdx i t)
theorem Kc {α:Type}:∀ (l:List α) (i:Nat),(l.eraseIdx i).length<=l.length
 | [],_=>YO _
 | _ :: _,0=>Z0 _
 | _ :: r,i + 1=>Nat.succ_le_succ (Kc r i)
section
variable {X:Cx} {pins:List (Addr × Obj)} {σ:St} {H:Hp} {s:Shared} {l b:Addr} {xs ys zs:List V}
theorem An.lset {Aq its':List Value} {n:Nat} {f:Array Value->Array Value} {t':Nat} (I:An X pins σ H s) (hH:H l=some (.lst xs))
  (e:s.heap.get? l=some { cls:=.type "list",data:=.seq Aq.toArray n }) (hf:f Aq.toArray=its'.toArray) (hv:A0 ys its') (hz:ys.length<=sizeLine) :
  An X pins σ (upd H l (.lst ys)) { s with heap:=s.heap.update l (Obj.mapSeq f),toks:=t' }:=by
 have q:=PySem.IsL.update e f;rw [hf] at q;refine I.write (x:=l) (e:=l) (by rw [hH]; exact trivial) (.inl rfl) (fun b' u hb hu=>(Z7 s.heap (Obj.mapSeq f) (Ne.symm hb)).trans hu) ⟨_,q⟩ ?_;exact ⟨hz,its',_,hv,q⟩
theorem An.lnew {Aq:List Value} {t':Nat} (I:An X pins σ H s) (hv:A0 ys Aq) (hz:ys.length<=sizeLine) :
  An X pins σ (upd H s.heap.objs.size (.lst ys)) { s with heap:=s.heap.push { cls:=.type "list",data:=.seq Aq.toArray },toks:=t' }:=
 I.laid (fun _ _ q=>YK _ q) (YO _) ⟨hz,Aq,0,hv,YW _ rfl⟩
theorem An.fresh (I:An X pins σ H s):H s.heap.objs.size=none:=I.hok.fresh (YO _)
theorem An.lstM (I:An X pins σ H s) (hH:H l=some (.lst xs)):xs.length<=sizeLine/\∃ (Aq:List Value) (n:Nat),A0 xs Aq/\xs.length=Aq.length/\s.heap.get? l=some { cls:=.type "list",data:=.seq Aq.toArray n }:=by
 obtain ⟨z,Aq,n,r,e⟩:=I.hok l _ hH;exact ⟨z,Aq,n,r,r.length,e⟩
end
section
variable {X:Cx}
def SI:V->List V->Hp->VK->Prop:=fun x vs H Q=>∃ l xs y,x=.ref l/\vs=[y]/\H l=some (.lst xs)/\xs.length < sizeLine/\Q .non (upd H l (.lst (xs ++ [y])))
theorem Cu:MtM X "list.append" SI:=by
 intro pins s σ H x vs v us Q I rx rv h;obtain ⟨l,xs,y,rfl,rfl,hH,hz,q⟩:=h;cases rx
 obtain ⟨u,rfl,ru⟩:=rv.one;obtain ⟨z,Aq,n,r,hl,e⟩:=I.lstM hH;refine call_meets F.slot_list_append ⟨_,e,rfl⟩ F.entry_list_append (F.args_list_append_2 _ _) (PySem.list_append l Aq.toArray n u (by rw [Zi]; lia)) ⟨e,?_⟩;refine ⟨.non,_,I.lset (its':=Aq ++ [u]) hH e (by simp) (r.append (.cons ru .nil)) ?_,rfl,q⟩;rw [YR,ZC];lia
def UH:V->List V->Hp->VK->Prop:=fun x vs H Q=>∃ l xs i k y,x=.ref l/\vs=[.int i]/\H l=some (.lst xs)/\-(2 ^ 63)<=i/\i < 2 ^ 63/\seqIndex? i xs.length=some k/\xs[k]? = some y/\Q y (upd H l (.lst (xs.eraseIdx k)))
theorem Rq:MtM X "list.pop" UH:=by
 intro pins s σ H x vs v us Q I rx rv h;obtain ⟨l,xs,i,k,y,rfl,rfl,hH,h1,h2,hk,hy,q⟩:=h;cases rx
 obtain ⟨u,rfl,ru⟩:=rv.one;obtain ⟨t,rfl⟩:=ru;obtain ⟨z,Aq,n,r,hl,e⟩:=I.lstM hH;obtain ⟨w,hw,OV⟩:=r.get hy;refine call_meets F.slot_list_pop ⟨_,e,rfl⟩ F.entry_list_pop (F.args_list_pop_2 _ _)
  (MeetsSeq.list_pop_at l Aq.toArray n i t k w (fitsIndex_both h1 h2) (by rw [Zi,<-hl]; exact hk) (by rw [<-ZL]; exact hw) (by rw [Zi]; lia)) ⟨e,?_⟩
 refine ⟨y,_,I.lset (its':=Aq.eraseIdx k) hH e ?_ (r.eraseIdx k) ?_,OV,q⟩
 ·show Aq.toArray.eraseIdxIfInBounds k=(Aq.eraseIdx k).toArray
  rw [List.eraseIdxIfInBounds_toArray]
 ·have:=Kc xs k;lia
def rCat:R2:=fun x y H Q=>∃ l b xs zs,x=.ref l/\y=.ref b/\H l=some (.lst xs)/\H b=some (.lst zs)/\xs.length + zs.length<=sizeLine/\∀ p,H p=none->Q (.ref p) (upd H p (.lst (xs ++ zs)))
theorem G4:Ey X (binaryOp .Add) rCat:=by
 intro pins s σ H x y v u Q I rx ry h;obtain ⟨l,b,xs,zs,rfl,rfl,hH,hB,hz,q⟩:=h;cases rx
 cases ry
 obtain ⟨z,Aq,n,r,hl,e⟩:=I.lstM hH;obtain ⟨z2,PJ,n2,r2,Ql,e2⟩:=I.lstM hB;refine PySem.P.add_list e e2 ?_ (by rw [Zi,Zi]; lia);have ea:Aq.toArray ++ PJ.toArray=(Aq ++ PJ).toArray:=by simp
 rw [ea];exact ⟨.ref _,_,I.lnew (t':=s.toks) (r.append r2) (by rw [YR]; lia),rfl,q _ I.fresh⟩
end
section
variable {prog:Program} {w:World} {A:Around} {E:Value->Shared->Prop} {s:Shared}
set_option maxRecDepth 100000 in
end
section
variable {X:Cx}
end
section
variable {κ:Type} [DecidableEq κ]
def Bu (kvs:List (κ × V)) (k:κ):Option V:=(kvs.find? fun kv=>decide (kv.1=k)).map (·.2)
def Bg (kvs:List (κ × V)) (k:κ) (v:V):List (κ × V):=
 if (kvs.any fun kv=>decide (kv.1=k))=true then kvs.map (fun kv=>if kv.1=k then (kv.1,v) else kv) else kvs ++ [(k,v)]
def IZ (kvs:List (κ × V)) (k:κ):List (κ × V):=kvs.filter fun kv=>decide (kv.1 ≠ k)
theorem DI {p:κ × V} {r:List (κ × V)} {k:κ} (e:p.1=k):Bu (p :: r) k=some p.2:=by simp [Bu,aj,e]
theorem Dl {p:κ × V} {r:List (κ × V)} {k:κ} (e:¬ p.1=k):Bu (p :: r) k=Bu r k:=by simp [Bu,aj,e]
theorem CI (k:κ):∀ kvs:List (κ × V),(kvs.any fun kv=>decide (kv.1=k))=(Bu kvs k).isSome
 | []=>rfl
 | p :: r=>by
  rw [aN];by_cases e:p.1=k
  ·simp only [DI e,decide_eq_true e,Bool.true_or,cG]
  ·rw [Dl e,decide_eq_false e,Bool.false_or]; exact CI k r
theorem CM (kvs:List (κ × V)) (k:κ) (v:V):(Bg kvs k v).length<=kvs.length + 1:=by
 unfold Bg;split
 ·rw [YI]; lia
 ·rw [YR,Zm,dq]; lia
theorem Ik {kvs:List (κ × V)} {k:κ} (v:V) (h:Bu kvs k=none):Bg kvs k v=kvs ++ [(k,v)]:=by
 unfold Bg;rw [CI,h];exact if_neg (by decide)
theorem GX.isSome_eq {o:Option V} {u:Option Value} (r:GX o u):o.isSome=u.isSome:=by
 cases o with
 | none=>cases u with
  | none=>rfl
  | some _=>exact (show False from r).elim
 | some _=>cases u with
  | none=>exact (show False from r).elim
  | some _=>rfl
theorem GX.getD {o:Option V} {u:Option Value} {d:V} {d':Value} (r:GX o u) (rd:A1 d d'):A1 (o.getD d) (u.getD d'):=by
 cases o with
 | none=>cases u with
  | none=>exact rd
  | some _=>exact (show False from r).elim
 | some _=>cases u with
  | none=>exact (show False from r).elim
  | some _=>exact r
theorem KV.val {kvs:List (κ × V)} {vs:List (κ × Value)} (r:KV kvs vs) (k:κ):GX (Bu kvs k) (valueAt vs k):=by
 unfold KV at r;induction r with
 | nil=>exact True.intro
 | @cons p q ps qs h t ih=>
  obtain ⟨h1,h2⟩:=h;by_cases e:p.1=k
  ·have e':q.1=k:=h1.symm.trans e;have b:valueAt (q :: qs) k=some q.2:=by simp [valueAt,aj,e']
   rw [DI e,b]; exact h2
  ·have e':¬ q.1=k:=fun z=>e (h1.trans z)
   have b:valueAt (q :: qs) k=valueAt qs k:=by simp [valueAt,aj,e']
   rw [Dl e,b]; exact ih
theorem KV.any {kvs:List (κ × V)} {vs:List (κ × Value)} (r:KV kvs vs) (k:κ):(kvs.any fun kv=>decide (kv.1=k))=vs.any fun kv=>decide (kv.1=k):=by
 unfold KV at r;induction r with
 | nil=>rfl
 | cons h t ih=>rw [aN,aN,ih,h.1]
theorem KV.repl {kvs:List (κ × V)} {vs:List (κ × Value)} (r:KV kvs vs) (k:κ) {y:V} {u:Value} (ry:A1 y u) :
  KV (kvs.map fun kv=>if kv.1=k then (kv.1,y) else kv) (vs.map fun kv=>if kv.1=k then (kv.1,u) else kv):=by
 unfold KV at r ⊢;induction r with
 | nil=>exact .nil
 | @cons p q ps qs h t ih=>
  rw [Zb,Zb];refine .cons ?_ ih;obtain ⟨h1,h2⟩:=h;by_cases e:p.1=k
  ·rw [if_pos e,if_pos (h1.symm.trans e)]; exact ⟨h1,ry⟩
  ·rw [if_neg e,if_neg (fun z=>e (h1.trans z))]; exact ⟨h1,h2⟩
theorem KV.put {kvs:List (κ × V)} {vs:List (κ × Value)} (r:KV kvs vs) (k:κ) {y:V} {u:Value} (ry:A1 y u):KV (Bg kvs k y) (stored vs k u):=by
 unfold Bg stored;rw [r.any k];by_cases e:(vs.any fun kv=>decide (kv.1=k))=true
 ·rw [if_pos e,if_pos e]; exact r.repl k ry
 ·rw [if_neg e,if_neg e]; exact Paired.snoc r ⟨rfl,ry⟩
theorem KV.drop {kvs:List (κ × V)} {vs:List (κ × Value)} (r:KV kvs vs) (k:κ):KV (IZ kvs k) (without vs k):=by
 unfold KV at r ⊢;unfold IZ without;induction r with
 | nil=>exact .nil
 | @cons p q ps qs h t ih=>
  obtain ⟨h1,h2⟩:=h;rw [ZP,ZP];by_cases e:p.1=k
  ·have a:¬ decide (p.1 ≠ k)=true:=by simp [e]
   have b:¬ decide (q.1 ≠ k)=true:=by simp [h1.symm.trans e]
   rw [if_neg a,if_neg b]; exact ih
  ·have e':¬ q.1=k:=fun z=>e (h1.trans z)
   have a:decide (p.1 ≠ k)=true:=by simp [e]
   have b:decide (q.1 ≠ k)=true:=by simp [e']
   rw [if_pos a,if_pos b]; exact .cons ⟨h1,h2⟩ ih
theorem KV.length {kvs:List (κ × V)} {vs:List (κ × Value)} (r:KV kvs vs):kvs.length=vs.length:=Paired.length r
theorem RN (kvs:List (κ × V)) (k:κ):(IZ kvs k).length<=kvs.length:=Z2 _ _
end
theorem Hs {P:Program} {w:World} {k:A7} {u:Value} (r:A1 (kV k) u):(AL P w).is k u=true:=by
 cases k with
 | inl i=>obtain ⟨t,e⟩:=(show ∃ t,u=Value.int i t from r); subst e; exact LZ P w i t
 | inr x=>obtain ⟨t,e⟩:=(show ∃ t,u=Value.str x t from r); subst e; exact Hq P w x t
theorem Ke {P:Program} {w:World}:∀ {ks:List A7} {us:List Value},A0 (ks.map kV) us->ItemsAre (AL P w) ks us
 | [],_,r=>by rw [bH] at r; cases r; exact .nil
 | k :: ks,_,r=>by
  rw [Zb] at r;cases r with
  | cons h t=>exact .cons (Hs h) (Ke t)
abbrev KT (H:Hp):List (List A7 × V)->List (List A7 × Addr × Value)->Prop:=Paired fun p q=>p.1=q.1/\H q.2.1=some (.tup (p.1.map kV))/\A1 p.2 q.2.2
theorem KT.val {H:Hp} {kvs:List (List A7 × V)} {xs:List (List A7 × Addr × Value)} (r:KT H kvs xs) (k:List A7):GX (Bu kvs k) ((atKey xs k).map (·.2)):=by
 induction r with
 | nil=>exact True.intro
 | @cons p q ps qs h t ih=>
  obtain ⟨h1,_,h2⟩:=h;by_cases e:p.1=k
  ·have e':q.1=k:=h1.symm.trans e;have b:atKey (q :: qs) k=some q.2:=by simp [atKey,aj,e']
   rw [DI e,b]; exact h2
  ·have e':¬ q.1=k:=fun z=>e (h1.trans z)
   have b:atKey (q :: qs) k=atKey qs k:=by simp [atKey,aj,e']
   rw [Dl e,b]; exact ih
theorem KT.repl {H:Hp} {kvs:List (List A7 × V)} {xs:List (List A7 × Addr × Value)} (r:KT H kvs xs) (k:List A7) {y:V} {u:Value} (ry:A1 y u) :
  KT H (kvs.map fun kv=>if kv.1=k then (kv.1,y) else kv) (xs.map (putAt k u)):=by
 induction r with
 | nil=>exact .nil
 | @cons p q ps qs h t ih=>
  rw [Zb,Zb];refine .cons ?_ ih;obtain ⟨h1,h2,h3⟩:=h;unfold putAt;by_cases e:p.1=k
  ·rw [if_pos e,if_pos (h1.symm.trans e)]; exact ⟨h1,h2,ry⟩
  ·rw [if_neg e,if_neg (fun z=>e (h1.trans z))]; exact ⟨h1,h2,h3⟩
theorem KT.put {H:Hp} {kvs:List (List A7 × V)} {xs:List (List A7 × Addr × Value)} (r:KT H kvs xs) (k:List A7) {b:Addr} {y:V} {u:Value} (hb:H b=some (.tup (k.map kV))) (ry:A1 y u) :
  KT H (Bg kvs k y) (storedH xs k b u):=by
 have e:(kvs.any fun kv=>decide (kv.1=k))=(atKey xs k).isSome:=by
  rw [CI,(r.val k).isSome_eq,bC]
 unfold Bg storedH;rw [e];by_cases q:(atKey xs k).isSome=true
 ·rw [if_pos q,if_pos q]; exact r.repl k ry
 ·rw [if_neg q,if_neg q]; exact Paired.snoc r ⟨rfl,hb,ry⟩
theorem KT.keeps {H H':Hp} {kvs:List (List A7 × V)} {xs:List (List A7 × Addr × Value)} (r:KT H kvs xs) (ht:∀ b ys,H b=some (.tup ys)->H' b=some (.tup ys)):KT H' kvs xs:=
 Paired.mapP r fun _ _ z=>⟨z.1,ht _ _ z.2.1,z.2.2⟩
section
variable {P:Program} {w:World} {H:Hp} {h:Heap} {a:Addr}
theorem Ue {u:HO} (ok:FD P w H h) (e:Rd H a u):A5 P w H h a u:=e.ok ok
theorem Ja {kvs:List (A7 × V)} (ok:FD P w H h) (e:Rd H a (.dK kvs)):kvs.length<=sizeLine/\(a == sysModules)=false/\∃ vs,KV kvs vs/\h.DictOf (AL P w) a vs:=
 show A5 P w H h a (.dK kvs) from Ue ok e
theorem RO {kvs:List (A7 × V)} (ok:FD P w H h) (e:H a=some (.dK kvs)):kvs.length<=sizeLine/\(a == sysModules)=false/\∃ vs,KV kvs vs/\h.DictOf (AL P w) a vs:=Ja ok (.inl e)
theorem F6 {ks:List A7} (ok:FD P w H h) (e:H a=some (.tup (ks.map kV))):(tupleKind (AL P w)).is h ks a:=by
 obtain ⟨_,Aq,r,⟨o,h1,h2,n,h3⟩,_⟩:=(show A5 P w H h a (.tup (ks.map kV)) from ok a _ e)
 exact ⟨o,Aq.toArray,n,h1,h2,h3,by simpa using Ke r⟩
theorem IY {kvs:List (List A7 × V)} (ok:FD P w H h) (e:Rd H a (.dT kvs)):kvs.length<=sizeLine/\(a == sysModules)=false /\
  ∃ xs,KT H kvs xs/\h.DictOfH (tupleKind (AL P w)) a xs:=by
 obtain ⟨z,y,xs,r,o,es,ep,h1,h2,h3,h4,h5⟩:=(show A5 P w H h a (.dT kvs) from Ue ok e)
 refine ⟨z,y,xs,r,o,es,ep,h1,h2,h3,h4,fun x hx=>?_,h5⟩;have all:∀ {l:List (List A7 × V)} {m:List (List A7 × Addr × Value)},KT H l m->∀ x ∈ m,(tupleKind (AL P w)).is h x.1 x.2.1:=by
  intro l m q;induction q with
  | nil=>intro x hx; exact nomatch hx
  | @cons p q ps qs hq t ih=>
   intro x hx;rcases YM.mp hx with e | hx
   ·subst e;exact F6 ok (by rw [<-hq.1]; exact hq.2.1)
   ·exact ih x hx
 exact all r x hx
theorem Us {kvs:List (List A7 × V)} (ok:FD P w H h) (e:H a=some (.dT kvs)):kvs.length<=sizeLine/\(a == sysModules)=false /\
  ∃ xs,KT H kvs xs/\h.DictOfH (tupleKind (AL P w)) a xs:=IY ok (.inl e)
end
def BK (H:Hp) (a:Addr) (y:V) (r:Option V):Prop:=
 (∃ kvs k,Rd H a (.dK kvs)/\y=kV k/\r=Bu kvs k)\/∃ kvs k b,Rd H a (.dT kvs)/\y=.ref b/\H b=some (.tup (k.map kV))/\r=Bu kvs k
def Fh (H:Hp) (a:Addr) (y v:V) (H':Hp):Prop:=
 (∃ kvs k,H a=some (.dK kvs)/\y=kV k/\kvs.length < sizeLine/\H'=upd H a (.dK (Bg kvs k v))) \/
 ∃ kvs k b,H a=some (.dT kvs)/\y=.ref b/\H b=some (.tup (k.map kV))/\kvs.length < sizeLine/\H'=upd H a (.dT (Bg kvs k v))
theorem BK.k {H:Hp} {a:Addr} {kvs:List (A7 × V)} {k:A7} (e:H a=some (.dK kvs)):BK H a (kV k) (Bu kvs k):=.inl ⟨kvs,k,.inl e,rfl,rfl⟩
theorem BK.t {H:Hp} {a b:Addr} {kvs:List (List A7 × V)} {k:List A7} (e:H a=some (.dT kvs)) (eb:H b=some (.tup (k.map kV))):BK H a (.ref b) (Bu kvs k):=.inr ⟨kvs,k,b,.inl e,rfl,eb,rfl⟩
theorem Fh.k {H:Hp} {a:Addr} {kvs:List (A7 × V)} {k:A7} {v:V} (e:H a=some (.dK kvs)) (hl:kvs.length < sizeLine):Fh H a (kV k) v (upd H a (.dK (Bg kvs k v))):=.inl ⟨kvs,k,e,rfl,hl,rfl⟩
theorem Fh.t {H:Hp} {a b:Addr} {kvs:List (List A7 × V)} {k:List A7} {v:V} (e:H a=some (.dT kvs)) (eb:H b=some (.tup (k.map kV))) (hl:kvs.length < sizeLine) :
  Fh H a (.ref b) v (upd H a (.dT (Bg kvs k v))):=.inr ⟨kvs,k,b,e,rfl,eb,hl,rfl⟩
section
variable {X:Cx} {pins:List (Addr × Obj)} {σ:St} {H:Hp} {s:Shared} {a:Addr} {y v:V} {u r:Value} {o:Option V} {A:Around} {E:Value->Shared->Prop}
theorem An.big (I:An X pins σ H s):sysModules < s.heap.objs.size:=by
 have h:mainGlobals < s.heap.objs.size:=(I.mod.glob.keeps I.bk).lt;exact Nat.lt_trans (by decide) h
theorem Qa {Q:Value->Shared->Prop} (hu:A.units + 1 < cLine) (I:An X pins σ H s) (g:BK H a y (some v)) (ry:A1 y u) (h:∀ w' s',An X pins σ H s'->A1 v w'->Q w' s') :
  wpAny (model X.prog X.w) A (getItem (.ref a) u) Q E s:=by
 rcases g with ⟨kvs,k,e,ey,l⟩ | ⟨kvs,k,b,e,ey,eb,l⟩
 ·subst ey;obtain ⟨z,hd,vs,rel,dd⟩:=Ja I.hok e;obtain ⟨w',hw,OV⟩:=GX.some_of (v:=v) (o:=valueAt vs k) (by rw [l]; exact rel.val k);exact wpAny_getItem_of (Hs ry) dd.mapOf hw (h w' _ (I.tok _) OV)
 ·subst ey;cases (show u=Value.ref b from ry)
  obtain ⟨z,hd,xs,rel,dd⟩:=IY I.hok e;obtain ⟨w',hw,OV⟩:=GX.some_of (v:=v) (o:=(atKey xs k).map (·.2)) (by rw [l]; exact rel.val k);obtain ⟨p,hp,hp2⟩:=Option.map_eq_some_iff.mp hw;refine wpAny_getItem_heap (tupleKind_room_in1 hu) (F6 I.hok eb) dd hp ?_;rw [hp2];exact h w' _ (I.tok _) OV
theorem d_in {Q:Value->Shared->Prop} (hu:A.units + 1 < cLine) (I:An X pins σ H s) (g:BK H a y o) (ry:A1 y u) (h:∀ s',An X pins σ H s'->Q (.bool o.isSome) s') :
  wpAny (model X.prog X.w) A (compareOp .In u (.ref a)) Q E s:=by
 rcases g with ⟨kvs,k,e,ey,l⟩ | ⟨kvs,k,b,e,ey,eb,l⟩
 ·subst ey;obtain ⟨z,hd,vs,rel,dd⟩:=Ja I.hok e;refine wpAny_in_of (Hs ry) hd dd.mapOf ?_;rw [<-(rel.val k).isSome_eq,<-l];exact h _ (I.tok _)
 ·subst ey;cases (show u=Value.ref b from ry)
  obtain ⟨z,hd,xs,rel,dd⟩:=IY I.hok e;refine wpAny_in_heap (tupleKind_room_in1 hu) (F6 I.hok eb) hd dd ?_;have q:=(rel.val k).isSome_eq;rw [bC] at q;rw [<-q,<-l];exact h _ (I.tok _)
theorem T8 {Q:Value->Shared->Prop} (hu:A.units + 1 < cLine) (I:An X pins σ H s) (g:BK H a y o) (ry:A1 y u) (h:∀ s',An X pins σ H s'->Q (.bool (!o.isSome)) s') :
  wpAny (model X.prog X.w) A (compareOp .NotIn u (.ref a)) Q E s:=by
 rcases g with ⟨kvs,k,e,ey,l⟩ | ⟨kvs,k,b,e,ey,eb,l⟩
 ·subst ey;obtain ⟨z,hd,vs,rel,dd⟩:=Ja I.hok e;refine wpAny_notIn_of (Hs ry) hd dd.mapOf ?_;rw [<-(rel.val k).isSome_eq,<-l];exact h _ (I.tok _)
 ·subst ey;cases (show u=Value.ref b from ry)
  obtain ⟨z,hd,xs,rel,dd⟩:=IY I.hok e;refine wpAny_notIn_heap (tupleKind_room_in1 hu) (F6 I.hok eb) hd dd ?_;have q:=(rel.val k).isSome_eq;rw [bC] at q;rw [<-q,<-l];exact h _ (I.tok _)
theorem Gj {h':Heap} {t':Nat} {ob:HO} (I:An X pins σ H s) (mu:Mut (H a)) (hs:Heap.SameBut a s.heap h') (he:∃ q,h'.get? a=some q) (new:A5 X.prog X.w (upd H a ob) h' a ob) :
  An X pins σ (upd H a ob) { s with heap:=h',toks:=t' }:=
 I.write (x:=a) (e:=a) mu (.inl rfl) (fun b q hb z=>(hs.2 b hb).trans z) he new
theorem Lh {P:Program} {w:World} {H':Hp} {h':Heap} {kvs:List (A7 × V)} {vs:List (A7 × Value)} (z:kvs.length<=sizeLine) (hd:(a == sysModules)=false) (rel:KV kvs vs) (dd:h'.DictOf (AL P w) a vs) :
  A5 P w H' h' a (.dK kvs):=⟨z,hd,vs,rel,dd⟩
theorem PZ {H':Hp} {Q:Unit->Shared->Prop} (hu:A.units + 1 < cLine) (I:An X pins σ H s) (g:Fh H a y v H') (ry:A1 y u) (rv:A1 v r) (h:∀ s',An X pins σ H' s'->Q () s') :
  wpAny (model X.prog X.w) A (setItem (.ref a) u r) Q E s:=by
 rcases g with ⟨kvs,k,e,ey,l,eH⟩ | ⟨kvs,k,b,e,ey,eb,l,eH⟩
 ·subst ey eH;obtain ⟨z,hd,vs,rel,dd⟩:=RO I.hok e;have hz:vs.length<=sizeLine:=by rw [<-rel.length]; exact z
  have hl:(Bg kvs k v).length<=sizeLine:=by have:=CM kvs k v; lia
  refine wpAny_setItem_pairs (hsz:=hz) (Hs ry) dd fun h' M3 hs=>h _ ?_
  have he:∃ q,h'.get? a=some q:=let ⟨q,_,_,hq,_⟩:=M3; ⟨q,hq⟩;exact Gj I (by rw [e]; exact True.intro) hs he (Lh hl hd (rel.put k rv) M3)
 ·subst ey eH;cases (show u=Value.ref b from ry)
  obtain ⟨z,hd,xs,rel,dd⟩:=Us I.hok e;have hz:xs.length<=sizeLine:=by rw [<-Paired.length rel]; exact z
  have hl:(Bg kvs k v).length<=sizeLine:=by have:=CM kvs k v; lia
  refine wpAny_setItem_heap (hsz:=hz) (tupleKind_room_in1 hu) (F6 I.hok eb) dd fun h' M3 hs=>h _ ?_
  obtain ⟨q,es,ep,hq,h2,h3,h4,_,h5⟩:=M3;refine Gj I (by rw [e]; exact True.intro) hs ⟨q,hq⟩ ⟨hl,hd,_,(rel.put k eb rv).keeps fun c ys ec=>?_,q,es,ep,hq,h2,h3,h4,h5⟩;rw [Ae (Bz ec e (fun z=>nomatch z))];exact ec
end
section
variable {X:Cx} {pins:List (Addr × Obj)} {σ:St} {H:Hp} {s:Shared} {a:Addr} {kvs:List (A7 × V)} {k:A7} {u:Value} {A:Around} {E:Value->Shared->Prop}
theorem Qb {Q:Unit->Shared->Prop} (I:An X pins σ H s) (e:H a=some (.dK kvs)) (ry:A1 (kV k) u) (l:(Bu kvs k).isSome=true) (h:∀ s',An X pins σ (upd H a (.dK (IZ kvs k))) s'->Q () s') :
  wpAny (model X.prog X.w) A (delItem (.ref a) u) Q E s:=by
 obtain ⟨z,hd,vs,rel,dd⟩:=RO I.hok e;refine wpAny_delItem_slot dd.typeIs (by decide) PySem.F.slot_dict_delitem
  (call_meetsIn PySem.F.slot_dict_delitem dd.typeIs PySem.F.entry_dict_delitem (PySem.F.args_dict_delitem_2 _ _) (meets_dict_delitem_pairs (AL X.prog X.w) a (Hs ry)) ⟨vs,dd,by rw [<-rel.length]; exact z,by rw [<-(rel.val k).isSome_eq]; exact l,fun h' M3 hs=>h _ ?_⟩)
 have he:∃ q,h'.get? a=some q:=let ⟨q,_,_,hq,_⟩:=M3; ⟨q,hq⟩;exact Gj I (by rw [e]; exact True.intro) hs he (Lh (Zj (RN kvs k) z) hd (rel.drop k) M3)
end
def NoSl (i:Expr):Prop:=∀ ov iv,subscripted i false ov iv=operate [ov,iv] (getItem ov iv)
theorem S7 {prog:Program} {w:World} {A:Around} {E:Value->Shared->Prop} {s:Shared} {env:Env} {value slice:Expr} {pos:Pos} {T id:String} {Q:Value->Shared->Prop}
  (hl:typeLookup (.type T) "__getitem__"=pure (some (.builtin id))) (hs:NoSl slice)
  (h:wpAny (model prog w) A (eval value env) (fun o AK=>wpAny (model prog w) A (eval slice env) (fun i Eu=>Eu.TypeIs o T/\wpAny (model prog w) A (getItem o i) Q E Eu) E AK) E s) :
  wpAny (model prog w) A (eval (.Subscript value slice pos) env) Q E s:=by
 refine Subscript_ (wpAny_mono h (fun o AK h₁=>wpAny_mono h₁ (fun i Eu Na=>?_) fun _ _ x=>x) fun _ _ x=>x);obtain ⟨hT,Na⟩:=Na;unfold subscriptTail;refine wpAny_bind ?_;rw [getitemInPython_of_ne hT.not_modules];refine wpAny_bind (wpAny_specialOf hT hl ?_);have fin:wpAny (model prog w) A (subscripted slice false o i) (fun r BU=>wpAny (model prog w) A (letTemporaryGo value o r >>= fun _=>pure r) Q E BU) E Eu:=by
  rw [hs o i];exact wpAny_operating (wpAny_mono Na (fun r BU MZ=>wpAny_bind (wpAny_letTemporaryGo (wpAny_pure MZ))) fun _ _ x=>x)
 first
  | exact wpAny_pure (wpAny_bind fin)
  | exact wpAny_bind (wpAny_pure (wpAny_bind fin))
  | exact wpAny_bind fin
theorem Mq {X:Cx} {pins:List (Addr × Obj)} {σ:St} {H:Hp} {s:Shared} {a:Addr} {y:V} {o:Option V} (I:An X pins σ H s) (g:BK H a y o):s.TypeIs (.ref a) "dict":=by
 rcases g with ⟨kvs,k,e,_,_⟩ | ⟨kvs,k,b,e,_,_,_⟩
 ·obtain ⟨_,_,vs,_,dd⟩:=Ja I.hok e;exact dd.typeIs
 ·obtain ⟨_,_,xs,_,dd⟩:=IY I.hok e;exact dd.typeIs
def tDGet (td ty:TE):TE:=fun σ H Q=>td σ H fun x H1=>ty σ H1 fun y H2=>∃ a v,x=.ref a/\BK H2 a y (some v)/\Q v H2
def tDIn (ty td:TE):TE:=fun σ H Q=>ty σ H fun y H1=>td σ H1 fun x H2=>∃ a o,x=.ref a/\BK H2 a y o/\Q (.bl o.isSome) H2
def S5 (ty td:TE):TE:=fun σ H Q=>ty σ H fun y H1=>td σ H1 fun x H2=>∃ a o,x=.ref a/\BK H2 a y o/\Q (.bl (!o.isSome)) H2
def sDPut (td ty tv:TE):TS:=fun D σ H=>tv σ H fun v H1=>td σ H1 fun x H2=>ty σ H2 fun y H3=>∃ a H4,x=.ref a/\Fh H3 a y v H4/\D.nx σ H4
def sDDel (td ty:TE):TS:=fun D σ H=>td σ H fun x H1=>ty σ H1 fun y H2=>∃ a kvs k,x=.ref a/\H2 a=some (.dK kvs)/\y=kV k/\(Bu kvs k).isSome=true/\D.nx σ (upd H2 a (.dK (IZ kvs k)))
section
variable {X:Cx} {o i e value:Expr} {pos pos' tpos:Pos} {td ty tv:TE}
theorem AG (hu:X.A.units + 1 < cLine) (ho:PE X o td) (hi:PE X i ty) (hs:NoSl i):PE X (.Subscript o i pos) (tDGet td ty):=by
 intro pins s σ H Q I h;refine S7 PySem.F.slot_dict_getitem.lookup hs (Bj (ho (pins:=pins) s σ H _ I h) fun u s1 ⟨x,H1,I1,rx,q1⟩=>Bj (hi (pins:=pins) s1 σ H1 _ I1 q1) fun iv s2 ⟨y,H2,I2,ry,a,v,ex,g,q2⟩=>?_);subst ex;obtain rfl:u=Value.ref a:=rx;exact ⟨Mq I2 g,Qa hu I2 g ry fun w' s3 I3 OV=>⟨v,H2,I3,OV,q2⟩⟩
theorem UO (hu:X.A.units + 1 < cLine) (hi:PE X i ty) (ho:PE X o td):PC X .In i o (tDIn ty td):=by
 intro pins s σ H Q I h;refine Bj (hi (pins:=pins) s σ H _ I h) fun iv s1 ⟨y,H1,I1,ry,q1⟩=>Bj (ho (pins:=pins) s1 σ H1 _ I1 q1) fun u s2 ⟨x,H2,I2,rx,a,ov,ex,g,q2⟩=>?_
 subst ex;obtain rfl:u=Value.ref a:=rx;exact d_in hu I2 g ry fun s3 I3=>⟨.bl ov.isSome,H2,I3,rfl,q2⟩
theorem JV (hu:X.A.units + 1 < cLine) (hi:PE X i ty) (ho:PE X o td):PC X .NotIn i o (S5 ty td):=by
 intro pins s σ H Q I h;refine Bj (hi (pins:=pins) s σ H _ I h) fun iv s1 ⟨y,H1,I1,ry,q1⟩=>Bj (ho (pins:=pins) s1 σ H1 _ I1 q1) fun u s2 ⟨x,H2,I2,rx,a,ov,ex,g,q2⟩=>?_
 subst ex;obtain rfl:u=Value.ref a:=rx;exact T8 hu I2 g ry fun s3 I3=>⟨.bl (!ov.isSome),H2,I3,rfl,q2⟩
theorem Dd (hu:X.A.units + 1 < cLine) (ho:PE X o td) (hi:PE X i ty) (hv:PE X value tv) (hs:swapsWith value (some (.Subscript o i pos')) pos.line X.env=pure false) :
  PS X (.Assign [.Subscript o i pos'] value pos) (sDPut td ty tv):=by
 intro pins s σ H D I h;refine wpAny_Assign_Subscript (Bj (hv (pins:=pins) s σ H _ I h) fun r s1 ⟨v,H1,I1,rv,q1⟩=>Bj (ho (pins:=pins) s1 σ H1 _ I1 q1) fun u s2 ⟨x,H2,I2,rx,q2⟩=>Bj (hi (pins:=pins) s2 σ H2 _ I2 q2) fun iv s3 ⟨y,H3,I3,ry,a,H4,ex,g,q3⟩=>?_) hs;subst ex;obtain rfl:u=Value.ref a:=rx;exact PZ hu I3 g ry rv fun s4 I4=>⟨σ,H4,I4,q3⟩
theorem SM (ho:PE X o td) (hi:PE X i ty):PS X (.Delete [.Subscript o i tpos] pos) (sDDel td ty):=by
 intro pins s σ H D I h;refine wpAny_Delete (wpAny_deleteEach_cons (wpAny_delete_Subscript (Bj (ho (pins:=pins) s σ H _ I h) fun u s1 ⟨x,H1,I1,rx,q1⟩=>Bj (hi (pins:=pins) s1 σ H1 _ I1 q1) fun iv s2 ⟨y,H2,I2,ry,a,kvs,k,ex,e,ey,l,q2⟩=>?_)));subst ex ey;obtain rfl:u=Value.ref a:=rx;exact Qb I2 e ry l fun s3 I3=>wpAny_deleteEach_nil ⟨σ,_,I3,q2⟩
end
theorem Jb {P:Program} {w:World} {H:Hp} (h:Heap) (hb:sysModules < h.objs.size):A5 P w H (h.push { cls:=.type "dict",data:=.dict #[] }) h.objs.size (.dK []):=
 ⟨Zz _,beq_eq_false_iff_ne.mpr (Ne.symm (YX hb)),[],.nil,Heap.DictOf.new h⟩
theorem Mp {P:Program} {w:World} {H:Hp} (h:Heap) (hb:sysModules < h.objs.size):A5 P w H (h.push { cls:=.type "dict",data:=.dict #[] }) h.objs.size (.dT []):=
 ⟨Zz _,beq_eq_false_iff_ne.mpr (Ne.symm (YX hb)),[],.nil,_,#[],0,YW _ rfl,⟨rfl,rfl,rfl⟩,rfl,rfl,aa⟩
def U9:TE:=fun _ H Q=>∀ p,H p=none->Q (.ref p) (upd H p (.dK []))
def U8:TE:=fun _ H Q=>∀ p,H p=none->Q (.ref p) (upd H p (.dT []))
section
variable {X:Cx} {pos:Pos}
theorem LQ:PE X (.Dict [] [] pos) U9:=fun pins s σ H Q I h=>
 wpAny_Dict_empty ⟨.ref s.heap.objs.size,_,I.laid (a:=s.heap.objs.size) (o:=.dK []) (t':=s.toks) (fun _ _ q=>YK _ q) (YO _) (Jb s.heap I.big),rfl,h _ (I.hok.fresh (YO _))⟩
theorem LP:PE X (.Dict [] [] pos) U8:=fun pins s σ H Q I h=>
 wpAny_Dict_empty ⟨.ref s.heap.objs.size,_,I.laid (a:=s.heap.objs.size) (o:=.dT []) (t':=s.toks) (fun _ _ q=>YK _ q) (YO _) (Mp s.heap I.big),rfl,h _ (I.hok.fresh (YO _))⟩
end
def IE (kvs more:List (A7 × V)):List (A7 × V):=more.foldl (fun acc kv=>Bg acc kv.1 kv.2) kvs
structure M2 (X:Cx) (o:Expr) (m:Str) (apos:Pos) (e f:Expr) (EH:Pos):Prop where
 base:attributeBase o m X.env (eval o X.env)=eval o X.env
 few:((backTo EH (starEach [e,f] X.env)).all (fun x=>!x.1) && (backToKw EH (keywordEach [] X.env)).all (fun x=>x.1.isSome)
  && decide (([e,f]:List Expr).length + ([]:List Keyword).length + (if ([]:List Keyword).isEmpty then 0 else 1) < 30))=true
 line:(apos.endLine == EH.line)=true
 trees:backTo EH (starEach [e,f] X.env)=[(false,eval e X.env),(false,eval f X.env)]
def IsD (H:Hp) (a:Addr):Prop:=(∃ kvs,Rd H a (.dK kvs))\/∃ kvs,Rd H a (.dT kvs)
theorem Vd {X:Cx} {pins:List (Addr × Obj)} {σ:St} {H:Hp} {s:Shared} {a:Addr} (I:An X pins σ H s) (d:IsD H a) :
  s.TypeIs (.ref a) "dict"/\(∀ b,Value.ref a=.ref b->∃ ob,s.heap.get? b=some ob/\ob.dict=none)/\(a == sysModules)=false:=by
 rcases d with ⟨kvs,e⟩ | ⟨kvs,e⟩
 ·obtain ⟨_,hd,vs,_,dd⟩:=Ja I.hok e;refine ⟨dd.typeIs,fun b q=>?_,hd⟩;cases q
  obtain ⟨ob,_,_,h1,h2,_⟩:=dd;exact ⟨ob,h1,h2.2.1⟩
 ·obtain ⟨_,hd,xs,_,dd⟩:=IY I.hok e;refine ⟨dd.typeIs,fun b q=>?_,hd⟩;cases q
  obtain ⟨ob,_,_,h1,h2,_⟩:=dd;exact ⟨ob,h1,h2.2.1⟩
section
variable {X:Cx} {pins:List (Addr × Obj)} {σ:St} {H:Hp} {s:Shared} {a:Addr} {y d:V} {u r:Value} {o:Option V} {A:Around} {E:Value->Shared->Prop}
theorem Vp {Q:Value->Shared->Prop} (hu:A.units + 1 < cLine) (I:An X pins σ H s) (g:BK H a y o) (ry:A1 y u) (rd:A1 d r) (h:∀ w' s',An X pins σ H s'->A1 (o.getD d) w'->Q w' s') :
  wpAny (model X.prog X.w) A (call (.builtin "dict.get") [.ref a,u,r]) Q E s:=by
 rcases g with ⟨kvs,k,e,ey,l⟩ | ⟨kvs,k,b,e,ey,eb,l⟩
 ·subst ey;obtain ⟨z,hd,vs,rel,dd⟩:=Ja I.hok e;refine call_meetsIn PySem.F.slot_dict_get dd.typeIs PySem.F.entry_dict_get (PySem.F.args_dict_get_3 _ _ _) (meets_dict_get_default (AL X.prog X.w) a (Hs ry) hd r) ⟨_,dd.mapOf,h _ _ (I.tok _) ?_⟩;rw [l];exact (rel.val k).getD rd
 ·subst ey;cases (show u=Value.ref b from ry)
  obtain ⟨z,hd,xs,rel,dd⟩:=IY I.hok e;refine call_meetsIn PySem.F.slot_dict_get dd.typeIs PySem.F.entry_dict_get (PySem.F.args_dict_get_3 _ _ _) (meetsH_dict_get_default (tupleKind (AL X.prog X.w)) a b hd r) ⟨tupleKind_room_in1 hu,k,xs,F6 I.hok eb,dd,h _ _ (I.tok _) ?_⟩;rw [l];exact (rel.val k).getD rd
end
def UA (td ty tx:TE):TE:=fun σ H Q=>td σ H fun x H1=>∃ a,x=.ref a/\IsD H1 a/\ty σ H1 fun y H2=>tx σ H2 fun z H3=>∃ o,BK H3 a y o/\Q (o.getD z) H3
section
variable {X:Cx} {o e f:Expr} {apos EH:Pos} {td ty tx:TE}
theorem Rc (hu:X.A.units + 1 < cLine) (ho:PE X o td) (he:PE X e ty) (hf:PE X f tx) (m:M2 X o "get" apos e f EH):PE X (.Call (.Attribute o "get" apos) [e,f] [] EH) (UA td ty tx):=by
 intro pins s σ H Q I h;refine wpAny_Call_method m.base m.few m.line PySem.F.plainAttrs_dict PySem.F.slot_dict_get PySem.F.type_dict_get (Bj (ho (pins:=pins) s σ H _ I h) fun u s1 ⟨x,H1,I1,rx,a,ex,d,q1⟩=>?_);subst ex;obtain rfl:u=Value.ref a:=rx;obtain ⟨t1,t2,_⟩:=Vd I1 d;refine ⟨t1,t2,?_⟩;rw [m.trees];refine Calls.callWith_builtin rfl (Calls.evalArgs_plain (Calls.spliced_cons (Bj (he (pins:=pins) s1 σ H1 _ I1 q1) fun iv s2 ⟨y,H2,I2,ry,q2⟩=>
  Calls.spliced_cons (Bj (hf (pins:=pins) s2 σ H2 _ I2 q2) fun fv s3 ⟨z,H3,I3,rz,ov,g,q3⟩=>Calls.spliced_nil ?_))))
 exact Vp hu I3 g ry rz fun w' s4 I4 OV=>⟨_,H3,I4,OV,q3⟩
end
section
variable {X:Cx} {pins:List (Addr × Obj)} {σ:St} {H:Hp} {s:Shared} {a:Addr} {kvs:List (A7 × V)} {A:Around} {E:Value->Shared->Prop}
end
section
variable {X:Cx} {pins:List (Addr × Obj)} {σ:St} {H:Hp} {s:Shared} {a:Addr} {y:V} {u:Value} {A:Around} {E:Value->Shared->Prop}
end
end L2
namespace Att
open PySem PySem.W PySem.Calls PyProof.Rows
theorem HC {P:Params} {h:Heap}:∀ (ns:List Int) (vs:List Value),WellAll P h vs (ns.map WData.int)->IntsAre vs ns:=by
 intro ns;induction ns with
 | nil=>
  intro vs w;rw [bH] at w;cases w
  exact .nil
 | cons n ns ih=>
  intro vs w;rw [Zb] at w;cases w with
  | cons a b=>
   cases a
   exact .cons _ _ (ih _ b)
theorem OR {l:OpenLaw} {n:Nat} (hn:l.most=some n) {P:Params} {h:Heap} {args:List WData} {vals:List Value}
  (hpre:l.row.toRowW.claim.pre args=true) (hwl:WellAll P h vals args) :
  ∃ a vs ns,vals=[Value.ref a]/\args=[WData.list (ns.map WData.int)]/\h.get? a=some { cls:=.type "list",data:=.seq vs.toArray }/\IntsAre vs ns/\ns.length<=n:=by
 have hsh:WShape.hasAll [] args [.list .int]=true:=(pre_splitW hpre).1;have hc:l.pre.holds [] { args:=args } = true:=(pre_splitW hpre).2;obtain ⟨d,r,rfl,h1,h2⟩:=hasAllW_cons hsh;obtain rfl:=hasAllW_nil h2;obtain ⟨xs,rfl,h3⟩:=hasW_list h1;obtain ⟨ns,rfl⟩:=items_int h3;have hlen:ns.length<=n:=by
  unfold OpenLaw.pre at hc;have h4:(WTm.not (.lt (.lit (.int (n:Int))) (.len (.arg 0)))).holds [] { args:=[.list (ns.map .int)] } = true:=by
   have h4:=(holds_andW hc).1;rw [hn] at h4;exact h4
  have h5:=condW_of h4 (w_not (w_lt w_lit (w_len_list (w_arg rfl))));rw [YI] at h5;refine Nat.le_of_not_lt fun q=>?_
  have q':(n:Int) < ((ns.length:Nat):Int):=by lia
  first
   | (rw [decide_eq_true q'] at h5; exact absurd h5 (by decide))
   | (simp at h5; lia)
 cases hwl with
 | cons w1 w2=>
  cases w2
  cases w1 with
  | list ho hall=>exact ⟨_,_,ns,rfl,rfl,ho,HC ns _ hall,hlen⟩
theorem Pk (l:OpenLaw) (args:List WData):l.row.toRowW.claim.post args (.bool true) args=true:=
 postW_of (r:=l.row.toRowW) (X:=(true == true))
  (show WShape.has [] (.bool true) .bool=true by first | rfl | decide | simp [WShape.has,WShape.arms,WShape.armsAll])
  (show (WTm.eq .res (.lit (.bool true))).value [] { args:=args,res:=some (.bool true),after:=args } = some (.bool (true == true)) from w_eq_bool (w_res rfl) w_lit) rfl
theorem attach_call {l:OpenLaw} {n:Nat} {q:Program} {loose:List Str} {XP:(Str->Option Value)->Heap->Prop} {YP:World->Heap->Prop} {d:DefRec}
  (hn:l.most=some n) (hdf:d.params.defaults=[])
  (call:∀ (w:World) (s₀ AK:Shared) (mg mb:Str->Option Value) (fa:Addr) (o:Obj) (pm cd doc:Value) (a:Addr) (vs:List Value) (ns:List Int),
   Ground q loose [] XP w s₀ mg mb AK.heap->YP w AK.heap ->
   AK.heap.get? fa=some o->o.data=.func (docDef d.name d.params d.body d.scope pm cd doc)->AK.heap.CodeRec cd d.name->mg d.name=some (.ref fa) ->
   AK.heap.get? a=some { cls:=.type "list",data:=.seq vs.toArray }->IntsAre vs ns->ns.length<=n->AK.gens=#[] ->
   codeAny (model l.prog w) callerA (.call (.ref fa) ⟨[.ref a],[]⟩) (fun r s'=>r=.ok (.ret (.bool true))/\OldK AK.heap s'.heap/\s'.os=AK.os/\AllBare s'.gens) AK) :
  WalkO q loose XP YP l.row.toRowW d [] (fun f vs=>PySem.call f vs):=by
 intro w s₀ AK mg mb G Y fa o pm cd doc dV kV ho hd hcd hD hmg hg args vals as hpre hlay hrd hwl hlo;obtain rfl:dV=.none:=Dflts.none hD hdf;obtain rfl:kV=.none:=Dflts.noKw hD;obtain ⟨a,vs,ns,rfl,rfl,hobj,hints,hlen⟩:=OR hn hpre hwl;refine enter_call (codeAny_mono (call w s₀ AK mg mb fa o pm cd doc a vs ns G Y ho (fd_plain hd) hcd hmg hobj hints hlen hg) fun r s' hq=>?_);obtain ⟨rfl,h2,h3,h4⟩:=hq;exact ⟨.inl ⟨.bool true,.bool true,[],rfl,fun _=>rfl,.bool true,Pk l _,fun _=>⟨List.Pairwise.nil,fun _ hm=>(nomatch hm)⟩⟩,h2,h3,h4⟩
section
variable {prog:Program} {w:World} {A:Around} {E:Value->Shared->Prop} {s:Shared} {K:Frag}
end
end Att
namespace L2
open PySem PySem.Spec PyProof.Rows
theorem JH:∀ {vs:List Value} {ns:List Int},IntsAre vs ns->A0 (ns.map V.int) vs
 | _,_,.nil=>.nil
 | _,_,.cons n t h=>.cons ⟨t,rfl⟩ (JH h)
def TK (H:Hp):Prop:=∀ b,H b=none\/∃ o xs,H b=some (.frz o (.lst xs))
theorem Ru {P:Program} {w:World} {K:YL} {mg mb:Str->Option Value} {CX:Sb} {k:Nat} {fa a:Addr} {fd:FuncData} {x:Str} {sp:Sp} {AK:Shared} {vs:List Value} {ns:List Int}
  (KX:K.In AK.heap) (hns:AK.heap.Ns mainGlobals mg) (hb:AK.heap.Ns builtinsNs mb) (hbb:∀ x:Str,x ≠ "__name__"->mb x=bootBuiltins x) (hlim:AK.heap.NoLimit) (hg:AK.gens=#[])
  (ha:AK.heap.get? a=some { cls:=.type "list",data:=.seq vs.toArray }) (hi:IntsAre vs ns) (hl:ns.length<=sizeLine) (hr:En k callerA)
  (F:∀ base:Heap,K.In base->base.Ns mainGlobals mg->A3 P w K mg base CX k fa fd [x] sp) (hbind:∀ (s:Shared) (u:Value),BindsTo s fd ⟨[u],[]⟩ [(x,u)])
  (hsp:∀ H:Hp,TK H->AD K H a (ns.map V.int)->sp [.ref a] H (fun v _=>v=.bl true) fun _ _ _=>False)
  (hCX:∀ H e s',CX [] H AK (fun _ _ _=>False) e s'->False) :
  codeAny (model P w) callerA (.call (.ref fa) ⟨[.ref a],[]⟩) (fun r s'=>r=.ok (.ret (.bool true))/\OldK AK.heap s'.heap/\s'.os=AK.os/\AllBare s'.gens) AK:=by
 have rv:=JH hi;have lenV:=hi.length;have core:∀ H:Hp,TK H->AD K H a (ns.map V.int)->FD P w H AK.heap->(∀ b,H b ≠ none->b=a)->(H a ≠ none->K.lookup a=none) ->
   codeAny (model P w) callerA (.call (.ref fa) ⟨[.ref a],[]⟩) (fun r s'=>r=.ok (.ret (.bool true))/\OldK AK.heap s'.heap/\s'.os=AK.os/\AllBare s'.gens) AK:=by
  intro H hO hS hok hA hK;have base_of:∀ {b:Addr} {o:Obj},AK.heap.get? b=some o->H b=none->(Lb AK.heap H).get? b=some o:=fun e n=>R7 e n
  have noA:∀ {b:Addr} {o:Obj} {es:Array DictEntry} {ep:Nat},AK.heap.get? b=some o->o.data=.dict es ep->H b=none:=fun {b o es ep} e d=>by
   cases q:H b with
   | none=>rfl
   | some u=>
    have e':b=a:=hA b (by rw [q]; simp);subst e';rw [ha] at e; cases e;have d':Data.seq vs.toArray _=Data.dict es ep:=d;cases d'
  have nsK:∀ {b:Addr} {m:Str->Option Value},AK.heap.Ns b m->(Lb AK.heap H).Ns b m:=fun {b m} ⟨o,es,ep,e,d,r⟩=>⟨o,es,ep,base_of e (noA e d),d,r⟩
  have hKb:K.In (Lb AK.heap H):=fun b o e=>base_of (KX b o e) (by
   cases q:H b with
   | none=>rfl
   | some u=>
    have e':b=a:=hA b (by rw [q]; simp);subst e';rw [hK (by rw [q]; simp)] at e; cases e)
  have hM:Mod K mg (Lb AK.heap H):=⟨hKb,nsK hns,⟨mb,nsK hb,hbb⟩,let ⟨mc,h1,h2⟩:=hlim; ⟨mc,nsK h1,h2⟩⟩
  have e0:TN P w K mg (Lb AK.heap H) callerA [] AK H:=⟨rfl,hM,fun b o e=>SY e,Nat.le_of_eq (PN _ _),trivial,fun b hb=>absurd (show b ∈ ([]:List Addr) from hb) (by simp),hok,.of_eq hg⟩
  refine codeAny_mono ((F _ hKb (nsK hns)).run callerA [] AK H ⟨[.ref a],[]⟩ [.ref a] [.ref a] _ _ hr e0 (hbind AK (.ref a)) (.cons rfl .nil) (hsp H hO hS)) fun r s' h=>?_
  cases r with
  | error e=>exact (hCX H e s' h).elim
  | ok fl=>
   cases fl with
   | next=>exact False.elim h
   | brk=>exact False.elim h
   | cont=>exact False.elim h
   | ret u=>
    obtain ⟨v,H',os,bare,un,Yi,r',q⟩:=h;have q':v=.bl true:=q;subst q';obtain rfl:u=Value.bool true:=r';refine ⟨rfl,OldK.of_keep fun b o e=>?_,os,bare⟩;cases q:H b with
    | none=>exact un.keep b o e q (by intro z; exact absurd (show b ∈ ([]:List Addr) from z) (by simp)) (by simp)
    | some u=>
     rcases hO b with z | ⟨ob,xs,z⟩
     ·rw [q] at z; cases z
     ·have z2:=un.frzs b ob _ z;obtain ⟨e1,_⟩:=hok b _ z;obtain ⟨e2,_⟩:=Yi b _ z2;rw [e] at e1; cases e1;exact e2
 cases hk:K.lookup a with
 | some o=>
  have e:=KX a o hk;rw [ha] at e;cases e
  refine core (fun _=>none) (fun _=>.inl rfl) (.inr ⟨_,vs.toArray,_,hk,rfl,rfl,rfl,by rw [Zi,lenV]; exact hl,by simpa using rv⟩) (fun b u z=>by have z':(none:Option HO)=some u:=z; cases z') (fun b z=>absurd rfl z) fun z=>absurd rfl z
 | none=>
  refine core (fun b=>if b=a then some (.frz { cls:=.type "list",data:=.seq vs.toArray } (.lst (ns.map V.int))) else none) (fun b=>?_) (.inl (.inr ⟨{ cls:=.type "list",data:=.seq vs.toArray },if_pos rfl⟩)) (fun b u z=>?_) (fun b z=>?_) fun _=>hk
  ·by_cases hb:b=a
   ·exact .inr ⟨_,_,if_pos hb⟩
   ·exact .inl (if_neg hb)
  ·by_cases hb:b=a
   ·have z':=(if_pos hb).symm.trans z;cases z'
    subst hb;exact ⟨ha,by rw [YI]; exact hl,vs,_,rv,ha⟩
   ·have z':=(if_neg hb).symm.trans z;cases z'
  ·by_cases hb:b=a
   ·exact hb
   ·exact absurd (if_neg hb) z
theorem walk_of {l:bK} {n k:Nat} {q:Program} {loose:List Str} {XP:(Str->Option Value)->Heap->Prop} {YP:World->Heap->Prop} {d:DefRec} {K:Params->YL} {CX:World->Sb} {sp:World->Sp} {x:Str}
  (hn:l.most=some n) (Yk:n<=sizeLine) (hdf:d.params.defaults=[]) (hr:En k callerA)
  (hY:∀ (w:World) (h:Heap),YP w h->(K w.params).In h)
  (F:∀ (w:World) (mg:Str->Option Value) (fa:Addr) (h:Heap),(K w.params).In h->h.Ns mainGlobals mg->mg d.name=some (.ref fa) ->
   ∃ fd:FuncData,(∀ (s:Shared) (u:Value),BindsTo s fd ⟨[u],[]⟩ [(x,u)]) /\
    ∀ base:Heap,(K w.params).In base->base.Ns mainGlobals mg->A3 l.prog w (K w.params) mg base (CX w) k fa fd [x] (sp w))
  (hsp:∀ (w:World) (H:Hp) (a:Addr) (ns:List Int),ns.length<=n->TK H->AD (K w.params) H a (ns.map V.int)->sp w [.ref a] H (fun v _=>v=.bl true) fun _ _ _=>False)
  (hCX:∀ (w:World) (H:Hp) (s:Shared) (e:Value) (s':Shared),CX w [] H s (fun _ _ _=>False) e s'->False) :
  dh q loose XP YP l.row.toRowW d [] (fun f vs=>PySem.call f vs):=by
 refine Att.attach_call hn hdf fun w s₀ AK mg mb fa o pm cd doc a vs ns G Y ho hd hcd hmg hobj hints hlen hg=>?_
 have KX:=hY w _ Y;obtain ⟨fd,hb,hF⟩:=F w mg fa _ KX G.T.g hmg;exact Ru KX G.T.g G.T.b G.T.builtins G.T.nolimit hg hobj hints (Zj hlen Yk) hr hF hb (fun H hO hS=>hsp w H a ns hlen hO hS) fun H e s'=>hCX w H AK e s'
def Ek (s:Stmt):Arguments:=match s with
 | .FunctionDef _ a _ _ _ _ _ _ _ _=>a
 | _=>{ posonlyargs:=[],args:=[],vararg:=none,kwonlyargs:=[],kw_defaults:=[],kwarg:=none,defaults:=[] }
def Cp (s:Stmt):List Stmt:=match s with
 | .FunctionDef _ _ b _ _ _ _ _ _ _=>b
 | _=>[]
def Am (s:Stmt):Scope:=match s with
 | .FunctionDef _ _ _ _ _ _ sc _ _ _=>sc
 | _=>{ kind:=.function,names:=[],isGenerator:=false,isCoroutine:=false }
abbrev Bt:Sb:=fun _ _ _ _ _ _=>False
abbrev E0:XK:=fun _ _ _=>False
theorem As {X:Cx}:Nu Bt X E0:=fun _ _ _ _ _ _ _ h=>h.elim
structure DT (K:YL) (x qual:Str) (st:Stmt) (f:Addr) (fd:FuncData):Prop where
 ex:∃ (oc:Value) (od:Option Addr) (kV doc pm:Value) (an:Option Addr) (cdv ct:Value) (osl:Array (Option Value)),
  fd=ag x qual (Ek st) (Cp st) (Am st) .none kV doc pm an cdv ct/\K.lookup f=some ⟨oc,od,.func fd,osl⟩/\bp K cdv qual=true
 kp:bj K (.ref f)=true
section
variable {P:Program} {w:World} {K:YL} {mg:Str->Option Value} {base:Heap}
theorem DT.ok {x qual:Str} {st:Stmt} {f:Addr} {fd:FuncData} {N ps:List Str} {k:Nat} {sp:Sp} (F:DT K x qual st f fd) (S:A2 N ps (Am st)) (len:∀ vs H Q E,sp vs H Q E->vs.length=ps.length)
  (hbody:∀ (cdv:Value) (A:Around) (outer:List Env) (s:Shared) (H:Hp) (vs:List V) (Q:VK) (E:XK),En k (A.deeper (envOfC qual (Am st) s.heap.objs.size f cdv))->sp vs H Q E ->
   ∃ t,Mx (J5 Bt P w K mg base N qual (Am st) f cdv A outer s H E).nox (Cp st) t/\t { nx:=fun _ H'=>Q .non H',rt:=Q } (start N vs) H):A3 P w K mg base Bt (k + 1) f fd ps sp:=by
 obtain ⟨oc,od,kV,doc,pm,an,cdv,ct,osl,rfl,lk,hcd⟩:=F.ex;refine fn_of lk hcd S len fun A outer s H vs Q E hr hsp=>?_
 obtain ⟨t,h,q⟩:=hbody cdv A outer s H vs Q E hr hsp;exact ⟨t,h.nox,q⟩
theorem DT.binds {x qual:Str} {st:Stmt} {f:Addr} {fd:FuncData} {ps:List Str} (F:DT K x qual st f fd)
  (h:∀ (kV doc pm:Value) (an:Option Addr) (cdv ct:Value) (us:List Value),us.length=ps.length->bindArgs (ag x qual (Ek st) (Cp st) (Am st) .none kV doc pm an cdv ct) ⟨us,[]⟩=pure (ps.zip us)):Hx K fd ps []:=by
 obtain ⟨oc,od,kV,doc,pm,an,cdv,ct,osl,rfl,lk,hcd⟩:=F.ex;exact .all (h kV doc pm an cdv ct)
theorem Vj {x qual:Str} {st:Stmt} {f:Addr} {oc:Value} {od an:Option Addr} {osl:Array (Option Value)} {kV doc pm cdv ct:Value} (l:K.lookup f=some ⟨oc,od,.func (ag x qual (Ek st) (Cp st) (Am st) .none kV doc pm an cdv ct),osl⟩)
  (c:bp K cdv qual=true) (k:bj K (.ref f)=true):DT K x qual st f (ag x qual (Ek st) (Cp st) (Am st) .none kV doc pm an cdv ct):=⟨⟨oc,od,kV,doc,pm,an,cdv,ct,osl,rfl,l,c⟩,k⟩
end
theorem D7 {A:Around} {k:Nat} (hr:En k A):A.units + 1 < cLine:=Nat.lt_of_le_of_lt (Nat.add_le_add_left (by decide:1<=64) _) hr.units
section
variable {X:Cx}
theorem pv (i:Nat) {x:Str} {pos:Pos} (hN:X.N[i]? = some x:=by rfl) (hv:Vis X.env.scope x:=by first | exact Or.inl rfl | exact Or.inr (Or.inl rfl) | exact Or.inr (Or.inr rfl)) (hd:(x == ("__debug__":Str))=false:=by decide)
  (hcd:(x == ("__classdict__":Str))=false:=by decide):PE X (.Name x pos) (S3 i):=UN hN hv hd hcd
end
theorem F7 {A B:Prop} (h:B):if false=true then A else B:=by
 rw [if_neg Zd];exact h
theorem MV {A B:Prop} (h:A):if true=true then A else B:=by
 rw [if_pos rfl];exact h
theorem BJ {c A B:Prop} [Decidable c] (h1:c->A) (h2:¬ c->B):if c then A else B:=by
 by_cases h:c
 ·rw [if_pos h];exact h1 h
 ·rw [if_neg h];exact h2 h
def Av (H H':Hp):Prop:=∀ b o,H b=some o->H' b=some o
theorem Av.refl (H:Hp):Av H H:=fun _ _ h=>h
theorem Av.trans {H H1 H2:Hp} (a:Av H H1) (b:Av H1 H2):Av H H2:=fun c o h=>b c o (a c o h)
theorem Av.free {H H':Hp} (e:Av H H') {l:Addr} (h:H' l=aL):H l=aL:=by
 cases q:H l with
 | none=>rfl
 | some o=>
  rw [e l o q] at h;cases h
section
variable {κ:Type} [DecidableEq κ]
theorem Qu {kvs:List (κ × V)} {k:κ} (h:Bu kvs k=none):¬ k ∈ kvs.map (·.1):=by
 intro m;obtain ⟨p,hp,e⟩:=YT.mp m;have q:(kvs.any fun kv=>decide (kv.1=k))=true:=ab.mpr ⟨p,hp,decide_eq_true e⟩;rw [CI,h] at q;exact absurd q (by simp)
theorem Sy {kvs:List (κ × V)} {k:κ} {v:V} (h:Bu kvs k=some v):k ∈ kvs.map (·.1):=by
 have q:(kvs.any fun kv=>decide (kv.1=k))=true:=by
  rw [CI,h];all_goals rfl
 obtain ⟨p,hp,e⟩:=ab.mp q;exact YT.mpr ⟨p,hp,of_decide_eq_true e⟩
end
abbrev Ao (X:Cx) (scope:Scope) (cl:List (Str × Addr)) (N:List Str) (s2:Shared) (H:Hp) (C:Addr) (fp:List Addr):Cx where
 prog:=X.prog
 w:=X.w
 K:=X.K
 mg:=X.mg
 base:=X.base
 A:=X.A
 N:=N
 s₀:=s2
 H₀:=H
 env:=compEnvC scope cl C X.env
 outer:=X.stack
 stack:=X.stack
 ex:=fp
 fn:=fun _=>false
 calm:=X.calm
 pn:=[]
 xe:=fun _ _=>False
structure A6 (X:Cx) (scope:Scope) (cl:List (Str × Addr)):Prop where
 clos:closureFor scope X.env=pure cl
 cell:∀ y ∈ scope.names,y.2 ≠ .cell
 kind:scope.kind=.function
 names:∀ y ∈ scope.names,y.2=.local->scope.names.lookup y.1=some .local
 sub:∀ x c,cl.lookup x=some c->X.env.cells.lookup x=some c
 has:∀ x,((relabel scope X.env).names.lookup x=some .cell\/(relabel scope X.env).names.lookup x=some .free)->∃ c,cl.lookup x=some c
def AH (X:Cx) (cl:List (Str × Addr)) (scope:Scope) (N:List Str) (σ Aw:St):Prop:=
 Aw.length=N.length/\∀ (i:Nat) (x:Str) (v:V),N[i]? = some x->Aw[i]? = some (some v) ->
  (∃ j:Nat,X.N[j]? = some x/\σ[j]? = some (some v))/\(X.env.kindOf x=some .cell\/X.env.kindOf x=some .free) /\
   ((relabel scope X.env).names.lookup x=some .cell\/(relabel scope X.env).names.lookup x=some .free)
theorem AH.none (X:Cx) (cl:List (Str × Addr)) (scope:Scope) (N:List Str) (σ:St):AH X cl scope N σ (N.map fun _=>aL):=by
 refine ⟨by simp,fun i x v h1 h2=>?_⟩;rw [YS,h1] at h2;cases h2
section
variable {X:Cx} {pins:List (Addr × Obj)} {σ Aw:St} {H H':Hp} {s2 s':Shared} {scope:Scope} {cl:List (Str × Addr)} {N:List Str} {fp:List Addr} {C D:Addr} {h₁ h':Heap} {t':Nat}
theorem Jf (I:An X pins σ H s2) (hf:∀ b ∈ fp,DG X pins H b) (hfo:∀ b ∈ fp,∃ o,s2.heap.get? b=some o) (co:A6 X scope cl) (hσ:AH X cl scope N σ Aw)
  (k:∀ b o,s2.heap.get? b=some o->h₁.get? b=some o) (hD:s2.heap.objs.size<=D) (hC:s2.heap.objs.size<=C) (hDC:C ≠ D)
  (new:h₁.get? D=some { cls:=.type "list",data:=.seq ([]:List Value).toArray 0 }\/∃ n,h₁.get? D=some { cls:=.type "list",data:=.seq ([]:List Value).toArray n }) {m:Str->Option Value} (hn:h₁.Ns C m) :
  An (Ao X scope cl N s2 H C fp) [] Aw (upd H D (.lst [])) { s2 with heap:=h₁,toks:=t' }:=by
 have fD:H D=none:=I.hok.fresh hD;have fC:H C=none:=I.hok.fresh hC;have newO:A5 X.prog X.w (upd H D (.lst [])) h₁ D (.lst []):=by
  refine ⟨Zz _,[],?_⟩;rcases new with e | ⟨n,e⟩
  ·exact ⟨0,.nil,e⟩
  ·exact ⟨n,.nil,e⟩
 have lts:∀ b ∈ fp,b < s2.heap.objs.size:=fun b hb=>let ⟨_,e⟩:=hfo b hb; YV e
 have cells_lt:∀ x c,cl.lookup x=some c->c < s2.heap.objs.size:=fun x c e=>by
  obtain ⟨v,q⟩:=I.cell x c (co.sub x c e);exact q.lt
 have ok:Cx.Ok (Ao X scope cl N s2 H C fp):=by
  refine ⟨I.ok.mod,?_,I.ok.glob,I.ok.blt,hC,?_,?_,?_,I.ok.hd,I.ok.frames,.inl rfl,?_,I.bs,Zj I.ok.bsz I.sz,?_,?_,I.stack,I.stkFree⟩
  ·exact co.kind
  ·exact fun x y c e1 e2=>I.ok.inj x y c (co.sub x c e1) (co.sub y c e2)
  ·exact fun x h=>co.has x h
  ·exact fun x c h _=>by cases h
  ·intro b hb;refine ⟨fun e=>?_,fun x c e=>(hf b hb).2.2.2.2.1 x c (co.sub x c e)⟩;have z:=lts b hb;exact absurd (YZ z hC) (by rw [show b=C from e]; exact Z5 _)
  ·intro b o e hb;have Fu:b ∈ fp:=hb;rcases (hf b Fu).2.2.2.1 with z | z
   ·exact I.ok.noex b o e z
   ·exact absurd (YZ (YV e) (Zj I.ok.bsz z)) (Z5 _)
  ·intro b hb hz;have Fu:b ∈ fp:=hb;obtain ⟨_,f1,f2,_⟩:=hf b Fu;rcases YM.mp (I.stkSub b hz) with e | e
   ·exact f1 e
   ·exact f2 e
 refine ⟨ok,rfl,I.bare,Un.laid k hD fD,?_,?_,?_,?_,?_,I.hok.laid k hD newO,hσ.1⟩
 ·refine ⟨m,hn,fun i x v e1 e2 _=>?_⟩;obtain ⟨⟨j,j1,j2⟩,kk,kr⟩:=hσ.2 i x v e1 e2;obtain ⟨mo,_,hl⟩:=I.loc;obtain ⟨u,r,l⟩:=hl j x v j1 j2 (by
   rcases kk with z | z
   ·exact .inr (.inl z)
   ·exact .inr (.inr z))
  refine ⟨u,r,.inr ⟨kr,?_⟩⟩;obtain ⟨c,hc⟩:=co.has x kr;rcases l with ⟨z,_⟩ | ⟨_,c',HS,hcell⟩
  ·rcases kk with q | q
   ·rw [z] at q; cases q
   ·rw [z] at q; cases q
  ·have e3:=co.sub x c hc;rw [HS] at e3;have e4:c'=c:=Zf.inj e3;subst e4;obtain ⟨o,ho,hd⟩:=hcell;exact ⟨c',hc,o,k _ o ho,hd⟩
 ·intro x c e;obtain ⟨v,o,ho,hd⟩:=I.cell x c (co.sub x c e);exact ⟨v,o,k _ o ho,hd⟩
 ·show upd H D (.lst []) C=none
  rw [Ae hDC];exact fC
 ·intro x c e;rw [Ae (YX (YZ (cells_lt x c e) hD))];exact I.freeC x c (co.sub x c e)
 ·intro p hp;cases hp
theorem EJ {pl:List (Addr × Obj)} (I:An X pins σ H s2) (hf:∀ b ∈ fp,DG X pins H b) (hC:s2.heap.objs.size<=C) (I2:An (Ao X scope cl N s2 H C fp) pl Aw H' s')
  (hs:Heap.SameBut C s'.heap h'):An X pins σ H' { s' with heap:=h' }:=by
 have nC:∀ b o,s2.heap.get? b=some o->b ≠ C:=fun b o e=>YX (YZ (YV e) hC)
 have u:=I2.base;refine I.call' (s':={ s' with heap:=h' }) (ch:=fp) I2.os ⟨?_,?_,u.free,?_,u.tups,u.frzs,u.tbls⟩ ?_ I2.bare fun b hb=>?_
 ·exact fun b o e n h1 h2=>(hs.2 b (nC b o e)).trans (u.keep b o e n h1 h2)
 ·intro b o e n h1 h2;obtain ⟨sl,q⟩:=u.slot b o e n h1 h2;exact ⟨sl,(hs.2 b (nC b o e)).trans q⟩
 ·intro b o e h2;obtain ⟨o',q⟩:=u.there b o e h2;exact ⟨o',(hs.2 b (nC b o e)).trans q⟩
 ·intro b ob e;have hfree:H' C=none:=I2.free;refine (I2.hok b ob e).stay (fun c w' hc q=>(hs.2 c ?_).trans q) (fun _ q=>q) fun _ _ q=>q
  rintro rfl;rcases hc with rfl | hc
  ·rw [hfree] at e; cases e
  ·rw [hfree] at hc; cases hc
 ·obtain ⟨_,f1,_,f3,f4,f5⟩:=hf b hb;exact ⟨f3,f1,f4,f5⟩
end
section
variable {prog:Program} {w:World} {A:Around} {R:Result->Shared->Prop} {s:Shared}
theorem BR {elt target iter:Expr} {ifs:List Expr} {scope:Scope} {pos:Pos} {it acc:Value} {env:Env} (I:Nat->Shared->Prop)
  (turn:∀ n s,I n s->wpAny (model prog w) A (pyNext it) (fun r AK=>match r with
   | none=>R (.ok .next) AK
   | some v=>wpAny (model prog w) A (letOwnedTupleGo target it v) (fun _ L4=>wpAny (model prog w) A (assign target env v) (fun _ Eu=>
     wpAny (model prog w) A (forIn ifs true fun c r=>if r=true then do let ok <- isTrue c env (eval c env); pure (ForInStep.yield ok) else pure (ForInStep.yield r)) (fun ok BU=>
      if ok=true then wpAny (model prog w) A (eval elt env) (fun x Q5=>
       wpAny (model prog w) A (call (.builtin "list.append") [acc,x]) (fun _ Q4=>∃ m,m < n/\I m Q4) (notedBy (model prog w) A env fun e s'=>R (.error e) s') Q5) (notedBy (model prog w) A env fun e s'=>R (.error e) s') BU
      else ∃ m,m < n/\I m BU) (notedBy (model prog w) A env fun e s'=>R (.error e) s') Eu) (notedBy (model prog w) A env fun e s'=>R (.error e) s') L4) (notedBy (model prog w) A env fun e s'=>R (.error e) s') AK) (notedBy (model prog w) A env fun e s'=>R (.error e) s') s)
  (n:Nat) (h:I n s) :
  codeAny (model prog w) A (.compLoop (.ListComp elt [⟨target,iter,ifs,0⟩] scope pos) 0 it acc env) R s:=by
 refine codeAny_loop rfl I (fun n s hI=>?_) n h;show wpAny _ A ((compTurn (.ListComp elt [⟨target,iter,ifs,0⟩] scope pos) 0 it acc env).onRaise (fun x=>do noteFrame x env; theTreesLotGoes x)) _ _ s
 refine wpAny_noted ?_;rw [compTurn_list];refine wpAny_bind (wpAny_standAt (wpAny_bind (wpAny_mono (turn n s hI) (fun r AK h₁=>?_) fun _ _ h'=>h')));cases r with
 | none=>exact wpAny_pure h₁
 | some v=>
  refine wpAny_bind (wpAny_mono h₁ (fun _ L4 R1=>?_) fun _ _ h'=>h');refine wpAny_bind (wpAny_mono R1 (fun _ Eu Na=>wpAny_bind (wpAny_mono Na (fun ok BU MZ=>?_) fun _ _ h'=>h')) fun _ _ h'=>h');cases ok with
  | false=>exact wpAny_pure ⟨rfl,MZ⟩
  | true=>
   exact wpAny_bind (wpAny_bind (wpAny_mono MZ (fun x Q5 Vg=>wpAny_bind (wpAny_mono Vg (fun _ Q4 Vf=>wpAny_pure (wpAny_pure ⟨rfl,Vf⟩)) fun _ _ h'=>h')) fun _ _ h'=>h'))
end
def Ux (X:Cx) (ifs:List Expr) (t:TT):Prop:=
 ∀ ⦃pins:List (Addr × Obj)⦄ (s:Shared) (σ:St) (H:Hp) (Q:Bool->Hp->Prop),An X pins σ H s->t σ H Q ->
  wpAny (model X.prog X.w) X.A (forIn ifs true fun c r=>if r=true then do let ok <- isTrue c X.env (eval c X.env); pure (ForInStep.yield ok) else pure (ForInStep.yield r)) (TP X pins σ Q) X.xe s
def L3:TT:=fun _ H Q=>Q true H
theorem AU {X:Cx}:Ux X [] L3:=fun _ _ _ H _ I h=>wpAny_tests_nil ⟨H,I,h⟩
theorem CF {X:Cx} {c:Expr} {t:TT} (h:PT X c t):Ux X [c] t:=fun pins s σ H Q I q=>wpAny_tests_one (h (pins:=pins) s σ H Q I q)
def N4 (wi:TI) (g:TG) (tt:TT) (te:TE) (σ0:St->St):TE:=fun σ H Q=>wi σ H fun J H1=>∀ D,H1 D=none->∃ W:Nat->Nat->St->Hp->Prop,(∃ m,W 0 m (σ0 σ) (upd H1 D (.lst []))) /\
 ∀ i m Aw H',W i m Aw H'->(J.stop i H'/\Q (.ref D) H')\/(J.go i H'/\∀ x H2,J.yld i H' x H2->g x Aw H2 fun Az H3=>tt Az H3 fun b H4=>
  if b=true then te Az H4 (fun v H5=>∃ acc,H5 D=some (.lst acc)/\acc.length < sizeLine/\∃ m',m' < m/\W (i + 1) m' Az (upd H5 D (.lst (acc ++ [v])))) else ∃ m',m' < m/\W (i + 1) m' Az H4)
theorem Be {X:Cx} {tg iter elt:Expr} {ifs:List Expr} {scope:Scope} {cl:List (Str × Addr)} {N:List Str} {pos:Pos} {wi:TI} {g:TG} {tt:TT} {te:TE} {σ0:St->St} (hc:X.calm=true) (co:A6 X scope cl)
  (hσ:∀ σ,σ.length=X.N.length->AH X cl scope N σ (σ0 σ)) (hi:PI X tg iter wi)
  (hb:∀ s2 H C fp,PG (Ao X scope cl N s2 H C fp) tg g/\Ux (Ao X scope cl N s2 H C fp) ifs tt/\PE (Ao X scope cl N s2 H C fp) elt te)
  (hs:∀ x,foldedSetIterable iter X.env x=pure x:=by intro _; rfl):PE X (.ListComp elt [⟨tg,iter,ifs,0⟩] scope pos) (N4 wi g tt te σ0):=by
 intro pins s σ H Q I h;rw [eval_ListComp];refine wpAny_comprehension_free (use:=none) rfl hs co.clos co.kind co.names (wpAny_mono (hi (pins:=pins) s σ H _ I h) (fun xv s1 h1=>wpAny_mono h1 (fun itv s2 h2=>?_) fun _ _ e=>e) fun _ _ e=>e);obtain ⟨it,fp,tn,J,H2,rfl,I2,T,Ff,f2,hW⟩:=h2;refine wpAny_newObj_type (wpAny_newFunctionEnv co.cell (by intro y hy; cases hy) (fun h₁ Br AZ=>?_) co.kind);dsimp only at Br AZ ⊢;generalize IQ:s2.heap.push { cls:=.type "list",dict:=none,data:=.seq ([]:List Value).toArray } = HH at Br AZ ⊢;have Bn:HH.objs.size=s2.heap.objs.size + 1:=by rw [<-IQ,Z6]
 have old:∀ b o,s2.heap.get? b=some o->h₁.get? b=some o:=fun b o e=>
  AZ.extBut b o (YX (by rw [Bn]; exact Zq (YV e))) (YK _ (IQ ▸ YK _ e))
 have newD:∃ n,h₁.get? s2.heap.objs.size=some { cls:=.type "list",data:=.seq ([]:List Value).toArray n }:=
  ⟨_,AZ.extBut _ _ (YX (by rw [Bn]; exact Zw _)) (YK _ (IQ ▸ YW _ rfl))⟩
 obtain ⟨W,⟨m0,w0⟩,turn⟩:=hW s2.heap.objs.size I2.fresh;have hfo:∀ b ∈ fp,∃ o,s2.heap.get? b=some o:=fun b hb=>let ⟨o,e,_⟩:=T.obj _ _ Ff b hb; ⟨o,e⟩
 have I3:An (Ao X scope cl N s2 H2 HH.objs.size fp) [] (σ0 σ) (upd H2 s2.heap.objs.size (.lst [])) { s2 with heap:=h₁,toks:=s2.toks + ([]:List (Str × Value)).length }:=
  Jf I2 f2 hfo co (hσ σ I.len) old (YO _) (by rw [Bn]; exact Z0 _) (ZD (by rw [Bn]; exact Zw _)) (.inr newD) Br
 have fC:s2.heap.objs.size<=HH.objs.size:=by rw [Bn]; exact Z0 _
 obtain ⟨hg,ht,he⟩:=hb s2 H2 HH.objs.size fp;have loop:∀ BU:Shared,BU = { s2 with heap:=h₁,toks:=s2.toks + ([]:List (Str × Value)).length } ->
   codeAny (model X.prog X.w) X.A (.compLoop (.ListComp elt [⟨tg,iter,ifs,0⟩] scope pos) 0 (.ref it) (.ref s2.heap.objs.size) (compEnvC scope cl HH.objs.size X.env))
    (compPost (model X.prog X.w) X.A X.xe none (EP X pins σ Q) (.ref s2.heap.objs.size) HH.objs.size) BU:=by
  rintro BU rfl;have stat:∀ {H':Hp} ,(∀ b ∈ fp,H' b=none)->∀ b ∈ fp,DG (Ao X scope cl N s2 H2 HH.objs.size fp) [] H' b:=fun hn b hb=>by
   refine ⟨hn b hb,?_,?_,.inl hb,?_,fun p hp=>by cases hp⟩
   ·obtain ⟨o,e⟩:=hfo b hb;exact YX (show b < HH.objs.size by rw [Bn]; exact Zq (YV e))
   ·intro hz;obtain ⟨_,q1,q2,_⟩:=f2 b hb;rcases YM.mp (I2.stkSub b hz) with e | e
    ·exact q1 e
    ·exact q2 e
   ·exact fun x c e=>(f2 b hb).2.2.2.2.1 x c (co.sub x c e)
  refine BR (fun n s'=>∃ i Aw H',An (Ao X scope cl N s2 H2 HH.objs.size fp) [] Aw H' s'/\tn i s'.heap/\(∀ b ∈ fp,H' b=none)/\W i n Aw H') ?_ m0
   ⟨0,σ0 σ,_,I3,T.keep _ _ _ Ff fun b hb o e=>old b o e,fun b hb=>?_,w0⟩
  ·rintro n s4 ⟨i,FF,H4,I4,LA,Mk,w4⟩;rcases turn i n FF H4 w4 with ⟨stop,qn⟩ | ⟨go,step⟩
   ·refine wpAny_mono (T.done (Ao X scope cl N s2 H2 HH.objs.size fp) rfl rfl rfl hc i [] s4 FF H4 (fun _ _=>False) I4 (stat Mk) LA stop) (fun r s5 ⟨hr,I5⟩=>?_) fun _ _ z=>z.elim
    subst hr;obtain ⟨m5,R4,_⟩:=id I5.loc;exact ⟨m5,R4,fun h' Mh=>⟨.ref _,H4,EJ I2 f2 fC I5 Mh,rfl,qn⟩⟩
   ·refine wpAny_mono (T.item (Ao X scope cl N s2 H2 HH.objs.size fp) rfl rfl rfl hc i [] s4 FF H4 (fun _ _=>False) I4 (stat Mk) LA go) (fun r s5 ⟨u,hr,h5⟩=>?_) fun _ _ z=>z.elim
    subst hr;refine wpAny_mono h5 (fun _ s6 ⟨x,H6,I6,r6,y6,HZ,RE⟩=>?_) fun _ _ z=>z.elim
    have RY:=I6.pinned (stat RE) (T.obj _ _ HZ);refine wpAny_mono (hg s6 FF H6 x u _ RY r6 (step x H6 y6)) (fun _ s7 ⟨Er,H7,I7,q7⟩=>?_) fun _ _ z=>z.elim
    refine wpAny_mono (ht s7 Er H7 _ I7 q7) (fun ok s8 ⟨H8,I8,q8⟩=>?_) fun _ _ z=>z.elim
    have again:∀ {s9:Shared} {FE:St} {H9:Hp} ,An (Ao X scope cl N s2 H2 HH.objs.size fp) ([] ++ DA fp s6.heap) FE H9 s9->(∃ m',m' < n/\W (i + 1) m' FE H9)->∃ m,m < n/\∃ i Aw H',An (Ao X scope cl N s2 H2 HH.objs.size fp) [] Aw H' s9/\tn i s9.heap/\(∀ b ∈ fp,H' b=none)/\W i m Aw H':=fun {s9 FE H9} I9 n9=>by
     obtain ⟨m',hm,w9⟩:=n9;refine ⟨m',hm,i + 1,FE,H9,I9.unpinned,T.keep _ _ _ HZ fun b hb o e=>(I9.pin (b,o) (Za _ (Za _ (AR hb e)))).1,fun b hb=>?_,w9⟩;obtain ⟨o,e,d⟩:=T.obj _ _ HZ b hb;exact (I9.pin (b,o) (Za _ (Za _ (AR hb e)))).2.1
    cases ok with
    | false=>
     rw [if_neg Zd] at q8 ⊢;exact again I8 q8
    | true=>
     rw [if_pos rfl] at q8 ⊢;refine wpAny_mono (he s8 Er H8 _ I8 q8) (fun y s9 ⟨v,H9,I9,r9,acc,hacc,hsz,q9⟩=>?_) fun _ _ z=>z.elim
     refine wpAny_mono (Cu (X:=Ao X scope cl N s2 H2 HH.objs.size fp) s9 Er H9 (.ref s2.heap.objs.size) [v] (.ref s2.heap.objs.size) [y] (fun _ M4=>∃ m',m' < n/\W (i + 1) m' Er M4) I9 rfl (.cons r9 .nil) ⟨_,acc,v,rfl,rfl,hacc,hsz,q9⟩) (fun _ QN ⟨_,M4,RZ,_,QU⟩=>?_) fun _ _ z=>z.elim
     exact again RZ QU
  ·have z:=(f2 b hb).1;obtain ⟨o,e⟩:=hfo b hb;rw [Ae (YX (YV e))];exact z
 exact codeAny_compStart_list (loop _ rfl) (T.self _ 0 _ _ _ (T.keep _ _ _ Ff fun b hb o e=>old b o e) (loop _ rfl))
def Its (x:Str):It:=⟨fun i _=>i < x.cps.size,fun i H v H'=>H'=H/\∃ c,x.cps[i]? = some c/\v=.str ⟨#[c]⟩,fun i _=>x.cps.size<=i⟩
theorem OD {P:Program} {w:World} {K:YL} {tg:Expr} (it:Addr) (x:Str) (t:Tok):Lk P w K tg (Its x) [it] it (fun i h=>h.IsStrIter it "str_ascii_iterator" x t i) where
 mem:=by simp
 obj:=fun i h st b hb=>by
  have e:b=it:=by simpa using hb
  subst e;obtain ⟨o,e,c,d⟩:=st;exact ⟨o,e,fun v z=>by rw [d] at z; cases z⟩
 keep:=fun i h h' st k=>let ⟨o,e,r⟩:=st; ⟨o,k it (by simp) o e,r⟩
 item:=by
  intro X hP hw hK hc i pins s σ H E I hf st hg;subst hP hw hK;obtain ⟨f0,f1,f2,f3,f4,f5⟩:=hf it (by simp);have Tp:i < x.cps.size:=hg;refine wpAny_pyNext_ascii_item st (c:=x.cps[i]) (by simp [Tp]) fun h' AM sb=>?_
  have I1:An X pins σ H { s with heap:=h',toks:=s.toks + 1 }:=I.turned (fun b o hb e=>(sb.2 b hb).trans e) f0 f1 f3 f4 f5;obtain ⟨o,e,c,d⟩:=id AM;exact ⟨_,rfl,IT (s:={ s with heap:=h',toks:=s.toks + 1 }) e c d (by decide) ⟨.str ⟨#[x.cps[i]]⟩,H,I1,⟨_,rfl⟩,⟨rfl,_,by simp [Tp],rfl⟩,AM,fun b hb=>(hf b hb).1⟩⟩
 done:=by
  intro X hP hw hK hc i pins s σ H E I hf st hg;subst hP hw hK;obtain ⟨f0,f1,f2,f3,f4,f5⟩:=hf it (by simp);have Tp:x.cps.size<=i:=hg;exact wpAny_pyNext_ascii_end (I.ok.hd hc) st (by simp [Tp]) fun h' eb=>⟨rfl,I.turned (t':=s.toks) (fun b o hb e=>eb b o hb e) f0 f1 f3 f4 f5⟩
 self:=fun _ _ _ _ _ st h=>wpAny_pyIter_striter_ascii st h
theorem OC {P:Program} {w:World} {K:YL} {tg:Expr} (it:Addr) (x:Str) (t:Tok):Lk P w K tg (Its x) [it] it (fun i h=>h.IsStrIter it "str_iterator" x t i) where
 mem:=by simp
 obj:=fun i h st b hb=>by
  have e:b=it:=by simpa using hb
  subst e;obtain ⟨o,e,c,d⟩:=st;exact ⟨o,e,fun v z=>by rw [d] at z; cases z⟩
 keep:=fun i h h' st k=>let ⟨o,e,r⟩:=st; ⟨o,k it (by simp) o e,r⟩
 item:=by
  intro X hP hw hK hc i pins s σ H E I hf st hg;subst hP hw hK;obtain ⟨f0,f1,f2,f3,f4,f5⟩:=hf it (by simp);have Tp:i < x.cps.size:=hg;refine wpAny_pyNext_wide_item st (c:=x.cps[i]) (by simp [Tp]) fun h' AM sb=>?_
  have I1:An X pins σ H { s with heap:=h',toks:=s.toks + 1 }:=I.turned (fun b o hb e=>(sb.2 b hb).trans e) f0 f1 f3 f4 f5;obtain ⟨o,e,c,d⟩:=id AM;exact ⟨_,rfl,IT (s:={ s with heap:=h',toks:=s.toks + 1 }) e c d (by decide) ⟨.str ⟨#[x.cps[i]]⟩,H,I1,⟨_,rfl⟩,⟨rfl,_,by simp [Tp],rfl⟩,AM,fun b hb=>(hf b hb).1⟩⟩
 done:=by
  intro X hP hw hK hc i pins s σ H E I hf st hg;subst hP hw hK;obtain ⟨f0,f1,f2,f3,f4,f5⟩:=hf it (by simp);have Tp:x.cps.size<=i:=hg;exact wpAny_pyNext_wide_end (I.ok.hd hc) st (by simp [Tp]) fun h' eb=>⟨rfl,I.turned (t':=s.toks) (fun b o hb e=>eb b o hb e) f0 f1 f3 f4 f5⟩
 self:=fun _ _ _ _ _ st h=>wpAny_pyIter_striter_wide st h
def iStr (tl:TE):TI:=fun σ H R=>tl σ H fun x H1=>∃ z,x=.str z/\R (Its z) H1
theorem UL {X:Cx} {tg l:Expr} {tl:TE} (hl:PE X l tl):PI X tg l (iStr tl):=by
 intro pins s σ H R I h;refine Bj (hl (pins:=pins) s σ H _ I h) fun v s1 ⟨x,H1,I1,r1,q1⟩=>?_
 obtain ⟨z,rfl,q⟩:=q1;obtain ⟨t,rfl⟩:=r1;have fin:∀ b ∈ [s1.heap.objs.size],DG X pins H1 b:=fun b hb=>by
  have e:b=s1.heap.objs.size:=by simpa using hb
  subst e;exact I1.fpOk (YO _) (I1.hok.fresh (YO _))
 cases ha:z.cps.all (· < 128)
 ·exact wpAny_pyIter_wide ha ⟨s1.heap.objs.size,[s1.heap.objs.size],_,_,H1,rfl,I1.kept (t':=s1.toks) fun b o e=>YK _ e,OC _ z t,⟨_,YW _ rfl,rfl,rfl⟩,fin,q⟩
 ·exact wpAny_pyIter_ascii ha ⟨s1.heap.objs.size,[s1.heap.objs.size],_,_,H1,rfl,I1.kept (t':=s1.toks) fun b o e=>YK _ e,OD _ z t,⟨_,YW _ rfl,rfl,rfl⟩,fin,q⟩
theorem EN {X:Cx} (hc:X.calm=true):Bd X (.builtin "all") (fun xs H Q=>∃ (p:Addr) (bs:List Bool),xs=[.ref p]/\AD X.K H p (bs.map V.bl)/\Q (.bl (bs.all id)) H):=by
 intro pins s σ H xs us Q I r h;obtain ⟨p,bs,rfl,hq,q⟩:=h;obtain ⟨u,rfl,ru⟩:=BZ r;cases ru
 obtain ⟨Aq,rv,pl,hz⟩:=I.list hq;have hlen:Aq.length=bs.length:=by rw [<-rv.length,YI]
 refine call_all_walk (wpAny_pyIter_list pl.isList ?_);have hne:p ≠ s.heap.objs.size:=by
  obtain ⟨o,n,e,_⟩:=pl;exact YX (YV e)
 refine ⟨s.heap.objs.size,_,_,_,_,_,fun i=>bs.getD i true,rfl,Walks.list (A:=X.A.in1) (I.ok.hd hc) s.heap.objs.size p hne Aq.toArray,⟨⟨_,YW _ rfl,rfl,rfl⟩,?_⟩,?_,?_⟩
 ·exact pl.isList.at fun o e=>YK _ e
 ·intro i v s1 Q1 E1 hv hQ;have hv':Aq[i]? = some v:=by simpa using hv
  have hb:∃ b,bs[i]? = some b:=by
   cases e:bs[i]? with
   | some b=>exact ⟨b,rfl⟩
   | none=>
    have:=bX.mp e;have:=(YQ.mp hv').1;lia
  obtain ⟨b,hb⟩:=hb;obtain ⟨u,hu,ru⟩:=rv.get (i:=i) (x:=V.bl b) (by rw [YS,hb]; rfl);rw [hv'] at hu;cases hu
  cases ru
  have e:bs.getD i true=b:=by rw [Zo,hb]; rfl
  have hQ':Q1 (bs.getD i true) s1:=hQ;rw [e] at hQ';exact wpAny_truthy_bool hQ'
 ·intro h' tk hk;have e:(aq Aq.toArray.size).all (fun i=>bs.getD i true)=bs.all id:=by
   rw [Zi,hlen];apply ZO.mpr;simp only [ZT,aU,id];constructor
   ·intro h b hb;obtain ⟨i,hi,e⟩:=Zh hb;have:=h i hi;rw [Zo,YJ hi] at this;simpa [e] using this
   ·intro h i hi;rw [Zo,YJ hi];exact h _ (ZI hi)
  rw [e];refine ⟨.bl _,H,?_,rfl,q⟩;have I1:An X pins σ H { s with heap:=s.heap.push { cls:=.type "list_iterator",data:=.fields #[.ref p,.int 0 0] } }:=I.kept (t':=s.toks) fun b o e=>YK _ e
  have F:=I.fpOk (YO _) (I.hok.fresh (YO _));obtain ⟨f0,f1,f2,f3,f4,f5⟩:=F;exact I1.turned (it:=s.heap.objs.size) (fun b o hb e=>hk b o (by simpa using hb) e) f0 f1 f3 f4 f5
theorem Hu {X:Cx}:Bd X (.builtin "isinstance") (fun xs H Q=>∃ x c t b,xs=[x,.ty c]/\EO X.K H x t/\bh X.K t (.type c)=some b/\Q (.bl b) H):=by
 intro pins s σ H xs us Q I r h;obtain ⟨x,c,t,b,rfl,ty,e,q⟩:=h;obtain ⟨u,v,rfl,rx,rc⟩:=N1 r;cases rc
 exact PK I rx ty e fun tk=>⟨.bl b,H,I.tok tk,rfl,q⟩
theorem JW {X:Cx}:Ey X (compareOp .LtE) (fun x y H Q=>∃ i j,x=.str i/\y=.str j/\Q (.bl (!(decide (j.cps.toList < i.cps.toList)))) H):=by
 intro pins s σ H x y v u Q I rx ry h;obtain ⟨i,j,rfl,rfl,q⟩:=h;obtain ⟨t,rfl⟩:=rx;obtain ⟨t',rfl⟩:=ry;exact PySem.P.le_str ⟨.bl _,H,I,rfl,q⟩
def tSlS (te:TE) (tl th:TO):TE:=fun σ H Q=>te σ H fun x H1=>tl σ H1 fun l H2=>th σ H2 fun u H3=>∃ z,x=.str z/\z.length<=sizeLine/\Q (.str (Txt.slice z l u)) H3
theorem FV {X:Cx} {e:Expr} {te:TE} {lo hi:Option Expr} {tl th:TO} {pos p2:Pos} (he:PE X e te) (hl:PO X lo tl) (hu:PO X hi th):PE X (.Subscript e (.Slice lo hi none p2) pos) (tSlS te tl th):=by
 intro pins s σ H Q I h;refine Subscript_ (Bj (he (pins:=pins) s σ H _ I h) fun v s1 ⟨x,H1,I1,r1,q1⟩=>?_);refine wpAny_Slice (Bj (hl (pins:=pins) s1 σ H1 _ I1 q1) fun vl s2 ⟨l,H2,I2,pl,q2⟩=>Bj (hu (pins:=pins) s2 σ H2 _ I2 q2) fun vu s3 ⟨u,H3,I3,pu,q3⟩=>?_);rw [evalPart_none];refine wpAny_pure ?_;obtain ⟨z,rfl,hz,q⟩:=q3;obtain ⟨t,rfl⟩:=r1;show wpAny (model X.prog X.w) X.A (subscriptTail e (.Slice lo hi none p2) (.str z t) (.ref s3.heap.objs.size)) (EP X pins σ Q) X.xe { s3 with heap:=s3.heap.push { cls:=.type "slice",data:=.fields #[vl,vu,.none] } }
 have kk:KeptH (fun h=>∀ b o,s3.heap.get? b=some o->h.get? b=some o):=fun h ob hh b o e=>YK _ (hh b o e)
 have fin:ItemOn (model X.prog X.w) X.A X.xe (.str z t) (.ref s3.heap.objs.size) (EP X pins σ Q) { s3 with heap:=s3.heap.push { cls:=.type "slice",data:=.fields #[vl,vu,.none] } }:=by
  cases pl with
  | none=>
   cases pu with
   | none=>exact SBH.sliceItem_nn kk (fun _ _ e=>e) (fun h' t' k kp=>⟨.str _,H3,I3.kept kp,⟨_,rfl⟩,q⟩) hz
   | int j uj=>exact SBH.sliceItem_ns kk (fun _ _ e=>e) (fun h' t' k kp=>⟨.str _,H3,I3.kept kp,⟨_,rfl⟩,q⟩) hz
  | int i ui=>
   cases pu with
   | none=>exact SBH.sliceItem_sn kk (fun _ _ e=>e) (fun h' t' k kp=>⟨.str _,H3,I3.kept kp,⟨_,rfl⟩,q⟩) hz
   | int j uj=>exact SBH.sliceItem_ss kk (fun _ _ e=>e) (fun h' t' k kp=>⟨.str _,H3,I3.kept kp,⟨_,rfl⟩,q⟩) hz
 obtain ⟨T,id,hT,ht,hg⟩:=fin;exact tail_any (ops:=[.ref s3.heap.objs.size,.str z t]) ht hT hg (by with_unfolding_all rfl)
theorem Dr {α:Type}:∀ {l:List (Str × α)} {x:Str} {k:α},l.lookup x=some k->(x,k) ∈ l
 | [],_,_,h=>by cases h
 | (n,v) :: r,x,k,h=>by
  rw [ba] at h;by_cases e:x=n
  ·subst e;simp at h;subst h;exact Zg
  ·have:(x == n)=false:=beq_eq_false_iff_ne.mpr e;rw [this] at h;exact Ze _ (Dr h)
theorem A6.plain {X:Cx} {scope:Scope} (hfree:∀ x ∈ scope.names,x.2 ≠ .free) (hcell:∀ y ∈ scope.names,y.2 ≠ .cell) (hkind:scope.kind=.function)
  (hnames:∀ y ∈ scope.names,y.2=.local->scope.names.lookup y.1=some .local):A6 X scope []:=by
 refine ⟨closureFor_none hfree,hcell,hkind,hnames,fun x c h=>(by cases h),fun x h=>?_⟩;have key:∀ k,(relabel scope X.env).names.lookup x=some k->∃ y ∈ scope.names,y.2=k:=by
  intro k e;have m:=Dr e;obtain ⟨⟨n,k'⟩,hm,e'⟩:=YT.mp m;have hf:=hfree _ hm;have:(k' == NameKind.free)=false:=by
   cases k' <;> first | rfl | exact absurd rfl hf
  dsimp only at e';rw [this] at e';simp at e';exact ⟨_,hm,e'.2⟩
 rcases h with h | h
 ·obtain ⟨y,hy,e⟩:=key _ h;exact absurd e (hcell y hy)
 ·obtain ⟨y,hy,e⟩:=key _ h;exact absurd e (hfree y hy)
def Ga (c:Nat):Bool:=decide (97<=c) && decide (c<=122)
theorem lt1 (a b:Nat):decide (([a]:List Nat) < [b])=decide (a < b):=by
 apply decide_eq_decide.mpr;rw [List.cons_lt_cons_iff];constructor
 ·rintro (h | ⟨_,h⟩)
  ·exact h
  ·exact absurd h (by simp)
 ·exact fun h=>.inl h
theorem leA (c:Nat):(!(decide ((⟨#[c]⟩:Str).cps.toList < (Str.ofString "a").cps.toList)))=decide (97<=c):=by
 show (!(decide (([c]:List Nat) < [97])))=_
 rw [lt1,<-decide_not];exact decide_eq_decide.mpr (by lia)
theorem leZ (c:Nat):(!(decide ((Str.ofString "z").cps.toList < (⟨#[c]⟩:Str).cps.toList)))=decide (c<=122):=by
 show (!(decide (([122]:List Nat) < [c])))=_
 rw [lt1,<-decide_not];exact decide_eq_decide.mpr (by lia)
def AQ (t:Str):Bool:=decide (1<=t.length) && decide (t.length<=6) && t.cps.toList.all Ga
def RV (K:YL) (H:Hp) (x:V):Prop:=∃ ty,EO K H x ty/\bh K ty (.type "str")=some false
def Q8 (K:YL):Sp:=fun vs H Q _=>∃ x,vs=[x]/\((∃ t,x=.str t/\t.length<=1000/\∀ H',Av H H'->Q (.bl (AQ t)) H')\/(RV K H x/\Q (.bl false) H))
theorem Ad {H:Hp} {p:Addr} {o:HO} (h:H p=none):Av H (upd H p o):=fun b u e=>by
 rw [Ae (Ag e h)];exact e
theorem Jv {α β:Type} (f:α->β) (l:List α) (i:Nat) (c:α) (h:l[i]? = some c):(l.take (i + 1)).map f=(l.take i).map f ++ [f c]:=by
 rw [List.take_succ,h,YY];rfl
mutual
inductive Fx (H:Hp):V->PyData->Prop
 | non:Fx H .non .none
 | bl (b:Bool):Fx H (.bl b) (.bool b)
 | int (i:Int):Fx H (.int i) (.int i)
 | str (x:Str):Fx H (.str x) (.str x)
 | tup {a:Addr} {vs:List V} {ds:List PyData}:H a=some (.tup vs)->AY H vs ds->Fx H (.ref a) (.tuple ds)
 | lst {a:Addr} {vs:List V} {ds:List PyData}:H a=some (.lst vs)->AY H vs ds->Fx H (.ref a) (.list ds)
inductive AY (H:Hp):List V->List PyData->Prop
 | nil:AY H [] []
 | cons {v:V} {vs:List V} {d:PyData} {ds:List PyData}:Fx H v d->AY H vs ds->AY H (v :: vs) (d :: ds)
end
mutual
theorem Fx.mono {H H':Hp} (s:∀ a o,H a=some o->(∃ vs,o=.tup vs\/o=.lst vs)->H' a=some o):∀ {v:V} {d:PyData},Fx H v d->Fx H' v d
 | _,_,.non=>.non
 | _,_,.bl b=>.bl b
 | _,_,.int i=>.int i
 | _,_,.str x=>.str x
 | _,_,.tup e r=>.tup (s _ _ e ⟨_,.inl rfl⟩) (AY.mono s r)
 | _,_,.lst e r=>.lst (s _ _ e ⟨_,.inr rfl⟩) (AY.mono s r)
theorem AY.mono {H H':Hp} (s:∀ a o,H a=some o->(∃ vs,o=.tup vs\/o=.lst vs)->H' a=some o):∀ {vs:List V} {ds:List PyData},AY H vs ds->AY H' vs ds
 | _,_,.nil=>.nil
 | _,_,.cons x r=>.cons (Fx.mono s x) (AY.mono s r)
end
theorem Fx.same {H H':Hp} {v:V} {d:PyData} (h:Fx H v d) (s:Av H H'):Fx H' v d:=h.mono fun a o e _=>s a o e
mutual
theorem Fx.reads {X:Cx} {pins:List (Addr × Obj)} {σ:St} {H:Hp} {s:Shared} (I:An X pins σ H s):∀ {v:V} {d:PyData} {u:Value},Fx H v d->A1 v u->∃ as,Reads s.heap u d as
 | _,_,_,.non,r=>by cases r; exact ⟨_,.none⟩
 | _,_,_,.bl b,r=>by cases r; exact ⟨_,.bool b⟩
 | _,_,_,.int i,r=>by obtain ⟨t,rfl⟩:=r; exact ⟨_,.int i t⟩
 | _,_,_,.str x,r=>by obtain ⟨t,rfl⟩:=r; exact ⟨_,.str x t⟩
 | _,_,_,.tup (a:=a) e m,r=>by
  cases r
  obtain ⟨_,Aq,rv,⟨o,ho,hc,n,hd⟩,_⟩:=(show A5 X.prog X.w H s.heap a (.tup _) from I.hok a _ e)
  obtain ⟨as,q⟩:=AY.reads I m rv;exact ⟨_,.tuple ho hc hd (by simpa using q)⟩
 | _,_,_,.lst (a:=a) e m,r=>by
  cases r
  obtain ⟨_,Aq,n,rv,ho⟩:=(show A5 X.prog X.w H s.heap a (.lst _) from I.hok a _ e)
  obtain ⟨as,q⟩:=AY.reads I m rv;exact ⟨_,.list ho rfl rfl (by simpa using q)⟩
theorem AY.reads {X:Cx} {pins:List (Addr × Obj)} {σ:St} {H:Hp} {s:Shared} (I:An X pins σ H s):∀ {vs:List V} {ds:List PyData} {us:List Value},AY H vs ds->A0 vs us->∃ as,ReadsAll s.heap us ds as
 | _,_,_,.nil,r=>by cases r; exact ⟨_,.nil⟩
 | _,_,_,.cons x m,r=>by
  cases r with
  | cons r1 r2=>
   obtain ⟨as,q1⟩:=Fx.reads I x r1;obtain ⟨bs,q2⟩:=AY.reads I m r2;exact ⟨_,.cons q1 q2⟩
end
theorem Pr {X:Cx} (hu:X.A.units + 64 < cLine):Ey X (compareOp .Eq) (fun x y H Q=>∃ d e,Fx H x d/\Fx H y e/\d.canLay0=true/\e.canLay0=true/\d.depth<=60/\Q (.bl (PyData.eqv d e)) H):=by
 intro pins s σ H x y v u Q I rx ry h;obtain ⟨d,e,h1,h2,c1,c2,hd,q⟩:=h;obtain ⟨as,r1⟩:=h1.reads I rx;obtain ⟨bs,r2⟩:=h2.reads I ry;exact SeqAt.compareEq_reads r1 r2 c1 c2 (by have:=aA d.depth e.depth; lia) ⟨.bl _,H,I,rfl,q⟩
theorem G3 {X:Cx} (hu:X.A.units + 64 < cLine):Ey X (compareOp .NotEq) (fun x y H Q=>∃ d e,Fx H x d/\Fx H y e/\d.canLay0=true/\e.canLay0=true/\d.depth<=60/\Q (.bl (!PyData.eqv d e)) H):=by
 intro pins s σ H x y v u Q I rx ry h;obtain ⟨d,e,h1,h2,c1,c2,hd,q⟩:=h;obtain ⟨as,r1⟩:=h1.reads I rx;obtain ⟨bs,r2⟩:=h2.reads I ry;exact SeqAt.compareNe_reads r1 r2 c1 c2 (by have:=aA d.depth e.depth; lia) ⟨.bl _,H,I,rfl,q⟩
theorem IP (z:Str) (xs:List Str):inV (.str z) (xs.map V.str)=decide (z ∈ xs):=by
 unfold inV;induction xs with
 | nil=>simp
 | cons x xs ih=>
  rw [Zb,aN,ih];have e:Tz (.str x) (.str z)=decide (z=x):=by
   show (x == z)=_
   by_cases h:z=x
   ·subst h; simp
   ·have h':¬ x=z:=fun q=>h q.symm
    rw [decide_eq_false h];exact beq_eq_false_iff_ne.mpr h'
  rw [e];by_cases h:z=x
  ·simp [h]
  ·by_cases h2:z ∈ xs <;> simp [h,h2]
theorem GD (xs:List Str):(xs.map V.str).all ED=true:=by
 rw [bI];exact ZT.mpr fun _ _=>rfl
def AX (p:Addr) (H H':Hp):Prop:=∀ b o,b ≠ p->H b=some o->H' b=some o
theorem AX.refl (p:Addr) (H:Hp):AX p H H:=fun _ _ _ e=>e
theorem AX.trans {p:Addr} {H H1 H2:Hp} (a:AX p H H1) (b:AX p H1 H2):AX p H H2:=fun c o n e=>b c o n (a c o n e)
theorem AX.of_same {p:Addr} {H H':Hp} (s:Av H H'):AX p H H':=fun b o _ e=>s b o e
theorem AX.upd {p:Addr} {H:Hp} {o:HO}:AX p H (L2.upd H p o):=fun b u n e=>by rw [Ae n]; exact e
def Nr (K:YL) (H:Hp) (a:Addr) (xs:List V):Prop:=(∃ ob,H a=some (.frz ob (.lst xs)))\/∃ o Aq n,List.lookup a K=some o/\o.cls=Value.type "list"/\o.dict=none/\o.data=Data.seq Aq n/\Aq.size<=sizeLine/\A0 xs Aq.toList
theorem Nr.sq {K:YL} {H:Hp} {a:Addr} {xs:List V} (h:Nr K H a xs):AD K H a xs:=by
 rcases h with ⟨ob,h⟩ | h
 ·exact .inl (.inr ⟨ob,h⟩)
 ·exact .inr h
theorem Nr.same {K:YL} {H H':Hp} {a:Addr} {xs:List V} (h:Nr K H a xs) (s:Av H H'):Nr K H' a xs:=by
 rcases h with ⟨ob,h⟩ | h
 ·exact .inl ⟨ob,s _ _ h⟩
 ·exact .inr h
theorem RR {α:Type} {l:List α} {i:Int} {c:α} (h:JA l i=some c):c ∈ l:=by
 obtain ⟨j,_,h2,_⟩:=HU h;exact YN h2
abbrev Gd:Str:="abcdefghijklmnopqrstuvwxyz"
theorem Hr:∀ c ∈ Gd.cps.toList,Ga c=true:=by decide +kernel
def TL (z:Str):Prop:=∀ c ∈ z.cps.toList,Ga c=true
theorem Rp {z:Str} (h1:1<=z.length) (h2:z.length<=6) (h:TL z):AQ z=true:=by
 unfold AQ;rw [decide_eq_true h1,decide_eq_true h2,ZT.mpr h];rfl
theorem MT {z:Str} (h:AQ z=true):1<=z.length/\z.length<=6/\TL z:=by
 unfold AQ at h;rw [Z3,Z3,decide_eq_true_eq,decide_eq_true_eq,ZT] at h;exact ⟨h.1.1,h.1.2,h.2⟩
theorem Cj {α:Type} [BEq α] [LawfulBEq α]:∀ {l xs:List α},l.Nodup->(∀ x ∈ l,x ∈ xs)->l.length<=xs.length
 | [],_,_,_=>Zz _
 | a :: l,xs,hn,hs=>by
  have ha:=hs a Zg;have Xc:=Zu.mp hn;have:=Cj (l:=l) (xs:=xs.erase a) Xc.2 fun x hx=>(cH (show x ≠ a from fun e=>Xc.1 (by rw [<-e]; exact hx))).mpr (hs x (Ze _ hx))
  rw [List.length_erase_of_mem ha] at this;have:0 < xs.length:=List.length_pos_of_mem ha;rw [Zm];lia
theorem B0 (H:Hp):∀ xs:List Str,AY H (xs.map V.str) (xs.map .str)
 | []=>.nil
 | x :: xs=>.cons (.str x) (B0 H xs)
theorem CN:∀ {xs:List Str},(∀ x ∈ xs,AQ x=true)->PyData.canLayAll0 (xs.map .str)=true
 | [],_=>rfl
 | x :: xs,h=>by
  show (PyData.strOk x && PyData.canLayAll0 (xs.map .str))=true
  rw [CN fun y hy=>h y (Ze _ hy),dE];obtain ⟨_,_,lo⟩:=MT (h x Zg);unfold PyData.strOk;rw [Array.all_eq_true_iff_forall_mem];intro c hc;have:=lo c (by simpa using hc);unfold Ga at this;rw [Z3,decide_eq_true_eq,decide_eq_true_eq] at this;rw [decide_eq_true_eq];lia
theorem C9:∀ xs:List Str,PyData.depthAll (xs.map .str)=0
 | []=>rfl
 | x :: xs=>by
  show max 0 (PyData.depthAll (xs.map .str))=0
  rw [C9 xs];rfl
def MY:Stmt->List Stmt
 | .If _ b _ _=>b
 | _=>[]
theorem A6.caught {X:Cx} {scope:Scope} {cl:List (Str × Addr)} (clos:closureFor scope X.env=pure cl) (hcell:∀ y ∈ scope.names,y.2 ≠ .cell) (hkind:scope.kind=.function)
  (hnames:∀ y ∈ scope.names,y.2=.local->scope.names.lookup y.1=some .local) (hcl:∀ y ∈ cl,X.env.cells.lookup y.1=some y.2)
  (hfr:∀ y ∈ scope.names,y.2=.free->∃ c,cl.lookup y.1=some c):A6 X scope cl:=by
 refine ⟨clos,hcell,hkind,hnames,fun x c h=>hcl _ (Dr h),fun x h=>?_⟩;have key:∀ k,(relabel scope X.env).names.lookup x=some k->k=.cell\/k=.free->∃ c,cl.lookup x=some c:=by
  intro k e hk;have m:=Dr e;obtain ⟨⟨n,k'⟩,hm,e'⟩:=YT.mp m;dsimp only at e';by_cases hf:k'=.free
  ·subst hf;have en:n=x:=by
    by_cases hc:(NameKind.free == NameKind.free && X.env.scope.kind == .function && X.env.kindOf n == some .cell)=true
    ·rw [if_pos hc] at e';injection e'
    ·rw [if_neg hc] at e';injection e'
   subst en;exact hfr _ hm rfl
  ·have:(k' == NameKind.free)=false:=by
    cases k' <;> first | rfl | exact absurd rfl hf
   rw [this] at e';simp at e';rcases hk with hk | hk
   ·exact absurd (e'.2.trans hk) (hcell _ hm)
   ·exact absurd (e'.2.trans hk) hf
 rcases h with h | h
 ·exact key _ h (.inl rfl)
 ·exact key _ h (.inr rfl)
theorem AH.of {X:Cx} {cl:List (Str × Addr)} {scope:Scope} {N:List Str} {σ:St} (js:List (Option Nat)) (hl:js.length=N.length)
  (h:∀ (i j:Nat) (x:Str),N[i]? = some x->js[i]? = some (some j)->X.N[j]? = some x/\(X.env.kindOf x=some .cell\/X.env.kindOf x=some .free)/\((relabel scope X.env).names.lookup x=some .cell\/(relabel scope X.env).names.lookup x=some .free)) :
  AH X cl scope N σ (js.map fun j=>j.bind fun j=>(σ[j]?).join):=by
 refine ⟨by rw [YI,hl],fun i x v h1 h2=>?_⟩;rw [YS] at h2;cases e:js[i]? with
 | none=>rw [e] at h2; cases h2
 | some o=>
  rw [e] at h2;cases o with
  | none=>cases h2
  | some j=>
   obtain ⟨a,b,c⟩:=h i j x h1 e;refine ⟨⟨j,a,?_⟩,b,c⟩;have h3:(σ[j]?).join=some v:=Zf.inj h2;cases e2:σ[j]? with
   | none=>rw [e2] at h3; cases h3
   | some o=>
    rw [e2] at h3;have:o=some v:=h3;rw [this]
abbrev AA:=Str × Str × Int
def Kx (u:AA):PyData:=.tuple [.str u.1,.str u.2.1,.int u.2.2]
def DS (u v:AA):Prop:=(u.1=v.1/\u.2.1=v.2.1)\/(u.1=v.2.1/\u.2.1=v.1)
structure HJ (xs:List Str) (k:Nat) (ws:List AA):Prop where
 of:∀ u ∈ ws,∃ i j:Nat,i < j/\j < k/\xs[i]? = some u.1/\xs[j]? = some u.2.1/\1<=u.2.2
 sep:ws.Pairwise fun u v=>¬ DS u v
 to:∀ j,0 < j->j < k->∃ u ∈ ws,∃ i:Nat,i < j/\xs[i]? = some u.1/\xs[j]? = some u.2.1
 len:2 * ws.length<=k * (k - 1)
structure Vt (xs:List Str) (ws:List AA):Prop where
 of:∀ u ∈ ws,u.1 ∈ xs/\u.2.1 ∈ xs/\u.1 ≠ u.2.1/\1<=u.2.2
 sep:ws.Pairwise fun u v=>¬ DS u v
 to:∀ j,0 < j->j < xs.length->∃ u ∈ ws,∃ i:Nat,i < j/\xs[i]? = some u.1/\xs[j]? = some u.2.1
 len:2 * ws.length<=xs.length * (xs.length - 1) + 10
theorem F3 {xs:List Str} (h:xs.Nodup) {i j:Nat} {x:Str} (a:xs[i]? = some x) (b:xs[j]? = some x):i=j:=IA h a b
theorem HJ.nil (xs:List Str):HJ xs 1 []:=⟨(fun _ h=>nomatch h),List.Pairwise.nil,(fun j h1 h2=>by lia),(by decide)⟩
theorem HJ.more {xs:List Str} {k:Nat} {ws us:List AA} (hn:xs.Nodup) (h:HJ xs k ws) (hk:k < xs.length) (js:List Nat) (hj:js.Nodup) (Bv:∀ j ∈ js,j < k) (h0:js ≠ [])
  (hl:us.length=js.length) (hu:∀ (q:Nat) (u:AA) (j:Nat),us[q]? = some u->js[q]? = some j->xs[j]? = some u.1/\xs[k]? = some u.2.1/\1<=u.2.2):HJ xs (k + 1) (ws ++ us):=by
 have at_:∀ u ∈ us,∃ (q j:Nat),us[q]? = some u/\js[q]? = some j/\j < k/\xs[j]? = some u.1/\xs[k]? = some u.2.1/\1<=u.2.2:=by
  intro u hm;obtain ⟨q,hq,e⟩:=Zh hm;have e1:us[q]? = some u:=by rw [YJ hq,e]
  have e2:js[q]? = some js[q]:=YJ (by lia);obtain ⟨a,b,c⟩:=hu q u _ e1 e2;exact ⟨q,_,e1,e2,Bv _ (ZI _),a,b,c⟩
 refine ⟨?_,?_,?_,?_⟩
 ·intro u hm;rcases Zl.mp hm with hm | hm
  ·obtain ⟨i,j,a,b,c⟩:=h.of u hm;exact ⟨i,j,a,by lia,c⟩
  ·obtain ⟨q,j,_,_,a,b,c,d⟩:=at_ u hm;exact ⟨j,k,a,by lia,b,c,d⟩
 ·rw [cI];refine ⟨h.sep,?_,?_⟩
  ·rw [ZH];intro q r hq hr hqr al;have a1:=hu q us[q] js[q] (YJ hq) (YJ (by lia));have a2:=hu r us[r] js[r] (YJ hr) (YJ (by lia));have l1:=Bv js[q] (ZI _);have l2:=Bv js[r] (ZI _);rcases al with ⟨e1,_⟩ | ⟨e1,_⟩
   ·have a3:=a1.1;rw [e1] at a3;have ej:=F3 hn a3 a2.1;exact absurd ((bN hj).mp ej) (by lia)
   ·have a3:=a1.1;rw [e1] at a3;have ej:=F3 hn a3 a2.2.1;lia
  ·intro u Xb v hv al;obtain ⟨i,j,hij,hjk,e1,e2,_⟩:=h.of u Xb;obtain ⟨q,m,_,_,hm,e3,e4,_⟩:=at_ v hv;rcases al with ⟨_,z⟩ | ⟨z,_⟩
   ·rw [z] at e2;have:=F3 hn e2 e4;lia
   ·rw [z] at e1;have:=F3 hn e1 e4;lia
 ·intro j h1 h2;by_cases e:j=k
  ·subst e;cases us with
   | nil=>
    cases js with
    | nil=>exact absurd rfl h0
    | cons _ _=>cases hl
   | cons u us=>
    obtain ⟨q,m,_,_,hm,e3,e4,_⟩:=at_ u Zg;exact ⟨u,Za _ Zg,m,hm,e3,e4⟩
  ·obtain ⟨u,hm,i,a,b⟩:=h.to j h1 (by lia);exact ⟨u,ZN _ hm,i,a,b⟩
 ·have:=h.len;have hjl:js.length<=k:=by
   have:=Cj (l:=js) (xs:=aq k) hj fun j hm=>aU.mpr (Bv j hm)
   rwa [aF] at this
  rw [YR,hl];show 2 * (ws.length + js.length)<=(k + 1) * (k + 1 - 1)
  rw [cV];have e:(k + 1) * k=k * (k - 1) + 2 * k:=by
   cases k with
   | zero=>rfl
   | succ k=>
    rw [cV];simp only [dO,Nat.mul_succ,dW,Nat.mul_add];lia
  lia
theorem HJ.ways {xs:List Str} {ws:List AA} (hn:xs.Nodup) (h:HJ xs xs.length ws):Vt xs ws:=by
 refine ⟨fun u hm=>?_,h.sep,h.to,by have:=h.len; lia⟩;obtain ⟨i,j,a,b,c,d,e⟩:=h.of u hm;refine ⟨YN c,YN d,fun z=>?_,e⟩;rw [z] at c;have:=F3 hn c d;lia
def Fw (xs:List Str) (ws:List AA):Prop:=(∀ u ∈ ws,u.1 ∈ xs/\u.2.1 ∈ xs/\u.1 ≠ u.2.1/\1<=u.2.2)/\(ws.Pairwise fun u v=>¬ DS u v) /\
 ∀ j,0 < j->j < xs.length->∃ u ∈ ws,∃ i:Nat,i < j/\xs[i]? = some u.1/\xs[j]? = some u.2.1
theorem Vt.c {xs:List Str} {ws:List AA} (h:Vt xs ws):Fw xs ws:=⟨h.of,h.sep,h.to⟩
theorem Fw.snoc {xs:List Str} {ws:List AA} {x y:Str} {n:Int} (h:Fw xs ws) (hx:x ∈ xs) (hy:y ∈ xs) (ne:x ≠ y) (hn:1<=n) (no:∀ u ∈ ws,¬ ((x=u.1\/x=u.2.1)/\(y=u.1\/y=u.2.1))):Fw xs (ws ++ [(x,y,n)]):=by
 refine ⟨fun u hu=>?_,?_,fun j h1 h2=>?_⟩
 ·rcases Zl.mp hu with hu | hu
  ·exact h.1 u hu
  ·rw [Zc.mp hu]; exact ⟨hx,hy,ne,hn⟩
 ·rw [cI];refine ⟨h.2.1,aB _ _,fun u hu v hv al=>?_⟩;rw [Zc.mp hv] at al;refine no u hu ?_;rcases al with ⟨e1,e2⟩ | ⟨e1,e2⟩
  ·exact ⟨.inl e1.symm,.inr e2.symm⟩
  ·exact ⟨.inr e2.symm,.inl e1.symm⟩
 ·obtain ⟨u,hu,r⟩:=h.2.2 j h1 h2;exact ⟨u,ZN _ hu,r⟩
theorem Mr {H:Hp}:∀ {vs:List V} {ds:List PyData},AY H vs ds->vs.length=ds.length
 | _,_,.nil=>rfl
 | _,_,.cons _ r=>by rw [Zm,Zm,Mr r]
theorem Jd {H:Hp}:∀ {vs:List V} {ws:List AA} {i:Nat} {x:V},AY H vs (ws.map Kx)->vs[i]? = some x->∃ u t,ws[i]? = some u/\x=.ref t/\H t=some (.tup [.str u.1,.str u.2.1,.int u.2.2])
 | _,[],i,x,.nil,e=>by cases e
 | _,u :: ws,0,x,.cons (v:=v) h _,e=>by
  have e':v=x:=by simpa using e
  subst e';cases h with
  | tup ha hd=>
   refine ⟨u,_,rfl,rfl,?_⟩;cases hd with
   | cons h1 r1=>
    cases r1 with
    | cons h2 r2=>
     cases r2 with
     | cons h3 r3=>
      cases r3
      cases h1
      cases h2
      cases h3
      exact ha
 | _,u :: ws,i + 1,x,.cons _ r,e=>by
  obtain ⟨u',t,a,b⟩:=Jd (i:=i) (x:=x) r (by simpa using e);exact ⟨u',t,by simpa using a,b⟩
theorem Gi {H:Hp}:∀ {vs us:List V} {ds es:List PyData},AY H vs ds->AY H us es->AY H (vs ++ us) (ds ++ es)
 | _,_,_,_,.nil,h=>h
 | _,_,_,_,.cons a r,h=>.cons a (Gi r h)
theorem AF (K:YL) {X:Cx} (h:X.K=K):VD X (rIxL K):=by subst h; exact Om
theorem B8 (K:YL) {X:Cx} (h:X.K=K):VD X (rIxT K):=by subst h; exact KY
theorem B7 (K:YL) {X:Cx} (h:X.K=K) {es:List Expr} {k:Nat} {t:Uv} {n:Nat} {pos:Pos} (hc:X.calm=true) (ht:PGs X es t)
  (hn:(assignEach es X.env).length=n:=by rfl) (hst:(assignEach es X.env).findIdx? (·.1)=none:=by rfl):PG X (.Tuple es k pos) (gTup K n t):=by subst h; exact QZ hc ht hn hst
end L2
namespace L2
open PySem PySem.W PyProof.Rows
section
variable {n:Nat} (hn:0 < n)
include hn
end
end L2
namespace L2
open PySem PySem.Spec PyProof.Rows PySem.W
theorem A5.there {P:Program} {w:World} {H:Hp} {h:Heap} {a:Addr} {o:HO} (x:A5 P w H h a o):∃ ob,h.get? a=some ob:=by
 cases o with
 | lst xs=>obtain ⟨_,_,_,_,e⟩:=x; exact ⟨_,e⟩
 | tup xs=>obtain ⟨_,_,_,⟨ob,e,_⟩,_⟩:=x; exact ⟨ob,e⟩
 | dK kvs=>obtain ⟨_,_,_,_,o,_,_,e,_⟩:=x; exact ⟨o,e⟩
 | dT kvs=>obtain ⟨_,_,_,_,o,_,_,e,_⟩:=x; exact ⟨o,e⟩
 | set S n=>obtain ⟨o,_,_,_,e,_⟩:=x; exact ⟨o,e⟩
 | ins C dx fs=>obtain ⟨_,_,_,e,_⟩:=x; exact ⟨_,e⟩
 | own y=>exact x
 | xd fs=>obtain ⟨_,⟨_,_,_,e,_⟩,_⟩:=x; exact ⟨_,e⟩
 | rng lo hi=>obtain ⟨_,_,_,e⟩:=x; exact ⟨_,e⟩
 | frz ob u=>obtain ⟨e,_⟩:=x; exact ⟨_,e⟩
 | tbl ps=>exact ⟨_,(show h.get? a=some _ from x)⟩
 | met f y=>exact ⟨_,(show h.get? a=some _ from x)⟩
 | ext φ=>obtain ⟨_,⟨_,e⟩,_⟩:=x; exact ⟨_,e⟩
theorem An.laidF {X:Cx} {pins:List (Addr × Obj)} {σ:St} {H:Hp} {s:Shared} {h2:Heap} {D:Addr} {o:HO} {m:Str->Option Value} (I:An X pins σ H s)
  (hl:s.heap.Ns X.env.locals m/\∀ (i:Nat) (x:Str) (v:V),X.N[i]? = some x->σ[i]? = some (some v)->Vis X.env.scope x->∃ u,A1 v u/\Look X.env s.heap m x u) (hn:h2.Ns X.env.locals m)
  (kp:∀ b ob,b ≠ X.env.locals->s.heap.get? b=some ob->h2.get? b=some ob) (hD:s.heap.get? D=none) (hDL:D ≠ X.env.locals) (new:A5 X.prog X.w (upd H D o) h2 D o):An X pins σ (upd H D o) { s with heap:=h2 }:=by
 have fD:H D=none:=by
  cases z:H D with
  | none=>rfl
  | some u=>
   obtain ⟨ob,e⟩:=A5.there (I.hok D u z);rw [hD] at e;cases e
 have neL:∀ b ob,X.s₀.heap.get? b=some ob->b ≠ X.env.locals:=fun b ob e=>YX (YZ (YV e) I.ok.above)
 have neD:∀ b ob,s.heap.get? b=some ob->b ≠ D:=fun b ob e z=>by rw [z,hD] at e; cases e
 have cellK:∀ x c,X.env.cells.lookup x=some c->∀ v,s.heap.IsCell c v->h2.IsCell c v:=fun x c e v ⟨ob,ho,hd⟩=>⟨ob,kp c ob (I.cne x c e) ho,hd⟩
 refine ⟨I.ok,I.os,I.bare,⟨?_,?_,?_,?_,?_,?_,?_⟩,⟨m,hn,?_⟩,?_,?_,?_,?_,?_,I.len⟩
 ·exact fun b ob e n hb hx=>kp b ob (neL b ob e) (I.base.keep b ob e n hb hx)
 ·intro b ob e n hb hx;obtain ⟨sl,q⟩:=I.base.slot b ob e n hb hx;exact ⟨sl,kp b _ (neL b ob e) q⟩
 ·intro b ob e n hx;obtain ⟨WW,q⟩:=I.base.there b ob e hx;rw [Ae (neD b WW q)];exact I.base.free b ob e n hx
 ·intro b ob e hx;obtain ⟨WW,q⟩:=I.base.there b ob e hx;exact ⟨WW,kp b WW (neL b ob e) q⟩
 ·intro b xs e;have q:=I.base.tups b xs e;rw [Ae (Ag q fD)];exact q
 ·intro b ob u e;have q:=I.base.frzs b ob u e;rw [Ae (Ag q fD)];exact q
 ·intro b ps e;obtain ⟨more,q⟩:=I.base.tbls b ps e;exact ⟨more,by rw [Ae (Ag q fD)]; exact q⟩
 ·intro i x v e1 e2 e3;obtain ⟨u,r,l⟩:=hl.2 i x v e1 e2 e3;refine ⟨u,r,?_⟩;rcases l with l | ⟨k,c,e,z⟩
  ·exact .inl l
  ·exact .inr ⟨k,c,e,cellK x c e _ z⟩
 ·intro x c e;obtain ⟨v,z⟩:=I.cell x c e;exact ⟨v,cellK x c e v z⟩
 ·rw [Ae (Ne.symm hDL)];exact I.free
 ·intro x c e;obtain ⟨v,ob,ho,_⟩:=I.cell x c e;rw [Ae (neD c ob ho)];exact I.freeC x c e
 ·intro p hp;obtain ⟨e,n,ne,nf,d⟩:=I.pin p hp;exact ⟨kp _ _ ne e,by rw [Ae (neD _ _ e)]; exact n,ne,nf,d⟩
 ·intro b u e;by_cases hb:b=D
  ·subst hb;rw [Ab] at e;cases e
   exact new
  ·rw [Ae hb] at e;refine (I.hok b u e).stay (fun c v hc q=>kp c v ?_ q) (fun c q=>by rw [Ae (Ag q fD)]; exact q) fun c xs q=>by rw [Ae (Ag q fD)]; exact q
   rintro rfl;rcases hc with rfl | hc
   ·rw [I.free] at e; cases e
   ·rw [I.free] at hc; cases hc
end L2
namespace L2
open PySem PySem.Spec PyProof.Rows
section
variable {prog:Program} {w:World} {A:Around} {E:Value->Shared->Prop} {s:Shared}
end
def BP (a b:Str):Str:=if b.cps.toList < a.cps.toList then b else a
def BQ (a b:Str):Str:=if a.cps.toList < b.cps.toList then b else a
theorem S8 {ss:List Str}:∀ {us:List Value},A0 (ss.map V.str) us->StrsAre us ss:=by
 induction ss with
 | nil=>intro us r; cases r; exact .nil
 | cons x ss ih=>
  intro us r;cases r with
  | cons r1 r2=>
   obtain ⟨t,rfl⟩:=r1;exact .cons x t (ih r2)
theorem KQ:∀ {us:List Value} {ss:List Str},StrsAre us ss->A0 (ss.map V.str) us
 | _,_,.nil=>.nil
 | _,_,.cons x t r=>.cons ⟨t,rfl⟩ (KQ r)
theorem BX {X:Cx}:Bd X (.builtin "sorted") (fun xs H Q=>∃ (a:Addr) (ss:List Str),xs=[.ref a]/\AD X.K H a (ss.map V.str)/\ss.length < 64 /\
  ∀ (l:Addr) (Du:List Str),H l=none->Du.Perm ss->sortedS Du=true->Q (.ref l) (upd H l (.lst (Du.map V.str)))):=by
 intro pins s σ H xs us Q I r h;obtain ⟨a,ss,rfl,ha,Lc,q⟩:=h;obtain ⟨u,rfl,ru⟩:=BZ r;cases ru
 obtain ⟨Aq,rv,pl,hz⟩:=I.list ha;have hl:Aq.length=ss.length:=by rw [<-rv.length,YI]
 refine sorted_strs pl.isList (S8 rv) (by lia) fun out Du h1 h2 h3=>?_
 obtain ⟨e,he⟩:=sortedAll_at s.heap Aq out;refine ⟨.ref (s.heap.objs.size + 1),_,I.laid (o:=.lst (Du.map V.str)) (t':=s.toks) (fun b o z=>sortedAll_old z) (Z0 _) ⟨?_,out.toList,e,KQ h1,by simpa using he⟩,rfl,q _ Du (I.hok.fresh (Z0 _)) h2 h3⟩;rw [YI,h2.length_eq];have:100 < sizeLine:=by decide
 lia
end L2
namespace L2
open PySem PySem.Spec PySem.W PyProof.Rows
theorem Dh {vs:List Value} {p:Keyed} (h:p ∈ (pairsOf vs).toList):p=(p.2,p.2)/\p.2 ∈ vs:=by
 rw [pairsOf_toList] at h;obtain ⟨e,m⟩:=mem_zip_self h;refine ⟨?_,e ▸ m⟩;obtain ⟨x,y⟩:=p;exact Prod.ext e rfl
theorem Pn (vs:List Value):(pairsOf vs).toList.map (·.2)=vs:=by
 rw [pairsOf_toList];induction vs with
 | nil=>rfl
 | cons v vs ih=>rw [bD,Zb,ih]
theorem Ri {vs:List Value} {xs:Array Keyed} (h:xs.Perm (pairsOf vs)):(xs.toList.map (·.2)).Perm vs:=by
 have q:=(aQ.mp h).map (·.2);rw [Pn] at q;exact q
theorem Rh {lt:Keyed->Keyed->Bool} {vs:List Value} {xs:Array Keyed} (h:xs.Perm (pairsOf vs)) (hs:xs.toList.Pairwise (Nl lt)):(xs.toList.map (·.2)).Pairwise (fun u v=>lt (v,v) (u,u)=false):=by
 rw [ZS];refine hs.imp_of_mem fun {p q} hp hq n=>?_
 have e1:=(Dh ((aQ.mp h).mem_iff.mp hp)).1;have e2:=(Dh ((aQ.mp h).mem_iff.mp hq)).1;rw [<-e1,<-e2];exact n
section
variable {prog:Program} {w:World} {A:Around} {E:Value->Shared->Prop} {s:Shared} {lt:Keyed->Keyed->Bool}
def Cmpd (prog:Program) (w:World) (s:Shared) (lt:Keyed->Keyed->Bool) (vs:List Value):Prop:=
 2<=vs.length->∀ (A:Around) (h':Heap),(∀ b o,s.heap.get? b=some o->h'.get? b=some o) ->
  ∃ κ,(∀ (Q:SortKind->Shared->Prop) (E:Value->Shared->Prop),Q κ { s with heap:=h' }->wpAny (model prog w) A (keyKind' vs.toArray) Q E { s with heap:=h' })/\TU prog w A { s with heap:=h' } κ lt (pairsOf vs)
end
inductive DH where
 | i (n:Int)
 | s (x:Str)
 deriving DecidableEq
def D8:DH->DH->Bool
 | .i a,.i b=>decide (a < b)
 | .s a,.s b=>decide (a.cps.toList < b.cps.toList)
 | .i _,.s _=>true
 | .s _,.i _=>false
def A8:List DH->List DH->Bool
 | [],[]=>false
 | [],_ :: _=>true
 | _ :: _,[]=>false
 | x :: xs,y :: ys=>if x=y then A8 xs ys else D8 x y
theorem TC (a:DH):D8 a a=false:=by
 cases a with
 | i n=>simp [D8]
 | s x=>exact strKind.irrefl x.cps.toList
theorem T9:∀ {a b c:DH},D8 a b=true->D8 b c=true->D8 a c=true
 | .i a,.i b,.i c,h1,h2=>by
  simp only [D8,decide_eq_true_eq] at h1 h2 ⊢;lia
 | .i _,.i _,.s _,_,_=>rfl
 | .i _,.s _,.s _,_,_=>rfl
 | .i _,.s _,.i _,_,h=>by cases h
 | .s _,.i _,_,h,_=>by cases h
 | .s _,.s _,.i _,_,h=>by cases h
 | .s x,.s y,.s z,h1,h2=>strKind.trans x.cps.toList y.cps.toList z.cps.toList h1 h2
theorem TB {a b:DH} (h:a ≠ b):D8 a b=true\/D8 b a=true:=by
 cases a <;> cases b <;> simp [D8]
 ·have:∀ x y:Int,DH.i x ≠ DH.i y->x < y\/y < x:=fun x y h=>by
   have:x ≠ y:=fun e=>h (by rw [e])
   lia
  exact this _ _ h
 ·rename_i x y
  by_cases h1:x.cps.toList < y.cps.toList
  ·exact .inl h1
  ·by_cases h2:y.cps.toList < x.cps.toList
   ·exact .inr h2
   ·exfalso
    apply h;have e:=strKind.total x.cps.toList y.cps.toList (decide_eq_false h1) (decide_eq_false h2);cases x
    cases y
    rw [bL] at e;subst e;rfl
theorem Eh:∀ a,A8 a a=false
 | []=>rfl
 | x :: xs=>by unfold A8; rw [if_pos rfl]; exact Eh xs
theorem Vs {a b:DH} (h:D8 a b=true):a ≠ b:=fun e=>by
 rw [e,TC] at h;cases h
theorem Gb:∀ a b c,A8 a b=true->A8 b c=true->A8 a c=true
 | [],[],_,h,_=>by cases h
 | [],_ :: _,[],_,h=>by cases h
 | [],_ :: _,_ :: _,_,_=>rfl
 | _ :: _,[],_,h,_=>by cases h
 | _ :: _,_ :: _,[],_,h=>by cases h
 | x :: xs,y :: ys,z :: zs,h1,h2=>by
  unfold A8 at h1 h2 ⊢;by_cases e1:x=y
  ·rw [if_pos e1] at h1;by_cases e2:y=z
   ·rw [if_pos e2] at h2;rw [if_pos (e1.trans e2)];exact Gb xs ys zs h1 h2
   ·rw [if_neg e2] at h2;rw [if_neg (by rw [e1]; exact e2),e1];exact h2
  ·rw [if_neg e1] at h1;by_cases e2:y=z
   ·rw [if_neg (by rw [<-e2]; exact e1),<-e2];exact h1
   ·rw [if_neg e2] at h2;have h3:=T9 h1 h2;rw [if_neg (Vs h3)];exact h3
theorem KU:∀ a b,A8 a b=false->A8 b a=false->a=b
 | [],[],_,_=>rfl
 | [],_ :: _,h,_=>by cases h
 | _ :: _,[],_,h=>by cases h
 | x :: xs,y :: ys,h1,h2=>by
  unfold A8 at h1 h2;by_cases e:x=y
  ·rw [if_pos e] at h1;rw [if_pos e.symm] at h2;rw [e,KU xs ys h1 h2]
  ·rw [if_neg e] at h1;rw [if_neg (fun z=>e z.symm)] at h2;rcases TB e with q | q
   ·rw [h1] at q; cases q
   ·rw [h2] at q; cases q
theorem Te (a b c:List DH) (h:A8 a c=true):A8 a b=true\/A8 b c=true:=by
 cases e1:A8 a b
 ·right;cases e2:A8 b a
  ·rw [<-KU a b e1 e2]; exact h
  ·exact Gb _ _ _ e2 h
 ·exact .inl rfl
theorem KW (f:Value->List DH):O5 (fun x y=>A8 (f x.1) (f y.1)):=
 ⟨fun a=>Eh _,fun a b c=>Gb _ _ _,fun a b c=>Te _ _ _⟩
def Cb:Value->DH
 | .int n _=>.i n
 | .str x _=>.s x
 | _=>.i 0
def OA:V->DH
 | .int n=>.i n
 | .str x=>.s x
 | _=>.i 0
def CU (h:Heap):Value->List DH
 | .ref a=>match h.get? a with
  | some o=>(match o.data with
   | .seq xs _=>xs.toList.map Cb
   | _=>[])
  | none=>[]
 | v=>[Cb v]
def Rw (H:Hp):V->List DH
 | .ref a=>match H a with
  | some (.tup ys)=>ys.map OA
  | _=>[]
 | v=>[OA v]
def Mz (k:Bool) (v:V):Prop:=if k=true then ∃ x,v=.str x else ∃ n,v=.int n
def CP (k:Bool) (v:Value):Prop:=if k=true then ∃ x t,v=.str x t else ∃ n t,v=.int n t
theorem Tn {k:Bool} {v:V} {u:Value} (r:A1 v u) (h:Mz k v):CP k u/\Cb u=OA v:=by
 unfold Mz at h;unfold CP;cases k with
 | true=>
  simp only [if_true] at h ⊢;obtain ⟨x,rfl⟩:=h;obtain ⟨t,rfl⟩:=r;exact ⟨⟨x,t,rfl⟩,rfl⟩
 | false=>
  simp only [Zp,if_false] at h ⊢;obtain ⟨x,rfl⟩:=h;obtain ⟨t,rfl⟩:=r;exact ⟨⟨x,t,rfl⟩,rfl⟩
def Nn (H:Hp) (kd:Nat->Bool) (v:V):Prop:=∃ t ys,v=.ref t/\H t=some (.tup ys)/\ys ≠ []/\∀ i y,ys[i]? = some y->Mz (kd i) y
def Mw (h:Heap) (kd:Nat->Bool) (v:Value):Prop:=∃ t o xs n,v=.ref t/\h.get? t=some o/\o.cls=.type "tuple"/\o.data=.seq xs n/\0 < xs.size/\∀ (i:Nat) x,xs.toList[i]? = some x->CP (kd i) x
theorem Qx {X:Cx} {pins:List (Addr × Obj)} {σ:St} {H:Hp} {s:Shared} (I:An X pins σ H s) {kd:Nat->Bool} {v:V} {u:Value} (r:A1 v u) (h:Nn H kd v):Mw s.heap kd u/\CU s.heap u=Rw H v:=by
 obtain ⟨t,ys,rfl,ht,ne,hy⟩:=h;cases r
 obtain ⟨_,Aq,rv,⟨o,ho,hc,n,hd⟩,_⟩:=(show A5 X.prog X.w H s.heap t (.tup _) from I.hok t _ ht)
 have e:Rw H (.ref t)=ys.map OA:=by
  show (match H t with | some (.tup ys)=>ys.map OA | _=>[])=_
  rw [ht]
 have e2:CU s.heap (.ref t)=Aq.map Cb:=by
  show (match s.heap.get? t with | some o=>(match o.data with | .seq xs _=>xs.toList.map Cb | _=>[]) | none=>[])=_
  rw [ho];dsimp only;rw [hd]
 have all:∀ {ys:List V} {Aq:List Value} (k:Nat),A0 ys Aq->(∀ i y,ys[i]? = some y->Mz (kd (k + i)) y)->(∀ (i:Nat) x,Aq[i]? = some x->CP (kd (k + i)) x)/\Aq.map Cb=ys.map OA:=by
  intro ys;induction ys with
  | nil=>intro Aq k rv _; cases rv; exact ⟨fun i x e=>by simp at e,rfl⟩
  | cons y ys ih=>
   intro Aq k rv hy;cases rv with
   | cons r1 r2=>
    obtain ⟨a1,a2⟩:=Tn r1 (hy 0 y rfl);obtain ⟨b1,b2⟩:=ih (k + 1) r2 fun i z e=>by
     have:=hy (i + 1) z (by simpa using e);rw [show k + 1 + i=k + (i + 1) by lia];exact this
    refine ⟨fun i x e=>?_,by rw [Zb,Zb,a2,b2]⟩;cases i with
    | zero=>
     rw [Z9] at e;cases e
     exact a1
    | succ i=>
     have:=b1 i x (by simpa using e);rw [show k + 1 + i=k + (i + 1) by lia] at this;exact this
 obtain ⟨a1,a2⟩:=all 0 rv fun i y e=>by rw [aw]; exact hy i y e
 refine ⟨⟨t,o,Aq.toArray,n,rfl,ho,hc,hd,?_,fun i x e=>?_⟩,by rw [e,e2,a2]⟩
 ·have:=rv.length;have:0 < ys.length:=ZZ.mpr ne;simp;lia
 ·have:=a1 i x (by simpa using e);rw [aw] at this;exact this
section
variable {prog:Program} {w:World} {A:Around} {E:Value->Shared->Prop} {s:Shared} {Q:Bool->Shared->Prop}
theorem SX {k b:Bool} {u v:Value} (hu:CP k u) (hv:CP k v) (h:Q (D8 (Cb u) (Cb v)) s):wpAny (model prog w) A (oneLt' b u v) Q E s:=by
 unfold CP at hu hv;cases k with
 | true=>
  simp only [if_true] at hu hv;obtain ⟨x,t,rfl⟩:=hu;obtain ⟨y,t',rfl⟩:=hv;cases b with
  | true=>exact oneLt_str h
  | false=>exact kat_one _ _ (PySem.P.lt_str h)
 | false=>
  simp only [Zp,if_false] at hu hv;obtain ⟨x,t,rfl⟩:=hu;obtain ⟨y,t',rfl⟩:=hv;cases b with
  | true=>exact oneLt_int h
  | false=>exact kat_one _ _ (lt_int h)
theorem Vn {k:Bool} {u v:Value} (hu:CP k u) (hv:CP k v):SeqAt.EqAt A s u v (decide (Cb u=Cb v)):=by
 unfold CP at hu hv;cases k with
 | true=>
  simp only [if_true] at hu hv;obtain ⟨x,t,rfl⟩:=hu;obtain ⟨y,t',rfl⟩:=hv;have e:decide (Cb (.str x t)=Cb (.str y t'))=(x == y):=by
   show decide (DH.s x=DH.s y)=_
   rw [ZO];simp
  rw [e];exact SeqAt.EqAt.str_str x t y t'
 | false=>
  simp only [Zp,if_false] at hu hv;obtain ⟨x,t,rfl⟩:=hu;obtain ⟨y,t',rfl⟩:=hv;have e:decide (Cb (.int x t)=Cb (.int y t'))=(x == y):=by
   show decide (DH.i x=DH.i y)=_
   rw [ZO];simp
  rw [e];exact SeqAt.EqAt.int_int x t y t'
theorem Kd {b:Bool} {kd:Nat->Bool}:∀ (xs ys:List Value) (i:Nat),(∀ (j:Nat) x,xs[j]? = some x->CP (kd (i + j)) x)->(∀ (j:Nat) x,ys[j]? = some x->CP (kd (i + j)) x) ->
  Q (A8 (xs.map Cb) (ys.map Cb)) s->KatLex prog w A b (decide (xs.length < ys.length)) Q (xs.zip ys) i s
 | [],[],i,_,_,h=>h
 | [],y :: ys,i,_,_,h=>h
 | x :: xs,[],i,_,_,h=>h
 | x :: xs,y :: ys,i,hx,hy,h=>by
  have kx:CP (kd i) x:=hx 0 x rfl;have ky:CP (kd i) y:=hy 0 y rfl;rw [Zb,Zb] at h;unfold A8 at h;refine kat_cons (Vn kx ky _ _ _ _ ?_);refine kat_go (fun e=>kat_yes ?_) (fun e=>kat_no (SX kx ky ?_))
  ·have e':=of_decide_eq_true e;rw [if_pos e'] at h;have r:=Kd (b:=b) (kd:=kd) xs ys (i + 1) (fun j z e=>by rw [show i + 1 + j=i + (j + 1) by lia]; exact hx (j + 1) z (by simpa using e)) (fun j z e=>by rw [show i + 1 + j=i + (j + 1) by lia]; exact hy (j + 1) z (by simpa using e)) h;have e2:decide ((x :: xs).length < (y :: ys).length)=decide (xs.length < ys.length):=by simp
   rw [e2];exact r
  ·have e':=of_decide_eq_false e;rw [if_neg e'] at h;exact h
theorem U3 {kd:Nat->Bool} {u v:Value} (hu:Mw s.heap kd u) (hv:Mw s.heap kd v) (h:Q (A8 (CU s.heap u) (CU s.heap v)) s):wpAny (model prog w) A (keyLt' (tuples' true) u v) Q E s:=by
 obtain ⟨t,o,xs,n,rfl,ho,hc,hd,p,hx⟩:=hu;obtain ⟨t',o',Qi,n',rfl,J2,HS,M0,p',Jq⟩:=hv;have e1:CU s.heap (.ref t)=xs.toList.map Cb:=by
  show (match s.heap.get? t with | some o=>(match o.data with | .seq xs _=>xs.toList.map Cb | _=>[]) | none=>[])=_
  rw [ho];dsimp only;rw [hd]
 have e2:CU s.heap (.ref t')=Qi.toList.map Cb:=by
  show (match s.heap.get? t' with | some o=>(match o.data with | .seq xs _=>xs.toList.map Cb | _=>[]) | none=>[])=_
  rw [J2];dsimp only;rw [M0]
 rw [e1,e2] at h;refine kat_lt ho hd J2 M0 ?_;have e3:decide (xs.size < Qi.size)=decide (xs.toList.length < Qi.toList.length):=by simp
 rw [e3];exact Kd (kd:=kd) _ _ 0 (fun j x e=>by rw [aw]; exact hx j x e) (fun j x e=>by rw [aw]; exact Jq j x e) h
theorem JJ {kd:Nat->Bool} {vs:List Value} (h:∀ v ∈ vs,Mw s.heap kd v):Cmpd prog w s (fun x y=>A8 (CU s.heap x.1) (CU s.heap y.1)) vs:=by
 intro h2 A h' kp;have h1:∀ v ∈ vs,Mw h' kd v/\CU h' v=CU s.heap v:=fun v hv=>by
  obtain ⟨t,o,xs,n,rfl,ho,hc,hd,p,hx⟩:=h v hv;refine ⟨⟨t,o,xs,n,rfl,kp t o ho,hc,hd,p,hx⟩,?_⟩;show (match h'.get? t with | some o=>(match o.data with | .seq xs _=>xs.toList.map Cb | _=>[]) | none=>[])=(match s.heap.get? t with | some o=>(match o.data with | .seq xs _=>xs.toList.map Cb | _=>[]) | none=>[])
  rw [ho,kp t o ho]
 refine ⟨tuples' true,?_,?_⟩
 ·intro Q E hq;have tups:∀ l:List Value,(∀ v ∈ l,Mw h' kd v)->∃ fs:List Value,KatTups h' l fs/\fs.length=l.length/\∀ f ∈ fs,CP (kd 0) f:=by
   intro l;induction l with
   | nil=>intro _; exact ⟨[],KatTups.nil,rfl,fun f hf=>nomatch hf⟩
   | cons v l ih=>
    intro hl;obtain ⟨fs,k1,k2,k3⟩:=ih fun v hv=>hl v (Ze _ hv)
    obtain ⟨t,o,xs,n,rfl,ho,hc,hd,p,hx⟩:=hl v Zg;have g:xs[0]? = some xs[0]:=ZK p;refine ⟨xs[0] :: fs,KatTups.cons ho hc hd g k1,by rw [Zm,Zm,k2],fun f hf=>?_⟩;rcases YM.mp hf with rfl | hf
    ·exact hx 0 _ (by rw [ZL]; exact g)
    ·exact k3 f hf
  obtain ⟨fs,k1,k2,k3⟩:=tups vs fun v hv=>(h1 v hv).1
  cases ek:kd 0 with
  | true=>
   refine kat_kind (T:=.type "str") k1 (by lia) (fun v hv=>?_) rfl hq;have q:=k3 v hv;unfold CP at q;rw [ek] at q;simp only [if_true] at q;obtain ⟨x,t,rfl⟩:=q;exact Looks.now
  | false=>
   refine kat_kind (T:=.type "int") k1 (by lia) (fun v hv=>?_) rfl hq;have q:=k3 v hv;unfold CP at q;rw [ek] at q;simp only [Zp,if_false] at q;obtain ⟨x,t,rfl⟩:=q;exact Looks.now
 ·intro x y hx hy Q E hq;obtain ⟨ex,mx⟩:=Dh (vs:=vs) (p:=x) (by simpa using hx);obtain ⟨ey,my⟩:=Dh (vs:=vs) (p:=y) (by simpa using hy);rw [ex,ey] at hq ⊢;dsimp only at hq ⊢;refine U3 (h1 _ mx).1 (h1 _ my).1 ?_;show Q (A8 (CU h' x.2) (CU h' y.2)) _
  rw [(h1 _ mx).2,(h1 _ my).2];exact hq
end
theorem JG {us Ky:List Value} (p:Ky.Perm us):∀ {vs:List V},A0 vs us->∃ HW,A0 HW Ky/\HW.Perm vs:=by
 induction p with
 | nil=>intro vs h; exact ⟨vs,h,.refl _⟩
 | cons x p ih=>
  intro vs h;cases h with
  | cons h1 h2=>
   obtain ⟨HW,a,b⟩:=ih h2;exact ⟨_ :: HW,.cons h1 a,b.cons _⟩
 | swap x y l=>
  intro vs h;cases h with
  | cons h1 h2=>
   cases h2 with
   | cons h3 h4=>exact ⟨_ :: _ :: _,.cons h3 (.cons h1 h4),.swap _ _ _⟩
 | trans p1 p2 Wi Wh=>
  intro vs h;obtain ⟨Xr,a1,b1⟩:=Wh h;obtain ⟨WI,a2,b2⟩:=Wi a1;exact ⟨WI,a2,b2.trans b1⟩
end L2
namespace L2
open PySem PySem.W PyProof.Rows
section
variable {prog:Program} {w:World} {A:Around} {E:Value->Shared->Prop} {s:Shared} {κ:SortKind} {lt:Keyed->Keyed->Bool} {a0:Array Keyed}
end
end L2
namespace L2
open PySem PySem.Spec PyProof.Rows
section
variable {prog:Program} {w:World} {A:Around} {E:Value->Shared->Prop} {s:Shared}
end
def E8 (u:AA):AA:=(BP u.1 u.2.1,BQ u.1 u.2.1,u.2.2)
theorem FU {X:Cx} {ix:Nat} {x:Str} {px spos:Pos} {tg iter elt:Expr} {ifs:List Expr} {scope:Scope} {cl:List (Str × Addr)} {N:List Str} {pos:Pos} {wi:TI} {g:TG} {tt:TT} {te:TE} {σ0:St->St} (hN:X.N.Nodup) (hix:X.N[ix]? = some x) (hlx:Vx X.env.scope x) (hc:X.calm=true) (co:A6 X scope cl)
  (hσ:∀ σ,σ.length=X.N.length->AH X cl scope N σ (σ0 σ)) (hi:PI X tg iter wi)
  (hb:∀ s2 H C fp,PG (Ao X scope cl N s2 H C fp) tg g/\Ux (Ao X scope cl N s2 H C fp) ifs tt/\PE (Ao X scope cl N s2 H C fp) elt te)
  (hsw:swapsWith (.ListComp elt [⟨tg,iter,ifs,0⟩] scope pos) (some (.Name x px)) spos.line X.env=pure true:=by rfl)
  (hs:∀ x,foldedSetIterable iter X.env x=pure x:=by intro _; rfl) (hf:X.fn x=true\/X.env.scope.names.lookup x=some .local:=by first | exact .inl rfl | exact .inr rfl | assumption) :
  PS X (.Assign [.Name x px] (.ListComp elt [⟨tg,iter,ifs,0⟩] scope pos) spos) (Q3 (N4 wi g tt te σ0) (Kf ix)):=by
 intro pins s σ H DD I h;rw [exec_Assign_Name_used _ _ _ _ hsw];refine wpAny_bind (wpAny_standAt (wpAny_bind ?_));show wpAny _ X.A (do let _ <- comprehension (.ListComp elt [⟨tg,iter,ifs,0⟩] scope pos) scope X.env _ (newList []) false (eval iter X.env) (some (assign (.Name x px) X.env))) _ _ s
 refine wpAny_bind (wpAny_mono (wpAny_comprehension_free (use:=some (assign (.Name x px) X.env)) (Q:=fun _ s'=>SP X pins DD .next s') rfl hs co.clos co.kind co.names
  (wpAny_mono (hi (pins:=pins) s σ H _ I h) (fun xv s1 h1=>wpAny_mono h1 (fun itv s2 h2=>?_) fun _ _ e=>e) fun _ _ e=>e)) (fun _ s' hq=>wpAny_pure (wpAny_pure hq)) fun _ _ e=>e)
 obtain ⟨it,fp,tn,J,H2,rfl,I2,T,Ff,f2,hW⟩:=h2;refine wpAny_newObj_type (wpAny_newFunctionEnv co.cell (by intro y hy; cases hy) (fun h₁ Br AZ=>?_) co.kind);dsimp only at Br AZ ⊢;generalize IQ:s2.heap.push { cls:=.type "list",dict:=none,data:=.seq ([]:List Value).toArray } = HH at Br AZ ⊢;have Bn:HH.objs.size=s2.heap.objs.size + 1:=by rw [<-IQ,Z6]
 have old:∀ b o,s2.heap.get? b=some o->h₁.get? b=some o:=fun b o e=>
  AZ.extBut b o (YX (by rw [Bn]; exact Zq (YV e))) (YK _ (IQ ▸ YK _ e))
 have newD:∃ n,h₁.get? s2.heap.objs.size=some { cls:=.type "list",data:=.seq ([]:List Value).toArray n }:=
  ⟨_,AZ.extBut _ _ (YX (by rw [Bn]; exact Zw _)) (YK _ (IQ ▸ YW _ rfl))⟩
 obtain ⟨W,⟨m0,w0⟩,turn⟩:=hW s2.heap.objs.size I2.fresh;have hfo:∀ b ∈ fp,∃ o,s2.heap.get? b=some o:=fun b hb=>let ⟨o,e,_⟩:=T.obj _ _ Ff b hb; ⟨o,e⟩
 have I3:An (Ao X scope cl N s2 H2 HH.objs.size fp) [] (σ0 σ) (upd H2 s2.heap.objs.size (.lst [])) { s2 with heap:=h₁,toks:=s2.toks + ([]:List (Str × Value)).length }:=
  Jf I2 f2 hfo co (hσ σ I.len) old (YO _) (by rw [Bn]; exact Z0 _) (ZD (by rw [Bn]; exact Zw _)) (.inr newD) Br
 have fC:s2.heap.objs.size<=HH.objs.size:=by rw [Bn]; exact Z0 _
 obtain ⟨hg,ht,he⟩:=hb s2 H2 HH.objs.size fp;have loop:∀ BU:Shared,BU = { s2 with heap:=h₁,toks:=s2.toks + ([]:List (Str × Value)).length } ->
   codeAny (model X.prog X.w) X.A (.compLoop (.ListComp elt [⟨tg,iter,ifs,0⟩] scope pos) 0 (.ref it) (.ref s2.heap.objs.size) (compEnvC scope cl HH.objs.size X.env))
    (compPost (model X.prog X.w) X.A X.xe (some (assign (.Name x px) X.env)) (fun _ s'=>SP X pins DD .next s') (.ref s2.heap.objs.size) HH.objs.size) BU:=by
  rintro BU rfl;have stat:∀ {H':Hp} ,(∀ b ∈ fp,H' b=none)->∀ b ∈ fp,DG (Ao X scope cl N s2 H2 HH.objs.size fp) [] H' b:=fun hn b hb=>by
   refine ⟨hn b hb,?_,?_,.inl hb,?_,fun p hp=>by cases hp⟩
   ·obtain ⟨o,e⟩:=hfo b hb;exact YX (show b < HH.objs.size by rw [Bn]; exact Zq (YV e))
   ·intro hz;obtain ⟨_,q1,q2,_⟩:=f2 b hb;rcases YM.mp (I2.stkSub b hz) with e | e
    ·exact q1 e
    ·exact q2 e
   ·exact fun x c e=>(f2 b hb).2.2.2.2.1 x c (co.sub x c e)
  refine BR (fun n s'=>∃ i Aw H',An (Ao X scope cl N s2 H2 HH.objs.size fp) [] Aw H' s'/\tn i s'.heap/\(∀ b ∈ fp,H' b=none)/\W i n Aw H') ?_ m0
   ⟨0,σ0 σ,_,I3,T.keep _ _ _ Ff fun b hb o e=>old b o e,fun b hb=>?_,w0⟩
  ·rintro n s4 ⟨i,FF,H4,I4,LA,Mk,w4⟩;rcases turn i n FF H4 w4 with ⟨stop,qn⟩ | ⟨go,step⟩
   ·refine wpAny_mono (T.done (Ao X scope cl N s2 H2 HH.objs.size fp) rfl rfl rfl hc i [] s4 FF H4 (fun _ _=>False) I4 (stat Mk) LA stop) (fun r s5 ⟨hr,I5⟩=>?_) fun _ _ z=>z.elim
    subst hr;obtain ⟨m5,R4,_⟩:=id I5.loc;have I6:An X pins σ H4 s5:=EJ (h':=s5.heap) I2 f2 fC I5 (Heap.SameBut.refl _ _);have cC:∀ y c,X.env.cells.lookup y=some c->c ≠ HH.objs.size:=fun y c e=>by
     obtain ⟨v,q⟩:=I2.cell y c e;exact YX (YZ q.lt fC)
    have lC:X.env.locals ≠ HH.objs.size:=YX (YZ I2.lt fC);show wpAny _ X.A (assign (.Name x px) X.env (.ref s2.heap.objs.size)) _ X.xe s5
    refine wpAny_assign_Name (EU I6 hN hix hlx (v:=.ref s2.heap.objs.size) rfl (fun s7 I7 ⟨a,sb,ha⟩=>?_) hf);have aC:a ≠ HH.objs.size:=by
     rcases ha with rfl | ha
     ·exact lC
     ·exact cC _ _ ha
    refine ⟨m5,R4.sameBut sb (Ne.symm aC),fun h' Mh=>⟨_,H4,?_,qn⟩⟩;exact I7.turned (t':=s7.toks) (it:=HH.objs.size) (fun b o hb e=>(Mh.2 b hb).trans e) I5.free (Ne.symm lC) (.inr (Zj I2.sz fC)) cC fun p hp z=>by
     have e:=(I2.pin p hp).1;exact absurd (YZ (YV e) fC) (by rw [z]; exact Z5 _)
   ·refine wpAny_mono (T.item (Ao X scope cl N s2 H2 HH.objs.size fp) rfl rfl rfl hc i [] s4 FF H4 (fun _ _=>False) I4 (stat Mk) LA go) (fun r s5 ⟨u,hr,h5⟩=>?_) fun _ _ z=>z.elim
    subst hr;refine wpAny_mono h5 (fun _ s6 ⟨x,H6,I6,r6,y6,HZ,RE⟩=>?_) fun _ _ z=>z.elim
    have RY:=I6.pinned (stat RE) (T.obj _ _ HZ);refine wpAny_mono (hg s6 FF H6 x u _ RY r6 (step x H6 y6)) (fun _ s7 ⟨Er,H7,I7,q7⟩=>?_) fun _ _ z=>z.elim
    refine wpAny_mono (ht s7 Er H7 _ I7 q7) (fun ok s8 ⟨H8,I8,q8⟩=>?_) fun _ _ z=>z.elim
    have again:∀ {s9:Shared} {FE:St} {H9:Hp} ,An (Ao X scope cl N s2 H2 HH.objs.size fp) ([] ++ DA fp s6.heap) FE H9 s9->(∃ m',m' < n/\W (i + 1) m' FE H9)->∃ m,m < n/\∃ i Aw H',An (Ao X scope cl N s2 H2 HH.objs.size fp) [] Aw H' s9/\tn i s9.heap/\(∀ b ∈ fp,H' b=none)/\W i m Aw H':=fun {s9 FE H9} I9 n9=>by
     obtain ⟨m',hm,w9⟩:=n9;refine ⟨m',hm,i + 1,FE,H9,I9.unpinned,T.keep _ _ _ HZ fun b hb o e=>(I9.pin (b,o) (Za _ (Za _ (AR hb e)))).1,fun b hb=>?_,w9⟩;obtain ⟨o,e,d⟩:=T.obj _ _ HZ b hb;exact (I9.pin (b,o) (Za _ (Za _ (AR hb e)))).2.1
    cases ok with
    | false=>
     rw [if_neg Zd] at q8 ⊢;exact again I8 q8
    | true=>
     rw [if_pos rfl] at q8 ⊢;refine wpAny_mono (he s8 Er H8 _ I8 q8) (fun y s9 ⟨v,H9,I9,r9,acc,hacc,hsz,q9⟩=>?_) fun _ _ z=>z.elim
     refine wpAny_mono (Cu (X:=Ao X scope cl N s2 H2 HH.objs.size fp) s9 Er H9 (.ref s2.heap.objs.size) [v] (.ref s2.heap.objs.size) [y] (fun _ M4=>∃ m',m' < n/\W (i + 1) m' Er M4) I9 rfl (.cons r9 .nil) ⟨_,acc,v,rfl,rfl,hacc,hsz,q9⟩) (fun _ QN ⟨_,M4,RZ,_,QU⟩=>?_) fun _ _ z=>z.elim
     exact again RZ QU
  ·have z:=(f2 b hb).1;obtain ⟨o,e⟩:=hfo b hb;rw [Ae (YX (YV e))];exact z
 exact codeAny_compStart_list (loop _ rfl) (T.self _ 0 _ _ _ (T.keep _ _ _ Ff fun b hb o e=>old b o e) (loop _ rfl))
theorem Paired.at {α β:Type} {F:α->β->Prop}:∀ {Me:List α} {Mc:List β},Paired F Me Mc->∀ {i:Nat} {a:α},Me[i]? = some a->∃ b,Mc[i]? = some b/\F a b
 | _,_,.nil,i,a,h=>by simp at h
 | _,_,.cons r t,0,a,h=>by
  simp only [Z9,Zf.injEq] at h;subst h;exact ⟨_,rfl,r⟩
 | _,_,.cons r t,i + 1,a,h=>by
  simp only [ae] at h;obtain ⟨b,h1,h2⟩:=Paired.at t h;exact ⟨b,by simpa using h1,h2⟩
theorem OY {P:Program} {w:World} {k:A7} {u:Value} (h:(AL P w).is k u=true):A1 (kV k) u:=by
 rcases Bb (show II k u=true from h) with ⟨i,t,rfl,rfl⟩ | ⟨x,t,rfl,rfl⟩
 ·exact ⟨t,rfl⟩
 ·exact ⟨t,rfl⟩
def Uz (a:Addr) (kvs:List (A7 × V)) (o:Obj):It:=
 ⟨fun i H=>H a=some (.frz o (.dK kvs))/\i < kvs.length,fun i H x H'=>H'=H/\∃ k v,kvs[i]? = some (k,v)/\x=kV k,fun i H=>H a=some (.frz o (.dK kvs))/\kvs.length<=i⟩
theorem Nh {X:Cx} {pins:List (Addr × Obj)} {σ:St} {H:Hp} {s:Shared} {a:Addr} {o:Obj} {kvs:List (A7 × V)} {es:Array DictEntry} {ep:Nat} (I:An X pins σ H s) (e:H a=some (.frz o (.dK kvs))) (he:o.data=.dict es ep) :
  (a == sysModules)=false/\∃ vs,KV kvs vs/\s.heap.DictAt (AL X.prog X.w) a vs ep:=by
 obtain ⟨ho,z,hd,vs,rel,o',Tw,T5,h1,h2,h3,h4⟩:=(show A5 X.prog X.w H s.heap a (.frz o (.dK kvs)) from I.hok a _ e)
 rw [ho] at h1;cases h1
 rw [he] at h3;injection h3 with h5 h6;subst h5 h6;exact ⟨hd,vs,rel,o,es,ho,h2,he,h4⟩
theorem OF {P:Program} {w:World} {K:YL} {tg:Expr} (a it:Addr) {kvs:List (A7 × V)} {o:Obj} {es:Array DictEntry} {ep:Nat} (he:o.data=.dict es ep) :
  Lk P w K tg (Uz a kvs o) [it] it (fun i h=>h.IsKeyIter it a i kvs.length ep) where
 mem:=by simp
 obj:=fun i h st b hb=>by
  have e:b=it:=by simpa using hb
  subst e;obtain ⟨o,e,c,d⟩:=st;exact ⟨o,e,fun v z=>by rw [d] at z; cases z⟩
 keep:=fun i h h' st k=>st.at fun o e=>k it (by simp) o e
 item:=by
  intro X hP hw hK hc i pins s σ H E I hf st hg;subst hP hw hK;obtain ⟨hq,Bv⟩:=hg;obtain ⟨hd,vs,rel,da⟩:=Nh I hq he;have hx:kvs[i]? = some kvs[i]:=by simp [Bv]
  obtain ⟨⟨k,v⟩,hv,e1,e2⟩:=Paired.at rel hx;have hl:kvs.length=vs.length:=rel.length;obtain ⟨f0,f1,f2,f3,f4,f5⟩:=hf it (by simp);rw [hl] at st;refine wpAny_pyNext_dict_item st da hv fun key h' hkey AM sb=>?_
  have I1:An X pins σ H { s with heap:=h' }:=I.turned (t':=s.toks) (fun b o hb e=>(sb.2 b hb).trans e) f0 f1 f3 f4 f5;rw [<-hl] at AM;obtain ⟨o',e,c,d⟩:=id AM;refine ⟨key,rfl,IT (s:={ s with heap:=h' }) e c d (by decide) ⟨kV k,H,I1,OY hkey,⟨rfl,k,kvs[i].2,?_,rfl⟩,AM,fun b hb=>(hf b hb).1⟩⟩;have Xn:kvs[i].1=k:=e1;rw [hx,<-Xn]
 done:=by
  intro X hP hw hK hc i pins s σ H E I hf st hg;subst hP hw hK;obtain ⟨hq,hle⟩:=hg;obtain ⟨hd,vs,rel,da⟩:=Nh I hq he;have hl:kvs.length=vs.length:=rel.length;obtain ⟨f0,f1,f2,f3,f4,f5⟩:=hf it (by simp);rw [hl] at st;exact wpAny_pyNext_dict_end (I.ok.hd hc) st da (by simp; lia) fun h' eb=>⟨rfl,I.turned (t':=s.toks) (fun b o hb e=>eb b o hb e) f0 f1 f3 f4 f5⟩
 self:=fun _ _ _ _ _ st h=>wpAny_pyIter_keyiter st h
def Ep (H:Hp) (a:Addr) (kvs:List (A7 × V)) (o:Obj) (H':Hp):Prop:=(H a=some (.dK kvs)/\H'=upd H a (.frz o (.dK kvs)))\/(H a=some (.frz o (.dK kvs))/\H'=H)
theorem Ep.at {H H':Hp} {a:Addr} {kvs:List (A7 × V)} {o:Obj} (f:Ep H a kvs o H'):H' a=some (.frz o (.dK kvs)):=by
 rcases f with ⟨_,rfl⟩ | ⟨e,rfl⟩
 ·exact Ab
 ·exact e
theorem Ep.ne {H H':Hp} {a b:Addr} {kvs:List (A7 × V)} {o:Obj} (f:Ep H a kvs o H') (h:b ≠ a):H' b=H b:=by
 rcases f with ⟨_,rfl⟩ | ⟨e,rfl⟩
 ·exact Ae h
 ·rfl
theorem An.freeze {X:Cx} {pins:List (Addr × Obj)} {σ:St} {H:Hp} {s:Shared} {a:Addr} {kvs:List (A7 × V)} (I:An X pins σ H s) (e:Rd H a (.dK kvs)) :
  ∃ o es ep H',o.data=.dict es ep/\Ep H a kvs o H'/\An X pins σ H' s:=by
 rcases e with e | ⟨o,e⟩
 ·obtain ⟨z,hd,vs,rel,o,es,ep,h1,h2,h3,h4⟩:=(show A5 X.prog X.w H s.heap a (.dK kvs) from I.hok a _ e)
  refine ⟨o,es,ep,upd H a (.frz o (.dK kvs)),h3,.inl ⟨e,rfl⟩,?_⟩;exact I.write (x:=a) (e:=a) (h':=s.heap) (t':=s.toks) (by rw [e]; exact True.intro) (.inl rfl) (fun b u _ q=>q) ⟨o,h1⟩ ⟨h1,z,hd,vs,rel,o,es,ep,h1,h2,h3,h4⟩
 ·obtain ⟨ho,z,hd,vs,rel,o',es,ep,h1,h2,h3,h4⟩:=(show A5 X.prog X.w H s.heap a (.frz o (.dK kvs)) from I.hok a _ e)
  rw [ho] at h1;cases h1
  exact ⟨o,es,ep,H,h3,.inr ⟨e,rfl⟩,I⟩
def iDict (tl:TE):TI:=fun σ H R=>tl σ H fun x H1=>∃ a kvs,x=.ref a/\Rd H1 a (.dK kvs)/\∀ o H2,Ep H1 a kvs o H2->R (Uz a kvs o) H2
theorem NX {X:Cx} {tg l:Expr} {tl:TE} (hl:PE X l tl):PI X tg l (iDict tl):=by
 intro pins s σ H R I h;refine Bj (hl (pins:=pins) s σ H _ I h) fun v s1 ⟨x,H1,I1,r1,q1⟩=>?_
 obtain ⟨a,kvs,e,hr,q⟩:=q1;subst e;cases r1
 obtain ⟨o,es,ep,H2,he,fz,I2⟩:=I1.freeze hr;obtain ⟨hd,vs,rel,da⟩:=Nh I2 fz.at he;refine wpAny_pyIter_dict hd da ?_;refine ⟨s1.heap.objs.size,[s1.heap.objs.size],_,_,H2,rfl,I2.kept (t':=s1.toks) fun b o e=>YK _ e,OF a _ he,⟨_,YW _ rfl,rfl,?_⟩,fun b hb=>?_,q o H2 fz⟩
 ·rw [rel.length]; rfl
 ·have e:b=s1.heap.objs.size:=by simpa using hb
  subst e;exact I2.fpOk (YO _) (I2.hok.fresh (YO _))
theorem RH {a:Addr} {kvs:List (A7 × V)} {o:Obj} {g:TG} {tb:TS} {D:Ex} {σ:St} {H:Hp} (Pv:Nat->St->Hp->Prop) (h0:Pv 0 σ H) (hl:∀ i σ H,i<=kvs.length->Pv i σ H->H a=some (.frz o (.dK kvs)))
  (hs:∀ i k v σ H,kvs[i]? = some (k,v)->Pv i σ H->g (kV k) σ H fun Az H2=>tb { D with nx:=Pv (i + 1),ct:=Pv (i + 1),bk:=D.nx } Az H2) (hd:∀ σ H,Pv kvs.length σ H->D.nx σ H) :
  ∃ W:Nat->Nat->St->Hp->Prop,(∃ m,W 0 m σ H)/\∀ i m σ H,W i m σ H ->
   ((Uz a kvs o).stop i H/\D.nx σ H)\/((Uz a kvs o).go i H/\∃ N:St->Hp->Prop,(∀ Aw H',N Aw H'->∃ m',m' < m/\W (i + 1) m' Aw H')/\∀ x H',(Uz a kvs o).yld i H x H'->g x σ H' fun Az H2=>tb { D with nx:=N,ct:=N,bk:=D.nx } Az H2):=by
 refine ⟨fun i m σ H=>m=kvs.length - i/\i<=kvs.length/\Pv i σ H,⟨kvs.length,by simp,Zz _,h0⟩,?_⟩;rintro i m σ H ⟨rfl,hi,p⟩;have q:=hl i σ H hi p;by_cases Bv:i < kvs.length
 ·refine .inr ⟨⟨q,Bv⟩,Pv (i + 1),fun Aw H' p'=>⟨kvs.length - (i + 1),by lia,rfl,Bv,p'⟩,fun x H' y=>?_⟩;obtain ⟨e,k,v,e1,e2⟩:=y;subst e e2;exact hs i k v σ _ e1 p
 ·have e:i=kvs.length:=by lia
  subst e;exact .inl ⟨⟨q,YO _⟩,hd σ H p⟩
section
variable {prog:Program} {w:World} {A:Around} {E:Value->Shared->Prop} {s:Shared}
end
theorem Cr (a:List Nat):¬ a < a:=b5 a
section
variable {X:Cx} {pins:List (Addr × Obj)} {σ Aw:St} {H H':Hp} {s2 s':Shared} {scope:Scope} {cl:List (Str × Addr)} {N:List Str} {fp:List Addr} {C D:Addr} {h₁ h':Heap} {t':Nat}
theorem EI {ob:HO} (I:An X pins σ H s2) (hf:∀ b ∈ fp,DG X pins H b) (hfo:∀ b ∈ fp,∃ o,s2.heap.get? b=some o) (co:A6 X scope cl) (hσ:AH X cl scope N σ Aw)
  (k:∀ b o,s2.heap.get? b=some o->h₁.get? b=some o) (hD:s2.heap.objs.size<=D) (hC:s2.heap.objs.size<=C) (hDC:C ≠ D)
  (newO:A5 X.prog X.w (upd H D ob) h₁ D ob) {m:Str->Option Value} (hn:h₁.Ns C m) :
  An (Ao X scope cl N s2 H C fp) [] Aw (upd H D ob) { s2 with heap:=h₁,toks:=t' }:=by
 have fD:H D=none:=I.hok.fresh hD;have fC:H C=none:=I.hok.fresh hC;have lts:∀ b ∈ fp,b < s2.heap.objs.size:=fun b hb=>let ⟨_,e⟩:=hfo b hb; YV e
 have cells_lt:∀ x c,cl.lookup x=some c->c < s2.heap.objs.size:=fun x c e=>by
  obtain ⟨v,q⟩:=I.cell x c (co.sub x c e);exact q.lt
 have ok:Cx.Ok (Ao X scope cl N s2 H C fp):=by
  refine ⟨I.ok.mod,?_,I.ok.glob,I.ok.blt,hC,?_,?_,?_,I.ok.hd,I.ok.frames,.inl rfl,?_,I.bs,Zj I.ok.bsz I.sz,?_,?_,I.stack,I.stkFree⟩
  ·exact co.kind
  ·exact fun x y c e1 e2=>I.ok.inj x y c (co.sub x c e1) (co.sub y c e2)
  ·exact fun x h=>co.has x h
  ·exact fun x c h _=>by cases h
  ·intro b hb;refine ⟨fun e=>?_,fun x c e=>(hf b hb).2.2.2.2.1 x c (co.sub x c e)⟩;have z:=lts b hb;exact absurd (YZ z hC) (by rw [show b=C from e]; exact Z5 _)
  ·intro b o e hb;have Fu:b ∈ fp:=hb;rcases (hf b Fu).2.2.2.1 with z | z
   ·exact I.ok.noex b o e z
   ·exact absurd (YZ (YV e) (Zj I.ok.bsz z)) (Z5 _)
  ·intro b hb hz;have Fu:b ∈ fp:=hb;obtain ⟨_,f1,f2,_⟩:=hf b Fu;rcases YM.mp (I.stkSub b hz) with e | e
   ·exact f1 e
   ·exact f2 e
 refine ⟨ok,rfl,I.bare,Un.laid k hD fD,?_,?_,?_,?_,?_,I.hok.laid k hD newO,hσ.1⟩
 ·refine ⟨m,hn,fun i x v e1 e2 _=>?_⟩;obtain ⟨⟨j,j1,j2⟩,kk,kr⟩:=hσ.2 i x v e1 e2;obtain ⟨mo,_,hl⟩:=I.loc;obtain ⟨u,r,l⟩:=hl j x v j1 j2 (by
   rcases kk with z | z
   ·exact .inr (.inl z)
   ·exact .inr (.inr z))
  refine ⟨u,r,.inr ⟨kr,?_⟩⟩;obtain ⟨c,hc⟩:=co.has x kr;rcases l with ⟨z,_⟩ | ⟨_,c',HS,hcell⟩
  ·rcases kk with q | q
   ·rw [z] at q; cases q
   ·rw [z] at q; cases q
  ·have e3:=co.sub x c hc;rw [HS] at e3;have e4:c'=c:=Zf.inj e3;subst e4;obtain ⟨o,ho,hd⟩:=hcell;exact ⟨c',hc,o,k _ o ho,hd⟩
 ·intro x c e;obtain ⟨v,o,ho,hd⟩:=I.cell x c (co.sub x c e);exact ⟨v,o,k _ o ho,hd⟩
 ·show upd H D ob C=none
  rw [Ae hDC];exact fC
 ·intro x c e;rw [Ae (YX (YZ (cells_lt x c e) hD))];exact I.freeC x c (co.sub x c e)
 ·intro p hp;cases hp
end
section
variable {prog:Program} {w:World} {A:Around} {R:Result->Shared->Prop} {s:Shared}
theorem BF {kx vx target iter:Expr} {ifs:List Expr} {scope:Scope} {pos:Pos} {it:Value} {D:Addr} {env:Env} (I:Nat->Shared->Prop)
  (turn:∀ n s,I n s->wpAny (model prog w) A (pyNext it) (fun r AK=>match r with
   | none=>R (.ok .next) AK
   | some v=>wpAny (model prog w) A (letOwnedTupleGo target it v) (fun _ L4=>wpAny (model prog w) A (assign target env v) (fun _ Eu=>
     wpAny (model prog w) A (forIn ifs true fun c r=>if r=true then do let ok <- isTrue c env (eval c env); pure (ForInStep.yield ok) else pure (ForInStep.yield r)) (fun ok BU=>
      if ok=true then wpAny (model prog w) A (eval kx env) (fun kv Q5=>wpAny (model prog w) A (eval vx env) (fun vv Q4=>
       wpAny (model prog w) A (dictSet D kv vv) (fun _ VJ=>∃ m,m < n/\I m VJ) (notedBy (model prog w) A env fun e s'=>R (.error e) s') Q4) (notedBy (model prog w) A env fun e s'=>R (.error e) s') Q5) (notedBy (model prog w) A env fun e s'=>R (.error e) s') BU
      else ∃ m,m < n/\I m BU) (notedBy (model prog w) A env fun e s'=>R (.error e) s') Eu) (notedBy (model prog w) A env fun e s'=>R (.error e) s') L4) (notedBy (model prog w) A env fun e s'=>R (.error e) s') AK) (notedBy (model prog w) A env fun e s'=>R (.error e) s') s)
  (n:Nat) (h:I n s) :
  codeAny (model prog w) A (.compLoop (.DictComp kx vx [⟨target,iter,ifs,0⟩] scope pos) 0 it (.ref D) env) R s:=by
 refine codeAny_loop rfl I (fun n s hI=>?_) n h;show wpAny _ A ((compTurn (.DictComp kx vx [⟨target,iter,ifs,0⟩] scope pos) 0 it (.ref D) env).onRaise (fun x=>do noteFrame x env; theTreesLotGoes x)) _ _ s
 refine wpAny_noted ?_;rw [compTurn_dict];refine wpAny_bind (wpAny_standAt (wpAny_bind (wpAny_mono (turn n s hI) (fun r AK h₁=>?_) fun _ _ h'=>h')));cases r with
 | none=>exact wpAny_pure h₁
 | some v=>
  refine wpAny_bind (wpAny_mono h₁ (fun _ L4 R1=>?_) fun _ _ h'=>h');refine wpAny_bind (wpAny_mono R1 (fun _ Eu Na=>wpAny_bind (wpAny_mono Na (fun ok BU MZ=>?_) fun _ _ h'=>h')) fun _ _ h'=>h');cases ok with
  | false=>exact wpAny_pure ⟨rfl,MZ⟩
  | true=>
   exact wpAny_bind (wpAny_bind (wpAny_mono MZ (fun kv Q5 Vg=>wpAny_bind (wpAny_holding (wpAny_mono Vg (fun vv Q4 Vf=>wpAny_bind (wpAny_standAt (wpAny_holding (wpAny_mono Vf (fun _ VJ Yb=>wpAny_pure ⟨rfl,Yb⟩) fun _ _ h'=>h')))) fun _ _ h'=>h'))) fun _ _ h'=>h'))
end
theorem Kk {X:Cx} {pins:List (Addr × Obj)} {σ:St} {H:Hp} {s:Shared} {a:Addr} {k:A7} {v:V} {u r:Value} {kvs:List (A7 × V)} {A:Around} {E:Value->Shared->Prop} {Q:Unit->Shared->Prop} (I:An X pins σ H s) (e:H a=some (.dK kvs)) (l:kvs.length < sizeLine) (ry:A1 (kV k) u) (rv:A1 v r)
  (h:∀ s',An X pins σ (upd H a (.dK (Bg kvs k v))) s'->Q () s'):wpAny (model X.prog X.w) A (dictSet a u r) Q E s:=by
 obtain ⟨z,hd,vs,rel,dd⟩:=RO I.hok e;have hz:vs.length<=sizeLine:=by rw [<-rel.length]; exact z
 have hl:(Bg kvs k v).length<=sizeLine:=by have:=CM kvs k v; lia
 refine wpAny_dictSet_pairs (hsz:=hz) (Hs ry) dd fun h' M3 hs=>h _ ?_
 have he:∃ q,h'.get? a=some q:=let ⟨q,_,_,hq,_⟩:=M3; ⟨q,hq⟩;exact Gj I (by rw [e]; exact True.intro) hs he (Lh hl hd (rel.put k rv) M3)
def Q2 (wi:TI) (g:TG) (tt:TT) (tk tv:TE) (σ0:St->St):TE:=fun σ H Q=>wi σ H fun J H1=>∀ D,H1 D=none->∃ W:Nat->Nat->St->Hp->Prop,(∃ m,W 0 m (σ0 σ) (upd H1 D (.dK []))) /\
 ∀ i m Aw H',W i m Aw H'->(J.stop i H'/\Q (.ref D) H')\/(J.go i H'/\∀ x H2,J.yld i H' x H2->g x Aw H2 fun Az H3=>tt Az H3 fun b H4=>
  if b=true then tk Az H4 (fun y H5=>tv Az H5 fun v H6=>∃ kvs k,y=kV k/\H6 D=some (.dK kvs)/\kvs.length < sizeLine/\∃ m',m' < m/\W (i + 1) m' Az (upd H6 D (.dK (Bg kvs k v)))) else ∃ m',m' < m/\W (i + 1) m' Az H4)
theorem Iq {X:Cx} {tg iter kx vx:Expr} {ifs:List Expr} {scope:Scope} {cl:List (Str × Addr)} {N:List Str} {pos:Pos} {wi:TI} {g:TG} {tt:TT} {tk tv:TE} {σ0:St->St} (hc:X.calm=true) (co:A6 X scope cl)
  (hσ:∀ σ,σ.length=X.N.length->AH X cl scope N σ (σ0 σ)) (hi:PI X tg iter wi)
  (hb:∀ s2 H C fp,PG (Ao X scope cl N s2 H C fp) tg g/\Ux (Ao X scope cl N s2 H C fp) ifs tt/\PE (Ao X scope cl N s2 H C fp) kx tk/\PE (Ao X scope cl N s2 H C fp) vx tv)
  (hs:∀ x,foldedSetIterable iter X.env x=pure x:=by intro _; rfl):PE X (.DictComp kx vx [⟨tg,iter,ifs,0⟩] scope pos) (Q2 wi g tt tk tv σ0):=by
 intro pins s σ H Q I h;rw [arm_eval_DictComp];refine wpAny_comprehension_free (use:=none) rfl hs co.clos co.kind co.names (wpAny_mono (hi (pins:=pins) s σ H _ I h) (fun xv s1 h1=>wpAny_mono h1 (fun itv s2 h2=>?_) fun _ _ e=>e) fun _ _ e=>e);obtain ⟨it,fp,tn,J,H2,rfl,I2,T,Ff,f2,hW⟩:=h2;refine wpAny_newObj_type (wpAny_newFunctionEnv co.cell (by intro y hy; cases hy) (fun h₁ Br AZ=>?_) co.kind);dsimp only at Br AZ ⊢;generalize IQ:s2.heap.push { cls:=.type "dict",dict:=none,data:=.dict #[] } = HH at Br AZ ⊢;have Bn:HH.objs.size=s2.heap.objs.size + 1:=by rw [<-IQ,Z6]
 have old:∀ b o,s2.heap.get? b=some o->h₁.get? b=some o:=fun b o e=>
  AZ.extBut b o (YX (by rw [Bn]; exact Zq (YV e))) (YK _ (IQ ▸ YK _ e))
 have newD:A5 X.prog X.w (upd H2 s2.heap.objs.size (.dK [])) h₁ s2.heap.objs.size (.dK []):=
  let ⟨z,hd,vs,rel,o,es,ep,ho,r⟩:=Jb (P:=X.prog) (w:=X.w) (H:=upd H2 s2.heap.objs.size (.dK [])) s2.heap I2.big
  ⟨z,hd,vs,rel,o,es,ep,AZ.extBut _ _ (YX (by rw [Bn]; exact Zw _)) (YK _ (IQ ▸ ho)),r⟩
 obtain ⟨W,⟨m0,w0⟩,turn⟩:=hW s2.heap.objs.size I2.fresh;have hfo:∀ b ∈ fp,∃ o,s2.heap.get? b=some o:=fun b hb=>let ⟨o,e,_⟩:=T.obj _ _ Ff b hb; ⟨o,e⟩
 have I3:An (Ao X scope cl N s2 H2 HH.objs.size fp) [] (σ0 σ) (upd H2 s2.heap.objs.size (.dK [])) { s2 with heap:=h₁,toks:=s2.toks + ([]:List (Str × Value)).length }:=
  EI I2 f2 hfo co (hσ σ I.len) old (YO _) (by rw [Bn]; exact Z0 _) (ZD (by rw [Bn]; exact Zw _)) newD Br
 have fC:s2.heap.objs.size<=HH.objs.size:=by rw [Bn]; exact Z0 _
 obtain ⟨hg,ht,hk,hv⟩:=hb s2 H2 HH.objs.size fp;have loop:∀ BU:Shared,BU = { s2 with heap:=h₁,toks:=s2.toks + ([]:List (Str × Value)).length } ->
   codeAny (model X.prog X.w) X.A (.compLoop (.DictComp kx vx [⟨tg,iter,ifs,0⟩] scope pos) 0 (.ref it) (.ref s2.heap.objs.size) (compEnvC scope cl HH.objs.size X.env))
    (compPost (model X.prog X.w) X.A X.xe none (EP X pins σ Q) (.ref s2.heap.objs.size) HH.objs.size) BU:=by
  rintro BU rfl;have stat:∀ {H':Hp} ,(∀ b ∈ fp,H' b=none)->∀ b ∈ fp,DG (Ao X scope cl N s2 H2 HH.objs.size fp) [] H' b:=fun hn b hb=>by
   refine ⟨hn b hb,?_,?_,.inl hb,?_,fun p hp=>by cases hp⟩
   ·obtain ⟨o,e⟩:=hfo b hb;exact YX (show b < HH.objs.size by rw [Bn]; exact Zq (YV e))
   ·intro hz;obtain ⟨_,q1,q2,_⟩:=f2 b hb;rcases YM.mp (I2.stkSub b hz) with e | e
    ·exact q1 e
    ·exact q2 e
   ·exact fun x c e=>(f2 b hb).2.2.2.2.1 x c (co.sub x c e)
  refine BF (fun n s'=>∃ i Aw H',An (Ao X scope cl N s2 H2 HH.objs.size fp) [] Aw H' s'/\tn i s'.heap/\(∀ b ∈ fp,H' b=none)/\W i n Aw H') ?_ m0
   ⟨0,σ0 σ,_,I3,T.keep _ _ _ Ff fun b hb o e=>old b o e,fun b hb=>?_,w0⟩
  ·rintro n s4 ⟨i,FF,H4,I4,LA,Mk,w4⟩;rcases turn i n FF H4 w4 with ⟨stop,qn⟩ | ⟨go,step⟩
   ·refine wpAny_mono (T.done (Ao X scope cl N s2 H2 HH.objs.size fp) rfl rfl rfl hc i [] s4 FF H4 (fun _ _=>False) I4 (stat Mk) LA stop) (fun r s5 ⟨hr,I5⟩=>?_) fun _ _ z=>z.elim
    subst hr;obtain ⟨m5,R4,_⟩:=id I5.loc;exact ⟨m5,R4,fun h' Mh=>⟨.ref _,H4,EJ I2 f2 fC I5 Mh,rfl,qn⟩⟩
   ·refine wpAny_mono (T.item (Ao X scope cl N s2 H2 HH.objs.size fp) rfl rfl rfl hc i [] s4 FF H4 (fun _ _=>False) I4 (stat Mk) LA go) (fun r s5 ⟨u,hr,h5⟩=>?_) fun _ _ z=>z.elim
    subst hr;refine wpAny_mono h5 (fun _ s6 ⟨x,H6,I6,r6,y6,HZ,RE⟩=>?_) fun _ _ z=>z.elim
    have RY:=I6.pinned (stat RE) (T.obj _ _ HZ);refine wpAny_mono (hg s6 FF H6 x u _ RY r6 (step x H6 y6)) (fun _ s7 ⟨Er,H7,I7,q7⟩=>?_) fun _ _ z=>z.elim
    refine wpAny_mono (ht s7 Er H7 _ I7 q7) (fun ok s8 ⟨H8,I8,q8⟩=>?_) fun _ _ z=>z.elim
    have again:∀ {s9:Shared} {FE:St} {H9:Hp} ,An (Ao X scope cl N s2 H2 HH.objs.size fp) ([] ++ DA fp s6.heap) FE H9 s9->(∃ m',m' < n/\W (i + 1) m' FE H9)->∃ m,m < n/\∃ i Aw H',An (Ao X scope cl N s2 H2 HH.objs.size fp) [] Aw H' s9/\tn i s9.heap/\(∀ b ∈ fp,H' b=none)/\W i m Aw H':=fun {s9 FE H9} I9 n9=>by
     obtain ⟨m',hm,w9⟩:=n9;refine ⟨m',hm,i + 1,FE,H9,I9.unpinned,T.keep _ _ _ HZ fun b hb o e=>(I9.pin (b,o) (Za _ (Za _ (AR hb e)))).1,fun b hb=>?_,w9⟩;obtain ⟨o,e,d⟩:=T.obj _ _ HZ b hb;exact (I9.pin (b,o) (Za _ (Za _ (AR hb e)))).2.1
    cases ok with
    | false=>
     rw [if_neg Zd] at q8 ⊢;exact again I8 q8
    | true=>
     rw [if_pos rfl] at q8 ⊢;refine wpAny_mono (hk s8 Er H8 _ I8 q8) (fun yk s9 ⟨k,H9,I9,r9,q9⟩=>?_) fun _ _ z=>z.elim
     refine wpAny_mono (hv s9 Er H9 _ I9 q9) (fun yv QN ⟨v,M4,RZ,UJ,kvs,key,ek,hacc,hsz,QU⟩=>?_) fun _ _ z=>z.elim
     subst ek;exact Kk (X:=Ao X scope cl N s2 H2 HH.objs.size fp) RZ hacc hsz r9 UJ fun Uc WG=>again WG QU
  ·have z:=(f2 b hb).1;obtain ⟨o,e⟩:=hfo b hb;rw [Ae (YX (YV e))];exact z
 exact codeAny_compStart_dict (loop _ rfl) (T.self _ 0 _ _ _ (T.keep _ _ _ Ff fun b hb o e=>old b o e) (loop _ rfl))
theorem QW {X:Cx} {ix:Nat} {x:Str} {px spos:Pos} {tg iter kx vx:Expr} {ifs:List Expr} {scope:Scope} {cl:List (Str × Addr)} {N:List Str} {pos:Pos} {wi:TI} {g:TG} {tt:TT} {tk tv:TE} {σ0:St->St} (hN:X.N.Nodup) (hix:X.N[ix]? = some x) (hlx:Vx X.env.scope x) (hc:X.calm=true) (co:A6 X scope cl)
  (hσ:∀ σ,σ.length=X.N.length->AH X cl scope N σ (σ0 σ)) (hi:PI X tg iter wi)
  (hb:∀ s2 H C fp,PG (Ao X scope cl N s2 H C fp) tg g/\Ux (Ao X scope cl N s2 H C fp) ifs tt/\PE (Ao X scope cl N s2 H C fp) kx tk/\PE (Ao X scope cl N s2 H C fp) vx tv)
  (hsw:swapsWith (.DictComp kx vx [⟨tg,iter,ifs,0⟩] scope pos) (some (.Name x px)) spos.line X.env=pure true:=by rfl)
  (hs:∀ x,foldedSetIterable iter X.env x=pure x:=by intro _; rfl) (hf:X.fn x=true\/X.env.scope.names.lookup x=some .local:=by first | exact .inl rfl | exact .inr rfl | assumption) :
  PS X (.Assign [.Name x px] (.DictComp kx vx [⟨tg,iter,ifs,0⟩] scope pos) spos) (Q3 (Q2 wi g tt tk tv σ0) (Kf ix)):=by
 intro pins s σ H DD I h;rw [exec_Assign_Name_used _ _ _ _ hsw];refine wpAny_bind (wpAny_standAt (wpAny_bind ?_));show wpAny _ X.A (do let _ <- comprehension (.DictComp kx vx [⟨tg,iter,ifs,0⟩] scope pos) scope X.env _ newDict false (eval iter X.env) (some (assign (.Name x px) X.env))) _ _ s
 refine wpAny_bind (wpAny_mono (wpAny_comprehension_free (use:=some (assign (.Name x px) X.env)) (Q:=fun _ s'=>SP X pins DD .next s') rfl hs co.clos co.kind co.names
  (wpAny_mono (hi (pins:=pins) s σ H _ I h) (fun xv s1 h1=>wpAny_mono h1 (fun itv s2 h2=>?_) fun _ _ e=>e) fun _ _ e=>e)) (fun _ s' hq=>wpAny_pure (wpAny_pure hq)) fun _ _ e=>e)
 obtain ⟨it,fp,tn,J,H2,rfl,I2,T,Ff,f2,hW⟩:=h2;refine wpAny_newObj_type (wpAny_newFunctionEnv co.cell (by intro y hy; cases hy) (fun h₁ Br AZ=>?_) co.kind);dsimp only at Br AZ ⊢;generalize IQ:s2.heap.push { cls:=.type "dict",dict:=none,data:=.dict #[] } = HH at Br AZ ⊢;have Bn:HH.objs.size=s2.heap.objs.size + 1:=by rw [<-IQ,Z6]
 have old:∀ b o,s2.heap.get? b=some o->h₁.get? b=some o:=fun b o e=>
  AZ.extBut b o (YX (by rw [Bn]; exact Zq (YV e))) (YK _ (IQ ▸ YK _ e))
 have newD:A5 X.prog X.w (upd H2 s2.heap.objs.size (.dK [])) h₁ s2.heap.objs.size (.dK []):=
  let ⟨z,hd,vs,rel,o,es,ep,ho,r⟩:=Jb (P:=X.prog) (w:=X.w) (H:=upd H2 s2.heap.objs.size (.dK [])) s2.heap I2.big
  ⟨z,hd,vs,rel,o,es,ep,AZ.extBut _ _ (YX (by rw [Bn]; exact Zw _)) (YK _ (IQ ▸ ho)),r⟩
 obtain ⟨W,⟨m0,w0⟩,turn⟩:=hW s2.heap.objs.size I2.fresh;have hfo:∀ b ∈ fp,∃ o,s2.heap.get? b=some o:=fun b hb=>let ⟨o,e,_⟩:=T.obj _ _ Ff b hb; ⟨o,e⟩
 have I3:An (Ao X scope cl N s2 H2 HH.objs.size fp) [] (σ0 σ) (upd H2 s2.heap.objs.size (.dK [])) { s2 with heap:=h₁,toks:=s2.toks + ([]:List (Str × Value)).length }:=
  EI I2 f2 hfo co (hσ σ I.len) old (YO _) (by rw [Bn]; exact Z0 _) (ZD (by rw [Bn]; exact Zw _)) newD Br
 have fC:s2.heap.objs.size<=HH.objs.size:=by rw [Bn]; exact Z0 _
 obtain ⟨hg,ht,hk,hv⟩:=hb s2 H2 HH.objs.size fp;have loop:∀ BU:Shared,BU = { s2 with heap:=h₁,toks:=s2.toks + ([]:List (Str × Value)).length } ->
   codeAny (model X.prog X.w) X.A (.compLoop (.DictComp kx vx [⟨tg,iter,ifs,0⟩] scope pos) 0 (.ref it) (.ref s2.heap.objs.size) (compEnvC scope cl HH.objs.size X.env))
    (compPost (model X.prog X.w) X.A X.xe (some (assign (.Name x px) X.env)) (fun _ s'=>SP X pins DD .next s') (.ref s2.heap.objs.size) HH.objs.size) BU:=by
  rintro BU rfl;have stat:∀ {H':Hp} ,(∀ b ∈ fp,H' b=none)->∀ b ∈ fp,DG (Ao X scope cl N s2 H2 HH.objs.size fp) [] H' b:=fun hn b hb=>by
   refine ⟨hn b hb,?_,?_,.inl hb,?_,fun p hp=>by cases hp⟩
   ·obtain ⟨o,e⟩:=hfo b hb;exact YX (show b < HH.objs.size by rw [Bn]; exact Zq (YV e))
   ·intro hz;obtain ⟨_,q1,q2,_⟩:=f2 b hb;rcases YM.mp (I2.stkSub b hz) with e | e
    ·exact q1 e
    ·exact q2 e
   ·exact fun x c e=>(f2 b hb).2.2.2.2.1 x c (co.sub x c e)
  refine BF (fun n s'=>∃ i Aw H',An (Ao X scope cl N s2 H2 HH.objs.size fp) [] Aw H' s'/\tn i s'.heap/\(∀ b ∈ fp,H' b=none)/\W i n Aw H') ?_ m0
   ⟨0,σ0 σ,_,I3,T.keep _ _ _ Ff fun b hb o e=>old b o e,fun b hb=>?_,w0⟩
  ·rintro n s4 ⟨i,FF,H4,I4,LA,Mk,w4⟩;rcases turn i n FF H4 w4 with ⟨stop,qn⟩ | ⟨go,step⟩
   ·refine wpAny_mono (T.done (Ao X scope cl N s2 H2 HH.objs.size fp) rfl rfl rfl hc i [] s4 FF H4 (fun _ _=>False) I4 (stat Mk) LA stop) (fun r s5 ⟨hr,I5⟩=>?_) fun _ _ z=>z.elim
    subst hr;obtain ⟨m5,R4,_⟩:=id I5.loc;have I6:An X pins σ H4 s5:=EJ (h':=s5.heap) I2 f2 fC I5 (Heap.SameBut.refl _ _);have cC:∀ y c,X.env.cells.lookup y=some c->c ≠ HH.objs.size:=fun y c e=>by
     obtain ⟨v,q⟩:=I2.cell y c e;exact YX (YZ q.lt fC)
    have lC:X.env.locals ≠ HH.objs.size:=YX (YZ I2.lt fC);show wpAny _ X.A (assign (.Name x px) X.env (.ref s2.heap.objs.size)) _ X.xe s5
    refine wpAny_assign_Name (EU I6 hN hix hlx (v:=.ref s2.heap.objs.size) rfl (fun s7 I7 ⟨a,sb,ha⟩=>?_) hf);have aC:a ≠ HH.objs.size:=by
     rcases ha with rfl | ha
     ·exact lC
     ·exact cC _ _ ha
    refine ⟨m5,R4.sameBut sb (Ne.symm aC),fun h' Mh=>⟨_,H4,?_,qn⟩⟩;exact I7.turned (t':=s7.toks) (it:=HH.objs.size) (fun b o hb e=>(Mh.2 b hb).trans e) I5.free (Ne.symm lC) (.inr (Zj I2.sz fC)) cC fun p hp z=>by
     have e:=(I2.pin p hp).1;exact absurd (YZ (YV e) fC) (by rw [z]; exact Z5 _)
   ·refine wpAny_mono (T.item (Ao X scope cl N s2 H2 HH.objs.size fp) rfl rfl rfl hc i [] s4 FF H4 (fun _ _=>False) I4 (stat Mk) LA go) (fun r s5 ⟨u,hr,h5⟩=>?_) fun _ _ z=>z.elim
    subst hr;refine wpAny_mono h5 (fun _ s6 ⟨x,H6,I6,r6,y6,HZ,RE⟩=>?_) fun _ _ z=>z.elim
    have RY:=I6.pinned (stat RE) (T.obj _ _ HZ);refine wpAny_mono (hg s6 FF H6 x u _ RY r6 (step x H6 y6)) (fun _ s7 ⟨Er,H7,I7,q7⟩=>?_) fun _ _ z=>z.elim
    refine wpAny_mono (ht s7 Er H7 _ I7 q7) (fun ok s8 ⟨H8,I8,q8⟩=>?_) fun _ _ z=>z.elim
    have again:∀ {s9:Shared} {FE:St} {H9:Hp} ,An (Ao X scope cl N s2 H2 HH.objs.size fp) ([] ++ DA fp s6.heap) FE H9 s9->(∃ m',m' < n/\W (i + 1) m' FE H9)->∃ m,m < n/\∃ i Aw H',An (Ao X scope cl N s2 H2 HH.objs.size fp) [] Aw H' s9/\tn i s9.heap/\(∀ b ∈ fp,H' b=none)/\W i m Aw H':=fun {s9 FE H9} I9 n9=>by
     obtain ⟨m',hm,w9⟩:=n9;refine ⟨m',hm,i + 1,FE,H9,I9.unpinned,T.keep _ _ _ HZ fun b hb o e=>(I9.pin (b,o) (Za _ (Za _ (AR hb e)))).1,fun b hb=>?_,w9⟩;obtain ⟨o,e,d⟩:=T.obj _ _ HZ b hb;exact (I9.pin (b,o) (Za _ (Za _ (AR hb e)))).2.1
    cases ok with
    | false=>
     rw [if_neg Zd] at q8 ⊢;exact again I8 q8
    | true=>
     rw [if_pos rfl] at q8 ⊢;refine wpAny_mono (hk s8 Er H8 _ I8 q8) (fun yk s9 ⟨k,H9,I9,r9,q9⟩=>?_) fun _ _ z=>z.elim
     refine wpAny_mono (hv s9 Er H9 _ I9 q9) (fun yv QN ⟨v,M4,RZ,UJ,kvs,key,ek,hacc,hsz,QU⟩=>?_) fun _ _ z=>z.elim
     subst ek;exact Kk (X:=Ao X scope cl N s2 H2 HH.objs.size fp) RZ hacc hsz r9 UJ fun Uc WG=>again WG QU
  ·have z:=(f2 b hb).1;obtain ⟨o,e⟩:=hfo b hb;rw [Ae (YX (YV e))];exact z
 exact codeAny_compStart_dict (loop _ rfl) (T.self _ 0 _ _ _ (T.keep _ _ _ Ff fun b hb o e=>old b o e) (loop _ rfl))
theorem KA (p x:Str) (r:List Str):risingS p (x :: r)=(!ltCps x.cps.toList p.cps.toList && risingS x r):=rfl
theorem JS:∀ (p:Str) (l:List Str),risingS p l=true->(p :: l).Pairwise fun a b=>¬ b.cps.toList < a.cps.toList
 | p,[],_=>aB _ _
 | p,x :: r,h=>by
  rw [KA,Z3,ltCps_eq] at h;have h1:¬ x.cps.toList < p.cps.toList:=by simpa using h.1
  have h2:=JS x r h.2;refine ZQ.mpr ⟨fun y hy=>?_,h2⟩;rcases YM.mp hy with rfl | hy
  ·exact h1
  ·have h3:=(ZQ.mp h2).1 y hy;have a:p.cps.toList<=x.cps.toList:=aD.mp h1;have b:x.cps.toList<=y.cps.toList:=aD.mp h3;exact aD.mpr (dF a b)
theorem C2 {l:List Str} (h:sortedS l=true):l.Pairwise fun a b=>¬ b.cps.toList < a.cps.toList:=by
 cases l with
 | nil=>exact .nil
 | cons p l=>exact JS p l h
theorem CJ {a b:Str} (h1:¬ b.cps.toList < a.cps.toList) (h2:¬ a.cps.toList < b.cps.toList):a=b:=by
 have e:a.cps.toList=b.cps.toList:=List.le_antisymm (aD.mp h1) (aD.mp h2);cases a; cases b
 simp only [Str.mk.injEq];exact bL.mp e
theorem Gw {l m:List Str} (hl:l.Pairwise fun a b=>¬ b.cps.toList < a.cps.toList) (hm:m.Pairwise fun a b=>¬ b.cps.toList < a.cps.toList) (p:l.Perm m):l=m:=
 List.Perm.eq_of_pairwise (fun a b _ _ h1 h2=>CJ h1 h2) hl hm p
theorem LO {l m:List Str} (hl:l.Nodup) (hm:m.Nodup) (h:∀ x,x ∈ l ↔ x ∈ m):l.Perm m:=(List.perm_ext_iff_of_nodup hl hm).mpr h
def Lr (ws:List AA) (x y:Str):Prop:=∃ u ∈ ws,(u.1=x/\u.2.1=y)\/(u.1=y/\u.2.1=x)
theorem Lr.symm {ws:List AA} {x y:Str} (h:Lr ws x y):Lr ws y x:=let ⟨u,hu,h⟩:=h; ⟨u,hu,h.symm⟩
theorem DO (u:AA):(E8 u).1=u.1/\(E8 u).2.1=u.2.1\/(E8 u).1=u.2.1/\(E8 u).2.1=u.1:=by
 unfold E8 BP BQ;by_cases h:u.2.1.cps.toList < u.1.cps.toList
 ·have h':¬ u.1.cps.toList < u.2.1.cps.toList:=aY h;rw [if_pos h,if_neg h'];exact .inr ⟨rfl,rfl⟩
 ·rw [if_neg h];by_cases h':u.1.cps.toList < u.2.1.cps.toList
  ·rw [if_pos h']; exact .inl ⟨rfl,rfl⟩
  ·rw [if_neg h'];have e:u.1=u.2.1:=CJ h h';exact .inl ⟨rfl,e⟩
theorem RU {ws Qs:List AA} (p:Qs.Perm (ws.map E8)) (x y:Str):Lr Qs x y ↔ Lr ws x y:=by
 constructor
 ·rintro ⟨u,hu,h⟩;obtain ⟨v,hv,rfl⟩:=YT.mp (p.mem_iff.mp hu);refine ⟨v,hv,?_⟩;rcases DO v with ⟨e1,e2⟩ | ⟨e1,e2⟩
  ·rw [e1,e2] at h; exact h
  ·rw [e1,e2] at h;rcases h with ⟨a,b⟩ | ⟨a,b⟩
   ·exact .inr ⟨b,a⟩
   ·exact .inl ⟨b,a⟩
 ·rintro ⟨v,hv,h⟩;refine ⟨E8 v,p.mem_iff.mpr (YT.mpr ⟨v,hv,rfl⟩),?_⟩;rcases DO v with ⟨e1,e2⟩ | ⟨e1,e2⟩
  ·rw [e1,e2]; exact h
  ·rw [e1,e2];rcases h with ⟨a,b⟩ | ⟨a,b⟩
   ·exact .inr ⟨b,a⟩
   ·exact .inl ⟨b,a⟩
theorem Ki {xs:List Str} {ws Qs:List AA} (p:Qs.Perm (ws.map E8)) (h:∀ u ∈ ws,u.1 ∈ xs/\u.2.1 ∈ xs):∀ u ∈ Qs,u.1 ∈ xs/\u.2.1 ∈ xs:=fun u hu=>by
 obtain ⟨v,hv,rfl⟩:=YT.mp (p.mem_iff.mp hu);obtain ⟨a,b⟩:=h v hv;rcases DO v with ⟨e1,e2⟩ | ⟨e1,e2⟩ <;> rw [e1,e2]
 ·exact ⟨a,b⟩
 ·exact ⟨b,a⟩
def Ll (xs:List Str) (ws:List AA):Prop:=∀ j,0 < j->j < xs.length->∃ u ∈ ws,∃ i:Nat,i < j/\xs[i]? = some u.1/\xs[j]? = some u.2.1
theorem Ll.all {xs:List Str} {ws:List AA} (h:Ll xs ws) (S:Str->Prop) (cl:∀ x y,Lr ws x y->S x->S y) {r:Str} (hr:r ∈ xs) (sr:S r):∀ x ∈ xs,S x:=by
 have down:∀ n (i:Nat),i<=n->∀ x,xs[i]? = some x->S x->∀ x0,xs[0]? = some x0->S x0:=by
  intro n;induction n with
  | zero=>
   intro i hi x e s x0 e0;have:i=0:=by lia
   subst this;rw [e] at e0; cases e0; exact s
  | succ n ih=>
   intro i hi x e s x0 e0;by_cases hz:i=0
   ·subst hz;rw [e] at e0; cases e0; exact s
   ·obtain ⟨u,hu,k,hk,e1,e2⟩:=h i (by lia) (YQ.mp e).1;rw [e] at e2; cases e2;exact ih k (by lia) u.1 e1 (cl _ _ ⟨u,hu,.inr ⟨rfl,rfl⟩⟩ s) x0 e0
 have up:∀ x0,xs[0]? = some x0->S x0->∀ n (i:Nat),i<=n->∀ x,xs[i]? = some x->S x:=by
  intro x0 e0 s0 n;induction n with
  | zero=>
   intro i hi x e;have:i=0:=by lia
   subst this;rw [e0] at e; cases e; exact s0
  | succ n ih=>
   intro i hi x e;by_cases hz:i=0
   ·subst hz;rw [e0] at e; cases e; exact s0
   ·obtain ⟨u,hu,k,hk,e1,e2⟩:=h i (by lia) (YQ.mp e).1;rw [e] at e2; cases e2;exact cl _ _ ⟨u,hu,.inl ⟨rfl,rfl⟩⟩ (ih k (by lia) u.1 e1)
 intro x hx;obtain ⟨i,hi,e⟩:=Zh hr;obtain ⟨j,hj,e'⟩:=Zh hx;have h0:xs[0]? = some xs[0]:=YJ (by lia);have s0:S xs[0]:=down i i (YO _) r (by rw [YJ hi,e]) sr _ h0;exact up _ h0 s0 j j (YO _) x (by rw [YJ hj,e'])
section
variable {ws:List AA} {r:Str} {bs cs:List (Str × Option Str)}
theorem Qt {α β:Type} {l:List (α × β)} (h:(l.map (·.1)).Nodup) {x:α} {a b:β} (ha:(x,a) ∈ l) (hb:(x,b) ∈ l):a=b:=by
 induction l with
 | nil=>cases ha
 | cons p l ih=>
  rw [Zb] at h;obtain ⟨h1,h2⟩:=Zu.mp h;have key:∀ c,(x,c) ∈ l->p.1 ≠ x:=fun c hc z=>h1 (by rw [z]; exact YT.mpr ⟨(x,c),hc,rfl⟩)
  rcases YM.mp ha with e | ha1
  ·rcases YM.mp hb with e' | Wx
   ·rw [<-e] at e'; cases e'; rfl
   ·exact absurd (by rw [<-e]) (key b Wx)
  ·rcases YM.mp hb with e' | Wx
   ·exact absurd (by rw [<-e']) (key a ha1)
   ·exact ih h2 ha1 Wx
end
section
variable {ws:List AA} {r:Str} {wk:List (Str × List Str)}
end
theorem Ez {H2 H3:Hp} {vs:List V} {ws:List AA} (h:AY H2 vs (ws.map Kx)) (ht:∀ b xs,H2 b=some (.tup xs)->H3 b=some (.tup xs)):AY H3 vs (ws.map Kx):=by
 induction ws generalizing vs with
 | nil=>cases h; exact .nil
 | cons u ws ih=>
  cases h with
  | cons h1 r=>
   refine .cons ?_ (ih r);cases h1 with
   | tup ha hd=>
    refine .tup (ht _ _ ha) ?_;cases hd with
    | cons h1 r1=>
     cases r1 with
     | cons h2 r2=>
      cases r2 with
      | cons h3 r3=>
       cases r3
       cases h1
       cases h2
       cases h3
       exact .cons (.str _) (.cons (.str _) (.cons (.int _) .nil))
theorem FY {α:Type} {l:List α} (h:l.Nodup) {i j:Nat} {x:α} (a:l[i]? = some x) (b:l[j]? = some x):i=j:=
 (List.getElem?_inj (YQ.mp a).1 h).mp (a.trans b.symm)
def sK (nv:List (Str × V)):List (A7 × V):=nv.map fun q=>(Sum.inr q.1,q.2)
theorem CT (nv:List (Str × V)):(sK nv).length=nv.length:=YI ..
theorem K8 (nv:List (Str × V)):(sK nv).map (·.1)=(nv.map (·.1)).map Sum.inr:=by unfold sK; rw [Zt,Zt]; rfl
theorem UD (a b:List (Str × V)):sK (a ++ b)=sK a ++ sK b:=YY ..
theorem K7:∀ {nv:List (Str × V)} {y:Str},y ∉ nv.map (·.1)->Bu (sK nv) (Sum.inr y:A7)=none
 | [],y,_=>rfl
 | q :: nv,y,h=>by
  rw [Zb,YM,not_or] at h;show Bu ((Sum.inr q.1,q.2) :: sK nv) (Sum.inr y:A7)=none
  rw [Dl (fun z=>h.1 (Sum.inr.inj z).symm)];exact K7 h.2
theorem CD:∀ {nv:List (Str × V)} {y:Str} {v:V},(nv.map (·.1)).Nodup->(y,v) ∈ nv->Bu (sK nv) (Sum.inr y:A7)=some v
 | [],y,v,_,h=>nomatch h
 | q :: nv,y,v,hn,h=>by
  rw [Zb] at hn;obtain ⟨h1,h2⟩:=Zu.mp hn;show Bu ((Sum.inr q.1,q.2) :: sK nv) (Sum.inr y:A7)=some v
  rcases YM.mp h with e | h'
  ·subst e;exact DI rfl
  ·rw [Dl (fun z=>h1 (by rw [Sum.inr.inj z]; exact YT.mpr ⟨(y,v),h',rfl⟩))];exact CD h2 h'
theorem Hk {nv:List (Str × V)} {y:Str}:(Bu (sK nv) (Sum.inr y:A7)).isSome=decide (y ∈ nv.map (·.1)):=by
 by_cases h:y ∈ nv.map (·.1)
 ·rw [decide_eq_true h];cases e:Bu (sK nv) (Sum.inr y:A7) with
  | some v=>rfl
  | none=>
   have:=Qu e;rw [K8] at this;exact absurd (YT.mpr ⟨y,h,rfl⟩) this
 ·rw [decide_eq_false h,K7 h]; rfl
theorem D9 {nv:List (Str × V)} {y:Str} {v:V} (h:y ∉ nv.map (·.1)):Bg (sK nv) (Sum.inr y:A7) v=sK (nv ++ [(y,v)]):=by
 rw [Ik v (K7 h),UD]; rfl
theorem MJ (nv:List (Str × V)) (y:Str) (v:V):∃ DN,Bg (sK nv) (Sum.inr y:A7) v=sK DN/\DN.length<=nv.length + 1/\∀ z,z ∈ DN.map (·.1) ↔ z ∈ nv.map (·.1)\/z=y:=by
 by_cases h:y ∈ nv.map (·.1)
 ·refine ⟨nv.map fun q=>if q.1=y then (q.1,v) else q,?_,by rw [YI]; lia,fun z=>?_⟩
  ·unfold Bg;have:((sK nv).any fun kv=>decide (kv.1=(Sum.inr y:A7)))=true:=by
    rw [CI,Hk,decide_eq_true h]
   rw [if_pos this];unfold sK;rw [Zt,Zt];refine aO fun q _=>?_
   by_cases e:q.1=y
   ·simp [e]
   ·have e':¬ (Sum.inr q.1:A7)=Sum.inr y:=fun z=>e (Sum.inr.inj z)
    simp [e,e']
  ·have e:(nv.map fun q=>if q.1=y then (q.1,v) else q).map (·.1)=nv.map (·.1):=by
    rw [Zt];refine aO fun q _=>?_
    by_cases e:q.1=y <;> simp [e]
   rw [e];constructor
   ·exact .inl
   ·rintro (q | rfl)
    ·exact q
    ·exact h
 ·refine ⟨nv ++ [(y,v)],D9 h,by simp,fun z=>by simp⟩
theorem TZ {nv:List (Str × V)} {i:Nat} {k:A7} {v:V} (h:(sK nv)[i]? = some (k,v)):∃ y,nv[i]? = some (y,v)/\k=.inr y:=by
 unfold sK at h;rw [YS] at h;cases e:nv[i]? with
 | none=>rw [e] at h; cases h
 | some q=>
  rw [e] at h;simp only [cW,Zf.injEq,Prod.mk.injEq] at h;exact ⟨q.1,by rw [<-h.2],h.1.symm⟩
structure Web (H:Hp) (q:Addr) (ps:List Str) (ws:List AA):Prop where
 ex:∃ tp tw us,H q=some (.tup [.ref tp,.ref tw])/\H tp=some (.tup (ps.map V.str))/\H tw=some (.tup us)/\AY H us (ws.map Kx)
theorem Web.same {H H':Hp} {q:Addr} {ps:List Str} {ws:List AA} (h:Web H q ps ws) (s:∀ b xs,H b=some (.tup xs)->H' b=some (.tup xs)):Web H' q ps ws:=by
 obtain ⟨tp,tw,us,h1,h2,h3,h4⟩:=h.ex;exact ⟨tp,tw,us,s _ _ h1,s _ _ h2,s _ _ h3,Ez h4 s⟩
def Oe (ps:List Str) (ds:List Addr):List (Str × V):=(ps.zip ds).map fun q=>(q.1,V.ref q.2)
theorem IB {ps:List Str} {ds:List Addr} (h:ps.length<=ds.length):(Oe ps ds).map (·.1)=ps:=by
 unfold Oe;rw [Zt];have:((fun (x:Str × V)=>x.1) ∘ fun (q:Str × Addr)=>(q.1,V.ref q.2))=Prod.fst:=rfl;rw [this,List.map_fst_zip h]
theorem Od {ps:List Str} {ds:List Addr} {i:Nat} {p:Str} {d:Addr} (h1:ps[i]? = some p) (h2:ds[i]? = some d):(p,V.ref d) ∈ Oe ps ds:=by
 unfold Oe;refine YT.mpr ⟨(p,d),YN (i:=i) ?_,rfl⟩;rw [List.getElem?_zip_eq_some];exact ⟨h1,h2⟩
structure NB (H:Hp) (B:Addr) (ps:List Str) (ds:List Addr) (P:Str->Str->Prop) (n:Nat):Prop where
 top:H B=some (.dK (sK (Oe ps ds)))
 len:ds.length=ps.length
 nd:ds.Nodup
 nB:B ∉ ds
 inner:∀ (i:Nat) (p:Str) (d:Addr),ps[i]? = some p->ds[i]? = some d->∃ nv:List (Str × V),H d=some (.dK (sK nv))/\nv.length<=n/\∀ y,y ∈ nv.map (·.1) ↔ P p y
theorem NB.get {H:Hp} {B:Addr} {ps:List Str} {ds:List Addr} {P:Str->Str->Prop} {n:Nat} (h:NB H B ps ds P n) (hn:ps.Nodup) {p:Str} (hp:p ∈ ps) :
  ∃ (i:Nat) (d:Addr) (nv:List (Str × V)),ps[i]? = some p/\ds[i]? = some d/\Bu (sK (Oe ps ds)) (Sum.inr p:A7)=some (.ref d)/\H d=some (.dK (sK nv))/\nv.length<=n/\∀ y,y ∈ nv.map (·.1) ↔ P p y:=by
 obtain ⟨i,hi,e⟩:=Zh hp;have e1:ps[i]? = some p:=by rw [YJ hi,e]
 have Qm:i < ds.length:=by rw [h.len]; exact hi
 have e2:ds[i]? = some ds[i]:=YJ Qm;obtain ⟨nv,a1,a2,a3⟩:=h.inner i p _ e1 e2;refine ⟨i,_,nv,e1,e2,CD ?_ (Od e1 e2),a1,a2,a3⟩;rw [IB (by rw [h.len]; exact YO _)];exact hn
theorem NB.put {H:Hp} {B:Addr} {ps:List Str} {ds:List Addr} {P:Str->Str->Prop} {n:Nat} (h:NB H B ps ds P n) {i:Nat} {p y:Str} {d:Addr} (hn:ps.Nodup) (e1:ps[i]? = some p) (e2:ds[i]? = some d) {nv DN:List (Str × V)} (hd:H d=some (.dK (sK nv)))
  (hl:DN.length<=nv.length + 1) (hk:∀ z,z ∈ DN.map (·.1) ↔ z ∈ nv.map (·.1)\/z=y) (hP:∀ z,z ∈ nv.map (·.1) ↔ P p z) (hln:nv.length<=n):NB (upd H d (.dK (sK DN))) B ps ds (fun a b=>P a b\/(a=p/\b=y)) (n + 1):=by
 have dm:d ∈ ds:=YN e2;refine ⟨by rw [Ae (fun z=>h.nB (by rw [z]; exact dm))]; exact h.top,h.len,h.nd,h.nB,fun j q c f1 f2=>?_⟩;by_cases z:c=d
 ·subst z;have ij:i=j:=FY h.nd e2 f2;subst ij;rw [e1] at f1; cases f1;refine ⟨DN,Ab,by lia,fun z=>?_⟩;rw [hk,hP];simp
 ·obtain ⟨nw,b1,b2,b3⟩:=h.inner j q c f1 f2;refine ⟨nw,by rw [Ae z]; exact b1,by lia,fun y'=>?_⟩;rw [b3];have:q ≠ p:=by
   rintro rfl;have ij:=FY hn e1 f1;subst ij;rw [e2] at f2; cases f2;exact z rfl
  simp [this]
theorem NB.mono {H:Hp} {B:Addr} {ps:List Str} {ds:List Addr} {P P':Str->Str->Prop} {n m:Nat} (h:NB H B ps ds P n) (hP:∀ a b,P a b ↔ P' a b) (hn:n<=m):NB H B ps ds P' m:=
 ⟨h.top,h.len,h.nd,h.nB,fun i p d e1 e2=>let ⟨nv,a1,a2,a3⟩:=h.inner i p d e1 e2; ⟨nv,a1,by lia,fun y=>(a3 y).trans (hP p y)⟩⟩
structure Jm (H:Hp) (q:Addr) (ps:List Str) (ws:List AA) (r:Str):Prop where
 web:Web H q ps ws
 nd:ps.Nodup
 l30:ps.length<=30
 l64:ws.length < 64
 ends:∀ u ∈ ws,u.1 ∈ ps/\u.2.1 ∈ ps
 first:ps[0]? = some r
 con:∀ S:Str->Prop,S r->(∀ x y,Lr ws x y->S x->S y)->∀ x ∈ ps,S x
theorem Jm.same {H H':Hp} {q:Addr} {ps:List Str} {ws:List AA} {r:Str} (h:Jm H q ps ws r) (s:Av H H'):Jm H' q ps ws r:=
 ⟨h.web.same fun b xs z=>s _ _ z,h.nd,h.l30,h.l64,h.ends,h.first,h.con⟩
theorem RT {ws:List AA} {i:Nat} {u:AA} (h:ws[i]? = some u) (a b:Str):Lr (ws.take (i + 1)) a b ↔ (Lr (ws.take i) a b\/(a=u.1/\b=u.2.1))\/(a=u.2.1/\b=u.1):=by
 rw [Zk,h];constructor
 ·rintro ⟨v,hv,e⟩;rcases Zl.mp hv with hv | hv
  ·exact .inl (.inl ⟨v,hv,e⟩)
  ·have:v=u:=by simpa using hv
   subst this;rcases e with ⟨e1,e2⟩ | ⟨e1,e2⟩
   ·exact .inl (.inr ⟨e1.symm,e2.symm⟩)
   ·exact .inr ⟨e2.symm,e1.symm⟩
 ·rintro ((⟨v,hv,e⟩ | ⟨rfl,rfl⟩) | ⟨rfl,rfl⟩)
  ·exact ⟨v,ZN _ hv,e⟩
  ·exact ⟨u,Za _ (by simp),.inl ⟨rfl,rfl⟩⟩
  ·exact ⟨u,Za _ (by simp),.inr ⟨rfl,rfl⟩⟩
structure NR (H:Hp) (B:Addr) (ps:List Str) (ds:List Addr) (P:Str->Str->Prop):Prop where
 top:H B=some (.dK (sK (Oe ps ds)))
 len:ds.length=ps.length
 nd:ds.Nodup
 nB:B ∉ ds
 inner:∀ (i:Nat) (p:Str) (d:Addr),ps[i]? = some p->ds[i]? = some d->∃ nv:List (Str × V),Rd H d (.dK (sK nv))/\∀ y,y ∈ nv.map (·.1) ↔ P p y
theorem NB.r {H:Hp} {B:Addr} {ps:List Str} {ds:List Addr} {P:Str->Str->Prop} {n:Nat} (h:NB H B ps ds P n):NR H B ps ds P:=
 ⟨h.top,h.len,h.nd,h.nB,fun i p d e1 e2=>let ⟨nv,a1,_,a3⟩:=h.inner i p d e1 e2; ⟨nv,.inl a1,a3⟩⟩
theorem NR.get {H:Hp} {B:Addr} {ps:List Str} {ds:List Addr} {P:Str->Str->Prop} (h:NR H B ps ds P) (hn:ps.Nodup) {p:Str} (hp:p ∈ ps) :
  ∃ (i:Nat) (d:Addr) (nv:List (Str × V)),ps[i]? = some p/\ds[i]? = some d/\Bu (sK (Oe ps ds)) (Sum.inr p:A7)=some (.ref d)/\Rd H d (.dK (sK nv))/\∀ y,y ∈ nv.map (·.1) ↔ P p y:=by
 obtain ⟨i,hi,e⟩:=Zh hp;have e1:ps[i]? = some p:=by rw [YJ hi,e]
 have Qm:i < ds.length:=by rw [h.len]; exact hi
 have e2:ds[i]? = some ds[i]:=YJ Qm;obtain ⟨nv,a1,a3⟩:=h.inner i p _ e1 e2;refine ⟨i,_,nv,e1,e2,CD ?_ (Od e1 e2),a1,a3⟩;rw [IB (by rw [h.len]; exact YO _)];exact hn
theorem Rd.ne {H:Hp} {a b:Addr} {u o:HO} (h:Rd H a u) (hb:a ≠ b):Rd (upd H b o) a u:=by
 rcases h with h | ⟨ob,h⟩
 ·exact .inl (by rw [Ae hb]; exact h)
 ·exact .inr ⟨ob,by rw [Ae hb]; exact h⟩
theorem Rd.fz {H H':Hp} {a b:Addr} {u:HO} {kvs:List (A7 × V)} {o:Obj} (h:Rd H a u) (f:Ep H b kvs o H') (hb:a ≠ b):Rd H' a u:=by
 rcases h with h | ⟨ob,h⟩
 ·exact .inl (by rw [f.ne hb]; exact h)
 ·exact .inr ⟨ob,by rw [f.ne hb]; exact h⟩
theorem NR.other {H:Hp} {B a:Addr} {ps:List Str} {ds:List Addr} {P:Str->Str->Prop} {o:HO} (h:NR H B ps ds P) (ha:a ∉ ds) (hB:a ≠ B):NR (upd H a o) B ps ds P:=
 ⟨by rw [Ae (Ne.symm hB)]; exact h.top,h.len,h.nd,h.nB,fun i p d e1 e2=>let ⟨nv,a1,a3⟩:=h.inner i p d e1 e2
  ⟨nv,a1.ne (fun z=>ha (by rw [<-z]; exact YN e2)),a3⟩⟩
theorem NR.freeze {H H':Hp} {B:Addr} {ps:List Str} {ds:List Addr} {P:Str->Str->Prop} (h:NR H B ps ds P) {i:Nat} {p:Str} {d:Addr} (e1:ps[i]? = some p) (e2:ds[i]? = some d) {nv:List (Str × V)} {o:Obj} (f:Ep H d (sK nv) o H') (hP:∀ y,y ∈ nv.map (·.1) ↔ P p y):NR H' B ps ds P:=by
 have dm:d ∈ ds:=YN e2;refine ⟨by rw [f.ne (fun z=>h.nB (by rw [z]; exact dm))]; exact h.top,h.len,h.nd,h.nB,fun j q c f1 f2=>?_⟩;by_cases z:c=d
 ·subst z;have ij:i=j:=FY h.nd e2 f2;subst ij;rw [e1] at f1; cases f1;exact ⟨nv,.inr ⟨o,f.at⟩,hP⟩
 ·obtain ⟨nw,b1,b3⟩:=h.inner j q c f1 f2;exact ⟨nw,b1.fz f z,b3⟩
theorem SE {nv DN:List (Str × V)} {y:Str} {v:V} (e:Bg (sK nv) (Sum.inr y:A7) v=sK DN) (hn:(nv.map (·.1)).Nodup):(DN.map (·.1)).Nodup:=by
 have inj:∀ {a b:List (Str × V)},(sK a).map (·.1)=(sK b).map (·.1)->a.map (·.1)=b.map (·.1):=fun {a b} h=>by
  rw [K8,K8] at h;exact cR (fun x y z=>Sum.inr.inj z) |>.mp h
 by_cases h:y ∈ nv.map (·.1)
 ·have e2:(Bg (sK nv) (Sum.inr y:A7) v).map (·.1)=(sK nv).map (·.1):=by
   unfold Bg;have:((sK nv).any fun kv=>decide (kv.1=(Sum.inr y:A7)))=true:=by rw [CI,Hk,decide_eq_true h]
   rw [if_pos this,Zt];refine aO fun q _=>?_
   by_cases e:q.1=(Sum.inr y:A7) <;> simp [e]
  rw [e] at e2;rw [inj e2];exact hn
 ·rw [D9 h] at e;have e2:(nv ++ [(y,v)]).map (·.1)=DN.map (·.1):=inj (by rw [e]);rw [<-e2,YY];refine Z4.mpr ⟨hn,Zu.mpr ⟨by simp,.nil⟩,fun a ha b hb=>?_⟩;have e3:b=y:=by simpa using hb
  subst e3;rintro rfl;exact h ha
section
variable {ws:List AA} {r:Str} {bs:List (Str × Option Str)} {wk:List (Str × List Str)} {ps:List Str}
end
theorem G7 {α:Type} {l:List (Str × α)} (h:(l.map (·.1)).Nodup) (f:Str × α->Bool):((l.filter f).map (·.1)).Nodup:=by
 have s:List.Sublist ((l.filter f).map (·.1)) (l.map (·.1)):=List.Sublist.map _ ax;exact s.nodup h
theorem An.thaw {X:Cx} {pins:List (Addr × Obj)} {σ:St} {H:Hp} {s:Shared} {a:Addr} {o:Obj} {u:HO} (I:An X pins σ H s) (e:H a=some (.frz o u)) (h0:∀ ob w,X.H₀ a ≠ some (.frz ob w)) (hu:u ≠ .own a/\∀ xs,u ≠ .tup xs):An X pins σ (upd H a u) s:=by
 obtain ⟨ho,hok⟩:=(show A5 X.prog X.w H s.heap a (.frz o u) from I.hok a _ e)
 have nn:∀ b,H b=none->b ≠ a:=fun b hb z=>by rw [z,e] at hb; cases hb
 have own:∀ b y,H b=some (.own y)->b ≠ a:=fun b y hb z=>by rw [z,e] at hb; cases hb
 have tup:∀ b xs,H b=some (.tup xs)->b ≠ a:=fun b xs hb z=>by rw [z,e] at hb; cases hb
 refine ⟨I.ok,I.os,I.bare,⟨I.base.keep,I.base.slot,fun b ob q n hx=>?_,I.base.there,fun b xs q=>?_,fun b ob w q=>?_,fun b ps q=>?_⟩,I.loc,I.cell,?_,fun x c q=>?_,fun p hp=>?_,fun b w q=>?_,I.len⟩
 ·have z:=I.base.free b ob q n hx;rw [Ae (nn b z)]; exact z
 ·have z:=I.base.tups b xs q;rw [Ae (tup b xs z)]; exact z
 ·have z:=I.base.frzs b ob w q;by_cases hb:b=a
  ·subst hb; exact absurd q (h0 ob w)
  ·rw [Ae hb]; exact z
 ·obtain ⟨more,z⟩:=I.base.tbls b ps q;refine ⟨more,?_⟩;rw [Ae (fun hb=>by rw [hb,e] at z; cases z)]; exact z
 ·rw [Ae (nn _ I.free)]; exact I.free
 ·rw [Ae (nn _ (I.freeC x c q))]; exact I.freeC x c q
 ·obtain ⟨z1,z2,z3⟩:=I.pin p hp;exact ⟨z1,by rw [Ae (nn _ z2)]; exact z2,z3⟩
 ·by_cases hb:b=a
  ·subst hb;rw [Ab] at q;cases q
   exact hok.stay (fun c v _ z=>z) (fun c z=>by rw [Ae (own c _ z)]; exact z) fun c xs z=>by rw [Ae (tup c xs z)]; exact z
  ·rw [Ae hb] at q;exact (I.hok b w q).stay (fun c v _ z=>z) (fun c z=>by rw [Ae (own c _ z)]; exact z) fun c xs z=>by rw [Ae (tup c xs z)]; exact z
theorem SO {X:Cx} {e:Expr} {t:TE} (h:PE X e t):PE X e (fun σ H Q=>t σ H fun x H1=>∃ a o kvs,H1 a=some (.frz o (.dK kvs))/\(∀ ob w,X.H₀ a ≠ some (.frz ob w))/\Q x (upd H1 a (.dK kvs))):=by
 intro pins s σ H Q I q;refine Bj (h (pins:=pins) s σ H _ I q) fun v s1 ⟨x,H1,I1,r1,a,o,kvs,e1,h0,q1⟩=>?_
 exact ⟨x,_,I1.thaw e1 h0 ⟨(by intro z; cases z),(by intro xs z; cases z)⟩,r1,q1⟩
def CA (A:Around) (s:Shared) (x y:Value) (b:Bool):Prop:=∀ (prog:Program) (w:World) (E Q:Value->Shared->Prop),Q (.bool b) s->wpAny (model prog w) A (richCompare .Lt x y) Q E s
theorem CA.int (A:Around) (s:Shared) (a:Int) (t:Tok) (c:Int) (u:Tok):CA A s (.int a t) (.int c u) (decide (a < c)):=fun prog w E Q h=>
 (PyProof.Rows.lt_int h:wpAny (model prog w) A (compareOp .Lt (.int a t) (.int c u)) Q E s)
theorem CA.str (A:Around) (s:Shared) (a:Str) (t:Tok) (c:Str) (u:Tok):CA A s (.str a t) (.str c u) (decide (a.cps.toList < c.cps.toList)):=fun prog w E Q h=>
 (PySem.P.lt_str h:wpAny (model prog w) A (compareOp .Lt (.str a t) (.str c u)) Q E s)
section
open PySem.SeqAt
open PySem.AutoSeq1 (wpAny_loadPart')
open PySem.MeetsSeq PySem.MeetsSeq2 PySem.MeetsSeq3
theorem OH (l b:Addr) (x1 x2 y1 y2:Value) (n n2:Nat) (dd O2:Option Addr) (sl Qj:Array (Option Value)) (e1 b1 e2 b2:Bool) :
  Meets (Builtin.«tuple.__lt__» ⟨[.ref l,.ref b],[]⟩)
   (fun A R s=>s.heap.get? l=some { cls:=.type "tuple",dict:=dd,data:=.seq #[x1,x2] n,slots:=sl }/\s.heap.get? b=some { cls:=.type "tuple",dict:=O2,data:=.seq #[y1,y2] n2,slots:=Qj } /\
    EqAt A.in1 s x1 y1 e1/\(e1=false->CA A.in1 s x1 y1 b1)/\(e1=true->EqAt A.in1 s x2 y2 e2/\(e2=false->CA A.in1 s x2 y2 b2)) /\
    R (.ok (.ret (.bool (if e1=true then (if e2=true then false else b2) else b1)))) s):=
 .of_wp fun prog w A R s h=>by
  obtain ⟨hp,g,d,tk,os⟩:=s; obtain ⟨hl,hb,he1,V9,h2,h⟩:=h;have f2:=AutoSeq1.sub_tuple_tuple;wp_walk using wpAny_loadPart' hl,wpAny_loadPart' hb,wpAny_forIn_list _ (fun C6 b s'=>b.1=none/\s'=⟨hp,g,d,tk,os⟩/\(C6=[(x1,y1),(x2,y2)]\/(C6=[(x2,y2)]/\e1=true)\/(C6=[]/\e1=true/\e2=true))) _
  case turn=>
   rintro ⟨y,x⟩ C6 b s' ⟨Fu,rfl,hz | ⟨hz,h1⟩ | ⟨hz,_⟩⟩
   ·cases hz
    refine wpAny_bind (he1 prog w _ _ ?_);cases ee:e1 with
    | true=>
     wp_walk
     exact ⟨rfl,rfl,.inr (.inl ⟨rfl,rfl⟩)⟩
    | false=>
     rw [ee,if_neg Zd] at h;have hri:=V9 ee prog w;wp_walk using hri;exact ⟨_,rfl,by simpa using h⟩
   ·cases hz
    obtain ⟨he2,Ql⟩:=h2 h1;rw [if_pos h1] at h;refine wpAny_bind (he2 prog w _ _ ?_);cases ee:e2 with
    | true=>
     wp_walk
     exact ⟨rfl,rfl,.inr (.inr ⟨rfl,h1,rfl⟩)⟩
    | false=>
     rw [ee,if_neg Zd] at h;have hri:=Ql ee prog w;wp_walk using hri;exact ⟨_,rfl,by simpa using h⟩
   ·cases hz
  case fin=>
   rintro ⟨b1',b2'⟩ s' ⟨Fu,rfl,hz | ⟨hz,h1⟩ | ⟨hz,h1,Sl⟩⟩
   ·cases hz
   ·cases hz
   ·simp only at Fu;subst Fu;rw [if_pos h1,if_pos Sl] at h;wp_walk;exact ⟨_,rfl,by simpa [Builtin.Tuple.tupleCompareSizes] using h⟩
  case h=>
   exact ⟨rfl,rfl,.inl rfl⟩
end
theorem CA.tup2 {A:Around} {s:Shared} {l b:Addr} {x1 x2 y1 y2:Value} {e1 b1 e2 b2:Bool} (hl:IsTup s.heap l #[x1,x2]) (hb:IsTup s.heap b #[y1,y2]) (hu:A.units < cLine) (h1:SeqAt.EqAt A.in1 s x1 y1 e1) (l1:e1=false->CA A.in1 s x1 y1 b1)
  (h2:e1=true->SeqAt.EqAt A.in1 s x2 y2 e2/\(e2=false->CA A.in1 s x2 y2 b2)):CA A s (.ref l) (.ref b) (if e1=true then (if e2=true then false else b2) else b1):=fun prog w E Q h=>by
 obtain ⟨⟨cls,dd,data,sl⟩,ho,hc,n,hd⟩:=id hl;obtain ⟨⟨Vq,O2,data2,Qj⟩,Mi,R8,n2,hd2⟩:=id hb;simp only at hc hd R8 hd2;subst hc hd R8 hd2;exact richCompare_meets_room (op:=.Lt) ⟨_,ho,rfl⟩ ⟨_,Mi,rfl⟩ PySem.F.slot_tuple_lt PySem.F.entry_tuple_lt (PySem.F.args_tuple_lt_2 _ _) (OH l b x1 x2 y1 y2 n n2 dd O2 sl Qj e1 b1 e2 b2)
  ⟨ho,Mi,h1,l1,h2,show Value.bool _ ≠ Value.notImplemented/\Q (.bool _) s from ⟨(fun x=>nomatch x),h⟩⟩ hu
def Sj (p q:Int × Str):Bool:=if (p.1 == q.1)=true then (if (p.2 == q.2)=true then false else decide (p.2.cps.toList < q.2.cps.toList)) else decide (p.1 < q.1)
def DF (h:Heap) (v:Value) (p:Int × Str):Prop:=∃ a t u,v=.ref a/\IsTup h a #[.int p.1 t,.str p.2 u]
theorem DF.keep {h h':Heap} {v:Value} {p:Int × Str} (x:DF h v p) (k:∀ b o,h.get? b=some o->h'.get? b=some o):DF h' v p:=by
 obtain ⟨a,t,u,rfl,o,ho,r⟩:=x;exact ⟨a,t,u,rfl,o,k _ _ ho,r⟩
theorem Og {A:Around} {s:Shared} {v w:Value} {p q:Int × Str} (hv:DF s.heap v p) (hw:DF s.heap w q) (hu:A.units < cLine):CA A s v w (Sj p q):=by
 obtain ⟨a,t,u,rfl,hl⟩:=hv;obtain ⟨b,t',u',rfl,hb⟩:=hw;exact CA.tup2 hl hb hu (SeqAt.EqAt.int_int _ _ _ _) (fun _=>CA.int _ _ _ _ _ _) fun _=>⟨SeqAt.EqAt.str_str _ _ _ _,fun _=>CA.str _ _ _ _ _ _⟩
theorem Tx {A:Around} {s:Shared} {v w:Value} {p q:Int × Str} (hv:DF s.heap v p) (hw:DF s.heap w q) (hu:A.units < cLine):SeqAt.EqAt A s v w (decide (p=q)):=by
 obtain ⟨a,t,u,rfl,hl⟩:=hv;obtain ⟨b,t',u',rfl,hb⟩:=hw;by_cases hab:a=b
 ·subst hab;have e:p=q:=by
   obtain ⟨o,ho,hc,n,hd⟩:=hl;obtain ⟨o',J2,HS,n',M0⟩:=hb;rw [ho] at J2;cases J2
   rw [hd] at M0;injection M0 with e1 e2;have e3:=congrArg bE e1;simp only [aT.injEq,Value.int.injEq,Value.str.injEq] at e3;exact Prod.ext e3.1.1 e3.2.1.1
  rw [decide_eq_true e];intro prog w E Q h;unfold eqBool;refine wpAny_holding ?_;exact wpAny_ite_split (fun _=>wpAny_bind (wpAny_rule (wpAny_pure h))) (fun hn=>absurd (by simp) hn)
 ·have key:=SeqAt.RcAt.tuples (A:=A) (s:=s) (e:=fun j=>if j=0 then p.1 == q.1 else p.2 == q.2) (show s.heap.IsTuple a #[.int p.1 t,.str p.2 u] from hl) (show s.heap.IsTuple b #[.int q.1 t',.str q.2 u'] from hb) hu (fun j h1 h2=>by
   match j,h1,h2 with
   | 0,_,_=>exact SeqAt.EqAt.int_int _ _ _ _
   | 1,_,_=>exact SeqAt.EqAt.str_str _ _ _ _
   | j + 2,h1,_=>exact absurd (show j + 2 < 2 from h1) (by lia))
  have e:((aq (min (#[Value.int p.1 t,.str p.2 u]:Array Value).size (#[Value.int q.1 t',.str q.2 u']:Array Value).size)).all (fun j=>if j=0 then p.1 == q.1 else p.2 == q.2) && (#[Value.int p.1 t,.str p.2 u]:Array Value).size == (#[Value.int q.1 t',.str q.2 u']:Array Value).size)=decide (p=q):=by
   show ((aq 2).all (fun j=>if j=0 then p.1 == q.1 else p.2 == q.2) && (2 == 2))=decide (p=q)
   have:(aq 2)=[0,1]:=rfl;rw [this];simp only [bA,List.all_nil,dE,beq_self_eq_true];rw [ZO];simp [Prod.ext_iff]
  rw [e] at key;exact SeqAt.EqAt.of_refs hab key
def Jo (h:Heap) (v:Value) (k:(Int × Str) × Str):Prop:=∃ a l u,v=.ref a/\IsTup h a #[.ref l,.str k.2 u]/\DF h (.ref l) k.1
theorem Jo.keep {h h':Heap} {v:Value} {p:(Int × Str) × Str} (x:Jo h v p) (k:∀ b o,h.get? b=some o->h'.get? b=some o):Jo h' v p:=by
 obtain ⟨a,l,u,rfl,⟨o,ho,r⟩,z⟩:=x;exact ⟨a,l,u,rfl,⟨o,k _ _ ho,r⟩,z.keep k⟩
def Ul (p q:(Int × Str) × Str):Bool:=if decide (p.1=q.1)=true then (if (p.2 == q.2)=true then false else decide (p.2.cps.toList < q.2.cps.toList)) else Sj p.1 q.1
theorem UY {A:Around} {s:Shared} {v w:Value} {p q:(Int × Str) × Str} (hv:Jo s.heap v p) (hw:Jo s.heap w q) (hu:A.units + 1 < cLine):CA A s v w (Ul p q):=by
 obtain ⟨a,l,u,rfl,hl,hp⟩:=hv;obtain ⟨b,l',u',rfl,hb,hq⟩:=hw;exact CA.tup2 hl hb (by lia) (Tx hp hq (by rw [PySem.Around.in1_units]; exact hu)) (fun _=>Og hp hq (by rw [PySem.Around.in1_units]; exact hu)) fun _=>⟨SeqAt.EqAt.str_str _ _ _ _,fun _=>CA.str _ _ _ _ _ _⟩
def TR (prog:Program) (w:World) (A:Around) (g0:Heap) (P:Nat->Value->Prop) (bt:Nat->Nat->Bool):Prop:=
 ∀ i j vi vj (s:Shared) (Q:Value->Shared->Prop) (E:Value->Shared->Prop),(∀ b o,g0.get? b=some o->s.heap.get? b=some o)->P i vi->P j vj->Q (.bool (bt i j)) s->wpAny (model prog w) A (richCompare .Lt vi vj) Q E s
section
variable {prog:Program} {w:World} {A:Around} {R:Result->Shared->Prop} {I:Addr} {fp wr:List Addr} {n:Nat} {P:Nat->Value->Prop} {St:Nat->Heap->Prop} {g0:Heap}
theorem Px (W:Walks prog w A.in1 I fp wr n P St) (bt:Nat->Nat->Bool) (cm:TR prog w A.in1 g0 P bt) (S:Addr) (nS:S ∉ fp) (gw:∀ b o,g0.get? b=some o->b ∉ wr/\b ≠ S) :
  ∀ (m j:Nat) (s:Shared) (bv:Value) (c:Nat),n - (j + 1)=m->j + 1<=n->St (j + 1) s.heap->P (argBest bt j) bv->(∀ b o,g0.get? b=some o->s.heap.get? b=some o) ->
  s.heap.get? S=some { cls:=.type "list",dict:=none,data:=.seq #[bv,bv] c,slots:=#[] } ->
  (∀ v h2 tk,P (argBest bt (n - 1)) v->(∀ b o,b ∉ wr->b ≠ S->s.heap.get? b=some o->h2.get? b=some o)->R (.ok (.ret v)) { s with heap:=h2,toks:=tk }) ->
  codeAny (model prog w) A (.builtin "min.loop" ⟨[.ref I,.none,.ref S],[]⟩) R s:=by
 have Sw:S ∉ wr:=fun z=>nS (W.sub _ z)
 have nm:(toString "min" ++ toString ".loop":String)="min.loop":=by decide
 intro m;induction m with
 | zero=>
  intro j s bv c hm hj st pb g1 aS r;have jn:j + 1=n:=by lia
  refine codeAny_builtin F.entry_min_loop ?_;rw [Around.under_plainId F.plain_min_loop _];refine wpAny_bind (m:=seqItems? (.ref S)) (wpAny_seqItems aS rfl ?_);refine wpAny_bind (wpAny_tryCatch (W.done s _ _ (jn ▸ st) fun h2 tk k2=>?_));have Uu:=k2 S _ Sw aS;refine wpAny_bind (m:=updateSeq S (fun _=>#[])) ?_;refine wpAny_updateSeq Uu rfl (wpAny_bind (wpAny_letGo (wpAny_pure ?_)));exact r bv _ tk (by rw [<-jn]; exact pb) fun b o bw bS e=>(Z7 _ _ (Ne.symm bS)).trans (k2 b o bw e)
 | succ m ih=>
  intro j s bv c hm hj st pb g1 aS r;have lt:j + 1 < n:=by lia
  refine codeAny_builtin F.entry_min_loop ?_;rw [Around.under_plainId F.plain_min_loop _];refine wpAny_bind (m:=seqItems? (.ref S)) (wpAny_seqItems aS rfl ?_);refine wpAny_bind (wpAny_tryCatch (W.item (j + 1) s _ _ lt st fun v h2 tk pv Ff k2=>?_));have Uu:=k2 S _ Sw aS;have g2:∀ b o,g0.get? b=some o->h2.get? b=some o:=fun b o e=>k2 b o (gw b o e).1 (g1 b o e)
  show wpAny _ A.in1 (tryCatch (holding [v,v] (richCompare .Lt v bv >>= _)) _ >>= _) _ _ _
  refine wpAny_bind (wpAny_tryCatch (wpAny_holding (wpAny_bind (cm (j + 1) (argBest bt j) v bv _ _ _ g2 pv pb ?_))));refine wpAny_bind (wpAny_holding (wpAny_truthy_bool ?_));refine wpAny_bind (wpAny_letGo (wpAny_pure ?_));cases hb:bt (j + 1) (argBest bt j) with
  | true=>
   simp only [if_true];refine wpAny_bind ?_;refine wpAny_updateSeq Uu rfl (wpAny_bind (wpAny_letGo ?_));rw [nm];refine wpAny_pure ⟨plainId_quiet F.plain_min_loop _,ih (j + 1) _ v _ (by lia) lt (W.frame _ _ _ Ff fun b bf o e=>?_) (by simp only [argBest,hb,if_true]; exact pv) (fun b o e=>?_) (Z8 _ Uu rfl) fun v' h3 U6 VT k3=>?_⟩
   ·exact (Z7 _ _ (fun z:S=b=>nS (by rw [z]; exact bf))).trans e
   ·exact (Z7 _ _ (Ne.symm (gw b o e).2)).trans (g2 b o e)
   ·exact r v' h3 U6 VT fun b o bw bS e=>k3 b o bw bS ((Z7 _ _ (Ne.symm bS)).trans (k2 b o bw e))
  | false=>
   simp only [Zp,if_false];refine wpAny_bind (wpAny_letGo ?_);rw [nm];refine wpAny_pure ⟨plainId_quiet F.plain_min_loop _,ih (j + 1) _ bv c (by lia) lt Ff (by simp only [argBest,hb,Zp,if_false]; exact pb) g2 Uu fun v' h3 U6 VT k3=>?_⟩;exact r v' h3 U6 VT fun b o bw bS e=>k3 b o bw bS (k2 b o bw e)
theorem IC (W:Walks prog w A.in1 I fp wr n P St) (bt:Nat->Nat->Bool) (cm:TR prog w A.in1 g0 P bt) (S:Addr) (nS:S ∉ fp) (gw:∀ b o,g0.get? b=some o->b ∉ wr/\b ≠ S) (hn:0 < n) {s:Shared} {c:Nat} (st:St 0 s.heap)
  (g1:∀ b o,g0.get? b=some o->s.heap.get? b=some o) (aS:s.heap.get? S=some { cls:=.type "list",dict:=none,data:=.seq #[] c,slots:=#[] })
  (r:∀ v h2 tk,P (argBest bt (n - 1)) v->(∀ b o,b ∉ wr->b ≠ S->s.heap.get? b=some o->h2.get? b=some o)->R (.ok (.ret v)) { s with heap:=h2,toks:=tk }) :
  codeAny (model prog w) A (.builtin "min.loop" ⟨[.ref I,.none,.ref S],[]⟩) R s:=by
 have Sw:S ∉ wr:=fun z=>nS (W.sub _ z)
 have nm:(toString "min" ++ toString ".loop":String)="min.loop":=by decide
 refine codeAny_builtin F.entry_min_loop ?_;rw [Around.under_plainId F.plain_min_loop _];refine wpAny_bind (m:=seqItems? (.ref S)) (wpAny_seqItems aS rfl ?_);refine wpAny_bind (wpAny_tryCatch (W.item 0 s _ _ hn st fun v h2 tk pv Ff k2=>?_));have Uu:=k2 S _ Sw aS;refine wpAny_bind (m:=updateSeq S (fun _=>#[v,v])) ?_;refine wpAny_updateSeq Uu rfl ?_;rw [nm];refine wpAny_pure ⟨plainId_quiet F.plain_min_loop _,Px W bt cm S nS gw _ 0 _ v _ rfl hn (W.frame _ _ _ Ff fun b bf o e=>?_) pv (fun b o e=>?_) (Z8 _ Uu rfl) fun v' h3 U6 VT k3=>?_⟩
 ·exact (Z7 _ _ (fun z:S=b=>nS (by rw [z]; exact bf))).trans e
 ·exact (Z7 _ _ (Ne.symm (gw b o e).2)).trans (k2 b o (gw b o e).1 (g1 b o e))
 ·exact r v' h3 U6 VT fun b o bw bS e=>k3 b o bw bS ((Z7 _ _ (Ne.symm bS)).trans (k2 b o bw e))
end
section
variable {prog:Program} {w:World} {A:Around} {E:Value->Shared->Prop} {s:Shared}
theorem G9 {l:Addr} {vs:List Value} {bt:Nat->Nat->Bool} {Q:Value->Shared->Prop} (hh:A.handled=none) (hl:s.heap.IsList l vs.toArray) (hn:0 < vs.length) (cm:TR prog w A.in1 s.heap (fun i v=>vs[i]? = some v) bt)
  (h:∀ v h2 tk,vs[argBest bt (vs.length - 1)]? = some v->(∀ b o,s.heap.get? b=some o->h2.get? b=some o)->Q v { s with heap:=h2,toks:=tk }):wpAny (model prog w) A (call (.builtin "min") [.ref l]) Q E s:=by
 have nm:(toString "min" ++ toString ".loop":String)="min.loop":=by decide
 have Bv:l < s.heap.objs.size:=by obtain ⟨o,ho,_⟩:=id hl; exact YV ho
 refine call_function_tree F.kind_min F.plain_min F.entry_min (F.args_min1 _) ?_;refine wpAny_bind (wpAny_of_eq (show Builtin.Builtins.bindParams "min" ["key","default"] 0 ⟨[],[]⟩=pure [none,none] from rfl) ?_);refine wpAny_bind (wpAny_pure ?_);refine wpAny_bind (wpAny_pyIter_list hl ?_);refine wpAny_bind (wpAny_newObj_type ?_);rw [nm];have sz:(s.heap.push { cls:=.type "list_iterator",data:=.fields #[.ref l,.int 0 0] }).objs.size=s.heap.objs.size + 1:=Z6 ..;have W:=(Walks.list (prog:=prog) (w:=w) (A:=A.in1) hh s.heap.objs.size l (YX Bv) vs.toArray).weaken (P':=fun i v=>vs[i]? = some v) (fun i v e=>by simpa using e);refine wpAny_pure ⟨plainId_quiet F.plain_min_loop _,IC (g0:=s.heap) W bt cm (s.heap.push { cls:=.type "list_iterator",data:=.fields #[.ref l,.int 0 0] }).objs.size (fun hm=>?_) (fun b o e=>⟨fun hm=>?_,fun z=>?_⟩) (by simpa using hn) ?_ (fun b o e=>YK _ (YK _ e)) (YW _ rfl) fun v h2 tk pv k2=>?_⟩
 ·rw [sz] at hm;rcases YM.mp hm with z | hm
  ·exact absurd z (Nat.succ_ne_self _)
  ·rcases YM.mp hm with z | hm
   ·exact absurd z (ZD (Zq Bv))
   ·cases hm
 ·have:=YV e;rw [Zc.mp hm] at this;exact absurd this (Z5 _)
 ·have:=YV e;rw [z,sz] at this;exact absurd this (bq.mpr (Z0 _))
 ·exact ⟨⟨_,YK _ (YW _ rfl),rfl,rfl⟩,(hl.push _).push _⟩
 ·refine h v h2 tk (by simpa using pv) fun b o e=>k2 b o (fun hm=>?_) (fun z=>?_) (YK _ (YK _ e))
  ·have:=YV e;rw [Zc.mp hm] at this;exact absurd this (Z5 _)
  ·have:=YV e;rw [z,sz] at this;exact absurd this (bq.mpr (Z0 _))
end
section
variable {prog:Program} {w:World} {A:Around} {E:Value->Shared->Prop} {s:Shared}
theorem Rr {a b:Value} {bt:Nat->Nat->Bool} {Q:Value->Shared->Prop} (hh:A.handled=none) (cm:TR prog w A.in1 s.heap (fun i v=>[a,b][i]? = some v) bt)
  (h:∀ v h2 tk,[a,b][argBest bt 1]? = some v->(∀ c o,s.heap.get? c=some o->h2.get? c=some o)->Q v { s with heap:=h2,toks:=tk }):wpAny (model prog w) A (call (.builtin "min") [a,b]) Q E s:=by
 have nm:(toString "min" ++ toString ".loop":String)="min.loop":=by decide
 have hT:(s.heap.push { cls:=.type "tuple",data:=.seq #[a,b] }).IsTuple s.heap.objs.size #[a,b]:=⟨_,YW _ rfl,rfl,0,rfl⟩
 refine call_function_tree F.kind_min F.plain_min F.entry_min (F.args_min2 _ _) ?_;refine wpAny_bind (wpAny_of_eq (show Builtin.Builtins.bindParams "min" ["key","default"] 0 ⟨[],[]⟩=pure [none,none] from rfl) ?_);show wpAny _ A.in1 (newTuple [a,b] >>= _) _ _ s
 refine wpAny_bind (wpAny_newObj_type ?_);refine wpAny_bind (wpAny_pyIter_tuple hT ?_);refine wpAny_bind (wpAny_newObj_type ?_);rw [nm];have s1:(s.heap.push { cls:=.type "tuple",data:=.seq #[a,b] }).objs.size=s.heap.objs.size + 1:=Z6 ..;have s2:((s.heap.push { cls:=.type "tuple",data:=.seq #[a,b] }).push { cls:=.type "tuple_iterator",data:=.fields #[.ref s.heap.objs.size,.int 0 0] }).objs.size=s.heap.objs.size + 2:=by rw [Z6,s1]
 have W:=(Walks.tuple (prog:=prog) (w:=w) (A:=A.in1) hh (s.heap.push { cls:=.type "tuple",data:=.seq #[a,b] }).objs.size s.heap.objs.size (by rw [s1]; exact YX (Zw _)) #[a,b]).weaken (P':=fun i v=>[a,b][i]? = some v) (fun i v e=>by simpa using e);refine wpAny_pure ⟨plainId_quiet F.plain_min_loop _,IC (g0:=s.heap) W bt cm ((s.heap.push { cls:=.type "tuple",data:=.seq #[a,b] }).push { cls:=.type "tuple_iterator",data:=.fields #[.ref s.heap.objs.size,.int 0 0] }).objs.size (fun hm=>?_) (fun b o e=>⟨fun hm=>?_,fun z=>?_⟩) (by simp) ?_ (fun b o e=>YK _ (YK _ (YK _ e))) (YW _ rfl) fun v h2 tk pv k2=>?_⟩
 ·rw [s2] at hm;rcases YM.mp hm with z | hm
  ·rw [s1] at z; exact absurd z (ZD (Zw _))
  ·rcases YM.mp hm with z | hm
   ·exact absurd z (ZD (Zq (Zw _)))
   ·cases hm
 ·have:=YV e;rw [Zc.mp hm,s1] at this;exact absurd this (bq.mpr (Z0 _))
 ·have:=YV e;rw [z,s2] at this;exact absurd this (bq.mpr (Zj (Z0 _) (Z0 _)))
 ·exact ⟨⟨_,YK _ (YW _ rfl),rfl,rfl⟩,(hT.push _).push _⟩
 ·refine h v h2 tk (by simpa using pv) fun b o e=>k2 b o (fun hm=>?_) (fun z=>?_) (YK _ (YK _ (YK _ e)))
  ·have:=YV e;rw [Zc.mp hm,s1] at this;exact absurd this (bq.mpr (Z0 _))
  ·have:=YV e;rw [z,s2] at this;exact absurd this (bq.mpr (Zj (Z0 _) (Z0 _)))
end
theorem Jk (bt:Nat->Nat->Bool) (num:Nat->Int) (h1:∀ i j,bt i j=true->num i<=num j) (h2:∀ i j,bt i j=false->num j<=num i):∀ k,argBest bt k<=k/\∀ j,j<=k->num (argBest bt k)<=num j
 | 0=>⟨YO _,fun j hj=>by
  have:j=0:=by lia
  subst this; exact ar _⟩
 | k + 1=>by
  obtain ⟨a1,a2⟩:=Jk bt num h1 h2 k;simp only [argBest];cases hc:bt (k + 1) (argBest bt k) with
  | true=>
   simp only [if_true];refine ⟨YO _,fun j hj=>?_⟩;have:=h1 _ _ hc;by_cases J3:j<=k
   ·have:=a2 j J3; lia
   ·have:j=k + 1:=by lia
    subst this; exact ar _
  | false=>
   simp only [Zp,if_false];refine ⟨aZ a1,fun j hj=>?_⟩;by_cases J3:j<=k
   ·exact a2 j J3
   ·have:j=k + 1:=by lia
    subst this; exact h2 _ _ hc
def Kt (H:Hp) (v:V) (p:Int × Str):Prop:=∃ t,v=.ref t/\H t=some (.tup [.int p.1,.str p.2])
def Uy (H:Hp) (v:V) (k:(Int × Str) × Str):Prop:=∃ t t2,v=.ref t/\H t=some (.tup [.ref t2,.str k.2])/\Kt H (.ref t2) k.1
theorem Kt.same {H H':Hp} {v:V} {p:Int × Str} (h:Kt H v p) (s:∀ b xs,H b=some (.tup xs)->H' b=some (.tup xs)):Kt H' v p:=let ⟨t,e,z⟩:=h; ⟨t,e,s _ _ z⟩
theorem Uy.same {H H':Hp} {v:V} {p:(Int × Str) × Str} (h:Uy H v p) (s:∀ b xs,H b=some (.tup xs)->H' b=some (.tup xs)):Uy H' v p:=let ⟨t,t2,e,z,q⟩:=h; ⟨t,t2,e,s _ _ z,q.same s⟩
theorem Kt.at {X:Cx} {pins:List (Addr × Obj)} {σ:St} {H:Hp} {s:Shared} {v:V} {u:Value} {p:Int × Str} (I:An X pins σ H s) (r:A1 v u) (h:Kt H v p):DF s.heap u p:=by
 obtain ⟨t,rfl,ht⟩:=h;cases r
 obtain ⟨Aq,rv,pl,hz⟩:=I.tuple (AI.of ht);cases rv with
 | cons a1 b1=>
  cases b1 with
  | cons a2 b2=>
   cases b2
   obtain ⟨t1,rfl⟩:=a1;obtain ⟨t2,rfl⟩:=a2;exact ⟨t,t1,t2,rfl,pl⟩
theorem Uy.at {X:Cx} {pins:List (Addr × Obj)} {σ:St} {H:Hp} {s:Shared} {v:V} {u:Value} {k:(Int × Str) × Str} (I:An X pins σ H s) (r:A1 v u) (h:Uy H v k):Jo s.heap u k:=by
 obtain ⟨t,l,rfl,ht,hp⟩:=h;cases r
 obtain ⟨Aq,rv,pl,hz⟩:=I.tuple (AI.of ht);cases rv with
 | cons a1 b1=>
  cases b1 with
  | cons a2 b2=>
   cases b2
   cases a1
   obtain ⟨t2,rfl⟩:=a2;exact ⟨t,l,t2,rfl,pl,hp.at I (show A1 (V.ref l) (Value.ref l) from rfl)⟩
def D6 (p q:Int × Str):Prop:=p.1 < q.1\/(p.1=q.1/\¬ q.2.cps.toList < p.2.cps.toList)
theorem D6.refl (p:Int × Str):D6 p p:=.inr ⟨rfl,b5 _⟩
theorem D6.trans {p q r:Int × Str} (h1:D6 p q) (h2:D6 q r):D6 p r:=by
 rcases h1 with a | ⟨a,b⟩ <;> rcases h2 with c | ⟨c,d⟩
 ·exact .inl (by lia)
 ·exact .inl (by lia)
 ·exact .inl (by lia)
 ·exact .inr ⟨by lia,aD.mpr (dF (aD.mp b) (aD.mp d))⟩
theorem D6.add {d d' l:Int} {s s':Str} (h:D6 (d,s) (d',s')):D6 (d + l,s) (d' + l,s'):=by
 rcases h with a | ⟨a,b⟩
 ·have a':d < d':=a;exact .inl (show d + l < d' + l by lia)
 ·have a':d=d':=a;exact .inr ⟨show d + l=d' + l by lia,b⟩
theorem D6.up {d d':Int} {s:Str} (h:d<=d'):D6 (d,s) (d',s):=by
 by_cases e:d=d'
 ·exact .inr ⟨e,b5 _⟩
 ·exact .inl (show d < d' by lia)
theorem D6.fst {p q:Int × Str} (h:D6 p q):p.1<=q.1:=by
 rcases h with a | ⟨a,_⟩ <;> lia
theorem Oh {p q:Int × Str} (h:Sj p q=true):D6 p q:=by
 unfold Sj at h;by_cases e:(p.1 == q.1)=true
 ·have e':p.1=q.1:=by simpa using e
  rw [if_pos e] at h;by_cases e2:(p.2 == q.2)=true
  ·rw [if_pos e2] at h; cases h
  ·rw [if_neg e2] at h;exact .inr ⟨e',aY (by simpa using h)⟩
 ·rw [if_neg e] at h;exact .inl (by simpa using h)
theorem Oi {p q:Int × Str} (h:Sj p q=false):D6 q p:=by
 unfold Sj at h;by_cases e:(p.1 == q.1)=true
 ·have e':p.1=q.1:=by simpa using e
  rw [if_pos e] at h;by_cases e2:(p.2 == q.2)=true
  ·have e2':p.2=q.2:=by simpa using e2
   exact .inr ⟨e'.symm,by rw [e2']; exact b5 _⟩
  ·rw [if_neg e2] at h;exact .inr ⟨e'.symm,by simpa using h⟩
 ·rw [if_neg e] at h;have e':¬ p.1=q.1:=by simpa using e
  have:¬ p.1 < q.1:=by simpa using h
  exact .inl (by lia)
theorem Tc {p q:(Int × Str) × Str} (h:Ul p q=true):D6 p.1 q.1:=by
 unfold Ul at h;by_cases e:decide (p.1=q.1)=true
 ·have:p.1=q.1:=by simpa using e
  rw [this]; exact D6.refl _
 ·rw [if_neg e] at h;exact Oh h
theorem Td {p q:(Int × Str) × Str} (h:Ul p q=false):D6 q.1 p.1:=by
 unfold Ul at h;by_cases e:decide (p.1=q.1)=true
 ·have:p.1=q.1:=by simpa using e
  rw [this]; exact D6.refl _
 ·rw [if_neg e] at h;exact Oi h
theorem Hw (bt:Nat->Nat->Bool) (num:Nat->Int × Str) (h1:∀ i j,bt i j=true->D6 (num i) (num j)) (h2:∀ i j,bt i j=false->D6 (num j) (num i)):∀ k,argBest bt k<=k/\∀ j,j<=k->D6 (num (argBest bt k)) (num j)
 | 0=>⟨YO _,fun j hj=>by
  have:j=0:=by lia
  subst this; exact D6.refl _⟩
 | k + 1=>by
  obtain ⟨a1,a2⟩:=Hw bt num h1 h2 k;simp only [argBest];cases hc:bt (k + 1) (argBest bt k) with
  | true=>
   simp only [if_true];refine ⟨YO _,fun j hj=>?_⟩;by_cases J3:j<=k
   ·exact (h1 _ _ hc).trans (a2 j J3)
   ·have:j=k + 1:=by lia
    subst this; exact D6.refl _
  | false=>
   simp only [Zp,if_false];refine ⟨aZ a1,fun j hj=>?_⟩;by_cases J3:j<=k
   ·exact a2 j J3
   ·have:j=k + 1:=by lia
    subst this; exact h2 _ _ hc
theorem Ji {X:Cx} (hc:X.calm=true) (hu:X.A.units + 64 < cLine):Bd X (.builtin "min") (fun xs H Q=>∃ (a:Addr) (vs:List V) (ks:List ((Int × Str) × Str)),xs=[.ref a]/\H a=some (.lst vs)/\vs.length=ks.length/\ks ≠ []/\(∀ (i:Nat) v k,vs[i]? = some v->ks[i]? = some k->Uy H v k) /\
  ∀ v k,k ∈ ks->Uy H v k->(∀ k' ∈ ks,D6 k.1 k'.1)->Q v H):=by
 intro pins s σ H xs us Q I r h;obtain ⟨a,vs,ks,rfl,ha,hl,hne,hk,q⟩:=h;obtain ⟨u,rfl,ru⟩:=BZ r;cases ru
 obtain ⟨Aq,rv,pl,hz⟩:=I.list (AD.of ha);have il:Aq.length=ks.length:=by rw [<-rv.length,hl]
 have pos:0 < ks.length:=ZZ.mpr hne;have kat:∀ (i:Nat) (v:Value),Aq[i]? = some v->∃ k,ks[i]? = some k/\Jo s.heap v k/\∃ x,vs[i]? = some x/\A1 x v:=fun i v e=>by
  have hi:i < Aq.length:=(YQ.mp e).1;have e1:vs[i]? = some vs[i]:=YJ (by lia);have e2:ks[i]? = some ks[i]:=YJ (by lia);obtain ⟨v',e3,r3⟩:=rv.get e1;rw [e] at e3;cases e3
  exact ⟨_,e2,(hk i _ _ e1 e2).at I r3,_,e1,r3⟩
 refine G9 (bt:=fun i j=>Ul (ks.getD i default) (ks.getD j default)) (I.ok.hd hc) pl.isList (by lia) (fun i j vi vj s' Q' E' g hi hj hQ=>?_) fun v h2 tk hv k2=>?_
 ·obtain ⟨ki,e1,a1,_⟩:=kat i vi hi;obtain ⟨kj,e2,a2,_⟩:=kat j vj hj;have d1:ks.getD i default=ki:=by rw [Zo,e1]; rfl
  have d2:ks.getD j default=kj:=by rw [Zo,e2]; rfl
  dsimp only at hQ;rw [d1,d2] at hQ;exact UY (a1.keep g) (a2.keep g) (by rw [PySem.Around.in1_units]; lia) _ _ _ _ hQ
 ·obtain ⟨k,e1,a1,x,e3,r3⟩:=kat _ v hv;obtain ⟨b1,b2⟩:=Hw (fun i j=>Ul (ks.getD i default) (ks.getD j default)) (fun i=>(ks.getD i default).1) (fun _ _=>Tc) (fun _ _=>Td) (Aq.length - 1);refine ⟨x,H,I.kept k2,r3,q x k (YN e1) (hk _ x k e3 e1) fun k' Ln=>?_⟩;obtain ⟨j,hj,ej⟩:=Zh Ln;have:=b2 j (by lia);have d1:ks.getD (argBest (fun i j=>Ul (ks.getD i default) (ks.getD j default)) (Aq.length - 1)) default=k:=by rw [Zo,e1]; rfl
  have d2:ks.getD j default=k':=by rw [Zo,YJ hj,ej]; rfl
  rw [d1,d2] at this;exact this
theorem J7 {X:Cx} (hc:X.calm=true) (hu:X.A.units + 64 < cLine):Bd X (.builtin "min") (fun xs H Q=>∃ (x y:V) (p q:Int × Str),xs=[x,y]/\Kt H x p/\Kt H y q/\((D6 q p->Q y H)/\(D6 p q->Q x H))):=by
 intro pins s σ H xs us Q I r h;obtain ⟨x,y,p,q,rfl,hx,hy,q1,q2⟩:=h;obtain ⟨u,v,rfl,ru,rv⟩:=N1 r;have pu:=hx.at I ru;have pv:=hy.at I rv;refine Rr (bt:=fun i j=>Sj ([p,q].getD i default) ([p,q].getD j default)) (I.ok.hd hc) (fun i j vi vj s' Q' E' g hi hj hQ=>?_) fun z h2 tk hz k2=>?_
 ·have at':∀ (i:Nat) (vi:Value),[u,v][i]? = some vi->DF s.heap vi ([p,q].getD i default):=fun i vi e=>by
   match i,e with
   | 0,e=>cases e; exact pu
   | 1,e=>cases e; exact pv
   | i + 2,e=>cases e
  exact Og ((at' i vi hi).keep g) ((at' j vj hj).keep g) (by rw [PySem.Around.in1_units]; lia) _ _ _ _ hQ
 ·have e:argBest (fun i j=>Sj ([p,q].getD i default) ([p,q].getD j default)) 1=if Sj q p=true then 1 else 0:=rfl
  rw [e] at hz;cases hl:Sj q p with
  | true=>
   rw [hl,if_pos rfl] at hz;cases hz
   exact ⟨y,H,I.kept k2,rv,q1 (Oh hl)⟩
  | false=>
   rw [hl,if_neg Zd] at hz;cases hz
   exact ⟨x,H,I.kept k2,ru,q2 (Oi hl)⟩
def C1 (ws:List AA) (x y:Str) (l:Int):Prop:=∃ u ∈ ws,((u.1=x/\u.2.1=y)\/(u.1=y/\u.2.1=x))/\u.2.2=l
theorem C1.adj {ws:List AA} {x y:Str} {l:Int} (h:C1 ws x y l):Lr ws x y:=let ⟨u,hu,e,_⟩:=h; ⟨u,hu,e⟩
theorem C1.symm {ws:List AA} {x y:Str} {l:Int} (h:C1 ws x y l):C1 ws y x l:=let ⟨u,hu,e,z⟩:=h; ⟨u,hu,e.symm,z⟩
inductive B9 (ws:List AA):Str->Str->Int->Prop
 | nil (x:Str):B9 ws x x 0
 | cons {x y z:Str} {l m:Int}:C1 ws x y l->B9 ws y z m->B9 ws x z (l + m)
theorem B9.app {ws:List AA} {x y z:Str} {m n:Int} (h:B9 ws x y m) (g:B9 ws y z n):B9 ws x z (m + n):=by
 induction h with
 | nil x=>rw [bM]; exact g
 | cons e _ ih=>rw [cg]; exact .cons e (ih g)
theorem B9.snoc {ws:List AA} {x y z:Str} {m l:Int} (h:B9 ws x y m) (e:C1 ws y z l):B9 ws x z (m + l):=by
 have:=h.app (.cons e (.nil z));rwa [Int.add_zero] at this
theorem B9.symm {ws:List AA} {x y:Str} {m:Int} (h:B9 ws x y m):B9 ws y x m:=by
 induction h with
 | nil x=>exact .nil x
 | @cons x y z l m e _ ih=>rw [Int.add_comm]; exact ih.snoc e.symm
theorem B9.pos {ws:List AA} (hp:∀ u ∈ ws,1<=u.2.2) {x y:Str} {m:Int} (h:B9 ws x y m):0<=m:=by
 induction h with
 | nil x=>exact ar _
 | cons e _ ih=>
  obtain ⟨u,hu,_,rfl⟩:=e;have:=hp u hu;lia
def Jn (ws:List AA) (ss:List Str) (y:Str) (p:Int × Str):Prop:=(p.2 ∈ ss/\B9 ws p.2 y p.1)/\∀ s ∈ ss,∀ m,B9 ws s y m->D6 p (m,s)
structure TQ (ws:List AA) (ss:List Str) (S R:Str->Int × Str->Prop):Prop where
 near:∀ y p,S y p->Jn ws ss y p
 reach:∀ y p,R y p->p.2 ∈ ss/\B9 ws p.2 y p.1
 relax:∀ x p y l,S x p->C1 ws x y l->(∃ q,S y q)\/∃ q,R y q/\D6 q (p.1 + l,p.2)
 start:∀ s ∈ ss,(∃ q,S s q)\/∃ q,R s q/\D6 q (0,s)
theorem TQ.out {ws:List AA} {ss:List Str} {S R:Str->Int × Str->Prop} (h:TQ ws ss S R) (hp:∀ u ∈ ws,1<=u.2.2) {x z:Str} {m:Int} (g:B9 ws x z m) (hz:∀ q,¬ S z q):∀ p,S x p->∃ y q,R y q/\D6 q (p.1 + m,p.2):=by
 induction g with
 | nil x=>intro p Yh; exact absurd Yh (hz p)
 | @cons x y z l m e g ih=>
  intro p hx;rcases h.relax x p y l hx e with ⟨q,hq⟩ | ⟨q,hq,le⟩
  ·obtain ⟨y',q',h1,h2⟩:=ih hz q hq;refine ⟨y',q',h1,h2.trans ?_⟩;have n1:=(h.near y q hq).2 p.2 (h.near x p hx).1.1 (p.1 + l) ((h.near x p hx).1.2.snoc e);have:=n1.add (l:=m);rw [cg] at this;exact this
  ·exact ⟨y,q,hq,le.trans (D6.up (by have:=g.pos hp; lia))⟩
theorem TQ.pick {ws:List AA} {ss:List Str} {S R:Str->Int × Str->Prop} (h:TQ ws ss S R) (hp:∀ u ∈ ws,1<=u.2.2) {y:Str} {p:Int × Str} (hy:R y p) (ny:∀ q,¬ S y q) (least:∀ z q,R z q->D6 p q):Jn ws ss y p:=by
 refine ⟨h.reach y p hy,fun s hs m g=>?_⟩;rcases h.start s hs with ⟨q,hq⟩ | ⟨q,hq,le⟩
 ·obtain ⟨z,q',h1,h2⟩:=h.out hp g ny q hq;refine (least z q' h1).trans (h2.trans ?_);have n1:=(h.near s q hq).2 s hs 0 (.nil s);have:=(show D6 (q.1,q.2) (0,s) from n1).add (l:=m);rw [bM] at this;exact this
 ·exact (least s q hq).trans (le.trans (D6.up (g.pos hp)))
theorem TQ.done {ws:List AA} {ss:List Str} {S R:Str->Int × Str->Prop} (h:TQ ws ss S R) (hR:∀ y p,¬ R y p) {r:Str} (hss:ss ≠ []) {ps:List Str} (con:∀ T:Str->Prop,T r->(∀ x y,Lr ws x y->T x->T y)->∀ x ∈ ps,T x)
  (YC:∀ T:Str->Prop,∀ x ∈ ps,T x->(∀ x y,Lr ws x y->T x->T y)->T r) (sub:∀ s ∈ ss,s ∈ ps):∀ x ∈ ps,∃ q,S x q:=by
 have cl:∀ x y,Lr ws x y->(∃ q,S x q)->∃ q,S y q:=fun x y ⟨u,hu,e⟩ ⟨q,hq⟩=>by
  rcases h.relax x q y u.2.2 hq ⟨u,hu,e,rfl⟩ with z | ⟨q',hq',_⟩
  ·exact z
  ·exact absurd hq' (hR _ _)
 obtain ⟨s,hs⟩:=List.exists_mem_of_ne_nil ss hss;have s0:∃ q,S s q:=by
  rcases h.start s hs with z | ⟨q,hq,_⟩
  ·exact z
  ·exact absurd hq (hR _ _)
 exact con (fun x=>∃ q,S x q) (YC (fun x=>∃ q,S x q) s (sub s hs) s0 cl) cl
theorem K9 {a b:List (Str × V)} (h:sK a=sK b):a=b:=by
 unfold sK at h;exact cR (fun x y z=>by
  simp only [Prod.mk.injEq,Sum.inr.injEq] at z;exact Prod.ext z.1 z.2) |>.mp h
theorem HL {nv DN:List (Str × V)} {y:Str} {v:V} (e:Bg (sK nv) (Sum.inr y:A7) v=sK DN):∀ z x,(z,x) ∈ DN ↔ (z=y/\x=v)\/(z ≠ y/\(z,x) ∈ nv):=by
 intro z x;by_cases h:y ∈ nv.map (·.1)
 ·have e2:Bg (sK nv) (Sum.inr y:A7) v=sK (nv.map fun q=>if q.1=y then (q.1,v) else q):=by
   unfold Bg;have:((sK nv).any fun kv=>decide (kv.1=(Sum.inr y:A7)))=true:=by rw [CI,Hk,decide_eq_true h]
   rw [if_pos this];unfold sK;rw [Zt,Zt];refine aO fun q _=>?_
   by_cases e:q.1=y
   ·simp [e]
   ·have e':¬ (Sum.inr q.1:A7)=Sum.inr y:=fun z=>e (Sum.inr.inj z)
    simp [e,e']
  rw [e2] at e;rw [<-K9 e,YT];constructor
  ·rintro ⟨q,hq,e⟩;by_cases eq:q.1=y
   ·rw [if_pos eq] at e;have e1:q.1=z:=congrArg Prod.fst e;have e3:v=x:=congrArg Prod.snd e;exact .inl ⟨by rw [<-e1,eq],e3.symm⟩
   ·rw [if_neg eq] at e;refine .inr ⟨?_,by rw [<-e]; exact hq⟩;rw [show z=q.1 from (congrArg Prod.fst e).symm]; exact eq
  ·rintro (⟨rfl,rfl⟩ | ⟨h1,h2⟩)
   ·obtain ⟨q,hq,e1⟩:=YT.mp h;have Xn:q.1=z:=e1;exact ⟨q,hq,by rw [if_pos Xn,Xn]⟩
   ·exact ⟨(z,x),h2,by rw [if_neg h1]⟩
 ·rw [D9 h] at e;rw [<-K9 e,Zl];constructor
  ·rintro (h1 | h1)
   ·refine .inr ⟨?_,h1⟩;rintro rfl;exact h (YT.mpr ⟨_,h1,rfl⟩)
   ·simp only [Zc,Prod.mk.injEq] at h1;exact .inl h1
  ·rintro (⟨rfl,rfl⟩ | ⟨_,h2⟩)
   ·exact .inr (by simp)
   ·exact .inl h2
theorem SF (nv:List (Str × V)) (y:Str):IZ (sK nv) (Sum.inr y:A7)=sK (nv.filter fun q=>decide (q.1 ≠ y)):=by
 unfold IZ sK;rw [List.filter_map];congr 1;refine List.filter_congr fun q _=>?_
 by_cases e:q.1=y
 ·simp [e]
 ·have e':¬ (Sum.inr q.1:A7)=Sum.inr y:=fun z=>e (Sum.inr.inj z)
  simp [e,e']
def Sm (H:Hp) (ps:List Str) (ds:List Addr) (Ed:Str->Str->Int->Prop):Prop:=∀ (i:Nat) (p:Str) (d:Addr) (nv:List (Str × V)),ps[i]? = some p->ds[i]? = some d->Rd H d (.dK (sK nv))->∀ y v,(y,v) ∈ nv->∃ l,v=.int l/\Ed p y l
theorem Rd.inj {H:Hp} {d:Addr} {a b:List (Str × V)} (h:Rd H d (.dK (sK a))) (g:Rd H d (.dK (sK b))):a=b:=by
 rcases h with h | ⟨o,h⟩ <;> rcases g with g | ⟨o',g⟩ <;> have e:=Zf.inj (h.symm.trans g)
 ·injection e with e; exact K9 e
 ·exact nomatch e
 ·exact nomatch e
 ·injection e with _ e;injection e with e; exact K9 e
theorem Sm.put {H:Hp} {ps:List Str} {ds:List Addr} {Ed Ed':Str->Str->Int->Prop} (h:Sm H ps ds Ed) (hn:ps.Nodup) (dn:ds.Nodup) {i:Nat} {p y:Str} {d:Addr} {l:Int} (e1:ps[i]? = some p) (e2:ds[i]? = some d) {nv DN:List (Str × V)} (hd:H d=some (.dK (sK nv)))
  (ep:Bg (sK nv) (Sum.inr y:A7) (.int l)=sK DN) (mono:∀ a b m,Ed a b m->Ed' a b m) (new:Ed' p y l):Sm (upd H d (.dK (sK DN))) ps ds Ed':=by
 intro j q c nw f1 f2 hr z v hz;by_cases hc:c=d
 ·subst hc;have ij:i=j:=FY dn e2 f2;subst ij;rw [e1] at f1; cases f1;have:nw=DN:=Rd.inj hr (.inl Ab);subst this;rcases (HL ep z v).mp hz with ⟨rfl,rfl⟩ | ⟨_,Up⟩
  ·exact ⟨l,rfl,new⟩
  ·obtain ⟨l',e,ed⟩:=h i _ c nv e1 e2 (.inl hd) z v Up;exact ⟨l',e,mono _ _ _ ed⟩
 ·have Lm:Rd H c (.dK (sK nw)):=by
   rcases hr with g | ⟨o,g⟩
   ·exact .inl (by rw [Ae hc] at g; exact g)
   ·exact .inr ⟨o,by rw [Ae hc] at g; exact g⟩
  obtain ⟨l',e,ed⟩:=h j q c nw f1 f2 Lm z v hz;exact ⟨l',e,mono _ _ _ ed⟩
def Q7 (K:YL):Sp:=fun vs H Q _=>∃ (q:Addr) (ps:List Str) (ws:List AA) (r:Str),vs=[.ref q]/\Jm H q ps ws r /\
 ∀ (H':Hp) (B:Addr) (ds:List Addr),Av H H'->NB H' B ps ds (Lr ws) 128->Sm H' ps ds (C1 ws)->H B=none->(∀ d ∈ ds,H d=none)->Q (.ref B) H'
theorem PI.or {X:Cx} {tg l:Expr} {w1 w2:TI} (h1:PI X tg l w1) (h2:PI X tg l w2):PI X tg l (fun σ H R=>w1 σ H R\/w2 σ H R):=by
 intro pins s σ H R I h;rcases h with h | h
 ·exact h1 (pins:=pins) s σ H R I h
 ·exact h2 (pins:=pins) s σ H R I h
def Nt (H:Hp) (nv:List (Str × V)) (S:Str->Int × Str->Prop):Prop:=(nv.map (·.1)).Nodup/\(∀ y v,(y,v) ∈ nv->∃ p,Kt H v p/\S y p)/\∀ y p,S y p->∃ v,(y,v) ∈ nv/\Kt H v p
def ME (K:YL):Sp:=fun vs H Q _=>∃ (q st:Addr) (ps ss:List Str) (ws:List AA) (r:Str),vs=[.ref q,.ref st]/\Jm H q ps ws r/\(∀ u ∈ ws,1<=u.2.2)/\(∀ x y l l',C1 ws x y l->C1 ws x y l'->l=l')/\(H st=some (.lst (ss.map V.str))\/H st=some (.tup (ss.map V.str)))/\ss ≠ []/\ss.Nodup/\(∀ s ∈ ss,s ∈ ps) /\
 ∀ (H':Hp) (B:Addr) (nv:List (Str × V)),Av H H'->H B=none->H' B=some (.dK (sK nv))->(nv.map (·.1)).Nodup->(∀ x,x ∈ nv.map (·.1) ↔ x ∈ ps)->(∀ y v,(y,v) ∈ nv->∃ p,Kt H' v p/\Jn ws ss y p)->Q (.ref B) H'
theorem JR {nv:List (Str × V)} {y:Str} {v:V} (h:Bu (sK nv) (Sum.inr y:A7)=some v):(y,v) ∈ nv:=by
 unfold Bu at h;cases e:(sK nv).find? (fun kv=>decide (kv.1=(Sum.inr y:A7))) with
 | none=>rw [e] at h; cases h
 | some kv=>
  rw [e] at h;have h1:=List.find?_some e;have h2:=List.mem_of_find?_eq_some e;obtain ⟨q,hq,rfl⟩:=YT.mp h2;have e1:q.1=y:=by
   have:(Sum.inr q.1:A7)=Sum.inr y:=by simpa using h1
   exact Sum.inr.inj this
  have e2:q.2=v:=Zf.inj h;rw [<-e1,<-e2];exact hq
theorem PY {ws:List AA} {i:Nat} {a b:Str} {m:Int} (h:C1 (ws.take i) a b m):C1 (ws.take (i + 1)) a b m:=by
 obtain ⟨u,hu,e⟩:=h;rw [Zk];exact ⟨u,ZN _ hu,e⟩
theorem Mo {ws:List AA} {i:Nat} {u:AA} (h:ws[i]? = some u):C1 (ws.take (i + 1)) u.1 u.2.1 u.2.2:=by
 rw [Zk,h];exact ⟨u,Za _ (by simp),.inl ⟨rfl,rfl⟩,rfl⟩
theorem Kt.fn {H:Hp} {v:V} {p q:Int × Str} (h:Kt H v p) (g:Kt H v q):p=q:=by
 obtain ⟨t,rfl,e⟩:=h;obtain ⟨t',e',g⟩:=g;have:t=t':=by injection e'
 subst this;have z:=Zf.inj (e.symm.trans g);injection z with z;simp only [aT.injEq,V.int.injEq,V.str.injEq] at z;exact Prod.ext z.1 z.2.1
theorem NR.same {H H':Hp} {B:Addr} {ps:List Str} {ds:List Addr} {P:Str->Str->Prop} (h:NR H B ps ds P) (s:Av H H'):NR H' B ps ds P:=
 ⟨s _ _ h.top,h.len,h.nd,h.nB,fun i p d e1 e2=>let ⟨nv,a1,a3⟩:=h.inner i p d e1 e2
  ⟨nv,(by rcases a1 with a | ⟨o,a⟩; exact .inl (s _ _ a); exact .inr ⟨o,s _ _ a⟩),a3⟩⟩
theorem Sm.of {H H':Hp} {B:Addr} {ps:List Str} {ds:List Addr} {P:Str->Str->Prop} {Ed:Str->Str->Int->Prop} (h:Sm H ps ds Ed) (nr:NR H B ps ds P) (k:∀ d ∈ ds,∀ nv:List (Str × V),Rd H d (.dK (sK nv))->Rd H' d (.dK (sK nv))):Sm H' ps ds Ed:=by
 intro i p d nv e1 e2 hr y v hy;obtain ⟨nw,a1,_⟩:=nr.inner i p d e1 e2;have:=Rd.inj hr (k d (YN e2) nw a1);subst this;exact h i p d nv e1 e2 a1 y v hy
theorem Nt.same {H H':Hp} {nv:List (Str × V)} {S:Str->Int × Str->Prop} (h:Nt H nv S) (s:∀ b xs,H b=some (.tup xs)->H' b=some (.tup xs)):Nt H' nv S:=
 ⟨h.1,fun y v hv=>let ⟨p,a,b⟩:=h.2.1 y v hv; ⟨p,a.same s,b⟩,fun y p hp=>let ⟨v,a,b⟩:=h.2.2 y p hp; ⟨v,a,b.same s⟩⟩
theorem Nt.fn {H:Hp} {nv:List (Str × V)} {S:Str->Int × Str->Prop} (h:Nt H nv S) {y:Str} {p q:Int × Str} (hp:S y p) (hq:S y q):p=q:=by
 obtain ⟨v,a,b⟩:=h.2.2 y p hp;obtain ⟨w,c,d⟩:=h.2.2 y q hq;have:=Qt h.1 a c;subst this;exact b.fn d
theorem Nt.put {H:Hp} {nv DN:List (Str × V)} {S:Str->Int × Str->Prop} {y:Str} {v:V} {p:Int × Str} (h:Nt H nv S) (e:Bg (sK nv) (Sum.inr y:A7) v=sK DN) (hv:Kt H v p):Nt H DN (fun z q=>(z=y/\q=p)\/(z ≠ y/\S z q)):=by
 refine ⟨SE e h.1,fun z x hz=>?_,fun z q hq=>?_⟩
 ·rcases (HL e z x).mp hz with ⟨rfl,rfl⟩ | ⟨n,Up⟩
  ·exact ⟨p,hv,.inl ⟨rfl,rfl⟩⟩
  ·obtain ⟨q,a,b⟩:=h.2.1 z x Up;exact ⟨q,a,.inr ⟨n,b⟩⟩
 ·rcases hq with ⟨rfl,rfl⟩ | ⟨n,hq⟩
  ·exact ⟨v,(HL e _ _).mpr (.inl ⟨rfl,rfl⟩),hv⟩
  ·obtain ⟨x,a,b⟩:=h.2.2 z q hq;exact ⟨x,(HL e _ _).mpr (.inr ⟨n,a⟩),b⟩
theorem Nt.drop {H:Hp} {nv:List (Str × V)} {S:Str->Int × Str->Prop} (h:Nt H nv S) (y:Str):Nt H (nv.filter fun q=>decide (q.1 ≠ y)) (fun z q=>z ≠ y/\S z q):=by
 refine ⟨G7 h.1 _,fun z x hz=>?_,fun z q hq=>?_⟩
 ·obtain ⟨a,b⟩:=Zx.mp hz;obtain ⟨q,c,d⟩:=h.2.1 z x a;exact ⟨q,c,by simpa using b,d⟩
 ·obtain ⟨n,hq⟩:=hq;obtain ⟨x,a,b⟩:=h.2.2 z q hq;exact ⟨x,Zx.mpr ⟨a,by simpa using n⟩,b⟩
structure NI (H H2:Hp) (ps:List Str) (ws:List AA) (B RA SA:Addr) (ds:List Addr) (nvR nvS:List (Str × V)) (S R:Str->Int × Str->Prop):Prop where
 same:Av H H2
 nr:NR H2 B ps ds (Lr ws)
 nbv:Sm H2 ps ds (C1 ws)
 dR:H2 RA=some (.dK (sK nvR))
 dS:H2 SA=some (.dK (sK nvS))
 pR:Nt H2 nvR R
 pS:Nt H2 nvS S
 subR:∀ y ∈ nvR.map (·.1),y ∈ ps
 subS:∀ y ∈ nvS.map (·.1),y ∈ ps
section
variable {H H2 H3:Hp} {ps:List Str} {ws:List AA} {B RA SA:Addr} {ds:List Addr} {nvR nvS:List (Str × V)} {S R:Str->Int × Str->Prop}
theorem NI.grow (h:NI H H2 ps ws B RA SA ds nvR nvS S R) (s:Av H2 H3):NI H H3 ps ws B RA SA ds nvR nvS S R:=
 ⟨h.same.trans s,h.nr.same s,h.nbv.of h.nr fun d _ nv z=>by rcases z with a | ⟨o,a⟩; exact .inl (s _ _ a); exact .inr ⟨o,s _ _ a⟩,s _ _ h.dR,s _ _ h.dS,h.pR.same fun b xs z=>s _ _ z,h.pS.same fun b xs z=>s _ _ z,h.subR,h.subS⟩
theorem NI.lenS (h:NI H H2 ps ws B RA SA ds nvR nvS S R):nvS.length<=ps.length:=by
 have:=Cj h.pS.1 h.subS;rwa [YI] at this
theorem NI.lenR (h:NI H H2 ps ws B RA SA ds nvR nvS S R):nvR.length<=ps.length:=by
 have:=Cj h.pR.1 h.subR;rwa [YI] at this
theorem NI.inS (h:NI H H2 ps ws B RA SA ds nvR nvS S R) {y:Str}:y ∈ nvS.map (·.1) ↔ ∃ q,S y q:=by
 constructor
 ·intro hy;obtain ⟨⟨z,v⟩,a,b⟩:=YT.mp hy;have b':z=y:=b;subst b';obtain ⟨p,_,c⟩:=h.pS.2.1 z v a;exact ⟨p,c⟩
 ·rintro ⟨q,hq⟩;obtain ⟨v,a,_⟩:=h.pS.2.2 y q hq;exact YT.mpr ⟨_,a,rfl⟩
theorem NI.inR (h:NI H H2 ps ws B RA SA ds nvR nvS S R) {y:Str}:y ∈ nvR.map (·.1) ↔ ∃ q,R y q:=by
 constructor
 ·intro hy;obtain ⟨⟨z,v⟩,a,b⟩:=YT.mp hy;have b':z=y:=b;subst b';obtain ⟨p,_,c⟩:=h.pR.2.1 z v a;exact ⟨p,c⟩
 ·rintro ⟨q,hq⟩;obtain ⟨v,a,_⟩:=h.pR.2.2 y q hq;exact YT.mpr ⟨_,a,rfl⟩
theorem NI.setR (h:NI H H2 ps ws B RA SA ds nvR nvS S R) (aR:RA ∉ ds/\RA ≠ B/\RA ≠ SA/\H RA=none) {DN:List (Str × V)} {R':Str->Int × Str->Prop} (p':Nt H2 DN R') (sub:∀ y ∈ DN.map (·.1),y ∈ ps):NI H (upd H2 RA (.dK (sK DN))) ps ws B RA SA ds DN nvS S R':=by
 have tu:∀ b xs,H2 b=some (.tup xs)->(upd H2 RA (.dK (sK DN))) b=some (.tup xs):=fun b xs z=>by
  rw [Ae (Bz z h.dR (by intro z; cases z))]; exact z
 exact ⟨fun b o z=>by rw [Ae (Ag z aR.2.2.2)]; exact h.same _ _ z,h.nr.other aR.1 aR.2.1,h.nbv.of h.nr fun d hd nv z=>z.ne (fun e=>aR.1 (by rw [<-e]; exact hd)),Ab,by rw [Ae (Ne.symm aR.2.2.1)]; exact h.dS,p'.same tu,h.pS.same tu,sub,h.subS⟩
theorem NI.setS (h:NI H H2 ps ws B RA SA ds nvR nvS S R) (aS:SA ∉ ds/\SA ≠ B/\SA ≠ RA/\H SA=none) {DN:List (Str × V)} {S':Str->Int × Str->Prop} (p':Nt H2 DN S') (sub:∀ y ∈ DN.map (·.1),y ∈ ps):NI H (upd H2 SA (.dK (sK DN))) ps ws B RA SA ds nvR DN S' R:=by
 have tu:∀ b xs,H2 b=some (.tup xs)->(upd H2 SA (.dK (sK DN))) b=some (.tup xs):=fun b xs z=>by
  rw [Ae (Bz z h.dS (by intro z; cases z))]; exact z
 exact ⟨fun b o z=>by rw [Ae (Ag z aS.2.2.2)]; exact h.same _ _ z,h.nr.other aS.1 aS.2.1,h.nbv.of h.nr fun d hd nv z=>z.ne (fun e=>aS.1 (by rw [<-e]; exact hd)),by rw [Ae (Ne.symm aS.2.2.1)]; exact h.dR,Ab,h.pR.same tu,p'.same tu,h.subR,sub⟩
theorem NI.frz (h:NI H H2 ps ws B RA SA ds nvR nvS S R) (aR:RA ∉ ds) (aS:SA ∉ ds) (fr:∀ d ∈ ds,H d=none) {i:Nat} {p:Str} {d:Addr} (e1:ps[i]? = some p) (e2:ds[i]? = some d) {nv:List (Str × V)} {o:Obj} (f:Ep H2 d (sK nv) o H3) (hP:∀ y,y ∈ nv.map (·.1) ↔ Lr ws p y):NI H H3 ps ws B RA SA ds nvR nvS S R:=by
 have dm:d ∈ ds:=YN e2;have tu:∀ b xs,H2 b=some (.tup xs)->H3 b=some (.tup xs):=fun b xs z=>by
  rw [f.ne (by
   rintro rfl;rcases f with ⟨g,_⟩ | ⟨g,_⟩ <;> (rw [z] at g; cases g))]
  exact z
 refine ⟨fun b u z=>by rw [f.ne (Ag z (fr d dm))]; exact h.same _ _ z,h.nr.freeze e1 e2 f hP,h.nbv.of h.nr fun c hc nw z=>?_,by rw [f.ne (fun z=>aR (by rw [z]; exact dm))]; exact h.dR,by rw [f.ne (fun z=>aS (by rw [z]; exact dm))]; exact h.dS,h.pR.same tu,h.pS.same tu,h.subR,h.subS⟩;by_cases hcd:c=d
 ·subst hcd;rcases f with ⟨g,e⟩ | ⟨g,e⟩
  ·have:=Rd.inj z (.inl g);subst this;exact .inr ⟨o,by rw [e]; exact Ab⟩
  ·rw [e]; exact z
 ·exact z.fz f hcd
end
theorem EG:entryFor table "dict.update.loop"=some Builtin.«dict.update.loop»:=entryFor_of_tree (by kernel_rfl)
theorem Cz:plainId "dict.update.loop"=true:=by decide +kernel
def Uw (g0:Heap) (v:Value) (p:Str × V):Prop:=∃ a t u,v=.ref a/\IsTup g0 a #[.str p.1 t,u]/\A1 p.2 u
section
variable {prog:Program} {w:World} {A:Around} {R:Result->Shared->Prop} {g0:Heap} {D it l:Addr} {vs:List Value} {ps:List (Str × V)}
end
section
variable {prog:Program} {w:World} {A:Around} {E:Value->Shared->Prop} {s:Shared}
end
theorem Mb:∀ (b a:List (Str × V)),((a ++ b).map (·.1)).Nodup->IE (sK a) (sK b)=sK (a ++ b)
 | [],a,_=>by rw [ZE]; rfl
 | q :: b,a,hn=>by
  have nq:q.1 ∉ a.map (·.1):=by
   rw [YY,Zb] at hn;intro hm;exact (Z4.mp hn).2.2 q.1 hm q.1 Zg rfl
  show IE (Bg (sK a) (Sum.inr q.1) q.2) (sK b)=_
  rw [D9 nq];have:=Mb b (a ++ [(q.1,q.2)]) (by rw [ZG]; exact hn);rw [this,ZG];rfl
theorem QK:∀ {ws:List AA},(ws.Pairwise fun u v=>¬ DS u v)->∀ {u v:AA},u ∈ ws->v ∈ ws->DS u v->u=v
 | [],_,u,v,hu,_,_=>nomatch hu
 | a :: ws,h,u,v,hu,hv,al=>by
  obtain ⟨h1,h2⟩:=ZQ.mp h;rcases YM.mp hu with e1 | Xb
  ·rcases YM.mp hv with e2 | Yd
   ·rw [e1,e2]
   ·exact absurd (by rw [<-e1]; exact al) (h1 v Yd)
  ·rcases YM.mp hv with e2 | Yd
   ·refine absurd ?_ (h1 u Xb);rw [<-e2];rcases al with ⟨a1,a2⟩ | ⟨a1,a2⟩
    ·exact .inl ⟨a1.symm,a2.symm⟩
    ·exact .inr ⟨a2.symm,a1.symm⟩
   ·exact QK h2 Xb Yd al
theorem PX {ws:List AA} (h:ws.Pairwise fun u v=>¬ DS u v) {x y:Str} {l l':Int} (e:C1 ws x y l) (e':C1 ws x y l'):l=l':=by
 obtain ⟨u,hu,a,rfl⟩:=e;obtain ⟨v,hv,b,rfl⟩:=e';have:u=v:=QK h hu hv (by
  rcases a with ⟨a1,a2⟩ | ⟨a1,a2⟩ <;> rcases b with ⟨b1,b2⟩ | ⟨b1,b2⟩
  ·exact .inl ⟨a1.trans b1.symm,a2.trans b2.symm⟩
  ·exact .inr ⟨a1.trans b2.symm,a2.trans b1.symm⟩
  ·exact .inr ⟨a1.trans b2.symm,a2.trans b1.symm⟩
  ·exact .inl ⟨a1.trans b1.symm,a2.trans b2.symm⟩)
 rw [this]
theorem Kj {ws Qs:List AA} (p:Qs.Perm (ws.map E8)) (x y:Str) (l:Int):C1 Qs x y l ↔ C1 ws x y l:=by
 constructor
 ·rintro ⟨u,hu,h,e⟩;obtain ⟨v,hv,rfl⟩:=YT.mp (p.mem_iff.mp hu);refine ⟨v,hv,?_,e⟩;rcases DO v with ⟨e1,e2⟩ | ⟨e1,e2⟩
  ·rw [e1,e2] at h; exact h
  ·rw [e1,e2] at h;rcases h with ⟨a,b⟩ | ⟨a,b⟩
   ·exact .inr ⟨b,a⟩
   ·exact .inl ⟨b,a⟩
 ·rintro ⟨v,hv,h,e⟩;refine ⟨E8 v,p.mem_iff.mpr (YT.mpr ⟨v,hv,rfl⟩),?_,e⟩;rcases DO v with ⟨e1,e2⟩ | ⟨e1,e2⟩
  ·rw [e1,e2]; exact h
  ·rw [e1,e2];rcases h with ⟨a,b⟩ | ⟨a,b⟩
   ·exact .inr ⟨b,a⟩
   ·exact .inl ⟨b,a⟩
theorem Qr {ws Qs:List AA} (h:∀ x y l,C1 Qs x y l ↔ C1 ws x y l) {x y:Str} {m:Int}:B9 Qs x y m ↔ B9 ws x y m:=by
 constructor
 ·intro g;induction g with
  | nil x=>exact .nil x
  | cons e _ ih=>exact .cons ((h _ _ _).mp e) ih
 ·intro g;induction g with
  | nil x=>exact .nil x
  | cons e _ ih=>exact .cons ((h _ _ _).mpr e) ih
def VE (ws:List AA) (x y:Str) (n:Int):Prop:=B9 ws x y n/\∀ m,B9 ws x y m->n<=m
theorem Jn.dst {ws:List AA} {x y:Str} {p:Int × Str} (h:Jn ws [x] y p):p.2=x/\VE ws x y p.1:=by
 have e:p.2=x:=by simpa using h.1.1
 refine ⟨e,by rw [<-e]; exact h.1.2,fun m g=>(h.2 x (by simp) m g).fst⟩
def QB (K:YL):Sp:=fun vs H Q _=>∃ (q:Addr) (ps:List Str) (ws:List AA) (r x:Str),vs=[.ref q,.str x]/\Jm H q ps ws r/\(∀ u ∈ ws,1<=u.2.2)/\(∀ x y l l',C1 ws x y l->C1 ws x y l'->l=l')/\x ∈ ps /\
 ∀ (H':Hp) (B:Addr) (nv:List (Str × V)),Av H H'->H B=none->H' B=some (.dK (sK nv))->nv.map (·.1)=ps->(∀ y v,(y,v) ∈ nv->∃ n,v=.int n/\VE ws x y n)->Q (.ref B) H'
end L2
namespace L2
open PySem PySem.Spec PySem.W PyProof.Rows
theorem HQ:∀ {ns:List Int} {us:List Value},A0 (ns.map V.int) us->∀ (i:Nat) (v:Value),us[i]? = some v->∃ n t,ns[i]? = some n/\v=Value.int n t
 | [],_,.nil,i,v,e=>by simp at e
 | n :: ns,_,.cons r1 r2,0,v,e=>by
  obtain ⟨t,rfl⟩:=r1;simp only [Z9,Zf.injEq] at e;exact ⟨n,t,rfl,e.symm⟩
 | n :: ns,_,.cons r1 r2,i + 1,v,e=>by simpa using HQ r2 i v (by simpa using e)
end L2
namespace L2
open PySem PySem.Spec PyProof.Rows
theorem Et {α:Type}:∀ {ys:List α} {k:Nat} {y:α},ys[k]? = some y->(y :: ys.eraseIdx k).Perm ys
 | [],k,y,e=>by simp at e
 | x :: ys,0,y,e=>by
  simp at e;subst e;exact List.Perm.refl _
 | x :: ys,k + 1,y,e=>by
  simp at e;exact (List.Perm.swap x y _).trans ((Et e).cons x)
theorem Kb {α β:Type} (f:α->β):∀ (ys:List α) (k:Nat),(ys.map f).eraseIdx k=(ys.eraseIdx k).map f
 | [],k=>by simp
 | x :: ys,0=>rfl
 | x :: ys,k + 1=>by
  show f x :: (ys.map f).eraseIdx k=f x :: (ys.eraseIdx k).map f
  rw [Kb f ys k]
theorem L7:∀ {ss:List Str} {us:List Value},A0 (ss.map V.str) us->StrsAre us ss
 | [],_,.nil=>.nil
 | _ :: _,_,.cons r q=>by
  obtain ⟨t,rfl⟩:=r;exact .cons _ t (L7 q)
theorem Tb {X:Cx}:MtM X "str.join" (fun x vs H Q=>∃ (z:Str) (a:Addr) (ss:List Str),x=.str z/\vs=[.ref a]/\H a=some (.lst (ss.map V.str))/\z.length<=16/\(ss.map (·.length)).sum + ss.length<=1048576/\Q (.str (Txt.join z ss)) H):=by
 intro pins s σ H x vs v us Q I rx rv h;obtain ⟨z,a,ss,rfl,rfl,hH,hz,hw,q⟩:=h;obtain ⟨t,rfl⟩:=rx;obtain ⟨u,rfl,ru⟩:=rv.one;cases ru
 obtain ⟨_,Aq,n,r,_,e⟩:=I.lstM hH;refine join_listW (ys:=ss) ⟨_,e,rfl,n,rfl⟩ (by rw [List.toList_toArray]; exact L7 r) hz hw fun t' k=>?_
 exact ⟨.str (Txt.join z ss),H,I.tok k,⟨t',rfl⟩,q⟩
theorem Mf (ss:List Str):(Txt.join (Str.ofString "") ss).cps.toList=(ss.map fun s=>s.cps.toList).flatten:=by
 unfold Txt.join;rw [PySem.StrLaws.glued_eq_join];induction ss with
 | nil=>rfl
 | cons x r ih=>
  cases r with
  | nil=>
   show x.cps.toList=_
   simp
  | cons y r=>
   have e:Str.join (Str.ofString "") (x :: y :: r)=x ++ Str.ofString "" ++ Str.join (Str.ofString "") (y :: r):=rfl;rw [e,Zb,cX,<-ih];show ((x.cps ++ #[]) ++ (Str.join (Str.ofString "") (y :: r)).cps).toList=_
   simp
theorem Ry {ss:List Str} (h:∀ s ∈ ss,s.length=1/\TL s):TL (Txt.join (Str.ofString "") ss)/\(Txt.join (Str.ofString "") ss).length=ss.length/\(ss.map (·.length)).sum=ss.length:=by
 have e:∀ l:List Str,(∀ s ∈ l,s.length=1/\TL s)->((l.map fun s=>s.cps.toList).flatten).length=l.length/\(l.map (·.length)).sum=l.length:=by
  intro l;induction l with
  | nil=>intro _; exact ⟨rfl,rfl⟩
  | cons x r ih=>
   intro h;obtain ⟨i1,i2⟩:=ih fun s hs=>h s (Ze _ hs)
   have hx:x.cps.size=1:=(h x (Zg ..)).1;constructor
   ·rw [Zb,cX,YR,i1,Zv,hx,Zm];lia
   ·rw [Zb,dI,i2,Zm];show x.cps.size + r.length=r.length + 1
    lia
 refine ⟨fun c hc=>?_,?_,(e ss h).2⟩
 ·rw [Mf] at hc;obtain ⟨l,hl,hcl⟩:=List.mem_flatten.mp hc;obtain ⟨s,hs,rfl⟩:=YT.mp hl;exact (h s hs).2 c hcl
 ·show (Txt.join (Str.ofString "") ss).cps.size=_
  rw [<-Zv,Mf];exact (e ss h).1
theorem LY {xs:List Str} {hd:List Nat} {f:Nat->List Nat} (h:∀ i x,xs[i]? = some x->∃ tl,x.cps.toList=hd ++ (f i ++ tl)) (hf:∀ i j,i < j->j < xs.length->∀ tl Sf,f i ++ tl ≠ f j ++ Sf):xs.Nodup:=by
 refine ZH.mpr fun i j hi hj hij e=>?_
 obtain ⟨tl,h1⟩:=h i _ (YJ hi);obtain ⟨Sf,h2⟩:=h j _ (YJ hj);rw [e,h2] at h1;exact hf i j hij hj tl Sf (List.append_cancel_left h1).symm
def Po (n:Nat) (st sp:Int) (k:Nat):List Nat:=if 26 < n then [97 + ((st + sp * k) % 26).toNat,97 + k / 26] else [97 + ((st + sp * k) % 26).toNat]
theorem UP {n:Nat} {st sp:Int} (hn:n<=52) (hs:sp ∈ ([1,3,5,7,9,11,15,17]:List Int)) {i j:Nat} (hij:i < j) (hj:j < n) (tl Sf:List Nat):Po n st sp i ++ tl ≠ Po n st sp j ++ Sf:=by
 have key:((st + sp * i) % 26).toNat=((st + sp * j) % 26).toNat->(j - i) % 26=0:=by
  intro e;have e2:(st + sp * i) % 26=(st + sp * j) % 26:=by
   have a1:=ZX (st + sp * i) (show (26:Int) ≠ 0 by decide);have a2:=ZX (st + sp * j) (show (26:Int) ≠ 0 by decide);lia
  have g:Int.gcd 26 sp=1:=by
   simp only [YM,YU,or_false] at hs;rcases hs with rfl | rfl | rfl | rfl | rfl | rfl | rfl | rfl <;> rfl
  have d:(26:Int) ∣ sp * ((j:Int) - i):=by
   refine Int.dvd_of_emod_eq_zero ?_;have e3:sp * ((j:Int) - i)=(st + sp * j) - (st + sp * i):=by rw [Int.mul_sub]; lia
   rw [e3,Int.sub_emod,e2,Int.sub_self];rfl
  have d2:(26:Int) ∣ (j:Int) - i:=by
   rw [Int.mul_comm] at d;have e4:Nat.gcd 26 sp.natAbs=1:=g;have e5:(26:Nat) ∣ ((j:Int) - i).natAbs * sp.natAbs:=by rw [<-Int.natAbs_mul]; exact cJ.mpr d
   exact cJ.mp (Nat.Coprime.dvd_of_dvd_mul_right e4 e5)
  lia
 intro e;unfold Po at e;by_cases h:26 < n
 ·rw [if_pos h,if_pos h] at e;simp only [au,dt,aT.injEq] at e;have:=key (by lia);lia
 ·rw [if_neg h,if_neg h] at e;simp only [au,dt,aT.injEq] at e;have:=key (by lia);lia
theorem Ei {i:Int} (h0:0<=i) (h1:i < 26):JA Gd.cps.toList i=some (97 + i.toNat):=by
 obtain ⟨n,rfl⟩:∃ n:Nat,i=(n:Int):=⟨i.toNat,by lia⟩
 have:∀ m:Fin 26,JA Gd.cps.toList (m.val:Int)=some (97 + ((m.val:Int)).toNat):=by decide +kernel
 exact this ⟨n,by lia⟩
theorem len1 {α:Type} {l:List α} (h:l.length=1):∃ a,l=[a]:=List.length_eq_one_iff.mp h
theorem lenS {α:Type} {n:Nat} {l:List α} (h:l.length=n + 1):∃ a r,l=a :: r/\r.length=n:=by
 cases l with
 | nil=>cases h
 | cons a r=>exact ⟨a,r,rfl,Nat.succ.inj h⟩
theorem Th {α:Type} {l:List α} (h:l.length=2):∃ a b,l=[a,b]:=by
 obtain ⟨a,r,rfl,hr⟩:=lenS h;obtain ⟨b,rfl⟩:=len1 hr;exact ⟨a,b,rfl⟩
theorem len3 {α:Type} {l:List α} (h:l.length=3):∃ a b c,l=[a,b,c]:=by
 obtain ⟨a,r,rfl,hr⟩:=lenS h;obtain ⟨b,c,rfl⟩:=Th hr;exact ⟨a,b,c,rfl⟩
section
variable {K:Type} [DecidableEq K] [BEq K] [LawfulBEq K]
def met (val:Nat->K) (i:Nat):List K:=((aq i).map val).foldl step_dedup []
theorem ID (val:Nat->K) (i:Nat):met val (i + 1)=step_dedup (met val i) (val i):=by
 unfold met; rw [List.range_succ,YY,List.foldl_append]; rfl
theorem OK (σ:List K) (v k:K):(step_dedup σ v).any (· == k)=(σ.any (· == k) || decide (k=v)):=by
 unfold step_dedup;by_cases h:σ.any (· == v)=true
 ·rw [if_pos h];by_cases e:k=v
  ·subst e; rw [h]; simp
  ·simp [e]
 ·rw [if_neg h,List.any_append];by_cases e:k=v
  ·subst e; simp
  ·have hb:(v == k)=false:=by simpa [beq_iff_eq] using (fun h':v=k=>e h'.symm)
   simp [hb,e]
theorem FJ (σ:List K) (v:K):(step_dedup σ v).length=if σ.any (· == v) then σ.length else σ.length + 1:=by
 unfold step_dedup; split <;> simp
theorem DC (val:Nat->K):∀ i,(met val i).length<=i
 | 0=>YO _
 | i + 1=>by
  rw [ID,FJ];have ih:=DC val i;split <;> lia
end
section
variable {prog:Program} {w:World} {A:Around} {R:Result->Shared->Prop} {I:Addr} {fp wr:List Addr} {G:Array GenState->Array GenState->Prop} {n:Nat} {P:Nat->Value->Prop} {St:Nat->Shared->Prop}
variable {K:Type} [DecidableEq K] [BEq K] [LawfulBEq K] {knd:KeyKind prog w K}
end
section
variable {prog:Program} {w:World} {A:Around} {E:Value->Shared->Prop} {s:Shared}
variable {K:Type} [DecidableEq K] [BEq K] [LawfulBEq K] {knd:KeyKind prog w K}
end
theorem Ma (ss:List Str):met (fun i=>ss.getD i (Str.ofString "")) ss.length=ss.foldl step_dedup []:=by
 unfold met;congr 1;refine af (by simp) fun i h1 h2=>?_
 simp [Zo,YJ h2]
def DE (h:Heap) (d:Addr) (es:Array DictEntry) (ep:Nat):Prop:=∃ o,h.get? d=some o/\o.ExactDict/\o.data=.dict es ep
theorem DE.typeIs {s:Shared} {d:Addr} {es:Array DictEntry} {ep:Nat} (x:DE s.heap d es ep):s.TypeIs (.ref d) "dict":=let ⟨o,h1,h2,_⟩:=x; ⟨o,h1,h2.1⟩
theorem DE.at' {h h':Heap} {d:Addr} {es:Array DictEntry} {ep:Nat} (x:DE h d es ep) (e:∀ o,h.get? d=some o->h'.get? d=some o):DE h' d es ep:=let ⟨o,h1,r⟩:=x; ⟨o,e _ h1,r⟩
theorem DE.lt {h:Heap} {d:Addr} {es:Array DictEntry} {ep:Nat} (x:DE h d es ep):d < h.objs.size:=let ⟨_,h1,_⟩:=x; YV h1
section
variable {prog:Program} {w:World} {A:Around} {E:Value->Shared->Prop} {s:Shared}
theorem LJ {d:Addr} {es:Array DictEntry} {ep:Nat} {Q:Value->Shared->Prop} (hd:(d == sysModules)=false) (hm:DE s.heap d es ep)
  (hQ:Q (.ref s.heap.objs.size) { s with heap:=s.heap.push { cls:=.type "dict_keyiterator",data:=.fields #[.ref d,.int 0 0,.int es.size 0,.int ep 0] } }) :
  wpAny (model prog w) A (pyIter (.ref d)) Q E s:=by
 obtain ⟨o,ho,hc,hdat⟩:=id hm;have hT:s.TypeIs (.ref d) "dict":=hm.typeIs;refine wpAny_pyIter_slot hT F.slot_dict_iter (wpAny_call_entry F.slot_dict_iter hT F.entry_dict_iter ?_ (F.args_dict_iter_1 _));unfold Builtin.«dict.__iter__»;refine wpAny_bind ?_;unfold Builtin.Dict.dictSlotNone;refine wpAny_bind (wpAny_notOrdered_dict hT ?_);show wpAny _ _ (pure (Value.ref d)) _ _ s
 refine wpAny_pure ?_;show wpAny _ _ (Builtin.Dict.showsAll d >>= _) _ _ s
 unfold Builtin.Dict.showsAll;rw [if_neg (by rw [hd]; exact Zd)];refine wpAny_bind (wpAny_pure ?_);refine wpAny_bind (wpAny_dictEntries ho hdat ?_);refine wpAny_bind (wpAny_dictEpoch ho hdat ?_);have hsz:es.size=es.size:=rfl;refine wpAny_bind (wpAny_newObj_type (wpAny_pure ⟨_,rfl,"dict_keyiterator",_,⟨_,YW _ rfl,rfl⟩,F.slot_dict_keyiterator_next.lookup,?_⟩));simpa [rawInt] using hQ
theorem LK {it d:Addr} {i ep:Nat} {es:Array DictEntry} {key:Value} {Q:Option Value->Shared->Prop} (hit:s.heap.IsKeyIter it d i es.size ep)
  (hm:DE s.heap d es ep) (hx:es[i]?.map (·.key)=some key)
  (hQ:∀ h',h'.IsKeyIter it d (i + 1) es.size ep->Heap.SameBut it s.heap h'->Q (some key) { s with heap:=h' }) :
  wpAny (model prog w) A (pyNext (.ref it)) Q E s:=by
 obtain ⟨o,ho,hc,hd⟩:=id hit;obtain ⟨od,hod,hcd,hdd⟩:=id hm;unfold pyNext;refine wpAny_bind (wpAny_attempt (wpAny_callSpecial?_slot (name:=Str.ofString "__next__") hit.typeIs F.slot_dict_keyiterator_next
  (wpAny_call_entry F.slot_dict_keyiterator_next hit.typeIs F.entry_dict_keyiterator_next ?_ (F.args_dict_keyiterator_next_1 _))))
 refine wpAny_bind (wpAny_pure ?_);refine wpAny_bind ?_;refine wpAny_bind ?_;first | refine wpAny_bind (wpAny_typeNameOfWhole_keyiter hit.typeIs (wpAny_pure ?_)) | refine wpAny_bind (wpAny_typeNameOf_keyiter hit.typeIs (wpAny_pure ?_))
 refine wpAny_bind (wpAny_fieldsOf ho hd ?_);have hown:Builtin.Dict_items.ownsTuple "dict_keyiterator"=false:=by decide
 simp only [hown,Zp,if_false];show wpAny _ _ (if (Value.ref d == Value.none)=true then _ else _) _ _ s
 rw [if_neg (show ¬ ((Value.ref d == Value.none)=true) from Zd)];refine wpAny_bind (wpAny_pure ?_);refine wpAny_bind (wpAny_dictEntries hod hdd ?_);have hsz:es.size=es.size:=rfl;rw [if_neg (by rw [hsz]; simp)];refine wpAny_bind (wpAny_pure ?_);refine wpAny_bind (wpAny_dictEpoch hod hdd ?_);rw [if_neg (by simp)];refine wpAny_pure ?_;have R6:i < es.size:=by
  rcases bc i es.size with h | h
  ·exact h
  ·rw [aE h] at hx; cases hx
 have hkey:es[i].key=key:=by rw [ZK R6] at hx; exact Zf.inj hx
 simp only [show ¬ ((i:Int) < 0) from by lia,if_false,aI,ZK R6];refine wpAny_bind ?_;first | refine wpAny_bind (wpAny_typeNameOfWhole_keyiter hit.typeIs (wpAny_pure ?_)) | refine wpAny_bind (wpAny_typeNameOf_keyiter hit.typeIs (wpAny_pure ?_))
 refine wpAny_bind (wpAny_isOneOf_keyiter hit.typeIs ?_);show wpAny _ _ (setField (.ref it) 1 (rawInt ((i:Int) + 1)) >>= _) _ _ s
 refine wpAny_bind (wpAny_setField ho hd (by simp) ?_);have J4:(s.heap.update it (Obj.mapFields (·.setIfInBounds 1 (rawInt ((i:Int) + 1))))).IsKeyIter it d (i + 1) es.size ep:=
  ⟨_,Z8 _ ho (Obj.isFreed_of_fields (Obj.data_mapFields hd _)),(Obj.cls_mapFields ..).trans hc,by rw [Obj.data_mapFields hd]; simp [rawInt]⟩
 refine wpAny_bind (wpAny_holding ?_);refine wpAny_bind (wpAny_isOneOf_keyiter (s:={ s with heap:=s.heap.update it (Obj.mapFields (·.setIfInBounds 1 (rawInt ((i:Int) + 1)))) }) J4.typeIs ?_);show wpAny _ _ (pure es[i].key) _ _ _
 exact wpAny_pure (wpAny_pure ⟨_,rfl,wpAny_pure (hkey ▸ hQ _ J4 (Heap.SameBut.update ..))⟩)
theorem NQ {it d:Addr} {i ep:Nat} {es:Array DictEntry} {Q:Option Value->Shared->Prop} (hh:A.handled=none) (hit:s.heap.IsKeyIter it d i es.size ep)
  (hm:DE s.heap d es ep) (hx:es.size<=i)
  (hQ:∀ h',Heap.ExtBut it s.heap h'->Q none { s with heap:=h' }):wpAny (model prog w) A (pyNext (.ref it)) Q E s:=by
 obtain ⟨o,ho,hc,hd⟩:=id hit;obtain ⟨od,hod,hcd,hdd⟩:=id hm;unfold pyNext;refine wpAny_bind (wpAny_attempt (wpAny_callSpecial?_slot (name:=Str.ofString "__next__") hit.typeIs F.slot_dict_keyiterator_next
  (wpAny_call_entry F.slot_dict_keyiterator_next hit.typeIs F.entry_dict_keyiterator_next ?_ (F.args_dict_keyiterator_next_1 _))))
 refine wpAny_bind (wpAny_pure ?_);refine wpAny_bind ?_;refine wpAny_bind ?_;first | refine wpAny_bind (wpAny_typeNameOfWhole_keyiter hit.typeIs (wpAny_pure ?_)) | refine wpAny_bind (wpAny_typeNameOf_keyiter hit.typeIs (wpAny_pure ?_))
 refine wpAny_bind (wpAny_fieldsOf ho hd ?_);have hown:Builtin.Dict_items.ownsTuple "dict_keyiterator"=false:=by decide
 simp only [hown,Zp,if_false];show wpAny _ _ (if (Value.ref d == Value.none)=true then _ else _) _ _ s
 rw [if_neg (show ¬ ((Value.ref d == Value.none)=true) from Zd)];refine wpAny_bind (wpAny_pure ?_);refine wpAny_bind (wpAny_dictEntries hod hdd ?_);have hsz:es.size=es.size:=rfl;rw [if_neg (by rw [hsz]; simp)];refine wpAny_bind (wpAny_pure ?_);refine wpAny_bind (wpAny_dictEpoch hod hdd ?_);rw [if_neg (by simp)];refine wpAny_pure ?_;have hge:es.size<=i:=hx;simp only [show ¬ ((i:Int) < 0) from by lia,if_false,aI,aE hge];refine wpAny_bind ?_;first | refine wpAny_bind (wpAny_typeNameOfWhole_keyiter hit.typeIs (wpAny_pure ?_)) | refine wpAny_bind (wpAny_typeNameOf_keyiter hit.typeIs (wpAny_pure ?_))
 show wpAny _ _ (setField (.ref it) 0 .none >>= _) _ _ s
 refine wpAny_bind (wpAny_setField ho hd (by simp) ?_);show wpAny _ _ (newExc (.type "StopIteration") [] >>= _) _ _ _
 refine wpAny_bind ?_;simp only [newExc,newTuple];refine wpAny_bind (wpAny_newObj_type ?_ (by size_fits));refine wpAny_bind (m:=firstArgMember _ _) (wpAny_of_eq (a:=Value.none) (by first | rfl | (simp only [firstArgMember]; rfl)) ?_);refine wpAny_newObj_type ?_ (by size_fits);simp only [raiseNew];refine wpAny_bind (wpAny_handled ?_);rw [show A.in1.handled=none from hh];refine wpAny_bind (wpAny_pure (wpAny_throw ?_));refine wpAny_bind (wpAny_isInstance (T:="StopIteration") (b:=true) ⟨_,YW _ rfl,rfl⟩ isSubtype_stop ?_);exact wpAny_pure (hQ _ (((Heap.SameBut.update ..).extBut.push _).push _))
theorem Pd (hh:A.handled=none) (I d:Addr) (hne:d ≠ I) (es:Array DictEntry) (ep:Nat) :
  Walks prog w A I [I,d] [I] es.size (fun i v=>es[i]?.map (·.key)=some v) (fun i h=>h.IsKeyIter I d i es.size ep/\DE h d es ep) where
 sub:=fun b hb=>by simp at hb; simp [hb]
 frame:=fun _ _ _ st hk=>⟨st.1.at fun o e=>hk I (by simp) o e,st.2.at' fun o e=>hk d (by simp) o e⟩
 item:=fun i s Q E hi st hQ=>by
  have hx:es[i]?.map (·.key)=some es[i].key:=by rw [ZK hi]; rfl
  refine LK st.1 st.2 hx fun h' J4 Mh=>?_
  exact hQ _ h' s.toks hx ⟨J4,st.2.at' fun o e=>Mh.extBut d o hne e⟩ fun b o hb e=>Mh.extBut b o (fun h=>hb (by simp [h])) e
 done:=fun s Q E st hQ=>NQ hh st.1 st.2 (YO _) fun h' Ge=>hQ h' s.toks fun b o hb e=>Ge b o (fun h=>hb (by simp [h])) e
 self:=fun _ _ _ _ st hQ=>wpAny_pyIter_keyiter st.1 hQ
theorem SH {d:Addr} {es:Array DictEntry} {ep:Nat} (lo:(d == sysModules)=false):cY prog w "dict" d d es.size (fun i v=>es[i]?.map (·.key)=some v) (fun h=>DE h d es ep) where
 type:=fun _ hm=>hm.typeIs
 there:=fun _ hm=>⟨hm.lt,hm.lt⟩
 keep:=fun _ _ hm hk=>hm.at' fun o e=>hk d (.inl rfl) o e
 notList:=by decide
 notTuple:=by decide
 hint:=fun _ _ _ _ hm hq=>PySem.W.kdl_hint_dict hm.typeIs hq
 iter:=fun _ _ hh hm=>⟨_,_,(fun _ _ hq=>LJ lo hm hq),Pd hh _ d (YX hm.lt) es ep,⟨⟨_,YW _ rfl,rfl,rfl⟩,hm.at' fun o e=>YK _ e⟩⟩
end
structure Fn (K:YL) (mg:Str->Option Value) (nm:Str) (st:Stmt) (ps:List Str) (f:Addr) (fd:FuncData):Prop where
 F:DT K nm nm st f fd
 mg:mg nm=some (.ref f)
 b:Hx K fd ps []
theorem Lz {κ:Type} [DecidableEq κ] {kvs:List (κ × V)} {k:κ} {v:V} (h:(k,v) ∈ kvs):∃ v',Bu kvs k=some v'/\(k,v') ∈ kvs:=by
 induction kvs with
 | nil=>exact nomatch h
 | cons p r ih=>
  by_cases e:p.1=k
  ·exact ⟨p.2,DI e,by rw [<-e]; exact Zg⟩
  ·rcases YM.mp h with z | z
   ·exact absurd (by rw [<-z]) e
   ·obtain ⟨v',a,b⟩:=ih z;exact ⟨v',by rw [Dl e]; exact a,Ze _ b⟩
structure O6 (H:Hp) (m:Addr) (n:Nat) (xs:List Str) (ws:List AA):Prop where
 ex:∃ t1 t2:Addr,∃ vs:List V,H m=some (.tup [.ref t1,.ref t2])/\H t1=some (.tup (xs.map V.str))/\H t2=some (.tup vs)/\AY H vs (ws.map Kx)
 len:xs.length=n
 nd:xs.Nodup
 nm:∀ x ∈ xs,AQ x=true
 wl:ws.length<=100
 wn:∀ u ∈ ws,AQ u.1=true/\AQ u.2.1=true/\1<=u.2.2/\u.2.2 < 10 ^ 30
def iSeq (K:YL) (tl:TE):TI:=fun σ H R=>tl σ H fun x H1=>∃ a,x=.ref a/\(((∃ xs,AD K H1 a xs)/\R (Sr K a) H1)\/((∃ xs,AI K H1 a xs)/\R (Qf K a) H1))
theorem UM {X:Cx} {tg l:Expr} {tl:TE} (hl:PE X l tl):PI X tg l (iSeq X.K tl):=by
 intro pins s σ H R I h;refine Bj (hl (pins:=pins) s σ H _ I h) fun v s1 ⟨x,H1,I1,r1,q1⟩=>?_
 obtain ⟨a,e,q1⟩:=q1;subst e;cases r1
 have fp:∀ b ∈ [s1.heap.objs.size],DG X pins H1 b:=fun b hb=>by
  have e:b=s1.heap.objs.size:=by simpa using hb
  subst e;exact I1.fpOk (YO _) (I1.hok.fresh (YO _))
 rcases q1 with ⟨⟨xs,hq⟩,q⟩ | ⟨⟨xs,hq⟩,q⟩
 ·obtain ⟨Aq,rv,p,hz⟩:=I1.list hq;refine wpAny_pyIter_list p.isList ?_;exact ⟨s1.heap.objs.size,[s1.heap.objs.size],_,_,H1,rfl,I1.kept (t':=s1.toks) fun b o e=>YK _ e,JI a _,⟨_,YW _ rfl,rfl,rfl⟩,fp,q⟩
 ·obtain ⟨Aq,rv,p,hz⟩:=I1.tuple hq;refine wpAny_pyIter_tuple (show s1.heap.IsTuple a Aq.toArray from p) ?_;exact ⟨s1.heap.objs.size,[s1.heap.objs.size],_,_,H1,rfl,I1.kept (t':=s1.toks) fun b o e=>YK _ e,HX a _,⟨_,YW _ rfl,rfl,rfl⟩,fp,q⟩
structure Nv (J:It) (xs:List V) (S:Hp->Prop):Prop where
 go:∀ i H,S H->i < xs.length->J.go i H
 yld:∀ i H x H',S H->J.yld i H x H'->H'=H/\xs[i]? = some x
 stop:∀ H,S H->J.stop xs.length H
theorem BV {K:YL} {a:Addr} {xs:List V}:Nv (Sr K a) xs (fun H=>AD K H a xs):=
 ⟨fun i H q Bv=>⟨xs,xs[i],q,by simp [Bv]⟩,fun i H x H' q y=>⟨y.1,y.2 xs q⟩,fun H q=>⟨xs,q,YO _⟩⟩
theorem BD {K:YL} {a:Addr} {xs:List V}:Nv (Qf K a) xs (fun H=>AI K H a xs):=
 ⟨fun i H q Bv=>⟨xs,xs[i],q,by simp [Bv]⟩,fun i H x H' q y=>⟨y.1,y.2 xs q⟩,fun H q=>⟨xs,q,YO _⟩⟩
theorem Bx {J:It} {xs:List V} {S:Hp->Prop} {g:TG} {te:TE} {H:Hp} {σ0:St} {R:Addr->Hp->Prop} (ov:Nv J xs S) (I:Addr->Nat->St->Hp->List V->Prop) (big:xs.length < sizeLine)
  (h0:∀ D,H D=none->I D 0 σ0 (upd H D (.lst [])) [])
  (hs:∀ D i σ H' acc,H D=none->I D i σ H' acc->S H'/\H' D=some (.lst acc)/\acc.length=i)
  (turn:∀ D i σ H' acc x (B:St->V->Hp->Prop),H D=none->xs[i]? = some x->I D i σ H' acc->(∀ Az v H5,H5 D=some (.lst acc)->I D (i + 1) Az (upd H5 D (.lst (acc ++ [v]))) (acc ++ [v])->B Az v H5)->g x σ H' fun Az H3=>te Az H3 (B Az))
  (fin:∀ D σ H' acc,H D=none->I D xs.length σ H' acc->R D H') :
  ∀ D,H D=none->∃ W:Nat->Nat->St->Hp->Prop,(∃ m,W 0 m σ0 (upd H D (.lst []))) /\
   ∀ i m Aw H',W i m Aw H'->(J.stop i H'/\R D H')\/(J.go i H'/\∀ x H2,J.yld i H' x H2->g x Aw H2 fun Az H3=>L3 Az H3 fun b H4=>
    if b=true then te Az H4 (fun v H5=>∃ acc,H5 D=some (.lst acc)/\acc.length < sizeLine/\∃ m',m' < m/\W (i + 1) m' Az (upd H5 D (.lst (acc ++ [v])))) else ∃ m',m' < m/\W (i + 1) m' Az H4):=by
 intro D hD;refine ⟨fun i m σ H'=>m=xs.length - i/\i<=xs.length/\∃ acc,I D i σ H' acc,⟨xs.length,rfl,Zz _,[],h0 D hD⟩,?_⟩;rintro i m σ H' ⟨rfl,hi,acc,p⟩;obtain ⟨s1,s2,s3⟩:=hs D i σ H' acc hD p;by_cases Bv:i < xs.length
 ·refine .inr ⟨ov.go i H' s1 Bv,fun x H2 y=>?_⟩;obtain ⟨rfl,ex⟩:=ov.yld i H' x H2 s1 y;have e:∀ (F:St->V->Hp->Prop) (G:St->Hp->Prop),(fun (Az:St) (H3:Hp)=>L3 Az H3 fun b H4=>if b=true then te Az H4 (F Az) else G Az H4)=fun Az H3=>te Az H3 (F Az):=by
   intro F G;funext Az H3;show (if true=true then te Az H3 (F Az) else G Az H3)=_
   rw [if_pos rfl]
  rw [e (fun Az v H5=>∃ acc,H5 D=some (.lst acc)/\acc.length < sizeLine/\∃ m',m' < xs.length - i/\(m'=xs.length - (i + 1)/\i + 1<=xs.length/\∃ Jl,I D (i + 1) Az (upd H5 D (.lst (acc ++ [v]))) Jl)) (fun Az H4=>∃ m',m' < xs.length - i/\(m'=xs.length - (i + 1)/\i + 1<=xs.length/\∃ Jl,I D (i + 1) Az H4 Jl))];refine turn D i σ H2 acc x _ hD ex p fun Az v H5 d5 p5=>?_
  exact ⟨acc,d5,by lia,xs.length - (i + 1),by lia,rfl,Bv,_,p5⟩
 ·have e:i=xs.length:=by lia
  subst e;exact .inl ⟨ov.stop H' s1,fin D σ H' acc hD p⟩
structure CQ (d:PyData) (k b:Nat):Prop where
 lay:d.canLay0=true
 sho:d.showable=true
 nod:d.hasDict=false
 lv:d.leavesShort 200=true
 dp:d.depth<=k
 bu:d.bulk<=b
theorem CQ.str {x:Str} (h:AQ x=true):CQ (.str x) 0 6:=by
 obtain ⟨l1,l2,lo⟩:=MT h;refine ⟨?_,rfl,rfl,?_,YO _,?_⟩
 ·have:=CN (xs:=[x]) (by simpa using h);simpa [PyData.canLayAll0,PyData.canLay0] using this
 ·have e:PyData.leavesShort 200 (.str x)=x.cps.toList.all fun c=>decide (c < 16 ^ 8):=by simp only [PyData.leavesShort]
  rw [e,ZT];intro c hc;have:=lo c hc;unfold Ga at this;simp at this;apply decide_eq_true;lia
 ·show PyData.bulk (.str x)<=6
  simp only [PyData.bulk];exact l2
theorem CQ.mono {d:PyData} {k b k' b':Nat} (h:CQ d k b) (h1:k<=k') (h2:b<=b'):CQ d k' b':=⟨h.lay,h.sho,h.nod,h.lv,Zj h.dp h1,Zj h.bu h2⟩
theorem CQ.all {k b:Nat}:∀ {ds:List PyData},(∀ d ∈ ds,CQ d k b)->PyData.canLayAll0 ds=true/\PyData.showableAll ds=true/\PyData.hasDictAll ds=false/\PyData.leavesShortAll 200 ds=true/\PyData.depthAll ds<=k/\PyData.bulkAll ds<=ds.length * (b + 1)
 | [],_=>⟨rfl,rfl,rfl,rfl,Zz _,Zz _⟩
 | d :: ds,h=>by
  obtain ⟨a1,a2,a3,a4,a5,a6⟩:=CQ.all (ds:=ds) fun e he=>h e (Ze _ he)
  have f:=h d Zg;have f5:=f.dp;have f6:=f.bu;refine ⟨by simp [PyData.canLayAll0,f.lay,a1],by simp [PyData.showableAll,f.sho,a2],by simp [PyData.hasDictAll,f.nod,a3],by simp [PyData.leavesShortAll,f.lv,a4],?_,?_⟩
  ·simp only [PyData.depthAll];lia
  ·simp only [PyData.bulkAll,Zm,dO];lia
theorem CQ.tuple {ds:List PyData} {k b:Nat} (h:∀ d ∈ ds,CQ d k b):CQ (.tuple ds) (k + 1) (ds.length * (b + 1)):=by
 obtain ⟨a1,a2,a3,a4,a5,a6⟩:=CQ.all h;exact ⟨by simp only [PyData.canLay0]; exact a1,by simp only [PyData.showable]; exact a2,by simp only [PyData.hasDict]; exact a3,by simp only [PyData.leavesShort]; exact a4,by simp only [PyData.depth]; lia,by simp only [PyData.bulk]; exact a6⟩
theorem CQ.list {ds:List PyData} {k b:Nat} (h:∀ d ∈ ds,CQ d k b):CQ (.list ds) (k + 1) (ds.length * (b + 1)):=by
 obtain ⟨a1,a2,a3,a4,a5,a6⟩:=CQ.all h;exact ⟨by simp only [PyData.canLay0]; exact a1,by simp only [PyData.showable]; exact a2,by simp only [PyData.hasDict]; exact a3,by simp only [PyData.leavesShort]; exact a4,by simp only [PyData.depth]; lia,by simp only [PyData.bulk]; exact a6⟩
abbrev BS:=Str × Int
def Gy (u:BS):PyData:=.tuple [.str u.1,.int u.2]
structure GV (xs:List Str) (lo:Int) (rs:List BS):Prop where
 sub:∀ r ∈ rs,r.1 ∈ xs
 nd:(rs.map (·.1)).Nodup
 lo:∀ r ∈ rs,lo<=r.2/\r.2 < 10 ^ 30
 one:1<=rs.length
theorem PU {xs:List Str} (h:∀ x ∈ xs,AQ x=true):∀ d ∈ xs.map PyData.str,CQ d 0 6:=by
 intro d hd;obtain ⟨u,hu,rfl⟩:=YT.mp hd;exact CQ.str (h u hu)
theorem QO {H:Hp} {v:V} {u:BS} (h:Fx H v (Gy u)):∃ t,v=.ref t/\H t=some (.tup [.str u.1,.int u.2]):=by
 unfold Gy at h;cases h with
 | tup ha hd=>
  cases hd with
  | cons h1 r1=>
   cases r1 with
   | cons h2 r2=>
    cases r2
    cases h1
    cases h2
    exact ⟨_,rfl,ha⟩
theorem NO {H:Hp} {t:Addr} {u:BS} (h:H t=some (.tup [.str u.1,.int u.2])):Fx H (.ref t) (Gy u):=.tup h (.cons (.str _) (.cons (.int _) .nil))
theorem Cf {H2 H3:Hp} {vs:List V} {rs:List BS} (h:AY H2 vs (rs.map Gy)) (ht:∀ b xs,H2 b=some (.tup xs)->H3 b=some (.tup xs)):AY H3 vs (rs.map Gy):=by
 induction rs generalizing vs with
 | nil=>cases h; exact .nil
 | cons u rs ih=>
  cases h with
  | cons h1 r=>
   obtain ⟨t,rfl,e⟩:=QO h1;exact .cons (NO (ht _ _ e)) (ih r)
theorem CO {H:Hp}:∀ {vs:List V} {rs:List BS} {i:Nat} {x:V},AY H vs (rs.map Gy)->vs[i]? = some x->∃ u t,rs[i]? = some u/\x=.ref t/\H t=some (.tup [.str u.1,.int u.2])
 | _,[],i,x,.nil,e=>by simp at e
 | _,u :: rs,0,x,.cons h r,e=>by
  simp only [Z9,Zf.injEq] at e;subst e;obtain ⟨t,rfl,q⟩:=QO h;exact ⟨u,t,rfl,rfl,q⟩
 | _,u :: rs,i + 1,x,.cons h r,e=>by
  obtain ⟨u',t,a,b,c⟩:=CO r (by simpa using e);exact ⟨u',t,by simpa using a,b,c⟩
theorem BC {H:Hp}:∀ {vs:List V} {rs:List BS},AY H vs (rs.map Gy)->vs.length=rs.length
 | _,[],.nil=>rfl
 | _,u :: rs,.cons h r=>by rw [Zm,Zm,BC r]
def Lim (x:V) (d:PyData):Prop:=(x=.non/\d=.none)\/∃ i:Int,x=.int i/\d=.int i/\1<=i/\i < 10 ^ 30
end L2
namespace L2
open PySem PySem.Spec PySem.W PyProof.Rows
theorem N2 {X:Cx} {pins:List (Addr × Obj)} {σ:St} {H:Hp} {s:Shared} (I:An X pins σ H s) {kd:Nat->Bool}:∀ {vs:List V} {Aq:List Value},A0 vs Aq->(∀ v ∈ vs,Nn H kd v)->∀ u ∈ Aq,Mw s.heap kd u
 | _,_,.nil,_,_,hu=>nomatch hu
 | _,_,.cons r1 r2,hk,u,hu=>by
  rcases YM.mp hu with rfl | hu
  ·exact (Qx I r1 (hk _ Zg)).1
  ·exact N2 I r2 (fun v hv=>hk v (Ze _ hv)) u hu
end L2
namespace L2
open PySem PySem.Spec PyProof.Rows
theorem Lf (d:PyData) (h:d.canLay0=true):(!PyData.eqv d d)=false:=by rw [SeqAt.eqv_refl d h]; rfl
theorem O6.keepT {H H':Hp} {m:Addr} {n:Nat} {xs:List Str} {ws:List AA} (h:O6 H m n xs ws) (t:∀ b ys,H b=some (.tup ys)->H' b=some (.tup ys)):O6 H' m n xs ws:=by
 obtain ⟨ta,tb,vs,a,b,c,e⟩:=h.ex;exact ⟨⟨ta,tb,vs,t _ _ a,t _ _ b,t _ _ c,Ez e t⟩,h.len,h.nd,h.nm,h.wl,h.wn⟩
theorem MB {x y x' y':Str} (p:[x',y'].Perm [x,y]) (h:sortedS [x',y']=true):x'=BP x y/\y'=BQ x y:=by
 have h1:=C2 h;have h2:[BP x y,BQ x y].Pairwise fun a b=>¬ b.cps.toList < a.cps.toList:=by
  refine List.pairwise_pair.mpr ?_;unfold BP BQ;by_cases a:y.cps.toList < x.cps.toList
  ·rw [if_pos a,if_neg (fun z=>Cr _ (ak a z))];exact fun z=>Cr _ (ak a z)
  ·rw [if_neg a];by_cases b:x.cps.toList < y.cps.toList
   ·rw [if_pos b];exact a
   ·rw [if_neg b];exact Cr _
 have p2:[BP x y,BQ x y].Perm [x,y]:=by
  unfold BP BQ;by_cases a:y.cps.toList < x.cps.toList
  ·rw [if_pos a,if_neg (fun z=>Cr _ (ak a z))];exact .swap _ _ _
  ·rw [if_neg a];by_cases b:x.cps.toList < y.cps.toList
   ·rw [if_pos b]
   ·rw [if_neg b];have e:x=y:=CJ a b;rw [e]
 have e:=Gw h1 h2 (p.trans p2.symm);simp only [aT.injEq,and_true] at e;exact e
structure HK (H:Hp) (m:Addr) (n:Nat) (ps:List Str) (ws:List AA):Prop where
 at':O6 H m n ps ws
 dr:∃ (xs:List Str) (V2:List AA),ps.Perm xs/\ws.Perm (V2.map E8)/\Fw xs V2
 so:sortedS ps=true
 l64:ws.length < 64
theorem HK.web {H:Hp} {m:Addr} {n:Nat} {ps:List Str} {ws:List AA} (h:HK H m n ps ws) (n1:1<=n) (n30:n<=30) :
  ∃ r,Jm H m ps ws r/\(∀ u ∈ ws,1<=u.2.2)/\(∀ x y l l',C1 ws x y l->C1 ws x y l'->l=l'):=by
 obtain ⟨xs,V2,pp,wp,wof,sep,jn⟩:=h.dr;have pl:0 < ps.length:=by rw [h.at'.len]; lia
 have hr0:ps[0] ∈ xs:=pp.mem_iff.mp (ZI pl);have en:=fun x y l=>Kj wp x y l
 refine ⟨ps[0],⟨⟨h.at'.ex⟩,h.at'.nd,by rw [h.at'.len]; lia,h.l64,fun u hu=>?_,YJ pl,fun Sp hs hcl z hz=>?_⟩,fun u hu=>(h.at'.wn u hu).2.2.1,fun x y l l' e1 e2=>PX sep ((en x y l).mp e1) ((en x y l').mp e2)⟩
 ·obtain ⟨q1,q2⟩:=Ki wp (fun u hu=>⟨(wof u hu).1,(wof u hu).2.1⟩) u hu;exact ⟨pp.mem_iff.mpr q1,pp.mem_iff.mpr q2⟩
 ·exact Ll.all jn Sp (fun b c hbc=>hcl b c ((RU wp b c).mpr hbc)) hr0 hs z (pp.mem_iff.mp hz)
theorem IM:∀ {ns:List Int} {us:List Value},A0 (ns.map V.int) us->∃ ts:List (Int × Tok),us=ts.map (fun p=>Value.int p.1 p.2)/\ts.map (·.1)=ns
 | [],_,.nil=>⟨[],rfl,rfl⟩
 | n :: ns,_,.cons r q=>by
  obtain ⟨t,rfl⟩:=r;obtain ⟨ts,rfl,e⟩:=IM q;exact ⟨(n,t) :: ts,rfl,by rw [Zb,e]⟩
theorem CG {X:Cx} (hc:X.calm=true):Bd X (.builtin "sum") (fun xs H Q=>∃ (a:Addr) (ns:List Int),xs=[.ref a]/\AD X.K H a (ns.map V.int)/\Q (.int ns.sum) H):=by
 intro pins s σ H xs us Q I r h;obtain ⟨a,ns,rfl,ha,q⟩:=h;obtain ⟨u,rfl,ru⟩:=BZ r;cases ru
 obtain ⟨Aq,rv,pl,hz⟩:=I.list ha;obtain ⟨ts,rfl,e⟩:=IM rv;have hl:s.heap.IsList a (intItems ts.toArray):=by
  have:=pl.isList;unfold intItems;simpa using this
 refine sum_intListG (I.ok.hd hc) hl fun h' tk t' kk=>?_
 refine ⟨.int ns.sum,H,I.kept (t':=tk) kk,⟨t',?_⟩,q⟩;have:preSum (numAt ts.toArray) ts.toArray.size=ns.sum:=by
  rw [preSum_eq,aG (by simp),<-e]
 rw [this]
theorem J0:typeLookup (.type "tuple") "keys"=pure none:=by rw [typeLookup_type,builtinLookup_eq_fast]; kernel_rfl
theorem OI {prog:Program} {w:World} {A:Around} {E:Value->Shared->Prop} {s:Shared} {a:Addr} {o:Obj} {xs:Array Value} {k:Nat} {Q:Option Value->Shared->Prop}
  (hx:s.heap.get? a=some o) (hc:o.cls=.type "tuple") (hdat:o.data=.seq xs k) (hd:o.dict=none) (hA:A.handled=none)
  (h:∀ h' tk,(∀ b ob,s.heap.get? b=some ob->h'.get? b=some ob)->Q none { s with heap:=h',toks:=tk }):wpAny (model prog w) A (getAttr? (.ref a) "keys") Q E s:=by
 obtain ⟨c,dct,dat,sl⟩:=o;simp only at hc hdat hd;subst hc hdat hd;obtain ⟨hp,g,d,tk,os⟩:=s;have hT:∀ V3,(⟨hp,g,d,V3,os⟩:Shared).TypeIs (.ref a) "tuple":=fun _=>⟨_,hx,rfl⟩
 have f1:=sub_AttributeError;have f3:=F.slot_tuple_getattribute.lookup;have f4:=F.slot_tuple_getattribute.bind (.ref a);have f5:=am_tuple_getattr_none;unfold getAttr? getAttrBy? getAttrBy;repeat (any_goals (first | assumption | exact hT _ | ((with_reducible show wpAny _ _ (call (Value.builtin "tuple.__getattribute__") _ _) _ _ _); refine call_meets F.slot_tuple_getattribute (hT _) am_entry_tuple_getattribute (F.args_tuple_getattribute_2 _ _) (meets_getattribute_miss_tuple a xs k sl "keys" _ J0 (by decide +kernel) (by decide +kernel)) ⟨hx,hA,fun h' V3 e Jq=>?_⟩) | wp_step))
 obtain ⟨t',u',he⟩:=Jq.there;show wpAny _ _ (getattributeRaised _ _ _ _ _ _ _) _ _ _
 unfold getattributeRaised;have hE:∀ V3,(⟨h',g,d,V3,os⟩:Shared).TypeIs (.ref e) "AttributeError":=fun _=>⟨_,he,rfl⟩
 repeat (any_goals (first | assumption | exact hE _ | wp_step))
 exact h _ _ Jq.keeps
section
variable {prog:Program} {w:World} {A:Around} {R:Result->Shared->Prop} {g0:Heap} {D it l:Addr} {vs:List Value} {ps:List (Str × V)}
theorem OB (hh:A.handled=none) (nI:it ≠ D) (nl:l ≠ it/\l ≠ D) (g1:∀ b o,g0.get? b=some o->b ≠ it/\b ≠ D) (hl:vs.length=ps.length) (rows:∀ (i:Nat) v p,vs[i]? = some v->ps[i]? = some p->Uw g0 v p) (hsz:ps.length < sizeLine) :
  ∀ (m i:Nat) (s:Shared) (kvs:List (A7 × V)) (us:List (A7 × Value)),ps.length - i=m->i<=ps.length->s.heap.IsTupleIter it l i->s.heap.IsTuple l vs.toArray->KV kvs us->kvs.length<=i->s.heap.DictOf (AL prog w) D us->(∀ b o,g0.get? b=some o->s.heap.get? b=some o) ->
   (∀ h' tk Ky,KV (IE kvs (sK (ps.drop i))) Ky->h'.DictOf (AL prog w) D Ky->(∀ b o,b ≠ it->b ≠ D->s.heap.get? b=some o->h'.get? b=some o)->R (.ok (.ret .none)) { s with heap:=h',toks:=tk }) ->
   codeAny (model prog w) A (.builtin "dict.update.loop" ⟨[.ref D,.ref it,.int (i:Int) 0,.none],[]⟩) R s:=by
 intro m;induction m with
 | zero=>
  intro i s kvs us hm hi st hL kv kl dd gk r;have e:i=ps.length:=by lia
  refine codeAny_builtin EG ?_;rw [Around.under_plainId Cz _];unfold Builtin.«dict.update.loop»;refine wpAny_bind (wpAny_pyNext_tuple_end hh st hL (by simp; lia) fun h' eb=>?_);refine wpAny_bind (wpAny_pure (wpAny_pure ?_));have M3:h'.DictOf (AL prog w) D us:=dd.at fun o q=>eb D o (Ne.symm nI) q
  refine r h' s.toks us ?_ M3 fun b o b1 b2 q=>eb b o b1 q
  rw [e,List.drop_length];exact kv
 | succ m ih=>
  intro i s kvs us hm hi st hL kv kl dd gk r;have Bv:i < ps.length:=by lia
  have ev:vs[i]? = some (vs[i]'(by lia)):=YJ (by lia);have ep:ps[i]? = some ps[i]:=YJ Bv;obtain ⟨a,t,u,e1,ht,ru⟩:=rows i _ _ ev ep;rw [e1] at ev;refine codeAny_builtin EG ?_;rw [Around.under_plainId Cz _];unfold Builtin.«dict.update.loop»;refine wpAny_bind (wpAny_pyNext_tuple_item st hL (x:=.ref a) (by simpa using ev) fun h' AM sb=>?_);obtain ⟨o,ho,hc,n,hd⟩:=id ht;have ha:=(sb.2 a (g1 a o ho).1).trans (gk a o ho);have M3:h'.DictOf (AL prog w) D us:=dd.at fun o q=>(sb.2 D (Ne.symm nI)).trans q
  have L':h'.IsTuple l vs.toArray:=by
   obtain ⟨ol,hol,rl⟩:=hL;exact ⟨ol,(sb.2 l nl.1).trans hol,rl⟩
  refine wpAny_bind (wpAny_holding ?_);refine wpAny_bind (wpAny_tryCatch ?_);unfold Builtin.Dict.pairItems;refine wpAny_bind (wpAny_typeOf (T:="tuple") ⟨o,ha,hc⟩ ?_);rw [if_pos (by decide)];refine wpAny_bind (wpAny_seqItems ha hd (wpAny_pure ?_));show wpAny _ A.in1 (holding [Value.str ps[i].1 t,u] (dictSet D (Value.str ps[i].1 t) u)) _ _ _
  have Xs:us.length<=sizeLine:=by rw [<-kv.length]; lia
  refine wpAny_holding (wpAny_dictSet_pairs (k:=Sum.inr ps[i].1) (hsz:=Xs) (Hq prog w _ t) M3 fun h2 O2 WO=>?_);have ki:((i:Int) + 1)=((i + 1:Nat):Int):=by lia
  refine wpAny_pure ⟨plainId_quiet Cz _,?_⟩;show codeAny (model prog w) A (.builtin "dict.update.loop" ⟨[.ref D,.ref it,.int ((i:Int) + 1) 0,.none],[]⟩) R _
  rw [ki];have kl2:=CM kvs (Sum.inr ps[i].1:A7) ps[i].2;have it2:h2.IsTupleIter it l (i + 1):=by
   obtain ⟨oi,hoi,ri⟩:=AM;exact ⟨oi,(WO.2 it nI).trans hoi,ri⟩
  refine ih (i + 1) _ (Bg kvs (Sum.inr ps[i].1) ps[i].2) _ (by lia) Bv it2 ?_ (kv.put (Sum.inr ps[i].1) ru) (by lia) O2 (fun b ob q=>(WO.2 b (g1 b ob q).2).trans ((sb.2 b (g1 b ob q).1).trans (gk b ob q))) fun h3 U6 us3 kv3 dd3 k3=>?_
  ·obtain ⟨ol,hol,rl⟩:=L';exact ⟨ol,(WO.2 l nl.2).trans hol,rl⟩
  ·refine r h3 U6 us3 ?_ dd3 fun b ob b1 b2 q=>k3 b ob b1 b2 ((WO.2 b b2).trans ((sb.2 b b1).trans q))
   have ed:ps.drop i=ps[i] :: ps.drop (i + 1):=(List.drop_eq_getElem_cons Bv)
   rw [ed];exact kv3
end
section
variable {prog:Program} {w:World} {A:Around} {E:Value->Shared->Prop} {s:Shared}
theorem HI {l:Addr} {vs:List Value} {ps:List (Str × V)} {Q:Value->Shared->Prop} (hh:A.handled=none) {ol:Obj} {nl:Nat} (hl:s.heap.get? l=some ol) (hc:ol.cls=.type "tuple") (hd:ol.data=.seq vs.toArray nl) (hdc:ol.dict=none)
  (hlen:vs.length=ps.length) (rows:∀ (i:Nat) v p,vs[i]? = some v->ps[i]? = some p->Uw s.heap v p) (hsz:ps.length < sizeLine)
  (h:∀ h' tk us,KV (IE [] (sK ps)) us->h'.DictOf (AL prog w) s.heap.objs.size us->(∀ b o,s.heap.get? b=some o->h'.get? b=some o)->Q (.ref s.heap.objs.size) { s with heap:=h',toks:=tk }):wpAny (model prog w) A (call (.type "dict") [.ref l]) Q E s:=by
 refine callType_codes (Q₁:=fun obj AK=>obj=.ref s.heap.objs.size/\AK = { s with heap:=s.heap.push { cls:=.type "dict",data:=.dict #[] } }) F.kt_called_dict (F.kt_typeCall_dict_1 _) F.entry_dict_init (kt_code_dict_new _ ⟨rfl,rfl⟩) ?_;rintro obj AK ⟨rfl,rfl⟩;have hnew:(s.heap.push { cls:=.type "dict",data:=.dict #[] }).DictOf (AL prog w) s.heap.objs.size []:=Heap.DictOf.new s.heap;have V9:(s.heap.push { cls:=.type "dict",data:=.dict #[] }).get? l=some ol:=YK _ hl;refine ⟨hnew.typeIs,F.args_dict_init_2 _ _,?_⟩;unfold Builtin.«dict.__init__»;refine wpAny_bind ?_;unfold Builtin.Dict.selfAndRest;refine wpAny_bind (wpAny_notOrdered_dict hnew.typeIs ?_);show wpAny _ _ (pure (s.heap.objs.size,[Value.ref l])) _ _ _
 refine wpAny_pure ?_;show wpAny _ _ (Builtin.Dict.updateFrom "dict.__init__" s.heap.objs.size (.ref l) [] .none) _ _ _
 unfold Builtin.Dict.updateFrom;refine wpAny_bind (wpAny_typeOf (T:="tuple") ⟨ol,V9,hc⟩ ?_);rw [if_pos (by decide)];refine wpAny_bind (OI V9 hc hd hdc hh fun h1 tk1 k1=>?_);simp only [Option.isNone_none,if_true];refine wpAny_bind (wpAny_rule ?_);have Ql:h1.IsTuple l vs.toArray:=⟨ol,k1 _ _ V9,hc,nl,hd⟩
 refine wpAny_bind (wpAny_pyIter_tuple Ql ?_);have old:∀ b o,s.heap.get? b=some o->h1.get? b=some o:=fun b o q=>k1 b o (YK _ q)
 obtain ⟨od,esd,epd,hod,rd⟩:=id hnew;have Uq:=k1 _ _ hod;have ltD:=YV Uq;have ltl:=YV (k1 _ _ V9);refine wpAny_pure ⟨plainId_quiet Cz _,?_⟩;refine OB (A:=A.in1) (g0:=s.heap) (D:=s.heap.objs.size) (it:=h1.objs.size) (l:=l) (vs:=vs) (ps:=ps) hh (ZD ltD) ⟨YX ltl,YX (YV hl)⟩ (fun b o q=>⟨YX (YV (old b o q)),YX (YV q)⟩) hlen rows hsz _ 0 { s with heap:=h1.push { cls:=.type "tuple_iterator",data:=.fields #[.ref l,.int 0 0] },toks:=tk1 } [] [] rfl (Zz _)
  ⟨_,YW _ rfl,rfl,rfl⟩ (Ql.push _) .nil (YO _) ⟨od,esd,epd,YK _ Uq,rd⟩ (fun b o q=>YK _ (old b o q)) fun h' tk us kv dd kk=>?_
 rw [List.drop_zero] at kv;exact ⟨rfl,h h' tk us kv dd fun b o q=>kk b o (YX (YV (old b o q))) (YX (YV q)) (YK _ (old b o q))⟩
end
theorem BY {X:Cx} (hc:X.calm=true):Bd X (.type "dict") (fun xs H Q=>∃ (a:Addr) (vs:List V) (ps:List (Str × V)),xs=[.ref a]/\H a=some (.tup vs)/\vs.length=ps.length/\(∀ (i:Nat) v p,vs[i]? = some v->ps[i]? = some p->∃ t,v=.ref t/\H t=some (.tup [.str p.1,p.2]))/\(ps.map (·.1)).Nodup/\ps.length < 1000 /\
  ∀ D,H D=none->Q (.ref D) (upd H D (.dK (sK ps)))):=by
 intro pins s σ H xs us Q I r h;obtain ⟨a,vs,ps,rfl,ha,hl,hk,hn,h1000,q⟩:=h;obtain ⟨u,rfl,ru⟩:=BZ r;cases ru
 obtain ⟨hz,Aq,rv,⟨o,ho,HS,n,hdat⟩,dn⟩:=(show A5 X.prog X.w H s.heap a (.tup vs) from I.hok a _ ha)
 have M0:=dn o ho;have il:Aq.length=ps.length:=by rw [<-rv.length,hl]
 have big:1000 < sizeLine:=by decide
 refine HI (I.ok.hd hc) (ps:=ps) ho HS hdat M0 il (fun i v p e1 e2=>?_) (by lia) fun h' tk us kv dd kk=>?_
 ·have hi:i < Aq.length:=(YQ.mp e1).1;have e3:vs[i]? = some vs[i]:=YJ (by lia);obtain ⟨v',e4,r4⟩:=rv.get e3;rw [e1] at e4;cases e4
  obtain ⟨t,e5,ht⟩:=hk i _ p e3 e2;rw [e5] at r4;cases r4
  obtain ⟨PJ,rv2,pl2,_⟩:=I.tuple (AI.of ht);cases rv2 with
  | cons x1 y1=>
   cases y1 with
   | cons x2 y2=>
    cases y2
    obtain ⟨t1,rfl⟩:=x1;exact ⟨t,t1,_,rfl,pl2,x2⟩
 ·have em:IE [] (sK ps)=sK ps:=Mb ps [] (by simpa using hn);rw [em] at kv;refine ⟨.ref s.heap.objs.size,_,I.laid (a:=s.heap.objs.size) (o:=.dK (sK ps)) (t':=tk) kk (YO _) (Lh (by rw [CT]; lia) (beq_eq_false_iff_ne.mpr (Ne.symm (YX I.big))) kv dd),rfl,q _ (I.hok.fresh (YO _))⟩
theorem O3 {k:Int} (h1:-(2 ^ 300) < k) (h2:k < 2 ^ 300):Builtin.Int.intBits k<=2 ^ 20:=by
 unfold Builtin.Int.intBits;split
 ·exact Zz _
 ·have hn:k.natAbs < 2 ^ 300:=by lia
  have:k.natAbs.log2 < 300:=by
   rcases cZ k.natAbs with h0 | hp
   ·rw [h0]; decide
   ·exact (dX (by lia)).mpr hn
  lia
def CMulB (i j:Int):Prop:=(-(2 ^ 300) < i/\i < 2 ^ 300)/\(-(2 ^ 300) < j/\j < 2 ^ 300)
theorem Oa {X:Cx}:Ey X (binaryOp .Mult) (rI CMulB fun i j=>.int (i * j)):=opI fun _ _ _ _ _ _ _ hc q=>mul_int q (IntMulOk.of_bits (O3 hc.1.1 hc.1.2) (O3 hc.2.1 hc.2.2))
structure Cm (H:Hp) (c m:Addr) (n:Nat) (xs:List Str) (ws:List AA) (rs1 Au:List BS) (x:V) (d:PyData):Prop where
 ex:∃ (t1 t2:Addr) (Fi MA:List V),H c=some (.tup [.ref m,.ref t1,.ref t2,x])/\H t1=some (.tup Fi)/\AY H Fi (rs1.map Gy)/\H t2=some (.tup MA)/\AY H MA (Au.map Gy)
 map:HK H m n xs ws
 n1:1<=n
 n30:n<=30
 ok1:GV xs 0 rs1
 ok2:GV xs 1 Au
 l1:rs1.length<=10
 l2:Au.length<=30
 lim:Lim x d
theorem HK.keepT {H H':Hp} {m:Addr} {n:Nat} {xs:List Str} {ws:List AA} (h:HK H m n xs ws) (t:∀ b ys,H b=some (.tup ys)->H' b=some (.tup ys)):HK H' m n xs ws:=⟨h.at'.keepT t,h.dr,h.so,h.l64⟩
theorem Cm.keepT {H H':Hp} {c m:Addr} {n:Nat} {xs:List Str} {ws:List AA} {rs1 Au:List BS} {x:V} {d:PyData} (h:Cm H c m n xs ws rs1 Au x d) (t:∀ b ys,H b=some (.tup ys)->H' b=some (.tup ys)):Cm H' c m n xs ws rs1 Au x d:=by
 obtain ⟨t1,t2,Fi,MA,a,b,e,f,g⟩:=h.ex;exact ⟨⟨t1,t2,Fi,MA,t _ _ a,t _ _ b,Cf e t,t _ _ f,Cf g t⟩,h.map.keepT t,h.n1,h.n30,h.ok1,h.ok2,h.l1,h.l2,h.lim⟩
theorem Cm.same {H H':Hp} {c m:Addr} {n:Nat} {xs:List Str} {ws:List AA} {rs1 Au:List BS} {x:V} {d:PyData} (h:Cm H c m n xs ws rs1 Au x d) (s:Av H H'):Cm H' c m n xs ws rs1 Au x d:=h.keepT fun b ys z=>s _ _ z
def Lq (xs ss:List Str):Prop:=ss ≠ []/\ss.Nodup/\∀ s ∈ ss,s ∈ xs
def ES (ws:List AA) (ss:List Str) (rs:List BS) (gs:List AA):Prop:=gs.length=rs.length/\∀ (i:Nat) r g,rs[i]? = some r->gs[i]? = some g->g.1=r.1/\Jn ws ss r.1 (g.2.2,g.2.1)
def LF:Sp:=fun vs H Q _=>∃ (c o m:Addr) (n:Nat) (xs ss:List Str) (ws:List AA) (rs1 Au:List BS) (x:V) (d:PyData),vs=[.ref c,.ref o]/\Cm H c m n xs ws rs1 Au x d/\H o=some (.tup (ss.map V.str))/\Lq xs ss /\
 ∀ (H':Hp) (D:Addr) (us:List V) (gs:List AA),Av H H'->H D=none->H' D=some (.lst us)->AY H' us (gs.map Kx)->ES ws ss Au gs->Q (.ref D) H'
def Ba (rs:List BS) (h:Str):Int:=((rs.find? fun r=>decide (r.1=h)).map (·.2)).getD 0
def FK:Sp:=fun vs H Q _=>∃ (c o m:Addr) (n:Nat) (xs ss:List Str) (ws:List AA) (rs1 Au:List BS) (x:V) (d:PyData),vs=[.ref c,.ref o]/\Cm H c m n xs ws rs1 Au x d/\H o=some (.tup (ss.map V.str))/\Lq (rs1.map (·.1)) ss /\
 ∀ (H':Hp),Av H H'->Q (.int (ss.map (Ba rs1)).sum) H'
theorem Dt {rs:List BS} (h:(rs.map (·.1)).Nodup) {r:BS} (hr:r ∈ rs):Ba rs r.1=r.2:=by
 induction rs with
 | nil=>exact nomatch hr
 | cons q rs ih=>
  rw [Zb,Zu] at h;unfold Ba;rw [aj];by_cases e:q.1=r.1
  ·rw [decide_eq_true e];rcases YM.mp hr with z | z
   ·rw [z]; rfl
   ·exact absurd (YT.mpr ⟨_,z,e.symm⟩) h.1
  ·rw [decide_eq_false e];rcases YM.mp hr with z | z
   ·rw [z] at e; exact absurd rfl e
   ·exact ih h.2 z
def BI (rs:List BS):List (Str × V):=rs.map fun r=>(r.1,.int r.2)
theorem C5 (rs:List BS):(BI rs).map (·.1)=rs.map (·.1):=by unfold BI; rw [Zt]; rfl
theorem HM {H:Hp} {us:List V} {rs:List BS} (h:AY H us (rs.map Gy)):∀ (i:Nat) v p,us[i]? = some v->(BI rs)[i]? = some p->∃ t,v=.ref t/\H t=some (.tup [.str p.1,p.2]):=fun i v p e1 e2=>by
 obtain ⟨u,t,eu,rfl,ht⟩:=CO h e1;unfold BI at e2;rw [YS,eu] at e2;cases e2
 exact ⟨t,rfl,ht⟩
theorem LI {H:Hp} {B:Addr} {rs:List BS} (h:H B=some (.dK (sK (BI rs)))) (nd:(rs.map (·.1)).Nodup) {y:Str} (hy:y ∈ rs.map (·.1)):BK H B (.str y) (some (.int (Ba rs y))):=by
 obtain ⟨r,hr,rfl⟩:=YT.mp hy;rw [Dt nd hr];exact .inl ⟨_,Sum.inr r.1,.inl h,rfl,(CD (nv:=BI rs) (by rw [C5]; exact nd) (YT.mpr ⟨r,hr,rfl⟩)).symm⟩
def Ib:Sp:=fun vs H Q _=>∃ (c o m:Addr) (n:Nat) (xs ss:List Str) (ws:List AA) (rs1 Au:List BS) (x:V) (d:PyData),vs=[.ref c,.ref o]/\Cm H c m n xs ws rs1 Au x d/\H o=some (.tup (ss.map V.str))/\Lq xs ss /\
 (∀ gs,ES ws ss Au gs->∀ g ∈ gs,-(2 ^ 300) < g.2.2/\g.2.2 < 2 ^ 300) /\
 ∀ (H':Hp) (gs:List AA),Av H H'->ES ws ss Au gs->Q (.int (gs.map fun g=>Ba Au g.1 * g.2.2).sum) H'
def K2:Sp:=fun vs H Q _=>∃ (c o m:Addr) (n:Nat) (xs ss:List Str) (ws:List AA) (rs1 Au:List BS) (x:V) (d:PyData),vs=[.ref c,.ref o]/\Cm H c m n xs ws rs1 Au x d/\H o=some (.tup (ss.map V.str))/\Lq xs ss/\Lq (rs1.map (·.1)) ss /\
 (∀ gs,ES ws ss Au gs->∀ g ∈ gs,-(2 ^ 300) < g.2.2/\g.2.2 < 2 ^ 300) /\
 ∀ (H':Hp) (gs:List AA),Av H H'->ES ws ss Au gs->Q (.int ((ss.map (Ba rs1)).sum + (gs.map fun g=>Ba Au g.1 * g.2.2).sum)) H'
theorem Lx {H:Hp}:∀ {vs:List V} {ws:List AA},AY H vs (ws.map Kx)->vs.length=ws.length
 | _,[],.nil=>rfl
 | _,u :: ws,.cons h r=>by rw [Zm,Zm,Lx r]
section
variable {prog:Program} {w:World} {A:Around} {E:Value->Shared->Prop} {s:Shared}
end
section
variable {prog:Program} {w:World} {A:Around} {E:Value->Shared->Prop} {s:Shared}
end
theorem An.turnedT {X:Cx} {pins:List (Addr × Obj)} {σ:St} {H:Hp} {s:Shared} {h':Heap} {t':Nat} {fp:List Addr} {xs:List V} (I:An X pins σ H s) (hf:∀ b ∈ fp,DG X pins H b)
  (k:∀ b o,b ∉ fp->s.heap.get? b=some o->h'.get? b=some o) (new:A5 X.prog X.w (upd H s.heap.objs.size (.tup xs)) h' s.heap.objs.size (.tup xs)) :
  An X pins σ (upd H s.heap.objs.size (.tup xs)) { s with heap:=h',toks:=t' }:=by
 have hT:H s.heap.objs.size=none:=I.hok.fresh (YO _);have fT:=I.fpOk (YO _) hT;have nT:∀ b o,s.heap.get? b=some o->b ≠ s.heap.objs.size:=fun b o e z=>absurd (YV e) (by rw [z]; exact Z5 _)
 have nH:∀ b u,H b=some u->b ∉ fp:=fun b u e z=>by rw [(hf b z).1] at e; cases e
 refine I.step (g':=s.gens) (d':=s.drawn) (ch:=s.heap.objs.size :: fp) (fun b hb=>?_) (fun b o _ _ hc e _=>k b o (fun z=>hc (Ze _ z)) e) (fun b o _ _ hc e _=>⟨o.slots,k b o (fun z=>hc (Ze _ z)) e⟩)
  (fun b o hc e n=>by rw [Ae (nT b o e)]; exact n) (fun b o hc e=>⟨o,k b o (fun z=>hc (Ze _ z)) e⟩)
  (fun b xs e=>by rw [Ae (Ag e hT)]; exact e) (fun b o u e=>by rw [Ae (Ag e hT)]; exact e) (fun b ps e=>⟨#[],by rw [Ae (Ag e hT),e]; simp⟩) (fun m hm=>?_) (fun b u e=>?_) I.bare
 ·rcases YM.mp hb with rfl | hb
  ·obtain ⟨_,f1,_,f3,f4,f5⟩:=fT;exact ⟨f3,f1,f4,f5⟩
  ·obtain ⟨_,f1,_,f3,f4,f5⟩:=hf b hb;exact ⟨f3,f1,f4,f5⟩
 ·obtain ⟨o,es,ep,ho,r⟩:=hm;exact ⟨o,es,ep,k _ o (fun z=>(hf _ z).2.1 rfl) ho,r⟩
 ·by_cases z:b=s.heap.objs.size
  ·subst z;rw [Ab] at e;cases e
   exact new
  ·rw [Ae z] at e;refine (I.hok b u e).stay (fun c v hc q=>k c v ?_ q) (fun c q=>by rw [Ae (Ag q hT)]; exact q) fun c xs q=>by rw [Ae (Ag q hT)]; exact q
   rcases hc with z | z
   ·rw [z]; exact nH b u e
   ·exact nH c _ z
theorem An.turnedL {X:Cx} {pins:List (Addr × Obj)} {σ:St} {H:Hp} {s:Shared} {h':Heap} {t':Nat} {fp:List Addr} (I:An X pins σ H s) (hf:∀ b ∈ fp,DG X pins H b)
  (k:∀ b o,b ∉ fp->s.heap.get? b=some o->h'.get? b=some o):An X pins σ H { s with heap:=h',toks:=t' }:=by
 have nH:∀ b u,H b=some u->b ∉ fp:=fun b u e z=>by rw [(hf b z).1] at e; cases e
 refine I.step (g':=s.gens) (d':=s.drawn) (ch:=fp) (fun b hb=>?_) (fun b o _ _ hc e _=>k b o hc e) (fun b o _ _ hc e _=>⟨o.slots,k b o hc e⟩) (fun _ _ _ _ n=>n)
  (fun b o hc e=>⟨o,k b o hc e⟩) (fun _ _ e=>e) (fun _ _ _ e=>e) (fun b ps e=>⟨#[],by rw [e]; simp⟩) (fun m hm=>?_) (fun b u e=>?_) I.bare
 ·obtain ⟨_,f1,_,f3,f4,f5⟩:=hf b hb;exact ⟨f3,f1,f4,f5⟩
 ·obtain ⟨o,es,ep,ho,r⟩:=hm;exact ⟨o,es,ep,k _ o (fun z=>(hf _ z).2.1 rfl) ho,r⟩
 ·refine (I.hok b u e).stay (fun c v hc q=>k c v ?_ q) (fun _ q=>q) fun _ _ q=>q
  rcases hc with z | z
  ·rw [z]; exact nH b u e
  ·exact nH c _ z
theorem Bl {J:It} {xs:List V} {S:Hp->Prop} {g:TG} {tt:TT} {te:TE} {H:Hp} {σ0:St} {R:Addr->Hp->Prop} (ov:Nv J xs S) (I:Addr->Nat->St->Hp->List V->Prop) (big:xs.length < sizeLine)
  (h0:∀ D,H D=none->I D 0 σ0 (upd H D (.lst [])) [])
  (hs:∀ D i σ H' acc,H D=none->I D i σ H' acc->S H'/\H' D=some (.lst acc)/\acc.length<=i)
  (turn:∀ D i σ H' acc x (B:St->V->Hp->Prop) (N:St->Hp->Prop),H D=none->xs[i]? = some x->I D i σ H' acc->(∀ Az v H5,H5 D=some (.lst acc)->I D (i + 1) Az (upd H5 D (.lst (acc ++ [v]))) (acc ++ [v])->B Az v H5) ->
   (∀ Az H4,I D (i + 1) Az H4 acc->N Az H4)->g x σ H' fun Az H3=>tt Az H3 fun b H4=>if b=true then te Az H4 (B Az) else N Az H4)
  (fin:∀ D σ H' acc,H D=none->I D xs.length σ H' acc->R D H') :
  ∀ D,H D=none->∃ W:Nat->Nat->St->Hp->Prop,(∃ m,W 0 m σ0 (upd H D (.lst []))) /\
   ∀ i m Aw H',W i m Aw H'->(J.stop i H'/\R D H')\/(J.go i H'/\∀ x H2,J.yld i H' x H2->g x Aw H2 fun Az H3=>tt Az H3 fun b H4=>
    if b=true then te Az H4 (fun v H5=>∃ acc,H5 D=some (.lst acc)/\acc.length < sizeLine/\∃ m',m' < m/\W (i + 1) m' Az (upd H5 D (.lst (acc ++ [v])))) else ∃ m',m' < m/\W (i + 1) m' Az H4):=by
 intro D hD;refine ⟨fun i m σ H'=>m=xs.length - i/\i<=xs.length/\∃ acc,I D i σ H' acc,⟨xs.length,rfl,Zz _,[],h0 D hD⟩,?_⟩;rintro i m σ H' ⟨rfl,hi,acc,p⟩;obtain ⟨s1,s2,s3⟩:=hs D i σ H' acc hD p;by_cases Bv:i < xs.length
 ·refine .inr ⟨ov.go i H' s1 Bv,fun x H2 y=>?_⟩;obtain ⟨rfl,ex⟩:=ov.yld i H' x H2 s1 y;refine turn D i σ H2 acc x (fun Az v H5=>∃ acc,H5 D=some (.lst acc)/\acc.length < sizeLine/\∃ m',m' < xs.length - i/\(m'=xs.length - (i + 1)/\i + 1<=xs.length/\∃ Jl,I D (i + 1) Az (upd H5 D (.lst (acc ++ [v]))) Jl)) (fun Az H4=>∃ m',m' < xs.length - i/\(m'=xs.length - (i + 1)/\i + 1<=xs.length/\∃ Jl,I D (i + 1) Az H4 Jl)) hD ex p (fun Az v H5 d5 p5=>?_) fun Az H4 p4=>?_
  ·exact ⟨acc,d5,by lia,xs.length - (i + 1),by lia,rfl,Bv,_,p5⟩
  ·exact ⟨xs.length - (i + 1),by lia,rfl,Bv,_,p4⟩
 ·have e:i=xs.length:=by lia
  subst e;exact .inl ⟨ov.stop H' s1,fin D σ H' acc hD p⟩
def FH (rs:List BS) (gs:List AA):Int:=(gs.map fun g=>Ba rs g.1 * g.2.2).sum
theorem B9.app' {ws:List AA} {x y z:Str} {m n:Int} (h:B9 ws x y m) (g:B9 ws y z n):B9 ws x z (m + n):=by
 induction h with
 | nil x=>rw [bM]; exact g
 | cons e _ ih=>rw [cg]; exact .cons e (ih g)
theorem MU {xs:List Str} {ws:List AA} (jn:Ll xs ws) {L:Int} (L0:0<=L) (hL:∀ u ∈ ws,u.2.2<=L) (hp:∀ u ∈ ws,1<=u.2.2) {r:Str} (hr:xs[0]? = some r):∀ (j:Nat) x,xs[j]? = some x->∃ m,B9 ws x r m/\0<=m/\m<=j * L:=by
 intro j;induction j using Nat.strongRecOn with
 | ind j ih=>
  intro x hx;by_cases z:j=0
  ·subst z;rw [hr] at hx;cases hx
   exact ⟨0,.nil _,ar _,by simp⟩
  ·obtain ⟨u,hu,i,hij,e1,e2⟩:=jn j (by lia) (YQ.mp hx).1;rw [hx] at e2;cases e2
   obtain ⟨m,w,m0,ml⟩:=ih i hij _ e1;have hl:=hL u hu;have hq:=hp u hu;refine ⟨u.2.2 + m,.cons ⟨u,hu,.inr ⟨rfl,rfl⟩,rfl⟩ w,by lia,?_⟩;have:((i:Int) + 1) * L<=j * L:=ah (by lia) L0;rw [dY,Int.one_mul] at this;lia
theorem HK.sums {H:Hp} {m:Addr} {n:Nat} {ps:List Str} {ws:List AA} (h:HK H m n ps ws) (n1:1<=n) (n30:n<=30):∀ x ∈ ps,∀ y ∈ ps,∃ k,B9 ws x y k/\0<=k/\k < 2 ^ 300:=by
 obtain ⟨xs,V2,pp,wp,wof,sep,jn⟩:=h.dr;have en:=fun x y l=>Kj wp x y l
 have xl:xs.length=n:=by rw [<-pp.length_eq]; exact h.at'.len
 have hr:xs[0]? = some (xs[0]'(by lia)):=YJ _;have hL:∀ u ∈ V2,u.2.2<=10 ^ 30:=fun u hu=>by
  have:=(h.at'.wn (E8 u) (wp.mem_iff.mpr (YT.mpr ⟨u,hu,rfl⟩))).2.2.2;have e:(E8 u).2.2=u.2.2:=rfl;lia
 have one:∀ x ∈ ps,∃ k,B9 V2 x (xs[0]'(by lia)) k/\0<=k/\k<=30 * 10 ^ 30:=fun x hx=>by
  obtain ⟨j,hj,ej⟩:=Zh (pp.mem_iff.mp hx);obtain ⟨k,a,b,c⟩:=MU jn (by decide) hL (fun u hu=>(wof u hu).2.2.2) hr j x (by rw [YJ hj,ej]);refine ⟨k,a,b,Int.le_trans c (ah (by lia) (by decide))⟩
 intro x hx y hy;obtain ⟨k1,a1,b1,c1⟩:=one x hx;obtain ⟨k2,a2,b2,c2⟩:=one y hy;have a3:=(Qr en).mpr (B9.app' a1 a2.symm);exact ⟨k1 + k2,a3,by lia,by lia⟩
theorem B9.pos' {ws:List AA} (hp:∀ u ∈ ws,1<=u.2.2) {x y:Str} {m:Int} (h:B9 ws x y m):0<=m:=by
 induction h with
 | nil=>exact ar _
 | cons e _ ih=>obtain ⟨u,hu,_,rfl⟩:=e; have:=hp u hu; lia
theorem HK.bound {H:Hp} {m:Addr} {n:Nat} {ps:List Str} {ws:List AA} (h:HK H m n ps ws) (n1:1<=n) (n30:n<=30) {x y:Str} (hx:x ∈ ps) (hy:y ∈ ps) {k:Int} (d:VE ws x y k):0<=k/\k < 2 ^ 300:=by
 obtain ⟨k',a,_,c⟩:=h.sums n1 n30 x hx y hy;exact ⟨d.1.pos' fun u hu=>(h.at'.wn u hu).2.2.1,bF (d.2 k' a) c⟩
theorem CQ.intB {i:Int} (h0:0<=i) (h:i < 2 ^ 600):CQ (.int i) 0 0:=by
 have hn:i.natAbs < 2 ^ 600:=by lia
 have l:i.natAbs.log2 < 600:=by
  by_cases z:i.natAbs=0
  ·rw [z]; decide
  ·exact (dX z).mpr hn
 have e:PyData.leavesShort 200 (.int i)=decide ((PyData.shown (.int i)).length<=200):=by simp only [PyData.leavesShort]
 refine ⟨rfl,?_,rfl,?_,YO _,YO _⟩
 ·simp only [PyData.showable];exact decide_eq_true (by lia)
 ·rw [e];apply decide_eq_true;have q:=int_text_length_le10 (a:=i) (k:=190) (by decide) (YZ hn (by decide));have e2:PyData.shown (.int i)=Str.ofString (toString i):=by simp only [PyData.shown]
  rw [e2,PySem.ofString_length];lia
theorem K0 {B:Int} (hB:0<=B):∀ {l:List Int},(∀ t ∈ l,0<=t/\t<=B)->0<=l.sum/\l.sum<=l.length * B
 | [],_=>⟨ar _,by simp⟩
 | t :: l,h=>by
  obtain ⟨a,b⟩:=K0 hB (l:=l) fun t' ht=>h t' (Ze _ ht)
  obtain ⟨c,d⟩:=h t Zg;rw [dI,Zm];have e:((l.length + 1:Nat):Int) * B=l.length * B + B:=by rw [Int.natCast_add,dY]; simp
  constructor <;> lia
theorem Qc {rs:List BS} {ss xs:List Str} {lo:Int} (ok:GV xs lo rs) (h0:0<=lo) (sub:∀ s ∈ ss,s ∈ rs.map (·.1)) (sl:ss.length<=30):0<=(ss.map (Ba rs)).sum/\(ss.map (Ba rs)).sum < 2 ^ 500:=by
 have q:=K0 (B:=10 ^ 30) (by decide) (l:=ss.map (Ba rs)) fun t ht=>by
  obtain ⟨s,hs,rfl⟩:=YT.mp ht;obtain ⟨r,hr,rfl⟩:=YT.mp (sub s hs);rw [Dt ok.nd hr];have:=ok.lo r hr;lia
 rw [YI] at q;have:(ss.length:Int) * 10 ^ 30<=30 * 10 ^ 30:=ah (by lia) (by decide);lia
end L2
namespace L2
open PySem
theorem IU {K:YL} {a:Addr} {xs:List V} {g:TG} {tb:TS} {D:Ex} {σ:St} {H:Hp} (Pv:Nat->St->Hp->Prop) (h0:Pv 0 σ H) (hl:∀ i σ H,i<=xs.length->Pv i σ H->AI K H a xs)
  (hs:∀ i x σ H,xs[i]? = some x->Pv i σ H->∀ (rt:VK) (bk:St->Hp->Prop),g x σ H fun Az H2=>tb ⟨Pv (i + 1),rt,bk,Pv (i + 1)⟩ Az H2) (hd:∀ σ H,Pv xs.length σ H->D.nx σ H) :
  ∃ W:Nat->Nat->St->Hp->Prop,(∃ m,W 0 m σ H)/\∀ i m σ H,W i m σ H ->
   ((Qf K a).stop i H/\D.nx σ H)\/((Qf K a).go i H/\∃ N:St->Hp->Prop,(∀ Aw H',N Aw H'->∃ m',m' < m/\W (i + 1) m' Aw H')/\∀ x H',(Qf K a).yld i H x H'->g x σ H' fun Az H2=>tb { D with nx:=N,ct:=N,bk:=D.nx } Az H2):=
 Ox Pv h0 hl (fun i x σ H hx hp=>hs i x σ H hx hp D.rt D.nx) hd
theorem PR {a:Addr} {kvs:List (A7 × V)} {o:Obj} {g:TG} {tb:TS} {D:Ex} {σ:St} {H:Hp} (Pv:Nat->St->Hp->Prop) (h0:Pv 0 σ H) (hl:∀ i σ H,i<=kvs.length->Pv i σ H->H a=some (.frz o (.dK kvs)))
  (hs:∀ i k v σ H,kvs[i]? = some (k,v)->Pv i σ H->∀ (rt:VK) (bk:St->Hp->Prop),g (kV k) σ H fun Az H2=>tb ⟨Pv (i + 1),rt,bk,Pv (i + 1)⟩ Az H2) (hd:∀ σ H,Pv kvs.length σ H->D.nx σ H) :
  ∃ W:Nat->Nat->St->Hp->Prop,(∃ m,W 0 m σ H)/\∀ i m σ H,W i m σ H ->
   ((Uz a kvs o).stop i H/\D.nx σ H)\/((Uz a kvs o).go i H/\∃ N:St->Hp->Prop,(∀ Aw H',N Aw H'->∃ m',m' < m/\W (i + 1) m' Aw H')/\∀ x H',(Uz a kvs o).yld i H x H'->g x σ H' fun Az H2=>tb { D with nx:=N,ct:=N,bk:=D.nx } Az H2):=
 RH Pv h0 hl (fun i k v σ H hx hp=>hs i k v σ H hx hp D.rt D.nx) hd
theorem RF {K:YL} {a:Addr} {xs:List V} {g:TG} {tb:TS} {D:Ex} {σ:St} {H:Hp} (Pv:Nat->St->Hp->Prop) (h0:Pv 0 σ H) (hl:∀ i σ H,i<=xs.length->Pv i σ H->AI K H a xs)
  (hs:∀ i x σ H,xs[i]? = some x->Pv i σ H->∀ (rt:VK) (bk N:St->Hp->Prop),(∀ σ H,Pv (i + 1) σ H->N σ H)->g x σ H fun Az H2=>tb ⟨N,rt,bk,N⟩ Az H2) (hd:∀ σ H,Pv xs.length σ H->D.nx σ H) :
  ∃ W:Nat->Nat->St->Hp->Prop,(∃ m,W 0 m σ H)/\∀ i m σ H,W i m σ H ->
   ((Qf K a).stop i H/\D.nx σ H)\/((Qf K a).go i H/\∃ N:St->Hp->Prop,(∀ Aw H',N Aw H'->∃ m',m' < m/\W (i + 1) m' Aw H')/\∀ x H',(Qf K a).yld i H x H'->g x σ H' fun Az H2=>tb { D with nx:=N,ct:=N,bk:=D.nx } Az H2):=
 Ox Pv h0 hl (fun i x σ H hx hp=>hs i x σ H hx hp D.rt D.nx _ fun _ _ z=>z) hd
theorem Kg {K:YL} {a:Addr} {xs:List V} {g:TG} {tb:TS} {D:Ex} {σ:St} {H:Hp} (Pv:Nat->St->Hp->Prop) (h0:Pv 0 σ H) (hl:∀ i σ H,i<=xs.length->Pv i σ H->AD K H a xs)
  (hs:∀ i x σ H,xs[i]? = some x->Pv i σ H->∀ (rt:VK) (bk N:St->Hp->Prop),(∀ σ H,Pv (i + 1) σ H->N σ H)->g x σ H fun Az H2=>tb ⟨N,rt,bk,N⟩ Az H2) (hd:∀ σ H,Pv xs.length σ H->D.nx σ H) :
  ∃ W:Nat->Nat->St->Hp->Prop,(∃ m,W 0 m σ H)/\∀ i m σ H,W i m σ H ->
   ((Sr K a).stop i H/\D.nx σ H)\/((Sr K a).go i H/\∃ N:St->Hp->Prop,(∀ Aw H',N Aw H'->∃ m',m' < m/\W (i + 1) m' Aw H')/\∀ x H',(Sr K a).yld i H x H'->g x σ H' fun Az H2=>tb { D with nx:=N,ct:=N,bk:=D.nx } Az H2):=
 Gg Pv h0 hl (fun i x σ H hx hp=>hs i x σ H hx hp D.rt D.nx _ fun _ _ z=>z) hd
end L2
namespace L2
open PySem PySem.Spec PyProof.Rows
theorem Ju {M:Model} {A:Around} {E:Value->Shared->Prop} {s:Shared} {scope:Scope} {globals:Addr} {closure:List (Str × Addr)} {qual:Str} {func:Option Addr} {code:Value} {outer:Env} {builtins:Addr} {Q:Env->Shared->Prop}
  (hQ:Q (newEnv scope s.heap.objs.size globals (cellsFrom (s.heap.objs.size + 1) scope.names closure) qual func code (some outer) builtins) { s with heap:=pushCells (s.heap.push { cls:=.type "dict",data:=.dict #[] }) scope.names }) :
  wpAny M A (newFunctionEnv scope globals closure [] qual func code (some outer) builtins) Q E s:=by
 simp only [newFunctionEnv,cG,if_true];refine wpAny_bind (wpAny_alloc ?_);refine wpAny_bind (wpAny_layCells _ (fun name kind cells=>by cases hkc:kind == NameKind.cell <;> simp [hkc]) _ _ _ _ ?_);rw [show ({ s with heap:=s.heap.push { cls:=.type "dict",data:=.dict #[] } }:Shared).heap.objs.size=s.heap.objs.size + 1 from Z6 ..];refine wpAny_bind ?_;rw [List.forIn_nil];exact wpAny_pure (wpAny_pure hQ)
theorem GJ:∀ (names:List (Str × NameKind)) (h:Heap) (acc:List (Str × Addr)) (lo:Nat),lo<=h.objs.size->(∀ x c,(x,c) ∈ acc->c < lo\/(lo<=c/\c < h.objs.size/\h.IsCell c none)) ->
  ∀ x c,(x,c) ∈ cellsFrom h.objs.size names acc->(x,c) ∈ acc\/(lo<=c/\(pushCells h names).IsCell c none)
 | [],h,acc,lo,_,_,x,c,hm=>.inl hm
 | (name,kind) :: r,h,acc,lo,hlo,ha,x,c,hm=>by
  unfold cellsFrom at hm;unfold pushCells;split at hm
  ·rename_i hk
   rw [if_pos hk];rw [show h.objs.size + 1=(h.push { cls:=.type "cell",data:=.cell none }).objs.size from (Z6 ..).symm] at hm;rcases GJ r (h.push { cls:=.type "cell",data:=.cell none }) ((name,h.objs.size) :: acc) lo (by rw [Z6]; lia) (fun y d hy=>by
    rcases YM.mp hy with e | hy
    ·cases e
     exact .inr ⟨hlo,by rw [Z6]; exact Zw _,_,YW _ rfl,rfl⟩
    ·rcases ha y d hy with z | ⟨z1,z2,z3⟩
     ·exact .inl z
     ·exact .inr ⟨z1,by rw [Z6]; exact Zq z2,z3.keeps fun b o e=>YK _ e⟩) x c hm with q | q
   ·rcases YM.mp q with e | q
    ·cases e
     exact .inr ⟨hlo,_,pushCells_keeps _ _ _ _ (YW _ rfl),rfl⟩
    ·exact .inl q
   ·exact .inr q
  ·rename_i hk
   rw [if_neg hk];exact GJ r h acc lo hlo ha x c hm
theorem EL:∀ (names:List (Str × NameKind)) (n:Nat) (acc:List (Str × Addr)),(acc.Pairwise fun x y=>x.2 ≠ y.2)->(∀ x c,(x,c) ∈ acc->c < n)->(cellsFrom n names acc).Pairwise fun x y=>x.2 ≠ y.2
 | [],n,acc,h,_=>h
 | (name,kind) :: r,n,acc,h,ha=>by
  unfold cellsFrom;split
  ·refine EL r (n + 1) ((name,n) :: acc) (ZQ.mpr ⟨fun y hy e=>?_,h⟩) fun x c hm=>?_
   ·have:=ha y.1 y.2 hy;have e':n=y.2:=e;exact absurd this (by rw [<-e']; exact Z5 _)
   ·rcases YM.mp hm with e | hm
    ·cases e; exact Zw _
    ·exact Zq (ha x c hm)
  ·exact EL r n acc h ha
theorem Dq {α:Type}:∀ {l:List (Str × α)} {x:Str} {c:α},(x,c) ∈ l->∃ d,l.lookup x=some d
 | (k,v) :: r,x,c,h=>by
  rw [ba];cases hb:x == k with
  | true=>exact ⟨v,rfl⟩
  | false=>
   rcases YM.mp h with e | h
   ·cases e; simp at hb
   ·exact Dq h
theorem GK:∀ (names:List (Str × NameKind)) (n:Nat) (acc:List (Str × Addr)) (x:Str),((x,NameKind.cell) ∈ names\/∃ c,(x,c) ∈ acc)->∃ c,(x,c) ∈ cellsFrom n names acc
 | [],n,acc,x,h=>by
  rcases h with h | h
  ·cases h
  ·exact h
 | (name,kind) :: r,n,acc,x,h=>by
  unfold cellsFrom;split
  ·rename_i hk
   refine GK r (n + 1) ((name,n) :: acc) x ?_;rcases h with h | ⟨c,h⟩
   ·rcases YM.mp h with e | h
    ·cases e; exact .inr ⟨n,Zg⟩
    ·exact .inl h
   ·exact .inr ⟨c,Ze _ h⟩
  ·rename_i hk
   refine GK r n acc x ?_;rcases h with h | h
   ·rcases YM.mp h with e | h
    ·cases e; exact absurd rfl hk
    ·exact .inl h
   ·exact .inr h
abbrev BH (X:Cx) (scope:Scope) (cl:List (Str × Addr)) (N:List Str) (s2:Shared) (H:Hp) (C:Addr) (fp:List Addr) (fn:Str->Bool):Cx:={ Ao X scope cl N s2 H C fp with fn:=fn }
theorem GI (n0:Nat):∀ (names:List (Str × NameKind)) (n:Nat) (acc:List (Str × Addr)) (x:Str) (c:Addr),n0<=n->((x,NameKind.cell) ∈ names\/∃ d,acc.lookup x=some d/\n0<=d)->(cellsFrom n names acc).lookup x=some c->n0<=c
 | [],n,acc,x,c,_,h,e=>by
  rcases h with h | ⟨d,h1,h2⟩
  ·cases h
  ·have e':acc.lookup x=some c:=e;rw [h1] at e';cases e'
   exact h2
 | (name,kind) :: r,n,acc,x,c,hn,h,e=>by
  unfold cellsFrom at e;split at e
  ·rename_i hk
   refine GI n0 r (n + 1) ((name,n) :: acc) x c (aZ hn) ?_ e;by_cases ex:x=name
   ·refine .inr ⟨n,?_,hn⟩;rw [ex,ba,beq_self_eq_true]
   ·have hb:(x == name)=false:=beq_eq_false_iff_ne.mpr ex;rcases h with h | ⟨d,h1,h2⟩
    ·rcases YM.mp h with z | z
     ·injection z with z1 z2;exact absurd z1 ex
     ·exact .inl z
    ·exact .inr ⟨d,by rw [ba,hb]; exact h1,h2⟩
  ·rename_i hk
   refine GI n0 r n acc x c hn ?_ e;rcases h with h | h
   ·rcases YM.mp h with z | z
    ·cases z; exact absurd rfl hk
    ·exact .inl z
   ·exact .inr h
structure Gr (X:Cx) (scope:Scope) (cl:List (Str × Addr)):Prop where
 clos:closureFor scope X.env=pure cl
 kind:scope.kind=.function
 names:∀ y ∈ scope.names,y.2=.local->scope.names.lookup y.1=some .local
 sub:∀ x c,(x,c) ∈ cl->X.env.cells.lookup x=some c
 apart:(cl.Pairwise fun x y=>x.2 ≠ y.2)
 has:∀ x,((relabel scope X.env).names.lookup x=some .cell\/(relabel scope X.env).names.lookup x=some .free)->(x,NameKind.cell) ∈ scope.names\/∃ c,(x,c) ∈ cl
theorem F2:∀ (names:List (Str × NameKind)) (n:Nat) (acc:List (Str × Addr)) (x:Str) (c:Addr),(x,c) ∈ cellsFrom n names acc->(x,NameKind.cell) ∉ names->(x,c) ∈ acc
 | [],n,acc,x,c,h,_=>h
 | (name,kind) :: r,n,acc,x,c,h,hn=>by
  unfold cellsFrom at h;split at h
  ·rename_i hk
   have Ln:kind=.cell:=by cases kind <;> first | rfl | cases hk
   rcases YM.mp (F2 r (n + 1) ((name,n) :: acc) x c h fun z=>hn (Ze _ z)) with e | e
   ·cases e
    exact absurd (by rw [Ln]; exact Zg) hn
   ·exact e
  ·exact F2 r n acc x c h fun z=>hn (Ze _ z)
section
variable {X:Cx} {pins:List (Addr × Obj)} {σ Aw:St} {H H':Hp} {s2 s':Shared} {scope:Scope} {cl:List (Str × Addr)} {N:List Str} {fp:List Addr} {C D:Addr} {h₁ h':Heap} {t':Nat}
theorem Mt {fn:Str->Bool} {cl0:List (Str × Addr)} (I:An X pins σ H s2) (hf:∀ b ∈ fp,DG X pins H b) (hfo:∀ b ∈ fp,∃ o,s2.heap.get? b=some o) (co:Gr X scope cl0) (sub:∀ x c,cl.lookup x=some c->X.env.cells.lookup x=some c\/(s2.heap.objs.size<=c/\c ≠ D/\c ≠ C/\h₁.IsCell c none)) (inj:∀ x y c,cl.lookup x=some c->cl.lookup y=some c->x=y) (own:∀ x c,fn x=true->cl.lookup x=some c->s2.heap.objs.size<=c)
  (has:∀ x,((relabel scope X.env).names.lookup x=some .cell\/(relabel scope X.env).names.lookup x=some .free)->∃ c,cl.lookup x=some c) (keepS:∀ (i:Nat) (x:Str) (v:V),N[i]? = some x->Aw[i]? = some (some v)->∀ c,cl.lookup x=some c->X.env.cells.lookup x=some c) (hσ:AH X cl scope N σ Aw)
  (k:∀ b o,s2.heap.get? b=some o->h₁.get? b=some o) (hD:s2.heap.objs.size<=D) (hC:s2.heap.objs.size<=C) (hDC:C ≠ D)
  (new:h₁.get? D=some { cls:=.type "list",data:=.seq ([]:List Value).toArray 0 }\/∃ n,h₁.get? D=some { cls:=.type "list",data:=.seq ([]:List Value).toArray n }) {m:Str->Option Value} (hn:h₁.Ns C m) :
  An (BH X scope cl N s2 H C fp fn) [] Aw (upd H D (.lst [])) { s2 with heap:=h₁,toks:=t' }:=by
 have fD:H D=none:=I.hok.fresh hD;have fC:H C=none:=I.hok.fresh hC;have newO:A5 X.prog X.w (upd H D (.lst [])) h₁ D (.lst []):=by
  refine ⟨Zz _,[],?_⟩;rcases new with e | ⟨n,e⟩
  ·exact ⟨0,.nil,e⟩
  ·exact ⟨n,.nil,e⟩
 have lts:∀ b ∈ fp,b < s2.heap.objs.size:=fun b hb=>let ⟨_,e⟩:=hfo b hb; YV e
 have ok:Cx.Ok (BH X scope cl N s2 H C fp fn):=by
  refine ⟨I.ok.mod,?_,I.ok.glob,I.ok.blt,hC,?_,?_,?_,I.ok.hd,I.ok.frames,.inl rfl,?_,I.bs,Zj I.ok.bsz I.sz,?_,?_,I.stack,I.stkFree⟩
  ·exact co.kind
  ·exact inj
  ·exact has
  ·exact own
  ·intro b hb;refine ⟨fun e=>?_,fun x c e=>by
    rcases sub x c e with z | ⟨z,_⟩
    ·exact (hf b hb).2.2.2.2.1 x c z
    ·exact ZD (YZ (lts b hb) z)⟩
   have z:=lts b hb;exact absurd (YZ z hC) (by rw [show b=C from e]; exact Z5 _)
  ·intro b o e hb;have Fu:b ∈ fp:=hb;rcases (hf b Fu).2.2.2.1 with z | z
   ·exact I.ok.noex b o e z
   ·exact absurd (YZ (YV e) (Zj I.ok.bsz z)) (Z5 _)
  ·intro b hb hz;have Fu:b ∈ fp:=hb;obtain ⟨_,f1,f2,_⟩:=hf b Fu;rcases YM.mp (I.stkSub b hz) with e | e
   ·exact f1 e
   ·exact f2 e
 refine ⟨ok,rfl,I.bare,Un.laid k hD fD,?_,?_,?_,?_,?_,I.hok.laid k hD newO,hσ.1⟩
 ·refine ⟨m,hn,fun i x v e1 e2 _=>?_⟩;obtain ⟨⟨j,j1,j2⟩,kk,kr⟩:=hσ.2 i x v e1 e2;obtain ⟨mo,_,hl⟩:=I.loc;obtain ⟨u,r,l⟩:=hl j x v j1 j2 (by
   rcases kk with z | z
   ·exact .inr (.inl z)
   ·exact .inr (.inr z))
  refine ⟨u,r,.inr ⟨kr,?_⟩⟩;obtain ⟨c,hc⟩:=has x kr;rcases l with ⟨z,_⟩ | ⟨_,c',HS,hcell⟩
  ·rcases kk with q | q
   ·rw [z] at q; cases q
   ·rw [z] at q; cases q
  ·have e3:=keepS i x v e1 e2 c hc;rw [HS] at e3;have e4:c'=c:=Zf.inj e3;subst e4;obtain ⟨o,ho,hd⟩:=hcell;exact ⟨c',hc,o,k _ o ho,hd⟩
 ·intro x c e;rcases sub x c e with z | ⟨_,_,_,z⟩
  ·obtain ⟨v,o,ho,hd⟩:=I.cell x c z;exact ⟨v,o,k _ o ho,hd⟩
  ·exact ⟨aL,z⟩
 ·show upd H D (.lst []) C=none
  rw [Ae hDC];exact fC
 ·intro x c e;rcases sub x c e with z | ⟨z1,z2,_,_⟩
  ·obtain ⟨v,q⟩:=I.cell x c z;rw [Ae (YX (YZ q.lt hD))];exact I.freeC x c z
  ·rw [Ae z2];exact I.hok.fresh z1
 ·intro p hp;cases hp
theorem Qd {fn:Str->Bool} {pl:List (Addr × Obj)} (I:An X pins σ H s2) (hf:∀ b ∈ fp,DG X pins H b) (hC:s2.heap.objs.size<=C) (I2:An (BH X scope cl N s2 H C fp fn) pl Aw H' s')
  (hs:Heap.SameBut C s'.heap h'):An X pins σ H' { s' with heap:=h' }:=by
 have nC:∀ b o,s2.heap.get? b=some o->b ≠ C:=fun b o e=>YX (YZ (YV e) hC)
 have u:=I2.base;refine I.call' (s':={ s' with heap:=h' }) (ch:=fp) I2.os ⟨?_,?_,u.free,?_,u.tups,u.frzs,u.tbls⟩ ?_ I2.bare fun b hb=>?_
 ·exact fun b o e n h1 h2=>(hs.2 b (nC b o e)).trans (u.keep b o e n h1 h2)
 ·intro b o e n h1 h2;obtain ⟨sl,q⟩:=u.slot b o e n h1 h2;exact ⟨sl,(hs.2 b (nC b o e)).trans q⟩
 ·intro b o e h2;obtain ⟨o',q⟩:=u.there b o e h2;exact ⟨o',(hs.2 b (nC b o e)).trans q⟩
 ·intro b ob e;have hfree:H' C=none:=I2.free;refine (I2.hok b ob e).stay (fun c w' hc q=>(hs.2 c ?_).trans q) (fun _ q=>q) fun _ _ q=>q
  rintro rfl;rcases hc with rfl | hc
  ·rw [hfree] at e; cases e
  ·rw [hfree] at hc; cases hc
 ·obtain ⟨_,f1,_,f3,f4,f5⟩:=hf b hb;exact ⟨f3,f1,f4,f5⟩
end
end L2
namespace L2
open PySem PySem.Spec PySem.W PyProof.Rows
end L2
namespace L2
open PySem PySem.Spec PyProof.Rows
theorem Gr.caught {X:Cx} {scope:Scope} {cl:List (Str × Addr)} (clos:closureFor scope X.env=pure cl) (hkind:scope.kind=.function)
  (hnames:∀ y ∈ scope.names,y.2=.local->scope.names.lookup y.1=some .local) (hcl:∀ y ∈ cl,X.env.cells.lookup y.1=some y.2) (hap:cl.Pairwise fun x y=>x.2 ≠ y.2)
  (hfr:∀ y ∈ scope.names,y.2=.free->∃ c,(y.1,c) ∈ cl):Gr X scope cl:=by
 refine ⟨clos,hkind,hnames,fun x c h=>hcl _ h,hap,fun x h=>?_⟩;have key:∀ k,(relabel scope X.env).names.lookup x=some k->k=.cell\/k=.free->(x,NameKind.cell) ∈ scope.names\/∃ c,(x,c) ∈ cl:=by
  intro k e hk;have m:=Dr e;obtain ⟨⟨n,k'⟩,hm,e'⟩:=YT.mp m;dsimp only at e';by_cases hf:k'=.free
  ·subst hf;have en:n=x:=by
    by_cases hc:(NameKind.free == NameKind.free && X.env.scope.kind == .function && X.env.kindOf n == some .cell)=true
    ·rw [if_pos hc] at e';injection e'
    ·rw [if_neg hc] at e';injection e'
   subst en;exact .inr (hfr _ hm rfl)
  ·have:(k' == NameKind.free)=false:=by
    cases k' <;> first | rfl | exact absurd rfl hf
   rw [this] at e';simp at e';obtain ⟨rfl,rfl⟩:=e';rcases hk with rfl | rfl
   ·exact .inl hm
   ·exact absurd rfl hf
 rcases h with h | h
 ·exact key _ h (.inl rfl)
 ·exact key _ h (.inr rfl)
theorem Ax (K:YL) {X:Cx} (h:X.K=K):Bd X (.builtin "len") (fun xs H Q=>∃ p vs,xs=[V.ref p]/\(AD K H p vs\/AI K H p vs)/\Q (.int vs.length) H):=by subst h; exact Em
theorem BM (K:YL) {X:Cx} {tg l:Expr} {tl:TE} (h:X.K=K) (hl:PE X l tl):PI X tg l (Uo K tl):=by subst h; exact HN hl
theorem B6 (K:YL) {X:Cx} {tg l:Expr} {tl:TE} (h:X.K=K) (hl:PE X l tl):PI X tg l (iTup K tl):=by subst h; exact KH hl
def GtAt (A:Around) (s:Shared) (x y:Value) (b:Bool):Prop:=∀ (prog:Program) (w:World) (E Q:Value->Shared->Prop),Q (.bool b) s->wpAny (model prog w) A (richCompare .Gt x y) Q E s
def Gp (h:Heap) (v:Value) (ss:List Str):Prop:=∃ a us,v=.ref a/\IsTup h a us.toArray/\A0 (ss.map V.str) us
def Nw (h:Heap) (v:Value) (k:Int × List Str):Prop:=∃ a l t,v=.ref a/\IsTup h a #[.int k.1 t,.ref l]/\Gp h (.ref l) k.2
def Cs (k:Int × List Str):List DH:=.i k.1 :: k.2.map DH.s
theorem Gp.keep {h h':Heap} {v:Value} {p:List Str} (x:Gp h v p) (k:∀ b o,h.get? b=some o->h'.get? b=some o):Gp h' v p:=by
 obtain ⟨a,us,rfl,⟨o,ho,r⟩,z⟩:=x;exact ⟨a,us,rfl,⟨o,k _ _ ho,r⟩,z⟩
theorem Nw.keep {h h':Heap} {v:Value} {p:Int × List Str} (x:Nw h v p) (k:∀ b o,h.get? b=some o->h'.get? b=some o):Nw h' v p:=by
 obtain ⟨a,l,t,rfl,⟨o,ho,r⟩,z⟩:=x;exact ⟨a,l,t,rfl,⟨o,k _ _ ho,r⟩,z.keep k⟩
theorem Rx {p q:Int × List Str} (h:Cs p=Cs q):p=q:=by
 unfold Cs at h;injection h with h1 h2;injection h1 with h1;have:p.2=q.2:=by
  have inj:∀ {xs ys:List Str},xs.map DH.s=ys.map DH.s->xs=ys:=by
   intro xs;induction xs with
   | nil=>intro ys e; cases ys with | nil=>rfl | cons y ys=>cases e
   | cons x xs ih=>
    intro ys e;cases ys with
    | nil=>cases e
    | cons y ys=>
     rw [Zb,Zb] at e;injection e with e1 e2;injection e1 with e1;rw [e1,ih e2]
  exact inj h2
 exact Prod.ext h1 this
theorem JF {us vs:List Value} {xs:List Str} (r1:A0 (xs.map V.str) us) (j:Nat) (hj:j < us.length):∃ t x,xs[j]? = some x/\us[j]=.str x t:=by
 have l1:=r1.length;rw [YI] at l1;have e:(xs.map V.str)[j]? = some (V.str (xs[j]'(by lia))):=by rw [YS,YJ (by lia)]; rfl
 obtain ⟨u,e1,r⟩:=r1.get e;obtain ⟨t,rfl⟩:=r;rw [YJ hj] at e1;exact ⟨t,_,YJ (by lia),Zf.inj e1⟩
theorem JE {us:List Value}:∀ {xs ys:List Str},A0 (xs.map V.str) us->A0 (ys.map V.str) us->xs=ys:=by
 induction us with
 | nil=>
  intro xs ys r1 r2;cases xs with
  | nil=>cases ys with | nil=>rfl | cons _ _=>cases r2
  | cons _ _=>cases r1
 | cons u us ih=>
  intro xs ys r1 r2;cases xs with
  | nil=>cases r1
  | cons x xs=>
   cases ys with
   | nil=>cases r2
   | cons y ys=>
    cases r1 with
    | cons a1 b1=>
     cases r2 with
     | cons a2 b2=>
      obtain ⟨t,e⟩:=a1;obtain ⟨t',e'⟩:=a2;rw [e] at e';cases e'
      rw [ih b1 b2]
theorem Lg {A:Around} {s:Shared} {v w:Value} {xs ys:List Str} (hv:Gp s.heap v xs) (hw:Gp s.heap w ys) (hu:A.units < cLine):SeqAt.EqAt A s v w (decide (xs=ys)):=by
 obtain ⟨a,us,rfl,ha,r1⟩:=hv;obtain ⟨b,vs,rfl,hb,r2⟩:=hw;by_cases hab:a=b
 ·subst hab;have e:xs=ys:=by
   obtain ⟨o,ho,hc,n,hd⟩:=ha;obtain ⟨o',J2,HS,n',M0⟩:=hb;rw [ho] at J2;cases J2
   rw [hd] at M0;injection M0 with e1 e2;have e3:=congrArg bE e1;simp only at e3;subst e3;exact JE r1 r2
  rw [decide_eq_true e];intro prog w E Q h;unfold eqBool;refine wpAny_holding ?_;exact wpAny_ite_split (fun _=>wpAny_bind (wpAny_rule (wpAny_pure h))) (fun hn=>absurd (by simp) hn)
 ·have l1:=r1.length;have l2:=r2.length;rw [YI] at l1 l2;have key:=SeqAt.RcAt.tuples (A:=A) (s:=s) (e:=fun j=>xs[j]? == ys[j]?) (show s.heap.IsTuple a us.toArray from ha) (show s.heap.IsTuple b vs.toArray from hb) hu (fun j h1 h2=>by
   obtain ⟨t,x,e1,e2⟩:=JF (vs:=us) r1 j (by simpa using h1);obtain ⟨t',y,e3,e4⟩:=JF (vs:=vs) r2 j (by simpa using h2);rw [cK,cK,e2,e4,e1,e3];have:=SeqAt.EqAt.str_str x t y t' (A:=A.in1) (s:=s);exact this)
  have e:((aq (min us.toArray.size vs.toArray.size)).all (fun j=>xs[j]? == ys[j]?) && us.toArray.size == vs.toArray.size)=decide (xs=ys):=by
   rw [ZO,Z3,ZT,decide_eq_true_iff];simp only [aU,Zi,beq_iff_eq];constructor
   ·rintro ⟨h1,h2⟩;refine dc fun j=>?_
    by_cases hj:j < us.length
    ·exact h1 j (by lia)
    ·rw [bx (by lia),bx (by lia)]
   ·rintro rfl;exact ⟨fun j _=>rfl,by lia⟩
  rw [e] at key;exact SeqAt.EqAt.of_refs hab key
def CmpsG (A:Around) (s:Shared) (z:Bool):List (Value × Value)->Bool->Prop
 | [],r=>r=z
 | p :: C6,r=>∃ e,SeqAt.EqAt A s p.1 p.2 e/\(e=false->GtAt A s p.1 p.2 r)/\(e=true->CmpsG A s z C6 r)
section
open PySem.SeqAt
open PySem.AutoSeq1 (wpAny_loadPart')
open PySem.MeetsSeq PySem.MeetsSeq2 PySem.MeetsSeq3
end
def Ku (A:Around) (s:Shared) (z:Bool):List (Value × Value)->Bool->Prop
 | [],r=>r=z
 | p :: C6,r=>∃ e,SeqAt.EqAt A s p.1 p.2 e/\(e=false->CA A s p.1 p.2 r)/\(e=true->Ku A s z C6 r)
section
open PySem.SeqAt
open PySem.AutoSeq1 (wpAny_loadPart')
open PySem.MeetsSeq PySem.MeetsSeq2 PySem.MeetsSeq3
theorem OG (l b:Addr) (xs ys:Array Value) (n n2:Nat) (dd O2:Option Addr) (sl Qj:Array (Option Value)) (r:Bool) :
  Meets (Builtin.«tuple.__lt__» ⟨[.ref l,.ref b],[]⟩)
   (fun A R s=>s.heap.get? l=some { cls:=.type "tuple",dict:=dd,data:=.seq xs n,slots:=sl }/\s.heap.get? b=some { cls:=.type "tuple",dict:=O2,data:=.seq ys n2,slots:=Qj } /\
    Ku A.in1 s (decide (xs.size < ys.size)) (xs.toList.zip ys.toList) r/\R (.ok (.ret (.bool r))) s):=
 .of_wp fun prog w A R s h=>by
  obtain ⟨hp,g,d,tk,os⟩:=s; obtain ⟨hl,hb,hc,h⟩:=h;have f2:=AutoSeq1.sub_tuple_tuple;wp_walk using wpAny_loadPart' hl,wpAny_loadPart' hb,wpAny_forIn_list _ (fun C6 b s'=>b.1=none/\s'=⟨hp,g,d,tk,os⟩/\Ku A.in1 ⟨hp,g,d,tk,os⟩ (decide (xs.size < ys.size)) C6 r) _
  case turn=>
   rintro ⟨y,x⟩ C6 b s' ⟨Fu,rfl,e,he,h1,h2⟩;refine wpAny_bind (he prog w _ _ ?_);cases ee:e with
   | true=>
    wp_walk
    exact ⟨rfl,rfl,h2 ee⟩
   | false=>
    have hri:=h1 ee prog w;wp_walk using hri;exact ⟨_,rfl,by simpa using h⟩
  case fin=>
   rintro ⟨b1',b2'⟩ s' ⟨Fu,rfl,hz⟩;have Up:r=decide (xs.size < ys.size):=hz;simp only at Fu;subst Fu Up;wp_walk;exact ⟨_,rfl,by simpa [Builtin.Tuple.tupleCompareSizes] using h⟩
  case h=>
   exact ⟨rfl,rfl,hc⟩
end
theorem CA.tupN {A:Around} {s:Shared} {l b:Addr} {xs ys:Array Value} {r:Bool} (hl:IsTup s.heap l xs) (hb:IsTup s.heap b ys) (hu:A.units < cLine) (hc:Ku A.in1 s (decide (xs.size < ys.size)) (xs.toList.zip ys.toList) r):CA A s (.ref l) (.ref b) r:=fun prog w E Q h=>by
 obtain ⟨⟨cls,dd,data,sl⟩,ho,HS,n,hd⟩:=id hl;obtain ⟨⟨Vq,O2,data2,Qj⟩,Mi,R8,n2,hd2⟩:=id hb;simp only at HS hd R8 hd2;subst HS hd R8 hd2;exact richCompare_meets_room (op:=.Lt) ⟨_,ho,rfl⟩ ⟨_,Mi,rfl⟩ PySem.F.slot_tuple_lt PySem.F.entry_tuple_lt (PySem.F.args_tuple_lt_2 _ _) (OG l b xs ys n n2 dd O2 sl Qj r)
  ⟨ho,Mi,hc,show Value.bool _ ≠ Value.notImplemented/\Q (.bool _) s from ⟨(fun x=>nomatch x),h⟩⟩ hu
theorem Jg {A:Around} {s:Shared}:∀ (xs ys:List Str) {us vs:List Value},A0 (xs.map V.str) us->A0 (ys.map V.str) vs->Ku A s (decide (xs.length < ys.length)) (us.zip vs) (A8 (xs.map DH.s) (ys.map DH.s))
 | [],[],_,_,r1,r2=>by cases r1; cases r2; rfl
 | [],y :: ys,_,_,r1,r2=>by cases r1; cases r2; rfl
 | x :: xs,[],_,_,r1,r2=>by cases r1; cases r2; rfl
 | x :: xs,y :: ys,_,_,r1,r2=>by
  cases r1 with
  | cons a1 b1=>
   cases r2 with
   | cons a2 b2=>
    obtain ⟨t,rfl⟩:=a1;obtain ⟨t',rfl⟩:=a2;refine ⟨x == y,SeqAt.EqAt.str_str _ _ _ _,fun e=>?_,fun e=>?_⟩
    ·have e:¬ x=y:=by simpa using e
     have:=CA.str A s x t y t';rw [Zb,Zb];unfold A8;rw [if_neg (by intro z; injection z with z; exact e z)];exact this
    ·have e:x=y:=by simpa using e
     rw [Zb,Zb];unfold A8;rw [if_pos (by rw [e])];have:=Jg xs ys b1 b2 (A:=A) (s:=s);rw [Zm,Zm];simp only [Nat.add_lt_add_iff_right];exact this
theorem Of {A:Around} {s:Shared} {v w:Value} {xs ys:List Str} (hv:Gp s.heap v xs) (hw:Gp s.heap w ys) (hu:A.units < cLine):CA A s v w (A8 (xs.map DH.s) (ys.map DH.s)):=by
 obtain ⟨a,us,rfl,ha,r1⟩:=hv;obtain ⟨b,vs,rfl,hb,r2⟩:=hw;refine CA.tupN ha hb hu ?_;have l1:=r1.length;have l2:=r2.length;rw [YI] at l1 l2;have:=Jg (A:=A.in1) (s:=s) xs ys r1 r2;rw [l1,l2] at this;simpa using this
theorem lt_kn {A:Around} {s:Shared} {v w:Value} {p q:Int × List Str} (hv:Nw s.heap v p) (hw:Nw s.heap w q) (hu:A.units + 1 < cLine):CA A s v w (A8 (Cs p) (Cs q)):=by
 obtain ⟨a,l,t,rfl,ha,h1⟩:=hv;obtain ⟨b,l',t',rfl,hb,h2⟩:=hw;refine CA.tupN ha hb (by lia) ?_;show Ku A.in1 s _ [(.int p.1 t,.int q.1 t'),(.ref l,.ref l')] _
 refine ⟨p.1 == q.1,SeqAt.EqAt.int_int _ _ _ _,fun e=>?_,fun e=>⟨decide (p.2=q.2),Lg h1 h2 (by rw [PySem.Around.in1_units]; exact hu),fun e2=>?_,fun e2=>?_⟩⟩
 ·have e:¬ p.1=q.1:=by simpa using e
  have:=CA.int A.in1 s p.1 t q.1 t';unfold Cs;unfold A8;rw [if_neg (by intro z; injection z with z; exact e (by first | exact z | exact z.symm))];exact this
 ·have e:p.1=q.1:=by simpa using e
  have:=Of (A:=A.in1) (s:=s) h1 h2 (by rw [PySem.Around.in1_units]; exact hu);unfold Cs;unfold A8;rw [if_pos (by rw [e])];exact this
 ·have e:p.1=q.1:=by simpa using e
  have e2:p.2=q.2:=of_decide_eq_true e2;show A8 (Cs p) (Cs q)=_
  unfold Cs;rw [e,e2,Eh];rfl
section
variable {prog:Program} {w:World} {A:Around} {R:Result->Shared->Prop} {I:Addr} {fp wr:List Addr} {n:Nat} {P:Nat->Value->Prop} {St:Nat->Heap->Prop} {g0:Heap}
end
section
variable {prog:Program} {w:World} {A:Around} {E:Value->Shared->Prop} {s:Shared}
end
def RW (H:Hp) (v:V) (k:Int × List Str):Prop:=∃ t l,v=.ref t/\H t=some (.tup [.int k.1,.ref l])/\H l=some (.tup (k.2.map V.str))
theorem RW.same {H H':Hp} {v:V} {p:Int × List Str} (h:RW H v p) (s:∀ b xs,H b=some (.tup xs)->H' b=some (.tup xs)):RW H' v p:=let ⟨t,l,e,z,q⟩:=h; ⟨t,l,e,s _ _ z,s _ _ q⟩
theorem Qw {X:Cx} {pins:List (Addr × Obj)} {σ:St} {H:Hp} {s:Shared} {l:Addr} {ss:List Str} (I:An X pins σ H s) (h:H l=some (.tup (ss.map V.str))):Gp s.heap (.ref l) ss:=by
 obtain ⟨Aq,rv,pl,hz⟩:=I.tuple (AI.of h);exact ⟨l,Aq,rfl,pl,rv⟩
theorem RW.at {X:Cx} {pins:List (Addr × Obj)} {σ:St} {H:Hp} {s:Shared} {v:V} {u:Value} {k:Int × List Str} (I:An X pins σ H s) (r:A1 v u) (h:RW H v k):Nw s.heap u k:=by
 obtain ⟨t,l,rfl,ht,hp⟩:=h;cases r
 obtain ⟨Aq,rv,pl,hz⟩:=I.tuple (AI.of ht);cases rv with
 | cons a1 b1=>
  cases b1 with
  | cons a2 b2=>
   cases b2
   cases a2
   obtain ⟨t2,rfl⟩:=a1;exact ⟨t,l,t2,rfl,pl,Qw I hp⟩
theorem Hv (bt:Nat->Nat->Bool) (f:Nat->List DH) (h1:∀ i j,bt i j=A8 (f i) (f j)):∀ k,argBest bt k<=k/\∀ j,j<=k->A8 (f j) (f (argBest bt k))=false
 | 0=>⟨YO _,fun j hj=>by
  have:j=0:=by lia
  subst this; exact Eh _⟩
 | k + 1=>by
  obtain ⟨a1,a2⟩:=Hv bt f h1 k;simp only [argBest];cases hc:bt (k + 1) (argBest bt k) with
  | true=>
   simp only [if_true];refine ⟨YO _,fun j hj=>?_⟩;by_cases J3:j<=k
   ·have a3:=a2 j J3;rw [h1] at hc;cases e:A8 (f j) (f (k + 1)) with
    | false=>rfl
    | true=>rw [Gb _ _ _ e hc] at a3; cases a3
   ·have:j=k + 1:=by lia
    subst this; exact Eh _
  | false=>
   simp only [Zp,if_false];refine ⟨aZ a1,fun j hj=>?_⟩;by_cases J3:j<=k
   ·exact a2 j J3
   ·have:j=k + 1:=by lia
    subst this; rw [<-h1]; exact hc
section
variable {X:Cx} {pins:List (Addr × Obj)} {σ:St} {H:Hp} {s:Shared}
theorem Tj (I:An X pins σ H s) {vs:List V} {Aq:List Value} {ks:List (Int × List Str)} (rv:A0 vs Aq) (hl:vs.length=ks.length) (hk:∀ (i:Nat) v k,vs[i]? = some v->ks[i]? = some k->RW H v k) :
  ∀ (i:Nat) (v:Value),Aq[i]? = some v->∃ k,ks[i]? = some k/\Nw s.heap v k/\∃ x,vs[i]? = some x/\A1 x v:=fun i v e=>by
 have il:Aq.length=ks.length:=by rw [<-rv.length,hl]
 have hi:i < Aq.length:=(YQ.mp e).1;have e1:vs[i]? = some vs[i]:=YJ (by lia);have e2:ks[i]? = some ks[i]:=YJ (by lia);obtain ⟨v',e3,r3⟩:=rv.get e1;rw [e] at e3;cases e3
 exact ⟨_,e2,(hk i _ _ e1 e2).at I r3,_,e1,r3⟩
end
theorem Ht {X:Cx} (hc:X.calm=true) (hu:X.A.units + 64 < cLine):Bd X (.builtin "min") (fun xs H Q=>∃ (a:Addr) (vs:List V) (ks:List (Int × List Str)),xs=[.ref a]/\H a=some (.lst vs)/\vs.length=ks.length/\ks ≠ []/\(∀ (i:Nat) v k,vs[i]? = some v->ks[i]? = some k->RW H v k) /\
  ∀ v k,k ∈ ks->RW H v k->(∀ k' ∈ ks,A8 (Cs k') (Cs k)=false)->Q v H):=by
 intro pins s σ H xs us Q I r h;obtain ⟨a,vs,ks,rfl,ha,hl,hne,hk,q⟩:=h;obtain ⟨u,rfl,ru⟩:=BZ r;cases ru
 obtain ⟨Aq,rv,pl,hz⟩:=I.list (AD.of ha);have il:Aq.length=ks.length:=by rw [<-rv.length,hl]
 have pos:0 < ks.length:=ZZ.mpr hne;have kat:=Tj I rv hl hk;refine G9 (bt:=fun i j=>A8 (Cs (ks.getD i (0,[]))) (Cs (ks.getD j (0,[])))) (I.ok.hd hc) pl.isList (by lia) (fun i j vi vj s' Q' E' g hi hj hQ=>?_) fun v h2 tk hv k2=>?_
 ·obtain ⟨ki,e1,a1,_⟩:=kat i vi hi;obtain ⟨kj,e2,a2,_⟩:=kat j vj hj;have d1:ks.getD i (0,[])=ki:=by rw [Zo,e1]; rfl
  have d2:ks.getD j (0,[])=kj:=by rw [Zo,e2]; rfl
  dsimp only at hQ;rw [d1,d2] at hQ;exact lt_kn (a1.keep g) (a2.keep g) (by rw [PySem.Around.in1_units]; lia) _ _ _ _ hQ
 ·obtain ⟨k,e1,a1,x,e3,r3⟩:=kat _ v hv;obtain ⟨b1,b2⟩:=Hv (fun i j=>A8 (Cs (ks.getD i (0,[]))) (Cs (ks.getD j (0,[])))) (fun i=>Cs (ks.getD i (0,[]))) (fun _ _=>rfl) (Aq.length - 1);refine ⟨x,H,I.kept k2,r3,q x k (YN e1) (hk _ x k e3 e1) fun k' Ln=>?_⟩;obtain ⟨j,hj,ej⟩:=Zh Ln;have:=b2 j (by lia);have d1:ks.getD (argBest (fun i j=>A8 (Cs (ks.getD i (0,[]))) (Cs (ks.getD j (0,[])))) (Aq.length - 1)) (0,[])=k:=by rw [Zo,e1]; rfl
  have d2:ks.getD j (0,[])=k':=by rw [Zo,YJ hj,ej]; rfl
  rw [d1,d2] at this;exact this
theorem Rm (K:YL) {X:Cx} (h:X.K=K):Ey X (binaryOp .Add) (Uh K):=by subst h; exact SV
inductive Bo (H:Hp):List V->List (List Str)->Prop
 | nil:Bo H [] []
 | cons {t:Addr} {us:List V} {f:List Str} {fs:List (List Str)}:H t=some (.tup (f.map V.str))->Bo H us fs->Bo H (.ref t :: us) (f :: fs)
theorem Bo.len {H:Hp} {us:List V} {fs:List (List Str)} (h:Bo H us fs):us.length=fs.length:=by
 induction h with
 | nil=>rfl
 | cons _ _ ih=>rw [Zm,Zm,ih]
theorem Bo.keep {H H':Hp} {us:List V} {fs:List (List Str)} (h:Bo H us fs) (s:∀ b xs,H b=some (.tup xs)->H' b=some (.tup xs)):Bo H' us fs:=by
 induction h with
 | nil=>exact .nil
 | cons a _ ih=>exact .cons (s _ _ a) ih
theorem Bo.app {H:Hp} {us vs:List V} {fs gs:List (List Str)} (h:Bo H us fs) (h':Bo H vs gs):Bo H (us ++ vs) (fs ++ gs):=by
 induction h with
 | nil=>exact h'
 | cons a _ ih=>exact .cons a ih
theorem Bo.get {H:Hp} {us:List V} {fs:List (List Str)} (h:Bo H us fs):∀ {i:Nat} {u:V},us[i]? = some u->∃ t f,u=.ref t/\fs[i]? = some f/\H t=some (.tup (f.map V.str)):=by
 induction h with
 | nil=>intro i u e; simp at e
 | cons a _ ih=>
  intro i u e;cases i with
  | zero=>simp at e; subst e; exact ⟨_,_,rfl,rfl,a⟩
  | succ i=>exact ih (by simpa using e)
theorem Bo.mem {H:Hp} {us:List V} {fs:List (List Str)} (h:Bo H us fs) {u:V} (hu:u ∈ us):∃ t f,u=.ref t/\f ∈ fs/\H t=some (.tup (f.map V.str)):=by
 obtain ⟨i,hi⟩:=ZY hu;obtain ⟨t,f,e,ef,ht⟩:=h.get hi;exact ⟨t,f,e,YN ef,ht⟩
theorem Bo.perm {H:Hp} {us Ky:List V} (p:Ky.Perm us):∀ {fs:List (List Str)},Bo H us fs->∃ VC,VC.Perm fs/\Bo H Ky VC:=by
 induction p with
 | nil=>intro fs h; cases h; exact ⟨[],.refl _,.nil⟩
 | cons x p ih=>
  intro fs h;cases h with
  | cons a b=>
   obtain ⟨VC,p',t'⟩:=ih b;exact ⟨_ :: VC,p'.cons _,.cons a t'⟩
 | swap x y l=>
  intro fs h;cases h with
  | cons a b=>
   cases b with
   | cons c d=>exact ⟨_ :: _ :: _,.swap _ _ _,.cons c (.cons a d)⟩
 | trans p1 p2 Wi Wh=>
  intro fs h;obtain ⟨f1,q1,t1⟩:=Wh h;obtain ⟨f2,q2,t2⟩:=Wi t1;exact ⟨f2,q2.trans q1,t2⟩
theorem Bo.kinds {H:Hp} {us:List V} {fs:List (List Str)} (h:Bo H us fs) (ne:∀ f ∈ fs,f ≠ []):∀ v ∈ us,Nn H (fun _=>true) v:=by
 intro v hv;obtain ⟨t,f,rfl,hf,ht⟩:=h.mem hv;refine ⟨t,_,rfl,ht,by simpa using ne f hf,fun i y e=>?_⟩;rw [YS] at e;cases z:f[i]? with
 | none=>rw [z] at e; cases e
 | some x=>rw [z] at e; exact ⟨x,(Zf.inj e).symm⟩
def GA:V->Nat->Bool
 | .int i,k=>decide ((k:Int)<=i)
 | _,_=>true
def My (sites:List Str) (x:V) (os:List (List Str)):Prop:=
 os.Nodup/\True/\∀ ss,ss ∈ os ↔ ss ≠ []/\ss.Sublist sites/\GA x ss.length=true
theorem My.ne {sites:List Str} {x:V} {d:PyData} {os:List (List Str)} (h:My sites x os) (hs:sites ≠ []) (l:Lim x d):os ≠ []:=by
 cases sites with
 | nil=>exact absurd rfl hs
 | cons s sites=>
  have:[s] ∈ os:=(h.2.2 [s]).mpr ⟨by simp,(aM _).cons₂ s,by
   rcases l with ⟨rfl,_⟩ | ⟨i,rfl,_,h1,_⟩
   ·rfl
   ·exact decide_eq_true (by simpa using h1)⟩
  intro z;rw [z] at this;cases this
theorem My.opn {sites:List Str} {x:V} {os:List (List Str)} (h:My sites x os) (nd:sites.Nodup) {ss:List Str} (hs:ss ∈ os):Lq sites ss:=by
 obtain ⟨h1,h2,_⟩:=(h.2.2 ss).mp hs;exact ⟨h1,h2.nodup nd,fun s hs=>h2.subset hs⟩
theorem Lq.mono {xs ys ss:List Str} (h:Lq xs ss) (s:∀ x ∈ xs,x ∈ ys):Lq ys ss:=⟨h.1,h.2.1,fun x hx=>s x (h.2.2 x hx)⟩
def Nq (sites:List Str) (fs:List (List Str)):Prop:=fs.Nodup/\∀ ss,ss ∈ fs ↔ ss.Sublist sites
theorem Nq.nil:Nq [] [[]]:=⟨by simp,fun ss=>by simp⟩
theorem Nq.step {a:Str} {sites:List Str} {fs:List (List Str)} (ha:a ∉ sites) (h:Nq sites fs):Nq (a :: sites) (fs ++ fs.map (a :: ·)):=by
 refine ⟨Z4.mpr ⟨h.1,?_,?_⟩,fun ss=>?_⟩
 ·refine ZS.mpr (h.1.imp fun {x y} ne e=>?_);injection e with _ e;exact ne e
 ·rintro x hx y hy rfl;obtain ⟨g,hg,rfl⟩:=YT.mp hy;exact ha (((h.2 _).mp hx).subset Zg)
 ·rw [Zl,YT,List.sublist_cons_iff];constructor
  ·rintro (h1 | ⟨g,hg,rfl⟩)
   ·exact .inl ((h.2 _).mp h1)
   ·exact .inr ⟨g,rfl,(h.2 _).mp hg⟩
  ·rintro (h1 | ⟨g,rfl,hg⟩)
   ·exact .inl ((h.2 _).mpr h1)
   ·exact .inr ⟨g,(h.2 _).mpr hg,rfl⟩
def O8 (H:Hp) (c:Addr) (sites:List Str) (x:V) (d:PyData):Prop:=
 ∃ (m t2:V) (t1:Addr) (Fi:List V) (rs1:List BS),H c=some (.tup [m,.ref t1,t2,x])/\H t1=some (.tup Fi)/\AY H Fi (rs1.map Gy)/\rs1.map (·.1)=sites/\sites.Nodup/\sites.length<=10/\Lim x d
theorem Cm.sites {H:Hp} {c m:Addr} {n:Nat} {xs:List Str} {ws:List AA} {rs1 Au:List BS} {x:V} {d:PyData} (h:Cm H c m n xs ws rs1 Au x d):O8 H c (rs1.map (·.1)) x d:=by
 obtain ⟨t1,t2,Fi,MA,a,b,e,f,g⟩:=h.ex;exact ⟨_,_,t1,Fi,rs1,a,b,e,rfl,h.ok1.nd,by rw [YI]; exact h.l1,h.lim⟩
theorem QX {X:Cx} (fn:Str->Bool) {ix:Nat} {x:Str} {px spos:Pos} {tg iter elt:Expr} {ifs:List Expr} {scope:Scope} {cl:List (Str × Addr)} {N:List Str} {pos:Pos} {wi:TI} {g:TG} {tt:TT} {te:TE} {σ0:St->St} (hN:X.N.Nodup) (hix:X.N[ix]? = some x) (hlx:Vx X.env.scope x) (hc:X.calm=true) (co:Gr X scope cl) (hfn:∀ x,fn x=true->(x,NameKind.cell) ∈ scope.names)
  (hσ:∀ σ,σ.length=X.N.length->AH X cl scope N σ (σ0 σ)) (hK:∀ (σ:St) (i:Nat) (x:Str) (v:V),N[i]? = some x->(σ0 σ)[i]? = some (some v)->(x,NameKind.cell) ∉ scope.names) (hi:PI X tg iter wi)
  (hb:∀ s2 H C fp,PG (BH X scope (cellsFrom (C + 1) scope.names cl) N s2 H C fp fn) tg g/\Ux (BH X scope (cellsFrom (C + 1) scope.names cl) N s2 H C fp fn) ifs tt/\PE (BH X scope (cellsFrom (C + 1) scope.names cl) N s2 H C fp fn) elt te)
  (hsw:swapsWith (.ListComp elt [⟨tg,iter,ifs,0⟩] scope pos) (some (.Name x px)) spos.line X.env=pure true:=by rfl)
  (hs:∀ x,foldedSetIterable iter X.env x=pure x:=by intro _; rfl) (hf:X.fn x=true\/X.env.scope.names.lookup x=some .local:=by first | exact .inl rfl | exact .inr rfl | assumption) :
  PS X (.Assign [.Name x px] (.ListComp elt [⟨tg,iter,ifs,0⟩] scope pos) spos) (Q3 (N4 wi g tt te σ0) (Kf ix)):=by
 intro pins s σ H DD I h;rw [exec_Assign_Name_used _ _ _ _ hsw];refine wpAny_bind (wpAny_standAt (wpAny_bind ?_));show wpAny _ X.A (do let _ <- comprehension (.ListComp elt [⟨tg,iter,ifs,0⟩] scope pos) scope X.env _ (newList []) false (eval iter X.env) (some (assign (.Name x px) X.env))) _ _ s
 refine wpAny_bind (wpAny_mono (wpAny_comprehension_free (use:=some (assign (.Name x px) X.env)) (Q:=fun _ s'=>SP X pins DD .next s') rfl hs co.clos co.kind co.names
  (wpAny_mono (hi (pins:=pins) s σ H _ I h) (fun xv s1 h1=>wpAny_mono h1 (fun itv s2 h2=>?_) fun _ _ e=>e) fun _ _ e=>e)) (fun _ s' hq=>wpAny_pure (wpAny_pure hq)) fun _ _ e=>e)
 obtain ⟨it,fp,tn,J,H2,rfl,I2,T,Ff,f2,hW⟩:=h2;refine wpAny_newObj_type (Ju ?_);dsimp only;generalize IQ:s2.heap.push { cls:=.type "list",dict:=none,data:=.seq ([]:List Value).toArray } = HH;have Bn:HH.objs.size=s2.heap.objs.size + 1:=by rw [<-IQ,Z6]
 obtain ⟨h₁,Mn⟩:∃ h₁,h₁=pushCells (HH.push { cls:=.type "dict",data:=.dict #[] }) scope.names:=⟨_,rfl⟩
 rw [<-Mn];have Br:h₁.Ns HH.objs.size (fun _=>aL):=by
  rw [Mn];exact (Heap.Ns.new HH (.type "dict")).keeps (pushCells_keeps _ _)
 have old:∀ b o,s2.heap.get? b=some o->h₁.get? b=some o:=fun b o e=>by
  rw [Mn];exact pushCells_keeps _ _ _ _ (YK _ (IQ ▸ YK _ e))
 have newD:∃ n,h₁.get? s2.heap.objs.size=some { cls:=.type "list",data:=.seq ([]:List Value).toArray n }:=by
  refine ⟨0,?_⟩;rw [Mn];exact pushCells_keeps _ _ _ _ (YK _ (IQ ▸ YW _ rfl))
 obtain ⟨Kl,ecl⟩:∃ Kl,Kl=cellsFrom (HH.objs.size + 1) scope.names cl:=⟨_,rfl⟩
 have clt:∀ x c,(x,c) ∈ cl->c < s2.heap.objs.size:=fun x c e=>by
  obtain ⟨v,q⟩:=I2.cell x c (co.sub x c e);exact q.lt
 have KS:∀ x c,(x,c) ∈ Kl->(x,c) ∈ cl\/(HH.objs.size + 1<=c/\h₁.IsCell c aL):=fun x c hm=>by
  have hsz:(HH.push { cls:=.type "dict",data:=.dict #[] }).objs.size=HH.objs.size + 1:=Z6 ..;rw [ecl,<-hsz] at hm;have q:=GJ scope.names (HH.push { cls:=.type "dict",data:=.dict #[] }) cl (HH.objs.size + 1) (by rw [hsz]; exact YO _) (fun y d hy=>.inl (YZ (clt y d hy) (by rw [Bn]; lia))) x c hm;rw [Mn];exact q
 have ap':Kl.Pairwise fun x y=>x.2 ≠ y.2:=by
  rw [ecl];exact EL _ _ _ co.apart fun x c hm=>YZ (clt x c hm) (by rw [Bn]; lia)
 have VL:∀ x c,Kl.lookup x=some c->X.env.cells.lookup x=some c\/(s2.heap.objs.size<=c/\c ≠ s2.heap.objs.size/\c ≠ HH.objs.size/\h₁.IsCell c aL):=fun x c e=>by
  rcases KS x c (PySem.mem_of_lookup e) with q | ⟨q1,q2⟩
  ·exact .inl (co.sub x c q)
  ·exact .inr ⟨by rw [Bn] at q1; exact bg (YZ (Zq (Zw _)) q1),ZD (by rw [Bn] at q1; exact YZ (Zq (Zw _)) q1),ZD (YZ (Zw _) q1),q2⟩
 have Ya:∀ x y c,Kl.lookup x=some c->Kl.lookup y=some c->x=y:=fun x y c e1 e2=>name_of_addr ap' (PySem.mem_of_lookup e1) (PySem.mem_of_lookup e2)
 have X3:∀ x c,fn x=true->Kl.lookup x=some c->s2.heap.objs.size<=c:=fun x c h e=>by
  rw [ecl] at e;exact GI s2.heap.objs.size scope.names (HH.objs.size + 1) cl x c (by rw [Bn]; lia) (.inl (hfn x h)) e
 have Yn:∀ x,((relabel scope X.env).names.lookup x=some .cell\/(relabel scope X.env).names.lookup x=some .free)->∃ c,Kl.lookup x=some c:=fun x h=>by
  obtain ⟨c,hc⟩:=GK scope.names (HH.objs.size + 1) cl x (co.has x h);rw [ecl];exact Dq hc
 have keepS:∀ (i:Nat) (x:Str) (v:V),N[i]? = some x->(σ0 σ)[i]? = some (some v)->∀ c,Kl.lookup x=some c->X.env.cells.lookup x=some c:=fun i x v e1 e2 c e=>by
  rw [ecl] at e;have m2:=F2 scope.names (HH.objs.size + 1) cl x c (PySem.mem_of_lookup e) (hK σ i x v e1 e2);exact co.sub x c m2
 obtain ⟨W,⟨m0,w0⟩,turn⟩:=hW s2.heap.objs.size I2.fresh;have hfo:∀ b ∈ fp,∃ o,s2.heap.get? b=some o:=fun b hb=>let ⟨o,e,_⟩:=T.obj _ _ Ff b hb; ⟨o,e⟩
 have Yc:∀ σ,σ.length=X.N.length->AH X Kl scope N σ (σ0 σ):=fun σ h=>hσ σ h
 have I3:An (BH X scope Kl N s2 H2 HH.objs.size fp fn) [] (σ0 σ) (upd H2 s2.heap.objs.size (.lst [])) { s2 with heap:=h₁,toks:=s2.toks }:=
  Mt I2 f2 hfo co VL Ya X3 Yn keepS (Yc σ I.len) old (YO _) (by rw [Bn]; exact Z0 _) (ZD (by rw [Bn]; exact Zw _)) (.inr newD) Br
 have fC:s2.heap.objs.size<=HH.objs.size:=by rw [Bn]; exact Z0 _
 obtain ⟨hg,ht,he⟩:=hb s2 H2 HH.objs.size fp;rw [<-ecl] at hg ht he;have loop:∀ BU:Shared,BU = { s2 with heap:=h₁,toks:=s2.toks } ->
   codeAny (model X.prog X.w) X.A (.compLoop (.ListComp elt [⟨tg,iter,ifs,0⟩] scope pos) 0 (.ref it) (.ref s2.heap.objs.size) (compEnvC scope Kl HH.objs.size X.env))
    (compPost (model X.prog X.w) X.A X.xe (some (assign (.Name x px) X.env)) (fun _ s'=>SP X pins DD .next s') (.ref s2.heap.objs.size) HH.objs.size) BU:=by
  rintro BU rfl;have stat:∀ {H':Hp} ,(∀ b ∈ fp,H' b=none)->∀ b ∈ fp,DG (BH X scope Kl N s2 H2 HH.objs.size fp fn) [] H' b:=fun hn b hb=>by
   refine ⟨hn b hb,?_,?_,.inl hb,?_,fun p hp=>by cases hp⟩
   ·obtain ⟨o,e⟩:=hfo b hb;exact YX (show b < HH.objs.size by rw [Bn]; exact Zq (YV e))
   ·intro hz;obtain ⟨_,q1,q2,_⟩:=f2 b hb;rcases YM.mp (I2.stkSub b hz) with e | e
    ·exact q1 e
    ·exact q2 e
   ·intro x c e;rcases VL x c e with z | ⟨z,_⟩
    ·exact (f2 b hb).2.2.2.2.1 x c z
    ·obtain ⟨o,eo⟩:=hfo b hb;exact ZD (YZ (YV eo) z)
  refine BR (fun n s'=>∃ i Aw H',An (BH X scope Kl N s2 H2 HH.objs.size fp fn) [] Aw H' s'/\tn i s'.heap/\(∀ b ∈ fp,H' b=none)/\W i n Aw H') ?_ m0
   ⟨0,σ0 σ,_,I3,T.keep _ _ _ Ff fun b hb o e=>old b o e,fun b hb=>?_,w0⟩
  ·rintro n s4 ⟨i,FF,H4,I4,LA,Mk,w4⟩;rcases turn i n FF H4 w4 with ⟨stop,qn⟩ | ⟨go,step⟩
   ·refine wpAny_mono (T.done (BH X scope Kl N s2 H2 HH.objs.size fp fn) rfl rfl rfl hc i [] s4 FF H4 (fun _ _=>False) I4 (stat Mk) LA stop) (fun r s5 ⟨hr,I5⟩=>?_) fun _ _ z=>z.elim
    subst hr;obtain ⟨m5,R4,_⟩:=id I5.loc;have I6:An X pins σ H4 s5:=Qd (h':=s5.heap) I2 f2 fC I5 (Heap.SameBut.refl _ _);have cC:∀ y c,X.env.cells.lookup y=some c->c ≠ HH.objs.size:=fun y c e=>by
     obtain ⟨v,q⟩:=I2.cell y c e;exact YX (YZ q.lt fC)
    have lC:X.env.locals ≠ HH.objs.size:=YX (YZ I2.lt fC);show wpAny _ X.A (assign (.Name x px) X.env (.ref s2.heap.objs.size)) _ X.xe s5
    refine wpAny_assign_Name (EU I6 hN hix hlx (v:=.ref s2.heap.objs.size) rfl (fun s7 I7 ⟨a,sb,ha⟩=>?_) hf);have aC:a ≠ HH.objs.size:=by
     rcases ha with rfl | ha
     ·exact lC
     ·exact cC _ _ ha
    refine ⟨m5,R4.sameBut sb (Ne.symm aC),fun h' Mh=>⟨_,H4,?_,qn⟩⟩;exact I7.turned (t':=s7.toks) (it:=HH.objs.size) (fun b o hb e=>(Mh.2 b hb).trans e) I5.free (Ne.symm lC) (.inr (Zj I2.sz fC)) cC fun p hp z=>by
     have e:=(I2.pin p hp).1;exact absurd (YZ (YV e) fC) (by rw [z]; exact Z5 _)
   ·refine wpAny_mono (T.item (BH X scope Kl N s2 H2 HH.objs.size fp fn) rfl rfl rfl hc i [] s4 FF H4 (fun _ _=>False) I4 (stat Mk) LA go) (fun r s5 ⟨u,hr,h5⟩=>?_) fun _ _ z=>z.elim
    subst hr;refine wpAny_mono h5 (fun _ s6 ⟨x,H6,I6,r6,y6,HZ,RE⟩=>?_) fun _ _ z=>z.elim
    have RY:=I6.pinned (stat RE) (T.obj _ _ HZ);refine wpAny_mono (hg s6 FF H6 x u _ RY r6 (step x H6 y6)) (fun _ s7 ⟨Er,H7,I7,q7⟩=>?_) fun _ _ z=>z.elim
    refine wpAny_mono (ht s7 Er H7 _ I7 q7) (fun ok s8 ⟨H8,I8,q8⟩=>?_) fun _ _ z=>z.elim
    have again:∀ {s9:Shared} {FE:St} {H9:Hp} ,An (BH X scope Kl N s2 H2 HH.objs.size fp fn) ([] ++ DA fp s6.heap) FE H9 s9->(∃ m',m' < n/\W (i + 1) m' FE H9)->∃ m,m < n/\∃ i Aw H',An (BH X scope Kl N s2 H2 HH.objs.size fp fn) [] Aw H' s9/\tn i s9.heap/\(∀ b ∈ fp,H' b=none)/\W i m Aw H':=fun {s9 FE H9} I9 n9=>by
     obtain ⟨m',hm,w9⟩:=n9;refine ⟨m',hm,i + 1,FE,H9,I9.unpinned,T.keep _ _ _ HZ fun b hb o e=>(I9.pin (b,o) (Za _ (Za _ (AR hb e)))).1,fun b hb=>?_,w9⟩;obtain ⟨o,e,d⟩:=T.obj _ _ HZ b hb;exact (I9.pin (b,o) (Za _ (Za _ (AR hb e)))).2.1
    cases ok with
    | false=>
     rw [if_neg Zd] at q8 ⊢;exact again I8 q8
    | true=>
     rw [if_pos rfl] at q8 ⊢;refine wpAny_mono (he s8 Er H8 _ I8 q8) (fun y s9 ⟨v,H9,I9,r9,acc,hacc,hsz,q9⟩=>?_) fun _ _ z=>z.elim
     refine wpAny_mono (Cu (X:=BH X scope Kl N s2 H2 HH.objs.size fp fn) s9 Er H9 (.ref s2.heap.objs.size) [v] (.ref s2.heap.objs.size) [y] (fun _ M4=>∃ m',m' < n/\W (i + 1) m' Er M4) I9 rfl (.cons r9 .nil) ⟨_,acc,v,rfl,rfl,hacc,hsz,q9⟩) (fun _ QN ⟨_,M4,RZ,_,QU⟩=>?_) fun _ _ z=>z.elim
     exact again RZ QU
  ·have z:=(f2 b hb).1;obtain ⟨o,e⟩:=hfo b hb;rw [Ae (YX (YV e))];exact z
 subst ecl;exact codeAny_compStart_list (loop _ rfl) (T.self _ 0 _ _ _ (T.keep _ _ _ Ff fun b hb o e=>old b o e) (loop _ rfl))
theorem Iu {α β:Type} {F G:α->β->Prop}:∀ {Me:List α} {Mc:List β},Paired F Me Mc->(∀ a b,F a b->G a b)->Paired G Me Mc
 | _,_,.nil,_=>.nil
 | _,_,.cons r t,h=>.cons (h _ _ r) (Iu t h)
def TM (H:Hp) (a:Addr) (kvs:List (List A7 × V)) (o:Obj) (H':Hp):Prop:=H a=some (.dT kvs)/\H'=upd H a (.frz o (.dT kvs))
def Vy (a:Addr) (kvs:List (List A7 × V)) (o:Obj) (ts:List Addr):It:=
 ⟨fun i H=>H a=some (.frz o (.dT kvs))/\i < ts.length,fun i H x H'=>H'=H/\∃ t,ts[i]? = some t/\x=.ref t,fun i H=>H a=some (.frz o (.dT kvs))/\ts.length<=i⟩
theorem QS {X:Cx} {pins:List (Addr × Obj)} {σ:St} {H:Hp} {s:Shared} {a:Addr} {o:Obj} {kvs:List (List A7 × V)} {es:Array DictEntry} {ep:Nat} (I:An X pins σ H s) (e:H a=some (.frz o (.dT kvs))) (he:o.data=.dict es ep):DE s.heap a es ep:=by
 obtain ⟨ho,_,_,xs,rel,o',Tw,T5,h1,h2,h3,h4⟩:=(show A5 X.prog X.w H s.heap a (.frz o (.dT kvs)) from I.hok a _ e)
 rw [ho] at h1;cases h1
 exact ⟨o,ho,h2,he⟩
theorem S0 {P:Program} {w:World} {K:YL} {tg:Expr} (a it:Addr) {kvs:List (List A7 × V)} {o:Obj} {es:Array DictEntry} {ep:Nat} {ts:List Addr} (he:o.data=.dict es ep) (hk:es.toList.map (·.key)=ts.map Value.ref) :
  Lk P w K tg (Vy a kvs o ts) [it] it (fun i h=>h.IsKeyIter it a i es.size ep) where
 mem:=by simp
 obj:=fun i h st b hb=>by
  have e:b=it:=by simpa using hb
  subst e;obtain ⟨o,e,c,d⟩:=st;exact ⟨o,e,fun v z=>by rw [d] at z; cases z⟩
 keep:=fun i h h' st k=>st.at fun o e=>k it (by simp) o e
 item:=by
  intro X hP hw hK hc i pins s σ H E I hf st hg;subst hP hw hK;obtain ⟨hq,Bv⟩:=hg;have rd:=QS I hq he;have ex:es[i]?.map (·.key)=some (.ref ts[i]):=by
   have e:=congrArg (fun l:List Value=>l[i]?) hk;rw [YS,YS,YJ Bv,ZL] at e;exact e
  obtain ⟨f0,f1,f2,f3,f4,f5⟩:=hf it (by simp);refine LK st rd ex fun h' AM sb=>?_
  have I1:An X pins σ H { s with heap:=h' }:=I.turned (t':=s.toks) (fun b o hb e=>(sb.2 b hb).trans e) f0 f1 f3 f4 f5;obtain ⟨o',e,c,d⟩:=id AM;exact ⟨_,rfl,IT (s:={ s with heap:=h' }) e c d (by decide) ⟨.ref ts[i],H,I1,rfl,⟨rfl,ts[i],YJ Bv,rfl⟩,AM,fun b hb=>(hf b hb).1⟩⟩
 done:=by
  intro X hP hw hK hc i pins s σ H E I hf st hg;subst hP hw hK;obtain ⟨hq,hle⟩:=hg;have rd:=QS I hq he;obtain ⟨f0,f1,f2,f3,f4,f5⟩:=hf it (by simp);have hl:es.size=ts.length:=by
   have e:=congrArg ZW hk;rw [YI,YI,Zv] at e;exact e
  exact NQ (I.ok.hd hc) st rd (by lia) fun h' eb=>⟨rfl,I.turned (t':=s.toks) (fun b o hb e=>eb b o hb e) f0 f1 f3 f4 f5⟩
 self:=fun _ _ _ _ _ st h=>wpAny_pyIter_keyiter st h
def Ve (tl:TE):TI:=fun σ H R=>tl σ H fun x H1=>∃ a kvs,x=.ref a/\H1 a=some (.dT kvs)/\∀ o ts H2,TM H1 a kvs o H2->ts.length=kvs.length->(∀ (i:Nat) t p,ts[i]? = some t->kvs[i]? = some p->H2 t=some (.tup (p.1.map kV)))->R (Vy a kvs o ts) H2
theorem NY {X:Cx} {tg l:Expr} {tl:TE} (hl:PE X l tl):PI X tg l (Ve tl):=by
 intro pins s σ H R I h;refine Bj (hl (pins:=pins) s σ H _ I h) fun v s1 ⟨x,H1,I1,r1,q1⟩=>?_
 obtain ⟨a,kvs,e,hr,q⟩:=q1;subst e;cases r1
 obtain ⟨z,y,xs,rel,o,es,ep,h1,h2,h3,h4,h5⟩:=(show A5 X.prog X.w H1 s1.heap a (.dT kvs) from I1.hok a _ hr)
 have I2:An X pins σ (upd H1 a (.frz o (.dT kvs))) s1:=by
  have tup:∀ b ys,H1 b=some (.tup ys)->b ≠ a:=fun b ys hb z=>by rw [z,hr] at hb; cases hb
  refine I1.write (x:=a) (e:=a) (h':=s1.heap) (t':=s1.toks) (by rw [hr]; exact True.intro) (.inl rfl) (fun b u _ q=>q) ⟨o,h1⟩ ⟨h1,z,y,xs,?_,o,es,ep,h1,h2,h3,h4,h5⟩;exact Iu rel fun p q ⟨e1,e2,e3⟩=>⟨e1,by rw [Ae (tup _ _ e2)]; exact e2,e3⟩
 have hk:es.toList.map (·.key)=(xs.map (·.2.1)).map Value.ref:=by rw [h4,Zt,Zt]; rfl
 have rd:DE s1.heap a es ep:=⟨o,h1,h2,h3⟩
 refine LJ y rd ?_;refine ⟨s1.heap.objs.size,[s1.heap.objs.size],_,_,_,rfl,I2.kept (t':=s1.toks) fun b o e=>YK _ e,S0 a _ h3 hk,⟨_,YW _ rfl,rfl,rfl⟩,fun b hb=>?_,q o (xs.map (·.2.1)) _ ⟨hr,rfl⟩ (by rw [YI]; exact (Paired.length rel).symm) fun i t p e1 e2=>?_⟩
 ·have e:b=s1.heap.objs.size:=by simpa using hb
  subst e;exact I2.fpOk (YO _) (I2.hok.fresh (YO _))
 ·obtain ⟨qq,e3,_,e4,_⟩:=Paired.at rel e2;rw [YS,e3] at e1;cases e1
  show upd H1 a _ qq.2.1=_
  rw [Ae (fun z=>by rw [z,hr] at e4; cases e4)];exact e4
theorem HP {a:Addr} {kvs:List (List A7 × V)} {o:Obj} {ts:List Addr}:Nv (Vy a kvs o ts) (ts.map V.ref) (fun H=>H a=some (.frz o (.dT kvs))):=
 ⟨fun i H q Bv=>⟨q,by rwa [YI] at Bv⟩,fun i H x H' q ⟨e,t,et,ex⟩=>⟨e,by rw [YS,et,ex]; rfl⟩,fun H q=>⟨q,by rw [YI]; exact YO _⟩⟩
def QT (K:YL):R2:=fun x y H Q=>∃ a b xs ys,x=.ref a/\y=.ref b/\AI K H a xs/\AI K H b ys/\xs.length + ys.length<=sizeLine /\
 (xs=[]->Q (.ref b) H)/\(xs ≠ []->ys=[]->Q (.ref a) H)/\(xs ≠ []->ys ≠ []->∀ p,H p=none->Q (.ref p) (upd H p (.tup (xs ++ ys))))
theorem Iy (K:YL) {X:Cx} (hK:X.K=K):Ey X (binaryOp .Add) (QT K):=by
 subst hK;intro pins s σ H x y v u Q I rx ry h;obtain ⟨a,b,xs,ys,rfl,rfl,ha,hb,hz,q0,q1,q2⟩:=h;cases rx
 cases ry
 obtain ⟨Aq,r1,p1,_⟩:=I.tuple ha;obtain ⟨PJ,r2,p2,_⟩:=I.tuple hb;by_cases hx:xs=[]
 ·obtain ⟨⟨cls,dd,data,sl⟩,ho,hc,n,hd⟩:=id p1;obtain ⟨⟨Vq,O2,data2,Qj⟩,Mi,R8,n2,hd2⟩:=id p2;simp only at hc hd R8 hd2;subst hc hd R8 hd2;exact concat_meets ⟨_,ho,rfl⟩ ⟨_,Mi,rfl⟩ noFill_tuple_add seq_tuple_add PySem.F.slot_tuple_add PySem.F.entry_tuple_add (PySem.F.args_tuple_add_2 _ _)
   (tuple_addW0 a b Aq.toArray PJ.toArray n n2 dd O2 sl Qj (by simp [r1.nil_iff.mpr hx])) ⟨ho,Mi,⟨.ref b,H,I,rfl,q0 hx⟩⟩
 ·refine HT.cat_tup p1 p2 (fun z=>hx (r1.nil_iff.mp z)) (fun z=>⟨.ref a,H,I,rfl,q1 hx (r2.nil_iff.mp z)⟩) (fun z=>?_) (by rw [<-r1.length,<-r2.length]; exact hz);refine ⟨.ref s.heap.objs.size,_,I.laid (t':=s.toks) (o:=.tup (xs ++ ys)) (fun b ob q=>YK _ q) (YO _) ?_,rfl,q2 hx (fun w=>z (r2.nil_iff.mpr w)) _ (I.hok.fresh (YO _))⟩;exact ⟨by rw [YR]; exact hz,_,r1.append r2,IsTup.new _ _,Np.new rfl rfl⟩
theorem J8 {X:Cx} (hc:X.calm=true):Bd X (.builtin "min") (fun xs H Q=>∃ (a:Addr) (ns:List Int),xs=[.ref a]/\H a=some (.lst (ns.map V.int))/\ns ≠ [] /\
  ∀ m,m ∈ ns->(∀ x ∈ ns,m<=x)->Q (.int m) H):=by
 intro pins s σ H xs us Q I r h;obtain ⟨a,ns,rfl,ha,hne,q⟩:=h;obtain ⟨u,rfl,ru⟩:=BZ r;cases ru
 obtain ⟨Aq,rv,pl,hz⟩:=I.list (AD.of ha);have il:Aq.length=ns.length:=by rw [<-rv.length,YI]
 have pos:0 < ns.length:=ZZ.mpr hne;refine G9 (bt:=fun i j=>decide (ns.getD i 0 < ns.getD j 0)) (I.ok.hd hc) pl.isList (by lia) (fun i j vi vj s' Q' E' g hi hj hQ=>?_) fun v h2 tk hv k2=>?_
 ·obtain ⟨x,t,e1,rfl⟩:=HQ rv i vi hi;obtain ⟨y,u,e2,rfl⟩:=HQ rv j vj hj;dsimp only at hQ;rw [Zo,Zo,e1,e2] at hQ;exact CA.int _ _ _ _ _ _ _ _ _ _ hQ
 ·obtain ⟨x,t,e1,rfl⟩:=HQ rv _ v hv;obtain ⟨b1,b2⟩:=Jk (fun i j=>decide (ns.getD i 0 < ns.getD j 0)) (fun i=>ns.getD i 0) (fun i j h=>by have:=of_decide_eq_true h; lia) (fun i j h=>by have:=of_decide_eq_false h; lia) (Aq.length - 1);refine ⟨.int x,H,I.kept k2,⟨t,rfl⟩,q x (YN e1) fun y hy=>?_⟩;obtain ⟨j,hj,rfl⟩:=Zh hy;have:=b2 j (by lia);have e2:ns.getD j 0=ns[j]:=by simp [hj]
  have e3:ns.getD (argBest (fun i j=>decide (ns.getD i 0 < ns.getD j 0)) (Aq.length - 1)) 0=x:=by
   rw [Zo,e1]; rfl
  rw [e2,e3] at this;exact this
def Md (ws:List AA) (ss:List Str) (y:Str) (d:Int):Prop:=(∃ s ∈ ss,B9 ws s y d)/\∀ s ∈ ss,∀ m,B9 ws s y m->d<=m
theorem Md.uniq {ws:List AA} {ss:List Str} {y:Str} {d e:Int} (h:Md ws ss y d) (g:Md ws ss y e):d=e:=by
 obtain ⟨⟨s,hs,h1⟩,h2⟩:=h;obtain ⟨⟨t,ht,g1⟩,g2⟩:=g;have a:=h2 t ht _ g1;have b:=g2 s hs _ h1;lia
theorem Jn.md {ws:List AA} {ss:List Str} {y:Str} {p:Int × Str} (h:Jn ws ss y p):Md ws ss y p.1:=
 ⟨⟨p.2,h.1.1,h.1.2⟩,fun s hs m g=>by
  rcases h.2 s hs m g with z | ⟨z,_⟩
  ·exact Int.le_of_lt z
  ·have:p.1=m:=z;lia⟩
def Ks (ws:List AA) (ss:List Str) (rs:List BS) (ds:List Int):Prop:=ds.length=rs.length/\∀ (i:Nat) r d,rs[i]? = some r->ds[i]? = some d->Md ws ss r.1 d
theorem Ks.uniq {ws:List AA} {ss:List Str} {rs:List BS} {ds es:List Int} (h:Ks ws ss rs ds) (g:Ks ws ss rs es):ds=es:=by
 refine af (by rw [h.1,g.1]) fun i i1 i2=>?_
 have hr:rs[i]? = some (rs[i]'(by rw [<-h.1]; exact i1)):=YJ _;exact (h.2 i _ _ hr (YJ i1)).uniq (g.2 i _ _ hr (YJ i2))
def KR (rs:List BS) (ds:List Int):Int:=((rs.zip ds).map fun p=>p.1.2 * p.2).sum
def B5 (ws:List AA) (rs1 Au:List BS) (ss:List Str) (t:Int):Prop:=∃ ds,Ks ws ss Au ds/\t=(ss.map (Ba rs1)).sum + KR Au ds
theorem B5.uniq {ws:List AA} {rs1 Au:List BS} {ss:List Str} {t u:Int} (h:B5 ws rs1 Au ss t) (g:B5 ws rs1 Au ss u):t=u:=by
 obtain ⟨ds,a,rfl⟩:=h;obtain ⟨es,b,rfl⟩:=g;rw [a.uniq b]
theorem ES.ways {ws:List AA} {ss:List Str} {rs gs:_} (h:ES ws ss rs gs):Ks ws ss rs (gs.map (·.2.2)):=by
 refine ⟨by rw [YI]; exact h.1,fun i r d e1 e2=>?_⟩;rw [YS] at e2;cases z:gs[i]? with
 | none=>rw [z] at e2; cases e2
 | some g=>
  rw [z] at e2;cases e2
  exact (h.2 i r g e1 z).2.md
theorem M7 {ws:List AA} {ss:List Str} {rs gs:_} (h:ES ws ss rs gs) (nd:(rs.map (·.1)).Nodup):FH rs gs=KR rs (gs.map (·.2.2)):=by
 unfold FH KR;congr 1;refine af (by rw [YI,YI,ay,YI,h.1,dP]) fun i i1 i2=>?_
 rw [YI] at i1;have hr:rs[i]? = some (rs[i]'(by rw [<-h.1]; exact i1)):=YJ _;have hg:gs[i]? = some gs[i]:=YJ _;rw [ZJ,ZJ,bO,ZJ,(h.2 i _ _ hr hg).1,Dt nd (YN hr)]
theorem ES.total {ws:List AA} {ss:List Str} {rs1 rs gs:_} (h:ES ws ss rs gs) (nd:(rs.map (·.1)).Nodup):B5 ws rs1 rs ss ((ss.map (Ba rs1)).sum + FH rs gs):=
 ⟨_,h.ways,by rw [M7 h nd]⟩
def Gu (sites:List Str) (x:V) (ss:List Str):Prop:=ss ≠ []/\ss.Sublist sites/\GA x ss.length=true
def Vz (ws:List AA) (rs1 Au:List BS) (x:V) (k:Int × List Str):Prop:=
 Gu (rs1.map (·.1)) x k.2/\B5 ws rs1 Au k.2 k.1/\∀ ss t,Gu (rs1.map (·.1)) x ss->B5 ws rs1 Au ss t->A8 (Cs (t,ss)) (Cs k)=false
def Sa (H:Hp) (v:V) (xs:List Str) (ws:List AA) (s:Str):Prop:=∃ (B:Addr) (nb:List (Str × V)),v=.ref B/\H B=some (.dK (sK nb))/\nb.map (·.1)=xs/\∀ y u,(y,u) ∈ nb->∃ n,u=.int n/\VE ws s y n
def Ic:Sp:=fun vs H Q _=>∃ (c m:Addr) (n:Nat) (xs:List Str) (ws:List AA) (rs1 Au:List BS) (x:V) (d:PyData),vs=[.ref c]/\Cm H c m n xs ws rs1 Au x d /\
 ∀ (H':Hp) (D:Addr) (nv:List (Str × V)),Av H H'->H D=none->H' D=some (.dK (sK nv))->nv.map (·.1)=rs1.map (·.1)->(∀ s v,(s,v) ∈ nv->Sa H' v xs ws s)->Q (.ref D) H'
def MF:Sp:=fun vs H Q _=>∃ (c:Addr) (sites:List Str) (x:V) (d:PyData),vs=[.ref c]/\O8 H c sites x d /\
 ∀ mo:Int,0<=mo->(∀ k:Nat,k<=sites.length->((k:Int)<=mo ↔ GA x k=true))->Q (.int mo) H
def EW:Sp:=fun vs H Q _=>∃ (c e m:Addr) (n:Nat) (xs:List Str) (ws:List AA) (rs1 Au:List BS) (x:V) (d:PyData) (us:List V) (os:List (List Str)),vs=[.ref c,.ref e]/\Cm H c m n xs ws rs1 Au x d /\
 H e=some (.lst us)/\Bo H us os/\os.Nodup/\(∀ ss ∈ os,Lq (rs1.map (·.1)) ss)/\os.length<=1024 /\
 ∀ (H':Hp) (D:Addr) (kvs:List (List A7 × V)),Av H H'->H D=none->H' D=some (.dT kvs)->kvs.map (·.1)=os.map (fun ss=>ss.map Sum.inr)->(∀ ss v,(ss.map Sum.inr,v) ∈ kvs->∃ t,v=.int t/\B5 ws rs1 Au ss t)->Q (.ref D) H'
def ER (l:List Str) (mo:Int) (fs:List (List Str)):Prop:=fs.Nodup/\∀ ss,ss ∈ fs ↔ ss.Sublist l/\(ss.length:Int)<=mo
theorem ER.nil {mo:Int} (h:0<=mo):ER [] mo [[]]:=⟨by simp,fun ss=>by
 constructor
 ·intro z;rw [Zc] at z;subst z;exact ⟨List.Sublist.refl _,by simpa using h⟩
 ·rintro ⟨z,_⟩;rw [bP.mp z];simp⟩
theorem ER.step {a:Str} {l:List Str} {mo:Int} {fs:List (List Str)} (ha:a ∉ l) (h:ER l mo fs):ER (l ++ [a]) mo (fs ++ (fs.filter fun f=>decide ((f.length:Int) < mo)).map (· ++ [a])):=by
 refine ⟨Z4.mpr ⟨h.1,?_,?_⟩,fun ss=>?_⟩
 ·exact ZS.mpr ((h.1.sublist ax).imp fun {x y} ne e=>ne (List.append_cancel_right e))
 ·rintro x hx y hy rfl;obtain ⟨g,hg,rfl⟩:=YT.mp hy;exact ha (((h.2 _).mp hx).1.subset (by simp))
 ·rw [Zl,YT,List.sublist_append_iff];constructor
  ·rintro (h1 | ⟨g,hg,rfl⟩)
   ·exact ⟨⟨ss,[],by simp,((h.2 _).mp h1).1,aM _⟩,((h.2 _).mp h1).2⟩
   ·obtain ⟨g1,g2⟩:=Zx.mp hg;exact ⟨⟨g,[a],rfl,((h.2 _).mp g1).1,List.Sublist.refl _⟩,by have:=of_decide_eq_true g2; rw [YR,ZC]; lia⟩
  ·rintro ⟨⟨l1,l2,rfl,s1,s2⟩,le⟩;have:l2=[]\/l2=[a]:=by
    cases s2 with
    | cons _ s=>exact .inl (bP.mp s)
    | cons_cons _ s=>rw [bP.mp s]; exact .inr rfl
   rcases this with rfl | rfl
   ·rw [ZE] at le ⊢;exact .inl ((h.2 _).mpr ⟨s1,le⟩)
   ·rw [YR,ZC] at le;exact .inr ⟨l1,Zx.mpr ⟨(h.2 _).mpr ⟨s1,by lia⟩,decide_eq_true (by lia)⟩,rfl⟩
theorem OZ {J:It} {xs:List V} {S:Hp->Prop} {g:TG} {tk tv:TE} {H:Hp} {σ0:St} {R:Addr->Hp->Prop} (ov:Nv J xs S) (ks:List Str) (hk:ks.length=xs.length) (nd:ks.Nodup) (I:Addr->Nat->St->Hp->List (Str × V)->Prop) (big:xs.length < sizeLine)
  (h0:∀ D,H D=none->I D 0 σ0 (upd H D (.dK (sK []))) [])
  (hs:∀ D i σ H' nv,H D=none->I D i σ H' nv->S H'/\H' D=some (.dK (sK nv))/\nv.map (·.1)=ks.take i)
  (turn:∀ D i σ H' nv x k (B:St->V->V->Hp->Prop),H D=none->xs[i]? = some x->ks[i]? = some k->I D i σ H' nv->(∀ Az v H6,H6 D=some (.dK (sK nv))->I D (i + 1) Az (upd H6 D (.dK (sK (nv ++ [(k,v)])))) (nv ++ [(k,v)])->B Az (.str k) v H6) ->
   g x σ H' fun Az H3=>tk Az H3 fun y H5=>tv Az H5 fun v H6=>B Az y v H6)
  (fin:∀ D σ H' nv,H D=none->I D xs.length σ H' nv->R D H') :
  ∀ D,H D=none->∃ W:Nat->Nat->St->Hp->Prop,(∃ m,W 0 m σ0 (upd H D (.dK []))) /\
   ∀ i m Aw H',W i m Aw H'->(J.stop i H'/\R D H')\/(J.go i H'/\∀ x H2,J.yld i H' x H2->g x Aw H2 fun Az H3=>L3 Az H3 fun b H4=>
    if b=true then tk Az H4 (fun y H5=>tv Az H5 fun v H6=>∃ kvs k,y=kV k/\H6 D=some (.dK kvs)/\kvs.length < sizeLine/\∃ m',m' < m/\W (i + 1) m' Az (upd H6 D (.dK (Bg kvs k v)))) else ∃ m',m' < m/\W (i + 1) m' Az H4):=by
 intro D hD;refine ⟨fun i m σ H'=>m=xs.length - i/\i<=xs.length/\∃ nv,I D i σ H' nv,⟨xs.length,rfl,Zz _,[],h0 D hD⟩,?_⟩;rintro i m σ H' ⟨rfl,hi,nv,p⟩;obtain ⟨s1,s2,s3⟩:=hs D i σ H' nv hD p;by_cases Bv:i < xs.length
 ·refine .inr ⟨ov.go i H' s1 Bv,fun x H2 y=>?_⟩;obtain ⟨rfl,ex⟩:=ov.yld i H' x H2 s1 y;have hki:i < ks.length:=by lia
  have ek:ks[i]? = some ks[i]:=YJ hki;have nin:ks[i] ∉ nv.map (·.1):=by
   rw [s3];intro Qk;obtain ⟨j,hj,e⟩:=Zh Qk;rw [Zy] at hj;rw [aH] at e;have:=FY nd (YJ (show j < ks.length by lia)) (by rw [ek,e]);lia
  have nl:nv.length=i:=by
   have:=congrArg ZW s3;rw [YI,Zy] at this;lia
  have e:∀ (F:St->V->V->Hp->Prop) (G:St->Hp->Prop),(fun (Az:St) (H3:Hp)=>L3 Az H3 fun b H4=>if b=true then tk Az H4 (fun y H5=>tv Az H5 fun v H6=>F Az y v H6) else G Az H4)=fun Az H3=>tk Az H3 (fun y H5=>tv Az H5 fun v H6=>F Az y v H6):=by
   intro F G;funext Az H3;show (if true=true then tk Az H3 (fun y H5=>tv Az H5 fun v H6=>F Az y v H6) else G Az H3)=_
   rw [if_pos rfl]
  rw [e (fun Az y v H6=>∃ kvs k,y=kV k/\H6 D=some (.dK kvs)/\kvs.length < sizeLine/\∃ m',m' < xs.length - i/\(m'=xs.length - (i + 1)/\i + 1<=xs.length/\∃ DN,I D (i + 1) Az (upd H6 D (.dK (Bg kvs k v))) DN)) (fun Az H4=>∃ m',m' < xs.length - i/\(m'=xs.length - (i + 1)/\i + 1<=xs.length/\∃ DN,I D (i + 1) Az H4 DN))];refine turn D i σ H2 nv x ks[i] _ hD ex ek p fun Az v H6 d6 p6=>?_
  exact ⟨_,Sum.inr ks[i],rfl,d6,by rw [CT]; lia,xs.length - (i + 1),by lia,rfl,Bv,nv ++ [(ks[i],v)],by rw [D9 nin]; exact p6⟩
 ·have e:i=xs.length:=by lia
  subst e;exact .inl ⟨ov.stop H' s1,fin D σ H' nv hD p⟩
theorem Ls {α β:Type} {b:β}:∀ {as:List α} {bs:List β} {a:α},as[bs.length]? = some a->as.zip (bs ++ [b])=as.zip bs ++ [(a,b)]
 | [],bs,a,h=>by simp at h
 | x :: as,[],a,h=>by simp at h; subst h; simp
 | x :: as,y :: bs,a,h=>by
  have:=Ls (as:=as) (bs:=bs) (b:=b) (a:=a) (by simpa using h);simp [this]
theorem La {a b:List Str} (h:a.map (Sum.inr:Str->A7)=b.map Sum.inr):a=b:=by
 induction a generalizing b with
 | nil=>cases b with | nil=>rfl | cons _ _=>cases h
 | cons x a ih=>
  cases b with
  | nil=>cases h
  | cons y b=>
   rw [Zb,Zb] at h;injection h with h1 h2;injection h1 with h1;rw [h1,ih h2]
theorem NC (ss:List Str):(ss.map (Sum.inr:Str->A7)).map kV=ss.map V.str:=by rw [Zt]; rfl
theorem Je {T:List Str->Int->Prop}:∀ {os:List (List Str)} {kvs:List (List A7 × V)},kvs.map (·.1)=os.map (fun ss=>ss.map Sum.inr)->(∀ ss v,(ss.map Sum.inr,v) ∈ kvs->∃ t,v=.int t/\T ss t) ->
  ∃ ks:List (Int × List Str),ks.map (·.2)=os/\ks.length=kvs.length/\(∀ (q:Nat) k,ks[q]? = some k->kvs[q]? = some (k.2.map Sum.inr,.int k.1))/\∀ k ∈ ks,T k.2 k.1
 | [],kvs,h,_=>by
  have:kvs=[]:=by simpa using h
  subst this;exact ⟨[],rfl,rfl,(fun q k e=>by simp at e),fun k hk=>nomatch hk⟩
 | ss :: os,[],h,_=>by cases h
 | ss :: os,(k,v) :: kvs,h,hv=>by
  rw [Zb,Zb] at h;injection h with h1 h2;have h1:k=ss.map Sum.inr:=h1;subst h1;obtain ⟨t,rfl,ht⟩:=hv ss v Zg;obtain ⟨ks,e1,e2,e3,e4⟩:=Je h2 fun ss v hm=>hv ss v (Ze _ hm)
  refine ⟨(t,ss) :: ks,by rw [Zb,e1],by rw [Zm,Zm,e2],fun q k e=>?_,fun k hk=>?_⟩
  ·cases q with
   | zero=>simp at e; subst e; rfl
   | succ q=>simpa using e3 q k (by simpa using e)
  ·rcases YM.mp hk with rfl | hk
   ·exact ht
   ·exact e4 k hk
theorem Ly {κ:Type} [DecidableEq κ] {kvs:List (κ × V)} {k:κ} (h:k ∉ kvs.map (·.1)):Bu kvs k=none:=by
 cases e:Bu kvs k with
 | none=>rfl
 | some v=>exact absurd (Sy e) h
theorem ET {κ:Type} [DecidableEq κ] {k:κ} {v:V}:∀ {kvs:List (κ × V)} {q:Nat},(kvs.map (·.1)).Nodup->kvs[q]? = some (k,v)->Bu kvs k=some v
 | [],q,_,e=>by simp at e
 | p :: kvs,0,_,e=>by
  simp at e;subst e;exact DI rfl
 | p :: kvs,q + 1,nd,e=>by
  rw [Zb] at nd;obtain ⟨n1,n2⟩:=Zu.mp nd;have e':kvs[q]? = some (k,v):=by simpa using e
  rw [Dl (fun z=>n1 (by rw [z]; exact YT.mpr ⟨_,YN e',rfl⟩))];exact ET n2 e'
def tTru (K:YL) (ta:TE):TT:=fun σ H Q=>ta σ H fun x H'=>∃ k,Vu K x H' k/\Q k H'
theorem Ph (K:YL) {X:Cx} (hK:X.K=K) {a:Expr} {ta:TE} (ha:PE X a ta) (he:∀ whole,isTrue a X.env whole=(do let v <- whole; standAt a.pos; holding [v] (truthy v))):PT X a (tTru K ta):=by subst hK; exact Il ha he
theorem QP {n:Nat} {g:TG} {te:TE} {H:Hp} {σ0:St} {R:Addr->Hp->Prop} (I:Addr->Nat->St->Hp->List V->Prop) (big:n < sizeLine)
  (h0:∀ D,H D=none->I D 0 σ0 (upd H D (.lst [])) [])
  (hs:∀ D i σ H' acc,H D=none->I D i σ H' acc->H' D=some (.lst acc)/\acc.length=i)
  (turn:∀ D i σ H' acc (B:St->V->Hp->Prop),H D=none->i < n->I D i σ H' acc->(∀ Az v H5,H5 D=some (.lst acc)->I D (i + 1) Az (upd H5 D (.lst (acc ++ [v]))) (acc ++ [v])->B Az v H5)->g (.int (0 + (i:Int))) σ H' fun Az H3=>te Az H3 (B Az))
  (fin:∀ D σ H' acc,H D=none->I D n σ H' acc->R D H') :
  ∀ D,H D=none->∃ W:Nat->Nat->St->Hp->Prop,(∃ m,W 0 m σ0 (upd H D (.lst []))) /\
   ∀ i m Aw H',W i m Aw H'->((Sq 0 n).stop i H'/\R D H')\/((Sq 0 n).go i H'/\∀ x H2,(Sq 0 n).yld i H' x H2->g x Aw H2 fun Az H3=>L3 Az H3 fun b H4=>
    if b=true then te Az H4 (fun v H5=>∃ acc,H5 D=some (.lst acc)/\acc.length < sizeLine/\∃ m',m' < m/\W (i + 1) m' Az (upd H5 D (.lst (acc ++ [v])))) else ∃ m',m' < m/\W (i + 1) m' Az H4):=by
 intro D hD;refine ⟨fun i m σ H'=>m=n - i/\i<=n/\∃ acc,I D i σ H' acc,⟨n,rfl,Zz _,[],h0 D hD⟩,?_⟩;rintro i m σ H' ⟨rfl,hi,acc,p⟩;obtain ⟨s2,s3⟩:=hs D i σ H' acc hD p;by_cases Bv:i < n
 ·refine .inr ⟨Bv,fun x H2 ⟨e1,e2⟩=>?_⟩;subst e1 e2;have e:∀ (F:St->V->Hp->Prop) (G:St->Hp->Prop),(fun (Az:St) (H3:Hp)=>L3 Az H3 fun b H4=>if b=true then te Az H4 (F Az) else G Az H4)=fun Az H3=>te Az H3 (F Az):=by
   intro F G;funext Az H3;show (if true=true then te Az H3 (F Az) else G Az H3)=_
   rw [if_pos rfl]
  rw [e (fun Az v H5=>∃ acc,H5 D=some (.lst acc)/\acc.length < sizeLine/\∃ m',m' < n - i/\(m'=n - (i + 1)/\i + 1<=n/\∃ Jl,I D (i + 1) Az (upd H5 D (.lst (acc ++ [v]))) Jl)) (fun Az H4=>∃ m',m' < n - i/\(m'=n - (i + 1)/\i + 1<=n/\∃ Jl,I D (i + 1) Az H4 Jl))];refine turn D i σ H2 acc _ hD Bv p fun Az v H5 d5 p5=>?_
  exact ⟨acc,d5,by lia,n - (i + 1),by lia,rfl,Bv,_,p5⟩
 ·have e:i=n:=by lia
  subst e;exact .inl ⟨YO _,fin D σ H' acc hD p⟩
theorem JN {z:Str} (l u:Option Int) (h:TL z):TL (Txt.slice z l u):=by
 unfold Txt.slice;split
 ·exact h
 ·intro c hc;have HS:c ∈ (Builtin.Str.strSliceIndices l u 1 z.length).filterMap (z.cps[·]?):=by simpa using hc
  obtain ⟨i,_,e⟩:=bB.mp HS;exact h c (by rw [cy]; exact cj e)
theorem QE {z:Str} {a:Int} (h0:0<=a) (h1:a<=z.length):(Txt.slice z none (some a)).length<=a.toNat:=by
 have e:(Builtin.Str.strSliceIndices none (some a) 1 z.length).length=a.toNat:=by
  unfold Builtin.Str.strSliceIndices sliceRange;simp only [show (1:Int) > 0 by decide,if_true,YI,aF];(split <;> (try split) <;> (try split) <;> (try simp only [dQ]) <;> lia)
 unfold Txt.slice;split
 ·rename_i q
  rw [e] at q;have:a.toNat=z.length:=by simpa using q
  lia
 ·show (dy _ (Builtin.Str.strSliceIndices none (some a) 1 z.length)).toArray.size<=_
  rw [Zi,<-e];exact bZ _ _
theorem MH {z:Str} {a:Int} (h0:0<=a) (h1:a<=z.length):(Txt.slice z (some a) none).length<=z.length - a.toNat:=by
 have e:(Builtin.Str.strSliceIndices (some a) none 1 z.length).length=z.length - a.toNat:=by
  unfold Builtin.Str.strSliceIndices sliceRange;simp only [show (1:Int) > 0 by decide,if_true,YI,aF];(split <;> (try split) <;> (try split) <;> (try simp only [dQ]) <;> lia)
 unfold Txt.slice;split
 ·rename_i q
  rw [e] at q;have:z.length - a.toNat=z.length:=by simpa using q
  lia
 ·show (dy _ (Builtin.Str.strSliceIndices (some a) none 1 z.length)).toArray.size<=_
  rw [Zi,<-e];exact bZ _ _
theorem Rj {X:Cx}:Ey X (binaryOp .Mult) (fun x y H Q=>∃ z n,x=.str z/\y=.int n/\(n=0\/n=1)/\Q (.str (if n=1 then z else Str.empty)) H):=by
 intro pins s σ H x y v u Q I rx ry h;obtain ⟨z,n,rfl,rfl,hn,q⟩:=h;obtain ⟨t,rfl⟩:=rx;obtain ⟨t',rfl⟩:=ry;rcases hn with rfl | rfl
 ·exact PySem.P.mul_str_none (by decide) (by decide) ⟨.str Str.empty,H,I.tok _,⟨_,rfl⟩,q⟩
 ·refine PySem.P.mul_str (by decide) (fun _ z=>by simp at z) (fun _ z=>by simp at z) ?_;rw [if_neg (by decide),if_pos (by simp)];exact ⟨.str z,H,I,⟨_,rfl⟩,q⟩
section
variable {prog:Program} {w:World} {A:Around} {E:Value->Shared->Prop} {s:Shared}
end
theorem JZ (a b:Str):BP a b=BP b a:=by
 unfold BP;split
 ·rename_i h
  rw [if_neg (fun z=>aY h z)]
 ·rename_i h
  split
  ·rfl
  ·rename_i h'
   exact CJ h h'
theorem Ka (a b:Str):BQ a b=BQ b a:=by
 unfold BQ;split
 ·rename_i h
  rw [if_neg (fun z=>aY h z)]
 ·rename_i h
  split
  ·rfl
  ·rename_i h'
   exact (CJ h h').symm
theorem AS (K:YL) {X:Cx} (h:X.K=K):Bd X (.type "tuple") (fun xs H Q=>∃ p ys,xs=[.ref p]/\((AD K H p ys/\∀ l,H l=none->Q (.ref l) (upd H l (.tup ys)))\/(AI K H p ys/\Q (.ref p) H))):=by subst h; exact J6
end L2
namespace L2
open PySem PySem.Spec PySem.W PyProof.Rows
theorem Gk (K:YL) {X:Cx} (h:X.K=K):Bd X (.builtin "sorted") (fun xs H Q=>∃ (a:Addr) (ss:List Str),xs=[.ref a]/\AD K H a (ss.map V.str)/\ss.length < 64 /\
  ∀ (l:Addr) (Du:List Str),H l=none->Du.Perm ss->sortedS Du=true->Q (.ref l) (upd H l (.lst (Du.map V.str)))):=by subst h; exact BX
section
variable {prog:Program} {w:World} {A:Around} {E:Value->Shared->Prop} {s:Shared} {κ:SortKind} {lt:Keyed->Keyed->Bool} {a0:Array Keyed}
theorem FZ {n:Nat} (h1:1<=n) (Lc:n < 64):(sortPriv% PySem.Builtin.minRun) n n 0=n:=by
 obtain ⟨f,hf⟩:∃ f,n=f + 1:=⟨n - 1,by lia⟩
 have:minRun' (f + 1) n 0=n:=by rw [minRun'_succ,if_pos Lc]; rfl
 rw [<-hf] at this;exact this
theorem HV {st:SortSt} {Q:Unit->SortSt->Prop} (sw:O5 lt) (an:TU prog w A s κ lt a0) (hk:kindOf st=κ) (ha:arrOf st=a0) (hf:failedOf st=none) (hpe:pendingOf st=#[]) (h2:1<=a0.size) (Lc:a0.size < 64)
  (h:∀ AM,(arrOf AM).Perm a0->failedOf AM=none->(arrOf AM).toList.Pairwise (Nl lt)->Q () AM):wpS (model prog w) A E s sortRuns' Q st:=by
 have hp:(arrOf st).Perm a0:=by rw [ha]
 refine wpS_bind (wpS_get ?_);dsimp only;have ez:((sortPriv% PySem.Builtin.SortState.a) st).size=a0.size:=by rw [show (sortPriv% PySem.Builtin.SortState.a) st=a0 from ha]
 rw [ez];refine wpS_bind (wpS_mono (wpS_forRange (I:=fun x c AM=>(x=0/\c=(none,0)/\AM=st)\/(1<=x/\c=(none,a0.size)/\(arrOf AM).Perm a0/\failedOf AM=none/\(pendingOf AM).size<=1/\SS lt (arrOf AM) 0 a0.size))
  (Q:=fun c AM=>c=(none,a0.size)/\(arrOf AM).Perm a0/\failedOf AM=none/\(pendingOf AM).size<=1/\SS lt (arrOf AM) 0 a0.size) ?step ?fin (.inl ⟨rfl,rfl,rfl⟩)) ?post)
 case fin=>
  rintro c AM (⟨hx,_,_⟩ | ⟨_,r⟩)
  ·lia
  ·exact r
 case step=>
  rintro x c AM _ hx (⟨rfl,rfl,rfl⟩ | ⟨_,rfl,r⟩)
  ·dsimp only;rw [if_neg (by lia)];refine wpS_bind (Jt sw an hk hp (by lia) (by lia) fun m ys k1 m1 m2 s1=>?_);dsimp only;have hpd:∀ zs,(pendingOf (setArr AM zs)).back? = none:=fun zs=>by
    show (pendingOf AM).back? = none
    rw [hpe];rfl
   by_cases hm:m < (sortPriv% PySem.Builtin.minRun) a0.size a0.size 0
   ·rw [if_pos hm];refine wpS_bind (wpS_lift (wpAny_rule ⟨rfl,?_⟩));refine wpS_bind (Hy (st:=setArr AM ys) sw an hk (k1.1.trans hp) (by lia) m1 (by lia) s1 fun zs k2 s2=>?_);simp only [dJ,Zp,if_false];refine wpS_bind (wpS_get ?_);rw [hpd];dsimp only;have emin:min (a0.size - 0) ((sortPriv% PySem.Builtin.minRun) a0.size a0.size 0)=a0.size:=by rw [FZ h2 Lc]; lia
    rw [emin];exact wpS_bind (wpS_modify (wpS_pure (.inr ⟨by lia,by rw [aw],k2.1.trans (k1.1.trans hp),hf,by show ((pendingOf AM).push _).size<=1; rw [hpe]; exact YO 1 ,by rw [emin,aw] at s2; exact s2⟩)))
   ·rw [if_neg hm];rw [FZ h2 Lc] at hm;have em:m=a0.size:=by lia
    refine wpS_bind (wpS_get ?_);rw [hpd];dsimp only;rw [em];exact wpS_bind (wpS_modify (wpS_pure (.inr ⟨by lia,by rw [aw],k1.1.trans hp,hf,by show ((pendingOf AM).push _).size<=1; rw [hpe]; exact YO 1 ,by rw [em,aw] at s1; exact s1⟩)))
  ·dsimp only;rw [if_pos (YO _)];exact wpS_pure ⟨rfl,r⟩
 case post=>
  rintro c AM ⟨rfl,r1,r2,r3 ,r4⟩;dsimp only;refine wpS_bind (wpS_mono (wpS_forRange (I:=fun _ c Hz=>Hz=AM/\c=(none,())) (Q:=fun c Hz=>Hz=AM/\c=(none,())) ?_ (fun _ _ hh=>hh) ⟨rfl,rfl⟩) ?_)
  ·rintro x c Hz _ _ ⟨rfl,rfl⟩;refine wpS_bind (wpS_get ?_);rw [if_pos r3];exact wpS_pure ⟨rfl,rfl⟩
  ·rintro c Hz ⟨rfl,rfl⟩;exact wpS_pure (h _ r1 r2 (Ut fun i j hij hj=>r4 i j (Zz _) (bg hij) (by have:=r1.size_eq; lia)))
theorem F4 {a:Addr} {vs:List Value} {n:Nat} {P:Fin->Shared->Prop} (sw:O5 lt) (lies:s.heap.get? a=some (seqObj "list" vs.toArray n)) (few:vs.length<=sizeLine) (Lc:vs.length < 64)
  (cm:2<=vs.length->∀ h',(∀ b o,b ≠ a->s.heap.get? b=some o->h'.get? b=some o) ->
   ∃ κ,(∀ (Q:SortKind->Shared->Prop) (E:Value->Shared->Prop),Q κ { s with heap:=h' }->wpAny (model prog w) A (keyKind' vs.toArray) Q E { s with heap:=h' })/\TU prog w A { s with heap:=h' } κ lt (pairsOf vs))
  (k:∀ out:List Value,out.Perm vs->out.Pairwise (fun u v=>lt (v,v) (u,u)=false)->P (.done (.ret .none)) { s with heap:=sortedHeap s.heap a vs out.toArray }) :
  wpAny (model prog w) A (Builtin.«list.sort» ⟨[.ref a],[]⟩) P E s:=by
 have alt:=YV lies;rw [list_sort_plain];refine wpAny_bind (listItems_at lies rfl (wpAny_bind (listUpdate_at lies rfl ?_ (by simpa using few) (Zz _))));obtain ⟨c,Um⟩:∃ c,(s.heap.update a (Obj.mapSeq fun _=>#[])).get? a=some (seqObj "list" #[] c):=⟨_,get?_update_seq lies (fun _=>#[])⟩
 refine wpAny_bind (seqEpoch_at Um rfl (wpAny_bind (wpAny_newTuple (wpAny_bind (wpAny_newList (wpAny_holding ?_) (Zz _))) (by simpa using few))));obtain ⟨h3,Xj⟩:∃ h3,h3=((s.heap.update a (Obj.mapSeq fun _=>(#[]:Array Value))).push (seqObj "tuple" vs.toArray 0)).push (seqObj "list" #[] 0):=⟨_,rfl⟩
 have Oj:h3.get? a=some (seqObj "list" #[] c):=by
  rw [Xj];exact YK _ (YK _ Um)
 have Wf:∀ b o,b ≠ a->s.heap.get? b=some o->h3.get? b=some o:=fun b o hb e=>by
  rw [Xj];exact YK _ (YK _ ((b8 _ _ _ _ hb).trans e))
 show wpAny (model prog w) A _ P E { s with heap:=((s.heap.update a (Obj.mapSeq fun _=>(#[]:Array Value))).push (seqObj "tuple" vs.toArray 0)).push (seqObj "list" #[] 0) }
 rw [<-Xj];have last:∀ AM:SortSt,(arrOf AM).Perm (pairsOf vs)->(arrOf AM).toList.Pairwise (Nl lt)->P (.done (.ret .none)) { s with heap:=h3.update a (Obj.mapSeq fun _=>(arrOf AM).map (·.2)) }:=fun AM hp hs=>by
  have e:(arrOf AM).map (·.2)=((arrOf AM).toList.map (·.2)).toArray:=by apply bL.mp; simp
  have q:=k _ (Ri hp) (Rh hp hs);rw [<-e] at q;rw [Xj];exact q
 have zl:∀ AM:SortSt,(arrOf AM).Perm (pairsOf vs)->((arrOf AM).map (·.2)).size<=sizeLine + 1:=fun AM hp=>by
  rw [Array.size_map,hp.size_eq,pairsOf_size];lia
 have zv:vs.toArray.size=vs.length:=rfl;dsimp only;rcases bc vs.toArray.size 2 with lo | hi
 ·rw [if_pos lo,if_pos lo];refine wpAny_bind (wpAny_pure ?_);rw [StateT.run_pure];refine wpAny_bind (wpAny_pure (wpAny_bind (seqEpoch_at Oj rfl ?_)));have p0:(arrOf (SortSt.mk' general' (vs.toArray.zip vs.toArray) #[] 7 none)).Perm (pairsOf vs):=Array.Perm.refl _;refine wpAny_bind (listUpdate_at Oj rfl ?_ (Zz _) (zl _ p0));rw [bne_self_eq_false];refine wpAny_pure (last _ p0 (Ut fun i j hij hj=>?_));have:=p0.size_eq;rw [pairsOf_size] at this;have J3:j < (arrOf (SortSt.mk' general' (vs.toArray.zip vs.toArray) #[] 7 none)).size:=hj;lia
 ·rw [if_neg (by lia),if_neg (by lia)];obtain ⟨κ,k1,k2⟩:=cm (by lia) h3 Wf;refine wpAny_bind (k1 _ _ ?_);refine wpAny_bind (wpAny_mono (HV (a0:=pairsOf vs) (st:=SortSt.mk' κ (vs.toArray.zip vs.toArray) #[] 7 none)
   (Q:=fun _ AM=>(arrOf AM).Perm (pairsOf vs)/\failedOf AM=none/\(arrOf AM).toList.Pairwise (Nl lt)) sw k2 rfl rfl rfl rfl (by rw [pairsOf_size]; lia) (by rw [pairsOf_size]; lia) fun AM a1 a2 a3=>⟨a1,a2,a3⟩) ?_ fun _ _ e=>e)
  rintro ⟨u,AM⟩ s' ⟨rfl,hp,hf,hs⟩;refine wpAny_bind (seqEpoch_at Oj rfl (wpAny_bind (listUpdate_at Oj rfl ?_ (Zz _) (zl _ hp))));dsimp only;rw [hf,bne_self_eq_false];exact wpAny_pure (last AM hp hs)
theorem QD {l:Addr} {vs:List Value} {Q:Value->Shared->Prop} (sw:O5 lt) (hl:s.heap.IsList l vs.toArray) (few:vs.length<=sizeLine) (Lc:vs.length < 64) (cm:Cmpd prog w s lt vs)
  (k:∀ out:List Value,out.Perm vs->out.Pairwise (fun u v=>lt (v,v) (u,u)=false)->Q (.ref (s.heap.objs.size + 1)) { s with heap:=sortedAll s.heap vs out.toArray }) :
  wpAny (model prog w) A (call (.builtin "sorted") [.ref l]) Q E s:=by
 refine Calls.call_function_entry kind_sorted plain_sorted entry_sorted (args_sorted1 _) ?_;unfold Builtin.«sorted»;refine wpAny_bind (m:=checkCount "sorted" 1 1 _) (wpAny_pure (wpAny_bind (collect_list hl ?_ few)));refine wpAny_bind (wpAny_newList ?_ (by simpa using few));obtain ⟨h1,T6⟩:∃ h1,h1=(s.heap.push (seqObj "list" #[] 0)).update s.heap.objs.size (Obj.mapSeq (· ++ vs.toArray)):=⟨_,rfl⟩
 have z1:h1.objs.size=s.heap.objs.size + 1:=by rw [T6,di,size_push']
 have lies:(h1.push (seqObj "list" vs.toArray 0)).get? (s.heap.objs.size + 1)=some (seqObj "list" vs.toArray 0):=by
  rw [<-z1];exact YW _ rfl
 have keep:∀ b o,s.heap.get? b=some o->(h1.push (seqObj "list" vs.toArray 0)).get? b=some o:=fun b o q=>by
  have hb:=YV q;refine YK _ ?_;rw [T6,b8 _ _ _ _ (YX hb)];exact YK _ q
 show wpAny _ _ _ _ _ { s with heap:=((s.heap.push (seqObj "list" #[] 0)).update s.heap.objs.size (Obj.mapSeq (· ++ vs.toArray))).push (seqObj "list" vs.toArray 0) }
 rw [<-T6,z1];refine wpAny_bind (wpAny_holding (wpAny_call_entry slot_list_sort ⟨_,lies,rfl⟩ entry_list_sort (F4 (s:={ s with heap:=h1.push (seqObj "list" vs.toArray 0) }) sw lies few Lc ?_ fun out o1 o2=>⟨_,rfl,wpAny_pure ⟨_,rfl,?_⟩⟩) (args_list_sort _)))
 ·intro h2 h' kp;exact cm h2 _ h' fun b o e=>kp b o (YX (Zq (YV e))) (keep b o e)
 ·have q:=k out o1 o2;unfold sortedAll at q;rw [<-T6] at q;exact q
end
theorem FC {X:Cx}:Bd X (.builtin "sorted") (fun xs H Q=>∃ (a:Addr) (vs:List V) (kd:Nat->Bool),xs=[.ref a]/\AD X.K H a vs/\(∀ v ∈ vs,Nn H kd v)/\vs.length < 64 /\
  ∀ (l:Addr) (HW:List V),H l=none->HW.Perm vs->HW.Pairwise (fun u v=>A8 (Rw H v) (Rw H u)=false)->Q (.ref l) (upd H l (.lst HW))):=by
 intro pins s σ H xs us Q I r h;obtain ⟨a,vs,kd,rfl,ha,hk,Lc,q⟩:=h;obtain ⟨u,rfl,ru⟩:=BZ r;cases ru
 obtain ⟨Aq,rv,pl,hz⟩:=I.list ha;have all:∀ {vs:List V} {Aq:List Value},A0 vs Aq->(∀ v ∈ vs,Nn H kd v)->(∀ u ∈ Aq,Mw s.heap kd u)/\Aq.map (CU s.heap)=vs.map (Rw H):=by
  intro vs;induction vs with
  | nil=>intro Aq rv _; cases rv; exact ⟨(fun u hu=>nomatch hu),rfl⟩
  | cons v vs ih=>
   intro Aq rv hk;cases rv with
   | cons r1 r2=>
    obtain ⟨a1,a2⟩:=Qx I r1 (hk v Zg);obtain ⟨b1,b2⟩:=ih r2 fun v hv=>hk v (Ze _ hv)
    refine ⟨fun u hu=>?_,by rw [Zb,Zb,a2,b2]⟩;rcases YM.mp hu with rfl | hu
    ·exact a1
    ·exact b1 u hu
 refine QD (KW (CU s.heap)) pl.isList (by rw [<-rv.length]; exact hz) (by rw [<-rv.length]; exact Lc) (JJ (all rv hk).1) fun out o1 o2=>?_
 obtain ⟨HW,V5,pv⟩:=JG o1 rv;have keys:=(all V5 fun v hv=>hk v (pv.mem_iff.mp hv)).2;obtain ⟨e,he⟩:=sortedAll_at s.heap Aq out.toArray;refine ⟨.ref (s.heap.objs.size + 1),_,I.laid (o:=.lst HW) (t':=s.toks) (fun b o z=>sortedAll_old z) (Z0 _) ⟨by rw [pv.length_eq]; exact hz,out,e,V5,he⟩,rfl,q _ HW (I.hok.fresh (Z0 _)) pv ?_⟩;have p1:(out.map (CU s.heap)).Pairwise (fun a b=>A8 b a=false):=ZS.mpr o2;rw [keys] at p1;exact ZS.mp p1
theorem CV (K:YL) {X:Cx} (h:X.K=K):Bd X (.builtin "sorted") (fun xs H Q=>∃ (a:Addr) (vs:List V) (kd:Nat->Bool),xs=[.ref a]/\AD K H a vs/\(∀ v ∈ vs,Nn H kd v)/\vs.length < 64 /\
  ∀ (l:Addr) (HW:List V),H l=none->HW.Perm vs->Q (.ref l) (upd H l (.lst HW))):=by
 subst h;intro pins s σ H xs us Q I r h;obtain ⟨a,vs,kd,rfl,ha,hk,Lc,q⟩:=h;exact FC (pins:=pins) s σ H _ us Q I r ⟨a,vs,kd,rfl,ha,hk,Lc,fun l HW hl pv _=>q l HW hl pv⟩
end L2
namespace L2
open PySem PySem.Spec PyProof.Rows
open PySem.W
section
variable {prog:Program} {w:World} {A:Around} {E:Value->Shared->Prop} {s:Shared} {κ:SortKind} {lt:Keyed->Keyed->Bool} {a0:Array Keyed}
theorem QC {l:Addr} {vs:List Value} {Q:Value->Shared->Prop} (sw:O5 lt) (hl:s.heap.IsList l vs.toArray) (few:vs.length<=sizeLine) (Lc:vs.length < 64) (cm:2<=vs.length->∀ h':Heap,(∀ b o,s.heap.get? b=some o->h'.get? b=some o)->∃ κ,(∀ (Q:SortKind->Shared->Prop) (E:Value->Shared->Prop),Q κ { s with heap:=h' }->wpAny (model prog w) A.in1.in1 (keyKind' vs.toArray) Q E { s with heap:=h' })/\TU prog w A.in1.in1 { s with heap:=h' } κ lt (pairsOf vs))
  (k:∀ out:List Value,out.Perm vs->out.Pairwise (fun u v=>lt (v,v) (u,u)=false)->Q (.ref (s.heap.objs.size + 1)) { s with heap:=sortedAll s.heap vs out.toArray }) :
  wpAny (model prog w) A (call (.builtin "sorted") [.ref l]) Q E s:=by
 refine Calls.call_function_entry kind_sorted plain_sorted entry_sorted (args_sorted1 _) ?_;unfold Builtin.«sorted»;refine wpAny_bind (m:=checkCount "sorted" 1 1 _) (wpAny_pure (wpAny_bind (collect_list hl ?_ few)));refine wpAny_bind (wpAny_newList ?_ (by simpa using few));obtain ⟨h1,T6⟩:∃ h1,h1=(s.heap.push (seqObj "list" #[] 0)).update s.heap.objs.size (Obj.mapSeq (· ++ vs.toArray)):=⟨_,rfl⟩
 have z1:h1.objs.size=s.heap.objs.size + 1:=by rw [T6,di,size_push']
 have lies:(h1.push (seqObj "list" vs.toArray 0)).get? (s.heap.objs.size + 1)=some (seqObj "list" vs.toArray 0):=by
  rw [<-z1];exact YW _ rfl
 have keep:∀ b o,s.heap.get? b=some o->(h1.push (seqObj "list" vs.toArray 0)).get? b=some o:=fun b o q=>by
  have hb:=YV q;refine YK _ ?_;rw [T6,b8 _ _ _ _ (YX hb)];exact YK _ q
 show wpAny _ _ _ _ _ { s with heap:=((s.heap.push (seqObj "list" #[] 0)).update s.heap.objs.size (Obj.mapSeq (· ++ vs.toArray))).push (seqObj "list" vs.toArray 0) }
 rw [<-T6,z1];refine wpAny_bind (wpAny_holding (wpAny_call_entry slot_list_sort ⟨_,lies,rfl⟩ entry_list_sort (F4 (s:={ s with heap:=h1.push (seqObj "list" vs.toArray 0) }) sw lies few Lc ?_ fun out o1 o2=>⟨_,rfl,wpAny_pure ⟨_,rfl,?_⟩⟩) (args_list_sort _)))
 ·intro h2 h' kp;exact cm h2 h' fun b o e=>kp b o (YX (Zq (YV e))) (keep b o e)
 ·have q:=k out o1 o2;unfold sortedAll at q;rw [<-T6] at q;exact q
end
def PxH (H:Hp) (v:V) (k:List Str):Prop:=∃ t e y,v=.ref t/\H t=some (.tup [.ref e,y])/\H e=some (.tup (k.map V.str))/\((∃ n,y=.int n)\/∃ (l:Addr) (ss:List Str),y=.ref l/\H l=some (.tup (ss.map V.str)))
def Gq (h:Heap) (v:Value) (k:List Str):Prop:=∃ t e y,v=.ref t/\IsTup h t #[.ref e,y]/\Gp h (.ref e) k/\((∃ n tk,y=.int n tk)\/∃ ss,Gp h y ss)
theorem Gq.keep {h h':Heap} {v:Value} {k:List Str} (x:Gq h v k) (kp:∀ b o,h.get? b=some o->h'.get? b=some o):Gq h' v k:=by
 obtain ⟨t,e,y,rfl,a,b,c⟩:=x;refine ⟨t,e,y,rfl,?_,b.keep kp,c.imp id fun ⟨ss,z⟩=>⟨ss,z.keep kp⟩⟩;obtain ⟨o,h1,r⟩:=a;exact ⟨o,kp _ _ h1,r⟩
theorem PxH.at {X:Cx} {pins:List (Addr × Obj)} {σ:St} {H:Hp} {s:Shared} {v:V} {u:Value} {k:List Str} (I:An X pins σ H s) (r:A1 v u) (h:PxH H v k):Gq s.heap u k:=by
 obtain ⟨t,e,y,rfl,ht,he,hy⟩:=h;cases r
 obtain ⟨Aq,rv,pl,hz⟩:=I.tuple (AI.of ht);cases rv with
 | cons a1 b1=>
  cases b1 with
  | @cons _ y' _ _ a2 b2=>
   cases b2
   cases a1
   refine ⟨t,e,y',rfl,pl,Qw I he,?_⟩;rcases hy with ⟨n,rfl⟩ | ⟨l,ss,rfl,hl⟩
   ·obtain ⟨tk,rfl⟩:=a2;exact .inl ⟨n,tk,rfl⟩
   ·cases a2
    exact .inr ⟨ss,Qw I hl⟩
theorem Sz {h:Heap} {v:Value} {a b:List Str} (x:Gp h v a) (y:Gp h v b):a=b:=by
 obtain ⟨p,us,rfl,⟨o,h1,h2,n,h3⟩,r1⟩:=x;obtain ⟨q,Ky,e,⟨o',PQ,Sl,n',Ts⟩,r2⟩:=y;cases e
 rw [h1] at PQ;cases PQ
 rw [h3] at Ts;injection Ts with e _;have e2:us=Ky:=by simpa using e
 subst e2;exact JE r1 r2
theorem SJ {h:Heap} {v:Value} {a b:List Str} (x:Gq h v a) (y:Gq h v b):a=b:=by
 obtain ⟨t,e,y1,rfl,⟨o,h1,h2,n,h3⟩,x1,_⟩:=x;obtain ⟨t',e',y2,q,⟨o',PQ,Sl,n',Ts⟩,x2,_⟩:=y;cases q
 rw [h1] at PQ;cases PQ
 rw [h3] at Ts;injection Ts with q _;have q2:e=e':=by
  have:=congrArg (fun a:Array Value=>a[0]?) q;simpa using this
 subst q2;exact Sz x1 x2
open Classical in
noncomputable def UK (h:Heap) (v:Value):List DH:=if p:∃ k,Gq h v k then p.choose.map DH.s else []
theorem MM {h:Heap} {v:Value} {k:List Str} (x:Gq h v k):UK h v=k.map DH.s:=by
 unfold UK;rw [dif_pos ⟨k,x⟩,SJ (Exists.choose_spec ⟨k,x⟩) x]
theorem EZ {α β:Type} {f:α->β}:∀ {l':List β} {l:List α},l'.Perm (l.map f)->∃ m:List α,m.Perm l/\m.map f=l'
 | [],l,h=>by
  have e:=h.length_eq;rw [YI] at e;have:l=[]:=ZF.mp e.symm;subst this;exact ⟨[],.refl _,rfl⟩
 | b :: l',l,h=>by
  obtain ⟨a,ha,rfl⟩:=YT.mp (h.mem_iff.mp Zg);obtain ⟨l1,l2,rfl⟩:=List.append_of_mem ha;have p1:(l1 ++ a :: l2).Perm (a :: (l1 ++ l2)):=List.perm_middle;have p2:=h.trans (p1.map f);rw [Zb] at p2;obtain ⟨m,q1,q2⟩:=EZ (List.Perm.cons_inv p2);exact ⟨a :: m,(q1.cons a).trans p1.symm,by rw [Zb,q2]⟩
section
variable {prog:Program} {w:World} {A:Around} {s:Shared}
theorem px_lt {E:Value->Shared->Prop} {Q:Bool->Shared->Prop} {u v:Value} {k k':List Str} (hA:A.units + 2 < cLine) (hu:Gq s.heap u k) (hv:Gq s.heap v k') (same:k=k'->u=v) (h:Q (A8 (k.map DH.s) (k'.map DH.s)) s):wpAny (model prog w) A (keyLt' (tuples' false) u v) Q E s:=by
 obtain ⟨t,e,y,rfl,⟨o,h1,h2,n,h3⟩,x1,hy⟩:=id hu;obtain ⟨t',e',y',rfl,⟨o',PQ,Sl,n',Ts⟩,x1',hy'⟩:=id hv;refine kat_lt h1 h3 PQ Ts ?_;show KatLex prog w A false _ Q [(.ref e,.ref e'),(y,y')] 0 s
 refine kat_cons (Lg x1 x1' (by lia) _ _ _ _ ?_);refine kat_go (fun q=>kat_yes ?_) (fun q=>kat_no ?_)
 ·have q:=of_decide_eq_true q;have z:=same q;cases z
  rw [h1] at PQ;cases PQ
  rw [h3] at Ts;injection Ts with q2 _;have q3:y=y':=by
   have:=congrArg (fun a:Array Value=>a[1]?) q2;simpa using this
  subst q3 q;rw [Eh] at h;refine kat_cons ?_;rcases hy with ⟨m,tk,rfl⟩ | ⟨ss,hs⟩
  ·refine SeqAt.EqAt.int_int m tk m tk _ _ _ _ ?_;rw [beq_self_eq_true];exact kat_yes (kat_nil h)
  ·refine Lg hs hs (by lia) _ _ _ _ ?_;rw [decide_eq_true rfl];exact kat_yes (kat_nil h)
 ·refine kat_one _ _ ?_;exact Of x1 x1' (by lia) _ _ _ _ h
theorem SK {vs:List Value} {ks:List (List Str)} (hA:A.units + 2 < cLine) (hl:vs.length=ks.length) (hk:∀ (i:Nat) v k,vs[i]? = some v->ks[i]? = some k->Gq s.heap v k) (nd:ks.Nodup) :
  2<=vs.length->∀ h':Heap,(∀ b o,s.heap.get? b=some o->h'.get? b=some o)->∃ κ,(∀ (Q:SortKind->Shared->Prop) (E:Value->Shared->Prop),Q κ { s with heap:=h' }->wpAny (model prog w) A (keyKind' vs.toArray) Q E { s with heap:=h' })/\TU prog w A { s with heap:=h' } κ (fun x y=>A8 (UK s.heap x.1) (UK s.heap y.1)) (pairsOf vs):=by
 intro h2 h' kp;have Xp:∀ v ∈ vs,∃ (i:Nat) (k:List Str),vs[i]? = some v/\ks[i]? = some k/\Gq s.heap v k:=fun v hv=>by
  obtain ⟨i,hi,e⟩:=Zh hv;have e1:vs[i]? = some v:=by rw [YJ hi,e]
  exact ⟨i,ks[i],e1,YJ (by lia),hk i v _ e1 (YJ (by lia))⟩
 refine ⟨tuples' false,?_,?_⟩
 ·intro Q E hq;have tups:∀ l:List Value,(∀ v ∈ l,∃ k,Gq h' v k)->∃ fs:List Value,KatTups h' l fs/\fs.length=l.length/\∀ f ∈ fs,∃ k,Gp h' f k:=by
   intro l;induction l with
   | nil=>intro _; exact ⟨[],KatTups.nil,rfl,fun f hf=>nomatch hf⟩
   | cons v l ih=>
    intro hl;obtain ⟨fs,k1,k2,k3⟩:=ih fun v hv=>hl v (Ze _ hv)
    obtain ⟨k,t,e,y,rfl,⟨o,h1,h2,n,h3⟩,x1,_⟩:=hl v Zg;refine ⟨.ref e :: fs,KatTups.cons h1 h2 h3 rfl k1,by rw [Zm,Zm,k2],fun f hf=>?_⟩;rcases YM.mp hf with rfl | hf
    ·exact ⟨k,x1⟩
    ·exact k3 f hf
  obtain ⟨fs,k1,k2,k3⟩:=tups vs fun v hv=>let ⟨_,k,_,_,z⟩:=Xp v hv; ⟨k,z.keep kp⟩
  refine kat_kind (T:=.type "tuple") k1 (by lia) (fun v hv=>?_) rfl hq;obtain ⟨k,a,us,rfl,⟨o,h1,h2,_⟩,_⟩:=k3 v hv;exact fun A Q E s k q=>wpAny_typeOf (T:="tuple") ⟨o,k _ _ h1,h2⟩ q
 ·intro x y hx hy Q E hq;obtain ⟨ex,mx⟩:=Dh (vs:=vs) (p:=x) (by simpa using hx);obtain ⟨ey,my⟩:=Dh (vs:=vs) (p:=y) (by simpa using hy);rw [ex,ey] at hq ⊢;dsimp only at hq ⊢;obtain ⟨i,k,e1,e2,z1⟩:=Xp _ mx;obtain ⟨j,k',e3,e4,z2⟩:=Xp _ my;rw [MM z1,MM z2] at hq;refine px_lt hA (z1.keep kp) (z2.keep kp) (fun q=>?_) hq;subst q;have ij:i=j:=FY nd e2 e4;subst ij;rw [e1] at e3;exact Zf.inj e3
end
theorem Jh (K:YL) {X:Cx} (hK:X.K=K) (hu:X.A.units + 64 < cLine):Bd X (.builtin "sorted") (fun xs H Q=>∃ (a:Addr) (ps:List (V × List Str)),xs=[.ref a]/\AD K H a (ps.map (·.1))/\(∀ p ∈ ps,PxH H p.1 p.2)/\(ps.map (·.2)).Nodup/\ps.length < 64 /\
  ∀ (l:Addr) (Pj:List (V × List Str)),H l=none->Pj.Perm ps->(Pj.map (·.2)).Pairwise (fun a b=>A8 (b.map DH.s) (a.map DH.s)=false)->Q (.ref l) (upd H l (.lst (Pj.map (·.1))))):=by
 subst hK;intro pins s σ H xs us Q I r h;obtain ⟨a,ps,rfl,ha,hp,nd,Lc,q⟩:=h;obtain ⟨u,rfl,ru⟩:=BZ r;cases ru
 obtain ⟨Aq,rv,pl,hz⟩:=I.list ha;have il:Aq.length=ps.length:=by rw [<-rv.length,YI]
 have at2:∀ (ps:List (V × List Str)) (Aq:List Value),(∀ p ∈ ps,PxH H p.1 p.2)->A0 (ps.map (·.1)) Aq->∀ (i:Nat) v k,Aq[i]? = some v->(ps.map (·.2))[i]? = some k->Gq s.heap v k:=fun ps Aq hp rv i v k e1 e2=>by
  rw [YS] at e2;cases z:ps[i]? with
  | none=>rw [z] at e2; cases e2
  | some p=>
   rw [z] at e2;cases e2
   obtain ⟨v',e3,r3⟩:=rv.get (show (ps.map (·.1))[i]? = some p.1 by rw [YS,z]; rfl);rw [e1] at e3;cases e3
   exact (hp p (YN z)).at I r3
 refine QC (KW (UK s.heap)) pl.isList (by rw [<-rv.length]; exact hz) (by lia) (SK (by rw [PySem.Around.in1_units,PySem.Around.in1_units]; lia) (by rw [YI]; exact il) (at2 ps Aq hp rv) nd) fun out o1 o2=>?_
 obtain ⟨HW,V5,pv⟩:=JG o1 rv;obtain ⟨Pj,q1,q2⟩:=EZ pv;subst q2;obtain ⟨e,he⟩:=sortedAll_at s.heap Aq out.toArray;refine ⟨.ref (s.heap.objs.size + 1),_,I.laid (o:=.lst (Pj.map (·.1))) (t':=s.toks) (fun b o z=>sortedAll_old z) (Z0 _) ⟨by rw [YI,q1.length_eq]; rw [YI] at hz; exact hz,out,e,V5,he⟩,rfl,q _ Pj (I.hok.fresh (Z0 _)) q1 ?_⟩;have p1:(out.map (UK s.heap)).Pairwise (fun a b=>A8 b a=false):=ZS.mpr o2;have keys:out.map (UK s.heap)=(Pj.map (·.2)).map (e6 DH.s):=by
  refine dc fun i=>?_
  have ol:out.length=Pj.length:=by rw [<-V5.length,YI]
  rw [YS,YS];cases z:out[i]? with
  | none=>
   have:Pj.length<=i:=by rw [<-ol]; exact bX.mp z
   rw [bx (by rw [YI]; exact this)];rfl
  | some v=>
   have hi:i < Pj.length:=by rw [<-ol]; exact (YQ.mp z).1
   have e2:(Pj.map (·.2))[i]? = some (Pj[i]).2:=by rw [YS,YJ hi]; rfl
   rw [e2];show some _=some _
   rw [MM (at2 Pj out (fun p Yh=>hp p (q1.mem_iff.mp Yh)) V5 i v _ z e2)]
 rw [keys] at p1;exact ZS.mp p1
end L2
namespace L2
open PySem PySem.Spec PyProof.Rows
theorem Rv {mask finger moves:Nat} {led plain:Bool} {hs:Array Int} {t:SetTable} {o:Array Nat} (h:SetTable.laid mask finger moves led plain hs=some (t,o)):t.led=led/\t.plain=plain:=by
 unfold SetTable.laid at h;cases e:SetTable.layClean mask hs with
 | none=>rw [e] at h; cases h
 | some ow=>
  rw [e] at h;injection h with h;injection h with h1 h2;subst h1;exact ⟨rfl,rfl⟩
theorem OX (t:SetTable) (es:Array (Int × Value)) (wanted:Nat):(relayAll t es wanted).2.1.led=t.led/\(t.plain=false->(relayAll t es wanted).2.1.plain=false):=by
 unfold relayAll;split
 ·rename_i t' order e
  have:=Rv e;dsimp only;split
  ·exact ⟨this.1,fun z=>this.2.trans z⟩
  ·exact ⟨rfl,fun _=>rfl⟩
 ·exact ⟨rfl,fun _=>rfl⟩
theorem Ti (t:SetTable) (es:Array (Int × Value)) (h:Int) (x:Value):(layNew t es h x).2.1.led=t.led:=by
 unfold layNew;split
 ·dsimp only;unfold SetTable.orStandIn;split <;> rfl
 ·rfl
section
variable {prog:Program} {w:World} {A:Around} {E:Value->Shared->Prop} {s:Shared}
def Tab (w:World) (es:Array (Int × Value)) (t:SetTable):Prop:=t.led=(!w.params.followText "set-order")/\(0 < es.size->t.plain=false)
def Dv (prog:Program) (w:World) (h:Heap) (a:Addr) (S:Str->Bool) (n:Nat):Prop:=
 ∃ o es ep t,h.get? a=some o/\o.ExactSet/\o.data=.set es ep t/\ElemsOf (PySem.strKind prog w) es.toList/\(∀ k,S k=true ↔ ∃ e ∈ es.toList,(PySem.strKind prog w).is k e.2=true) /\
  es.size < scanBound/\t.fits es.size=true/\es.size=n/\Tab w es t
theorem QJ {a:Addr} {S:Str->Bool} {n:Nat} {k:Str} {tk:Tok} {Q:Bool->Shared->Prop} (hS:Dv prog w s.heap a S n) (room:n + 1 < scanBound)
  (h:∀ h',Heap.SameBut a s.heap h'->Dv prog w h' a (fun k'=>S k' || decide (k'=k)) (if S k then n else n + 1)->Q (!S k) { s with heap:=h' }) :
  wpAny (model prog w) A (setAddHashed a (.str k tk) ((PySem.strKind prog w).hash k)) Q E s:=by
 obtain ⟨o,es,ep,t,ho,ex,hd,el,mem,few,fit,hn,tab⟩:=hS;have is:(PySem.strKind prog w).is k (.str k tk)=true:=by simp [PySem.strKind,Value.isStrOf]
 have sc:(Value.str k tk).scannable=true:=rfl;have Vl:es.size + 1 < scanBound:=by lia
 unfold setAddHashed setAddHashedIn;refine wpAny_holding (wpAny_bind (wpAny_setState_of ho hd fit ?_));dsimp only;rw [if_pos (byScan_of sc few el)];unfold setAddByScan;refine wpAny_bind (wpAny_bind (wpAny_rule (wpAny_bind (wpAny_setScan_of is ho hd fit el ?_))));cases hr:List.findIdx? (fun e=>(PySem.strKind prog w).is k e.2) es.toList with
 | some j=>
  obtain ⟨hj,pj,_⟩:=List.findIdx?_eq_some_iff_getElem.mp hr;have there:S k=true:=(mem k).mpr ⟨es.toList[j],ZI hj,pj⟩;refine wpAny_pure (wpAny_pure ?_);have q:=h s.heap (Heap.SameBut.refl a s.heap) ⟨o,es,ep,t,ho,ex,hd,el,fun k'=>?_,few,fit,by rw [there]; exact hn,tab⟩
  ·rw [there] at q; exact q
  ·rw [Bool.or_eq_true,decide_eq_true_eq,<-mem k'];exact ⟨fun z=>z.elim id fun e=>e ▸ there,.inl⟩
 | none=>
  have gone:S k=false:=by
   cases z:S k with
   | false=>rfl
   | true=>
    obtain ⟨e,he,hp⟩:=(mem k).mp z;have:=List.findIdx?_eq_none_iff.mp hr e he;rw [hp] at this;cases this
  dsimp only;have pm:=layNew_perm t es ((PySem.strKind prog w).hash k) (.str k tk);have ft:=layNew_fits t es ((PySem.strKind prog w).hash k) (.str k tk);have ld:=Ti t es ((PySem.strKind prog w).hash k) (.str k tk);generalize layNew t es ((PySem.strKind prog w).hash k) (.str k tk)=L at pm ft ld ⊢;obtain ⟨Js,t1,dum,gv⟩:=L;dsimp only at pm ft ld ⊢;rw [cS] at pm;have el1:=(el.push is sc).perm pm;have Wd:=mem_push_iff is mem pm;have z1:Js.size=n + 1:=by rw [<-Zv,pm.length_eq,YR,Zv,hn]; rfl
  have Vk:Js.size < scanBound:=by lia
  have fin:∀ (Lp:Array (Int × Value)) (t2:SetTable) (h':Heap) (o':Obj) (T5:Nat),Heap.SameBut a s.heap h'->h'.get? a=some o'->o'.ExactSet->o'.data=.set Lp T5 t2->Lp.toList.Perm Js.toList->t2.fits Lp.size=true->t2.led=t.led->t2.plain=false->Q true { s with heap:=h' }:=by
   intro Lp t2 h' o' T5 sb g x d p f l pl;have z2:Lp.size=n + 1:=by rw [<-z1,<-Zv,p.length_eq,Zv]
   have q:=h h' sb ⟨o',Lp,T5,t2,g,x,d,el1.perm p,fun k'=>(Wd k').trans ⟨fun ⟨e,he,r⟩=>⟨e,p.mem_iff.mpr he,r⟩,fun ⟨e,he,r⟩=>⟨e,p.mem_iff.mp he,r⟩⟩,by lia,f,by rw [gone]; exact z2,l.trans tab.1,fun _=>pl⟩;rw [gone] at q;exact q
  have gw:∀ (b:Bool) {AK:Shared} {R:Unit->Shared->Prop},R () AK->wpAny (model prog w) A (match b with | true=>rule "set.scan.the-table-gave-way" | false=>pure ()) R E AK:=fun b AK R q=>by cases b <;> first | exact wpAny_pure q | exact wpAny_rule q
  refine wpAny_bind (gw gv ?_);have main:∀ t2:SetTable,t2.fits Js.size=true->t2.led=t.led->t2.plain=false->wpAny (model prog w) A (do
    storeSet a Js t2
    if (!dum && t2.tooFull)=true then do
      (match (relayAll t2 Js (SetTable.grown Js.size)).2.2 with | true=>rule "set.scan.the-table-gave-way" | false=>pure ())
      storeSet a (relayAll t2 Js (SetTable.grown Js.size)).1 (relayAll t2 Js (SetTable.grown Js.size)).2.1
      pure (some true)
     else pure (some true)) (fun r s'=>r=some true/\Q true s') E s:=by
   intro t2 f2 l2 p2;refine wpAny_bind (wpAny_storeSet_of ho hd ?_ (fits_of_scanBound Vk));obtain ⟨g1,_⟩:=SetOf_store (knd:=PySem.strKind prog w) ho ex hd el1 Wd Vk f2;have sb1:=Heap.SameBut.update s.heap a (Obj.putSet Js t2);split
   ·have pr:=relayAll_perm t2 Js (SetTable.grown Js.size);have fr:=relayAll_fits t2 Js (SetTable.grown Js.size);have lr:=OX t2 Js (SetTable.grown Js.size);generalize relayAll t2 Js (SetTable.grown Js.size)=R at pr fr lr ⊢;obtain ⟨Lp,t3,gv2⟩:=R;dsimp only at pr fr lr ⊢;have z2:Lp.size=Js.size:=by rw [<-Zv,pr.length_eq,Zv]
    refine wpAny_bind (gw gv2 ?_);refine wpAny_bind (wpAny_storeSet_of g1 rfl ?_ (fits_of_scanBound (by rw [z2]; exact Vk)));have g2:=Z8 (Obj.putSet Lp t3) g1 (by rw [putSet_of Lp t3 rfl]; rfl);rw [putSet_of Lp t3 rfl] at g2;exact wpAny_pure ⟨rfl,fin Lp t3 _ _ _ (sb1.trans (Heap.SameBut.update _ a _)) g2 ex rfl pr fr (lr.1.trans l2) (lr.2 p2)⟩
   ·exact wpAny_pure ⟨rfl,fin Js t2 _ _ _ sb1 g1 ex rfl (.refl _) f2 l2 p2⟩
  by_cases pl:t1.plain=true
  ·rw [if_pos pl];refine wpAny_bind ?_;rw [hashByValue_scannable 8 sc];refine wpAny_pure ?_;refine wpAny_mono (main { t1 with plain:=false } (SetTable.fits_plain_off ft) ld rfl) (fun r s' z=>?_) fun _ _ z=>z
   obtain ⟨rfl,z⟩:=z;exact wpAny_pure z
  ·rw [if_neg pl];refine wpAny_bind (wpAny_pure ?_);refine wpAny_mono (main t1 ft ld (by simpa using pl)) (fun r s' z=>?_) fun _ _ z=>z
   obtain ⟨rfl,z⟩:=z;exact wpAny_pure z
end
section
variable {prog:Program} {w:World} {A:Around} {R:Result->Shared->Prop} {I:Addr} {fp wr:List Addr} {G:Array GenState->Array GenState->Prop} {n:Nat} {P:Nat->Value->Prop} {St:Nat->Shared->Prop}
theorem Dv.kept {h h':Heap} {a:Addr} {S:Str->Bool} {n:Nat} (hS:Dv prog w h a S n) (k:∀ o,h.get? a=some o->h'.get? a=some o):Dv prog w h' a S n:=by
 obtain ⟨o,es,ep,t,ho,r⟩:=hS;exact ⟨o,es,ep,t,k _ ho,r⟩
theorem Dv.as {h:Heap} {a:Addr} {S S':Str->Bool} {n n':Nat} (hS:Dv prog w h a S n) (e:∀ k,S' k=S k) (en:n'=n):Dv prog w h a S' n':=by
 subst en;have:S'=S:=funext e;rw [this];exact hS
theorem OP (W:WalksS prog w A.in1 I fp wr G n P St) (D:Addr) (hD:D ∉ fp) (val:Nat->Str) (hv:∀ i v,P i v->∃ tk,v=.str (val i) tk) (few:n + 1 < scanBound) :
  ∀ (k i:Nat) (s:Shared),n - i=k->i<=n->St i s->Dv prog w s.heap D (fun k'=>(met val i).any (· == k')) (met val i).length ->
   (∀ s',Moved (D :: wr) G s s'->Dv prog w s'.heap D (fun k'=>(met val n).any (· == k')) (met val n).length->R (.ok (.ret .none)) s') ->
   codeAny (model prog w) A (.builtin "set.update.loop" ⟨[.ref D,.ref I],[]⟩) R s:=by
 have hw:D ∉ wr:=fun z=>hD (W.sub _ z)
 have up:∀ b ∈ wr,b ∈ D :: wr:=fun b z=>Ze _ z
 intro k;induction k with
 | zero=>
  intro i s hk hi st hS q;have e:i=n:=by lia
  subst e;refine codeAny_builtin F.entry_set_update_loop ?_;rw [Around.under_plainId F.plain_set_update_loop _];refine wpAny_bind (W.done s _ _ st fun s' m=>?_);exact wpAny_pure (q s' (m.mono up) (hS.kept fun o e=>m.heap D _ hw e))
 | succ k ih=>
  intro i s hk hi st hS q;have lt:i < n:=by lia
  refine codeAny_builtin F.entry_set_update_loop ?_;rw [Around.under_plainId F.plain_set_update_loop _];refine wpAny_bind (W.item i s _ _ lt st fun v s' pv AM m=>?_);obtain ⟨tk,rfl⟩:=hv i v pv;have Ov:=hS.kept (h':=s'.heap) fun o e=>m.heap D _ hw e
  refine wpAny_bind (wpAny_holding ?_);unfold setAdd;refine wpAny_holding ?_;refine wpAny_bind ((PySem.strKind prog w).pyHash (k:=val i) (by simp [PySem.strKind,Value.isStrOf]) ?_);refine QJ (s:={ s' with toks:=s'.toks + 1 }) Ov (by have:=DC val i; lia) fun h' sb hS2=>?_
  have nx:Dv prog w h' D (fun k'=>(met val (i + 1)).any (· == k')) (met val (i + 1)).length:=
   hS2.as (fun k'=>by rw [ID,OK]) (by rw [ID,FJ])
  refine wpAny_pure ⟨plainId_quiet F.plain_set_update_loop _,ih (i + 1) _ (by lia) lt (W.frame _ s' _ _ AM (Z0 _) fun b z o e=>?_) nx fun VR m2 hS3=>?_⟩
  ·rw [sb.2 b fun y:b=D=>hD (y ▸ z)];exact e
  ·refine q VR (Moved.trans W.gtrans ((m.mono up).then_heap (Z0 _) fun b o z e=>?_) m2) hS3;rw [sb.2 b fun y:b=D=>z (y ▸ Zg)];exact e
end
section
variable {prog:Program} {w:World} {A:Around} {E:Value->Shared->Prop} {s:Shared}
theorem QI (a:Value) {Q₁:Value->Shared->Prop}
  (h:Q₁ (.ref s.heap.objs.size) { s with heap:=s.heap.push { cls:=.type "set",dict:=none,data:=.set #[] 0 (.fresh 0 0 (!w.params.followText "set-order")) } }) :
  codeAny (model prog w) A (.call (.builtin "set.__new__") ⟨[.type "set",a],[]⟩) (wants Q₁ E) s:=by
 refine codeAny_of_tree ?_;show wpAny _ A.in1 (checkBuiltinCall "set.__new__" ⟨[.type "set",a],[]⟩ >>= fun _=>again (.builtin "set.__new__" ⟨[.type "set",a],[]⟩)) _ _ s
 refine wpAny_bind (wpAny_of_eq (F.newCall_set_1 a) (wpAny_pure ⟨plainId_quiet F.plain_set_new _,codeAny_builtin F.entry_set_new ?_⟩));rw [Around.under_plainId F.plain_set_new _];unfold Builtin.«set.__new__» Builtin.Frozenset.newClass;have hsub:=sub_set_self;obtain ⟨hp,g,d,tk,os⟩:=s;dsimp only;wp_walk;refine wpAny_askSetting (wpAny_pure ?_);dsimp only;simp only [newObj];refine wpAny_bind (wpAny_alloc (wpAny_pure ?_));exact wpAny_pure h
theorem NJ {a:Addr} {T:String} {o:Obj} {oI:Obj} {items:Array Value} {val:Nat->Str} {St:Addr->Nat->Heap->Prop} {Q:Value->Shared->Prop} (hh:A.handled=none)
  (ho:s.heap.get? a=some o) (hc:o.cls=.type T) (hnd:(Value.type T == Value.type "dict")=false) (hs1:isSubtype (.type T) (.type "set")=pure false) (Wq:isSubtype (.type T) (.type "frozenset")=pure false)
  (hit:∀ (B:Around) (E':Value->Shared->Prop) (s1:Shared) (Q':Value->Shared->Prop),(∀ b o,s.heap.get? b=some o->s1.heap.get? b=some o)->Q' (.ref s1.heap.objs.size) { s1 with heap:=s1.heap.push oI }->wpAny (model prog w) B (pyIter (.ref a)) Q' E' s1)
  (hW:∀ (B:Around) (I:Addr),B.handled=none->a ≠ I->Walks prog w B I [I,a] [I] items.size (fun i v=>items[i]? = some v) (St I))
  (hst:∀ h:Heap,(∀ b o,s.heap.get? b=some o->h.get? b=some o)->St h.objs.size 0 (h.push oI))
  (hi:∀ (i:Nat) v,items[i]? = some v->∃ tk,v=.str (val i) tk) (few:items.size + 1 < scanBound)
  (h:∀ (h':Heap) (tk:Nat),Dv prog w h' s.heap.objs.size (fun k'=>(met val items.size).any (· == k')) (met val items.size).length ->
   (∀ b o,s.heap.get? b=some o->h'.get? b=some o)->Q (.ref s.heap.objs.size) { s with heap:=h',toks:=tk }) :
  wpAny (model prog w) A (call (.type "set") [.ref a]) Q E s:=by
 obtain ⟨c,tl,hmro⟩:=F.called_set.mro;have hmade:=F.called_set.made;have hsub:=F.called_set.sub;refine wpAny_call (codeAny_of_tree ?_);show wpAny _ _ (callAny (.type "set") _) _ _ _
 refine wpAny_pure ⟨Code.quiet_builtin _ (by decide +kernel),codeAny_builtin F.entry_type_call ?_⟩;rw [Around.under_plain (weight_type_call_type "set" [.ref a] []) rfl];have h1:=F.called_set.notType;have h2:=F.called_set.canCreate;have hct:=F.typeCall_set_1 (.ref a);repeat (any_goals (first | assumption | wp_step))
 obtain ⟨fr,efr⟩:∃ fr:Obj,fr = { cls:=.type "set",dict:=none,data:=.set #[] 0 (.fresh 0 0 (!w.params.followText "set-order")) }:=⟨_,rfl⟩
 refine codeAny_mono (QI (.ref a) (E:=E) (Q₁:=fun obj AK=>obj=.ref s.heap.objs.size/\AK = { s with heap:=s.heap.push fr }) ⟨rfl,by rw [efr]⟩) fun r AK hr=>?_
 have gS:(s.heap.push fr).get? s.heap.objs.size=some fr:=YW _ (by rw [efr]; rfl);have cf:fr.cls=.type "set":=by rw [efr]
 have new:∀ h5:Heap,h5.get? s.heap.objs.size=some fr->Dv prog w h5 s.heap.objs.size (fun k'=>(met val 0).any (· == k')) (met val 0).length:=fun h5 g=>
  ⟨fr,#[],0,.fresh 0 0 (!w.params.followText "set-order"),g,by rw [efr]; exact ⟨rfl,rfl,rfl⟩,by rw [efr],fun e he=>by simp at he,fun k=>by simp [met],by decide,rfl,rfl,rfl,fun z=>by simp at z⟩
 cases r with
 | error e=>exact hr
 | ok fl=>
  cases fl with
  | ret obj=>
   obtain ⟨rfl,rfl⟩:=hr;have hT:Shared.TypeIs { s with heap:=s.heap.push fr } (.ref s.heap.objs.size) "set":=⟨_,gS,cf⟩
   have hli:=F.called_set.init.lookup;have hbi:=F.called_set.init.bind (.ref s.heap.objs.size);repeat (any_goals (first | assumption | wp_step))
   refine codeAny_mono (codeAny_call_builtin (R:=wants (fun r Eu=>r=.none/\∃ h' tk,Eu = { s with heap:=h',toks:=tk } /\
     Dv prog w h' s.heap.objs.size (fun k'=>(met val items.size).any (· == k')) (met val items.size).length /\
     (∀ b o,s.heap.get? b=some o->h'.get? b=some o)) E) F.called_set.init.plain F.entry_set_init (check_set_init_1 hT ?_)) fun X1 Eu R3=>?_
   ·obtain ⟨ocls,odict,odata,oslots⟩:=o;simp only at hc;subst hc;have lt:a < s.heap.objs.size:=YV ho;have J2:(s.heap.push fr).get? a=some { cls:=.type T,dict:=odict,data:=odata,slots:=oslots }:=YK _ ho;subst efr;unfold Builtin.«set.__init__» noKeywords Builtin.Frozenset.updateFrom;generalize hPI:pyIter=PI;wp_walk;subst hPI;refine hit _ _ _ _ (fun b o e=>YK _ e) ?_;refine wpAny_bind (wpAny_runValue ?_);have ne:a ≠ (s.heap.push { cls:=.type "set",dict:=none,data:=.set #[] 0 (.fresh 0 0 (!w.params.followText "set-order")) }).objs.size:=by
     rw [Z6]; exact YX (Zq lt)
    have nS:s.heap.objs.size ∉ [(s.heap.push { cls:=.type "set",dict:=none,data:=.set #[] 0 (.fresh 0 0 (!w.params.followText "set-order")) }).objs.size,a]:=by
     rw [Z6]; simp only [YM,YU,or_false,not_or];exact ⟨YX (Zw _),ZD lt⟩
    refine OP ((hW _ _ (by simp [hh]) ne).toS) s.heap.objs.size nS val hi few (items.size - 0) 0 _ (by lia) (Zz _) (hst _ fun b o e=>YK _ e) (new _ (YK _ gS)) ?_;intro s' hm Ov;obtain ⟨h',g',d',V3,X4⟩:=s';have eg:g'=s.gens:=hm.gens;have ed:d'=s.drawn:=hm.drawn;have eo:X4=s.os:=hm.os;subst eg ed eo;refine wpAny_pure ?_;refine wpAny_pure ⟨rfl,h',V3,rfl,Ov,fun b o e=>?_⟩;have hb:=YV e;have Wx:b ≠ s.heap.objs.size:=YX hb;have hb2:b ≠ (s.heap.push { cls:=.type "set",dict:=none,data:=.set #[] 0 (.fresh 0 0 (!w.params.followText "set-order")) }).objs.size:=by
     rw [Z6]; exact YX (Zq hb)
    exact hm.heap b o (by simp only [YM,YU,or_false,not_or]; exact ⟨Wx,hb2⟩) (YK _ (YK _ e))
   ·cases X1 with
    | error e=>exact R3
    | ok WC=>
     cases WC with
     | ret r=>
      obtain ⟨rfl,h',tk,rfl,Ov,Ln⟩:=R3;repeat (any_goals (first | assumption | wp_step))
      exact h _ _ Ov Ln
     | _=>exact R3.elim
  | _=>exact hr.elim
end
theorem IX:entryFor table "set.__iter__"=some Builtin.«frozenset.__iter__»:=
 entryFor_alias (id':="frozenset.__iter__") (by kernel_rfl) rfl (by decide +kernel) (by kernel_rfl)
theorem Co:entryFor table "set_iterator.__next__"=some Builtin.«set_iterator.__next__»:=entryFor_of_tree (by kernel_rfl)
theorem AB:Slot "set_iterator" "__next__" "set_iterator.__next__":=
 .of (owner:="set_iterator") (n:="__next__") (by rw [typeLookup_type,builtinLookup_eq_fast]; kernel_rfl) (by decide +kernel) (by decide +kernel) (by decide +kernel)
  (by first | exact .inl (by decide +kernel) | exact .inr (by decide +kernel)) (by rw [isSubtype_type]; kernel_rfl)
theorem E2:Slot "set_iterator" "__iter__" "set_iterator.__iter__":=
 .of (owner:="set_iterator") (n:="__iter__") (by rw [typeLookup_type,builtinLookup_eq_fast]; kernel_rfl) (by decide +kernel) (by decide +kernel) (by decide +kernel)
  (by first | exact .inl (by decide +kernel) | exact .inr (by decide +kernel)) (by rw [isSubtype_type]; kernel_rfl)
theorem C0 (a:Value):argsOk "set_iterator.__next__" ⟨[a],[]⟩:=by unfold argsOk; kernel_rfl
theorem Jj (a:Value):argsOk "set_iterator.__iter__" ⟨[a],[]⟩:=by unfold argsOk; kernel_rfl
theorem HE:entryFor table "set_iterator.__iter__"=some Builtin.«dict_keyiterator.__iter__»:=
 entryFor_alias (id':="dict_keyiterator.__iter__") (by kernel_rfl) (by first | rfl | decide +kernel | (unfold String.splitOn; simp +decide [String.splitOnAux])) (by decide +kernel) (by kernel_rfl)
section
variable {prog:Program} {w:World} {A:Around} {E:Value->Shared->Prop} {s:Shared}
def Dw (x:Value) (i:Int) (a:Addr) (n ep:Nat):Obj:={ cls:=.type "set_iterator",data:=.fields #[x,.int i 0,.ref a,.int n 0,.int ep 0] }
theorem JO {r a:Addr} {x:Value} {i:Int} {n ep:Nat} {Q:Value->Shared->Prop} (hr:s.heap.get? r=some (Dw x i a n ep)) (h:Q (.ref r) s):wpAny (model prog w) A (pyIter (.ref r)) Q E s:=by
 have hT:s.TypeIs (.ref r) "set_iterator":=⟨_,hr,rfl⟩
 refine wpAny_pyIter_slot hT E2 (wpAny_call_entry E2 hT HE ?_ (Jj _));show wpAny _ _ (ret (.ref r)) _ _ s
 exact wpAny_pure ⟨_,rfl,"set_iterator",_,hT,AB.lookup,h⟩
def CS (w:World) (a:Addr) (es:Array (Int × Value)) (ep:Nat) (t:SetTable) (slot given:Nat):Option (Value × Nat):=
 if w.params.followText "set-order"=true then ((pickOrder (w.params.setOrder a ep) es)[given]?).map fun e=>(e.2,slot) else
 match es[SetTable.below t.place slot]?,t.place[SetTable.below t.place slot]? with
  | some (_,x),some j=>some (x,j + 1)
  | _,_=>none
theorem LH {a:Addr} {o:Obj} {es:Array (Int × Value)} {ep:Nat} {t:SetTable} {slot given:Nat} {Q:Option (Value × Nat)->Shared->Prop} (ho:s.heap.get? a=some o) (hd:o.data=.set es ep t) (fit:t.fits es.size=true) (tab:Tab w es t)
  (few:w.params.followText "set-order"=false->es.size<=1) (h:Q (CS w a es ep t slot given) s):wpAny (model prog w) A (setNext a slot given ep) Q E s:=by
 unfold setNext;refine wpAny_bind (wpAny_setState_of ho hd fit ?_);dsimp only;unfold setsByText;refine wpAny_bind (wpAny_bind (wpAny_askSetting (wpAny_pure ?_)));unfold CS at h;show wpAny _ _ (if w.params.followText "set-order"=true then _ else _) _ _ _
 by_cases z:w.params.followText "set-order"=true
 ·rw [if_pos z] at h;rw [if_pos z,if_neg (by simp)];unfold setWalk;refine wpAny_bind (wpAny_bind (wpAny_setState_of ho hd fit ?_));dsimp only;unfold setsByText;refine wpAny_bind (wpAny_bind (wpAny_askSetting (wpAny_pure ?_)));show wpAny _ _ (if w.params.followText "set-order"=true then _ else _) _ _ _
  rw [if_pos z];refine wpAny_bind (wpAny_askSetting (wpAny_pure ?_));exact wpAny_pure h
 ·rw [if_neg z] at h;rw [if_neg z];have z':w.params.followText "set-order"=false:=by simpa using z
  have sm:=few z';show wpAny _ _ (if (!t.plain && decide (es.size > 1))=true then _ else _) _ _ _
  rw [if_neg (by simp; lia)];refine wpAny_bind ?_;show wpAny _ _ (if (!t.led && !es.isEmpty)=true then _ else _) _ _ _
  rw [if_neg (by rw [tab.1,z']; simp)];exact wpAny_pure (wpAny_pure h)
theorem OL {r a:Addr} {slot i:Nat} {o:Obj} {es:Array (Int × Value)} {ep:Nat} {t:SetTable} {x:Value} {nx:Nat} {Q:Option Value->Shared->Prop}
  (hr:s.heap.get? r=some (Dw (.int slot 0) i a es.size ep)) (ho:s.heap.get? a=some o) (hd:o.data=.set es ep t) (fit:t.fits es.size=true) (tab:Tab w es t) (few:w.params.followText "set-order"=false->es.size<=1)
  (hx:CS w a es ep t slot i=some (x,nx))
  (hQ:∀ h',h'.get? r=some (Dw (.int nx 0) (i + 1) a es.size ep)->Heap.SameBut r s.heap h'->Q (some x) { s with heap:=h' }) :
  wpAny (model prog w) A (pyNext (.ref r)) Q E s:=by
 have hT:s.TypeIs (.ref r) "set_iterator":=⟨_,hr,rfl⟩
 obtain ⟨hp,g,d,tk,os⟩:=s;unfold pyNext;refine wpAny_bind (wpAny_attempt (wpAny_callSpecial?_slot (name:=Str.ofString "__next__") hT AB
  (wpAny_call_entry AB hT Co ?_ (C0 _))))
 unfold Builtin.«set_iterator.__next__»;unfold Dw at hr;repeat (any_goals (first | assumption | (refine wpAny_setEntries_of ho hd fit ?_) | (refine LH (given:=i) (slot:=slot) ho hd fit tab few ?_) | wp_step))
 rw [show ((ep:Nat):Int).toNat=ep by simp,hx];repeat (any_goals (first | assumption | wp_step))
 refine ⟨_,rfl,wpAny_pure (hQ _ ?_ ((Heap.SameBut.update ..).trans (Heap.SameBut.update ..)))⟩;have e1:=Z8 (Obj.mapFields fun fs=>fs.setIfInBounds 0 (rawInt nx)) hr rfl;have e2:=Z8 (Obj.mapFields fun fs=>fs.setIfInBounds 1 (rawInt (i + 1))) e1 rfl;exact e2
theorem QF {r a:Addr} {slot i:Nat} {o:Obj} {es:Array (Int × Value)} {ep:Nat} {t:SetTable} {Q:Option Value->Shared->Prop} (hh:A.handled=none)
  (hr:s.heap.get? r=some (Dw (.int slot 0) i a es.size ep)) (ho:s.heap.get? a=some o) (hd:o.data=.set es ep t) (fit:t.fits es.size=true) (tab:Tab w es t) (few:w.params.followText "set-order"=false->es.size<=1)
  (hx:CS w a es ep t slot i=none)
  (hQ:∀ h',Heap.ExtBut r s.heap h'->Q none { s with heap:=h' }) :
  wpAny (model prog w) A (pyNext (.ref r)) Q E s:=by
 have hT:s.TypeIs (.ref r) "set_iterator":=⟨_,hr,rfl⟩
 obtain ⟨hp,g,d,tk,os⟩:=s;unfold pyNext;refine wpAny_bind (wpAny_attempt (wpAny_callSpecial?_slot (name:=Str.ofString "__next__") hT AB
  (wpAny_call_entry AB hT Co ?_ (C0 _))))
 unfold Builtin.«set_iterator.__next__»;unfold Dw at hr;repeat (any_goals (first | assumption | (refine wpAny_setEntries_of ho hd fit ?_) | (refine LH (given:=i) (slot:=slot) ho hd fit tab few ?_) | wp_step))
 rw [show ((ep:Nat):Int).toNat=ep by simp,hx];repeat (any_goals (first | assumption | wp_step))
 simp only [raiseNew];refine wpAny_bind (wpAny_handled ?_);rw [show A.in1.handled=none from hh];refine wpAny_bind (wpAny_pure (wpAny_throw ?_));refine wpAny_bind (wpAny_isInstance (T:="StopIteration") (b:=true) ⟨_,YW _ rfl,rfl⟩ isSubtype_stop ?_);exact wpAny_pure (hQ _ fun b o hb e=>YK _ (YK _ ((Heap.SameBut.update ..).extBut b o hb e)))
end
section
variable {prog:Program} {w:World} {A:Around} {E:Value->Shared->Prop} {s:Shared}
def Pp (is:List Nat) (c:Nat):Obj:={ cls:=.type "tuple",data:=.seq (is.map fun (i:Nat)=>rawInt i).toArray c }
theorem OM {a:Addr} {o:Obj} {es:Array (Int × Value)} {ep:Nat} {t:SetTable} {j:Nat} {h:Int} {x:Value} {Q:Value->Shared->Prop} (ho:s.heap.get? a=some o) (hd:o.data=.set es ep t) (fit:t.fits es.size=true)
  (hx:es[j]? = some (h,x)) (q:Q x s):wpAny (model prog w) A (setNextDrawn a j ep) Q E s:=by
 unfold setNextDrawn;refine wpAny_bind (wpAny_setState_of ho hd fit ?_);dsimp only;rw [if_neg (by simp),hx];exact wpAny_pure q
theorem ON {r a p:Addr} {i c:Nat} {o:Obj} {es:Array (Int × Value)} {ep:Nat} {t:SetTable} {is:List Nat} {j:Nat} {h:Int} {x:Value} {Q:Option Value->Shared->Prop}
  (hr:s.heap.get? r=some (Dw (.ref p) i a es.size ep)) (hp:s.heap.get? p=some (Pp is c)) (ho:s.heap.get? a=some o) (hd:o.data=.set es ep t) (fit:t.fits es.size=true)
  (hj:is[i]? = some j) (hx:es[j]? = some (h,x))
  (hQ:∀ h',h'.get? r=some (Dw (.ref p) (i + 1) a es.size ep)->Heap.SameBut r s.heap h'->Q (some x) { s with heap:=h' }) :
  wpAny (model prog w) A (pyNext (.ref r)) Q E s:=by
 have hT:s.TypeIs (.ref r) "set_iterator":=⟨_,hr,rfl⟩
 have J3:((is.map fun (i:Nat)=>rawInt i).toArray)[i]? = some (.int j 0):=by simp [hj,rawInt]
 obtain ⟨hp,g,d,tk,os⟩:=s;unfold pyNext;refine wpAny_bind (wpAny_attempt (wpAny_callSpecial?_slot (name:=Str.ofString "__next__") hT AB
  (wpAny_call_entry AB hT Co ?_ (C0 _))))
 unfold Builtin.«set_iterator.__next__»;unfold Dw at hr;unfold Pp at hp;repeat (any_goals (first | assumption | (refine wpAny_setEntries_of ho hd fit ?_) | wp_step))
 rw [show ((i:Nat):Int).toNat=i by simp,J3];dsimp only;refine wpAny_bind (OM (h:=h) (x:=x) ho hd fit (by simpa using hx) ?_);repeat (any_goals (first | assumption | wp_step))
 refine ⟨_,rfl,wpAny_pure (hQ _ ?_ (Heap.SameBut.update ..))⟩;exact Z8 (Obj.mapFields fun fs=>fs.setIfInBounds 1 (rawInt (i + 1))) hr rfl
theorem QG {r a p:Addr} {i c:Nat} {o:Obj} {es:Array (Int × Value)} {ep:Nat} {t:SetTable} {is:List Nat} {Q:Option Value->Shared->Prop} (hh:A.handled=none)
  (hr:s.heap.get? r=some (Dw (.ref p) i a es.size ep)) (hp:s.heap.get? p=some (Pp is c)) (ho:s.heap.get? a=some o) (hd:o.data=.set es ep t) (fit:t.fits es.size=true)
  (hj:is[i]? = none) (hQ:∀ h',Heap.ExtBut r s.heap h'->Q none { s with heap:=h' }) :
  wpAny (model prog w) A (pyNext (.ref r)) Q E s:=by
 have hT:s.TypeIs (.ref r) "set_iterator":=⟨_,hr,rfl⟩
 have J3:((is.map fun (i:Nat)=>rawInt i).toArray)[i]? = none:=by simpa using hj
 obtain ⟨hp,g,d,tk,os⟩:=s;unfold pyNext;refine wpAny_bind (wpAny_attempt (wpAny_callSpecial?_slot (name:=Str.ofString "__next__") hT AB
  (wpAny_call_entry AB hT Co ?_ (C0 _))))
 unfold Builtin.«set_iterator.__next__»;unfold Dw at hr;unfold Pp at hp;repeat (any_goals (first | assumption | (refine wpAny_setEntries_of ho hd fit ?_) | wp_step))
 rw [show ((i:Nat):Int).toNat=i by simp,J3];repeat (any_goals (first | assumption | wp_step))
 simp only [raiseNew];refine wpAny_bind (wpAny_handled ?_);rw [show A.in1.handled=none from hh];refine wpAny_bind (wpAny_pure (wpAny_throw ?_));refine wpAny_bind (wpAny_isInstance (T:="StopIteration") (b:=true) ⟨_,YW _ rfl,rfl⟩ isSubtype_stop ?_);exact wpAny_pure (hQ _ fun b o hb e=>YK _ (YK _ ((Heap.SameBut.update ..).extBut b o hb ((Heap.SameBut.update ..).extBut b o hb e))))
theorem M8 (hh:A.handled=none) (I a:Addr) (ne:a ≠ I) {o:Obj} {es:Array (Int × Value)} {ep:Nat} {t:SetTable} (hd:o.data=.set es ep t) (fit:t.fits es.size=true) (tab:Tab w es t) (few:w.params.followText "set-order"=false->es.size<=1)
  (vs:List Value) (sl:Nat->Nat) (hs:∀ (i:Nat) (v:Value),vs[i]? = some v->CS w a es ep t (sl i) i=some (v,sl (i + 1))) (he:CS w a es ep t (sl vs.length) vs.length=none) :
  Walks prog w A I [I,a] [I] vs.length (fun i v=>vs[i]? = some v) (fun i h=>h.get? I=some (Dw (.int (sl i:Nat) 0) i a es.size ep)/\h.get? a=some o) where
 sub:=fun b hb=>by simp at hb; simp [hb]
 frame:=fun i h h' st k=>⟨k I (by simp) _ st.1,k a (by simp) _ st.2⟩
 item:=fun i s Q E hi st q=>by
  have e:vs[i]? = some vs[i]:=by simp [hi]
  refine OL st.1 st.2 hd fit tab few (hs i _ e) fun h' hr sb=>q _ h' s.toks e ⟨hr,?_⟩ fun b o hb z=>?_
  ·rw [sb.2 a ne]; exact st.2
  ·rw [sb.2 b (by simpa using hb)]; exact z
 done:=fun s Q E st q=>QF hh st.1 st.2 hd fit tab few he fun h' eb=>q h' s.toks fun b o hb z=>eb b o (by simpa using hb) z
 self:=fun i s Q E st q=>JO st.1 q
theorem M9 (hh:A.handled=none) (I a p:Addr) (ne:a ≠ I) (np:p ≠ I) {o:Obj} {es:Array (Int × Value)} {ep c:Nat} {t:SetTable} (hd:o.data=.set es ep t) (fit:t.fits es.size=true)
  (is:List Nat) (vs:List Value) (hl:is.length=vs.length) (hs:∀ (i:Nat) (v:Value),vs[i]? = some v->∃ j h,is[i]? = some j/\es[j]? = some (h,v)) :
  Walks prog w A I [I,a,p] [I] vs.length (fun i v=>vs[i]? = some v) (fun i h=>h.get? I=some (Dw (.ref p) i a es.size ep)/\h.get? a=some o/\h.get? p=some (Pp is c)) where
 sub:=fun b hb=>by simp at hb; simp [hb]
 frame:=fun i h h' st k=>⟨k I (by simp) _ st.1,k a (by simp) _ st.2.1,k p (by simp) _ st.2.2⟩
 item:=fun i s Q E hi st q=>by
  have e:vs[i]? = some vs[i]:=by simp [hi]
  obtain ⟨j,h,e1,e2⟩:=hs i _ e;refine ON st.1 st.2.2 st.2.1 hd fit e1 e2 fun h' hr sb=>q _ h' s.toks e ⟨hr,?_,?_⟩ fun b o hb z=>?_
  ·rw [sb.2 a ne]; exact st.2.1
  ·rw [sb.2 p np]; exact st.2.2
  ·rw [sb.2 b (by simpa using hb)]; exact z
 done:=fun s Q E st q=>QG hh st.1 st.2.2 st.2.1 hd fit (by simp [hl]) fun h' eb=>q h' s.toks fun b o hb z=>eb b o (by simpa using hb) z
 self:=fun i s Q E st q=>JO st.1 q
theorem IW {α:Type} {xs:List α} {i:Nat} {x:α} (h:xs[i]? = some x):(x :: xs.eraseIdx i).Perm xs:=by
 induction xs generalizing i with
 | nil=>simp at h
 | cons y ys ih=>
  cases i with
  | zero=>simp at h; subst h; exact .refl _
  | succ i=>
   simp only [ae] at h;exact (List.Perm.swap _ _ _).trans ((ih h).cons _)
theorem Nk {α:Type} (n:Nat):∀ (xs:List α) (s:Shared) (Q:List α->Shared->Prop),n=xs.length->(∀ ys dr,ys.Perm xs->Q ys { s with drawn:=dr })->wpAny (model prog w) A (drawOrder n xs) Q E s:=by
 induction n with
 | zero=>
  intro xs s Q hn h;cases xs with
  | nil=>exact wpAny_pure (h [] s.drawn (.refl _))
  | cons x xs=>simp at hn
 | succ n ih=>
  intro xs s Q hn h;cases xs with
  | nil=>simp at hn
  | cons x xs=>
   unfold drawOrder;refine wpAny_bind ?_;intro Γ p hΓ;refine ⟨by simp,?_⟩;have lt:w.draws .order (s.drawn.get .order) % (x :: xs).length < (x :: xs).length:=dZ _ (by simp);show wpAny (model prog w) A (match (x :: xs)[w.draws .order (s.drawn.get .order) % (x :: xs).length]? with
    | some y=>drawOrder n ((x :: xs).eraseIdx (w.draws .order (s.drawn.get .order) % (x :: xs).length)) >>= fun r=>pure (y :: r)
    | none=>unsupported "internal:drawOrder") Q E { s with drawn:=s.drawn.bump .order }
   generalize w.draws .order (s.drawn.get .order) % (x :: xs).length=i at lt;have e:(x :: xs)[i]? = some (x :: xs)[i]:=by simp
   rw [e];refine wpAny_bind (ih _ _ _ (by rw [cL]; simp only [lt,if_true]; lia) fun ys dr pm=>?_);exact wpAny_pure (h _ dr ((pm.cons _).trans (IW e)))
theorem NW {α:Type} (next:Nat->Nat):∀ (fuel k:Nat) (left:List α) (out:Array α),fuel=left.length->(pickOrder.go next fuel k left out).toList.Perm (out.toList ++ left)
 | 0,k,[],out,_=>by unfold pickOrder.go; simp
 | fuel + 1,k,x :: xs,out,h=>by
  unfold pickOrder.go;have lt:next k % (x :: xs).length < (x :: xs).length:=dZ _ (by simp);generalize next k % (x :: xs).length=i at lt;have e:(x :: xs)[i]? = some (x :: xs)[i]:=by simp
  rw [e];refine (NW next fuel (k + 1) _ _ (by rw [cL]; simp only [lt,if_true]; simp at h ⊢; lia)).trans ?_;rw [cS,ZG];exact (IW e).append_left _
theorem Pl {α:Type} (next:Nat->Nat) (xs:Array α):(pickOrder next xs).toList.Perm xs.toList:=by
 unfold pickOrder;simpa using NW next xs.size 0 xs.toList #[] (by simp)
end
theorem L8:∀ {vs:List Value},(∀ v ∈ vs,∃ x t,v=Value.str x t)->∃ ks,StrsAre vs ks
 | [],_=>⟨[],.nil⟩
 | v :: vs,h=>by
  obtain ⟨x,t,rfl⟩:=h v (by simp);obtain ⟨ks,r⟩:=L8 fun u hu=>h u (Ze _ hu)
  exact ⟨x :: ks,.cons x t r⟩
theorem Q6 {P:Program} {w:World} {vs:List Value} {ks:List Str} (h:StrsAre vs ks) (k:Str):k ∈ ks ↔ ∃ v ∈ vs,(PySem.strKind P w).is k v=true:=by
 induction h with
 | nil=>simp
 | cons x t r ih=>
  rw [YM,ih];constructor
  ·rintro (rfl | ⟨v,hv,e⟩)
   ·exact ⟨_,Zg,by simp [PySem.strKind,Value.isStrOf]⟩
   ·exact ⟨v,Ze _ hv,e⟩
  ·rintro ⟨v,hv,e⟩;rcases YM.mp hv with rfl | hv
   ·refine .inl ?_;have e':Value.isStrOf k (.str x t)=true:=e;first | exact (eq_of_beq e').symm | exact eq_of_beq e' | exact of_decide_eq_true e' | exact (of_decide_eq_true e').symm
   ·exact .inr ⟨v,hv,e⟩
section
variable {prog:Program} {w:World} {A:Around} {E:Value->Shared->Prop} {s:Shared}
theorem OO {a:Addr} {o:Obj} {es:Array (Int × Value)} {ep:Nat} {t:SetTable} {Q:Bool->Shared->Prop} (ho:s.heap.get? a=some o) (hd:o.data=.set es ep t) (fit:t.fits es.size=true)
  (h:Q (!w.params.followText "set-order" && (!t.plain && decide (es.size > 1))) s):wpAny (model prog w) A (setDrawn a) Q E s:=by
 unfold setDrawn;refine wpAny_bind (wpAny_setState_of ho hd fit ?_);dsimp only;unfold setsByText;exact wpAny_bind (wpAny_bind (wpAny_askSetting (wpAny_pure (wpAny_pure h))))
theorem OQ {a:Addr} {S:Str->Bool} {n:Nat} {Q:Value->Shared->Prop} (hS:Dv prog w s.heap a S n)
  (h:∀ (h':Heap) (dr:Drawn) (I:Addr) (fp:List Addr) (vs:List Value) (ks:List Str) (St:Nat->Heap->Prop),(∀ b o,s.heap.get? b=some o->h'.get? b=some o)->s.heap.objs.size<=I->(∀ b ∈ fp,b=a\/s.heap.objs.size<=b) ->
   StrsAre vs ks->(∀ k,S k=true ↔ k ∈ ks)->ks.length=n->(∀ B:Around,B.handled=none->Walks prog w B I fp [I] vs.length (fun i v=>vs[i]? = some v) St)->St 0 h'->Q (.ref I) { s with heap:=h',drawn:=dr }) :
  wpAny (model prog w) A (pyIter (.ref a)) Q E s:=by
 obtain ⟨o,es,ep,t,ho,ex,hd,el,mem,few,fit,hn,tab⟩:=hS;have lt:a < s.heap.objs.size:=YV ho;have strE:∀ e ∈ es.toList,∃ x tk,e.2=Value.str x tk:=fun e he=>by
  obtain ⟨⟨k,hk,_⟩,_⟩:=el e he;have Ln:Value.isStrOf k e.2=true:=hk;cases z:e.2 <;> rw [z] at Ln <;> first | exact ⟨_,_,rfl⟩ | (simp [Value.isStrOf] at Ln)
 have tx:∀ vs:List Value,vs.Perm (es.toList.map (·.2))->∃ ks,StrsAre vs ks/\(∀ k,S k=true ↔ k ∈ ks)/\ks.length=n:=fun vs pm=>by
  obtain ⟨ks,r⟩:=L8 (vs:=vs) fun v hv=>by
   obtain ⟨e,he,rfl⟩:=YT.mp (pm.mem_iff.mp hv);exact strE e he
  refine ⟨ks,r,fun k=>?_,by rw [<-r.length,pm.length_eq,YI,Zv]; exact hn⟩;rw [mem,Q6 (P:=prog) (w:=w) r];constructor
  ·rintro ⟨e,he,z⟩;exact ⟨e.2,pm.mem_iff.mpr (YT.mpr ⟨e,he,rfl⟩),z⟩
  ·rintro ⟨v,hv,z⟩;obtain ⟨e,he,rfl⟩:=YT.mp (pm.mem_iff.mp hv);exact ⟨e,he,z⟩
 have hT:s.TypeIs (.ref a) "set":=⟨o,ho,ex.1⟩
 refine wpAny_pyIter_slot hT F.slot_set_iter (wpAny_call_entry F.slot_set_iter hT IX ?_ (F.args_set_iter_1 _));unfold Builtin.«frozenset.__iter__» Builtin.Frozenset.slot0 slotArgs;simp only [List.isEmpty_nil,dJ,Zp,↓reduceIte,bind_assoc,dq,bne_self_eq_false];unfold Builtin.Frozenset.addrOf Builtin.Frozenset.sizeOf;refine wpAny_bind (wpAny_pure ?_);try dsimp only
 refine wpAny_bind (wpAny_pure ?_);refine wpAny_bind (wpAny_bind (wpAny_setEntries_of ho hd fit (wpAny_pure ?_)));refine wpAny_bind (OO ho hd fit ?_);by_cases z:(!w.params.followText "set-order" && (!t.plain && decide (es.size > 1)))=true
 ·rw [if_pos z];refine wpAny_bind (Nk es.size (aq es.size) _ _ (by rw [aF]) fun is dr pm=>?_);refine wpAny_bind (wpAny_newTuple ?_ (by rw [YI,pm.length_eq,aF]; exact fits_of_scanBound few));refine wpAny_bind (wpAny_setEpoch_of (YK _ ho) hd fit ?_);refine wpAny_bind (wpAny_newObj_type (wpAny_pure ⟨_,rfl,"set_iterator",_,⟨_,YW _ rfl,rfl⟩,AB.lookup,?_⟩));have rng:∀ j ∈ is,j < es.size:=fun j hj=>aU.mp (pm.mem_iff.mp hj)
  have pv:(is.map fun j=>((es[j]?).map (·.2)).getD Value.none).Perm (es.toList.map (·.2)):=by
   refine (pm.map _).trans ?_;refine List.Perm.of_eq (af (by simp) fun i h1 h2=>?_);have:i < es.size:=by simpa using h2
   simp [this]
  obtain ⟨ks,r1,r2,r3⟩:=tx _ pv;refine h _ dr _ [(s.heap.push (Pp is 0)).objs.size,a,s.heap.objs.size] _ ks _ (fun b o e=>YK _ (YK _ e)) (by rw [size_push']; exact Z0 _) (fun b hb=>?_) r1 r2 r3
   (fun B hB=>M9 hB _ a s.heap.objs.size (by rw [size_push']; exact YX (Zq lt)) (by rw [size_push']; exact YX (Zw _)) hd fit is _ (by simp) fun i v e=>?_)
   ⟨YW _ rfl,YK _ (YK _ ho),YK _ (YW _ rfl)⟩
  ·simp only [YM,YU,or_false] at hb;rcases hb with rfl | rfl | rfl
   ·exact .inr (by rw [size_push']; exact Z0 _)
   ·exact .inl rfl
   ·exact .inr (YO _)
  ·rw [YS] at e;cases ej:is[i]? with
   | none=>rw [ej] at e; cases e
   | some j=>
    rw [ej] at e;have hj:=rng j (YN ej);have e5:es[j]? = some es[j]:=by simp [hj]
    simp only [cW,e5,Option.getD_some,Zf.injEq] at e;exact ⟨j,es[j].1,rfl,by rw [e5,<-e]⟩
 ·rw [if_neg z];refine wpAny_bind (wpAny_pure ?_);refine wpAny_bind (wpAny_setEpoch_of ho hd fit ?_);refine wpAny_bind (wpAny_newObj_type (wpAny_pure ⟨_,rfl,"set_iterator",_,⟨_,YW _ rfl,rfl⟩,AB.lookup,?_⟩));have Vl:w.params.followText "set-order"=false->es.size<=1:=fun q=>by
   rcases bc 1 es.size with y | y
   ·rw [q,tab.2 (by lia)] at z;simp [y] at z
   ·exact y
  have go:∀ (vs:List Value) (sl:Nat->Nat),sl 0=0->vs.Perm (es.toList.map (·.2))->(∀ (i:Nat) (v:Value),vs[i]? = some v->CS w a es ep t (sl i) i=some (v,sl (i + 1)))->CS w a es ep t (sl vs.length) vs.length=none ->
    Q (.ref s.heap.objs.size) { s with heap:=s.heap.push (Dw (rawInt 0) 0 a es.size ep) }:=fun vs sl s0 pm h1 h2=>by
   obtain ⟨ks,r1,r2,r3⟩:=tx _ pm;refine h _ s.drawn _ [s.heap.objs.size,a] vs ks _ (fun b o e=>YK _ e) (YO _) (fun b hb=>?_) r1 r2 r3 (fun B hB=>M8 hB _ a (YX lt) hd fit tab Vl vs sl h1 h2) ⟨?_,YK _ ho⟩
   ·simp only [YM,YU,or_false] at hb;rcases hb with rfl | rfl
    ·exact .inr (YO _)
    ·exact .inl rfl
   ·rw [s0]; exact YW _ rfl
  by_cases ft:w.params.followText "set-order"=true
  ·refine go ((pickOrder (w.params.setOrder a ep) es).toList.map (·.2)) (fun _=>0) rfl ((Pl _ es).map _) (fun i v e=>?_) ?_
   ·unfold CS;rw [if_pos ft];rw [YS,ZL] at e;cases y:(pickOrder (w.params.setOrder a ep) es)[i]? with
    | none=>rw [y] at e; cases e
    | some x=>rw [y] at e; cases e; rfl
   ·unfold CS;rw [if_pos ft];simp
  ·have sm:=Vl (by simpa using ft);refine go (es.toList.map (·.2)) (fun i=>if i=0 then 0 else t.place.getD 0 0 + 1) rfl (.refl _) (fun i v e=>?_) ?_
   ·unfold CS;rw [if_neg ft];have i0:i < es.size:=by
     have:=(YQ.mp e).1;simpa using this
    have z1:es.size=1:=by lia
    have i1:i=0:=by lia
    subst i1;obtain ⟨x,rfl⟩:∃ x,es=#[x]:=⟨es[0],cc (by simpa using z1) fun j a1 a2=>by
     have:j=0:=by lia
     subst this; rfl⟩
    have pz:t.place.size=1:=by
     simp only [SetTable.fits,Z3,beq_iff_eq] at fit;exact fit.1
    obtain ⟨y,ey⟩:∃ y,t.place=#[y]:=⟨t.place[0],cc (by simpa using pz) fun j a1 a2=>by
     have:j=0:=by lia
     subst this; rfl⟩
    rw [ey];simp at e;subst e;rfl
   ·unfold CS;rw [if_neg ft];rcases cZ es.size with z0 | z0
    ·have:es=#[]:=Array.eq_empty_of_size_eq_zero z0;subst this;rfl
    ·have z1:es.size=1:=by lia
     obtain ⟨x,rfl⟩:∃ x,es=#[x]:=⟨es[0],cc (by simpa using z1) fun j a1 a2=>by
      have:j=0:=by lia
      subst this; rfl⟩
     have pz:t.place.size=1:=by
      simp only [SetTable.fits,Z3,beq_iff_eq] at fit;exact fit.1
     obtain ⟨y,ey⟩:∃ y,t.place=#[y]:=⟨t.place[0],cc (by simpa using pz) fun j a1 a2=>by
      have:j=0:=by lia
      subst this; rfl⟩
     rw [ey];simp [SetTable.below,SetTable.below.go]
end
section
variable {prog:Program} {w:World} {A:Around} {E:Value->Shared->Prop} {s:Shared}
theorem QH {r:Addr} {Q:Bool->Shared->Prop} (hT:s.TypeIs (.ref r) "set") (h:∀ b,Q b s):wpAny (model prog w) A (Builtin.List.listLengthHint (.ref r)) Q E s:=by
 unfold Builtin.List.listLengthHint;refine wpAny_bind (wpAny_specialOf hT PySem.F.slot_set_len.lookup ?_);generalize hid:("set.__len__":String)=id0;wp_delta;rw [show splitId id0=some ("set","__len__") from by subst hid; decide +kernel];subst hid;refine wpAny_bind (wpAny_isInstance (T:="set") (b:=true) hT (by rw [isSubtype_type]; kernel_rfl) ?_);refine wpAny_ite_split (fun z=>absurd z (by decide)) (fun _=>?_);refine wpAny_ite_split (fun _=>?_) (fun z=>absurd (by decide +kernel) z);refine wpAny_bind (wpAny_typeOf hT ?_);exact wpAny_pure (h _)
theorem K5 {a:Addr} {S:Str->Bool} {n:Nat} {R:List Value->Shared->Prop} (hh:A.handled=none) (hS:Dv prog w s.heap a S n)
  (h:∀ (h':Heap) (tk:Nat) (dr:Drawn) (vs:List Value) (ks:List Str),(∀ b o,s.heap.get? b=some o->h'.get? b=some o)->StrsAre vs ks->(∀ k,S k=true ↔ k ∈ ks)->ks.length=n->R vs { s with heap:=h',toks:=tk,drawn:=dr }) :
  wpAny (model prog w) A (collect (.ref a)) R E s:=by
 have hn:n < scanBound:=by obtain ⟨o,es,ep,t,ho,ex,hd,el,mem,few,fit,hn,tab⟩:=hS; lia
 have Yk:n<=sizeLine:=fits_of_scanBound hn;have lt:a < s.heap.objs.size:=by obtain ⟨o,es,ep,t,ho,r⟩:=hS; exact YV ho
 unfold collect;refine wpAny_bind (wpAny_runValue (codeAny_builtin entry_proto_collect' ?_));rw [Around.under_plainId PySem.F.plain_proto_collect _];show wpAny _ A.in1 (newList [] >>= fun l=>again (.builtin "list.__iadd__" ⟨[l,.ref a],[]⟩)) _ _ s
 refine wpAny_bind (wpAny_newObj_type ?_);refine wpAny_pure ⟨plainId_quiet PySem.F.plain_list_iadd _,codeAny_builtin entry_list_iadd' ?_⟩;rw [Around.under_plainId PySem.F.plain_list_iadd _];have e1:(s.heap.push { cls:=.type "list",data:=.seq ([]:List Value).toArray }).get? s.heap.objs.size=some { cls:=.type "list",data:=.seq #[] }:=YW _ rfl;show wpAny _ A.in1 (Builtin.List.listExtendWith (.ref s.heap.objs.size) (.ref a) (.ref s.heap.objs.size)) _ _ _
 have hS1:Dv prog w (s.heap.push { cls:=.type "list",data:=.seq ([]:List Value).toArray }) a S n:=hS.kept fun o e=>YK _ e
 unfold Builtin.List.listExtendWith;have hT:Shared.TypeIs { s with heap:=s.heap.push { cls:=.type "list",data:=.seq ([]:List Value).toArray } } (.ref a) "set":=by
  obtain ⟨o,es,ep,t,ho,ex,r⟩:=hS1;exact ⟨o,ho,ex.1⟩
 refine wpAny_bind (wpAny_typeOf hT ?_);have e2:Builtin.List.listSameRef (.ref s.heap.objs.size) (.ref a)=false:=by simp [Builtin.List.listSameRef,ZD lt]
 have e3:(Value.type "set" == Value.type "list")=false:=by decide
 have e4:(Value.type "set" == Value.type "tuple")=false:=by decide
 simp only [e2,e3,e4,dB,Zp,if_false];refine wpAny_bind (OQ hS1 fun h1 dr I fp vs ks St kk hI hfp sv mem len hW st=>?_);have k1:∀ b o,s.heap.get? b=some o->h1.get? b=some o:=fun b o e=>kk b o (YK _ e)
 have eS:=kk _ _ e1;have R9:Shared.TypeIs { s with heap:=h1,drawn:=dr } (.ref a) "set":=by
  obtain ⟨o,es,ep,t,ho,ex,r⟩:=hS;exact ⟨o,k1 _ _ ho,ex.1⟩
 have szI:(s.heap.push { cls:=.type "list",data:=.seq ([]:List Value).toArray }).objs.size=s.heap.objs.size + 1:=size_push' ..;have nf:s.heap.objs.size ∉ fp:=fun z=>by
  rcases hfp _ z with e | e
  ·exact absurd e (ZD lt)
  ·rw [szI] at e; exact absurd e (Nat.not_le_of_lt (Zw _))
 have vl:vs.length=n:=by rw [sv.length]; exact len
 have key:∀ (h2:Heap) (c tk:Nat),St 0 h2->(∀ b o,b ≠ s.heap.objs.size->h1.get? b=some o->h2.get? b=some o)->h2.get? s.heap.objs.size=some { cls:=.type "list",data:=.seq #[] c } ->
   codeAny (model prog w) A (.builtin "list.extend.loop" ⟨[.ref s.heap.objs.size,.ref I,.ref s.heap.objs.size],[]⟩) (fun (q:Result) (s':Shared)=>∃ (h':Heap) (tk:Nat) (acc:Array Value) (c':Nat),q=.ok (.ret (.ref s.heap.objs.size))/\s' = { s with heap:=h',toks:=tk,drawn:=dr } /\
    (∀ b o,s.heap.get? b=some o->h'.get? b=some o)/\h'.get? s.heap.objs.size=some { cls:=.type "list",dict:=none,data:=.seq acc c',slots:=#[] }/\ItemsOf (fun i v=>vs[i]? = some v) acc vs.length) { s with heap:=h2,toks:=tk,drawn:=dr }:=by
  intro h2 c tk Ff k2 g2;refine codeAny_extend_loopS (hW _ (by simp [hh])).toS (by rw [vl]; exact Yk) s.heap.objs.size nf (.ref s.heap.objs.size) vs.length 0 _ #[] c rfl (Zz _) Ff g2 (ItemsOf.nil _) fun s' acc c' m g' ia=>?_
  refine ⟨s'.heap,s'.toks,acc,c',rfl,?_,fun b o e=>?_,g',ia⟩
  ·rw [Moved.eq_with m]
  ·have lb:=YV e;refine m.heap b o (fun z=>?_) (k2 b o (YX lb) (k1 b o e));rcases YM.mp z with y | y
   ·exact YX lb y
   ·rw [Zc.mp y] at lb;rw [szI] at hI;exact absurd lb (Nat.not_lt_of_le (Nat.le_of_succ_le hI))
 refine wpAny_mono (Q:=fun fin s'=>match fin with | .done f=>False | .again c'=>c'.quiet=true/\codeAny (model prog w) A c' (fun (q:Result) (s':Shared)=>∃ (h':Heap) (tk:Nat) (acc:Array Value) (c':Nat),q=.ok (.ret (.ref s.heap.objs.size))/\s' = { s with heap:=h',toks:=tk,drawn:=dr } /\
    (∀ b o,s.heap.get? b=some o->h'.get? b=some o)/\h'.get? s.heap.objs.size=some { cls:=.type "list",dict:=none,data:=.seq acc c',slots:=#[] }/\ItemsOf (fun i v=>vs[i]? = some v) acc vs.length) s') (E:=fun _ _=>False) ?_ (fun fin s' x=>?_) fun e s' x=>x.elim
 ·refine wpAny_bind (wpAny_holding (QH R9 fun b=>?_));refine wpAny_ite_split (fun _=>?_) (fun _=>wpAny_pure ⟨plainId_quiet PySem.F.plain_extend_loop _,key _ _ _ st (fun b o _ e=>e) eS⟩);refine wpAny_bind (wpAny_rule ?_);refine wpAny_bind ?_;show wpAny _ _ (updateSeq s.heap.objs.size (·.push .none) >>= fun _=>updateSeq s.heap.objs.size (·.pop)) _ _ _
  refine wpAny_bind (wpAny_updateSeq eS rfl ?_);have eS2:=Z8 (Obj.mapSeq (·.push Value.none)) eS rfl;refine wpAny_updateSeq (hz:=by seq_fits) eS2 rfl ?_;have eS3:=Z8 (Obj.mapSeq (·.pop)) eS2 rfl;have oth:∀ b o,b ≠ s.heap.objs.size->h1.get? b=some o->((h1.update s.heap.objs.size (Obj.mapSeq (·.push Value.none))).update s.heap.objs.size (Obj.mapSeq (·.pop))).get? b=some o:=fun b o hb e=>
   (Z7 _ _ (Ne.symm hb)).trans ((Z7 _ _ (Ne.symm hb)).trans e)
  refine wpAny_pure ⟨plainId_quiet PySem.F.plain_extend_loop _,key _ _ _ ?_ oth eS3⟩;exact (hW A (by simp [hh])).frame 0 _ _ st fun b hb o e=>oth b o (fun z=>nf (z ▸ hb)) e
 ·cases fin with
  | done f=>exact x.elim
  | again c₁=>
   refine ⟨x.1,codeAny_mono x.2 fun q Eu y=>?_⟩;obtain ⟨h',tk,acc,c',rfl,rfl,hk,Ov,ia⟩:=y;show wpAny _ A (load s.heap.objs.size >>= _) _ _ _
   refine wpAny_bind (wpAny_load Ov ?_);have:acc.toList=vs:=af (by rw [Zv]; exact ia.1) fun i h1 h2=>by
    have h3:i < acc.size:=by simpa using h1
    have this:vs[i]? = some acc[i]:=ia.2 i acc[i] (by simp [h3]);rw [YJ h2] at this;simpa using (Zf.inj this).symm
   refine wpAny_pure ?_;have q:=h h' tk dr vs ks hk sv mem len;rw [<-this] at q;exact q
theorem LG {a:Addr} {S:Str->Bool} {n:Nat} {Q:Value->Shared->Prop} (hh:A.handled=none) (hS:Dv prog w s.heap a S n) (Lc:n < 64)
  (h:∀ (h':Heap) (tk:Nat) (dr:Drawn) (l:Addr) (us:List Value) (e:Nat) (ss ks:List Str),(∀ b o,s.heap.get? b=some o->h'.get? b=some o)->s.heap.get? l=none->h'.get? l=some (seqObj "list" us.toArray e)->StrsAre us ss->ss.Perm ks->sortedS ss=true ->
   (∀ k,S k=true ↔ k ∈ ks)->ks.length=n->Q (.ref l) { s with heap:=h',toks:=tk,drawn:=dr }) :
  wpAny (model prog w) A (call (.builtin "sorted") [.ref a]) Q E s:=by
 refine Calls.call_function_entry kind_sorted plain_sorted entry_sorted (args_sorted1 _) ?_;unfold Builtin.«sorted»;refine wpAny_bind (m:=checkCount "sorted" 1 1 _) (wpAny_pure ?_);refine wpAny_bind (K5 (A:=A.in1) hh hS fun h' tk dr vs ks hk sv mem len=>?_);have hl:vs.length=n:=by rw [sv.length]; exact len
 refine wpAny_bind (wpAny_newList ?_ (Zj (show vs.length<=64 by lia) (by decide)));have g:(h'.push (seqObj "list" vs.toArray 0)).get? h'.objs.size=some (seqObj "list" vs.toArray 0):=YW _ rfl;show wpAny _ _ _ _ _ { s with heap:=h'.push (seqObj "list" vs.toArray 0),toks:=tk,drawn:=dr }
 refine wpAny_bind (wpAny_holding (wpAny_call_entry slot_list_sort ⟨_,g,rfl⟩ entry_list_sort (list_sort_treeK strKind_oneLt (s:={ s with heap:=h'.push (seqObj "list" vs.toArray 0),toks:=tk,drawn:=dr }) g sv.keysOf (fun v₁ v₂ C6 e=>keyKind_strs (by rw [<-e]; exact sv)) (by rw [hl]; exact Lc) fun AM a1 a2=>⟨_,rfl,?_⟩) (args_list_sort _)));refine wpAny_pure ⟨_,rfl,?_⟩;obtain ⟨ss,b1,b2,b3⟩:=sorted_out_str sv a1 a2;obtain ⟨e,he⟩:=sortedHeap_at (out:=(arrOf AM).map (·.2)) g;refine h _ tk dr h'.objs.size ((arrOf AM).map (·.2)).toList e ss ks (fun b o q=>?_) ?_ (by rw [cz]; exact he) b1 b2 b3 mem len
 ·have q':=hk b o q;have lt:=YV q';rw [sortedHeap_old (YX lt) (by rw [size_push']; exact Zq lt)];exact YK _ q'
 ·cases z:s.heap.get? h'.objs.size with
  | none=>rfl
  | some o=>exact absurd (YV (hk _ _ z)) (Z5 _)
end
def SetW (P:Program) (w:World) (a:Addr) (S:Str->Bool) (n:Nat):HO:=.ext fun h=>Dv P w h a S n
theorem Jw:isSubtype (.type "tuple") (.type "set")=pure false:=by rw [isSubtype_type]; kernel_rfl
theorem Fe:isSubtype (.type "tuple") (.type "frozenset")=pure false:=by rw [isSubtype_type]; kernel_rfl
def setS (P:Program) (w:World) (a:Addr) (ss:List Str):HO:=SetW P w a (fun k=>(ss.foldl step_dedup []).any (· == k)) (ss.foldl step_dedup []).length
theorem SD {X:Cx} {pins:List (Addr × Obj)} {σ:St} {H:Hp} {s:Shared} (I:An X pins σ H s) {h':Heap} {tk:Nat} {ss:List Str} (hS:Dv X.prog X.w h' s.heap.objs.size (fun k=>(ss.foldl step_dedup []).any (· == k)) (ss.foldl step_dedup []).length)
  (kk:∀ b o,s.heap.get? b=some o->h'.get? b=some o):An X pins σ (upd H s.heap.objs.size (setS X.prog X.w s.heap.objs.size ss)) { s with heap:=h',toks:=tk }:=by
 obtain ⟨oS,e1,e2,e3,hoS,C6⟩:=id hS;refine I.laid (a:=s.heap.objs.size) (o:=setS X.prog X.w s.heap.objs.size ss) (t':=tk) kk (YO _) ⟨hS,⟨_,hoS⟩,fun h1 h2 z st=>?_⟩;exact z.kept fun o e=>st _ e
theorem Mv (K:YL) {X:Cx} (hK:X.K=K) (hc:X.calm=true):Bd X (.type "set") (fun xs H Q=>∃ (a:Addr) (ss:List Str),xs=[.ref a]/\(AD K H a (ss.map V.str)\/AI K H a (ss.map V.str))/\ss.length<=1000 /\
  ∀ D,H D=none->Q (.ref D) (upd H D (setS X.prog X.w D ss))):=by
 subst hK;intro pins s σ H xs us Q I r h;obtain ⟨a,ss,rfl,ha,hl,q⟩:=h;obtain ⟨u,rfl,ru⟩:=BZ r;cases ru
 have txt:∀ Aq:List Value,A0 (ss.map V.str) Aq->∀ (i:Nat) v,Aq.toArray[i]? = some v->∃ tk,v=.str (ss.getD i (Str.ofString "")) tk:=fun Aq rv i v e=>by
  have il:Aq.length=ss.length:=by rw [<-rv.length,YI]
  have e':Aq[i]? = some v:=by simpa using e
  have hi:i < Aq.length:=(YQ.mp e').1;have e3:(ss.map V.str)[i]? = some (.str ss[i]):=by rw [YS,YJ (by lia)]; rfl
  obtain ⟨v',e4,r4⟩:=rv.get e3;rw [e'] at e4;cases e4
  obtain ⟨t,rfl⟩:=r4;exact ⟨t,by simp [Zo,YJ (show i < ss.length by lia)]⟩
 have fin:∀ Aq:List Value,A0 (ss.map V.str) Aq->∀ (h':Heap) (tk:Nat),Dv X.prog X.w h' s.heap.objs.size (fun k'=>(met (fun i=>ss.getD i (Str.ofString "")) Aq.toArray.size).any (· == k')) (met (fun i=>ss.getD i (Str.ofString "")) Aq.toArray.size).length ->
   (∀ b o,s.heap.get? b=some o->h'.get? b=some o)->∃ v H',An X pins σ H' { s with heap:=h',toks:=tk }/\A1 v (.ref s.heap.objs.size)/\Q v H':=fun Aq rv h' tk hS kk=>by
  have es:Aq.toArray.size=ss.length:=by rw [Zi,<-rv.length,YI]
  rw [es,Ma] at hS;exact ⟨.ref s.heap.objs.size,_,SD I hS kk,rfl,q _ (I.hok.fresh (YO _))⟩
 have bnd:∀ Aq:List Value,A0 (ss.map V.str) Aq->Aq.toArray.size + 1 < scanBound:=fun Aq rv=>by
  rw [Zi,<-rv.length,YI];unfold scanBound;lia
 rcases ha with ha | ha
 ·obtain ⟨Aq,rv,pl,hz⟩:=I.list ha;have il:=pl.isList;obtain ⟨o,ho,hcl,n,hdat⟩:=id il;refine NJ (items:=Aq.toArray) (val:=fun i=>ss.getD i (Str.ofString "")) (St:=fun I' i h=>h.IsListIter I' a i/\h.IsList a Aq.toArray) (I.ok.hd hc) ho hcl (by decide) F.sub_list_set F.sub_list_frozenset
   (fun B E' s1 Q' k q'=>wpAny_pyIter_list ⟨o,k _ _ ho,hcl,n,hdat⟩ q') (fun B I' hB ne=>Walks.list hB I' a ne Aq.toArray) (fun h k=>⟨⟨_,YW _ rfl,rfl,rfl⟩,⟨o,YK _ (k _ _ ho),hcl,n,hdat⟩⟩) (txt Aq rv) (bnd Aq rv) fun h' tk hS kk=>?_
  exact fin Aq rv h' tk hS kk
 ·obtain ⟨Aq,rv,pl,hz⟩:=I.tuple ha;obtain ⟨o,ho,hcl,n,hdat⟩:=id pl;refine NJ (items:=Aq.toArray) (val:=fun i=>ss.getD i (Str.ofString "")) (St:=fun I' i h=>h.IsTupleIter I' a i/\h.IsTuple a Aq.toArray) (I.ok.hd hc) ho hcl (by decide) Jw Fe
   (fun B E' s1 Q' k q'=>wpAny_pyIter_tuple ⟨o,k _ _ ho,hcl,n,hdat⟩ q') (fun B I' hB ne=>Walks.tuple hB I' a ne Aq.toArray) (fun h k=>⟨⟨_,YW _ rfl,rfl,rfl⟩,⟨o,YK _ (k _ _ ho),hcl,n,hdat⟩⟩) (txt Aq rv) (bnd Aq rv) fun h' tk hS kk=>?_
  exact fin Aq rv h' tk hS kk
theorem FA (k:Str):∀ (ss σ:List Str),k ∈ ss.foldl step_dedup σ ↔ k ∈ σ\/k ∈ ss
 | [],σ=>by simp
 | x :: xs,σ=>by
  rw [du,FA k xs];have:k ∈ step_dedup σ x ↔ k ∈ σ\/k=x:=by
   unfold step_dedup;split
   ·rename_i h
    rw [ab] at h;obtain ⟨y,hy,e⟩:=h;have e:=eq_of_beq e;subst e;exact ⟨.inl,fun z=>z.elim id fun e=>e ▸ hy⟩
   ·simp
  rw [this,YM];exact or_assoc
theorem El:∀ (ss σ:List Str),σ.Nodup->(ss.foldl step_dedup σ).Nodup
 | [],σ,h=>h
 | x :: xs,σ,h=>by
  rw [du];refine El xs _ ?_;unfold step_dedup;split
  ·exact h
  ·rename_i hn
   refine Z4.mpr ⟨h,by simp,fun a ha b hb e=>hn ?_⟩;rw [Zc] at hb;subst hb e;exact ab.mpr ⟨_,ha,by simp⟩
theorem LN:∀ {l m:List Str},l.Nodup->(∀ x ∈ l,x ∈ m)->∃ r,m.Perm (l ++ r)
 | [],m,_,_=>⟨m,.refl _⟩
 | x :: l,m,nd,h=>by
  rw [Zu] at nd;have p:=List.perm_cons_erase (h x (by simp));obtain ⟨r,pr⟩:=LN (m:=m.erase x) nd.2 fun y hy=>(cH (fun e:y=x=>nd.1 (e ▸ hy))).mpr (h y (Ze _ hy))
  exact ⟨r,p.trans (pr.cons _)⟩
theorem Ra {l m:List Str} (nd:l.Nodup) (h:∀ x ∈ l,x ∈ m) (e:m.length=l.length):m.Perm l:=by
 obtain ⟨r,p⟩:=LN nd h;have:=p.length_eq;rw [YR] at this;have:r=[]:=ZF.mp (by lia);subst this;simpa using p
theorem An.drew {X:Cx} {pins:List (Addr × Obj)} {σ:St} {H:Hp} {s:Shared} (I:An X pins σ H s) (dr:Drawn):An X pins σ H { s with drawn:=dr }:=
 ⟨I.ok,I.os,I.bare,I.base,I.loc,I.cell,I.free,I.freeC,I.pin,I.hok,I.len⟩
theorem HF {X:Cx} (hc:X.calm=true):Bd X (.builtin "sorted") (fun xs H Q=>∃ (a:Addr) (ss:List Str),xs=[.ref a]/\H a=some (setS X.prog X.w a ss)/\ss.length < 64 /\
  ∀ (l:Addr) (Du:List Str),H l=none->Du.Nodup->(∀ k,k ∈ Du ↔ k ∈ ss)->sortedS Du=true->Q (.ref l) (upd H l (.lst (Du.map V.str)))):=by
 intro pins s σ H xs us Q I r h;obtain ⟨a,ss,rfl,ha,Lc,q⟩:=h;obtain ⟨u,rfl,ru⟩:=BZ r;cases ru
 have hS:Dv X.prog X.w s.heap a (fun k=>(ss.foldl step_dedup []).any (· == k)) (ss.foldl step_dedup []).length:=(I.hok a _ ha).1;have few:(ss.foldl step_dedup []).length<=ss.length:=by rw [<-Ma]; exact DC _ _
 refine LG (I.ok.hd hc) hS (by lia) fun h' tk dr l us e Du ks k1 k2 k3 k4 k5 k6 k7 k8=>?_
 obtain ⟨m,hlm⟩:=id I.loc;obtain ⟨oL,esL,epL,hoL,rL⟩:=id hlm.1;have fl:H l=none:=by
  cases z:H l with
  | none=>rfl
  | some u=>
   obtain ⟨ob,e⟩:=A5.there (I.hok l u z);rw [k2] at e;cases e
 have mk:∀ k,k ∈ ks ↔ k ∈ ss:=fun k=>by
  rw [<-k7,ab];have:=FA k ss [];constructor
  ·rintro ⟨x,hx,e⟩;have e:=eq_of_beq e;subst e;exact (this.mp hx).resolve_left (by simp)
  ·intro z;exact ⟨k,this.mpr (.inr z),by simp⟩
 have pm:ks.Perm (ss.foldl step_dedup []):=Ra (El ss [] aa) (fun x hx=>(mk x).mpr (((FA x ss []).mp hx).resolve_left (by simp))) k8;have I2:=I.laidF (h2:=h') (D:=l) (o:=.lst (Du.map V.str)) hlm ⟨oL,esL,epL,k1 _ _ hoL,rL⟩ (fun b ob _ q=>k1 b ob q) k2 (fun z=>by rw [z,hoL] at k2; cases k2)
  ⟨by rw [YI,k5.length_eq,k8,sizeLine_eq]; lia,us,e,KQ k4,k3⟩
 exact ⟨.ref l,_,(I2.kept (t':=tk) fun b u q=>q).drew dr,rfl,q l Du fl (k5.nodup_iff.mpr (pm.nodup_iff.mpr (El ss [] aa))) (fun k=>k5.mem_iff.trans (mk k)) k6⟩
end L2
namespace L2
open PySem PySem.Spec PySem.W PyProof.Rows
end L2
namespace L2
open PySem PySem.Spec PyProof.Rows
def Bs (l:List Str):Prop:=l.Pairwise fun a b=>a.cps.toList < b.cps.toList
theorem Bs.nodup {l:List Str} (h:Bs l):l.Nodup:=List.Pairwise.imp (fun {a b} z e=>by subst e; exact Cr _ z) h
theorem Bs.pw {l:List Str} (h:Bs l):l.Pairwise fun a b=>¬ b.cps.toList < a.cps.toList:=List.Pairwise.imp (fun {a b} z=>aY z) h
theorem Gz {l:List Str} (h:l.Pairwise fun a b=>¬ b.cps.toList < a.cps.toList) (nd:l.Nodup):Bs l:=by
 induction l with
 | nil=>exact .nil
 | cons x l ih=>
  rw [ZQ] at h;rw [Zu] at nd;refine ZQ.mpr ⟨fun y hy=>?_,ih h.2 nd.2⟩;by_cases z:x.cps.toList < y.cps.toList
  ·exact z
  ·exact absurd (CJ (h.1 y hy) z) (fun e=>nd.1 (e ▸ hy))
theorem DZ:∀ {ss l:List Str},Bs ss->Bs l->(∀ s ∈ ss,s ∈ l)->ss.Sublist l
 | [],l,_,_,_=>aM _
 | x :: ss,[],_,_,h=>absurd (h x (by simp)) (by simp)
 | x :: ss,y :: l,h1,h2,h=>by
  have PQ:=ZQ.mp h1;have Sl:=ZQ.mp h2;by_cases e:x=y
  ·subst e;refine (DZ PQ.2 Sl.2 fun s hs=>?_).cons₂ _;rcases YM.mp (h s (Ze _ hs)) with rfl | z
   ·exact absurd (PQ.1 _ hs) (Cr _)
   ·exact z
  ·refine (DZ h1 Sl.2 fun s hs=>?_).cons _;rcases YM.mp (h s hs) with rfl | z
   ·have hx:=(YM.mp (h x (by simp))).resolve_left e;rcases YM.mp hs with rfl | hs
    ·exact absurd rfl e
    ·exact absurd (ak (PQ.1 _ hs) (Sl.1 _ hx)) (Cr _)
   ·exact z
theorem Bs.sub {ss l:List Str} (h:Bs l) (s:ss.Sublist l):Bs ss:=List.Pairwise.sublist s h
theorem Ea {ss Du:List Str} (nd:Du.Nodup) (mem:∀ k,k ∈ Du ↔ k ∈ ss) (srt:sortedS Du=true):Du=ss ↔ Bs ss:=
 ⟨fun e=>e ▸ Gz (C2 srt) nd,fun h=>Gw (C2 srt) h.pw (LO nd h.nodup mem)⟩
def tyD:PyData->String
 | .none=>"NoneType"
 | .bool _=>"bool"
 | .int _=>"int"
 | .str _=>"str"
 | .list _=>"list"
 | .tuple _=>"tuple"
 | .dict _=>"dict"
theorem Fx.ty {K:YL} {H:Hp} {v:V} {d:PyData} (h:Fx H v d):EO K H v (.type (tyD d)):=by
 cases h with
 | non=>exact .non
 | bl b=>exact .bl b
 | int i=>exact .int i
 | str x=>exact .str x
 | tup e _=>exact .tup e
 | lst e _=>exact .lst e
theorem Fx.notStr {K:YL} {H:Hp} {v:V} {d:PyData} (h:Fx H v d) (n:∀ s,d ≠ .str s):RV K H v:=by
 refine ⟨_,h.ty,?_⟩;cases d with
 | str s=>exact absurd rfl (n s)
 | _=>rfl
def NoTup (K:YL) (H:Hp) (v:V):Prop:=∃ ty,EO K H v ty/\bh K ty (.type "tuple")=some false
theorem Pq {X:Cx} (hu:X.A.units + 64 < cLine):Ey X (compareOp .In) (fun x y H Q=>∃ d ds,Fx H x d/\Fx H y (.list ds)/\d.canLay0=true/\PyData.canLayAll0 ds=true/\d.depth<=60/\Q (.bl (ds.any fun e=>PyData.eqv e d)) H):=by
 intro pins s σ H x y v u Q I rx ry h;obtain ⟨d,ds,h1,h2,c1,c2,hd,q⟩:=h;obtain ⟨as,r1⟩:=h1.reads I rx;obtain ⟨bs,r2⟩:=h2.reads I ry;exact SeqAt.in_list_reads r2 r1 c2 c1 (by have:=dv (PyData.depthAll ds) d.depth; lia) ⟨.bl _,H,I,rfl,q⟩
theorem Ml:∀ (ss:List Str) (ds:List PyData),PyData.eqvAll (ss.map PyData.str) ds=true ↔ ds=ss.map PyData.str
 | [],[]=>by simp [PyData.eqvAll]
 | [],d :: ds=>by simp [PyData.eqvAll]
 | x :: ss,[]=>by simp [PyData.eqvAll]
 | x :: ss,d :: ds=>by
  rw [Zb,PyData.eqvAll,Z3,Ml ss ds];constructor
  ·rintro ⟨h,rfl⟩;cases d with
   | str y=>
    rw [PyData.eqv] at h;rw [eq_of_beq h]
   | _=>rw [PyData.eqv] at h; cases h
  ·intro e;injection e with e1 e2;subst e1;refine ⟨?_,e2⟩;rw [PyData.eqv];simp
theorem Mm (ss:List Str) (ds:List PyData):PyData.eqv (.list (ss.map PyData.str)) (.list ds)=true ↔ ds=ss.map PyData.str:=by
 rw [PyData.eqv]; exact Ml ss ds
theorem AY.len {H:Hp}:∀ {xs:List V} {ds:List PyData},AY H xs ds->xs.length=ds.length
 | _,_,.nil=>rfl
 | _,_,.cons _ r=>congrArg (· + 1) r.len
theorem AY.at {H:Hp}:∀ {xs:List V} {ds:List PyData},AY H xs ds->∀ {i:Nat} {v:V},xs[i]? = some v->∃ d,ds[i]? = some d/\Fx H v d
 | _,_,.nil,i,v,e=>by simp at e
 | _,_,.cons h r,0,v,e=>by
  simp only [Z9,Zf.injEq] at e;subst e;exact ⟨_,rfl,h⟩
 | _,_,.cons h r,i + 1,v,e=>by
  simp only [ae] at e;obtain ⟨d,e1,e2⟩:=r.at e;exact ⟨d,by simpa using e1,e2⟩
theorem AY.txt {H:Hp}:∀ {xs:List V} {ss:List Str},AY H xs (ss.map PyData.str)->xs=ss.map V.str
 | xs,[],h=>by cases h; rfl
 | xs,x :: ss,h=>by
  cases h with
  | cons h1 h2=>
   cases h1
   rw [h2.txt];rfl
def Ho:PyData->Bool
 | .str s=>AQ s
 | _=>false
theorem G8:∀ {ds:List PyData},(ds.map Ho).all id=true->∃ ss:List Str,ds=ss.map PyData.str/\∀ s ∈ ss,AQ s=true
 | [],_=>⟨[],rfl,fun s hs=>nomatch hs⟩
 | d :: ds,h=>by
  rw [Zb,bA,Z3] at h;obtain ⟨ss,rfl,hn⟩:=G8 h.2;cases d with
  | str x=>exact ⟨x :: ss,rfl,fun s hs=>(YM.mp hs).elim (fun e=>e ▸ h.1) (hn s)⟩
  | _=>exact absurd (show false=true from h.1) (by decide)
theorem Kr {ss:List Str} (h:∀ s ∈ ss,AQ s=true):((ss.map PyData.str).map Ho).all id=true:=by
 rw [Zt,bI,ZT];exact fun s hs=>h s hs
theorem DU {ss Du:List Str} (h:ss.map PyData.str=Du.map PyData.str):ss=Du:=by
 induction ss generalizing Du with
 | nil=>cases Du with
  | nil=>rfl
  | cons _ _=>cases h
 | cons x ss ih=>cases Du with
  | nil=>cases h
  | cons y Du=>
   injection h with h1 h2;injection h1 with h1;rw [h1,ih h2]
theorem Bo.dats {H:Hp} {us:List V} {fs:List (List Str)} (h:Bo H us fs):AY H us (fs.map fun f=>PyData.tuple (f.map PyData.str)):=by
 induction h with
 | nil=>exact .nil
 | cons e _ ih=>exact .cons (.tup e (B0 H _)) ih
theorem IG:∀ {fs:List (List Str)},(∀ f ∈ fs,∀ s ∈ f,AQ s=true)->PyData.canLayAll0 (fs.map fun f=>PyData.tuple (f.map PyData.str))=true
 | [],_=>rfl
 | f :: fs,h=>by
  rw [Zb,PyData.canLayAll0,Z3,PyData.canLay0];exact ⟨CN (h f (by simp)),IG fun g hg=>h g (Ze _ hg)⟩
def LB (K:YL):Sp:=fun vs H Q _=>∃ (t:Addr) (xs:List V) (ds:List PyData),vs=[.ref t]/\(H t=some (.lst xs)\/H t=some (.tup xs))/\AY H xs ds/\(∀ s,PyData.str s ∈ ds->s.length<=1000)/\xs.length<=60 /\
 ∀ (b:Bool) (H':Hp),Av H H'->(b=true ↔ ∃ ss:List Str,ds=ss.map PyData.str/\(∀ s ∈ ss,AQ s=true)/\Bs ss)->Q (.bl b) H'
def RX (sites:List Str) (x:V) (ds:List PyData):Prop:=∃ ss:List Str,ds=ss.map PyData.str/\ss ≠ []/\ss.Sublist sites/\GA x ss.length=true
def O4 (H:Hp) (v:V) (ds:List PyData):Prop:=∃ (t:Addr) (xs:List V),v=.ref t/\H t=some (.tup xs)/\AY H xs ds/\(∀ s,PyData.str s ∈ ds->s.length<=1000)/\xs.length<=60
def QA (K:YL):Sp:=fun vs H Q _=>∃ (c:Addr) (sites:List Str) (x:V) (d:PyData) (v:V),vs=[.ref c,v]/\O8 H c sites x d/\Bs sites/\(∀ s ∈ sites,AQ s=true) /\
 ((∃ ds,O4 H v ds/\∀ (b:Bool) (H':Hp),Av H H'->(b=true ↔ RX sites x ds)->Q (.bl b) H')\/(NoTup K H v/\∀ H',Av H H'->Q (.bl false) H'))
end L2
namespace HT
open PySem PySem.Spec PyProof.Rows
section
variable {prog:Program} {w:World} {A:Around} {E:Value->Shared->Prop} {s:Shared}
end
end HT
namespace L2
open PySem PySem.Spec PyProof.Rows
section
variable {X:Cx} {Φ:St->Hp->Prop} {a b:Expr} {pos:Pos} {n m:Nat}
end
section
variable {Φ:St->Hp->Prop} {n:Nat}
end
theorem catA {K:YL} {H:Hp} {a b:Addr} {xs ys:List V} {Q:VK} (ha:H a=some (.tup xs)) (hb:H b=some (.tup ys)) (l:xs.length + ys.length<=sizeLine) (q:∀ T H',Av H H'->H' T=some (.tup (xs ++ ys))->Q (.ref T) H'):QT K (.ref a) (.ref b) H Q:=by
 refine ⟨a,b,xs,ys,rfl,rfl,AI.of ha,AI.of hb,l,fun e=>?_,fun _ e=>?_,fun _ _ T hT=>?_⟩
 ·refine q b H (Av.refl _) ?_;rw [hb,e];rfl
 ·refine q a H (Av.refl _) ?_;rw [ha,e,ZE]
 ·exact q T _ (Ad hT) Ab
end L2
namespace L2
open PySem PySem.Builtin.Str PySem.StrLaws
end L2
namespace L2
open PySem PySem.Spec PyProof.Rows PySem.NumText
theorem J9 {X:Cx}:Bd X (.type "int") (fun xs H Q=>∃ (x:Str) (n:Int),xs=[.str x]/\PySem.intText? x=some n/\x.length<=640/\Q (.int n) H):=by
 intro pins s σ H xs us Q I r h;obtain ⟨x,n,rfl,e,l,q⟩:=h;obtain ⟨u,rfl,t,rfl⟩:=BZ r;exact PySem.W.KIN.call_text e l ⟨.int n,H,I.tok _,⟨_,rfl⟩,q⟩
end L2
namespace L2
open PySem PySem.Spec PyProof.Rows
theorem Ro {s:Str} (h:AQ s=true):s.length<=10:=by
 obtain ⟨_,l,_⟩:=MT h;lia
section
variable {prog:Program} {w:World} {A:Around} {E:Value->Shared->Prop} {s:Shared}
end
section
variable {prog:Program} {w:World} {A:Around} {E:Value->Shared->Prop} {s:Shared}
end
end L2
namespace HT
open PySem PySem.Spec PyProof.Rows
section
variable {prog:Program} {w:World} {A:Around} {E:Value->Shared->Prop} {s:Shared}
end
end HT
namespace L2
open PySem PySem.Spec PyProof.Rows
theorem O4.strs {H:Hp} {o:Addr} {ss:List Str} (ho:H o=some (.tup (ss.map V.str))) (l:ss.length<=60) (sh:∀ s ∈ ss,s.length<=1000):O4 H (.ref o) (ss.map PyData.str):=by
 refine ⟨o,_,rfl,ho,B0 H ss,fun s hs=>?_,by rw [YI]; exact l⟩;obtain ⟨y,hy,e⟩:=YT.mp hs;cases e
 exact sh _ hy
theorem G2 (K:YL) {X:Cx} (h:X.K=K):Ey X (compareOp .NotIn) (fun x y H Q=>∃ p xs,y=.ref p/\(AD K H p xs\/AI K H p xs)/\ED x=true/\xs.all ED=true/\Q (.bl (!inV x xs)) H):=by subst h; exact KL
def K3:Sp:=fun vs H Q _=>∃ (c:Addr) (sites:List Str) (x:V) (d:PyData),vs=[.ref c]/\O8 H c sites x d/\sites.length<=6 /\
 ∀ (H':Hp) (D:Addr) (us:List V) (os:List (List Str)),Av H H'->H D=none->H' D=some (.lst us)->Bo H' us os->My sites x os->os.length<=1024->Q (.ref D) H'
section
variable {H:Hp} {c m o t T:Addr} {n:Nat} {xs:List Str} {ws:List AA} {rs1 Au:List BS} {x:V} {d:PyData} {ss:List Str} {zs:List (Str × Str)} {qs:List BS} {lv:Int}
end
def KG (a:Addr) (i l:Int):List V:=[.ref a,.int i,.int l]
theorem NV (a:Addr) (i l:Int):JA (KG a i l) 0=some (.ref a):=rfl
theorem pn5_1 (a:Addr) (i l:Int):JA (KG a i l) 1=some (.int i):=rfl
theorem QY (a:Addr) (i l:Int):JA (KG a i l) 2=some (.int l):=rfl
def Eo (K:YL) (H:Hp) (p:Addr):Prop:=∃ (a:Addr) (ns:List Int) (i l:Int),H p=some (.lst (KG a i l))/\Nr K H a (ns.map V.int)/\ns.length<=63/\0<=i/\0<=l
theorem Eo.ne {K:YL} {H:Hp} {p q:Addr} (h:Eo K H p) (e:H q=none):q ≠ p:=by
 obtain ⟨a,ns,i,l,h,_⟩:=h;intro z; subst z; rw [h] at e; cases e
theorem Nr.keep {K:YL} {H H':Hp} {a p:Addr} {xs:List V} {ys:List V} (h:Nr K H a xs) (hp:H p=some (.lst ys)) (k:AX p H H'):Nr K H' a xs:=by
 rcases h with ⟨ob,h⟩ | h
 ·refine .inl ⟨ob,k _ _ (fun z=>?_) h⟩;subst z;rw [hp] at h;cases h
 ·exact .inr h
theorem Eo.same {K:YL} {H H':Hp} {p:Addr} (h:Eo K H p) (s:Av H H'):Eo K H' p:=by
 obtain ⟨a,ns,i,l,h,sc,r⟩:=h;exact ⟨a,ns,i,l,s _ _ h,sc.keep h (AX.of_same s),r⟩
theorem Eo.other {K:YL} {H:Hp} {p D:Addr} {ys zs:List V} (h:Eo K H p) (hD:H D=some (.lst ys)) (ne:D ≠ p):Eo K (upd H D (.lst zs)) p:=by
 obtain ⟨a,ns,i,l,h,sc,r⟩:=h;refine ⟨a,ns,i,l,by rw [Ae ne.symm]; exact h,?_,r⟩;rcases sc with ⟨ob,h'⟩ | h'
 ·refine .inl ⟨ob,?_⟩;rw [Ae (by intro z; subst z; rw [hD] at h'; cases h')];exact h'
 ·exact .inr h'
theorem Eo.put {K:YL} {H:Hp} {p a:Addr} {ns:List Int} {i l i' l':Int} (hp:H p=some (.lst (KG a i l))) (sc:Nr K H a (ns.map V.int)) (ln:ns.length<=63) (i0:0<=i') (l0:0<=l'):Eo K (upd H p (.lst (KG a i' l'))) p:=
 ⟨a,ns,i',l',Ab,sc.keep hp AX.upd,ln,i0,l0⟩
theorem GY {K:YL} {H H':Hp} {p:Addr} (hP:Eo K H p) (k:AX p H H'):∀ b ys,H b=some (.tup ys)->H' b=some (.tup ys):=fun b ys z=>k b _ (by
 obtain ⟨_,_,_,_,q,_⟩:=hP;exact Bz z q (fun y=>by cases y)) z
def DV (K:YL):Sp:=fun vs H Q _=>∃ (p:Addr) (m:Int),vs=[.ref p,.int m]/\Eo K H p/\0 < m/\m < 1073741824/\∀ (d:Int) (H':Hp),Eo K H' p->AX p H H'->0<=d->d < m->Q (.int d) H'
def MG (K:YL):Sp:=fun vs H Q _=>∃ p:Addr,vs=[.ref p]/\Eo K H p/\∀ (d:Int) (H':Hp),Eo K H' p->AX p H H'->1<=d->d < 10 ^ 30->Q (.int d) H'
def LD (K:YL):Sp:=fun vs H Q _=>∃ (p:Addr) (n:Nat),vs=[.ref p,.int n]/\Eo K H p/\n<=26 /\
 ∀ (H':Hp) (D:Addr) (xs:List Str),Eo K H' p->AX p H H'->H D=none->H' D=some (.lst (xs.map V.str))->xs.length=n->xs.Nodup->(∀ x ∈ xs,AQ x=true)->Q (.ref D) H'
def ND (K:YL):Sp:=fun vs H Q _=>∃ (p e:Addr) (xs:List Str) (m:Nat),vs=[.ref p,.ref e,.int m]/\Eo K H p/\H e=some (.lst (xs.map V.str))/\e ≠ p/\xs.length<=30/\m<=xs.length /\
 ∀ (H':Hp) (D:Addr) (ys zs:List Str),Eo K H' p->AX p H H'->H D=none->H' D=some (.lst (ys.map V.str))->(ys ++ zs).Perm xs->ys.length=m->sortedS ys=true->Q (.ref D) H'
def JC:Nat->Str
 | 0=>Str.empty
 | n + 1=>⟨(Array.replicate (n + 1) 48)⟩
theorem Ot:∀ k:Fin 30,PySem.intText? (Str.ofString "1" ++ JC k.1)=some (10 ^ k.1)/\(JC k.1).length=k.1:=by decide +kernel
theorem Q0:∀ k:Fin 30,1<=(10:Int) ^ k.1/\(10:Int) ^ k.1 + 10<=10 ^ 30:=by decide +kernel
theorem Qq:∀ k:Fin 30,(⟨(dw k.1 (Str.ofString "0").cps).foldl (· ++ ·) #[]⟩:Str)=JC k.1:=by decide +kernel
theorem SU {X:Cx}:Ey X (binaryOp .Mult) (fun x y H Q=>∃ n:Nat,x=.str (Str.ofString "0")/\y=.int n/\n < 30/\Q (.str (JC n)) H):=by
 intro pins s σ H x y v u Q I rx ry h;obtain ⟨n,rfl,rfl,hn,q⟩:=h;obtain ⟨t,rfl⟩:=rx;obtain ⟨t',rfl⟩:=ry;have big:1000<=sizeLine:=by decide
 match n,hn,q with
 | 0,_,q=>exact PySem.P.mul_str_none (by decide) (by decide) ⟨.str Str.empty,H,I.tok _,⟨_,rfl⟩,q⟩
 | 1,_,q=>
  refine PySem.P.mul_str (by decide) (fun _ z=>by simp at z) (fun _ z=>by simp at z) ?_;rw [if_neg (by decide),if_pos (by simp)];exact ⟨.str _,H,I,⟨_,rfl⟩,by rw [show Str.ofString "0"=JC 1 by decide +kernel]; exact q⟩
 | n + 2,hn,q=>
  have l1:(Str.ofString "0").length=1:=by decide +kernel
  have e:((n + 2:Nat):Int).toNat=n + 2:=rfl;refine PySem.P.mul_str (by rw [decide_eq_false (by lia),decide_eq_false (by lia)]; rfl) (fun _ _=>?_) (fun _ _=>?_) ?_
  ·rw [l1];have:(1:Int)<=(2 ^ 63 - 1) / ((n + 2:Nat):Int):=by
    rw [Int.le_ediv_iff_mul_le (by lia)];lia
   lia
  ·rw [l1,e];exact decide_eq_false (by show ¬ _; lia)
  ·rw [if_neg (by lia),if_neg (by rw [l1]; simp; lia),e,Qq ⟨n + 2,hn⟩];refine ⟨?_,⟨.str _,H,I.tok _,⟨_,rfl⟩,q⟩⟩;have:=(Ot ⟨n + 2,hn⟩).2;lia
theorem Hl {α β:Type} (f:α->β) {m out:List β} (p:m.Perm out):∀ xs:List α,m=xs.map f->∃ ys:List α,ys.Perm xs/\out=ys.map f:=by
 induction p with
 | nil=>
  intro xs e;cases xs with
  | nil=>exact ⟨[],.nil,rfl⟩
  | cons a xs=>cases e
 | cons a p ih=>
  intro xs e;cases xs with
  | nil=>cases e
  | cons b xs=>
   simp only [Zb,aT.injEq] at e;obtain ⟨ys,h1,rfl⟩:=ih xs e.2;exact ⟨b :: ys,h1.cons b,by rw [e.1]; rfl⟩
 | swap a b l=>
  intro xs e;match xs,e with
  | [],e=>cases e
  | [_],e=>cases e
  | x :: y :: xs,e=>
   simp only [Zb,aT.injEq] at e;exact ⟨y :: x :: xs,.swap _ _ _,by rw [e.1,e.2.1,e.2.2]; rfl⟩
 | trans p q Wi Wh=>
  intro xs e;obtain ⟨ys,h1,e1⟩:=Wi xs e;obtain ⟨zs,h2,e2⟩:=Wh ys e1;exact ⟨zs,h2.trans h1,e2⟩
theorem DR {X:Cx}:Bd X (.builtin "sorted") (fun xs H Q=>∃ (t:Addr) (x y:Str),xs=[.ref t]/\H t=some (.lst [.str x,.str y])/\∀ l,H l=none->Q (.ref l) (upd H l (.lst [.str (BP x y),.str (BQ x y)]))):=by
 intro pins s σ H xs us Q I r h;obtain ⟨t,x,y,rfl,ht,q⟩:=h;refine BX (pins:=pins) s σ H _ us Q I r ⟨t,[x,y],rfl,AD.of ht,by show 2 < 64; decide,fun l Du hl pm so=>?_⟩;have len:=pm.length_eq;match Du,len with
 | [a,b],_=>
  obtain ⟨rfl,rfl⟩:=MB pm so;exact q l hl
def DP (u:AA):List A7:=[.inr (BP u.1 u.2.1),.inr (BQ u.1 u.2.1)]
def PB (u:AA):List A7 × V:=(DP u,.int u.2.2)
theorem IH {u v:AA} (e:DP u=DP v):DS u v:=by
 unfold DP at e;simp only [aT.injEq,Sum.inr.injEq,and_true] at e;obtain ⟨e1,e2⟩:=e;unfold BP at e1;unfold BQ at e2;by_cases a:u.2.1.cps.toList < u.1.cps.toList <;> by_cases b:v.2.1.cps.toList < v.1.cps.toList
 ·rw [if_pos a,if_pos b] at e1;rw [if_neg (fun z=>Cr _ (ak a z)),if_neg (fun z=>Cr _ (ak b z))] at e2;exact .inl ⟨e2,e1⟩
 ·rw [if_pos a,if_neg b] at e1;rw [if_neg (fun z=>Cr _ (ak a z))] at e2;by_cases c:v.1.cps.toList < v.2.1.cps.toList
  ·rw [if_pos c] at e2;exact .inr ⟨e2,e1⟩
  ·rw [if_neg c] at e2;rw [e1,e2] at a;exact absurd a (Cr _)
 ·rw [if_neg a,if_pos b] at e1;rw [if_neg (fun z=>Cr _ (ak b z))] at e2;by_cases c:u.1.cps.toList < u.2.1.cps.toList
  ·rw [if_pos c] at e2;exact .inr ⟨e1,e2⟩
  ·rw [if_neg c] at e2;rw [<-e1,<-e2] at b;exact absurd b (Cr _)
 ·rw [if_neg a,if_neg b] at e1;by_cases c:u.1.cps.toList < u.2.1.cps.toList <;> by_cases d:v.1.cps.toList < v.2.1.cps.toList
  ·rw [if_pos c,if_pos d] at e2;exact .inl ⟨e1,e2⟩
  ·rw [if_pos c,if_neg d] at e2;rw [e1,e2] at c;exact absurd c (Cr _)
  ·rw [if_neg c,if_pos d] at e2;rw [<-e1,<-e2] at d;exact absurd d (Cr _)
  ·exact .inl ⟨e1,by rw [<-CJ a c,e1]; exact CJ b d⟩
theorem NU {us:List AA} {x:AA} (no:∀ u ∈ us,¬ DS u x):Bg (us.map PB) (DP x) (.int x.2.2)=(us ++ [x]).map PB:=by
 unfold Bg;rw [if_neg,YY]
 ·rfl
 ·intro z;obtain ⟨q,hq,e⟩:=ab.mp z;obtain ⟨u,hu,rfl⟩:=YT.mp hq;exact no u hu (IH (of_decide_eq_true e))
theorem valW {us:List AA} (sep:us.Pairwise fun u v=>¬ DS u v) {u:AA} (hu:u ∈ us):Bu (us.map PB) (DP u)=some (.int u.2.2):=by
 obtain ⟨v',h1,h2⟩:=Lz (aP (f:=PB) hu);rw [show Bu (us.map PB) (DP u)=Bu (us.map PB) (PB u).1 from rfl];have e1:(PB u).1=DP u:=rfl;obtain ⟨w,hw,e⟩:=YT.mp h2;have ek:DP w=DP u:=congrArg Prod.fst e;have ev:V.int w.2.2=v':=congrArg Prod.snd e;have al:=IH ek;have same:w=u:=by
  by_cases z:w=u
  ·exact z
  ·obtain ⟨i,hi⟩:=ZY hw;obtain ⟨j,hj⟩:=ZY hu;obtain ⟨Qm,ei⟩:=YQ.mp hi;obtain ⟨J3,ej⟩:=YQ.mp hj;rcases dj i j with l | l | l
   ·exact absurd (by rw [ei,ej]; exact al) (ZH.mp sep i j Qm J3 l)
   ·subst l;rw [ei] at ej;exact absurd ej z
   ·refine absurd ?_ (ZH.mp sep j i J3 Qm l);rw [ei,ej];rcases al with ⟨a,b⟩ | ⟨a,b⟩
    ·exact .inl ⟨a.symm,b.symm⟩
    ·exact .inr ⟨b.symm,a.symm⟩
 subst same;rw [<-ev] at h1;exact h1
theorem Sx {us:List AA} {x:AA} (h:(Bu (us.map PB) (DP x)).isSome=false):∀ u ∈ us,¬ DS u x:=by
 intro u hu al;have ek:DP u=DP x:=by
  unfold DP;rcases al with ⟨a,b⟩ | ⟨a,b⟩
  ·rw [a,b]
  ·rw [a,b,JZ,Ka]
 obtain ⟨v',h1,_⟩:=Lz (aP (f:=PB) hu);have h2:Bu (us.map PB) (DP u)=some v':=h1;rw [ek] at h2;rw [h2] at h;cases h
theorem Eo.dict {K:YL} {H:Hp} {p D:Addr} {ys zs:List (List A7 × V)} (h:Eo K H p) (hD:H D=some (.dT ys)):Eo K (upd H D (.dT zs)) p:=by
 obtain ⟨a,ns,i,l,h,sc,r⟩:=h;refine ⟨a,ns,i,l,by rw [Ae (Bz h hD (fun z=>by cases z))]; exact h,?_,r⟩;rcases sc with ⟨ob,h'⟩ | h'
 ·refine .inl ⟨ob,?_⟩;rw [Ae (Bz h' hD (fun z=>by cases z))];exact h'
 ·exact .inr h'
structure M5 (K:YL) (H H':Hp) (p e W:Addr) (xs:List Str) (us:List AA):Prop where
 pn:Eo K H' p
 he:H' e=some (.lst (xs.map V.str))
 hw:H' W=some (.dT (us.map PB))
 kp:AX p H H'
 ne:e ≠ p
 nw:W ≠ p
 fw:H W=none
theorem M5.step {K:YL} {H H' Nx:Hp} {p e W:Addr} {xs:List Str} {us:List AA} (h:M5 K H H' p e W xs us) (P:Eo K Nx p) (k:AX p H' Nx):M5 K H Nx p e W xs us:=
 ⟨P,k _ _ h.ne h.he,k _ _ h.nw h.hw,h.kp.trans k,h.ne,h.nw,h.fw⟩
theorem M5.add {K:YL} {H H':Hp} {p e W q:Addr} {xs:List Str} {us:List AA} (h:M5 K H H' p e W xs us) (hq:H' q=none) (o:HO):M5 K H (upd H' q o) p e W xs us:=
 h.step (h.pn.same (Ad hq)) (AX.of_same (Ad hq))
theorem M5.put {K:YL} {H H':Hp} {p e W:Addr} {xs:List Str} {us:List AA} (h:M5 K H H' p e W xs us) (Ky:List AA):M5 K H (upd H' W (.dT (Ky.map PB))) p e W xs Ky:=
 ⟨h.pn.dict h.hw,by rw [Ae (Bz h.he h.hw (fun z=>by cases z))]; exact h.he,Ab,fun b o hb z=>by rw [Ae (Ag z h.fw)]; exact h.kp b o hb z,h.ne,h.nw,h.fw⟩
theorem UU {xs:List Str} {k:Nat} {ws:List AA} (h:HJ xs k ws) (hn:xs.Nodup) {x y:Str} {n:Int} (hy:xs[k]? = some y):∀ u ∈ ws,¬ DS u (x,y,n):=by
 intro u hu al;obtain ⟨i,j,a,b,c,d,_⟩:=h.of u hu;rcases al with ⟨_,e⟩ | ⟨e,_⟩
 ·have e':u.2.1=y:=e;rw [e'] at d;have:=F3 hn d hy;lia
 ·have e':u.1=y:=e;rw [e'] at c;have:=F3 hn c hy;lia
theorem Qz {xs:List Str} {k:Nat} {ws:List AA} (h:HJ xs k ws) (hn:xs.Nodup) {x y:Str} {n:Int} {i:Nat} (hi:i < k) (hx:xs[i]? = some x) (hy:xs[k]? = some y) (n1:1<=n):HJ xs (k + 1) (ws ++ [(x,y,n)]):=
 h.more hn (YQ.mp hy).1 [i] (by simp) (by intro z hz; rw [Zc.mp hz]; exact hi) (by simp) rfl (fun q u j e1 e2=>by
  cases q with
  | zero=>
   simp at e1 e2;subst e1 e2;exact ⟨hx,hy,n1⟩
  | succ q=>simp at e2)
theorem O9 {xs:List Str} {us:List AA} {x y:Str} {n:Int} (h:Fw xs us) (hx:x ∈ xs) (hy:y ∈ xs) (ne:x ≠ y) (hn:1<=n) (no:∀ u ∈ us,¬ DS u (x,y,n)):Fw xs (us ++ [(x,y,n)]):=by
 refine h.snoc hx hy ne hn fun u hu ⟨a,b⟩=>no u hu ?_
 have uu:=(h.1 u hu).2.2.1;rcases a with a | a <;> rcases b with b | b
 ·exact absurd (a.trans b.symm) ne
 ·exact .inl ⟨a.symm,b.symm⟩
 ·exact .inr ⟨b.symm,a.symm⟩
 ·exact absurd (a.trans b.symm) ne
def Q9 (K:YL):Sp:=fun vs H Q _=>∃ (p e:Addr) (xs:List Str) (sh:Int),vs=[.ref p,.ref e,.int sh]/\Eo K H p/\H e=some (.lst (xs.map V.str))/\e ≠ p/\xs.Nodup/\(∀ x ∈ xs,AQ x=true)/\1<=xs.length/\xs.length<=26/\0<=sh/\sh < 4 /\
 ∀ (H':Hp) (m:Addr) (ps:List Str) (ws:List AA),Eo K H' p->AX p H H'->ps.Perm xs->HK H' m xs.length ps ws->Q (.ref m) H'
structure R5 (K:YL) (H0 H':Hp) (p R:Addr) (rs:List BS) (vs:List V):Prop where
 pn:Eo K H' p
 kp:∀ b o,b ≠ p->b ≠ R->H0 b=some o->H' b=some o
 hR:H' R=some (.lst vs)
 dd:AY H' vs (rs.map Gy)
 nR:R ≠ p
theorem R5.step {K:YL} {H0 H' Nx:Hp} {p R:Addr} {rs:List BS} {vs:List V} (h:R5 K H0 H' p R rs vs) (P:Eo K Nx p) (k:AX p H' Nx):R5 K H0 Nx p R rs vs:=
 ⟨P,fun b o hb Fu z=>k b o hb (h.kp b o hb Fu z),k _ _ h.nR h.hR,Cf h.dd (GY h.pn k),h.nR⟩
theorem R5.add {K:YL} {H0 H':Hp} {p R q:Addr} {rs:List BS} {vs:List V} (h:R5 K H0 H' p R rs vs) (hq:H' q=none) (o:HO):R5 K H0 (upd H' q o) p R rs vs:=
 h.step (h.pn.same (Ad hq)) (AX.of_same (Ad hq))
theorem R5.app {K:YL} {H0 H':Hp} {p R T:Addr} {rs:List BS} {vs:List V} {y:Str} {l:Int} (h:R5 K H0 H' p R rs vs) (hT:H' T=some (.tup [.str y,.int l])):R5 K H0 (upd H' R (.lst (vs ++ [.ref T]))) p R (rs ++ [(y,l)]) (vs ++ [.ref T]):=by
 refine ⟨h.pn.other h.hR h.nR,fun b o hb Fu z=>by rw [Ae Fu]; exact h.kp b o hb Fu z,Ab,?_,h.nR⟩;rw [YY];refine Gi (Cf h.dd fun b ys e=>?_) (.cons (NO (u:=(y,l)) (by rw [Ae (Bz hT h.hR (fun z=>by cases z))]; exact hT)) .nil);rw [Ae (Bz e h.hR (fun z=>by cases z))];exact e
theorem FR {xs ys zs:List Str} {rs:List BS} {lo:Int} (pm:(ys ++ zs).Perm xs) (nd:xs.Nodup) (rt:rs.map (·.1)=ys) (rl:∀ r ∈ rs,lo<=r.2/\r.2 < 10 ^ 30) (one:1<=rs.length) {ps:List Str} (pp:ps.Perm xs):GV ps lo rs:=
 ⟨fun r hr=>pp.mem_iff.mpr (pm.mem_iff.mp (ZN _ (by rw [<-rt]; exact aP hr))),by rw [rt]; exact (Z4.mp (pm.nodup_iff.mpr nd)).1,rl,one⟩
structure Case5 (H:Hp) (c m:Addr) (n:Nat) (xs:List Str) (ws:List AA) (rs1 Au:List BS) (x:V) (d:PyData):Prop where
 cw:Cm H c m n xs ws rs1 Au x d
 n9:n<=9
 l6:rs1.length<=6
 l8:Au.length<=8
 so1:sortedS (rs1.map (·.1))=true
 so2:sortedS (Au.map (·.1))=true
def NG (K:YL):Sp:=fun vs H Q _=>∃ (p:Addr) (sh:Int),vs=[.ref p,.int sh]/\Eo K H p/\0<=sh/\sh < 4 /\
 ∀ (H':Hp) (c m:Addr) (n:Nat) (xs:List Str) (ws:List AA) (rs1 Au:List BS) (x:V) (d:PyData),Eo K H' p->AX p H H'->Case5 H' c m n xs ws rs1 Au x d->Q (.ref c) H'
section
open PySem.SeqAt
open PySem.AutoSeq1 (wpAny_loadPart')
open PySem.MeetsSeq PySem.MeetsSeq2 PySem.MeetsSeq3
end
section
variable {X:Cx} {pins:List (Addr × Obj)} {σ:St} {H:Hp} {s:Shared}
end
section
variable {prog:Program} {w:World} {A:Around} {R:Result->Shared->Prop} {I:Addr} {fp wr:List Addr} {n:Nat} {P:Nat->Value->Prop} {St:Nat->Heap->Prop} {g0:Heap} {kw:List (Str × Value)}
end
section
variable {prog:Program} {w:World} {A:Around} {E:Value->Shared->Prop} {s:Shared}
end
theorem Nm {X:Cx} {pins:List (Addr × Obj)} {σ:St} {H:Hp} {s:Shared} {a b:Addr} {k:List A7} {v:V} {u r:Value} {kvs:List (List A7 × V)} {A:Around} {E:Value->Shared->Prop} {Q:Unit->Shared->Prop} (hu:A.units + 1 < cLine) (I:An X pins σ H s) (e:H a=some (.dT kvs)) (eb:H b=some (.tup (k.map kV))) (l:kvs.length < sizeLine) (ry:A1 (.ref b) u) (rv:A1 v r)
  (h:∀ s',An X pins σ (upd H a (.dT (Bg kvs k v))) s'->Q () s'):wpAny (model X.prog X.w) A (dictSet a u r) Q E s:=by
 cases (show u=Value.ref b from ry)
 obtain ⟨z,hd,xs,rel,dd⟩:=Us I.hok e;have hz:xs.length<=sizeLine:=by rw [<-Paired.length rel]; exact z
 have hl:(Bg kvs k v).length<=sizeLine:=by have:=CM kvs k v; lia
 refine wpAny_dictSet_heap (hsz:=hz) (show _ from (show A.units < cLine by lia)) (F6 I.hok eb) dd fun h' M3 hs=>h _ ?_
 obtain ⟨q,es,ep,hq,h2,h3,h4,_,h5⟩:=M3;refine Gj I (by rw [e]; exact True.intro) hs ⟨q,hq⟩ ⟨hl,hd,_,(rel.put k eb rv).keeps fun c ys ec=>?_,q,es,ep,hq,h2,h3,h4,h5⟩;rw [Ae (Bz ec e (fun z=>nomatch z))];exact ec
def S6 (wi:TI) (g:TG) (tt:TT) (tk tv:TE) (σ0:St->St):TE:=fun σ H Q=>wi σ H fun J H1=>∀ D,H1 D=none->∃ W:Nat->Nat->St->Hp->Prop,(∃ m,W 0 m (σ0 σ) (upd H1 D (.dT []))) /\
 ∀ i m Aw H',W i m Aw H'->(J.stop i H'/\Q (.ref D) H')\/(J.go i H'/\∀ x H2,J.yld i H' x H2->g x Aw H2 fun Az H3=>tt Az H3 fun b H4=>
  if b=true then tk Az H4 (fun y H5=>tv Az H5 fun v H6=>∃ kvs k b,y=.ref b/\H6 b=some (.tup (k.map kV))/\H6 D=some (.dT kvs)/\kvs.length < sizeLine/\∃ m',m' < m/\W (i + 1) m' Az (upd H6 D (.dT (Bg kvs k v)))) else ∃ m',m' < m/\W (i + 1) m' Az H4)
theorem JU {X:Cx} {tg iter kx vx:Expr} {ifs:List Expr} {scope:Scope} {cl:List (Str × Addr)} {N:List Str} {pos:Pos} {wi:TI} {g:TG} {tt:TT} {tk tv:TE} {σ0:St->St} (hc:X.calm=true) (hu:X.A.units + 1 < cLine) (co:A6 X scope cl)
  (hσ:∀ σ,σ.length=X.N.length->AH X cl scope N σ (σ0 σ)) (hi:PI X tg iter wi)
  (hb:∀ s2 H C fp,PG (Ao X scope cl N s2 H C fp) tg g/\Ux (Ao X scope cl N s2 H C fp) ifs tt/\PE (Ao X scope cl N s2 H C fp) kx tk/\PE (Ao X scope cl N s2 H C fp) vx tv)
  (hs:∀ x,foldedSetIterable iter X.env x=pure x:=by intro _; rfl):PE X (.DictComp kx vx [⟨tg,iter,ifs,0⟩] scope pos) (S6 wi g tt tk tv σ0):=by
 intro pins s σ H Q I h;rw [arm_eval_DictComp];refine wpAny_comprehension_free (use:=none) rfl hs co.clos co.kind co.names (wpAny_mono (hi (pins:=pins) s σ H _ I h) (fun xv s1 h1=>wpAny_mono h1 (fun itv s2 h2=>?_) fun _ _ e=>e) fun _ _ e=>e);obtain ⟨it,fp,tn,J,H2,rfl,I2,T,Ff,f2,hW⟩:=h2;refine wpAny_newObj_type (wpAny_newFunctionEnv co.cell (by intro y hy; cases hy) (fun h₁ Br AZ=>?_) co.kind);dsimp only at Br AZ ⊢;generalize IQ:s2.heap.push { cls:=.type "dict",dict:=none,data:=.dict #[] } = HH at Br AZ ⊢;have Bn:HH.objs.size=s2.heap.objs.size + 1:=by rw [<-IQ,Z6]
 have old:∀ b o,s2.heap.get? b=some o->h₁.get? b=some o:=fun b o e=>
  AZ.extBut b o (YX (by rw [Bn]; exact Zq (YV e))) (YK _ (IQ ▸ YK _ e))
 have newD:A5 X.prog X.w (upd H2 s2.heap.objs.size (.dT [])) h₁ s2.heap.objs.size (.dT []):=
  let ⟨z,hd,vs,rel,o,es,ep,ho,r⟩:=Mp (P:=X.prog) (w:=X.w) (H:=upd H2 s2.heap.objs.size (.dT [])) s2.heap I2.big
  ⟨z,hd,vs,rel,o,es,ep,AZ.extBut _ _ (YX (by rw [Bn]; exact Zw _)) (YK _ (IQ ▸ ho)),r⟩
 obtain ⟨W,⟨m0,w0⟩,turn⟩:=hW s2.heap.objs.size I2.fresh;have hfo:∀ b ∈ fp,∃ o,s2.heap.get? b=some o:=fun b hb=>let ⟨o,e,_⟩:=T.obj _ _ Ff b hb; ⟨o,e⟩
 have I3:An (Ao X scope cl N s2 H2 HH.objs.size fp) [] (σ0 σ) (upd H2 s2.heap.objs.size (.dT [])) { s2 with heap:=h₁,toks:=s2.toks + ([]:List (Str × Value)).length }:=
  EI I2 f2 hfo co (hσ σ I.len) old (YO _) (by rw [Bn]; exact Z0 _) (ZD (by rw [Bn]; exact Zw _)) newD Br
 have fC:s2.heap.objs.size<=HH.objs.size:=by rw [Bn]; exact Z0 _
 obtain ⟨hg,ht,hk,hv⟩:=hb s2 H2 HH.objs.size fp;have loop:∀ BU:Shared,BU = { s2 with heap:=h₁,toks:=s2.toks + ([]:List (Str × Value)).length } ->
   codeAny (model X.prog X.w) X.A (.compLoop (.DictComp kx vx [⟨tg,iter,ifs,0⟩] scope pos) 0 (.ref it) (.ref s2.heap.objs.size) (compEnvC scope cl HH.objs.size X.env))
    (compPost (model X.prog X.w) X.A X.xe none (EP X pins σ Q) (.ref s2.heap.objs.size) HH.objs.size) BU:=by
  rintro BU rfl;have stat:∀ {H':Hp} ,(∀ b ∈ fp,H' b=none)->∀ b ∈ fp,DG (Ao X scope cl N s2 H2 HH.objs.size fp) [] H' b:=fun hn b hb=>by
   refine ⟨hn b hb,?_,?_,.inl hb,?_,fun p hp=>by cases hp⟩
   ·obtain ⟨o,e⟩:=hfo b hb;exact YX (show b < HH.objs.size by rw [Bn]; exact Zq (YV e))
   ·intro hz;obtain ⟨_,q1,q2,_⟩:=f2 b hb;rcases YM.mp (I2.stkSub b hz) with e | e
    ·exact q1 e
    ·exact q2 e
   ·exact fun x c e=>(f2 b hb).2.2.2.2.1 x c (co.sub x c e)
  refine BF (fun n s'=>∃ i Aw H',An (Ao X scope cl N s2 H2 HH.objs.size fp) [] Aw H' s'/\tn i s'.heap/\(∀ b ∈ fp,H' b=none)/\W i n Aw H') ?_ m0
   ⟨0,σ0 σ,_,I3,T.keep _ _ _ Ff fun b hb o e=>old b o e,fun b hb=>?_,w0⟩
  ·rintro n s4 ⟨i,FF,H4,I4,LA,Mk,w4⟩;rcases turn i n FF H4 w4 with ⟨stop,qn⟩ | ⟨go,step⟩
   ·refine wpAny_mono (T.done (Ao X scope cl N s2 H2 HH.objs.size fp) rfl rfl rfl hc i [] s4 FF H4 (fun _ _=>False) I4 (stat Mk) LA stop) (fun r s5 ⟨hr,I5⟩=>?_) fun _ _ z=>z.elim
    subst hr;obtain ⟨m5,R4,_⟩:=id I5.loc;exact ⟨m5,R4,fun h' Mh=>⟨.ref _,H4,EJ I2 f2 fC I5 Mh,rfl,qn⟩⟩
   ·refine wpAny_mono (T.item (Ao X scope cl N s2 H2 HH.objs.size fp) rfl rfl rfl hc i [] s4 FF H4 (fun _ _=>False) I4 (stat Mk) LA go) (fun r s5 ⟨u,hr,h5⟩=>?_) fun _ _ z=>z.elim
    subst hr;refine wpAny_mono h5 (fun _ s6 ⟨x,H6,I6,r6,y6,HZ,RE⟩=>?_) fun _ _ z=>z.elim
    have RY:=I6.pinned (stat RE) (T.obj _ _ HZ);refine wpAny_mono (hg s6 FF H6 x u _ RY r6 (step x H6 y6)) (fun _ s7 ⟨Er,H7,I7,q7⟩=>?_) fun _ _ z=>z.elim
    refine wpAny_mono (ht s7 Er H7 _ I7 q7) (fun ok s8 ⟨H8,I8,q8⟩=>?_) fun _ _ z=>z.elim
    have again:∀ {s9:Shared} {FE:St} {H9:Hp} ,An (Ao X scope cl N s2 H2 HH.objs.size fp) ([] ++ DA fp s6.heap) FE H9 s9->(∃ m',m' < n/\W (i + 1) m' FE H9)->∃ m,m < n/\∃ i Aw H',An (Ao X scope cl N s2 H2 HH.objs.size fp) [] Aw H' s9/\tn i s9.heap/\(∀ b ∈ fp,H' b=none)/\W i m Aw H':=fun {s9 FE H9} I9 n9=>by
     obtain ⟨m',hm,w9⟩:=n9;refine ⟨m',hm,i + 1,FE,H9,I9.unpinned,T.keep _ _ _ HZ fun b hb o e=>(I9.pin (b,o) (Za _ (Za _ (AR hb e)))).1,fun b hb=>?_,w9⟩;obtain ⟨o,e,d⟩:=T.obj _ _ HZ b hb;exact (I9.pin (b,o) (Za _ (Za _ (AR hb e)))).2.1
    cases ok with
    | false=>
     rw [if_neg Zd] at q8 ⊢;exact again I8 q8
    | true=>
     rw [if_pos rfl] at q8 ⊢;refine wpAny_mono (hk s8 Er H8 _ I8 q8) (fun yk s9 ⟨k,H9,I9,r9,q9⟩=>?_) fun _ _ z=>z.elim
     refine wpAny_mono (hv s9 Er H9 _ I9 q9) (fun yv QN ⟨v,M4,RZ,UJ,kvs,key,b,ek,eb,hacc,hsz,QU⟩=>?_) fun _ _ z=>z.elim
     subst ek;exact Nm (X:=Ao X scope cl N s2 H2 HH.objs.size fp) hu RZ hacc eb hsz r9 UJ fun Uc WG=>again WG QU
  ·have z:=(f2 b hb).1;obtain ⟨o,e⟩:=hfo b hb;rw [Ae (YX (YV e))];exact z
 exact codeAny_compStart_dict (loop _ rfl) (T.self _ 0 _ _ _ (T.keep _ _ _ Ff fun b hb o e=>old b o e) (loop _ rfl))
section
variable {prog:Program} {w:World} {A:Around} {E:Value->Shared->Prop} {s:Shared}
theorem Pg {it d:Addr} {i ep:Nat} {es:Array DictEntry} {key:Value} {Q:Option Value->Shared->Prop} (hit:s.heap.IsValIter it d i es.size ep)
  (hm:DE s.heap d es ep) (hx:es[i]?.map (·.val)=some key)
  (hQ:∀ h',h'.IsValIter it d (i + 1) es.size ep->Heap.SameBut it s.heap h'->Q (some key) { s with heap:=h' }) :
  wpAny (model prog w) A (pyNext (.ref it)) Q E s:=by
 obtain ⟨o,ho,hc,hd⟩:=id hit;obtain ⟨od,hod,hcd,hdd⟩:=id hm;unfold pyNext;refine wpAny_bind (wpAny_attempt (wpAny_callSpecial?_slot (name:=Str.ofString "__next__") hit.typeIs F.slot_dict_valueiterator_next
  (wpAny_call_entry F.slot_dict_valueiterator_next hit.typeIs F.entry_dict_valueiterator_next ?_ (F.args_dict_valueiterator_next_1 _))))
 refine wpAny_bind (wpAny_pure ?_);refine wpAny_bind ?_;refine wpAny_bind ?_;first | refine wpAny_bind (wpAny_typeNameOfWhole_valiter hit.typeIs (wpAny_pure ?_)) | refine wpAny_bind (wpAny_typeNameOf_valiter hit.typeIs (wpAny_pure ?_))
 refine wpAny_bind (wpAny_fieldsOf ho hd ?_);have hown:Builtin.Dict_items.ownsTuple "dict_valueiterator"=false:=by decide
 simp only [hown,Zp,if_false];show wpAny _ _ (if (Value.ref d == Value.none)=true then _ else _) _ _ s
 rw [if_neg (show ¬ ((Value.ref d == Value.none)=true) from Zd)];refine wpAny_bind (wpAny_pure ?_);refine wpAny_bind (wpAny_dictEntries hod hdd ?_);have hsz:es.size=es.size:=rfl;rw [if_neg (by rw [hsz]; simp)];refine wpAny_bind (wpAny_pure ?_);refine wpAny_bind (wpAny_dictEpoch hod hdd ?_);rw [if_neg (by simp)];refine wpAny_pure ?_;have R6:i < es.size:=by
  rcases bc i es.size with h | h
  ·exact h
  ·rw [aE h] at hx; cases hx
 have hkey:es[i].val=key:=by rw [ZK R6] at hx; exact Zf.inj hx
 simp only [show ¬ ((i:Int) < 0) from by lia,if_false,aI,ZK R6];refine wpAny_bind ?_;first | refine wpAny_bind (wpAny_typeNameOfWhole_valiter hit.typeIs (wpAny_pure ?_)) | refine wpAny_bind (wpAny_typeNameOf_valiter hit.typeIs (wpAny_pure ?_))
 refine wpAny_bind (wpAny_isOneOf_valiter hit.typeIs ?_);show wpAny _ _ (setField (.ref it) 1 (rawInt ((i:Int) + 1)) >>= _) _ _ s
 refine wpAny_bind (wpAny_setField ho hd (by simp) ?_);have J4:(s.heap.update it (Obj.mapFields (·.setIfInBounds 1 (rawInt ((i:Int) + 1))))).IsValIter it d (i + 1) es.size ep:=
  ⟨_,Z8 _ ho (Obj.isFreed_of_fields (Obj.data_mapFields hd _)),(Obj.cls_mapFields ..).trans hc,by rw [Obj.data_mapFields hd]; simp [rawInt]⟩
 refine wpAny_bind (wpAny_holding ?_);refine wpAny_bind (wpAny_isOneOf_valiter (s:={ s with heap:=s.heap.update it (Obj.mapFields (·.setIfInBounds 1 (rawInt ((i:Int) + 1)))) }) J4.typeIs ?_);refine wpAny_bind (wpAny_isOneOf_valiter (s:={ s with heap:=s.heap.update it (Obj.mapFields (·.setIfInBounds 1 (rawInt ((i:Int) + 1)))) }) J4.typeIs ?_);show wpAny _ _ (pure es[i].val) _ _ _
 exact wpAny_pure (wpAny_pure ⟨_,rfl,wpAny_pure (hkey ▸ hQ _ J4 (Heap.SameBut.update ..))⟩)
theorem QR {it d:Addr} {i ep:Nat} {es:Array DictEntry} {Q:Option Value->Shared->Prop} (hh:A.handled=none) (hit:s.heap.IsValIter it d i es.size ep)
  (hm:DE s.heap d es ep) (hx:es.size<=i)
  (hQ:∀ h',Heap.ExtBut it s.heap h'->Q none { s with heap:=h' }):wpAny (model prog w) A (pyNext (.ref it)) Q E s:=by
 obtain ⟨o,ho,hc,hd⟩:=id hit;obtain ⟨od,hod,hcd,hdd⟩:=id hm;unfold pyNext;refine wpAny_bind (wpAny_attempt (wpAny_callSpecial?_slot (name:=Str.ofString "__next__") hit.typeIs F.slot_dict_valueiterator_next
  (wpAny_call_entry F.slot_dict_valueiterator_next hit.typeIs F.entry_dict_valueiterator_next ?_ (F.args_dict_valueiterator_next_1 _))))
 refine wpAny_bind (wpAny_pure ?_);refine wpAny_bind ?_;refine wpAny_bind ?_;first | refine wpAny_bind (wpAny_typeNameOfWhole_valiter hit.typeIs (wpAny_pure ?_)) | refine wpAny_bind (wpAny_typeNameOf_valiter hit.typeIs (wpAny_pure ?_))
 refine wpAny_bind (wpAny_fieldsOf ho hd ?_);have hown:Builtin.Dict_items.ownsTuple "dict_valueiterator"=false:=by decide
 simp only [hown,Zp,if_false];show wpAny _ _ (if (Value.ref d == Value.none)=true then _ else _) _ _ s
 rw [if_neg (show ¬ ((Value.ref d == Value.none)=true) from Zd)];refine wpAny_bind (wpAny_pure ?_);refine wpAny_bind (wpAny_dictEntries hod hdd ?_);have hsz:es.size=es.size:=rfl;rw [if_neg (by rw [hsz]; simp)];refine wpAny_bind (wpAny_pure ?_);refine wpAny_bind (wpAny_dictEpoch hod hdd ?_);rw [if_neg (by simp)];refine wpAny_pure ?_;have hge:es.size<=i:=hx;simp only [show ¬ ((i:Int) < 0) from by lia,if_false,aI,aE hge];refine wpAny_bind ?_;first | refine wpAny_bind (wpAny_typeNameOfWhole_valiter hit.typeIs (wpAny_pure ?_)) | refine wpAny_bind (wpAny_typeNameOf_valiter hit.typeIs (wpAny_pure ?_))
 show wpAny _ _ (setField (.ref it) 0 .none >>= _) _ _ s
 refine wpAny_bind (wpAny_setField ho hd (by simp) ?_);show wpAny _ _ (newExc (.type "StopIteration") [] >>= _) _ _ _
 refine wpAny_bind ?_;simp only [newExc,newTuple];refine wpAny_bind (wpAny_newObj_type ?_ (by size_fits));refine wpAny_bind (m:=firstArgMember _ _) (wpAny_of_eq (a:=Value.none) (by first | rfl | (simp only [firstArgMember]; rfl)) ?_);refine wpAny_newObj_type ?_ (by size_fits);simp only [raiseNew];refine wpAny_bind (wpAny_handled ?_);rw [show A.in1.handled=none from hh];refine wpAny_bind (wpAny_pure (wpAny_throw ?_));refine wpAny_bind (wpAny_isInstance (T:="StopIteration") (b:=true) ⟨_,YW _ rfl,rfl⟩ isSubtype_stop ?_);exact wpAny_pure (hQ _ (((Heap.SameBut.update ..).extBut.push _).push _))
theorem IsValIter.at'' {h h':Heap} {it d:Addr} {i n ep:Nat} (x:h.IsValIter it d i n ep) (e:∀ o,h.get? it=some o->h'.get? it=some o):h'.IsValIter it d i n ep:=let ⟨o,a,b⟩:=x; ⟨o,e _ a,b⟩
theorem Pf {v d:Addr} {es:Array DictEntry} {ep:Nat} {Q:Value->Shared->Prop} (hv:s.heap.IsValuesView v d) (hm:DE s.heap d es ep)
  (hQ:Q (.ref s.heap.objs.size) { s with heap:=s.heap.push { cls:=.type "dict_valueiterator",data:=.fields #[.ref d,.int 0 0,.int es.size 0,.int ep 0] } }) :
  wpAny (model prog w) A (pyIter (.ref v)) Q E s:=by
 obtain ⟨ov,hov,hcv,hdv⟩:=id hv;obtain ⟨o,ho,hc,hdat⟩:=id hm;refine wpAny_pyIter_slot hv.typeIs F.slot_dict_values_iter (wpAny_call_entry F.slot_dict_values_iter hv.typeIs F.entry_dict_values_iter ?_ (F.args_dict_values_iter_1 _));unfold Builtin.«dict_values.__iter__» Builtin.Dict_items.dictOf Builtin.Dict_items.newIterator;refine wpAny_bind (wpAny_pure (wpAny_bind (wpAny_bind (wpAny_field hov hdv (x:=.ref d) rfl (wpAny_pure ?_)))));refine wpAny_bind (wpAny_bind (wpAny_dictEntries ho hdat (wpAny_bind (wpAny_dictEpoch ho hdat ?_))));rw [show Builtin.Dict_items.ownsTuple "dict_valueiterator"=false by decide];simp only [Zp,if_false];refine wpAny_newObj_type (wpAny_pure ⟨_,rfl,"dict_valueiterator",_,⟨_,YW _ rfl,rfl⟩,F.slot_dict_valueiterator_next.lookup,?_⟩);simpa [rawInt] using hQ
theorem ML (hh:A.handled=none) (I d:Addr) (hne:d ≠ I) (es:Array DictEntry) (ep:Nat) :
  Walks prog w A I [I,d] [I] es.size (fun i v=>es[i]?.map (·.val)=some v) (fun i h=>h.IsValIter I d i es.size ep/\DE h d es ep) where
 sub:=fun b hb=>by simp at hb; simp [hb]
 frame:=fun _ _ _ st hk=>⟨IsValIter.at'' st.1 fun o e=>hk I (by simp) o e,st.2.at' fun o e=>hk d (by simp) o e⟩
 item:=fun i s Q E hi st hQ=>by
  have hx:es[i]?.map (·.val)=some es[i].val:=by rw [ZK hi]; rfl
  refine Pg st.1 st.2 hx fun h' J4 Mh=>?_
  exact hQ _ h' s.toks hx ⟨J4,st.2.at' fun o e=>Mh.extBut d o hne e⟩ fun b o hb e=>Mh.extBut b o (fun h=>hb (by simp [h])) e
 done:=fun s Q E st hQ=>QR hh st.1 st.2 (YO _) fun h' Ge=>hQ h' s.toks fun b o hb e=>Ge b o (fun h=>hb (by simp [h])) e
 self:=fun _ _ _ _ st hQ=>wpAny_pyIter_valiter st.1 hQ
theorem QQ {r d:Addr} {es:Array DictEntry} {ep:Nat}:cY prog w "dict_values" r d es.size (fun i v=>es[i]?.map (·.val)=some v) (fun h=>h.IsValuesView r d/\DE h d es ep) where
 type:=fun _ hm=>hm.1.typeIs
 there:=fun _ hm=>⟨let ⟨_,ho,_⟩:=hm.1; YV ho,hm.2.lt⟩
 keep:=fun _ _ hm hk=>⟨let ⟨o,ho,x⟩:=hm.1; ⟨o,hk r (.inl rfl) o ho,x⟩,hm.2.at' fun o e=>hk d (.inr rfl) o e⟩
 notList:=by decide
 notTuple:=by decide
 hint:=fun _ _ _ _ hm hq=>PySem.W.kdl_hint_values hm.1.typeIs hq
 iter:=fun _ _ hh hm=>⟨_,_,(fun _ _ hq=>Pf hm.1 hm.2 hq),ML hh _ d (YX hm.2.lt) es ep,⟨⟨_,YW _ rfl,rfl,rfl⟩,hm.2.at' fun o e=>YK _ e⟩⟩
end
def FI (r d:Addr):HO:=.ext fun h=>h.IsValuesView r d
theorem Jz {prog:Program} {w:World} (d:Addr) (hd:(d == sysModules)=false) :
  MeetsIn prog w (Builtin.«dict.values» ⟨[.ref d],[]⟩) (fun _ R s=>(∃ es ep,DE s.heap d es ep) /\
   R (.ok (.ret (.ref s.heap.objs.size))) { s with heap:=s.heap.push { cls:=.type "dict_values",data:=.fields #[.ref d] } }):=
 .of_wp fun A R s ⟨⟨es,ep,hm⟩,h⟩=>by
  refine wpAny_bind ?_;unfold Builtin.Dict.noArgs;refine wpAny_bind (wpAny_notOrdered_dict hm.typeIs ?_);show wpAny _ _ (pure d) _ _ s
  refine wpAny_pure ?_;show wpAny _ _ (Builtin.Dict.showsAll d >>= _) _ _ s
  unfold Builtin.Dict.showsAll;rw [if_neg (by rw [hd]; exact Zd)];refine wpAny_bind (wpAny_pure (wpAny_bind (wpAny_newObj_type (wpAny_pure ⟨_,rfl,h⟩))))
theorem JY {X:Cx}:MtM X "dict.values" (fun x vs H Q=>∃ (d:Addr) (kvs:List (List A7 × V)),x=.ref d/\vs=[]/\H d=some (.dT kvs)/\∀ r,H r=none->Q (.ref r) (upd H r (FI r d))):=by
 intro pins s σ H x vs v us Q I rx rv h;obtain ⟨d,kvs,rfl,rfl,hd,q⟩:=h;cases rx
 cases rv
 obtain ⟨z,y,xs,rel,o,es,ep,h1,h2,h3,h4,h5⟩:=(show A5 X.prog X.w H s.heap d (.dT kvs) from I.hok d _ hd)
 have rd:DE s.heap d es ep:=⟨o,h1,h2,h3⟩
 refine call_meetsIn PySem.F.slot_dict_values rd.typeIs PySem.F.entry_dict_values (PySem.F.args_dict_values_1 _) (Jz d y) ⟨⟨es,ep,rd⟩,?_⟩;refine ⟨.ref s.heap.objs.size,_,I.laid (a:=s.heap.objs.size) (o:=FI s.heap.objs.size d) (t':=s.toks) (fun _ _ e=>YK _ e) (YO _) ?_,rfl,q _ (I.hok.fresh (YO _))⟩;refine ⟨⟨_,YW _ rfl,rfl,rfl⟩,⟨_,YW _ rfl⟩,fun h1 h2 ⟨o,a,b⟩ st=>⟨o,st _ a,b⟩⟩
theorem EM {X:Cx} (hc:X.calm=true):Bd X (.type "list") (fun xs H Q=>∃ (r d:Addr) (kvs:List (List A7 × V)),xs=[.ref r]/\H r=some (FI r d)/\H d=some (.dT kvs) /\
  ∀ l,H l=none->Q (.ref l) (upd H l (.lst (kvs.map (·.2))))):=by
 intro pins s σ H xs us Q I r h;obtain ⟨rr,d,kvs,rfl,hr,hd,q⟩:=h;obtain ⟨u,rfl,ru⟩:=BZ r;cases ru
 obtain ⟨z,y,xs,rel,o,es,ep,h1,h2,h3,h4,h5⟩:=(show A5 X.prog X.w H s.heap d (.dT kvs) from I.hok d _ hd)
 have vw:s.heap.IsValuesView rr d:=(I.hok rr _ hr).1;have xl:xs.length=kvs.length:=(Paired.length rel).symm;have hlen:es.size=kvs.length:=by
  rw [<-Zv,h4,YI];exact xl
 refine PySem.W.kdl_call (QQ (es:=es) (ep:=ep)) (I.ok.hd hc) ⟨vw,o,h1,h2,h3⟩ (by rw [hlen]; exact z) fun h' tk acc c' kk hl hacc=>?_
 have al:acc.toList.length=xs.length:=by
  rw [Zv,hacc.1,<-Zv,h4,YI]
 have av:acc.toList=xs.map fun q=>q.2.2:=by
  refine af (by rw [al,YI]) fun i i1 i2=>?_
  have e2:=hacc.2 i acc.toList[i] (by rw [<-ZL]; exact YJ i1);dsimp only at e2;rw [<-ZL,h4,YS,YJ (by rw [<-al]; exact i1)] at e2;rw [ZJ];exact (Zf.inj e2).symm
 have vals:∀ {l:List (List A7 × V)} {m:List (List A7 × Addr × Value)},Paired (fun (p:List A7 × V) (q:List A7 × Addr × Value)=>p.1=q.1/\H q.2.1=some (.tup (p.1.map kV))/\A1 p.2 q.2.2) l m->A0 (l.map (·.2)) (m.map fun q=>q.2.2):=fun {l m} hp=>by
  induction hp with
  | nil=>exact .nil
  | cons a _ ih=>exact .cons a.2.2 ih
 have rv:=vals rel;rw [<-av] at rv;refine ⟨.ref s.heap.objs.size,_,I.laid (o:=.lst (kvs.map (·.2))) (t':=tk) kk (YO _) ⟨by rw [YI]; exact z,acc.toList,c',rv,by rw [cz]; exact hl⟩,rfl,q _ (I.hok.fresh (YO _))⟩
def Bm (ss op:List Str):List Str:=ss.filter fun s=>decide (s ∉ op)
abbrev B4:=List Str × Option Str × Option Str
def Lo (s:Str):B4:=(["open",s],none,some s)
def IV (h:Str):B4:=(["shut",h],some h,none)
def Le (h s:Str):B4:=(["swap",h,s],some h,some s)
def Ew (ss op:List Str) (h:Str):List B4:=IV h :: (Bm ss op).map (Le h)
def Ca (ss op:List Str):List B4:=(Bm ss op).map Lo ++ op.flatMap (Ew ss op)
def EA (op:List Str) (out:Option Str):List Str:=op.filter fun h=>decide (some h ≠ out)
def Bp (op:List Str) (out more:Option Str) (zs:List Str):Prop:=zs.Perm (EA op out ++ more.toList)/\sortedS zs=true
theorem Bp.uniq {op:List Str} {out more:Option Str} {zs ys:List Str} (h:Bp op out more zs) (g:Bp op out more ys):zs=ys:=
 Gw (C2 h.2) (C2 g.2) (h.1.trans g.1.symm)
def Fv (x:V) (op:List Str) (e:B4):Bool:=!(EA op e.2.1 ++ e.2.2.toList).isEmpty && GA x (EA op e.2.1 ++ e.2.2.toList).length
def EE (ss:List Str) (x:V) (op:List Str):List B4:=(Ca ss op).filter (Fv x op)
theorem C8 {ss op:List Str} {s:Str}:s ∈ Bm ss op ↔ s ∈ ss/\s ∉ op:=by
 unfold Bm;rw [Zx];simp
theorem Kh {ss op:List Str} {e:B4}:e ∈ Ca ss op ↔ (∃ s ∈ Bm ss op,e=Lo s)\/∃ h ∈ op,e=IV h\/∃ s ∈ Bm ss op,e=Le h s:=by
 unfold Ca Ew;rw [Zl,YT,bQ];constructor
 ·rintro (⟨s,a,b⟩ | ⟨h,a,b⟩)
  ·exact .inl ⟨s,a,b.symm⟩
  ·rcases YM.mp b with b | b
   ·exact .inr ⟨h,a,.inl b⟩
   ·obtain ⟨s,c,d⟩:=YT.mp b;exact .inr ⟨h,a,.inr ⟨s,c,d.symm⟩⟩
 ·rintro (⟨s,a,b⟩ | ⟨h,a,b | ⟨s,c,d⟩⟩)
  ·exact .inl ⟨s,a,b.symm⟩
  ·exact .inr ⟨h,a,by rw [b]; exact Zg⟩
  ·exact .inr ⟨h,a,Ze _ (YT.mpr ⟨s,c,d.symm⟩)⟩
structure Fg (ss op:List Str) (e:B4):Prop where
 out:∀ h,e.2.1=some h->h ∈ op
 more:∀ s,e.2.2=some s->s ∈ ss/\s ∉ op
 any:e.2.1 ≠ none\/e.2.2 ≠ none
 key:e=match e.2.1,e.2.2 with
  | none,some s=>Lo s
  | some h,none=>IV h
  | some h,some s=>Le h s
  | none,none=>e
theorem DQ {ss op:List Str} {e:B4} (h:e ∈ Ca ss op):Fg ss op e:=by
 rcases Kh.mp h with ⟨s,a,rfl⟩ | ⟨h,a,rfl | ⟨s,b,rfl⟩⟩
 ·exact ⟨(fun h z=>nomatch z),(fun s' z=>by cases z; exact C8.mp a),.inr (fun z=>nomatch z),rfl⟩
 ·exact ⟨(fun h' z=>by cases z; exact a),(fun s z=>nomatch z),.inl (fun z=>nomatch z),rfl⟩
 ·exact ⟨(fun h' z=>by cases z; exact a),(fun s' z=>by cases z; exact C8.mp b),.inl (fun z=>nomatch z),rfl⟩
theorem BE {α β:Type} {f:α->β} (inj:∀ a b,f a=f b->a=b):∀ {l:List α},l.Nodup->(l.map f).Nodup
 | [],_=>aa
 | a :: l,h=>by
  rw [Zu] at h;rw [Zb,Zu];refine ⟨fun hm=>?_,BE inj h.2⟩;obtain ⟨b,hb,e⟩:=YT.mp hm;exact h.1 (by rw [<-inj _ _ e]; exact hb)
theorem EF {ss op:List Str} (sn:ss.Nodup) (on:op.Nodup):((Ca ss op).map (·.1)).Nodup:=by
 have hn:(Bm ss op).Nodup:=sn.filter _;unfold Ca;rw [YY,Z4];refine ⟨?_,?_,fun a ha b hb=>?_⟩
 ·rw [Zt];exact BE (fun a b e=>by simpa [Lo] using e) hn
 ·have key:∀ l:List Str,l.Nodup->((l.flatMap (Ew ss op)).map (·.1)).Nodup:=fun l=>by
   induction l with
   | nil=>intro _; exact aa
   | cons h l ih=>
    intro hl;rw [Zu] at hl;rw [aX,YY,Z4];refine ⟨?_,ih hl.2,fun a ha b hb=>?_⟩
    ·unfold Ew;rw [Zb,Zu];refine ⟨fun hm=>?_,?_⟩
     ·obtain ⟨e,he,q⟩:=YT.mp hm;obtain ⟨s,_,rfl⟩:=YT.mp he;simp [IV,Le] at q
     ·rw [Zt];exact BE (fun a b e=>by simpa [Le] using e) hn
    ·rintro rfl;obtain ⟨e,he,q⟩:=YT.mp ha;obtain ⟨e',Ge,q'⟩:=YT.mp hb;obtain ⟨h',hh',Ge⟩:=bQ.mp Ge;have nhh:h ≠ h':=fun z=>hl.1 (by rw [z]; exact hh')
     rw [<-q'] at q;unfold Ew at he Ge;rcases YM.mp he with rfl | he <;> rcases YM.mp Ge with rfl | Ge
     ·exact nhh (by simpa [IV] using q)
     ·obtain ⟨s,_,rfl⟩:=YT.mp Ge;simp [IV,Le] at q
     ·obtain ⟨s,_,rfl⟩:=YT.mp he;simp [IV,Le] at q
     ·obtain ⟨s,_,rfl⟩:=YT.mp he;obtain ⟨s',_,rfl⟩:=YT.mp Ge;simp [Le] at q;exact nhh q.1
  exact key op on
 ·rintro rfl;obtain ⟨e,he,q⟩:=YT.mp ha;obtain ⟨e',Ge,q'⟩:=YT.mp hb;obtain ⟨s,_,rfl⟩:=YT.mp he;obtain ⟨h',hh',Ge⟩:=bQ.mp Ge;rw [<-q'] at q;unfold Ew at Ge;rcases YM.mp Ge with rfl | Ge
  ·simp [Lo,IV] at q;exact absurd q.1 (by decide +kernel)
  ·obtain ⟨s',_,rfl⟩:=YT.mp Ge;simp [Lo,Le] at q
theorem Dk {ss op:List Str} {x:V} (sn:ss.Nodup) (on:op.Nodup):((EE ss x op).map (·.1)).Nodup:=List.Nodup.sublist ((ax).map _) (EF sn on)
theorem Bp.mem {op:List Str} {out more:Option Str} {zs:List Str} (h:Bp op out more zs) {z:Str}:z ∈ zs ↔ (z ∈ op/\some z ≠ out)\/more=some z:=by
 rw [h.1.mem_iff,Zl];unfold EA;rw [Zx];simp only [decide_eq_true_eq,cN]
theorem Bp.nodup {ss op:List Str} {e:B4} {zs:List Str} (h:Bp op e.2.1 e.2.2 zs) (on:op.Nodup) (i:Fg ss op e):zs.Nodup:=by
 rw [h.1.nodup_iff,Z4];refine ⟨on.filter _,?_,fun a ha b hb=>?_⟩
 ·cases e.2.2 with
  | none=>exact aa
  | some s=>exact aB _ _
 ·rintro rfl;have Fu:e.2.2=some a:=cN.mp hb;exact (i.more a Fu).2 (Zx.mp ha).1
theorem Bp.sub {ss op:List Str} {e:B4} {zs:List Str} (h:Bp op e.2.1 e.2.2 zs) (os:∀ s ∈ op,s ∈ ss) (i:Fg ss op e):∀ z ∈ zs,z ∈ ss:=fun z hz=>by
 rcases h.mem.mp hz with ⟨a,_⟩ | a
 ·exact os z a
 ·exact (i.more z a).1
theorem Bp.rising {ss op:List Str} {e:B4} {zs:List Str} (h:Bp op e.2.1 e.2.2 zs) (on:op.Nodup) (i:Fg ss op e):Bs zs:=Gz (C2 h.2) (h.nodup on i)
theorem Bp.isOp {ss op:List Str} {e:B4} {zs:List Str} {x:V} (h:Bp op e.2.1 e.2.2 zs) (sr:Bs ss) (on:op.Nodup) (os:∀ s ∈ op,s ∈ ss) (i:Fg ss op e):RX ss x (zs.map PyData.str) ↔ Fv x op e=true:=by
 have len:=h.1.length_eq;have emp:zs=[] ↔ (EA op e.2.1 ++ e.2.2.toList)=[]:=by rw [<-ZF,len,ZF]
 unfold RX Fv;rw [Z3,<-len];constructor
 ·rintro ⟨ys,e1,e2,_,e4⟩;have:zs=ys:=DU e1;subst this;refine ⟨?_,e4⟩;rw [aW,bY];exact fun z=>e2 (emp.mpr z)
 ·rintro ⟨a,b⟩;refine ⟨zs,rfl,fun z=>?_,DZ (h.rising on i) sr (h.sub os i),b⟩;rw [emp.mp z] at a;cases a
theorem Bp.inj {ss op:List Str} {e e':B4} {zs:List Str} (h:Bp op e.2.1 e.2.2 zs) (h':Bp op e'.2.1 e'.2.2 zs) (i:Fg ss op e) (i':Fg ss op e'):e=e':=by
 have o1:e.2.1=e'.2.1:=by
  have half:∀ {e e':B4},Bp op e.2.1 e.2.2 zs->Bp op e'.2.1 e'.2.2 zs->Fg ss op e->Fg ss op e'->∀ a,e.2.1=some a->e'.2.1=some a:=fun {e e'} h h' i i' a ea=>by
   have ao:=i.out a ea;have na:a ∉ zs:=fun hz=>by
    rcases h.mem.mp hz with ⟨_,q⟩ | q
    ·exact q ea.symm
    ·exact (i.more a q).2 ao
   by_cases q:e'.2.1=some a
   ·exact q
   ·exact absurd (h'.mem.mpr (.inl ⟨ao,fun z=>q z.symm⟩)) na
  cases q:e.2.1 with
  | some a=>exact (half h h' i i' a q).symm
  | none=>
   cases q':e'.2.1 with
   | none=>rfl
   | some b=>rw [half h' h i' i b q'] at q; cases q
 have o2:e.2.2=e'.2.2:=by
  have half:∀ {e e':B4},Bp op e.2.1 e.2.2 zs->Bp op e'.2.1 e'.2.2 zs->Fg ss op e->Fg ss op e'->∀ a,e.2.2=some a->e'.2.2=some a:=fun {e e'} h h' i i' a ea=>by
   rcases h'.mem.mp (h.mem.mpr (.inr ea)) with ⟨q,_⟩ | q
   ·exact absurd q (i.more a ea).2
   ·exact q
  cases q:e.2.2 with
  | some a=>exact (half h h' i i' a q).symm
  | none=>
   cases q':e'.2.2 with
   | none=>rfl
   | some b=>rw [half h' h i' i b q'] at q; cases q
 have k1:=i.key;have k2:=i'.key;obtain ⟨a,b,c⟩:=e;obtain ⟨a',b',c'⟩:=e';have o1':b=b':=o1;have o2':c=c':=o2;subst o1' o2';cases b with
 | none=>
  cases c with
  | none=>exact absurd i.any (by simp)
  | some s=>rw [k1,k2]
 | some h=>
  cases c with
  | none=>rw [k1,k2]
  | some s=>rw [k1,k2]
def Ck (H:Hp) (op:List Str) (kvs:List (List A7 × V)) (L:List B4):Prop:=kvs.map (·.1)=L.map (fun e=>e.1.map Sum.inr) /\
 ∀ (i:Nat) kv e,kvs[i]? = some kv->L[i]? = some e->∃ t zs,kv.2=.ref t/\H t=some (.tup (zs.map V.str))/\Bp op e.2.1 e.2.2 zs
theorem Ck.len {H:Hp} {op:List Str} {kvs:List (List A7 × V)} {L:List B4} (h:Ck H op kvs L):kvs.length=L.length:=by
 have:=congrArg ZW h.1;rwa [YI,YI] at this
theorem Ck.keep {H H':Hp} {op:List Str} {kvs:List (List A7 × V)} {L:List B4} (h:Ck H op kvs L) (s:∀ b xs,H b=some (.tup xs)->H' b=some (.tup xs)):Ck H' op kvs L:=
 ⟨h.1,fun i kv e e1 e2=>let ⟨t,zs,a,b,c⟩:=h.2 i kv e e1 e2; ⟨t,zs,a,s _ _ b,c⟩⟩
theorem Ck.nil {H:Hp} {op:List Str}:Ck H op [] []:=⟨rfl,fun i kv e e1=>by cases e1⟩
theorem Ck.snoc {H:Hp} {op:List Str} {kvs:List (List A7 × V)} {L:List B4} (h:Ck H op kvs L) {e:B4} {t:Addr} {zs:List Str} (ht:H t=some (.tup (zs.map V.str))) (o:Bp op e.2.1 e.2.2 zs):Ck H op (kvs ++ [(e.1.map Sum.inr,.ref t)]) (L ++ [e]):=by
 refine ⟨by rw [YY,YY,h.1]; rfl,fun i kv e' e1 e2=>?_⟩;have l:=h.len;by_cases hi:i < kvs.length
 ·rw [Zs hi] at e1;rw [Zs (by lia)] at e2;exact h.2 i kv e' e1 e2
 ·have Vh:i=kvs.length:=by
   have:=(YQ.mp e1).1;rw [YR,ZC] at this;lia
  subst Vh;rw [Zr (YO _),aJ] at e1;rw [l,Zr (YO _),aJ] at e2;cases e1
  cases e2
  exact ⟨t,zs,rfl,ht,o⟩
theorem E9:∀ {a b:List Str},a.map (Sum.inr:Str->A7)=b.map Sum.inr->a=b
 | [],[],_=>rfl
 | [],_ :: _,e=>by cases e
 | _ :: _,[],e=>by cases e
 | x :: a,y :: b,e=>by
  rw [Zb,Zb] at e;injection e with e1 e2;injection e1 with e1;rw [e1,E9 e2]
theorem Ck.new {H:Hp} {op:List Str} {kvs:List (List A7 × V)} {L:List B4} (h:Ck H op kvs L) {k:List Str} (n:k ∉ L.map (·.1)) (v:V):Bg kvs (k.map Sum.inr) v=kvs ++ [(k.map Sum.inr,v)]:=by
 refine Ik v (Ly fun hm=>?_);rw [h.1] at hm;obtain ⟨e,he,q⟩:=YT.mp hm;exact n (YT.mpr ⟨e,he,E9 q⟩)
theorem Ck.val {H:Hp} {op:List Str} {kvs:List (List A7 × V)} {L:List B4} (h:Ck H op kvs L) (nd:(L.map (·.1)).Nodup) {i:Nat} {e:B4} (he:L[i]? = some e):∃ t zs,Bu kvs (e.1.map Sum.inr)=some (.ref t)/\H t=some (.tup (zs.map V.str))/\Bp op e.2.1 e.2.2 zs:=by
 have hi:i < kvs.length:=by rw [h.len]; exact (YQ.mp he).1
 obtain ⟨t,zs,a,b,c⟩:=h.2 i _ e (YJ hi) he;refine ⟨t,zs,?_,b,c⟩;have kn:(kvs.map (·.1)).Nodup:=by
  rw [h.1,show (fun e:B4=>e.1.map (Sum.inr:Str->A7))=(fun k:List Str=>k.map Sum.inr) ∘ (fun e:B4=>e.1) from rfl,<-Zt];exact BE (fun a b e=>E9 e) nd
 refine ET (q:=i) kn ?_;rw [YJ hi];have k:=congrArg (fun l:List (List A7)=>l[i]?) h.1;rw [YS,YS,YJ hi,he] at k;have k':kvs[i].1=e.1.map Sum.inr:=Zf.inj k;rw [<-k',<-a]
def oS:Option Str->V
 | none=>.non
 | some s=>.str s
def JM:Sp:=fun vs H Q _=>∃ (o:Addr) (op:List Str) (out more:Option Str),vs=[.ref o,oS out,oS more]/\H o=some (.tup (op.map V.str))/\op.length<=30 /\
 ∀ (H':Hp) (t:Addr) (zs:List Str),Av H H'->H t=none->H' t=some (.tup (zs.map V.str))->Bp op out more zs->Q (.ref t) H'
structure Fy (H:Hp) (c o m:Addr) (n:Nat) (xs:List Str) (ws:List AA) (rs1 Au:List BS) (x:V) (d:PyData) (op:List Str):Prop where
 cw:Cm H c m n xs ws rs1 Au x d
 ri:Bs (rs1.map (·.1))
 ho:H o=some (.tup (op.map V.str))
 op:Gu (rs1.map (·.1)) x op
theorem Fy.keepT {H H':Hp} {c o m:Addr} {n:Nat} {xs:List Str} {ws:List AA} {rs1 Au:List BS} {x:V} {d:PyData} {op:List Str} (h:Fy H c o m n xs ws rs1 Au x d op) (t:∀ b ys,H b=some (.tup ys)->H' b=some (.tup ys)):Fy H' c o m n xs ws rs1 Au x d op:=⟨h.cw.keepT t,h.ri,t _ _ h.ho,h.op⟩
def K1:Sp:=fun vs H Q _=>∃ (c o m:Addr) (n:Nat) (xs:List Str) (ws:List AA) (rs1 Au:List BS) (x:V) (d:PyData) (op:List Str),vs=[.ref c,.ref o]/\Fy H c o m n xs ws rs1 Au x d op /\
 ∀ (H':Hp) (D:Addr) (kvs:List (List A7 × V)),Av H H'->H D=none->H' D=some (.dT kvs)->Ck H' op kvs (EE (rs1.map (·.1)) x op)->Q (.ref D) H'
def U0 (H:Hp) (vs:List V) (ps:List (List Str × Int)):Prop:=vs.length=ps.length/\∀ (i:Nat) v p,vs[i]? = some v->ps[i]? = some p->∃ t e,v=.ref t/\H t=some (.tup [.ref e,.int p.2])/\H e=some (.tup (p.1.map V.str))
def U1 (ws:List AA) (rs1 Au:List BS) (x:V) (op:List Str) (ps:List (List Str × Int)):Prop:=(ps.map (·.1)).Perm ((EE (rs1.map (·.1)) x op).map (·.1))/\(ps.map (·.1)).Pairwise (fun a b=>A8 (b.map DH.s) (a.map DH.s)=false) /\
 ∀ p ∈ ps,∃ e zs,e ∈ EE (rs1.map (·.1)) x op/\e.1=p.1/\Bp op e.2.1 e.2.2 zs/\B5 ws rs1 Au zs p.2
def GZ:Sp:=fun vs H Q _=>∃ (c o m:Addr) (n:Nat) (xs:List Str) (ws:List AA) (rs1 Au:List BS) (x:V) (d:PyData) (op:List Str),vs=[.ref c,.ref o]/\Fy H c o m n xs ws rs1 Au x d op /\
 ∀ (H':Hp) (L:Addr) (vs:List V) (ps:List (List Str × Int)),Av H H'->H L=none->H' L=some (.lst vs)->U0 H' vs ps->U1 ws rs1 Au x op ps->Q (.ref L) H'
theorem Av.free0 {H H':Hp} {a:Addr} (s:Av H H') (h:H' a=none):H a=none:=by
 cases z:H a with
 | none=>rfl
 | some o=>rw [s _ _ z] at h; cases h
section
variable {X:Cx} {pins:List (Addr × Obj)} {σ Aw:St} {H H':Hp} {s2 s':Shared} {scope:Scope} {cl:List (Str × Addr)} {N:List Str} {fp:List Addr} {C D:Addr} {h₁ h':Heap} {t':Nat}
end
theorem BB {A B:Hp} {a:Addr} {o:HO} (s:Av A B) (n:A a=none):Av A (upd B a o):=fun b u e=>by rw [Ae (Ag e n)]; exact s _ _ e
theorem NP {J:It} {xs:List V} {S:Hp->Prop} {g:TG} {tt:TT} {tk tv:TE} {H:Hp} {σ0:St} {R:Addr->Hp->Prop} (ov:Nv J xs S) (I:Addr->Nat->St->Hp->Prop)
  (h0:∀ D,H D=none->I D 0 σ0 (upd H D (.dT [])))
  (hs:∀ D i σ H',H D=none->I D i σ H'->S H')
  (turn:∀ D i σ H' x (B:St->V->V->Hp->Prop) (N:St->Hp->Prop),H D=none->xs[i]? = some x->I D i σ H'->(∀ Az y v H6,(∃ kvs k b,y=.ref b/\H6 b=some (.tup (k.map kV))/\H6 D=some (.dT kvs)/\kvs.length < sizeLine/\I D (i + 1) Az (upd H6 D (.dT (Bg kvs k v))))->B Az y v H6) ->
   (∀ Az H4,I D (i + 1) Az H4->N Az H4)->g x σ H' fun Az H3=>tt Az H3 fun b H4=>if b=true then tk Az H4 (fun y H5=>tv Az H5 fun v H6=>B Az y v H6) else N Az H4)
  (fin:∀ D σ H',H D=none->I D xs.length σ H'->R D H') :
  ∀ D,H D=none->∃ W:Nat->Nat->St->Hp->Prop,(∃ m,W 0 m σ0 (upd H D (.dT []))) /\
   ∀ i m Aw H',W i m Aw H'->(J.stop i H'/\R D H')\/(J.go i H'/\∀ x H2,J.yld i H' x H2->g x Aw H2 fun Az H3=>tt Az H3 fun b H4=>
    if b=true then tk Az H4 (fun y H5=>tv Az H5 fun v H6=>∃ kvs k b,y=.ref b/\H6 b=some (.tup (k.map kV))/\H6 D=some (.dT kvs)/\kvs.length < sizeLine/\∃ m',m' < m/\W (i + 1) m' Az (upd H6 D (.dT (Bg kvs k v)))) else ∃ m',m' < m/\W (i + 1) m' Az H4):=by
 intro D hD;refine ⟨fun i m σ H'=>m=xs.length - i/\i<=xs.length/\I D i σ H',⟨xs.length,rfl,Zz _,h0 D hD⟩,?_⟩;rintro i m σ H' ⟨rfl,hi,p⟩;have s1:=hs D i σ H' hD p;by_cases Bv:i < xs.length
 ·refine .inr ⟨ov.go i H' s1 Bv,fun x H2 y=>?_⟩;obtain ⟨rfl,ex⟩:=ov.yld i H' x H2 s1 y;refine turn D i σ H2 x (fun Az y v H6=>∃ kvs k b,y=.ref b/\H6 b=some (.tup (k.map kV))/\H6 D=some (.dT kvs)/\kvs.length < sizeLine/\∃ m',m' < xs.length - i/\(m'=xs.length - (i + 1)/\i + 1<=xs.length/\I D (i + 1) Az (upd H6 D (.dT (Bg kvs k v))))) (fun Az H4=>∃ m',m' < xs.length - i/\(m'=xs.length - (i + 1)/\i + 1<=xs.length/\I D (i + 1) Az H4)) hD ex p (fun Az y v H6 ⟨kvs,k,b,a1,a2,a3,a4,a5⟩=>?_) fun Az H4 p4=>?_
  ·exact ⟨kvs,k,b,a1,a2,a3,a4,xs.length - (i + 1),by lia,rfl,Bv,a5⟩
  ·exact ⟨xs.length - (i + 1),by lia,rfl,Bv,p4⟩
 ·have e:i=xs.length:=by lia
  subst e;exact .inl ⟨ov.stop H' s1,fin D σ H' hD p⟩
theorem De {ss:List Str} {x:V} {op:List Str} (h:Gu ss x op) (nd:ss.Nodup):op.Nodup/\(∀ s ∈ op,s ∈ ss)/\(Bm ss op).length + op.length<=ss.length:=by
 have on:=h.2.1.nodup nd;refine ⟨on,fun s hs=>h.2.1.subset hs,?_⟩;have:(Bm ss op ++ op).Nodup:=Z4.mpr ⟨nd.filter _,on,fun a ha b hb e=>(C8.mp ha).2 (e ▸ hb)⟩;have:=List.Nodup.length_le_of_subset this (fun s hs=>by
  rcases Zl.mp hs with z | z
  ·exact (C8.mp z).1
  ·exact h.2.1.subset z)
 rwa [YR] at this
theorem PV {ss op:List Str}:(Ca ss op).length=(Bm ss op).length + op.length * ((Bm ss op).length + 1):=by
 unfold Ca;have:∀ l:List Str,(l.flatMap (Ew ss op)).length=l.length * ((Bm ss op).length + 1):=fun l=>by
  induction l with
  | nil=>simp
  | cons h l ih=>rw [aX,YR,ih,Zm,dW,Nat.one_mul]; unfold Ew; rw [Zm,YI]; lia
 rw [YR,YI,this]
theorem Gh {ss op:List Str} {x:V} (h:Gu ss x op) (nd:ss.Nodup) (l:ss.length<=10):(Ca ss op).length < 64:=by
 rw [PV];have:=(De h nd).2.2;have h1:∀ a b:Nat,a + b<=10->a + b * (a + 1) < 64:=fun a b hab=>by
  have ha:a<=10:=by lia
  have hb:b<=10 - a:=by lia
  have:b * (a + 1)<=(10 - a) * (a + 1):=Nat.mul_le_mul_right _ hb;have k:a + (10 - a) * (a + 1) < 64:=by
   rcases a with _ | _ | _ | _ | _ | _ | _ | _ | _ | _ | _ | a <;> first | decide | lia
  lia
 exact h1 _ _ (by lia)
theorem DK {ss:List Str} {i:Nat} {x:V} (h:(ss.map V.str)[i]? = some x):∃ y,ss[i]? = some y/\x=.str y:=by
 rw [YS] at h;cases q:ss[i]? with
 | none=>rw [q] at h; cases h
 | some y=>rw [q] at h; exact ⟨y,rfl,(Zf.inj h).symm⟩
theorem Ck.mem_get {H:Hp} {op:List Str} {kvs:List (List A7 × V)} {L:List B4} (h:Ck H op kvs L) {i:Nat} {p:List A7 × V} (e:kvs[i]? = some p):∃ x,L[i]? = some x/\p.1=x.1.map Sum.inr:=by
 have l:=h.len;have hi:=(YQ.mp e).1;refine ⟨L[i]'(by lia),YJ _,?_⟩;have k:=congrArg (fun l:List (List A7)=>l[i]?) h.1;rw [YS,YS,e,YJ (by lia)] at k;exact Zf.inj k
theorem HY {α β:Type} (f:α->β) {l:List α} {i:Nat} {a:α} (e:l[i]? = some a):(l.take (i + 1)).map f=(l.take i).map f ++ [f a]:=by rw [Zk,e,YY]; rfl
theorem OJ {α β:Type} (f:α->List β) {l:List α} {i:Nat} {a:α} (e:l[i]? = some a):(l.take (i + 1)).flatMap f=(l.take i).flatMap f ++ f a:=by
 rw [Zk,e,cO];show _ ++ List.flatMap f [a]=_
 rw [aX,dk,ZE]
theorem Ni {α β:Type} (f:α->List β) {l:List α} {i:Nat} {a:α} (e:l[i]? = some a):l.flatMap f=(l.take i).flatMap f ++ (f a ++ (l.drop (i + 1)).flatMap f):=by
 obtain ⟨hi,rfl⟩:=YQ.mp e;rw [<-aX,<-cO,cu,cA]
theorem DJ {α:Type} (f:α->Bool) {l:List α} {i:Nat} {a:α} (e:l[i]? = some a):(l.take (i + 1)).filter f=(l.take i).filter f ++ (if f a then [a] else []):=by
 rw [Zk,e,ZU];show _ ++ List.filter f [a]=_
 rw [ZP];cases f a <;> rfl
theorem Pw {α:Type} {a b:List α} {x:α} (h:(a ++ x :: b).Nodup):x ∉ a:=fun hx=>(Z4.mp h).2.2 x hx x Zg rfl
theorem Ld {ss op:List Str} {L R:List B4} {e:B4} (sn:ss.Nodup) (on:op.Nodup) (h:Ca ss op=L ++ e :: R):e.1 ∉ L.map (·.1):=by
 have:=EF sn on;rw [h,YY,Zb] at this;exact Pw this
theorem F9 {α:Type} {l:List α} {i:Nat} {a:α} (e:l[i]? = some a):l=l.take i ++ a :: l.drop (i + 1):=by
 obtain ⟨hi,rfl⟩:=YQ.mp e;rw [cu,cA]
def JB (H:Hp) (vs:List V) (ps:List (List Str × V)):Prop:=vs.length=ps.length/\∀ (i:Nat) v p,vs[i]? = some v->ps[i]? = some p->∃ t e,v=.ref t/\H t=some (.tup [.ref e,p.2])/\H e=some (.tup (p.1.map V.str))
theorem JB.nil {H:Hp}:JB H [] []:=⟨rfl,fun i v p e=>by cases e⟩
theorem JB.keep {H H':Hp} {vs:List V} {ps:List (List Str × V)} (h:JB H vs ps) (s:∀ b xs,H b=some (.tup xs)->H' b=some (.tup xs)):JB H' vs ps:=
 ⟨h.1,fun i v p e1 e2=>let ⟨t,e,a,b,c⟩:=h.2 i v p e1 e2; ⟨t,e,a,s _ _ b,s _ _ c⟩⟩
theorem JB.app {H:Hp} {vs us:List V} {ps qs:List (List Str × V)} (h:JB H vs ps) (g:JB H us qs):JB H (vs ++ us) (ps ++ qs):=by
 refine ⟨by rw [YR,YR,h.1,g.1],fun i v p e1 e2=>?_⟩;by_cases hi:i < vs.length
 ·rw [Zs hi] at e1;rw [Zs (by rw [<-h.1]; exact hi)] at e2;exact h.2 i v p e1 e2
 ·rw [Zr (by lia)] at e1;rw [Zr (by rw [<-h.1]; lia),<-h.1] at e2;exact g.2 _ v p e1 e2
theorem JB.one {H:Hp} {t e:Addr} {p:List Str × V} (a:H t=some (.tup [.ref e,p.2])) (b:H e=some (.tup (p.1.map V.str))):JB H [.ref t] [p]:=by
 refine ⟨rfl,fun i v q e1 e2=>?_⟩;cases i with
 | zero=>cases e1; cases e2; exact ⟨t,e,rfl,a,b⟩
 | succ i=>simp at e1
theorem Ny {α β:Type}:∀ {a:List α} {b:List β},a.length=b.length->(a.zip b).map (·.1)=a
 | [],[],_=>rfl
 | [],_ :: _,h=>by simp at h
 | _ :: _,[],h=>by simp at h
 | x :: a,y :: b,h=>by rw [bD,Zb,Ny (by simpa using h)]
theorem Kw {α β:Type}:∀ {a:List α} {b:List β},a.length=b.length->(a.zip b).map (·.2)=b
 | [],[],_=>rfl
 | [],_ :: _,h=>by simp at h
 | _ :: _,[],h=>by simp at h
 | x :: a,y :: b,h=>by rw [bD,Zb,Kw (by simpa using h)]
def PyV (H:Hp) (y:V):Prop:=(∃ n,y=.int n)\/∃ (l:Addr) (ss:List Str),y=.ref l/\H l=some (.tup (ss.map V.str))
def MK (vs:List V) (ps:List (List Str × V)):List (V × List Str):=(vs.zip ps).map fun t=>(t.1,t.2.1)
theorem JB.zip_mem {H:Hp} {vs:List V} {ps:List (List Str × V)} (h:JB H vs ps) {t:V × (List Str × V)} (m:t ∈ vs.zip ps):∃ a e,t.1=.ref a/\H a=some (.tup [.ref e,t.2.2])/\H e=some (.tup (t.2.1.map V.str))/\t.2 ∈ ps:=by
 obtain ⟨i,hi,e⟩:=Zh m;rw [bO] at e;have l:=h.1;rw [ay] at hi;have h1:vs[i]? = some t.1:=by rw [YJ (by lia),<-e]
 have h2:ps[i]? = some t.2:=by rw [YJ (by lia),<-e]
 obtain ⟨a,b,c,d,f⟩:=h.2 i _ _ h1 h2;exact ⟨a,b,c,d,f,YN h2⟩
theorem JB.sort {H:Hp} {vs:List V} {ps:List (List Str × V)} (h:JB H vs ps) (hy:∀ p ∈ ps,PyV H p.2):(MK vs ps).map (·.1)=vs/\(∀ p ∈ MK vs ps,PxH H p.1 p.2)/\(MK vs ps).map (·.2)=ps.map (·.1)/\(MK vs ps).length=ps.length /\
  ∀ zs:List (V × List Str),zs.Perm (MK vs ps)->∃ qs,JB H (zs.map (·.1)) qs/\qs.Perm ps/\qs.map (·.1)=zs.map (·.2):=by
 unfold MK;refine ⟨?_,?_,?_,?_,?_⟩
 ·rw [Zt];exact Ny h.1
 ·intro p hp;obtain ⟨t,ht,rfl⟩:=YT.mp hp;obtain ⟨a,e,h1,h2,h3,h4⟩:=h.zip_mem ht;exact ⟨a,e,t.2.2,h1,h2,h3,hy _ h4⟩
 ·rw [Zt];have:=congrArg (e6 (·.1)) (Kw h.1);rw [Zt] at this;exact this
 ·rw [YI,ay,h.1,dP]
 ·intro zs pz;obtain ⟨m,pm,rfl⟩:=EZ pz;refine ⟨m.map (·.2),⟨by rw [YI,YI,YI],fun i v p e1 e2=>?_⟩,?_,by rw [Zt,Zt]; rfl⟩
  ·rw [Zt,YS] at e1;rw [YS] at e2;cases q:m[i]? with
   | none=>rw [q] at e1; cases e1
   | some t=>
    rw [q] at e1 e2;cases e1
    cases e2
    obtain ⟨a,e,h1,h2,h3,_⟩:=h.zip_mem (pm.mem_iff.mp (YN q));exact ⟨a,e,h1,h2,h3⟩
  ·have:=pm.map (·.2);rwa [Kw h.1] at this
def MX (p:List Str × Int):List Str × V:=(p.1,.int p.2)
theorem U0.rw {H:Hp} {vs:List V} {ps:List (List Str × Int)}:U0 H vs ps ↔ JB H vs (ps.map MX):=by
 unfold U0 JB;rw [YI];constructor
 ·rintro ⟨l,h⟩;refine ⟨l,fun i v p e1 e2=>?_⟩;rw [YS] at e2;cases q:ps[i]? with
  | none=>rw [q] at e2; cases e2
  | some z=>rw [q] at e2; cases e2; exact h i v z e1 q
 ·rintro ⟨l,h⟩;exact ⟨l,fun i v p e1 e2=>h i v (MX p) e1 (by rw [YS,e2]; rfl)⟩
theorem N3 {H:Hp}:∀ (vs:List V) (Pz:Nat->List Str->Prop),(∀ (i:Nat) v,vs[i]? = some v->∃ t zs,v=.ref t/\H t=some (.tup (zs.map V.str))/\Pz i zs)->∃ os,Bo H vs os/\∀ (i:Nat) zs,os[i]? = some zs->Pz i zs
 | [],_,_=>⟨[],.nil,fun i zs e=>by cases e⟩
 | v :: vs,Pz,h=>by
  obtain ⟨t,zs,rfl,ht,p⟩:=h 0 v rfl;obtain ⟨os,a,b⟩:=N3 vs (fun i=>Pz (i + 1)) fun i v e=>h (i + 1) v e
  refine ⟨zs :: os,.cons ht a,fun i ys e=>?_⟩;cases i with
  | zero=>cases e; exact p
  | succ i=>exact b i ys e
theorem Ck.tups {H:Hp} {op:List Str} {kvs:List (List A7 × V)} {L:List B4} (h:Ck H op kvs L):∃ os,Bo H (kvs.map (·.2)) os/\os.length=L.length/\∀ (i:Nat) e zs,L[i]? = some e->os[i]? = some zs->Bp op e.2.1 e.2.2 zs:=by
 obtain ⟨os,a,b⟩:=N3 (H:=H) (kvs.map (·.2)) (fun i zs=>∀ e,L[i]? = some e->Bp op e.2.1 e.2.2 zs) fun i v e=>by
  rw [YS] at e;cases q:kvs[i]? with
  | none=>rw [q] at e; cases e
  | some p=>
   rw [q] at e;obtain ⟨x,ex,_⟩:=h.mem_get q;obtain ⟨t,zs,h1,h2,h3⟩:=h.2 i p x q ex;refine ⟨t,zs,(Zf.inj e).symm.trans h1,h2,fun e' Ge=>?_⟩;rw [ex] at Ge;cases Ge
   exact h3
 refine ⟨os,a,?_,fun i e zs e1 e2=>b i zs e2 e e1⟩;rw [<-a.len,YI,h.len]
theorem Iv {ss op:List Str} {x:V} {os:List (List Str)} (sn:ss.Nodup) (on:op.Nodup) (l:os.length=(EE ss x op).length) (h:∀ (i:Nat) e zs,(EE ss x op)[i]? = some e->os[i]? = some zs->Bp op e.2.1 e.2.2 zs):os.Nodup:=by
 rw [aV,ZH];intro i j hi hj hij e;have nd:=Dk (x:=x) sn on;have i1:(EE ss x op)[i]? = some ((EE ss x op)[i]'(by lia)):=YJ _;have j1:(EE ss x op)[j]? = some ((EE ss x op)[j]'(by lia)):=YJ _;have a:=h i _ _ i1 (YJ hi);have b:=h j _ _ j1 (YJ hj);rw [e] at a;have mi:∀ {k:Nat} (hk:k < (EE ss x op).length),Fg ss op ((EE ss x op)[k]):=fun hk=>DQ (Zx.mp (ZI hk)).1
 have:=a.inj b (mi _) (mi _);rw [aV,ZH] at nd;refine nd i j (by rw [YI]; lia) (by rw [YI]; lia) hij ?_;rw [ZJ,ZJ,this]
theorem RK {ss op:List Str} {x:V} {e e':B4} (sn:ss.Nodup) (on:op.Nodup) (h:e ∈ EE ss x op) (h':e' ∈ EE ss x op) (k:e.1=e'.1):e=e':=by
 have nd:=Dk (x:=x) sn on;obtain ⟨i,hi,rfl⟩:=Zh h;obtain ⟨j,hj,rfl⟩:=Zh h';rw [aV,ZH] at nd;rcases dj i j with q | q | q
 ·exact absurd (by rw [ZJ,ZJ,k]) (nd i j (by rw [YI]; exact hi) (by rw [YI]; exact hj) q)
 ·subst q; rfl
 ·exact absurd (by rw [ZJ,ZJ,k]) (nd j i (by rw [YI]; exact hj) (by rw [YI]; exact hi) q)
theorem Bp.opn {ss op:List Str} {x:V} {e:B4} {zs:List Str} (h:Bp op e.2.1 e.2.2 zs) (he:e ∈ EE ss x op) (on:op.Nodup) (os:∀ s ∈ op,s ∈ ss):Lq ss zs:=by
 obtain ⟨m,ok⟩:=Zx.mp he;have i:=DQ m;refine ⟨fun z=>?_,h.nodup on i,h.sub os i⟩;have l:=h.1.length_eq;rw [z] at l;unfold Fv at ok;rw [Z3,aW,bY] at ok;exact ok.1 (ZF.mp l.symm)
theorem JK {H:Hp} {c m:Addr} {n:Nat} {xs:List Str} {ws:List AA} {rs1 Au:List BS} {x:V} {d:PyData} {ss:List Str} {t:Int} (cw:Cm H c m n xs ws rs1 Au x d) (o:Lq (rs1.map (·.1)) ss) (l:ss.length<=10) (tt:B5 ws rs1 Au ss t):0<=t/\t < 2 ^ 600:=by
 obtain ⟨ds,wd,rfl⟩:=tt;have a:=Qc cw.ok1 (by decide) o.2.2 (by lia);have sx:∀ s ∈ ss,s ∈ xs:=fun s hs=>by
  obtain ⟨r,hr,rfl⟩:=YT.mp (o.2.2 s hs);exact cw.ok1.sub r hr
 have q:=K0 (B:=10 ^ 30 * 2 ^ 300) (by decide) (l:=(Au.zip ds).map fun p=>p.1.2 * p.2) fun t ht=>by
  obtain ⟨p,hp,rfl⟩:=YT.mp ht;obtain ⟨i,hi,ei⟩:=Zh hp;rw [bO] at ei;rw [ay] at hi;have er:Au[i]? = some p.1:=by rw [YJ (by lia),<-ei]
  have ed:ds[i]? = some p.2:=by rw [YJ (by lia),<-ei]
  have rm:=YN er;obtain ⟨⟨s,hs,hd⟩,_⟩:=wd.2 i _ _ er ed;have md:=wd.2 i _ _ er ed;have b:0<=p.2/\p.2 < 2 ^ 300:=by
   obtain ⟨k,w,k0,k1⟩:=cw.map.sums cw.n1 cw.n30 s (sx s hs) p.1.1 (cw.ok2.sub _ rm);exact ⟨hd.pos' fun u hu=>(cw.map.at'.wn u hu).2.2.1,bF (md.2 s hs k w) k1⟩
  have cb:=cw.ok2.lo _ rm;exact ⟨Int.mul_nonneg (by lia) b.1,Int.mul_le_mul (by lia) (by lia) b.1 (by decide)⟩
 have l2:=cw.l2;have zl:(Au.zip ds).length<=30:=by rw [ay]; lia
 rw [YI] at q;have:((Au.zip ds).length:Int) * (10 ^ 30 * 2 ^ 300)<=30 * (10 ^ 30 * 2 ^ 300):=ah (by lia) (by decide);have c:(30:Int) * (10 ^ 30 * 2 ^ 300) < 2 ^ 500:=by decide
 have e:(2:Int) ^ 500 + 2 ^ 500<=2 ^ 600:=by decide +kernel
 unfold KR;refine ⟨by lia,de ?_ e⟩;lia
def Ej (p:List Str × Int):PyData:=.tuple [.tuple (p.1.map .str),.int p.2]
theorem U0.dats {H:Hp}:∀ {vs:List V} {ps:List (List Str × Int)},U0 H vs ps->AY H vs (ps.map Ej)
 | [],[],_=>.nil
 | [],_ :: _,h=>by have:=h.1; simp at this
 | _ :: _,[],h=>by have:=h.1; simp at this
 | v :: vs,p :: ps,h=>by
  obtain ⟨t,e,rfl,b,c⟩:=h.2 0 v p rfl rfl;exact .cons (.tup b (.cons (.tup c (B0 H _)) (.cons (.int _) .nil))) (U0.dats ⟨by have:=h.1; simpa using this,fun i v p e1 e2=>h.2 (i + 1) v p e1 e2⟩)
theorem RJ {ss op:List Str} {e:B4} (hs:∀ s ∈ ss,AQ s=true) (os:∀ s ∈ op,s ∈ ss) (h:e ∈ Ca ss op):(∀ s ∈ e.1,AQ s=true)/\e.1.length<=3:=by
 have w:AQ "open"=true/\AQ "shut"=true/\AQ "swap"=true:=by decide +kernel
 rcases Kh.mp h with ⟨s,a,rfl⟩ | ⟨h,a,rfl | ⟨s,b,rfl⟩⟩
 ·refine ⟨fun y hy=>?_,by show 2<=3; decide⟩;rcases YM.mp hy with rfl | hy
  ·exact w.1
  ·rw [Zc.mp hy]; exact hs _ (C8.mp a).1
 ·refine ⟨fun y hy=>?_,by show 2<=3; decide⟩;rcases YM.mp hy with rfl | hy
  ·exact w.2.1
  ·rw [Zc.mp hy]; exact hs _ (os _ a)
 ·refine ⟨fun y hy=>?_,by show 3<=3; decide⟩;rcases YM.mp hy with rfl | hy
  ·exact w.2.2
  ·rcases YM.mp hy with rfl | hy
   ·exact hs _ (os _ a)
   ·rw [Zc.mp hy]; exact hs _ (C8.mp b).1
theorem Oy {ps:List (List Str × Int)} (l:ps.length < 64) (h:∀ p ∈ ps,(∀ s ∈ p.1,AQ s=true)/\p.1.length<=3/\0<=p.2/\p.2 < 2 ^ 600):CQ (.list (ps.map Ej)) 3 60000:=by
 refine (CQ.list (k:=2) (b:=44) fun d hd=>?_).mono (YO _) (by rw [YI]; lia);obtain ⟨p,hp,rfl⟩:=YT.mp hd;obtain ⟨h1,h2,h3,h4⟩:=h p hp;refine (CQ.tuple (k:=1) (b:=21) fun e he=>?_).mono (YO _) (YO _);rcases YM.mp he with rfl | he
 ·exact (CQ.tuple (PU h1)).mono (YO _) (by rw [YI]; lia)
 ·rw [Zc.mp he];exact (CQ.intB h3 h4).mono (by decide) (by decide)
def Jp (ws:List AA) (rs1 Au:List BS) (x:V) (op zs:List Str):Prop:=∃ e t t0,e ∈ EE (rs1.map (·.1)) x op/\Bp op e.2.1 e.2.2 zs/\B5 ws rs1 Au zs t/\B5 ws rs1 Au op t0/\t < t0 /\
 ∀ e' ∈ EE (rs1.map (·.1)) x op,∀ Su t',Bp op e'.2.1 e'.2.2 Su->B5 ws rs1 Au Su t'->A8 (Cs (t',e'.1)) (Cs (t,e.1))=false
def Qg (ws:List AA) (rs1 Au:List BS) (x:V) (op:List Str):Prop:=∀ e ∈ EE (rs1.map (·.1)) x op,∀ zs t t0,Bp op e.2.1 e.2.2 zs->B5 ws rs1 Au zs t->B5 ws rs1 Au op t0->t0<=t
def BetV (H:Hp) (ws:List AA) (rs1 Au:List BS) (x:V) (op:List Str) (v:V):Prop:=(v=.non/\Qg ws rs1 Au x op)\/∃ t zs,v=.ref t/\H t=some (.tup (zs.map V.str))/\Jp ws rs1 Au x op zs
theorem Jp.uniq {ws:List AA} {rs1 Au:List BS} {x:V} {op zs ys:List Str} (sn:(rs1.map (·.1)).Nodup) (on:op.Nodup) (h:Jp ws rs1 Au x op zs) (g:Jp ws rs1 Au x op ys):zs=ys:=by
 obtain ⟨e,t,t0,h1,h2,h3,h4,h5,h6⟩:=h;obtain ⟨e',t',t0',g1,g2,g3,g4,g5,g6⟩:=g;have k:=Rx (KU _ _ (g6 e h1 zs t h2 h3) (h6 e' g1 ys t' g2 g3));have ee:e=e':=RK sn on h1 g1 (Prod.mk.inj k).2;subst ee;exact h2.uniq g2
theorem Jp.not {ws:List AA} {rs1 Au:List BS} {x:V} {op zs:List Str} (h:Jp ws rs1 Au x op zs) (g:Qg ws rs1 Au x op):False:=by
 obtain ⟨e,t,t0,h1,h2,h3,h4,h5,h6⟩:=h;have:=g e h1 zs t t0 h2 h3 h4;lia
theorem Bp.ne_op {ss op:List Str} {e:B4} {zs:List Str} (h:Bp op e.2.1 e.2.2 zs) (i:Fg ss op e):zs ≠ op:=fun z=>by
 subst z;rcases i.any with a | a
 ·cases q:e.2.1 with
  | none=>exact a q
  | some b=>
   have bm:=i.out b q;rcases h.mem.mp bm with ⟨_,c⟩ | c
   ·exact c q.symm
   ·exact (i.more b c).2 bm
 ·cases q:e.2.2 with
  | none=>exact a q
  | some s=>exact (i.more s q).2 (h.mem.mpr (.inr q))
theorem Tg {t t':Int} {k k':List Str} (h:t < t'):A8 (Cs (t',k')) (Cs (t,k))=false:=by
 have:A8 (Cs (t,k)) (Cs (t',k'))=true:=by
  show (if DH.i t=DH.i t' then A8 _ _ else D8 (.i t) (.i t'))=true
  rw [if_neg (fun e=>by injection e with e; lia)];exact decide_eq_true h
 cases q:A8 (Cs (t',k')) (Cs (t,k)) with
 | false=>rfl
 | true=>exact absurd (Gb _ _ _ this q) (by rw [Eh]; simp)
theorem Bp.ops {ss op:List Str} {x:V} {e:B4} {zs:List Str} (h:Bp op e.2.1 e.2.2 zs) (he:e ∈ EE ss x op) (sr:Bs ss) (on:op.Nodup) (os:∀ s ∈ op,s ∈ ss):Gu ss x zs:=by
 obtain ⟨m,ok⟩:=Zx.mp he;have i:=DQ m;obtain ⟨ys,e1,e2,e3,e4⟩:=(h.isOp (x:=x) sr on os i).mpr ok;have:zs=ys:=DU e1;subst this;exact ⟨e2,e3,e4⟩
def Ig:Sp:=fun vs H Q _=>∃ (c o m:Addr) (n:Nat) (xs:List Str) (ws:List AA) (rs1 Au:List BS) (x:V) (d:PyData) (op:List Str),vs=[.ref c,.ref o]/\Fy H c o m n xs ws rs1 Au x d op /\
 ∀ (H':Hp) (v:V) (t0:Int),Av H H'->B5 ws rs1 Au op t0->BetV H' ws rs1 Au x op v->Q v H'
def Gv:Sp:=fun vs H Q _=>∃ (c o m:Addr) (n:Nat) (xs:List Str) (ws:List AA) (rs1 Au:List BS) (x:V) (d:PyData) (op:List Str),vs=[.ref c,.ref o]/\Fy H c o m n xs ws rs1 Au x d op /\
 ∀ (H':Hp) (b:Bool),Av H H'->(b=true ↔ Qg ws rs1 Au x op)->Q (.bl b) H'
inductive Gs (ws:List AA) (rs1 Au:List BS) (x:V):List Str->List (List Str)->Prop
 | end {op:List Str}:Qg ws rs1 Au x op->Gs ws rs1 Au x op [op]
 | step {op zs:List Str} {r:List (List Str)}:Jp ws rs1 Au x op zs->Gs ws rs1 Au x zs r->Gs ws rs1 Au x op (op :: r)
def Fz:Sp:=fun vs H Q _=>∃ (c o m:Addr) (n:Nat) (xs:List Str) (ws:List AA) (rs1 Au:List BS) (x:V) (d:PyData) (op:List Str),vs=[.ref c,.ref o]/\Fy H c o m n xs ws rs1 Au x d op /\
 ∀ (H':Hp) (L:Addr) (us:List V) (r:List (List Str)),Av H H'->H L=none->H' L=some (.lst us)->Bo H' us r->Gs ws rs1 Au x op r->r.length<=1024->Q (.ref L) H'
theorem UT {ss:List Str} {x:V} {ys:List Str} (h:Gu ss x ys) (sn:ss.Nodup) (l:ss.length<=10):ys.length<=10:=Zj h.2.1.length_le l
theorem NA:∀ {l:List Str},l.Nodup->∃ fs,Nq l fs/\fs.length=2 ^ l.length
 | [],_=>⟨[[]],Nq.nil,rfl⟩
 | a :: l,h=>by
  obtain ⟨fs,s,e⟩:=NA (Zu.mp h).2;refine ⟨_,s.step (Zu.mp h).1,?_⟩;rw [YR,YI,e,Zm,cB];lia
theorem OW {ss:List Str} {x:V} {r:List (List Str)} (sn:ss.Nodup) (l:ss.length<=10) (rn:r.Nodup) (h:∀ y ∈ r,Gu ss x y):r.length<=1024:=by
 obtain ⟨fs,s,e⟩:=NA sn;have a:=List.Nodup.length_le_of_subset rn (fun y hy=>(s.2 y).mpr (h y hy).2.1);have b:2 ^ ss.length<=2 ^ 10:=ZR (by decide) l;lia
def Itn (a:Addr):It:=
 ⟨fun i H=>∃ xs x,H a=some (.lst xs)/\xs[i]? = some x,
   fun i H v H'=>∃ T x,H T=none/\v=.ref T/\H'=upd H T (.tup [.int i,x])/\(∀ xs,H a=some (.lst xs)->xs[i]? = some x),
   fun i H=>∃ xs,H a=some (.lst xs)/\xs.length<=i⟩
theorem OE {P:Program} {w:World} {K:YL} {es:List Expr} {x1} {pos:Pos} (a e it:Addr) (hne:e ≠ it) :
  Lk P w K (.Tuple es x1 pos) (Itn a) [e,it] e (fun i h=>(∃ old,IsEnum h e it (i:Int) old)/\h.IsListIter it a i) where
 mem:=by simp
 obj:=fun i h st c hc=>by
  obtain ⟨⟨_,h1⟩,⟨o4,e4,c4,d4⟩⟩:=st;simp only [YM,YU,or_false] at hc;rcases hc with rfl | rfl
  ·exact ⟨_,h1,fun v q=>by cases q⟩
  ·exact ⟨_,e4,fun v q=>by rw [d4] at q; cases q⟩
 keep:=fun i h h' st k=>by
  obtain ⟨⟨old,h1⟩,h4⟩:=st;exact ⟨⟨old,k _ (by simp) _ h1⟩,h4.at fun o e=>k _ (by simp) o e⟩
 item:=by
  intro X hP hw hK hc i pins s σ H E I hf st hg;subst hP hw hK;obtain ⟨xs,x,hq,hx⟩:=hg;obtain ⟨Aq,rv,p,hz⟩:=I.list (AD.of hq);obtain ⟨u,hu,ru⟩:=rv.get hx;obtain ⟨⟨old,h1⟩,h4⟩:=st;refine wpAny_pyNext_enum_item h1 h4 p.isList (x:=u) (by simpa using hu) hne fun h' g1 g2 g3 g4 g5=>?_
  have kk:∀ b' o,b' ∉ [e,it]->s.heap.get? b'=some o->h'.get? b'=some o:=fun b' o hb q=>by
   simp only [YM,YU,or_false,not_or] at hb;exact g5 b' o hb.1 hb.2 q
  have I1:=I.turnedT (t':=s.toks + 1) (xs:=[.int i,x]) hf kk ⟨by show 2<=sizeLine; decide,[.int i s.toks,u],.cons ⟨_,rfl⟩ (.cons ru .nil),⟨_,g3,rfl,0,rfl⟩,fun o q=>by rw [g3] at q; cases q; rfl⟩;have hT:H s.heap.objs.size=none:=I.hok.fresh (YO _);have hf1:∀ b' ∈ [e,it],(upd H s.heap.objs.size (.tup [.int i,x])) b'=none:=fun b' hb=>by
   have lt:b' < s.heap.objs.size:=by
    simp only [YM,YU,or_false] at hb;rcases hb with rfl | rfl
    ·exact YV h1
    ·obtain ⟨_,q,_⟩:=h4; exact YV q
   rw [Ae (YX lt)];exact (hf b' hb).1
  refine ⟨.ref s.heap.objs.size,rfl,wpAny_letOwnedTupleGo_enum g1 fun Sl z1 sb=>?_⟩;obtain ⟨_,f1,_,f3,f4,f5⟩:=hf e (by simp);have I2:=I1.turned (t':=s.toks + 1) (h':=Sl) (it:=e) (fun b' o hb q=>(sb.2 b' hb).trans q) (hf1 e (by simp)) f1 f3 f4 f5;exact ⟨.ref s.heap.objs.size,_,I2,rfl,⟨_,x,hT,rfl,rfl,fun Qi Jq=>by rw [hq] at Jq; injection Jq with Jq; injection Jq with Jq; rw [<-Jq]; exact hx⟩,
   ⟨⟨_,z1⟩,g2.at fun o q=>(sb.2 _ hne.symm).trans q⟩,hf1⟩
 done:=by
  intro X hP hw hK hc i pins s σ H E I hf st hg;subst hP hw hK;obtain ⟨xs,hq,hx⟩:=hg;obtain ⟨Aq,rv,p,hz⟩:=I.list (AD.of hq);obtain ⟨⟨old,h1⟩,h4⟩:=st;have e1:=rv.length;refine wpAny_pyNext_enum_end (I.ok.hd hc) h1 h4 p.isList (by simp; lia) fun h' g7=>⟨rfl,I.turnedL (t':=s.toks) hf fun b' o hb q=>?_⟩
  simp only [YM,YU,or_false,not_or] at hb;exact g7 b' o hb.2 q
 self:=fun _ _ _ _ _ st h=>let ⟨⟨_,h1⟩,_⟩:=st; wpAny_pyIter_enum h1 h
def iEnum (tl:TA):TI:=fun σ H R=>tl σ H fun vs H1=>∃ a xs,vs=[.ref a]/\H1 a=some (.lst xs)/\R (Itn a) H1
theorem SN {X:Cx} {es:List Expr} {x1} {tp:Pos} {a:Expr} {ta:TA} {p pos:Pos} (hg:Gl X "enumerate") (hm:X.mg "enumerate"=none) (ha:PA X [a] ta) (hs:starEach [a] X.env=[(false,eval a X.env)]:=by rfl) :
  PI X (.Tuple es x1 tp) (.Call (.Name "enumerate" p) [a] [] pos) (iEnum ta):=by
 intro pins s σ H R I h;refine Call_ (GB I hg hm boot_enumerate (PyProof.Rows.callWith_type1 (Bj (ha (pos:=pos) (pins:=pins) s σ H _ I h) fun us s1 ⟨vs,H1,I1,r1,q1⟩=>?_) (by rw [hs]; rfl) (by rfl)));obtain ⟨a',xs,e,hx,q⟩:=q1;subst e;obtain ⟨u,rfl,ru⟩:=BZ r1;cases ru
 obtain ⟨z,Aq,n,r,hl,e⟩:=I1.lstM hx;refine call_enumerate_1 e fun h' g1 g2 g3 g4=>?_
 have I2:An X pins σ H1 { s1 with heap:=h' }:=I1.kept (t':=s1.toks) g4;refine wpAny_pyIter_enum g1 ?_;refine ⟨_,_,_,_,H1,rfl,I2,OE a' _ _ (by intro z0; have z1:@Eq Nat _ _:=z0; lia),⟨⟨_,g1⟩,g2⟩,fun c hc=>?_,q⟩;have le:s1.heap.objs.size<=c:=by
  simp only [YM,YU,or_false] at hc;rcases hc with rfl | rfl <;> first | exact Nat.le_add_right _ _ | exact YO _
 exact I1.fpOk le (I1.hok.fresh le)
theorem RG {a:Addr} {xs:List V} {g:TG} {tb:TS} {D:Ex} {σ:St} {H:Hp} (Pv:Nat->St->Hp->Prop) (h0:Pv 0 σ H) (hl:∀ i σ H,i<=xs.length->Pv i σ H->H a=some (.lst xs))
  (hs:∀ i x σ H T,xs[i]? = some x->Pv i σ H->H T=none->g (.ref T) σ (upd H T (.tup [.int i,x])) fun Az H2=>tb { D with nx:=Pv (i + 1),ct:=Pv (i + 1),bk:=D.nx } Az H2) (hd:∀ σ H,Pv xs.length σ H->D.nx σ H) :
  ∃ W:Nat->Nat->St->Hp->Prop,(∃ m,W 0 m σ H)/\∀ i m σ H,W i m σ H ->
   ((Itn a).stop i H/\D.nx σ H)\/((Itn a).go i H/\∃ N:St->Hp->Prop,(∀ Aw H',N Aw H'->∃ m',m' < m/\W (i + 1) m' Aw H')/\∀ x H',(Itn a).yld i H x H'->g x σ H' fun Az H2=>tb { D with nx:=N,ct:=N,bk:=D.nx } Az H2):=by
 refine ⟨fun i m σ H=>m=xs.length - i/\i<=xs.length/\Pv i σ H,⟨xs.length,by simp,Zz _,h0⟩,?_⟩;rintro i m σ H ⟨rfl,hi,p⟩;have q1:=hl i σ H hi p;by_cases Bv:i < xs.length
 ·refine .inr ⟨⟨xs,xs[i],q1,YJ Bv⟩,Pv (i + 1),fun Aw H' p'=>⟨xs.length - (i + 1),by lia,rfl,Bv,p'⟩,fun x H' y=>?_⟩;obtain ⟨T,u,hT,rfl,rfl,e1⟩:=y;exact hs i u σ _ T (e1 xs q1) p hT
 ·have e:i=xs.length:=by lia
  subst e;exact .inl ⟨⟨xs,q1,YO _⟩,hd σ H p⟩
theorem Rt {H:Hp} {c m:Addr} {n:Nat} {xs:List Str} {ws:List AA} {rs1 Au:List BS} {x:V} {d:PyData} {ss:List Str} {y:Str} {k:Int} (cw:Cm H c m n xs ws rs1 Au x d) (sx:∀ s ∈ ss,s ∈ xs) (hy:y ∈ xs) (h:Md ws ss y k):0<=k/\k < 2 ^ 300:=by
 obtain ⟨⟨s,hs,hd⟩,hm⟩:=h;obtain ⟨k',w,k0,k1⟩:=cw.map.sums cw.n1 cw.n30 s (sx s hs) y hy;exact ⟨hd.pos' fun u hu=>(cw.map.at'.wn u hu).2.2.1,bF (hm s hs k' w) k1⟩
theorem CL {H:Hp} {c m:Addr} {n:Nat} {xs:List Str} {ws:List AA} {rs1 Au:List BS} {x:V} {d:PyData} {ss:List Str} (cw:Cm H c m n xs ws rs1 Au x d) (o:Lq (rs1.map (·.1)) ss):Lq xs ss:=o.mono fun s hs=>by
 obtain ⟨r,hr,rfl⟩:=YT.mp hs;exact cw.ok1.sub r hr
theorem Gf {H:Hp} {c m:Addr} {n:Nat} {xs:List Str} {ws:List AA} {rs1 Au:List BS} {x:V} {d:PyData} {ss:List Str} (cw:Cm H c m n xs ws rs1 Au x d) (o:Lq xs ss):∀ gs,ES ws ss Au gs->∀ g ∈ gs,-(2 ^ 300) < g.2.2/\g.2.2 < 2 ^ 300:=fun gs go g hg=>by
 obtain ⟨i,hi,ei⟩:=Zh hg;have er:Au[i]? = some (Au[i]'(by rw [<-go.1]; exact hi)):=YJ _;have h:=(go.2 i _ _ er (by rw [YJ hi,ei])).2.md;have:=Rt cw o.2.2 (cw.ok2.sub _ (YN er)) h;exact ⟨by lia,this.2⟩
theorem Gu.opn {ss:List Str} {x:V} {ys:List Str} (h:Gu ss x ys) (sn:ss.Nodup):Lq ss ys:=⟨h.1,h.2.1.nodup sn,fun s hs=>h.2.1.subset hs⟩
theorem LS {α:Type} {l:List α} {h:α} (n:l.Nodup) (m:∀ y,y ∈ l ↔ y=h):l=[h]:=by
 cases l with
 | nil=>exact absurd ((m h).mpr rfl) (by simp)
 | cons a l=>
  have ea:=(m a).mp Zg;subst ea;cases l with
  | nil=>rfl
  | cons b l=>
   have eb:=(m b).mp (by simp);subst eb;exact absurd Zg (Zu.mp n).1
theorem JX {α:Type} {l:List α} (m:∀ y,y ∉ l):l=[]:=List.eq_nil_iff_forall_not_mem.mpr m
theorem Bp.out {ss op:List Str} {e:B4} {zs:List Str} (h:Bp op e.2.1 e.2.2 zs) (on:op.Nodup) (i:Fg ss op e):op.filter (fun y=>decide (y ∉ zs))=e.2.1.toList:=by
 have mem:∀ y,y ∈ op.filter (fun y=>decide (y ∉ zs)) ↔ e.2.1=some y:=fun y=>by
  rw [Zx,decide_eq_true_eq,h.mem];constructor
  ·rintro ⟨a,b⟩;by_cases q:e.2.1=some y
   ·exact q
   ·exact absurd (.inl ⟨a,fun z=>q z.symm⟩) b
  ·intro q;have ym:=i.out y q;exact ⟨ym,fun z=>by
    rcases z with ⟨_,z⟩ | z
    ·exact z q.symm
    ·exact (i.more y z).2 ym⟩
 cases q:e.2.1 with
 | none=>exact JX fun y hy=>by have:=(mem y).mp hy; rw [q] at this; cases this
 | some b=>exact LS (on.filter _) fun y=>by rw [mem,q]; exact ⟨fun z=>(Zf.inj z).symm,fun z=>by rw [z]⟩
theorem Bp.into {ss op:List Str} {e:B4} {zs:List Str} (h:Bp op e.2.1 e.2.2 zs) (on:op.Nodup) (i:Fg ss op e):zs.filter (fun y=>decide (y ∉ op))=e.2.2.toList:=by
 have mem:∀ y,y ∈ zs.filter (fun y=>decide (y ∉ op)) ↔ e.2.2=some y:=fun y=>by
  rw [Zx,decide_eq_true_eq,h.mem];constructor
  ·rintro ⟨⟨a,_⟩ | a,b⟩
   ·exact absurd a b
   ·exact a
  ·intro q;exact ⟨.inr q,(i.more y q).2⟩
 cases q:e.2.2 with
 | none=>exact JX fun y hy=>by have:=(mem y).mp hy; rw [q] at this; cases this
 | some b=>exact LS ((h.nodup on i).filter _) fun y=>by rw [mem,q]; exact ⟨fun z=>(Zf.inj z).symm,fun z=>by rw [z]⟩
def Nj (e:B4):Str:=match e.2.1,e.2.2 with
 | none,_=>"open"
 | some _,none=>"shut"
 | some _,some _=>"swap"
theorem Tv {ss op:List Str} {e:B4} (i:Fg ss op e):e.1=Nj e :: (e.2.1.toList ++ e.2.2.toList)/\JA [V.str "open",V.str "shut",V.str "swap"] ((e.2.1.toList.length:Int) * (1 + (e.2.2.toList.length:Int)))=some (.str (Nj e)):=by
 have k:=i.key;obtain ⟨a,b,c⟩:=e;cases b with
 | none=>
  cases c with
  | none=>exact absurd i.any (by simp)
  | some s=>rw [k]; exact ⟨rfl,rfl⟩
 | some h=>
  cases c with
  | none=>rw [k]; exact ⟨rfl,rfl⟩
  | some s=>rw [k]; exact ⟨rfl,rfl⟩
theorem Tf {t t':Int} {k k':List Str} (h:t < t'):A8 (Cs (t,k)) (Cs (t',k'))=true:=by
 show (if DH.i t=DH.i t' then A8 _ _ else D8 (.i t) (.i t'))=true
 rw [if_neg (fun e=>by injection e with e; lia)];exact decide_eq_true h
theorem Gs.head {ws:List AA} {rs1 Au:List BS} {x:V} {op:List Str} {r:List (List Str)} (h:Gs ws rs1 Au x op r):∃ l,r=op :: l:=by
 cases h with
 | «end» _=>exact ⟨[],rfl⟩
 | step _ _=>exact ⟨_,rfl⟩
theorem Jp.ops {ws:List AA} {rs1 Au:List BS} {x:V} {op zs:List Str} (h:Jp ws rs1 Au x op zs) (sr:Bs (rs1.map (·.1))) (o:Gu (rs1.map (·.1)) x op):Gu (rs1.map (·.1)) x zs:=by
 obtain ⟨e,t,t0,h1,h2,_⟩:=h;obtain ⟨on,os,_⟩:=De o sr.nodup;exact h2.ops h1 sr on os
theorem Gs.uniq {ws:List AA} {rs1 Au:List BS} {x:V} (sr:Bs (rs1.map (·.1))):∀ {op:List Str} {r r':List (List Str)},Gu (rs1.map (·.1)) x op->Gs ws rs1 Au x op r->Gs ws rs1 Au x op r'->r=r':=by
 intro op r r' o h;induction h generalizing r' with
 | «end» bn=>
  intro g;cases g with
  | «end» _=>rfl
  | step bs _=>exact (bs.not bn).elim
 | step bs h ih=>
  intro g;cases g with
  | «end» bn=>exact (bs.not bn).elim
  | step bs' g=>
   have on:=(De o sr.nodup).1;have e:=bs.uniq sr.nodup on bs';subst e;rw [ih (bs.ops sr o) g]
theorem Gs.at {ws:List AA} {rs1 Au:List BS} {x:V} (sr:Bs (rs1.map (·.1))):∀ {op:List Str} {r:List (List Str)},Gu (rs1.map (·.1)) x op->Gs ws rs1 Au x op r->∀ (k:Nat) y,r[k]? = some y->Gu (rs1.map (·.1)) x y/\Gs ws rs1 Au x y (r.drop k)/\(Qg ws rs1 Au x y ↔ k + 1=r.length)/\∀ z,r[k + 1]? = some z->Jp ws rs1 Au x y z:=by
 intro op r o h;induction h with
 | «end» bn=>
  intro k y e;cases k with
  | zero=>cases e; exact ⟨o,.end bn,⟨fun _=>rfl,fun _=>bn⟩,fun z e=>by cases e⟩
  | succ k=>cases e
 | step bs h ih=>
  intro k y e;cases k with
  | zero=>
   cases e
   obtain ⟨l,rfl⟩:=h.head;exact ⟨o,.step bs h,⟨fun z=>(bs.not z).elim,fun z=>by simp at z⟩,fun z e=>by cases e; exact bs⟩
  | succ k=>
   rw [ae] at e;obtain ⟨a,b,c,d⟩:=ih (bs.ops sr o) k y e;exact ⟨a,b,c.trans (by rw [Zm]; lia),fun z e=>d z e⟩
theorem Jc (r:List (List Str)):(PyData.list (r.map fun f=>PyData.tuple (f.map PyData.str))).depth<=60:=by
 rw [PyData.depth];have:PyData.depthAll (r.map fun f=>PyData.tuple (f.map PyData.str))<=1:=by
  induction r with
  | nil=>rw [bH,PyData.depthAll]; decide
  | cons f r ih=>
   rw [Zb,PyData.depthAll,PyData.depth,C9];lia
 lia
theorem Bo.drop {H:Hp} {us:List V} {fs:List (List Str)} (h:Bo H us fs) (k:Nat):Bo H (us.drop k) (fs.drop k):=by
 induction h generalizing k with
 | nil=>rw [dM,dM]; exact .nil
 | cons a b ih=>
  cases k with
  | zero=>exact .cons a b
  | succ k=>exact ih k
def NH:Sp:=fun vs H Q _=>∃ (c m:Addr) (n:Nat) (xs:List Str) (ws:List AA) (rs1 Au:List BS) (x:V) (d:PyData),vs=[.ref c]/\Cm H c m n xs ws rs1 Au x d/\rs1.length<=6 /\
 ∀ (H':Hp) (v:V) (k:Int × List Str),Av H H'->RW H' v k->Vz ws rs1 Au x k->Q v H'
def JL:Sp:=fun vs H Q _=>∃ (c o o2 m:Addr) (n:Nat) (xs:List Str) (ws:List AA) (rs1 Au:List BS) (x:V) (d:PyData) (op zs:List Str),vs=[.ref c,.ref o,.ref o2]/\Fy H c o m n xs ws rs1 Au x d op/\H o2=some (.tup (zs.map V.str))/\Jp ws rs1 Au x op zs/\∀ H',Av H H'->Q (.bl true) H'
def O7 (ws:List AA) (rs1 Au:List BS) (x:V) (l:Int):Prop:=∀ ss t,Gu (rs1.map (·.1)) x ss->B5 ws rs1 Au ss t->l<=t
def Ie:Sp:=fun vs H Q _=>∃ (c o m:Addr) (n:Nat) (xs:List Str) (ws:List AA) (rs1 Au:List BS) (x:V) (d:PyData) (op:List Str) (l:Int),vs=[.ref c,.ref o,.int l]/\Fy H c o m n xs ws rs1 Au x d op/\O7 ws rs1 Au x l/\∀ H',Av H H'->Q (.bl true) H'
section
variable {bb:Bool} {h h':Heap} {a b i l:Addr} {k:Nat} {items:Array Value}
end
section
variable {prog:Program} {w:World} {A:Around} {E:Value->Shared->Prop} {s:Shared}
end
section
variable {prog:Program} {w:World} {A:Around} {E:Value->Shared->Prop} {s:Shared}
end
end L2
namespace K46
open PySem L2
def top (i:Nat):Stmt:=PySem.Challenge.pw_openhouses_k46_whole_better_and_better.main.body.getD i (.Pass ⟨0,0,0,0⟩)
abbrev EX:Stmt:=top 2
theorem MI:A2 ["thing"] ["thing"] (Am EX):=⟨rfl,rfl,rfl,by decide +kernel,rfl,by decide +kernel,by decide +kernel⟩
abbrev Dc:Stmt:=top 3
theorem Fq:A2 ["things"] ["things"] (Am Dc):=⟨rfl,rfl,rfl,by decide +kernel,rfl,by decide +kernel,by decide +kernel⟩
abbrev CZ:Stmt:=top 5
theorem Fp:A2 ["case","thing","sites"] ["case","thing"] (Am CZ):=⟨rfl,rfl,rfl,by decide +kernel,rfl,by decide +kernel,by decide +kernel⟩
abbrev DW:Stmt:=top 6
theorem Hf:A2 ["case","most","begun","place","number"] ["case"] (Am DW):=⟨rfl,rfl,rfl,by decide +kernel,rfl,by decide +kernel,by decide +kernel⟩
abbrev Ce:Stmt:=top 7
theorem E4:A2 ["case","web","sites","folk","limit"] ["case"] (Am Ce):=⟨rfl,rfl,rfl,by decide +kernel,rfl,by decide +kernel,by decide +kernel⟩
abbrev CY:Stmt:=top 9
theorem Fl:A2 ["web","places","ways","beside","one","other","length"] ["web"] (Am CY):=⟨rfl,rfl,rfl,by decide +kernel,rfl,by decide +kernel,by decide +kernel⟩
abbrev K6:Stmt:=top 11
theorem NL:A2 ["web","place","told"] ["web","place"] (Am K6):=⟨rfl,rfl,rfl,by decide +kernel,rfl,by decide +kernel,by decide +kernel⟩
abbrev Dy:Stmt:=top 12
theorem FN:A2 ["case"] ["case"] (Am Dy):=⟨rfl,rfl,rfl,by decide +kernel,rfl,by decide +kernel,by decide +kernel⟩
abbrev DM:Stmt:=top 13
theorem Ii:A2 ["web","starts","beside","reached","settled","so_far","start","here","name","by_here"] ["web","starts"] (Am DM):=⟨rfl,rfl,rfl,by decide +kernel,rfl,by decide +kernel,by decide +kernel⟩
abbrev CW:Stmt:=top 15
theorem Fj:A2 ["case","costs"] ["case"] (Am CW):=⟨rfl,rfl,rfl,by decide +kernel,rfl,by decide +kernel,by decide +kernel⟩
abbrev C4:Stmt:=top 16
theorem Hi:A2 ["case","chosen","web","sites","folk","limit","charges","aways","costs","houses","ways"] ["case","chosen"] (Am C4):=⟨rfl,rfl,rfl,by decide +kernel,rfl,by decide +kernel,by decide +kernel⟩
abbrev D4:Stmt:=top 18
theorem FP:A2 ["case","opening","outcomes","costs"] ["case","opening"] (Am D4):=⟨rfl,rfl,rfl,by decide +kernel,rfl,by decide +kernel,by decide +kernel⟩
abbrev Cy:Stmt:=top 19
theorem Fo:A2 ["case","opening"] ["case","opening"] (Am Cy):=⟨rfl,rfl,rfl,by decide +kernel,rfl,by decide +kernel,by decide +kernel⟩
abbrev Dm:Stmt:=top 20
theorem Hj:A2 ["case","opening","row","following"] ["case","opening"] (Am Dm):=⟨rfl,rfl,rfl,by decide +kernel,rfl,by decide +kernel,by decide +kernel⟩
abbrev E7:Stmt:=top 21
theorem JQ:A2 ["case","opening","outcomes","costs","cheaper"] ["case","opening"] (Am E7):=⟨rfl,rfl,rfl,by decide +kernel,rfl,by decide +kernel,by decide +kernel⟩
abbrev Cd:Stmt:=top 22
theorem E3:A2 ["case","opening","others","outcomes","house","site"] ["case","opening"] (Am Cd):=⟨rfl,rfl,rfl,by decide +kernel,rfl,by decide +kernel,by decide +kernel⟩
abbrev EY:Stmt:=top 23
theorem Ij:A2 ["opening","out","more","kept"] ["opening","out","more"] (Am EY):=⟨rfl,rfl,rfl,by decide +kernel,rfl,by decide +kernel,by decide +kernel⟩
abbrev FQ:Stmt:=top 25
theorem JP:A2 ["case","opening","web","sites","folk","limit","houses"] ["case","opening"] (Am FQ):=⟨rfl,rfl,rfl,by decide +kernel,rfl,by decide +kernel,by decide +kernel⟩
abbrev CC:Stmt:=top 26
theorem E6:A2 ["case","opening","costs"] ["case","opening"] (Am CC):=⟨rfl,rfl,rfl,by decide +kernel,rfl,by decide +kernel,by decide +kernel⟩
abbrev Dx:Stmt:=top 27
theorem FL:A2 ["case","opening","manys"] ["case","opening"] (Am Dx):=⟨rfl,rfl,rfl,by decide +kernel,rfl,by decide +kernel,by decide +kernel⟩
abbrev Gx:Stmt:=top 28
theorem NM:A2 ["case","opening"] ["case","opening"] (Am Gx):=⟨rfl,rfl,rfl,by decide +kernel,rfl,by decide +kernel,by decide +kernel⟩
abbrev AN:Stmt:=top 30
theorem CK:A2 ["_law_pen","_law_many","_law_place","_law_cell","_law_number","_law_digit"] ["_law_pen","_law_many"] (Am AN):=⟨rfl,rfl,rfl,by decide +kernel,rfl,by decide +kernel,by decide +kernel⟩
abbrev Dz:Stmt:=top 31
theorem FO:A2 ["_law_pen","_law_many","_law_letters","_law_first","_law_base","_law_at","_law_more","_law_found","_law_k","_law_letter"] ["_law_pen","_law_many"] (Am Dz):=⟨rfl,rfl,rfl,by decide +kernel,rfl,by decide +kernel,by decide +kernel⟩
abbrev Cw:Stmt:=top 32
theorem Fm:A2 ["_law_pen","_law_way"] ["_law_pen"] (Am Cw):=⟨rfl,rfl,rfl,by decide +kernel,rfl,by decide +kernel,by decide +kernel⟩
abbrev C3:Stmt:=top 33
theorem F0:A2 ["_law_pen","_law_names_here","_law_shape","_law_ways","_law_k","_law_other","_law_turn","_law_pair"] ["_law_pen","_law_names_here","_law_shape"] (Am C3):=⟨rfl,rfl,rfl,by decide +kernel,rfl,by decide +kernel,by decide +kernel⟩
abbrev DX:Stmt:=top 34
theorem Hg:A2 ["_law_pen","_law_names_here","_law_many","_law_left","_law_found","_law_k"] ["_law_pen","_law_names_here","_law_many"] (Am DX):=⟨rfl,rfl,rfl,by decide +kernel,rfl,by decide +kernel,by decide +kernel⟩
abbrev DY:Stmt:=top 35
theorem Hh:A2 ["_law_pen","_law_shape","_law_names_here","_law_plan","_law_way","_law_sites","_law_place","_law_folk","_law_limit"] ["_law_pen","_law_shape"] (Am DY):=⟨rfl,rfl,rfl,by decide +kernel,rfl,by decide +kernel,by decide +kernel⟩
abbrev Cv:Stmt:=top 36
theorem Es:A2 ["_law_case_here","_law_found","_law_place","_law_amount","_law_most"] ["_law_case_here"] (Am Cv):=⟨rfl,rfl,rfl,by decide +kernel,rfl,by decide +kernel,by decide +kernel⟩
abbrev CB:Stmt:=top 37
theorem E5:A2 ["_law_case_here","_law_one","_law_other","_law_out","_law_into","_law_exchange","_law_total"] ["_law_case_here","_law_one","_law_other"] (Am CB):=⟨rfl,rfl,rfl,by decide +kernel,rfl,by decide +kernel,by decide +kernel⟩
abbrev Cn:Stmt:=top 38
theorem DL:A2 ["_law_case_here","_law_opening","_law_least","_law_told","_law_k","_law_one"] ["_law_case_here","_law_opening","_law_least"] (Am Cn):=⟨rfl,rfl,rfl,by decide +kernel,rfl,by decide +kernel,by decide +kernel⟩
abbrev QM:Stmt:=top 39
theorem QL:A2 ["_law_script","_law_pen","_law_turn","_law_case_here","_law_every","_law_least","_law_best","_law_opening","_law_k"] ["_law_script"] (Am QM):=⟨rfl,rfl,rfl,by decide +kernel,rfl,by decide +kernel,by decide +kernel⟩
def NF (K:YL):Sp:=fun vs H Q _=>∃ (a:Addr) (ns:List Int),vs=[.ref a]/\Nr K H a (ns.map V.int)/\ns.length<=63/\∀ H',Q (.bl true) H'
section
variable {P:Program} {w:World} {K:YL} {mg:Str->Option Value} {base:Heap}
theorem US (h_len:mg "len"=none) (h_range:mg "range"=none) {fT:Addr} {fdT:FuncData} (XT:Fn K mg "_law_take" AN ["_law_pen","_law_many"] fT fdT) (GT:A3 P w K mg base Bt 1 fT fdT ["_law_pen","_law_many"] (DV K)) {fCA:Addr} {fdCA:FuncData} (XCA:Fn K mg "_law_case" DY ["_law_pen","_law_shape"] fCA fdCA) (GCA:A3 P w K mg base Bt 4 fCA fdCA ["_law_pen","_law_shape"] (NG K)) {fOP:Addr} {fdOP:FuncData} (XOP:Fn K mg "_law_openings" Cv ["_law_case_here"] fOP fdOP) (GOP:A3 P w K mg base Bt 1 fOP fdOP ["_law_case_here"] K3) {fPB:Addr} {fdPB:FuncData} (XPB:Fn K mg "plain_best" CW ["case"] fPB fdPB) (GPB:A3 P w K mg base Bt 6 fPB fdPB ["case"] NH) {fCT:Addr} {fdCT:FuncData} (XCT:Fn K mg "cost" Gx ["case","opening"] fCT fdCT) (GCT:A3 P w K mg base Bt 5 fCT fdCT ["case","opening"] K2) {fSE:Addr} {fdSE:FuncData} (XSE:Fn K mg "is_settled" Cy ["case","opening"] fSE fdSE) (GSE:A3 P w K mg base Bt 7 fSE fdSE ["case","opening"] Gv) {fBR:Addr} {fdBR:FuncData} (XBR:Fn K mg "bettered" Dm ["case","opening"] fBR fdBR) (GBR:A3 P w K mg base Bt 7 fBR fdBR ["case","opening"] Fz) {fRR:Addr} {fdRR:FuncData} (XRR:Fn K mg "_law_row_right" Cn ["_law_case_here","_law_opening","_law_least"] fRR fdRR) (GRR:A3 P w K mg base Bt 8 fRR fdRR ["_law_case_here","_law_opening","_law_least"] Ie) {f:Addr} {fd:FuncData} (F:DT K "law" "law" QM f fd):A3 P w K mg base Bt 9 f fd ["_law_script"] (NF K):=by
 refine F.ok QL (fun vs H Q E h=>?_) (fun cdv A outer s H vs Q E hr h=>?_)
 ·obtain ⟨a,ns,rfl,_⟩:=h;rfl
 ·obtain ⟨a,ns,rfl,hS,hlen,k⟩:=h;have nd:=QL.nd;have EB:=hr.units;have big:100000 < sizeLine:=by decide
  refine ⟨_,(Af (Ar (i:=1) nd rfl (Or.inl rfl) (Bq (Aa (pv 0) (Aa Ah (Aa Ah Ac)))))
  (Af (BL PassesOwn.never rfl (Dg (by rfl) h_range (Aa Ah Ac)) (Ai (i:=2) nd rfl (Or.inl rfl))
  (Af (Ar (i:=3) nd rfl (Or.inr rfl) (Aj GCA (hr.mono (by decide)) (by rfl) XCA.mg XCA.F.kp XCA.b .nil As (Aa (pv 1) (Aa (Aj GT (hr.mono (by decide)) (by rfl) XT.mg XT.F.kp XT.b .nil As (Aa (pv 1) (Aa Ah Ac))) Ac))))
  (Af (Ar (i:=4) nd rfl (Or.inl rfl) (Aj GOP (hr.mono (by decide)) (by rfl) XOP.mg XOP.F.kp XOP.b .nil As (Aa (pv 3) Ac)))
  (Af (Eb (Aj GPB (hr.mono (by decide)) (by rfl) XPB.mg XPB.F.kp XPB.b .nil As (Aa (pv 3) Ac)) (B7 K rfl rfl (Ap (Ai (i:=5) nd rfl (Or.inr rfl)) (Ap (Ai (i:=6) nd rfl (Or.inl rfl)) Bw))))
  (Af (BL PassesOwn.never rfl (BM K rfl (Ay G4 (Bq (Aa (pv 6) Ac)) (Be (N:=["_law_one","_law_case_here","_law_least"]) (σ0:=fun σ=>[none,some 3,some 5].map fun j=>j.bind fun j=>(σ[j]?).join) rfl (A6.caught (by rfl) (by decide +kernel) rfl (by decide +kernel) (by intro y hy; simp only [YM,YU,or_false] at hy; rcases hy with rfl | rfl <;> rfl)
   (by intro y hy e; simp only [YM,YU,or_false] at hy; rcases hy with rfl | rfl | rfl | rfl | rfl <;> first | exact ⟨_,rfl⟩ | cases e)) (fun σ _=>AH.of [none,some 3,some 5] rfl (by
   intro i j x h1 h2;match i,h1,h2 with
   | 0,_,h2=>cases h2
   | 1,h1,h2=>cases h1; cases h2; exact ⟨rfl,.inl rfl,.inl rfl⟩
   | 2,h1,h2=>cases h1; cases h2; exact ⟨rfl,.inl rfl,.inl rfl⟩
   | n + 3,h1,_=>cases h1)) (BM K rfl (pv 4))
   (fun s2 H C fp=>⟨(Ai (i:=0) (show (["_law_one","_law_case_here","_law_least"]:List Str).Nodup by decide +kernel) rfl (Or.inl rfl)),(CF (AV Oc (Aj GCT (hr.mono (by decide)) (by rfl) XCT.mg XCT.F.kp XCT.b .nil As (Aa (pv 1) (Aa (pv 0) Ac))) (pv 2) (Bi _))),(pv 0)⟩)))) (Ai (i:=7) nd rfl (Or.inl rfl))
  (Ak (D5 (JT (F1 (G1 (Aj GSE (hr.mono (by decide)) (by rfl) XSE.mg XSE.F.kp XSE.b .nil As (Aa (pv 3) (Aa (pv 7) Ac))))) (G0 (AV (G3 EB) (Aj GBR (hr.mono (by decide)) (by rfl) XBR.mg XBR.F.kp XBR.b .nil As (Aa (pv 3) (Aa (pv 7) Ac))) (Bq (Aa (pv 7) Ac)) (Bi _)))).pt
  (Ak (A4 FW))
  BG)))
  (Ak (BL PassesOwn.never rfl (Dg (by rfl) h_range (Aa Ah Ac)) (Ai (i:=8) nd rfl (Or.inl rfl))
  (Ak (D5 (F1 (G1 (Aj GRR (hr.mono (by decide)) (by rfl) XRR.mg XRR.F.kp XRR.b .nil As (Aa (pv 3) (Aa (AJ (AF K rfl) (pv 4) (Aj GT (hr.mono (by decide)) (by rfl) XT.mg XT.F.kp XT.b .nil As (Aa (pv 1) (Aa (Al (Ax K rfl) (by rfl) h_len PySem.boot_len (Aa (pv 4) Ac)) Ac))) (fun _ _=>rfl)) (Aa (pv 5) Ac))))))
  (Ak (A4 FW))
  BG)))))))))
  (Ak (A4 FW)))),?_⟩
  refine ⟨_,rfl,(by show 3<=sizeLine; lia),fun p hp=>?_⟩;have P0:Eo K (upd H p (.lst [.ref a,.int 0,.int 0])) p:=⟨a,ns,0,0,Ab,hS.same (Ad hp),hlen,by decide,by decide⟩
  generalize upd H p (.lst [.ref a,.int 0,.int 0])=H0 at P0;refine ⟨3,rfl,by decide,by decide,Di (n:=3) (fun _ σ H'=>∃ v2 v3 v4 v5 v6 v7 v8,σ=[some (.ref a),some (.ref p),v2,v3,v4,v5,v6,v7,v8]/\Eo K H' p) ⟨_,_,_,_,_,_,_,rfl,P0⟩ ?_ (fun σ H' _=>k H')⟩;rintro j σ H1 hj ⟨v2,v3,v4,v5,v6,v7,v8,rfl,P1⟩;refine ⟨_,rfl,_,rfl,p,4,rfl,P1,by decide,by decide,fun sh H2 P2 k2 WN sh1=>?_⟩;refine ⟨p,sh,rfl,P2,WN,sh1,fun H3 c m n xs ws rs1 Au x d P3 k3 cs=>?_⟩;have l6:=cs.l6;have VU:=cs.cw.ok1.one;have sn:=cs.cw.ok1.nd;have ri:Bs (rs1.map (·.1)):=Gz (C2 cs.so1) sn;have sl:(rs1.map (·.1)).length<=10:=by rw [YI]; exact cs.cw.l1
  have nms:∀ s ∈ rs1.map (·.1),AQ s=true:=fun s hs=>by
   obtain ⟨r,Lm,rfl⟩:=YT.mp hs;exact cs.cw.map.at'.nm _ (cs.cw.ok1.sub r Lm)
  have rowd:∀ {H':Hp} {us:List V} {r:List (List Str)} {L:Addr},(∀ y ∈ r,Gu (rs1.map (·.1)) x y)->Bo H' us r->H' L=some (.lst us)->Fx H' (.ref L) (.list (r.map fun f=>PyData.tuple (f.map PyData.str)))/\(PyData.list (r.map fun f=>PyData.tuple (f.map PyData.str))).canLay0=true/\(PyData.list (r.map fun f=>PyData.tuple (f.map PyData.str))).depth<=60:=fun {H' us r L} ro tU hL=>by
   refine ⟨.lst hL tU.dats,by rw [PyData.canLay0]; exact IG fun f hf s hs=>nms s ((ro f hf).2.1.subset hs),Jc r⟩
  refine ⟨_,rfl,c,rs1.map (·.1),x,d,rfl,cs.cw.sites,by rw [YI]; exact l6,fun H4 EV us os s4 fE hE tU op ol=>?_⟩;have ul:=tU.len;have one:os ≠ []:=op.ne (fun z=>by have:=congrArg ZW z; rw [YI] at this; simp at this; rw [this] at VU; simp at VU) cs.cw.lim;refine ⟨_,rfl,c,m,n,xs,ws,rs1,Au,x,d,rfl,cs.cw.same s4,l6,fun H5 v kb s5 kn best=>?_⟩;obtain ⟨tb,lb,rfl,htb,hlb⟩:=kn;obtain ⟨bo,btot,bmin⟩:=id best;have WR:=s4.trans s5;have hE5:=s5 _ _ hE;have Xu:=tU.keep fun b ys z=>s5 _ _ z
  have cw5:=cs.cw.same WR;have P5:=P3.same WR;have least:O7 ws rs1 Au x kb.1:=fun ss t o tt=>by
   have q:=bmin ss t o tt;by_cases z:t < kb.1
   ·rw [show kb=(kb.1,kb.2) from rfl,Tf z] at q;cases q
   ·lia
  have setl:∀ {ys:List Str},Gu (rs1.map (·.1)) x ys->B5 ws rs1 Au ys kb.1->Qg ws rs1 Au x ys:=fun {ys} o tt e he zs t t0 oc tz ty=>by
   rw [ty.uniq tt];obtain ⟨on,osub,_⟩:=De o sn;exact least zs t (oc.ops he ri on osub) tz
  refine ⟨tb,_,rfl,AI.of htb,rfl,_,_,rfl,_,_,rfl,rfl,?_⟩;refine ⟨_,rfl,(by show 1<=sizeLine; lia),fun L1 W9=>?_⟩;have s6:=Ad (o:=.lst [V.ref lb]) W9;have W8:(upd H5 L1 (.lst [V.ref lb])) L1=some (.lst [V.ref lb]):=Ab;generalize upd H5 L1 (.lst [V.ref lb])=H6 at s6 W8 ⊢;have hE6:=s6 _ _ hE5;refine ⟨_,rfl,EV,rfl,⟨_,AD.of hE6⟩,?_⟩;refine Bl BV (xs:=us) (fun D i Aw H' acc=>∃ (v0:Option V) (fs:List (List Str)),Aw=[v0,some (.ref c),some (.int kb.1)]/\Av H6 H'/\H' D=some (.lst acc)/\Bo H' acc fs/\(∀ f ∈ fs,Gu (rs1.map (·.1)) x f/\B5 ws rs1 Au f kb.1)/\acc.length<=i)
   (by lia) (fun D hD=>⟨_,[],rfl,Ad hD,Ab,.nil,(fun f hf=>nomatch hf),YO _⟩) (fun D i Aw H' acc hD ⟨v0,fs,_,sa,AE,_,_,al⟩=>⟨AD.of (sa _ _ hE6),AE,al⟩) ?_ ?_
  ·rintro D i Aw H' acc x' B N hD ex ⟨v0,fs,rfl,sa,AE,tp,fo,al⟩ hB hN;obtain ⟨t,f',rfl,ef,ht⟩:=Xu.get ex;have Uj:Gu (rs1.map (·.1)) x f':=(op.2.2 f').mp (YN ef);have opf:=Uj.opn sn;have Ua:=WR.trans (s6.trans sa);refine ⟨_,rfl,_,rfl,c,t,m,n,xs,f',ws,rs1,Au,x,d,rfl,cs.cw.same Ua,sa _ _ (s6 _ _ ht),CL cs.cw opf,opf,Gf cs.cw (CL cs.cw opf),fun H7 gs s7 go=>?_⟩;have tot:=go.total (rs1:=rs1) cs.cw.ok2.nd;have Sk:=s7 _ _ AE;refine ⟨_,rfl,rfl,_,rfl,?_⟩;refine BJ (fun z=>?_) (fun z=>?_)
   ·have z':(f'.map (Ba rs1)).sum + FH Au gs=kb.1:=by have:=of_decide_eq_true z; injection this
    refine ⟨_,rfl,hB _ _ _ Sk ⟨_,fs ++ [f'],rfl,BB (sa.trans s7) hD,Ab,?_,?_,by rw [YR]; simp; lia⟩⟩
    ·refine ((tp.keep fun b ys z=>s7 _ _ z).app (.cons (s7 _ _ (sa _ _ (s6 _ _ ht))) .nil)).keep fun b ys z=>?_
     rw [Ae (fun e=>by rw [e,Sk] at z; cases z)];exact z
    ·intro f hf;rcases Zl.mp hf with hf | hf
     ·exact fo f hf
     ·rw [Zc.mp hf];exact ⟨Uj,z' ▸ tot⟩
   ·exact hN _ _ ⟨_,fs,rfl,sa.trans s7,Sk,tp.keep fun b ys z=>s7 _ _ z,fo,by lia⟩
  rintro D Aw H7 acc hD ⟨v0,fs,rfl,s7,AE,tp,fo,al⟩;refine ⟨L1,D,[V.ref lb],acc,rfl,rfl,s7 _ _ W8,AE,by show 1 + acc.length<=sizeLine; lia,fun So Qn=>?_⟩;have s8:=Ad (o:=.lst ([V.ref lb] ++ acc)) Qn;have hLL:(upd H7 So (.lst ([V.ref lb] ++ acc))) So=some (.lst ([V.ref lb] ++ acc)):=Ab;generalize upd H7 So (.lst ([V.ref lb] ++ acc))=H8 at s8 hLL ⊢;have WQ:=s6.trans (s7.trans s8);have s38:=WR.trans WQ;have WJ:Bo H8 ([V.ref lb] ++ acc) (kb.2 :: fs):=.cons (WQ _ _ hlb) (tp.keep fun b ys z=>s8 _ _ z);have fo8:∀ f ∈ kb.2 :: fs,Gu (rs1.map (·.1)) x f/\B5 ws rs1 Au f kb.1:=fun f hf=>by
   rcases YM.mp hf with rfl | hf
   ·exact ⟨bo,btot⟩
   ·exact fo f hf
  refine ⟨So,rfl,⟨_,AD.of hLL⟩,?_⟩;refine Gg (xs:=[V.ref lb] ++ acc) (fun i σ H'=>∃ v7:Option V,σ=[some (.ref a),some (.ref p),some (.int (0 + (j:Int))),some (.ref c),some (.ref EV),some (.int kb.1),some (.ref lb),v7,v8]/\Av H8 H')
   ⟨_,rfl,Av.refl _⟩ (fun i σ H' _ ⟨_,_,sa⟩=>AD.of (sa _ _ hLL)) ?_ ?_
  ·rintro i v σ H' hv ⟨v7,rfl,sa⟩;obtain ⟨t,f',rfl,hf',ht⟩:=WJ.mem (YN hv);obtain ⟨Uj,tf'⟩:=fo8 f' hf';have bn:=setl Uj tf';have s3a:=s38.trans sa;refine ⟨_,rfl,_,rfl,c,t,m,n,xs,ws,rs1,Au,x,d,f',rfl,⟨cs.cw.same s3a,ri,sa _ _ ht,Uj⟩,fun H9 b s9 hb=>?_⟩;have eb:b=true:=hb.mpr bn;subst eb;refine ⟨_,rfl,?_⟩;refine F7 ?_;refine ⟨_,rfl,_,rfl,c,t,m,n,xs,ws,rs1,Au,x,d,f',rfl,⟨cs.cw.same (s3a.trans s9),ri,s9 _ _ (sa _ _ ht),Uj⟩,fun M4 L10 us10 UJ QN Y6 h10 Xv YD rl10=>?_⟩;have Xm:UJ=[f']:=YD.uniq ri Uj (.end bn);subst Xm;refine ⟨_,rfl,(by show 1<=sizeLine; lia),fun YH h11=>?_⟩;have Uc:=Ad (o:=.lst [V.ref t]) h11;have WB:(upd M4 YH (.lst [V.ref t])) YH=some (.lst [V.ref t]):=Ab;have Wo:=Uc _ _ (QN _ _ (s9 _ _ (sa _ _ ht)));generalize upd M4 YH (.lst [V.ref t])=Ss at Uc WB Wo ⊢;have ro:∀ y ∈ [f'],Gu (rs1.map (·.1)) x y:=fun y hy=>by rw [Zc.mp hy]; exact Uj
   obtain ⟨d1,la,dp⟩:=rowd ro (Xv.keep fun b ys z=>Uc _ _ z) (Uc _ _ h10);obtain ⟨d2,_,_⟩:=rowd ro (.cons Wo .nil) WB;refine ⟨_,_,d1,d2,la,la,dp,_,rfl,?_⟩;rw [Lf _ la];refine F7 ?_;exact ⟨_,rfl,sa.trans (s9.trans (QN.trans Uc))⟩
  rintro σ H9 ⟨v7,rfl,s9⟩;have s39:=s38.trans s9;have P9:=P3.same s39;have hE9:=s9 _ _ (WQ _ _ hE5);have nE:EV ≠ p:=fun e=>by
   obtain ⟨_,_,_,_,z,_⟩:=P3;rw [e,z] at fE;cases fE
  refine ⟨3,rfl,by decide,by decide,Di (n:=3) (fun _ σ H'=>∃ v8:Option V,σ=[some (.ref a),some (.ref p),some (.int (0 + (j:Int))),some (.ref c),some (.ref EV),some (.int kb.1),some (.ref lb),v7,v8]/\Eo K H' p/\AX p H9 H') ⟨_,rfl,P9,AX.refl _ _⟩ ?_ ?_⟩
  ·rintro i σ H' hi ⟨v8',rfl,Pa,ka⟩;have hEa:=ka _ _ nE hE9;have ulp:0 < us.length:=by
    rw [ul];exact ZZ.mpr one
   refine ⟨_,rfl,_,rfl,_,rfl,_,rfl,EV,_,rfl,.inl (AD.of hEa),p,_,rfl,Pa,by lia,by lia,fun e1 Hb Pb kb' Xm e11=>?_⟩;obtain ⟨q,rfl⟩:∃ q:Nat,e1=q:=⟨e1.toNat,by lia⟩
   have hq:q < us.length:=by lia
   have uq:us[q]? = some us[q]:=YJ hq;have WL:=tU.keep fun b ys z=>s9 _ _ (WQ _ _ (s5 _ _ z))
   obtain ⟨t,f',et,ef,ht⟩:=WL.get uq;have k9b:AX p H9 Hb:=ka.trans kb';have tpb:=GY P9 k9b;refine ⟨EV,_,_,us[q],rfl,rfl,AD.of (kb' _ _ nE hEa),Cq uq,_,rfl,?_⟩;rw [et];refine ⟨c,t,m,n,xs,ws,rs1,Au,x,d,f',kb.1,rfl,⟨(cs.cw.same s39).keepT tpb,ri,tpb _ _ ht,(op.2.2 f').mp (YN ef)⟩,least,fun M4 QN=>⟨_,rfl,?_⟩⟩;refine F7 ?_;exact ⟨_,rfl,Pb.same QN,k9b.trans (AX.of_same QN)⟩
  ·rintro σ H' ⟨v8',rfl,Pa,ka⟩;exact ⟨_,_,_,_,_,_,_,rfl,Pa⟩
end
section
variable {P:Program} {w:World} {K:YL} {mg:Str->Option Value} {base:Heap}
theorem G5 (h_enumerate:mg "enumerate"=none) (h_len:mg "len"=none) {fCT:Addr} {fdCT:FuncData} (XCT:Fn K mg "cost" Gx ["case","opening"] fCT fdCT) (GCT:A3 P w K mg base Bt 5 fCT fdCT ["case","opening"] K2) {fSE:Addr} {fdSE:FuncData} (XSE:Fn K mg "is_settled" Cy ["case","opening"] fSE fdSE) (GSE:A3 P w K mg base Bt 7 fSE fdSE ["case","opening"] Gv) {fBR:Addr} {fdBR:FuncData} (XBR:Fn K mg "bettered" Dm ["case","opening"] fBR fdBR) (GBR:A3 P w K mg base Bt 7 fBR fdBR ["case","opening"] Fz) {fLS:Addr} {fdLS:FuncData} (XLS:Fn K mg "_law_stepped" CB ["_law_case_here","_law_one","_law_other"] fLS fdLS) (GLS:A3 P w K mg base Bt 7 fLS fdLS ["_law_case_here","_law_one","_law_other"] JL) {f:Addr} {fd:FuncData} (F:DT K "_law_row_right" "_law_row_right" Cn f fd):A3 P w K mg base Bt 8 f fd ["_law_case_here","_law_opening","_law_least"] Ie:=by
 refine F.ok DL (fun vs H Q E h=>?_) (fun cdv A outer s H vs Q E hr h=>?_)
 ·obtain ⟨c,o,m,n,xs,ws,rs1,Au,x,d,op,lst,rfl,_⟩:=h;rfl
 ·obtain ⟨c,o,m,n,xs,ws,rs1,Au,x,d,op,lst,rfl,cx,least,k⟩:=h;have nd:=DL.nd;have EB:=hr.units;have big:100000 < sizeLine:=by decide
  refine ⟨_,(Af (Ar (i:=3) nd rfl (Or.inl rfl) (Aj GBR (hr.mono (by decide)) (by rfl) XBR.mg XBR.F.kp XBR.b .nil As (Aa (pv 0) (Aa (pv 1) Ac))))
  (Af (D5 (JT (AV (G3 EB) (AJ (AF K rfl) (pv 3) Ah (fun _ _=>rfl)) (pv 1) (Bi _)) (G0 (AV Hm (Aj GCT (hr.mono (by decide)) (by rfl) XCT.mg XCT.F.kp XCT.b .nil As (Aa (pv 0) (Aa (AJ (AF K rfl) (pv 3) (pe_un U2 Ah) (fun _ _=>rfl)) Ac))) (pv 2) (Bi _)))).pt
  (Ak (A4 FW))
  BG)
  (Af (BL PassesOwn.never rfl (SN (by rfl) h_enumerate (Aa (pv 3) Ac)) (B7 K rfl rfl (Ap (Ai (i:=4) nd rfl (Or.inl rfl)) (Ap (Ai (i:=5) nd rfl (Or.inl rfl)) Bw)))
  (Af (D5 (JT (AV Rk (Aj GSE (hr.mono (by decide)) (by rfl) XSE.mg XSE.F.kp XSE.b .nil As (Aa (pv 0) (Aa (pv 5) Ac))) (Fb Oc (Ay Bc (pv 4) Ah) (Al (Ax K rfl) (by rfl) h_len PySem.boot_len (Aa (pv 3) Ac)) (Bi _)) (Bi _)) (G0 (AV (G3 EB) (Aj GBR (hr.mono (by decide)) (by rfl) XBR.mg XBR.F.kp XBR.b .nil As (Aa (pv 0) (Aa (pv 5) Ac))) (Rb S9 (pv 3) (KC (pv 4)) KD) (Bi _)))).pt
  (Ak (A4 FW))
  BG)
  (Ak (D5 (QV (AV Rl (pv 4) Ah (Bi _)) (NT (F1 (G1 (Aj GLS (hr.mono (by decide)) (by rfl) XLS.mg XLS.F.kp XLS.b .nil As (Aa (pv 0) (Aa (AJ (AF K rfl) (pv 3) (Ay Iw (pv 4) Ah) (fun _ _=>rfl)) (Aa (pv 5) Ac)))))))).pt
  (Ak (A4 FW))
  BG))))
  (Ak (A4 FW))))),?_⟩
  have sn:=cx.cw.ok1.nd;have sl:(rs1.map (·.1)).length<=10:=by rw [YI]; exact cx.cw.l1
  have nms:∀ s ∈ rs1.map (·.1),AQ s=true:=fun s hs=>by
   obtain ⟨r,Lm,rfl⟩:=YT.mp hs;exact cx.cw.map.at'.nm _ (cx.cw.ok1.sub r Lm)
  have tupd:∀ {y:List Str},Gu (rs1.map (·.1)) x y->(PyData.tuple (y.map PyData.str)).canLay0=true/\(PyData.tuple (y.map PyData.str)).depth<=60:=fun {y} h=>by
   refine ⟨by rw [PyData.canLay0]; exact CN fun s hs=>nms s (h.2.1.subset hs),by rw [PyData.depth,C9]; decide⟩
  have rowd:∀ {H':Hp} {us:List V} {r:List (List Str)} {L:Addr},(∀ y ∈ r,Gu (rs1.map (·.1)) x y)->Bo H' us r->H' L=some (.lst us)->Fx H' (.ref L) (.list (r.map fun f=>PyData.tuple (f.map PyData.str)))/\(PyData.list (r.map fun f=>PyData.tuple (f.map PyData.str))).canLay0=true/\(PyData.list (r.map fun f=>PyData.tuple (f.map PyData.str))).depth<=60:=fun {H' us r L} ro tU hL=>by
   refine ⟨.lst hL tU.dats,by rw [PyData.canLay0]; exact IG fun f hf s hs=>nms s ((ro f hf).2.1.subset hs),Jc r⟩
  refine ⟨_,rfl,_,rfl,c,o,m,n,xs,ws,rs1,Au,x,d,op,rfl,cx,fun H1 L us r s1 fL hL tU br rl=>?_⟩;have ul:=tU.len;have rat:=br.at cx.ri cx.op;have rops:∀ y ∈ r,Gu (rs1.map (·.1)) x y:=fun y hy=>by
   obtain ⟨i,hi,e⟩:=Zh hy;exact (rat i y (by rw [YJ hi,e])).1
  obtain ⟨l0,er0⟩:=br.head;have r0:r[0]? = some op:=by rw [er0]; rfl
  have rlen:1<=r.length:=by rw [er0,Zm]; lia
  have u0:us[0]? = some us[0]:=YJ (by lia);obtain ⟨ta,fa,ea,efa,hta⟩:=tU.get u0;rw [r0] at efa;cases efa
  obtain ⟨la,da⟩:=tupd cx.op;refine ⟨_,rfl,L,_,_,us[0],rfl,rfl,AD.of hL,Cq (j:=0) u0,_,rfl,.tuple (op.map PyData.str),.tuple (op.map PyData.str),by rw [ea]; exact .tup hta (B0 _ _),.tup (s1 _ _ cx.ho) (B0 _ _),la,la,da,_,rfl,?_⟩;rw [Lf _ la];refine F7 ?_;have ulast:∃ pre v,us=pre ++ [v]:=⟨us.dropLast,us.getLast (fun z=>by rw [z] at ul; simp at ul; lia),(List.dropLast_concat_getLast _).symm⟩
  obtain ⟨pre,vl,eus⟩:=ulast;obtain ⟨Sf,Y3,evl,hfl,htl⟩:=tU.mem (u:=vl) (by rw [eus]; simp);subst evl;have ofl:=rops Y3 hfl;have opf:=ofl.opn sn;refine ⟨_,rfl,_,rfl,_,rfl,L,_,_,.ref Sf,rfl,rfl,AD.of hL,(by rw [eus]; exact RS _ _),c,Sf,m,n,xs,Y3,ws,rs1,Au,x,d,rfl,cx.cw.same s1,htl,CL cx.cw opf,opf,Gf cx.cw (CL cx.cw opf),fun H2 gs s2 go=>⟨_,rfl,_,_,rfl,rfl,_,rfl,?_⟩⟩;have ge:=least Y3 _ ofl (go.total (rs1:=rs1) cx.cw.ok2.nd);refine BJ (fun z=>by have:=of_decide_eq_true z; unfold FH at ge; lia) (fun _=>?_);have s02:=s1.trans s2;have Qn:=s2 _ _ hL;refine ⟨_,rfl,L,us,rfl,Qn,RG (xs:=us) (fun i σ H'=>∃ (v4 v5:Option V),σ=[some (.ref c),some (.ref o),some (.int lst),some (.ref L),v4,v5]/\Av H2 H') ⟨_,_,rfl,Av.refl _⟩ (fun i σ H' _ ⟨_,_,_,sa⟩=>sa _ _ Qn) ?_ ?_⟩
  ·rintro i v σ H' T hv ⟨v4,v5,rfl,sa⟩ hT;obtain ⟨t,y,rfl,ey,ht⟩:=tU.get hv;obtain ⟨oy,by',bny,bsy⟩:=rat i y ey;have sT:=sa.trans (Ad (o:=.tup [V.int i,V.ref t]) hT);have Nd:(upd H' T (.tup [V.int i,V.ref t])) T=some (.tup [V.int i,V.ref t]):=Ab;generalize upd H' T (.tup [V.int i,V.ref t])=H3 at sT Nd ⊢;have UE:=s02.trans sT;have Wm:=sT _ _ (s2 _ _ ht);have Yx:=sT _ _ Qn;have WL:=tU.keep fun b ys z=>sT _ _ (s2 _ _ z)
   refine ⟨T,_,rfl,AI.of Nd,rfl,_,_,rfl,_,_,rfl,rfl,?_⟩;refine ⟨_,rfl,_,rfl,c,t,m,n,xs,ws,rs1,Au,x,d,y,rfl,⟨cx.cw.same UE,cx.ri,Wm,oy⟩,fun H4 b s4 hb=>?_⟩;have eb:b=decide ((i:Int) + 1=(us.length:Int)):=by
    rw [ZO,hb,bny,decide_eq_true_eq];lia
   refine ⟨_,rfl,_,_,rfl,rfl,_,rfl,L,_,rfl,.inl (AD.of (s4 _ _ Yx)),rfl,rfl,_,rfl,?_⟩;rw [show (!decide (V.bl b=V.bl (decide (V.int ((i:Int) + 1)=V.int (us.length:Int)))))=false by rw [eb]; simp];refine F7 ?_;have OS:=UE.trans s4;refine ⟨_,rfl,_,rfl,c,t,m,n,xs,ws,rs1,Au,x,d,y,rfl,⟨cx.cw.same OS,cx.ri,s4 _ _ Wm,oy⟩,fun H5 L5 us5 r5 s5 fL5 hL5 Xu br5 rl5=>?_⟩;have e5:r5=r.drop i:=br5.uniq cx.ri oy by'
   subst e5;have ecut:Li us (some (i:Int)) none=us.drop i:=by
    unfold Li;rw [HT.sIx_none,HT.sIx_nat];have:i < us.length:=(YQ.mp hv).1;rw [Nat.min_eq_left (by lia)];exact aG (by rw [df]; lia)
   refine ⟨_,rfl,_,rfl,_,rfl,L,us,rfl,AD.of (s5 _ _ (s4 _ _ Yx)),fun L6 hL6=>?_⟩;have s6:=Ad (o:=.lst (Li us (some (i:Int)) none)) hL6;have W7:(upd H5 L6 (.lst (Li us (some (i:Int)) none))) L6=some (.lst (us.drop i)):=by rw [Ab,ecut]
   generalize upd H5 L6 (.lst (Li us (some (i:Int)) none))=H6 at s6 W7 ⊢;have rod:∀ y ∈ r.drop i,Gu (rs1.map (·.1)) x y:=fun y hy=>rops y (List.mem_of_mem_drop hy)
   obtain ⟨d5,XX,dp5⟩:=rowd rod (Xu.keep fun b ys z=>s6 _ _ z) (s6 _ _ hL5);obtain ⟨d6,_,_⟩:=rowd rod ((WL.keep fun b ys z=>s6 _ _ (s5 _ _ (s4 _ _ z))).drop i) W7;refine ⟨_,_,d5,d6,XX,XX,dp5,_,rfl,?_⟩;rw [Lf _ XX];refine F7 ?_;have Ua:=s4.trans (s5.trans s6);have VP:=UE.trans Ua;refine ⟨_,rfl,_,_,rfl,rfl,_,rfl,?_⟩;cases i with
   | zero=>
    refine BJ (fun z=>by simp at z) (fun _=>F7 ?_);exact ⟨_,_,rfl,sT.trans Ua⟩
   | succ i=>
    refine BJ (fun _=>?_) (fun z=>by simp at z);have hi:i + 1 < r.length:=(YQ.mp ey).1;have eq:r[i]? = some r[i]:=YJ (by lia);have uq:us[i]? = some us[i]:=YJ (by lia);obtain ⟨tq,fq,etq,efq,htq⟩:=WL.get uq;rw [eq] at efq;cases efq
    obtain ⟨oq,_,_,bsq⟩:=rat i _ eq;refine ⟨_,rfl,_,rfl,_,rfl,_,_,rfl,rfl,L,_,_,us[i],rfl,rfl,AD.of (Ua _ _ Yx),(by rw [show ((i + 1:Nat):Int) - 1=(i:Int) by lia]; exact Cq uq),_,rfl,?_⟩;rw [etq];refine ⟨c,tq,t,m,n,xs,ws,rs1,Au,x,d,_,y,rfl,⟨cx.cw.same VP,cx.ri,Ua _ _ htq,oq⟩,Ua _ _ Wm,bsq y ey,fun H7 s7=>⟨_,rfl,?_⟩⟩;refine F7 ?_;exact ⟨_,_,rfl,sT.trans (Ua.trans s7)⟩
  ·rintro σ H' ⟨v4,v5,rfl,sa⟩;exact k _ (s02.trans sa)
end
section
variable {P:Program} {w:World} {K:YL} {mg:Str->Option Value} {base:Heap}
theorem I0 (h_len:mg "len"=none) (h_tuple:mg "tuple"=none) {fCT:Addr} {fdCT:FuncData} (XCT:Fn K mg "cost" Gx ["case","opening"] fCT fdCT) (GCT:A3 P w K mg base Bt 5 fCT fdCT ["case","opening"] K2) {fEX:Addr} {fdEX:FuncData} (XEX:Fn K mg "exchanges" D4 ["case","opening"] fEX fdEX) (GEX:A3 P w K mg base Bt 6 fEX fdEX ["case","opening"] GZ) {f:Addr} {fd:FuncData} (F:DT K "_law_stepped" "_law_stepped" CB f fd):A3 P w K mg base Bt 7 f fd ["_law_case_here","_law_one","_law_other"] JL:=by
 refine F.ok E5 (fun vs H Q E h=>?_) (fun cdv A outer s H vs Q E hr h=>?_)
 ·obtain ⟨c,o,o2,m,n,xs,ws,rs1,Au,x,d,op,zs,rfl,_⟩:=h;rfl
 ·obtain ⟨c,o,o2,m,n,xs,ws,rs1,Au,x,d,op,zs,rfl,cx,Mi,bs,k⟩:=h;have nd:=E5.nd;have EB:=hr.units;have big:100000 < sizeLine:=by decide
  refine ⟨_,(Af (FU (ix:=3) (N:=["_law_place","_law_other"]) (σ0:=fun σ=>[none,some 2].map fun j=>j.bind fun j=>(σ[j]?).join) nd rfl (Or.inl rfl) rfl (A6.caught (by rfl) (by decide +kernel) rfl (by decide +kernel) (by intro y hy; simp only [YM,YU,or_false] at hy; rcases hy with rfl <;> rfl)
   (by intro y hy e; simp only [YM,YU,or_false] at hy; rcases hy with rfl | rfl | rfl <;> first | exact ⟨_,rfl⟩ | cases e)) (fun σ _=>AH.of [none,some 2] rfl (by
   intro i j x h1 h2;match i,h1,h2 with
   | 0,_,h2=>cases h2
   | 1,h1,h2=>cases h1; cases h2; exact ⟨rfl,.inl rfl,.inl rfl⟩
   | n + 2,h1,_=>cases h1)) (B6 K rfl (pv 1))
   (fun s2 H C fp=>⟨(Ai (i:=0) (show (["_law_place","_law_other"]:List Str).Nodup by decide +kernel) rfl (Or.inl rfl)),(CF (AV (G2 K rfl) (pv 0) (pv 1) (by rfl))),(pv 0)⟩))
  (Af (FU (ix:=4) (N:=["_law_place","_law_one"]) (σ0:=fun σ=>[none,some 1].map fun j=>j.bind fun j=>(σ[j]?).join) nd rfl (Or.inl rfl) rfl (A6.caught (by rfl) (by decide +kernel) rfl (by decide +kernel) (by intro y hy; simp only [YM,YU,or_false] at hy; rcases hy with rfl <;> rfl)
   (by intro y hy e; simp only [YM,YU,or_false] at hy; rcases hy with rfl | rfl | rfl <;> first | exact ⟨_,rfl⟩ | cases e)) (fun σ _=>AH.of [none,some 1] rfl (by
   intro i j x h1 h2;match i,h1,h2 with
   | 0,_,h2=>cases h2
   | 1,h1,h2=>cases h1; cases h2; exact ⟨rfl,.inl rfl,.inl rfl⟩
   | n + 2,h1,_=>cases h1)) (B6 K rfl (pv 2))
   (fun s2 H C fp=>⟨(Ai (i:=0) (show (["_law_place","_law_one"]:List Str).Nodup by decide +kernel) rfl (Or.inl rfl)),(CF (AV (G2 K rfl) (pv 0) (pv 1) (by rfl))),(pv 0)⟩))
  (Af (Ar (i:=5) nd rfl (Or.inl rfl) (Ay (Iy K rfl) (Bh (Aa (AJ (AF K rfl) (Bq (Aa C7 (Aa C7 (Aa C7 Ac)))) (Ay DB (Al (Ax K rfl) (by rfl) h_len PySem.boot_len (Aa (pv 3) Ac)) (Ay Bc Ah (Al (Ax K rfl) (by rfl) h_len PySem.boot_len (Aa (pv 4) Ac)))) (fun _ _=>rfl)) Ac)) (A9 (AS K rfl) (by rfl) h_tuple PyProof.Rows.boot_tuple (Aa (Ay G4 (pv 3) (pv 4)) Ac))))
  (Af (Ar (i:=6) nd rfl (Or.inl rfl) (Aj GCT (hr.mono (by decide)) (by rfl) XCT.mg XCT.F.kp XCT.b .nil As (Aa (pv 0) (Aa (pv 2) Ac))))
  (Ak (A4 (MQ (Fb (Pq EB) (Bh (Aa (pv 5) (Aa (pv 6) Ac))) (Aj GEX (hr.mono (by decide)) (by rfl) XEX.mg XEX.F.kp XEX.b .nil As (Aa (pv 0) (Aa (pv 1) Ac))) (by rfl)) (MO (Fb Hm (pv 6) (Aj GCT (hr.mono (by decide)) (by rfl) XCT.mg XCT.F.kp XCT.b .nil As (Aa (pv 0) (Aa (pv 1) Ac))) (Bi _)))))))))),?_⟩
  have sn:=cx.cw.ok1.nd;obtain ⟨on,os,oe⟩:=De cx.op sn;have sl:(rs1.map (·.1)).length<=10:=by rw [YI]; exact cx.cw.l1
  have Xl:=Gh cx.op sn sl;have nms:∀ s ∈ rs1.map (·.1),AQ s=true:=fun s hs=>by
   obtain ⟨r,Lm,rfl⟩:=YT.mp hs;exact cx.cw.map.at'.nm _ (cx.cw.ok1.sub r Lm)
  have fine:∀ {ps},U1 ws rs1 Au x op ps->CQ (.list (ps.map Ej)) 3 60000/\∀ p ∈ ps,(Ej p).canLay0=true:=fun {ps} h=>by
   have el:(EE (rs1.map (·.1)) x op).length<=(Ca (rs1.map (·.1)) op).length:=Z2 _ _;have hl:=h.1.length_eq;rw [YI,YI] at hl;have all:∀ p ∈ ps,(∀ s ∈ p.1,AQ s=true)/\p.1.length<=3/\0<=p.2/\p.2 < 2 ^ 600:=fun p hp=>by
    obtain ⟨e,zs,a1,a2,a3,a4⟩:=h.2.2 p hp;have nm:=RJ nms os (Zx.mp a1).1;have oz:=a3.opn a1 on os;rw [a2] at nm;exact ⟨nm.1,nm.2,JK cx.cw oz (Zj (List.Nodup.length_le_of_subset oz.2.1 (fun s hs=>oz.2.2 s hs)) sl) a4⟩
   refine ⟨Oy (by lia) all,fun p hp=>?_⟩;have f1:=(Oy (ps:=[p]) (by show 1 < 64; decide) fun q hq=>by rw [Zc.mp hq]; exact all p hp).lay;rw [PyData.canLay0,Zb,PyData.canLayAll0,Z3] at f1;exact f1.1
  have ho:=cx.ho;have oz:=bs.ops cx.ri cx.op;have ol:=UT cx.op sn sl;have zl:=UT oz sn sl;obtain ⟨e,t,t0,g1,g2,g3,g4,g5,g6⟩:=id bs;have ei:=DQ (Zx.mp g1).1;refine ⟨_,rfl,o,rfl,⟨_,AI.of ho⟩,?_⟩;refine Bl BD (xs:=op.map V.str) (fun D i σ H' acc=>∃ v0:Option V,σ=[v0,some (.ref o2)]/\Av H H'/\H' D=some (.lst acc)/\acc=((op.take i).filter fun y=>decide (y ∉ zs)).map V.str)
   (by rw [YI]; lia) (fun D hD=>⟨_,rfl,Ad hD,Ab,rfl⟩) (fun D i σ H' acc hD ⟨v0,_,sa,AE,ea⟩=>⟨AI.of (sa _ _ ho),AE,by rw [ea,YI]; exact Zj (Z2 _ _) (by rw [Zy]; exact aA _ _)⟩) ?_ ?_
  ·rintro D i σ H' acc x' B N hD ex ⟨v0,rfl,sa,AE,rfl⟩ hB hN;obtain ⟨y,ey,rfl⟩:=DK ex;have tk:=DJ (fun y=>decide (y ∉ zs)) ey;refine ⟨_,rfl,_,rfl,o2,_,rfl,.inr (AI.of (sa _ _ Mi)),rfl,GD _,_,rfl,?_⟩;rw [IP,show (!decide (y ∈ zs))=decide (y ∉ zs) by simp];refine BJ (fun z=>?_) (fun z=>?_)
   ·rw [if_pos z] at tk;exact ⟨_,rfl,hB _ _ _ AE ⟨_,rfl,BB sa hD,Ab,by rw [tk,YY]; rfl⟩⟩
   ·rw [if_neg z,ZE] at tk;exact hN _ _ ⟨_,rfl,sa,AE,by rw [tk]⟩
  rintro OU σ H1 acc fO ⟨v0,rfl,s1,hOU,rfl⟩;rw [YI,Zn,g2.out on ei] at hOU;have ho1:=s1 _ _ ho;have Wu:=s1 _ _ Mi;refine ⟨_,rfl,o2,rfl,⟨_,AI.of Wu⟩,?_⟩;refine Bl BD (xs:=zs.map V.str) (fun D i σ H' acc=>∃ v0:Option V,σ=[v0,some (.ref o)]/\Av H1 H'/\H' D=some (.lst acc)/\acc=((zs.take i).filter fun y=>decide (y ∉ op)).map V.str)
   (by rw [YI]; lia) (fun D hD=>⟨_,rfl,Ad hD,Ab,rfl⟩) (fun D i σ H' acc hD ⟨v0,_,sa,AE,ea⟩=>⟨AI.of (sa _ _ Wu),AE,by rw [ea,YI]; exact Zj (Z2 _ _) (by rw [Zy]; exact aA _ _)⟩) ?_ ?_
  ·rintro D i σ H' acc x' B N hD ex ⟨v0,rfl,sa,AE,rfl⟩ hB hN;obtain ⟨y,ey,rfl⟩:=DK ex;have tk:=DJ (fun y=>decide (y ∉ op)) ey;refine ⟨_,rfl,_,rfl,o,_,rfl,.inr (AI.of (sa _ _ ho1)),rfl,GD _,_,rfl,?_⟩;rw [IP,show (!decide (y ∈ op))=decide (y ∉ op) by simp];refine BJ (fun z=>?_) (fun z=>?_)
   ·rw [if_pos z] at tk;exact ⟨_,rfl,hB _ _ _ AE ⟨_,rfl,BB sa hD,Ab,by rw [tk,YY]; rfl⟩⟩
   ·rw [if_neg z,ZE] at tk;exact hN _ _ ⟨_,rfl,sa,AE,by rw [tk]⟩
  rintro IN σ H2 acc fI ⟨v0',rfl,s2,hIN,rfl⟩;rw [YI,Zn,g2.into on ei] at hIN;have W6:=s2 _ _ hOU;obtain ⟨w1,w2⟩:=Tv ei;have bl1:e.2.1.toList.length<=1:=by cases e.2.1 <;> simp
  have bl2:e.2.2.toList.length<=1:=by cases e.2.2 <;> simp
  refine ⟨(by show 3<=sizeLine; lia),fun Lw hLw=>?_⟩;have sw:=Ad (o:=.lst [V.str "open",V.str "shut",V.str "swap"]) hLw;refine ⟨_,rfl,OU,_,rfl,.inl (AD.of (sw _ _ W6)),_,rfl,IN,_,rfl,.inl (AD.of (sw _ _ hIN)),_,_,rfl,rfl,_,_,rfl,rfl,.inl ⟨by rw [YI]; lia,by rw [YI]; lia⟩,Lw,_,_,_,rfl,rfl,AD.of Ab,(by rw [YI,YI]; exact w2),(by show 1<=sizeLine; lia),fun T1 R9=>?_⟩;have sT1:=Ad (o:=.tup [V.str (Nj e)]) R9;have s3:=sw.trans sT1;refine ⟨_,rfl,_,rfl,OU,IN,_,_,rfl,rfl,s3 _ _ W6,s3 _ _ hIN,by rw [YI,YI]; lia,fun LC hLC=>?_⟩;have sLC:=Ad (o:=.lst (e.2.1.toList.map V.str ++ e.2.2.toList.map V.str)) hLC;refine ⟨LC,_,rfl,.inl ⟨AD.of Ab,fun T2 Ou=>?_⟩⟩;have TY:=Ad (o:=.tup (e.2.1.toList.map V.str ++ e.2.2.toList.map V.str)) Ou;refine catA (K:=K) (TY _ _ (sLC _ _ Ab)) Ab (by rw [YR,YI,YI]; show 1 + _<=sizeLine; lia) fun T3 H3 s3' Wy=>?_
  have SG:Av H2 H3:=s3.trans (sLC.trans (TY.trans s3'));have UE:=s1.trans (s2.trans SG);have Yp:H3 T3=some (.tup (e.1.map V.str)):=by rw [Wy,w1,Zb,YY]; rfl
  have cw3:=cx.cw.same UE;have opz:=oz.opn sn;have opo:=cx.op.opn sn;refine ⟨_,rfl,_,rfl,c,o2,m,n,xs,zs,ws,rs1,Au,x,d,rfl,cw3,UE _ _ Mi,CL cx.cw opz,opz,Gf cx.cw (CL cx.cw opz),fun H4 gs s4 go=>?_⟩;have tz:(zs.map (Ba rs1)).sum + (gs.map fun g=>Ba Au g.1 * g.2.2).sum=t:=(go.total (rs1:=rs1) cx.cw.ok2.nd).uniq g3;rw [tz];have OS:=UE.trans s4;refine ⟨_,rfl,_,rfl,(by show 2<=sizeLine; lia),fun W hW=>?_⟩;have sW:=Ad (o:=.tup [V.ref T3,V.int t]) hW;have hWW:(upd H4 W (.tup [V.ref T3,V.int t])) W=some (.tup [V.ref T3,V.int t]):=Ab;have hT5:=sW _ _ (s4 _ _ Yp);generalize upd H4 W (.tup [V.ref T3,V.int t])=H5 at sW hWW hT5 ⊢;have VQ:=OS.trans sW;refine ⟨_,rfl,_,rfl,c,o,m,n,xs,ws,rs1,Au,x,d,op,rfl,cx.keepT (fun b ys z=>VQ _ _ z),fun H6 L vs ps s6 fL hL er due=>?_⟩;obtain ⟨fin,lay⟩:=fine due;have pm:(e.1,t) ∈ ps:=by
   have km:e.1 ∈ ps.map (·.1):=due.1.mem_iff.mpr (YT.mpr ⟨e,g1,rfl⟩);obtain ⟨p,hp,pe⟩:=YT.mp km;obtain ⟨e',Su,a1,a2,a3,a4⟩:=due.2.2 p hp;have ee:e'=e:=RK sn on a1 g1 (a2.trans pe);subst ee;rw [a3.uniq g2] at a4;have:p=(e'.1,t):=Prod.ext pe (a4.uniq g3);rw [<-this];exact hp
  have lp:=lay _ pm;have dp:(Ej (e.1,t)).depth<=60:=by
   show PyData.depth (.tuple [.tuple (e.1.map .str),.int t])<=60
   rw [PyData.depth,PyData.depthAll,PyData.depth,C9,PyData.depthAll,PyData.depthAll,PyData.depth];decide
  have lall:=fin.lay;rw [PyData.canLay0] at lall;refine ⟨Ej (e.1,t),ps.map Ej,.tup (s6 _ _ hWW) (.cons (.tup (s6 _ _ hT5) (B0 _ _)) (.cons (.int _) .nil)),.lst hL er.dats,lp,lall,dp,_,rfl,?_⟩;rw [show ((ps.map Ej).any fun q=>PyData.eqv q (Ej (e.1,t)))=true from ab.mpr ⟨_,YT.mpr ⟨_,pm,rfl⟩,SeqAt.eqv_refl _ lp⟩];refine MV ?_;have VP:=VQ.trans s6;refine ⟨_,rfl,_,rfl,_,rfl,c,o,m,n,xs,op,ws,rs1,Au,x,d,rfl,cx.cw.same VP,VP _ _ ho,CL cx.cw opo,opo,Gf cx.cw (CL cx.cw opo),fun H7 gs7 s7 go7=>⟨_,_,rfl,rfl,?_⟩⟩;have tz7:(op.map (Ba rs1)).sum + (gs7.map fun g=>Ba Au g.1 * g.2.2).sum=t0:=(go7.total (rs1:=rs1) cx.cw.ok2.nd).uniq g4;rw [tz7];show Q (.bl (decide (t < t0))) H7
  rw [decide_eq_true g5];exact k _ (VP.trans s7)
end
section
variable {P:Program} {w:World} {K:YL} {mg:Str->Option Value} {base:Heap}
theorem Ft  {fBE:Addr} {fdBE:FuncData} (XBE:Fn K mg "better" E7 ["case","opening"] fBE fdBE) (GBE:A3 P w K mg base Bt 6 fBE fdBE ["case","opening"] Ig) {f:Addr} {fd:FuncData} (F:DT K "is_settled" "is_settled" Cy f fd):A3 P w K mg base Bt 7 f fd ["case","opening"] Gv:=by
 refine F.ok Fo (fun vs H Q E h=>?_) (fun cdv A outer s H vs Q E hr h=>?_)
 ·obtain ⟨c,o,m,n,xs,ws,rs1,Au,x,d,op,rfl,_⟩:=h;rfl
 ·obtain ⟨c,o,m,n,xs,ws,rs1,Au,x,d,op,rfl,cx,k⟩:=h;have nd:=Fo.nd;have big:100000 < sizeLine:=by decide
  refine ⟨_,(Ak (A4 (MP (KJ (Aj GBE (hr.mono (by decide)) (by rfl) XBE.mg XBE.F.kp XBE.b .nil As (Aa (pv 0) (Aa (pv 1) Ac))))))),?_⟩;refine ⟨_,rfl,_,rfl,c,o,m,n,xs,ws,rs1,Au,x,d,op,rfl,cx,fun H1 v t0 s1 tot bv=>?_⟩;refine k _ _ s1 ?_;rw [decide_eq_true_eq];rcases bv with ⟨rfl,bn⟩ | ⟨t,zs,rfl,_,bs⟩
  ·exact ⟨fun _=>bn,fun _=>rfl⟩
  ·exact ⟨(fun z=>by cases z),fun z=>(bs.not z).elim⟩
theorem Hn  {fBE:Addr} {fdBE:FuncData} (XBE:Fn K mg "better" E7 ["case","opening"] fBE fdBE) (GBE:A3 P w K mg base Bt 6 fBE fdBE ["case","opening"] Ig) {f:Addr} {fd:FuncData} (F:DT K "bettered" "bettered" Dm f fd):A3 P w K mg base Bt 7 f fd ["case","opening"] Fz:=by
 refine F.ok Hj (fun vs H Q E h=>?_) (fun cdv A outer s H vs Q E hr h=>?_)
 ·obtain ⟨c,o,m,n,xs,ws,rs1,Au,x,d,op,rfl,_⟩:=h;rfl
 ·obtain ⟨c,o,m,n,xs,ws,rs1,Au,x,d,op,rfl,cx,k⟩:=h;have nd:=Hj.nd;have big:100000 < sizeLine:=by decide
  refine ⟨_,(Af (Ar (i:=2) nd rfl (Or.inl rfl) (Bq (Aa (pv 1) Ac)))
  (Af (Ar (i:=3) nd rfl (Or.inl rfl) (Aj GBE (hr.mono (by decide)) (by rfl) XBE.mg XBE.F.kp XBE.b .nil As (Aa (pv 0) (Aa (pv 1) Ac))))
  (Af (LM PassesOwn.never (Im (SR (pv 3)))
  (Af (FT (Ir PySem.F.plainAttrs_list PySem.F.slot_list_append PySem.F.type_list_append Cu (pv 2) (Aa (pv 3) Ac)))
  (Ak (Ar (i:=3) nd rfl (Or.inl rfl) (Aj GBE (hr.mono (by decide)) (by rfl) XBE.mg XBE.F.kp XBE.b .nil As (Aa (pv 0) (Aa (pv 3) Ac)))))))
  (Ak (A4 (pv 2)))))),?_⟩
  have sn:=cx.cw.ok1.nd;have sl:(rs1.map (·.1)).length<=10:=by rw [YI]; exact cx.cw.l1
  have ho:=cx.ho;refine ⟨_,rfl,(by show 1<=sizeLine; lia),fun L hL=>?_⟩;have sL:=Ad (o:=.lst [V.ref o]) hL;refine ⟨_,rfl,_,rfl,c,o,m,n,xs,ws,rs1,Au,x,d,op,rfl,cx.keepT fun b ys z=>sL _ _ z,fun H1 v1 t1 s1 VI bv1=>?_⟩;have Ud:=sL.trans s1;refine ⟨fun mm σ H'=>∃ (pre:List (List Str)) (cur:List Str) (v:V) (t0:Int) (us:List V),mm=t0.toNat/\σ=[some (.ref c),some (.ref o),some (.ref L),some v]/\Av H H'/\H' L=some (.lst us)/\Bo H' us (pre ++ [cur])/\B5 ws rs1 Au cur t0/\BetV H' ws rs1 Au x cur v/\(∀ r,Gs ws rs1 Au x cur r->Gs ws rs1 Au x op (pre ++ r))/\(pre ++ [cur]).Nodup/\(∀ y ∈ pre ++ [cur],Gu (rs1.map (·.1)) x y)/\∀ y ∈ pre ++ [cur],∀ t,B5 ws rs1 Au y t->t0<=t,
   ⟨_,[],op,v1,t1,[V.ref o],rfl,rfl,Ud,s1 _ _ Ab,.cons (Ud _ _ ho) .nil,VI,bv1,(fun r h=>h),Zu.mpr ⟨(fun h=>nomatch h),aa⟩,(fun y hy=>by rw [Zc.mp hy]; exact cx.op),fun y hy t tt=>by rw [Zc.mp hy] at tt; rw [tt.uniq VI]; exact ar _⟩,?_⟩
  rintro mm σ H' ⟨pre,cur,v,t0,us,rfl,rfl,sa,hLL,tU,tot,bv,gp,rn,ro,rt⟩;refine ⟨_,rfl,_,rfl,?_⟩;have rl:=OW sn sl rn ro;rcases bv with ⟨rfl,bn⟩ | ⟨t,zs,rfl,ht,bs⟩
  ·refine BJ (fun z=>by simp at z) (fun _=>?_);exact ⟨_,rfl,k _ L us _ sa hL hLL tU (gp _ (.end bn)) rl⟩
  ·refine BJ (fun _=>?_) (fun z=>by simp at z);refine ⟨_,fun _ _ z=>z,?_⟩;obtain ⟨e,tz,t0',g1,g2,g3,g4,g5,g6⟩:=id bs;have oc:=ro cur (Za _ Zg);obtain ⟨cn,csub,_⟩:=De oc sn;have oz:Gu (rs1.map (·.1)) x zs:=g2.ops g1 cx.ri cn csub;have e0:=g4.uniq tot;subst e0;have z10:=UT oz sn sl;have tz0:=JK cx.cw ⟨oz.1,oz.2.1.nodup sn,fun s hs=>oz.2.1.subset hs⟩ z10 g3;have ul:=tU.len;refine ⟨_,rfl,.inl ⟨rfl,_,AD.of hLL⟩,_,rfl,L,us,.ref t,rfl,rfl,hLL,by lia,?_⟩;have s2:Av H (upd H' L (.lst (us ++ [.ref t]))):=BB sa hL;have WK:∀ b ys,H' b=some (.tup ys)->(upd H' L (.lst (us ++ [.ref t]))) b=some (.tup ys):=fun b ys q=>by
    rw [Ae (fun e=>by rw [e,hLL] at q; cases q)];exact q
   have Qn:(upd H' L (.lst (us ++ [.ref t]))) L=some (.lst (us ++ [.ref t])):=Ab;generalize upd H' L (.lst (us ++ [.ref t]))=H2 at s2 WK Qn ⊢;refine ⟨_,rfl,_,rfl,c,t,m,n,xs,ws,rs1,Au,x,d,zs,rfl,⟨cx.cw.same s2,cx.ri,WK _ _ ht,oz⟩,fun H3 v3 t3 s3 S1 bv3=>?_⟩;have e3:=S1.uniq g3;subst e3;have znew:zs ∉ pre ++ [cur]:=fun hm=>by
    have:=rt zs hm t3 S1;lia
   refine ⟨t3.toNat,by lia,pre ++ [cur],zs,v3,t3,us ++ [.ref t],rfl,rfl,s2.trans s3,s3 _ _ Qn,?_,S1,bv3,fun r hr=>?_,?_,fun y hy=>?_,fun y hy t' tt=>?_⟩
   ·exact (tU.keep fun b ys q=>s3 _ _ (WK _ _ q)).app (.cons (s3 _ _ (WK _ _ ht)) .nil)
   ·rw [ZG];exact gp _ (.step bs hr)
   ·exact Z4.mpr ⟨rn,Zu.mpr ⟨(fun h=>nomatch h),aa⟩,fun a ha b hb e=>znew (by rw [<-Zc.mp hb,<-e]; exact ha)⟩
   ·rcases Zl.mp hy with hy | hy
    ·exact ro y hy
    ·rw [Zc.mp hy];exact oz
   ·rcases Zl.mp hy with hy | hy
    ·have:=rt y hy t' tt;lia
    ·rw [Zc.mp hy] at tt;rw [tt.uniq S1];exact ar _
end
section
variable {P:Program} {w:World} {K:YL} {mg:Str->Option Value} {base:Heap}
theorem Fd (h_list:mg "list"=none) (h_min:mg "min"=none) {fOC:Addr} {fdOC:FuncData} (XOC:Fn K mg "outcomes_of" Cd ["case","opening"] fOC fdOC) (GOC:A3 P w K mg base Bt 4 fOC fdOC ["case","opening"] K1) {fCO:Addr} {fdCO:FuncData} (XCO:Fn K mg "costs_of" C4 ["case","chosen"] fCO fdCO) (GCO:A3 P w K mg base Bt 5 fCO fdCO ["case","chosen"] EW) {f:Addr} {fd:FuncData} (F:DT K "better" "better" E7 f fd):A3 P w K mg base Bt 6 f fd ["case","opening"] Ig:=by
 refine F.ok JQ (fun vs H Q E h=>?_) (fun cdv A outer s H vs Q E hr h=>?_)
 ·obtain ⟨c,o,m,n,xs,ws,rs1,Au,x,d,op,rfl,_⟩:=h;rfl
 ·obtain ⟨c,o,m,n,xs,ws,rs1,Au,x,d,op,rfl,cx,k⟩:=h;have nd:=JQ.nd;have hu:=D7 hr;have EB:=hr.units;have big:100000 < sizeLine:=by decide
  refine ⟨_,(Af (Ar (i:=2) nd rfl (Or.inr rfl) (Aj GOC (hr.mono (by decide)) (by rfl) XOC.mg XOC.F.kp XOC.b .nil As (Aa (pv 0) (Aa (pv 1) Ac))))
  (Af (Ar (i:=3) nd rfl (Or.inr rfl) (Aj GCO (hr.mono (by decide)) (by rfl) XCO.mg XCO.F.kp XCO.b .nil As (Aa (pv 0) (Aa (Ay G4 (Bq (Aa (pv 1) Ac)) (A9 (EM rfl) (by rfl) h_list PyProof.Rows.boot_list (Aa (Rg PySem.F.plainAttrs_dict PySem.F.slot_dict_values PySem.F.type_dict_values JY (pv 2)) Ac))) Ac))))
  (Af (FU (ix:=4) (N:=["exchange","opening","outcomes","costs"]) (σ0:=fun σ=>[none,some 1,some 2,some 3].map fun j=>j.bind fun j=>(σ[j]?).join) nd rfl (Or.inl rfl) rfl (A6.caught (by rfl) (by decide +kernel) rfl (by decide +kernel) (by intro y hy; simp only [YM,YU,or_false] at hy; rcases hy with rfl | rfl | rfl <;> rfl)
   (by intro y hy e; simp only [YM,YU,or_false] at hy; rcases hy with rfl | rfl | rfl | rfl | rfl <;> first | exact ⟨_,rfl⟩ | cases e)) (fun σ _=>AH.of [none,some 1,some 2,some 3] rfl (by
   intro i j x h1 h2;match i,h1,h2 with
   | 0,_,h2=>cases h2
   | 1,h1,h2=>cases h1; cases h2; exact ⟨rfl,.inl rfl,.inl rfl⟩
   | 2,h1,h2=>cases h1; cases h2; exact ⟨rfl,.inl rfl,.inl rfl⟩
   | 3,h1,h2=>cases h1; cases h2; exact ⟨rfl,.inl rfl,.inl rfl⟩
   | n + 4,h1,_=>cases h1)) (NY (pv 2))
   (fun s2 H C fp=>⟨(Ai (i:=0) (show (["exchange","opening","outcomes","costs"]:List Str).Nodup by decide +kernel) rfl (Or.inl rfl)),(CF (AV Hm (AG hu (pv 3) (AG hu (pv 2) (pv 0) (fun _ _=>rfl)) (fun _ _=>rfl)) (AG hu (pv 3) (pv 1) (fun _ _=>rfl)) (Bi _))),(Bh (Aa (AG hu (pv 3) (AG hu (pv 2) (pv 0) (fun _ _=>rfl)) (fun _ _=>rfl)) (Aa (pv 0) Ac)))⟩))
  (Ak (A4 (Ip (Il (pv 4) (fun _=>rfl)) (AG hu (pv 2) (AJ (B8 K rfl) (Al (Ht rfl EB) (by rfl) h_min PyProof.Rows.boot_min (Aa (pv 4) Ac)) Ah (fun _ _=>rfl)) (fun _ _=>rfl)) KI)))))),?_⟩
  have sn:=cx.cw.ok1.nd;obtain ⟨on,os,oe⟩:=De cx.op sn;have l1:=cx.cw.l1;have sl:(rs1.map (·.1)).length<=10:=by rw [YI]; exact l1
  have Xl:=Gh cx.op sn sl;have el:(EE (rs1.map (·.1)) x op).length<=(Ca (rs1.map (·.1)) op).length:=Z2 _ _;have ho:=cx.ho;refine ⟨_,rfl,_,rfl,c,o,m,n,xs,ws,rs1,Au,x,d,op,rfl,cx,fun H1 D kvs s1 fD hD oc=>?_⟩;have kl:=oc.len;obtain ⟨outs,tu,ol,oo⟩:=oc.tups;refine ⟨_,rfl,_,rfl,(by show 1<=sizeLine; lia),fun L1 W9=>?_⟩;have sL:=Ad (o:=.lst [V.ref o]) W9;refine ⟨_,rfl,.inr (.inr (.inl ⟨rfl,.inr ⟨_,sL _ _ hD⟩⟩)),D,kvs,rfl,rfl,sL _ _ hD,fun r Lm=>?_⟩;have sr:=Ad (o:=FI r D) Lm;refine ⟨r,D,kvs,rfl,Ab,sr _ _ (sL _ _ hD),fun l hl=>?_⟩;have sl3:=Ad (o:=.lst (kvs.map (·.2))) hl;refine ⟨L1,l,[V.ref o],kvs.map (·.2),rfl,rfl,sl3 _ _ (sr _ _ Ab),Ab,by rw [YI]; show 1 + kvs.length<=sizeLine; lia,fun So Qn=>?_⟩;have s2:=sL.trans (sr.trans (sl3.trans (Ad (o:=.lst ([V.ref o] ++ kvs.map (·.2))) Qn)));have hll:(upd (upd (upd (upd H1 L1 (.lst [V.ref o])) r (FI r D)) l (.lst (kvs.map (·.2)))) So (.lst ([V.ref o] ++ kvs.map (·.2)))) So=some (.lst ([V.ref o] ++ kvs.map (·.2))):=Ab;generalize upd (upd (upd (upd H1 L1 (.lst [V.ref o])) r (FI r D)) l (.lst (kvs.map (·.2)))) So (.lst ([V.ref o] ++ kvs.map (·.2)))=H2 at s2 hll ⊢;have und:=Iv sn on ol oo;have opn:∀ ys ∈ outs,Lq (rs1.map (·.1)) ys/\ys ≠ op:=fun ys hy=>by
   obtain ⟨i,hi,e⟩:=Zh hy;have ee:(EE (rs1.map (·.1)) x op)[i]? = some ((EE (rs1.map (·.1)) x op)[i]'(by lia)):=YJ _;have oz:=oo i _ ys ee (by rw [YJ hi,e]);exact ⟨oz.opn (YN ee) on os,oz.ne_op (DQ (Zx.mp (YN ee)).1)⟩
  refine ⟨c,So,m,n,xs,ws,rs1,Au,x,d,V.ref o :: kvs.map (·.2),op :: outs,rfl,cx.cw.same (s1.trans s2),(show H2 So=some (.lst (V.ref o :: kvs.map (·.2))) from hll),.cons (s2 _ _ (s1 _ _ ho)) (tu.keep fun b ys z=>s2 _ _ z),Zu.mpr ⟨fun hm=>(opn op hm).2 rfl,und⟩,fun ys hy=>?_,by rw [Zm]; lia,fun H3 C ckv s3 fC hC ck cv=>?_⟩
  ·rcases YM.mp hy with rfl | hy
   ·exact ⟨cx.op.1,on,os⟩
   ·exact (opn ys hy).1
  have SG:=s2.trans s3;have EC:=SG _ _ hD;have nDC:C ≠ D:=fun e=>by rw [e,s2 _ _ hD] at fC; cases fC
  have cnd:(ckv.map (·.1)).Nodup:=by
   rw [ck];exact BE (fun a b e=>E9 e) (Zu.mpr ⟨fun hm=>(opn op hm).2 rfl,und⟩)
  have cget:∀ (i:Nat) ys,(op :: outs)[i]? = some ys->∃ nn,ckv[i]? = some (ys.map Sum.inr,.int nn)/\B5 ws rs1 Au ys nn:=fun i ys e=>by
   have ek:(ckv.map (·.1))[i]? = some (ys.map Sum.inr):=by rw [ck,YS,e]; rfl
   rw [YS] at ek;cases q:ckv[i]? with
   | none=>rw [q] at ek; cases ek
   | some cp=>
    rw [q] at ek;obtain ⟨cpk,cpv⟩:=cp;have ek':cpk=ys.map Sum.inr:=Zf.inj ek;subst ek';obtain ⟨nn,rfl,tot⟩:=cv ys cpv (YN q);exact ⟨nn,rfl,tot⟩
  obtain ⟨t0,et0,S2⟩:=cget 0 op rfl;refine ⟨_,rfl,D,kvs,rfl,EC,fun ob ts H4 fz tl tt=>?_⟩;have Nf:H4 D=some (.frz ob (.dT kvs)):=by rw [fz.2]; exact Ab
  have s4:∀ b u,b ≠ D->H3 b=some u->H4 b=some u:=fun b u e z=>by rw [fz.2,Ae e]; exact z
  have OS:Av H H4:=fun b u z=>s4 _ _ (Ag z fD) (SG _ _ (s1 _ _ z))
  have Sh:Ck H4 op kvs (EE (rs1.map (·.1)) x op):=oc.keep fun b ys z=>s4 _ _ (fun e=>by rw [e,hD] at z; cases z) (SG _ _ z)
  have Xg:=s4 _ _ nDC hC;have ho4:=OS _ _ ho;have dgO:∀ {Nx:Hp},Av H4 Nx->BK Nx C (.ref o) (some (.int t0)):=fun {Nx} s=>.inr ⟨ckv,op.map Sum.inr,o,.inl (s _ _ Xg),rfl,by rw [s _ _ ho4,Zt]; rfl,(ET cnd et0).symm⟩
  refine Bl HP (xs:=ts.map V.ref) (fun L i σ H' acc=>∃ (v0:Option V) (ks:List (Int × List Str)),σ=[v0,some (.ref o),some (.ref D),some (.ref C)]/\Av H4 H'/\H' L=some (.lst acc)/\acc.length=ks.length/\(∀ (j:Nat) v p,acc[j]? = some v->ks[j]? = some p->RW H' v p)/\(∀ p ∈ ks,∃ e zs,e ∈ EE (rs1.map (·.1)) x op/\e.1=p.2/\Bp op e.2.1 e.2.2 zs/\B5 ws rs1 Au zs p.1/\p.1 < t0)/\(∀ e ∈ (EE (rs1.map (·.1)) x op).take i,∀ zs t,Bp op e.2.1 e.2.2 zs->B5 ws rs1 Au zs t->t < t0->(t,e.1) ∈ ks)/\acc.length<=i)
   (by rw [YI]; lia) (fun L hL=>⟨_,[],rfl,Ad hL,Ab,rfl,(fun j v p e=>by cases e),(fun p hp=>nomatch hp),(fun e he=>by rw [dz] at he; cases he),YO _⟩) (fun L i σ H' acc hL ⟨v0,ks,_,sa,hLL,_,_,_,_,al⟩=>⟨sa _ _ Nf,hLL,al⟩) ?_ ?_
  ·rintro L i σ H' acc x' B N hL ex ⟨v0,ks,rfl,sa,hLL,kle,kk,kd,kc,al⟩ hB hN;obtain ⟨T,eT,rfl⟩:∃ T,ts[i]? = some T/\x'=.ref T:=by
    rw [YS] at ex;cases q:ts[i]? with
    | none=>rw [q] at ex; cases ex
    | some y=>rw [q] at ex; exact ⟨y,rfl,(Zf.inj ex).symm⟩
   have hi:i < kvs.length:=by rw [<-tl]; exact (YQ.mp eT).1
   have ek:kvs[i]? = some kvs[i]:=YJ hi;obtain ⟨e,ee,ke⟩:=Sh.mem_get ek;have hT:=tt i T _ eT ek;rw [ke] at hT;have hTs:H4 T=some (.tup (e.1.map V.str)):=by rw [hT,Zt]; rfl
   obtain ⟨t,zs,vv,hz,ocz⟩:=Sh.val (Dk sn on) ee;have dgD:BK H' D (.ref T) (some (.ref t)):=.inr ⟨kvs,e.1.map Sum.inr,T,.inr ⟨ob,sa _ _ Nf⟩,rfl,sa _ _ hT,vv.symm⟩;have ez:(op :: outs)[i + 1]? = some zs:=by
    rw [ae];have Qm:i < outs.length:=by lia
    have:=oo i e _ ee (YJ Qm);rw [YJ Qm,this.uniq ocz]
   obtain ⟨nn,ecp,tot⟩:=cget (i + 1) zs ez;have hzk:H' t=some (.tup ((zs.map (Sum.inr:Str->A7)).map kV)):=by rw [sa _ _ hz,Zt]; rfl
   have dgC:BK H' C (.ref t) (some (.int nn)):=.inr ⟨ckv,zs.map Sum.inr,t,.inl (sa _ _ Xg),rfl,hzk,(ET cnd ecp).symm⟩;have em:=YN ee;have tk:∀ e',e' ∈ (EE (rs1.map (·.1)) x op).take (i + 1)->e' ∈ (EE (rs1.map (·.1)) x op).take i\/e'=e:=fun e' h=>by
    rw [Zk,ee] at h;rcases Zl.mp h with h | h
    ·exact .inl h
    ·exact .inr (Zc.mp h)
   refine ⟨_,rfl,_,rfl,_,rfl,D,.ref t,rfl,dgD,C,.int nn,rfl,dgC,_,rfl,_,rfl,C,.int t0,rfl,dgO sa,_,_,rfl,rfl,_,rfl,?_⟩;refine BJ (fun z=>?_) (fun z=>?_)
   ·have z':nn < t0:=of_decide_eq_true z;refine ⟨_,rfl,_,rfl,_,rfl,D,.ref t,rfl,dgD,C,.int nn,rfl,dgC,_,rfl,(by show 2<=sizeLine; lia),fun W hW=>?_⟩;have sW:=Ad (o:=.tup [V.int nn,V.ref T]) hW;have hLW:=sW _ _ hLL;have tp:∀ b ys,H' b=some (.tup ys)->(upd (upd H' W (.tup [V.int nn,V.ref T])) L (.lst (acc ++ [V.ref W]))) b=some (.tup ys):=fun b ys q=>by
     rw [Ae (fun e=>by rw [e,hLL] at q; cases q)];exact sW _ _ q
    refine hB _ _ _ hLW ⟨_,ks ++ [(nn,e.1)],rfl,BB (sa.trans sW) hL,Ab,by rw [YR,YR,kle]; rfl,fun j v p e1 e2=>?_,fun p hp=>?_,fun e' Ge Su t' o' Qy lt'=>?_,by rw [YR]; simp; lia⟩
    ·by_cases hj:j < acc.length
     ·rw [Zs hj] at e1;rw [Zs (by lia)] at e2;exact (kk j v p e1 e2).same tp
     ·have Yl:=(YQ.mp e1).1;rw [YR,ZC] at Yl;have hje:j=acc.length:=by lia
      subst hje;rw [Zr (YO _),aJ] at e1;rw [kle,Zr (YO _),aJ] at e2;cases e1
      cases e2
      have nWL:W ≠ L:=fun e=>by rw [e,hLL] at hW; cases hW
      exact ⟨W,T,rfl,by rw [Ae nWL]; exact Ab,tp _ _ (sa _ _ hTs)⟩
    ·rcases Zl.mp hp with hp | hp
     ·exact kd p hp
     ·rw [Zc.mp hp];exact ⟨e,zs,em,rfl,ocz,tot,z'⟩
    ·rcases tk e' Ge with h | rfl
     ·exact ZN _ (kc e' h Su t' o' Qy lt')
     ·rw [o'.uniq ocz] at Qy;rw [Qy.uniq tot];exact Za _ Zg
   ·have z':¬ nn < t0:=fun q=>z (decide_eq_true q)
    refine hN _ _ ⟨_,ks,rfl,sa,hLL,kle,kk,kd,fun e' Ge Su t' o' Qy lt'=>?_,by lia⟩;rcases tk e' Ge with h | rfl
    ·exact kc e' h Su t' o' Qy lt'
    ·rw [o'.uniq ocz] at Qy;rw [Qy.uniq tot] at lt';exact absurd lt' z'
  ·rintro L σ H5 acc hL ⟨v0,ks,rfl,s5,hLL,kle,kk,kd,kc,al⟩;rw [YI,tl,kl,Zn] at kc;have VQ:=OS.trans s5;refine ⟨_,rfl,!acc.isEmpty,.inl ⟨acc,AD.of hLL,rfl⟩,?_⟩;cases ks with
   | nil=>
    have ea:acc=[]:=ZF.mp kle;subst ea;refine F7 ?_;refine k _ _ t0 VQ S2 (.inl ⟨rfl,fun e he zs t t0' o' Qy tz=>?_⟩);rw [tz.uniq S2];by_cases q:t < t0
    ·exact absurd (kc e he zs t o' Qy q) (by simp)
    ·lia
   | cons p0 ks=>
    rw [show (!acc.isEmpty)=true from by cases acc with | nil=>simp at kle | cons a b=>rfl];refine MV ?_;refine ⟨_,rfl,_,rfl,L,acc,p0 :: ks,rfl,hLL,kle,by simp,kk,fun v p hp kn hmin=>?_⟩;obtain ⟨w',lx,rfl,hw,hx⟩:=kn;obtain ⟨e,zs,g1,g2,g3,g4,g5⟩:=kd p hp;obtain ⟨i,hi,ei⟩:=Zh g1;have ee:(EE (rs1.map (·.1)) x op)[i]? = some e:=by rw [YJ hi,ei]
    obtain ⟨t,Xq,vv,hz,ocz⟩:=Sh.val (Dk sn on) ee;have zz:=ocz.uniq g3;subst zz;refine ⟨w',_,_,_,rfl,rfl,AI.of hw,rfl,D,.ref t,rfl,.inr ⟨kvs,e.1.map Sum.inr,lx,.inr ⟨ob,s5 _ _ Nf⟩,rfl,?_,vv.symm⟩,?_⟩
    ·rw [hx,<-g2,Zt];rfl
    ·refine k _ _ t0 VQ S2 (.inr ⟨t,Xq,rfl,s5 _ _ hz,e,p.1,t0,g1,g3,g4,S2,g5,fun e' Ge Su t' o' Qy=>?_⟩);rw [g2];by_cases q:t' < t0
     ·exact hmin _ (kc e' Ge Su t' o' Qy q)
     ·refine Tg (by lia)
end
section
variable {P:Program} {w:World} {K:YL} {mg:Str->Option Value} {base:Heap}
theorem KO (h_list:mg "list"=none) (h_sorted:mg "sorted"=none) {fOC:Addr} {fdOC:FuncData} (XOC:Fn K mg "outcomes_of" Cd ["case","opening"] fOC fdOC) (GOC:A3 P w K mg base Bt 4 fOC fdOC ["case","opening"] K1) {fCO:Addr} {fdCO:FuncData} (XCO:Fn K mg "costs_of" C4 ["case","chosen"] fCO fdCO) (GCO:A3 P w K mg base Bt 5 fCO fdCO ["case","chosen"] EW) {f:Addr} {fd:FuncData} (F:DT K "exchanges" "exchanges" D4 f fd):A3 P w K mg base Bt 6 f fd ["case","opening"] GZ:=by
 refine F.ok FP (fun vs H Q E h=>?_) (fun cdv A outer s H vs Q E hr h=>?_)
 ·obtain ⟨c,o,m,n,xs,ws,rs1,Au,x,d,op,rfl,_⟩:=h;rfl
 ·obtain ⟨c,o,m,n,xs,ws,rs1,Au,x,d,op,rfl,cx,k⟩:=h;have nd:=FP.nd;have hu:=D7 hr;have EB:=hr.units;have big:100000 < sizeLine:=by decide
  refine ⟨_,(Af (Ar (i:=2) nd rfl (Or.inr rfl) (Aj GOC (hr.mono (by decide)) (by rfl) XOC.mg XOC.F.kp XOC.b .nil As (Aa (pv 0) (Aa (pv 1) Ac))))
  (Af (Ar (i:=3) nd rfl (Or.inr rfl) (Aj GCO (hr.mono (by decide)) (by rfl) XCO.mg XCO.F.kp XCO.b .nil As (Aa (pv 0) (Aa (A9 (EM rfl) (by rfl) h_list PyProof.Rows.boot_list (Aa (Rg PySem.F.plainAttrs_dict PySem.F.slot_dict_values PySem.F.type_dict_values JY (pv 2)) Ac)) Ac))))
  (Ak (A4 (Al (Jh K rfl EB) (by rfl) h_sorted PyProof.Rows.boot_sorted (Aa (Be (N:=["exchange","outcomes","costs"]) (σ0:=fun σ=>[none,some 2,some 3].map fun j=>j.bind fun j=>(σ[j]?).join) rfl (A6.caught (by rfl) (by decide +kernel) rfl (by decide +kernel) (by intro y hy; simp only [YM,YU,or_false] at hy; rcases hy with rfl | rfl <;> rfl)
   (by intro y hy e; simp only [YM,YU,or_false] at hy; rcases hy with rfl | rfl | rfl | rfl <;> first | exact ⟨_,rfl⟩ | cases e)) (fun σ _=>AH.of [none,some 2,some 3] rfl (by
   intro i j x h1 h2;match i,h1,h2 with
   | 0,_,h2=>cases h2
   | 1,h1,h2=>cases h1; cases h2; exact ⟨rfl,.inl rfl,.inl rfl⟩
   | 2,h1,h2=>cases h1; cases h2; exact ⟨rfl,.inl rfl,.inl rfl⟩
   | n + 3,h1,_=>cases h1)) (NY (pv 2))
   (fun s2 H C fp=>⟨(Ai (i:=0) (show (["exchange","outcomes","costs"]:List Str).Nodup by decide +kernel) rfl (Or.inl rfl)),AU,(Bh (Aa (pv 0) (Aa (AG hu (pv 2) (AG hu (pv 1) (pv 0) (fun _ _=>rfl)) (fun _ _=>rfl)) Ac)))⟩)) Ac)))))),?_⟩
  have sn:=cx.cw.ok1.nd;obtain ⟨on,os,oe⟩:=De cx.op sn;have l1:=cx.cw.l1;have sl:(rs1.map (·.1)).length<=10:=by rw [YI]; exact l1
  have Xl:=Gh cx.op sn sl;have el:(EE (rs1.map (·.1)) x op).length<=(Ca (rs1.map (·.1)) op).length:=Z2 _ _;refine ⟨_,rfl,_,rfl,c,o,m,n,xs,ws,rs1,Au,x,d,op,rfl,cx,fun H1 D kvs s1 fD hD oc=>?_⟩;have kl:=oc.len;obtain ⟨outs,tu,ol,oo⟩:=oc.tups;refine ⟨_,rfl,_,rfl,.inr (.inr (.inl ⟨rfl,.inr ⟨_,hD⟩⟩)),D,kvs,rfl,rfl,hD,fun r Lm=>?_⟩;have sr:=Ad (o:=FI r D) Lm;refine ⟨r,D,kvs,rfl,Ab,sr _ _ hD,fun l hl=>?_⟩;have s2:=sr.trans (Ad (o:=.lst (kvs.map (·.2))) hl);have hll:(upd (upd H1 r (FI r D)) l (.lst (kvs.map (·.2)))) l=some (.lst (kvs.map (·.2))):=Ab;generalize upd (upd H1 r (FI r D)) l (.lst (kvs.map (·.2)))=H2 at s2 hll ⊢;have und:=Iv sn on ol oo;have opn:∀ ys ∈ outs,Lq (rs1.map (·.1)) ys:=fun ys hy=>by
   obtain ⟨i,hi,e⟩:=Zh hy;have ee:(EE (rs1.map (·.1)) x op)[i]? = some ((EE (rs1.map (·.1)) x op)[i]'(by lia)):=YJ _;exact (oo i _ ys ee (by rw [YJ hi,e])).opn (YN ee) on os
  refine ⟨c,l,m,n,xs,ws,rs1,Au,x,d,kvs.map (·.2),outs,rfl,cx.cw.same (s1.trans s2),hll,tu.keep fun b ys z=>s2 _ _ z,und,opn,by lia,fun H3 C ckv s3 fC hC ck cv=>?_⟩;have SG:=s2.trans s3;have EC:=SG _ _ hD;have nDC:C ≠ D:=fun e=>by rw [e,s2 _ _ hD] at fC; cases fC
  refine ⟨_,rfl,D,kvs,rfl,EC,fun ob ts H4 fz tl tt=>?_⟩;have Nf:H4 D=some (.frz ob (.dT kvs)):=by rw [fz.2]; exact Ab
  have s4:∀ b u,b ≠ D->H3 b=some u->H4 b=some u:=fun b u e z=>by rw [fz.2,Ae e]; exact z
  have OS:Av H H4:=fun b u z=>s4 _ _ (Ag z fD) (SG _ _ (s1 _ _ z))
  have Sh:Ck H4 op kvs (EE (rs1.map (·.1)) x op):=oc.keep fun b ys z=>s4 _ _ (fun e=>by rw [e,hD] at z; cases z) (SG _ _ z)
  have Xg:=s4 _ _ nDC hC;have cnd:(ckv.map (·.1)).Nodup:=by
   rw [ck];exact BE (fun a b e=>E9 e) und
  refine Bx HP (xs:=ts.map V.ref) (fun L i σ H' acc=>∃ (v0:Option V) (ps:List (List Str × Int)),σ=[v0,some (.ref D),some (.ref C)]/\Av H4 H'/\H' L=some (.lst acc)/\JB H' acc (ps.map MX)/\ps.map (·.1)=((EE (rs1.map (·.1)) x op).take i).map (·.1)/\(∀ p ∈ ps,∃ e zs,e ∈ EE (rs1.map (·.1)) x op/\e.1=p.1/\Bp op e.2.1 e.2.2 zs/\B5 ws rs1 Au zs p.2)/\acc.length=i)
   (by rw [YI]; lia) (fun L hL=>⟨_,[],rfl,Ad hL,Ab,JB.nil,rfl,(fun p hp=>nomatch hp),rfl⟩) (fun L i σ H' acc hL ⟨v0,ps,_,sa,hLL,_,_,_,al⟩=>⟨sa _ _ Nf,hLL,al⟩) ?_ ?_
  ·rintro L i σ H' acc x' B hL ex ⟨v0,ps,rfl,sa,hLL,rr,pk,pd,al⟩ hB;obtain ⟨T,eT,rfl⟩:∃ T,ts[i]? = some T/\x'=.ref T:=by
    rw [YS] at ex;cases q:ts[i]? with
    | none=>rw [q] at ex; cases ex
    | some y=>rw [q] at ex; exact ⟨y,rfl,(Zf.inj ex).symm⟩
   have hi:i < kvs.length:=by rw [<-tl]; exact (YQ.mp eT).1
   have ek:kvs[i]? = some kvs[i]:=YJ hi;obtain ⟨e,ee,ke⟩:=Sh.mem_get ek;have hT:=tt i T _ eT ek;rw [ke] at hT;have hTs:H4 T=some (.tup (e.1.map V.str)):=by rw [hT,Zt]; rfl
   obtain ⟨t,zs,vv,hz,ocz⟩:=Sh.val (Dk sn on) ee;have dgD:BK H' D (.ref T) (some (.ref t)):=.inr ⟨kvs,e.1.map Sum.inr,T,.inr ⟨ob,sa _ _ Nf⟩,rfl,sa _ _ hT,vv.symm⟩;have ez:outs[i]? = some zs:=by
    have Qm:i < outs.length:=by lia
    have:=oo i e _ ee (YJ Qm);rw [YJ Qm,this.uniq ocz]
   have ekc:(ckv.map (·.1))[i]? = some (zs.map Sum.inr):=by rw [ck,YS,ez]; rfl
   rw [YS] at ekc;obtain ⟨cp,ecp,kcp⟩:∃ cp,ckv[i]? = some cp/\cp.1=zs.map Sum.inr:=by
    cases q:ckv[i]? with
    | none=>rw [q] at ekc; cases ekc
    | some cp=>rw [q] at ekc; exact ⟨cp,rfl,Zf.inj ekc⟩
   obtain ⟨cpk,cpv⟩:=cp;have XZ:cpk=zs.map Sum.inr:=kcp;subst XZ;obtain ⟨nn,rfl,tot⟩:=cv zs cpv (YN ecp);have hzk:H' t=some (.tup ((zs.map (Sum.inr:Str->A7)).map kV)):=by rw [sa _ _ hz,Zt]; rfl
   have dgC:BK H' C (.ref t) (some (.int nn)):=.inr ⟨ckv,zs.map Sum.inr,t,.inl (sa _ _ Xg),rfl,hzk,(ET cnd ecp).symm⟩;refine ⟨_,rfl,_,rfl,_,rfl,_,rfl,D,.ref t,rfl,dgD,C,.int nn,rfl,dgC,(by show 2<=sizeLine; lia),fun W hW=>?_⟩;have sW:=Ad (o:=.tup [.ref T,.int nn]) hW;have hLW:=sW _ _ hLL;refine hB _ _ _ hLW ⟨_,ps ++ [(e.1,nn)],rfl,BB (sa.trans sW) hL,Ab,?_,?_,?_,by rw [YR,al]; rfl⟩
   ·rw [YY];refine ((rr.keep fun b ys z=>sW _ _ z).app (JB.one (p:=MX (e.1,nn)) (t:=W) (e:=T) Ab (sW _ _ (sa _ _ hTs)))).keep fun b ys z=>?_
    rw [Ae (fun e=>by rw [e,hLW] at z; cases z)];exact z
   ·rw [YY,pk,HY (·.1) ee];rfl
   ·intro p hp;rcases Zl.mp hp with hp | hp
    ·exact pd p hp
    ·rw [Zc.mp hp];exact ⟨e,zs,YN ee,rfl,ocz,tot⟩
  ·rintro L σ H' acc hL ⟨v0,ps,rfl,sa,hLL,rr,pk,pd,al⟩;rw [YI,tl,kl,Zn] at pk;obtain ⟨z1,z2,z3,z4,z5⟩:=rr.sort fun p hp=>by
    obtain ⟨q,_,rfl⟩:=YT.mp hp;exact .inl ⟨_,rfl⟩
   have mk:(ps.map MX).map (·.1)=ps.map (·.1):=by rw [Zt]; rfl
   rw [mk,pk] at z3;refine ⟨L,MK acc (ps.map MX),rfl,AD.of (by rw [z1]; exact hLL),z2,by rw [z3]; exact Dk sn on,?_,fun l' zs hl' pz pw=>?_⟩
   ·rw [z4,YI];have:=congrArg ZW pk;rw [YI,YI] at this;lia
   ·obtain ⟨qs,q1,q2,q3⟩:=z5 zs pz;obtain ⟨X2,p2,rfl⟩:=EZ q2;have Sg:=Ad (o:=.lst (zs.map (·.1))) hl';have mk2:(X2.map MX).map (·.1)=X2.map (·.1):=by rw [Zt]; rfl
    rw [mk2] at q3;refine k _ l' (zs.map (·.1)) X2 (OS.trans (sa.trans Sg)) ((OS.trans sa).free0 hl') Ab (U0.rw.mpr (q1.keep fun b ys z=>Sg _ _ z)) ⟨?_,by rw [q3]; exact pw,fun p hp=>pd p (p2.mem_iff.mp hp)⟩;rw [<-pk];exact p2.map _
end
section
variable {P:Program} {w:World} {K:YL} {mg:Str->Option Value} {base:Heap}
theorem BN  {fCH:Addr} {fdCH:FuncData} (XCH:Fn K mg "changed" EY ["opening","out","more"] fCH fdCH) (GCH:A3 P w K mg base Bt 1 fCH fdCH ["opening","out","more"] JM) {fIO:Addr} {fdIO:FuncData} (XIO:Fn K mg "is_opening" CZ ["case","thing"] fIO fdIO) (GIO:A3 P w K mg base Bt 3 fIO fdIO ["case","thing"] (QA K)) {f:Addr} {fd:FuncData} (F:DT K "outcomes_of" "outcomes_of" Cd f fd):A3 P w K mg base Bt 4 f fd ["case","opening"] K1:=by
 refine F.ok E3 (fun vs H Q E h=>?_) (fun cdv A outer s H vs Q E hr h=>?_)
 ·obtain ⟨c,o,m,n,xs,ws,rs1,Au,x,d,op,rfl,_⟩:=h;rfl
 ·obtain ⟨c,o,m,n,xs,ws,rs1,Au,x,d,op,rfl,cx,k⟩:=h;have nd:=E3.nd;have hu:=D7 hr;have big:100000 < sizeLine:=by decide
  refine ⟨_,(Af (FU (ix:=2) (N:=["place","charge","opening"]) (σ0:=fun σ=>[none,none,some 1].map fun j=>j.bind fun j=>(σ[j]?).join) nd rfl (Or.inl rfl) rfl (A6.caught (by rfl) (by decide +kernel) rfl (by decide +kernel) (by intro y hy; simp only [YM,YU,or_false] at hy; rcases hy with rfl <;> rfl)
   (by intro y hy e; simp only [YM,YU,or_false] at hy; rcases hy with rfl | rfl | rfl | rfl <;> first | exact ⟨_,rfl⟩ | cases e)) (fun σ _=>AH.of [none,none,some 1] rfl (by
   intro i j x h1 h2;match i,h1,h2 with
   | 0,_,h2=>cases h2
   | 1,_,h2=>cases h2
   | 2,h1,h2=>cases h1; cases h2; exact ⟨rfl,.inl rfl,.inl rfl⟩
   | n + 3,h1,_=>cases h1)) (B6 K rfl (AJ (B8 K rfl) (pv 0) Ah (fun _ _=>rfl)))
   (fun s2 H C fp=>⟨(B7 K rfl (n:=2) rfl (Ap (Ai (i:=0) (show (["place","charge","opening"]:List Str).Nodup by decide +kernel) rfl (Or.inl rfl)) (Ap (Ai (i:=1) (show (["place","charge","opening"]:List Str).Nodup by decide +kernel) rfl (Or.inl rfl)) Bw))),(CF (AV (G2 K rfl) (pv 0) (pv 2) (by rfl))),(pv 0)⟩))
  (Af (Ar (i:=3) nd rfl (Or.inr rfl) (JU (N:=["site","opening"]) (σ0:=fun σ=>[none,some 1].map fun j=>j.bind fun j=>(σ[j]?).join) rfl hu (A6.caught (by rfl) (by decide +kernel) rfl (by decide +kernel) (by intro y hy; simp only [YM,YU,or_false] at hy; rcases hy with rfl <;> rfl)
   (by intro y hy e; simp only [YM,YU,or_false] at hy; rcases hy with rfl | rfl | rfl | rfl <;> first | exact ⟨_,rfl⟩ | cases e)) (fun σ _=>AH.of [none,some 1] rfl (by
   intro i j x h1 h2;match i,h1,h2 with
   | 0,_,h2=>cases h2
   | 1,h1,h2=>cases h1; cases h2; exact ⟨rfl,.inl rfl,.inl rfl⟩
   | n + 2,h1,_=>cases h1)) (BM K rfl (pv 2))
   (fun s2 H C fp=>⟨(Ai (i:=0) (show (["site","opening"]:List Str).Nodup by decide +kernel) rfl (Or.inl rfl)),AU,(Bh (Aa C7 (Aa (pv 0) Ac))),(Aj GCH (hr.mono (by decide)) (by rfl) XCH.mg XCH.F.kp XCH.b .nil As (Aa (pv 1) (Aa KI (Aa (pv 0) Ac))))⟩)))
  (Af (BL PassesOwn.never rfl (B6 K rfl (pv 1)) (Ai (i:=4) nd rfl (Or.inl rfl))
  (Af (Dd hu (pv 3) (Bh (Aa C7 (Aa (pv 4) Ac))) (Aj GCH (hr.mono (by decide)) (by rfl) XCH.mg XCH.F.kp XCH.b .nil As (Aa (pv 1) (Aa (pv 4) (Aa KI Ac)))) rfl)
  (Ak (BL PassesOwn.never rfl (BM K rfl (pv 2)) (Ai (i:=5) nd rfl (Or.inl rfl))
  (Ak (Dd hu (pv 3) (Bh (Aa C7 (Aa (pv 4) (Aa (pv 5) Ac)))) (Aj GCH (hr.mono (by decide)) (by rfl) XCH.mg XCH.F.kp XCH.b .nil As (Aa (pv 1) (Aa (pv 4) (Aa (pv 5) Ac)))) rfl))))))
  (Ak (A4 (JU (N:=["exchange","case","outcomes"]) (σ0:=fun σ=>[none,some 0,some 3].map fun j=>j.bind fun j=>(σ[j]?).join) rfl hu (A6.caught (by rfl) (by decide +kernel) rfl (by decide +kernel) (by intro y hy; simp only [YM,YU,or_false] at hy; rcases hy with rfl | rfl <;> rfl)
   (by intro y hy e; simp only [YM,YU,or_false] at hy; rcases hy with rfl | rfl | rfl | rfl | rfl <;> first | exact ⟨_,rfl⟩ | cases e)) (fun σ _=>AH.of [none,some 0,some 3] rfl (by
   intro i j x h1 h2;match i,h1,h2 with
   | 0,_,h2=>cases h2
   | 1,h1,h2=>cases h1; cases h2; exact ⟨rfl,.inl rfl,.inl rfl⟩
   | 2,h1,h2=>cases h1; cases h2; exact ⟨rfl,.inl rfl,.inl rfl⟩
   | n + 3,h1,_=>cases h1)) (NY (pv 3))
   (fun s2 H C fp=>⟨(Ai (i:=0) (show (["exchange","case","outcomes"]:List Str).Nodup by decide +kernel) rfl (Or.inl rfl)),(CF (G1 (Aj GIO (hr.mono (by decide)) (by rfl) XIO.mg XIO.F.kp XIO.b .nil As (Aa (pv 1) (Aa (AG hu (pv 2) (pv 0) (fun _ _=>rfl)) Ac))))),(pv 0),(AG hu (pv 2) (pv 0) (fun _ _=>rfl))⟩))))))),?_⟩
  obtain ⟨t1,t2,Fi,MA,hc,HD,HR,J1,hd2⟩:=cx.cw.ex;have Xt:=BC HR;have l1:=cx.cw.l1;have sn:=cx.cw.ok1.nd;obtain ⟨on,os,oe⟩:=De cx.op sn;have ho:=cx.ho;have sl:(rs1.map (·.1)).length<=10:=by rw [YI]; exact l1
  have Xl:=Gh cx.op sn sl;have oll:op.length<=10:=by lia
  have otl:(Bm (rs1.map (·.1)) op).length<=10:=by lia
  refine ⟨_,rfl,c,_,_,_,rfl,rfl,AI.of hc,rfl,t1,rfl,⟨_,AI.of HD⟩,?_⟩;refine Bl BD (xs:=Fi) (fun D i σ H' acc=>∃ v0 v1:Option V,σ=[v0,v1,some (.ref o)]/\Av H H'/\H' D=some (.lst acc)/\acc=(Bm ((rs1.map (·.1)).take i) op).map V.str)
   (by lia) (fun D hD=>⟨_,_,rfl,Ad hD,Ab,rfl⟩) (fun D i σ H' acc hD ⟨v0,v1,_,sa,AE,ea⟩=>⟨AI.of (sa _ _ HD),AE,by rw [ea,YI]; exact Zj (Z2 _ _) (by rw [Zy]; exact aA _ _)⟩) ?_ ?_
  ·rintro D i σ H' acc x' B N hD ex ⟨v0,v1,rfl,sa,AE,rfl⟩ hB hN;obtain ⟨u,t,eu,rfl,ht⟩:=CO HR ex;have ey:(rs1.map (·.1))[i]? = some u.1:=by rw [YS,eu]; rfl
   have tk:=DJ (fun s=>decide (s ∉ op)) ey;refine ⟨t,_,rfl,AI.of (sa _ _ ht),rfl,_,_,rfl,_,_,rfl,rfl,?_⟩;refine ⟨_,rfl,_,rfl,o,_,rfl,.inr (AI.of (sa _ _ ho)),rfl,GD _,_,rfl,?_⟩;rw [IP,show (!decide (u.1 ∈ op))=decide (u.1 ∉ op) by simp];refine BJ (fun z=>?_) (fun z=>?_)
   ·rw [if_pos z] at tk;exact ⟨_,rfl,hB _ _ _ AE ⟨_,_,rfl,BB sa hD,Ab,by unfold Bm; rw [tk,YY]; rfl⟩⟩
   ·rw [if_neg z,ZE] at tk;exact hN _ _ ⟨_,_,rfl,sa,AE,by unfold Bm; rw [tk]⟩
  rintro OT σ H1 acc fOT ⟨v0,v1,rfl,s1,hOT,rfl⟩;rw [Xt,show rs1.length=(rs1.map (·.1)).length by rw [YI],Zn] at hOT;obtain ⟨oth,eoth⟩:∃ l,l=Bm (rs1.map (·.1)) op:=⟨_,rfl⟩
  obtain ⟨ss,ess⟩:∃ l,l=rs1.map (·.1):=⟨_,rfl⟩
  rw [<-eoth] at hOT otl;have eall:Ca ss op=oth.map Lo ++ op.flatMap (Ew ss op):=by rw [eoth,ess]; rfl
  have VM:ss.Nodup:=ess ▸ sn;refine ⟨_,rfl,OT,rfl,⟨_,AD.of hOT⟩,?_⟩;refine NP BV (xs:=oth.map V.str) (fun D i σ H'=>∃ (v0:Option V) (kvs:List (List A7 × V)),σ=[v0,some (.ref o)]/\Av H1 H'/\H' D=some (.dT kvs)/\Ck H' op kvs ((oth.take i).map Lo))
   (fun D hD=>⟨_,[],rfl,Ad hD,Ab,Ck.nil⟩) (fun D i σ H' hD ⟨v0,kvs,_,sa,_,_⟩=>AD.of (sa _ _ hOT)) ?_ ?_
  ·rintro D i σ H' x' B N hD ex ⟨v0,kvs,rfl,sa,AE,oc⟩ hB hN;obtain ⟨y,ey,rfl⟩:=DK ex;refine MV (B:=N ([v0,some (V.ref o)].set 0 (some (V.str y))) H') ⟨_,rfl,(by show 2<=sizeLine; lia),fun T hT=>?_⟩;have sT:=Ad (o:=.tup [V.str "open",V.str y]) hT;refine ⟨_,rfl,_,rfl,o,op,none,some y,rfl,sT _ _ (sa _ _ (s1 _ _ ho)),by lia,fun H5 t zs s5 ft ht ocz=>?_⟩;have V4:=sa.trans (sT.trans s5);have Mj:=s5 _ _ (sT _ _ AE);have Rn:Ck H5 op kvs ((oth.take i).map Lo):=oc.keep fun b ys z=>s5 _ _ (sT _ _ z)
   have nw:(Lo y).1 ∉ ((oth.take i).map Lo).map (·.1):=by
    refine Ld (ss:=ss) (op:=op) (R:=(oth.drop (i + 1)).map Lo ++ op.flatMap (Ew ss op)) VM on ?_;rw [eall];conv=>lhs; rw [F9 ey,YY,Zb,ZG,au]
   have len:=Rn.len;rw [YI,Zy] at len;refine hB _ _ _ _ ⟨kvs,(Lo y).1.map Sum.inr,T,rfl,s5 _ _ Ab,Mj,by lia,_,kvs ++ [((Lo y).1.map Sum.inr,.ref t)],rfl,BB V4 hD,?_,?_⟩
   ·rw [Rn.new nw];exact Ab
   ·rw [HY Lo ey];refine (Rn.snoc ht ocz).keep fun b ys z=>?_
    rw [Ae (fun e=>by rw [e,Mj] at z; cases z)];exact z
  rintro D σ H2 fD ⟨v0,kvs,rfl,s2,hD,oc⟩;rw [YI,Zn] at oc;have Y4:H D=none:=s1.free0 fD;have nOD:OT ≠ D:=Ag hOT fD;refine ⟨_,rfl,o,rfl,⟨_,AI.of ((s1.trans s2) _ _ ho)⟩,?_⟩;refine RF (xs:=op.map V.str) (fun i σ H'=>∃ (v4 v5:Option V) (kvs:List (List A7 × V)),σ=[some (.ref c),some (.ref o),some (.ref OT),some (.ref D),v4,v5]/\Av H H'/\H' OT=some (.lst (oth.map V.str))/\H' D=some (.dT kvs)/\Ck H' op kvs (oth.map Lo ++ (op.take i).flatMap (Ew ss op)))
   ⟨_,_,kvs,rfl,s1.trans s2,s2 _ _ hOT,hD,by rw [dz,dk,ZE]; exact oc⟩ (fun i σ H' _ ⟨_,_,_,_,sa,_⟩=>AI.of (sa _ _ ho)) ?_ ?_
  ·rintro i v σ H' hv ⟨v4,v5,kv,rfl,sa,hO,AE,oc⟩ rt bk NN hN;obtain ⟨h,eh,rfl⟩:=DK hv;have hall:Ca ss op=(oth.map Lo ++ (op.take i).flatMap (Ew ss op)) ++ IV h :: (oth.map (Le h) ++ (op.drop (i + 1)).flatMap (Ew ss op)):=by
    rw [eall,Ni _ eh,show Ew ss op h=IV h :: oth.map (Le h) by unfold Ew; rw [eoth,ess]];simp only [ZG,au]
   obtain ⟨L0,eL0⟩:∃ l,l=oth.map Lo ++ (op.take i).flatMap (Ew ss op):=⟨_,rfl⟩
   rw [<-eL0] at oc hall;have lens:L0.length + 1 + oth.length<=63:=by
    have:=congrArg ZW hall;rw [ess] at this;rw [YR,Zm,YR,YI] at this;lia
   refine ⟨_,rfl,_,rfl,o,op,some h,none,rfl,sa _ _ ho,by lia,fun H5 t zs s5 ft ht ocz=>?_⟩;refine ⟨_,rfl,_,rfl,(by show 2<=sizeLine; lia),fun T hT=>?_⟩;have sT:=Ad (o:=.tup [V.str "shut",V.str h]) hT;have V4:=sa.trans (s5.trans sT);have Mj:=sT _ _ (s5 _ _ AE);have hO5:=sT _ _ (s5 _ _ hO);have Rn:Ck (upd H5 T (.tup [V.str "shut",V.str h])) op kv L0:=oc.keep fun b ys z=>sT _ _ (s5 _ _ z)
   have nw:(IV h).1 ∉ L0.map (·.1):=Ld VM on hall;have len:=Rn.len;refine ⟨D,_,rfl,Fh.t (k:=(IV h).1.map Sum.inr) Mj Ab (by lia),?_⟩;rw [Rn.new nw];have X7:=(Rn.snoc (e:=IV h) (sT _ _ ht) ocz).keep (H':=upd (upd H5 T (.tup [V.str "shut",V.str h])) D (.dT (kv ++ [((IV h).1.map Sum.inr,.ref t)]))) fun b ys z=>by
    rw [Ae (fun e=>by rw [e,Mj] at z; cases z)];exact z
   have s6:Av H (upd (upd H5 T (.tup [V.str "shut",V.str h])) D (.dT (kv ++ [((IV h).1.map Sum.inr,.ref t)]))):=BB V4 Y4;have Yz:(upd (upd H5 T (.tup [V.str "shut",V.str h])) D (.dT (kv ++ [((IV h).1.map Sum.inr,.ref t)]))) D=some (.dT (kv ++ [((IV h).1.map Sum.inr,.ref t)])):=Ab;have Yw:(upd (upd H5 T (.tup [V.str "shut",V.str h])) D (.dT (kv ++ [((IV h).1.map Sum.inr,.ref t)]))) OT=some (.lst (oth.map V.str)):=by rw [Ae nOD]; exact hO5
   generalize upd (upd H5 T (.tup [V.str "shut",V.str h])) D (.dT (kv ++ [((IV h).1.map Sum.inr,.ref t)]))=H6 at X7 s6 Yz Yw;generalize kv ++ [((IV h).1.map Sum.inr,V.ref t)]=kv6 at X7 Yz;refine ⟨_,rfl,OT,rfl,⟨_,AD.of Yw⟩,?_⟩;refine Kg (xs:=oth.map V.str) (fun j σ H'=>∃ (v5:Option V) (kvs:List (List A7 × V)),σ=[some (.ref c),some (.ref o),some (.ref OT),some (.ref D),some (.str h),v5]/\Av H H'/\H' OT=some (.lst (oth.map V.str))/\H' D=some (.dT kvs)/\Ck H' op kvs (L0 ++ IV h :: (oth.take j).map (Le h)))
    ⟨_,kv6,rfl,s6,Yw,Yz,X7⟩ (fun j σ H' _ ⟨_,_,_,_,hO,_⟩=>AD.of hO) ?_ ?_
   ·rintro j v σ H7 hv ⟨v5,XY,rfl,s7,Yv,Sk,WV⟩ VS bk2 NN2 hN2;obtain ⟨y,ey,rfl⟩:=DK hv;refine ⟨_,rfl,_,rfl,_,rfl,o,op,some h,some y,rfl,s7 _ _ ho,by lia,fun H8 t2 Xq s8 ft2 J1 X5=>?_⟩;refine ⟨_,rfl,_,rfl,_,rfl,(by show 3<=sizeLine; lia),fun T2 Ou=>?_⟩;have TY:=Ad (o:=.tup [V.str "swap",V.str h,V.str y]) Ou;have WS:=s7.trans (s8.trans TY);have VA:=TY _ _ (s8 _ _ Sk);have hO8:=TY _ _ (s8 _ _ Yv);have X6:Ck (upd H8 T2 (.tup [V.str "swap",V.str h,V.str y])) op XY (L0 ++ IV h :: (oth.take j).map (Le h)):=WV.keep fun b ys z=>TY _ _ (s8 _ _ z)
    have nw2:(Le h y).1 ∉ (L0 ++ IV h :: (oth.take j).map (Le h)).map (·.1):=by
     refine Ld (ss:=ss) (op:=op) (R:=(oth.drop (j + 1)).map (Le h) ++ (op.drop (i + 1)).flatMap (Ew ss op)) VM on ?_;rw [hall];conv=>lhs; rw [F9 ey]
     rw [YY,Zb];simp only [ZG,au]
    have Th:=X6.len;rw [YR,Zm,YI,Zy] at Th;refine ⟨D,_,rfl,Fh.t (k:=(Le h y).1.map Sum.inr) VA Ab (by lia),?_⟩;rw [X6.new nw2];refine hN2 _ _ ⟨_,_,rfl,BB WS Y4,by rw [Ae nOD]; exact hO8,Ab,?_⟩;rw [HY (Le h) ey,<-au,<-ZG];refine (X6.snoc (e:=Le h y) (TY _ _ J1) X5).keep fun b ys z=>?_
    rw [Ae (fun e=>by rw [e,VA] at z; cases z)];exact z
   ·rintro σ H7 ⟨v5,XY,rfl,s7,Yv,Sk,WV⟩;rw [YI,Zn] at WV;refine hN _ _ ⟨_,_,XY,rfl,s7,Yv,Sk,?_⟩;rw [OJ _ eh,<-ZG,<-eL0];unfold Ew;rw [<-ess] at eoth;rw [<-eoth];exact WV
  rintro σ H3 ⟨v4,v5,kv,rfl,s3,hO3,EC,oc3⟩;rw [YI,Zn,<-eall] at oc3;refine ⟨_,rfl,D,kv,rfl,EC,fun ob ts H4 fz tl tt=>?_⟩;have Nf:H4 D=some (.frz ob (.dT kv)):=by rw [fz.2]; exact Ab
  have s4:∀ b u,b ≠ D->H3 b=some u->H4 b=some u:=fun b u e z=>by rw [fz.2,Ae e]; exact z
  have OS:Av H H4:=fun b u z=>s4 _ _ (Ag z Y4) (s3 _ _ z)
  have Sh:Ck H4 op kv (Ca ss op):=oc3.keep fun b ys z=>s4 _ _ (fun e=>by rw [e,EC] at z; cases z) z
  have kl:=Sh.len;have cs:=cx.cw.sites;have nms:∀ s ∈ rs1.map (·.1),AQ s=true:=fun s hs=>by
   obtain ⟨r,Lm,rfl⟩:=YT.mp hs;exact cx.cw.map.at'.nm _ (cx.cw.ok1.sub r Lm)
  refine NP HP (fun D2 i σ H'=>∃ (v0:Option V) (kvs:List (List A7 × V)),σ=[v0,some (.ref c),some (.ref D)]/\Av H4 H'/\H' D2=some (.dT kvs)/\Ck H' op kvs (((Ca ss op).take i).filter (Fv x op)))
   (fun D2 Jr=>⟨_,[],rfl,Ad Jr,Ab,Ck.nil⟩) (fun D2 i σ H' Jr ⟨v0,kvs,_,sa,_,_⟩=>sa _ _ Nf) ?_ ?_
  ·rintro D2 i σ H' x' B N Jr ex ⟨v0,kvs,rfl,sa,AE,oc⟩ hB hN;obtain ⟨T,eT,rfl⟩:∃ T,ts[i]? = some T/\x'=.ref T:=by
    rw [YS] at ex;cases q:ts[i]? with
    | none=>rw [q] at ex; cases ex
    | some y=>rw [q] at ex; exact ⟨y,rfl,(Zf.inj ex).symm⟩
   have hi:i < kv.length:=by rw [<-tl]; exact (YQ.mp eT).1
   have ek:kv[i]? = some kv[i]:=YJ hi;obtain ⟨e,ee,ke⟩:=Sh.mem_get ek;have hT:=tt i T _ eT ek;rw [ke] at hT;obtain ⟨t,zs,vv,hz,ocz⟩:=Sh.val (EF VM on) ee;have em:=YN ee;have ein:=DQ em;have dg:∀ {Nx:Hp},Av H4 Nx->BK Nx D (.ref T) (some (.ref t)):=fun {Nx} s=>.inr ⟨kv,e.1.map Sum.inr,T,.inr ⟨ob,s _ _ Nf⟩,rfl,s _ _ hT,vv.symm⟩
   have ocr:=ocz.nodup on ein;have zsub:=ocz.sub (fun s hs=>ess ▸ os s hs) ein;have zl:zs.length<=10:=by
    have:=List.Nodup.length_le_of_subset ocr zsub;rw [ess] at this;lia
   refine ⟨_,rfl,_,rfl,_,rfl,D,.ref t,rfl,dg sa,?_⟩;refine ⟨c,rs1.map (·.1),x,d,.ref t,rfl,(cx.cw.same (OS.trans sa)).sites,cx.ri,nms,.inl ⟨_,O4.strs (sa _ _ hz) (by lia) (fun s hs=>Zj (Ro (nms _ (ess ▸ zsub s hs))) (by decide)),fun b H5 s5 hb=>?_⟩⟩
   ·have Fu:b=true ↔ Fv x op e=true:=hb.trans (ocz.isOp cx.ri on os (ess ▸ ein));have tk:=DJ (Fv x op) ee;have VO:=sa.trans s5;refine ⟨_,rfl,?_⟩;refine BJ (fun z=>?_) (fun z=>?_)
    ·rw [if_pos (Fu.mp z)] at tk;refine ⟨_,rfl,_,rfl,_,rfl,D,.ref t,rfl,dg VO,?_⟩;have Rn:Ck H5 op kvs (((Ca ss op).take i).filter (Fv x op)):=oc.keep fun b ys z=>s5 _ _ z
     have Mj:=s5 _ _ AE;have nw:e.1 ∉ (((Ca ss op).take i).filter (Fv x op)).map (·.1):=fun hm=>by
      have:=Ld VM on (F9 ee);obtain ⟨e',Ge,q⟩:=YT.mp hm;exact this (YT.mpr ⟨e',(Zx.mp Ge).1,q⟩)
     have len:=Rn.len;have lf:(((Ca ss op).take i).filter (Fv x op)).length<=(Ca ss op).length:=Zj (Z2 _ _) (by rw [Zy]; exact dv _ _);rw [<-ess] at Xl;refine hB _ _ _ _ ⟨kvs,e.1.map Sum.inr,T,rfl,VO _ _ hT,Mj,by lia,_,kvs ++ [(e.1.map Sum.inr,.ref t)],rfl,BB VO Jr,?_,?_⟩
     ·rw [Rn.new nw];exact Ab
     ·rw [tk];refine (Rn.snoc (VO _ _ hz) ocz).keep fun b ys z=>?_
      rw [Ae (fun e=>by rw [e,Mj] at z; cases z)];exact z
    ·rw [if_neg (fun w=>z (Fu.mpr w)),ZE] at tk;exact hN _ _ ⟨_,kvs,rfl,VO,s5 _ _ AE,by rw [tk]; exact oc.keep fun b ys z=>s5 _ _ z⟩
  ·rintro D2 σ H' Jr ⟨v0,kvs,rfl,sa,AE,oc⟩;rw [YI,tl,kl,Zn] at oc;exact k _ D2 kvs (OS.trans sa) (OS.free0 Jr) AE (by rw [<-ess]; exact oc)
end
section
variable {P:Program} {w:World} {K:YL} {mg:Str->Option Value} {base:Heap}
theorem Dp (h_sorted:mg "sorted"=none) (h_tuple:mg "tuple"=none)  {f:Addr} {fd:FuncData} (F:DT K "changed" "changed" EY f fd):A3 P w K mg base Bt 1 f fd ["opening","out","more"] JM:=by
 refine F.ok Ij (fun vs H Q E h=>?_) (fun cdv A outer s H vs Q E hr h=>?_)
 ·obtain ⟨o,op,out,more,rfl,_⟩:=h;rfl
 ·obtain ⟨o,op,out,more,rfl,ho,ol,k⟩:=h;have nd:=Ij.nd;have big:100000 < sizeLine:=by decide
  refine ⟨_,(Af (FU (ix:=3) (N:=["house","out"]) (σ0:=fun σ=>[none,some 1].map fun j=>j.bind fun j=>(σ[j]?).join) nd rfl (Or.inl rfl) rfl (A6.caught (by rfl) (by decide +kernel) rfl (by decide +kernel) (by intro y hy; simp only [YM,YU,or_false] at hy; rcases hy with rfl <;> rfl)
   (by intro y hy e; simp only [YM,YU,or_false] at hy; rcases hy with rfl | rfl | rfl <;> first | exact ⟨_,rfl⟩ | cases e)) (fun σ _=>AH.of [none,some 1] rfl (by
   intro i j x h1 h2;match i,h1,h2 with
   | 0,_,h2=>cases h2
   | 1,h1,h2=>cases h1; cases h2; exact ⟨rfl,.inl rfl,.inl rfl⟩
   | n + 2,h1,_=>cases h1)) (B6 K rfl (pv 0))
   (fun s2 H C fp=>⟨(Ai (i:=0) (show (["house","out"]:List Str).Nodup by decide +kernel) rfl (Or.inl rfl)),(CF (AV Rk (pv 0) (pv 1) (Bi _))),(pv 0)⟩))
  (Ak (A4 (A9 (AS K rfl) (by rfl) h_tuple PyProof.Rows.boot_tuple (Aa (Al (Gk K rfl) (by rfl) h_sorted PyProof.Rows.boot_sorted (Aa (Ip (Im (KJ (pv 2))) (pv 3) (Ay G4 (pv 3) (Bq (Aa (pv 2) Ac)))) Ac)) Ac))))),?_⟩
  have sc:∀ (h:Str) (q:Option Str),UC (.str h) (oS q)=true:=fun h q=>by cases q <;> rfl
  have nq:∀ (h:Str) (q:Option Str),(!decide (V.str h=oS q))=decide (some h ≠ q):=fun h q=>by cases q <;> simp [oS]
  refine ⟨_,rfl,o,rfl,⟨_,AI.of ho⟩,?_⟩;refine Bl BD (xs:=op.map V.str) (fun D i σ H' acc=>∃ v0:Option V,σ=[v0,some (oS out)]/\Av H H'/\H' D=some (.lst acc)/\acc=(EA (op.take i) out).map V.str)
   (by rw [YI]; lia) (fun D hD=>⟨_,rfl,Ad hD,Ab,rfl⟩) (fun D i σ H' acc hD ⟨v0,_,sa,AE,ea⟩=>⟨AI.of (sa _ _ ho),AE,by rw [ea,YI]; exact Zj (Z2 _ _) (by rw [Zy]; exact aA _ _)⟩) ?_ ?_
  ·rintro D i σ H' acc x' B N hD ex ⟨v0,rfl,sa,AE,rfl⟩ hB hN;obtain ⟨y,ey,rfl⟩:=DK ex;have tk:=DJ (fun h=>decide (some h ≠ out)) ey;refine ⟨_,rfl,_,rfl,sc _ _,_,rfl,?_⟩;rw [nq];refine BJ (fun z=>?_) (fun z=>?_)
   ·rw [if_pos z] at tk;exact ⟨_,rfl,hB _ _ _ AE ⟨_,rfl,BB sa hD,Ab,by unfold EA; rw [tk,YY]; rfl⟩⟩
   ·rw [if_neg z,ZE] at tk;exact hN _ _ ⟨_,rfl,sa,AE,by unfold EA; rw [tk]⟩
  ·rintro D σ H' acc hD ⟨v0,rfl,sa,AE,rfl⟩;rw [YI,Zn] at AE;have kl:(EA op out).length<=op.length:=Z2 _ _;have C6:∀ (H2:Hp) (L:Addr) (ys:List Str),Av H H2->H2 L=some (.lst (ys.map V.str))->ys=EA op out ++ more.toList->∃ (a:Addr) (ss:List Str),[V.ref L]=[.ref a]/\AD K H2 a (ss.map V.str)/\ss.length < 64/\∀ (l:Addr) (Du:List Str),H2 l=none->Du.Perm ss->PyProof.Rows.sortedS Du=true->∃ (p:Addr) (ys:List V),[V.ref l]=[.ref p]/\((AD K (upd H2 l (.lst (Du.map V.str))) p ys/\∀ t,(upd H2 l (.lst (Du.map V.str))) t=none->Q (.ref t) (upd (upd H2 l (.lst (Du.map V.str))) t (.tup ys)))\/(AI K (upd H2 l (.lst (Du.map V.str))) p ys/\Q (.ref p) (upd H2 l (.lst (Du.map V.str))))):=fun H2 L ys s2 hL ey=>by
    refine ⟨L,ys,rfl,AD.of hL,?_,fun l zs hl pz sz=>⟨l,zs.map V.str,rfl,.inl ⟨AD.of Ab,fun t ht=>?_⟩⟩⟩
    ·rw [ey,YR];have:more.toList.length<=1:=by cases more <;> simp
     lia
    ·have s3:=s2.trans (Ad (o:=.lst (zs.map V.str)) hl);exact k _ t zs (s3.trans (Ad ht)) (s3.free0 ht) Ab ⟨ey ▸ pz,sz⟩
   refine ⟨_,rfl,_,rfl,?_⟩;cases more with
   | none=>
    refine BJ (fun _=>⟨_,rfl,?_⟩) (fun z=>by simp [oS] at z);exact C6 _ D _ sa AE (by simp)
   | some s=>
    refine BJ (fun z=>by simp [oS] at z) (fun _=>⟨_,rfl,_,rfl,(by show 1<=sizeLine; lia),fun L1 W9=>?_⟩);have s2:=Ad (o:=.lst [V.str s]) W9;refine ⟨D,L1,_,_,rfl,rfl,s2 _ _ AE,Ab,by rw [YI]; show _ + 1<=sizeLine; lia,fun L2 Qn=>?_⟩;exact C6 _ L2 (EA op out ++ [s]) ((sa.trans s2).trans (Ad Qn)) (by rw [YY]; exact Ab) rfl
end
section
variable {P:Program} {w:World} {K:YL} {mg:Str->Option Value} {base:Heap}
theorem HA (h_int:mg "int"=none) (h_len:mg "len"=none) (h_sorted:mg "sorted"=none) {f:Addr} {fd:FuncData} (F:DT K "_law_openings" "_law_openings" Cv f fd):A3 P w K mg base Bt 1 f fd ["_law_case_here"] K3:=by
 refine F.ok Es (fun vs H Q E h=>?_) (fun cdv A outer s H vs Q E hr h=>?_)
 ·obtain ⟨c,sites,x,d,rfl,_⟩:=h;rfl
 ·obtain ⟨c,sites,x,d,rfl,cs,s6,k⟩:=h;have nd:=Es.nd;have big:100000 < sizeLine:=by decide
  refine ⟨_,(Af (Ar (i:=1) nd rfl (Or.inl rfl) (Bq (Aa (Bh Ac) Ac)))
  (Af (BL PassesOwn.never rfl (B6 K rfl (AJ (B8 K rfl) (pv 0) Ah (fun _ _=>rfl))) (B7 K rfl rfl (Ap (Ai (i:=2) nd rfl (Or.inr rfl)) (Ap (Ai (i:=3) nd rfl (Or.inl rfl)) Bw)))
  (Ak (Ar (i:=1) nd rfl (Or.inl rfl) (Ay G4 (pv 1) (Be (N:=["_law_one","_law_place"]) (σ0:=fun σ=>[none,some 2].map fun j=>j.bind fun j=>(σ[j]?).join) rfl (A6.caught (by rfl) (by decide +kernel) rfl (by decide +kernel) (by intro y hy; simp only [YM,YU,or_false] at hy; rcases hy with rfl <;> rfl)
   (by intro y hy e; simp only [YM,YU,or_false] at hy; rcases hy with rfl | rfl | rfl <;> first | exact ⟨_,rfl⟩ | cases e)) (fun σ _=>AH.of [none,some 2] rfl (by
   intro i j x h1 h2;match i,h1,h2 with
   | 0,_,h2=>cases h2
   | 1,h1,h2=>cases h1; cases h2; exact ⟨rfl,.inl rfl,.inl rfl⟩
   | n + 2,h1,_=>cases h1)) (HN (pv 1))
   (fun s2 H C fp=>⟨(Ai (i:=0) (show (["_law_one","_law_place"]:List Str).Nodup by decide +kernel) rfl (Or.inl rfl)),AU,(Ay (Iy K rfl) (pv 0) (Bh (Aa (pv 1) Ac)))⟩))))))
  (Af (Ar (i:=4) nd rfl (Or.inr rfl) (AJ Om (Bq (Aa (AJ (B8 K rfl) (pv 0) Ah (fun _ _=>rfl)) (Aa (Al Em (by rfl) h_len PySem.boot_len (Aa (AJ (B8 K rfl) (pv 0) Ah (fun _ _=>rfl)) Ac)) Ac))) (A9 GQ (by rfl) h_int PyProof.Rows.boot_int (Aa (MP (KJ (AJ (B8 K rfl) (pv 0) Ah (fun _ _=>rfl)))) Ac)) (fun _ _=>rfl)))
  (Ak (A4 (Al (CV K rfl) (by rfl) h_sorted PyProof.Rows.boot_sorted (Aa (Be (N:=["_law_one","_law_most"]) (σ0:=fun σ=>[none,some 4].map fun j=>j.bind fun j=>(σ[j]?).join) rfl (A6.caught (by rfl) (by decide +kernel) rfl (by decide +kernel) (by intro y hy; simp only [YM,YU,or_false] at hy; rcases hy with rfl <;> rfl)
   (by intro y hy e; simp only [YM,YU,or_false] at hy; rcases hy with rfl | rfl | rfl | rfl <;> first | exact ⟨_,rfl⟩ | cases e)) (fun σ _=>AH.of [none,some 4] rfl (by
   intro i j x h1 h2;match i,h1,h2 with
   | 0,_,h2=>cases h2
   | 1,h1,h2=>cases h1; cases h2; exact ⟨rfl,.inl rfl,.inl rfl⟩
   | n + 2,h1,_=>cases h1)) (HN (pv 1))
   (fun s2 H C fp=>⟨(Ai (i:=0) (show (["_law_one","_law_most"]:List Str).Nodup by decide +kernel) rfl (Or.inl rfl)),(CF (Io Hm LR Ah (Al (Ax K rfl) (by rfl) h_len PySem.boot_len (Aa (pv 0) Ac)) (pv 1))),(pv 0)⟩)) Ac))))))),?_⟩
  obtain ⟨mV,Xw,t1,Fi,rs1,hc,HD,HR,rfl,snd,sl,lim⟩:=cs;have ul:=BC HR;rw [YI] at sl;refine ⟨(by show 0<=sizeLine; lia),fun T0 Yr=>⟨(by show 1<=sizeLine; lia),fun L0 Vi=>?_⟩⟩;have s0:=(Ad (o:=.tup []) Yr).trans (Ad (o:=.lst [.ref T0]) Vi);refine ⟨_,rfl,c,_,_,_,rfl,rfl,AI.of (s0 _ _ hc),rfl,t1,rfl,⟨_,AI.of (s0 _ _ HD)⟩,?_⟩;refine IU (xs:=Fi) (fun i σ H'=>∃ (L:Addr) (us:List V) (fs:List (List Str)) (v2 v3 v4:Option V),σ=[some (.ref c),some (.ref L),v2,v3,v4]/\Av H H'/\H' L=some (.lst us)/\Bo H' us fs/\ER ((rs1.map (·.1)).take i) 100 fs/\fs.length<=2 ^ i)
   ⟨L0,[.ref T0],[[]],_,_,_,rfl,s0,Ab,.cons (by rw [Ae (by intro z; subst z; rw [Ab] at Vi; cases Vi)]; exact Ab) .nil,ER.nil (by decide),YO _⟩
   (fun i σ H' _ ⟨_,_,_,_,_,_,_,sa,_⟩=>AI.of (sa _ _ HD)) ?_ ?_
  ·rintro i xx σ H' ex ⟨L,us,fs,v2,v3,v4,rfl,sa,hL,tU,sub,fl⟩ rt bk;obtain ⟨u,t,eu,rfl,ht⟩:=CO HR ex;have hi:i < rs1.length:=(YQ.mp eu).1;have Y5:fs.length<=512:=Zj fl (Zj (ZR (by decide) (show i<=9 by lia)) (by decide));have hul:=tU.len;have Tt:∀ f ∈ fs,f.length<=10:=fun f hf=>by
    have:=((sub.2 f).mp hf).1.length_le;rw [Zy,YI] at this;lia
   refine ⟨t,_,rfl,AI.of (sa _ _ ht),rfl,_,_,rfl,_,_,rfl,rfl,?_⟩;refine ⟨_,rfl,_,rfl,L,rfl,⟨_,AD.of hL⟩,?_⟩;refine Bx BV (xs:=us) (fun D j Aw H2 acc=>∃ v0:Option V,Aw=[v0,some (.str u.1)]/\Av H' H2/\H2 D=some (.lst acc)/\Bo H2 acc ((fs.take j).map (· ++ [u.1]))/\acc.length=j)
    (by lia) (fun D hD=>⟨_,rfl,Ad hD,Ab,.nil,rfl⟩) (fun D j Aw H2 acc hD ⟨v0,_,sb,AE,_,al⟩=>⟨AD.of (sb _ _ hL),AE,al⟩) ?_ ?_
   ·rintro D j Aw H2 acc x' B hD Xi ⟨v0,rfl,sb,AE,tp,al⟩ hB;obtain ⟨tf,f,rfl,ef,htf⟩:=tU.get Xi;have fm:=Tt f (YN ef);refine ⟨_,rfl,_,rfl,(by show 1<=sizeLine; lia),fun T1 R9=>?_⟩;have q1:=Ad (o:=.tup [.str u.1]) R9;have Yq:(upd H2 T1 (.tup [.str u.1])) T1=some (.tup [.str u.1]):=Ab;refine catA (K:=K) (q1 _ _ (sb _ _ htf)) Yq (by rw [YI]; show f.length + 1<=sizeLine; lia) fun T H5 s5 hT=>?_
    have q5:=q1.trans s5;refine hB _ _ _ (q5 _ _ AE) ⟨_,rfl,fun b o' z=>by rw [Ae (Ag z hD)]; exact q5 _ _ (sb _ _ z),Ab,?_,by rw [YR,al]; rfl⟩;rw [Zk,ef,YY];have hT':H5 T=some (.tup ((f ++ [u.1]).map V.str)):=by rw [hT,YY]; rfl
    refine ((tp.keep fun b ys z=>q5 _ _ z).app (.cons hT' .nil)).keep fun b ys z=>?_
    rw [Ae (Bz z (q5 _ _ AE) (fun q=>by cases q))];exact z
   ·rintro D Aw H2 acc hD ⟨v0,rfl,sb,AE,tp,al⟩;refine ⟨L,D,us,acc,rfl,rfl,sb _ _ hL,AE,by lia,fun p hp=>?_⟩;have sp:=Ad (o:=.lst (us ++ acc)) hp;rw [hul,Zn] at tp;have e0:(rs1.map (·.1))[i]? = some u.1:=by rw [YS,eu]; rfl
    have e1:(rs1.map (·.1)).take (i + 1)=(rs1.map (·.1)).take i ++ [u.1]:=by rw [Zk,e0]; rfl
    have nin:u.1 ∉ (rs1.map (·.1)).take i:=by
     have:=snd.sublist (bG (i + 1) _);rw [e1] at this;exact fun z=>(Z4.mp this).2.2 _ z _ (by simp) rfl
    have ef:(fs.filter fun f=>decide ((f.length:Int) < 100))=fs:=List.filter_eq_self.mpr fun f hf=>decide_eq_true (by have:=Tt f hf; lia)
    refine ⟨p,us ++ acc,fs ++ fs.map (· ++ [u.1]),_,_,_,rfl,(sa.trans sb).trans sp,Ab,((tU.keep fun b ys z=>sb _ _ z).app tp).keep (fun b ys z=>sp _ _ z),?_,?_⟩
    ·rw [e1];have:=ER.step nin sub;rw [ef] at this;exact this
    ·rw [YR,YI,cB];lia
  ·rintro σ H' ⟨L,us,fs,v2,v3,v4,rfl,sa,hL,tU,sub,fl⟩;rw [ul,aG (by rw [YI]; exact YO _)] at sub;rw [ul] at fl;have f64:fs.length<=64:=Zj fl (Zj (ZR (by decide) (by rw [YI] at s6; exact s6)) (by decide));have RI:fs.length<=1024:=Zj fl (Zj (ZR (by decide) sl) (by decide));have hul:=tU.len;have HS:=sa _ _ hc;have Yg:=sa _ _ HD;obtain ⟨mo,hmo,mok⟩:∃ mo:Int,JA [x,V.int (Fi.length:Int)] (if decide (x=.non)=true then 1 else 0)=some (.int mo)/\∀ f ∈ fs,((f.length:Int)<=mo ↔ GA x f.length=true):=by
    rcases lim with ⟨rfl,_⟩ | ⟨i,rfl,_,i1,i2⟩
    ·refine ⟨Fi.length,rfl,fun f hf=>⟨fun _=>rfl,fun _=>?_⟩⟩;have:=((sub.2 f).mp hf).1.length_le;rw [YI] at this;lia
    ·exact ⟨i,rfl,fun f hf=>⟨fun h=>decide_eq_true h,fun h=>of_decide_eq_true h⟩⟩
   refine ⟨_,rfl,c,_,_,_,rfl,rfl,AI.of HS,rfl,_,rfl,c,_,_,_,rfl,rfl,AI.of HS,rfl,t1,_,rfl,.inr (AI.of Yg),(by show 2<=sizeLine; lia),fun M hM=>?_⟩;have sM:=Ad (o:=.lst [x,.int (Fi.length:Int)]) hM;have hMM:(upd H' M (.lst [x,.int (Fi.length:Int)])) M=some (.lst [x,.int (Fi.length:Int)]):=Ab;generalize upd H' M (.lst [x,.int (Fi.length:Int)])=H1 at sM hMM ⊢;refine ⟨_,rfl,c,_,_,_,rfl,rfl,AI.of (sM _ _ HS),rfl,.inr ⟨_,rfl,M,_,_,_,rfl,rfl,AD.of hMM,hmo,?_⟩⟩;refine ⟨_,rfl,L,rfl,⟨_,AD.of (sM _ _ hL)⟩,?_⟩;refine Bl BV (xs:=us) (fun D i Aw H2 acc=>∃ v0:Option V,Aw=[v0,some (.int mo)]/\Av H1 H2/\H2 D=some (.lst acc)/\Bo H2 acc ((fs.take i).filter fun f=>decide (0 < f.length) && GA x f.length)/\acc.length<=i)
    (by lia) (fun D hD=>⟨_,rfl,Ad hD,Ab,.nil,YO _⟩) (fun D i Aw H2 acc hD ⟨v0,_,sb,AE,_,al⟩=>⟨AD.of (sb _ _ (sM _ _ hL)),AE,al⟩) ?_ ?_
   ·rintro D i Aw H2 acc x' B N hD ex ⟨v0,rfl,sb,AE,tp,al⟩ hB hN;obtain ⟨tf,f,rfl,ef,htf⟩:=tU.get ex;have Mg:=sb _ _ (sM _ _ htf);have mk:=mok f (YN ef);have yes:(decide (0 < f.length) && GA x f.length)=true->B [some (.ref tf),some (.int mo)] (.ref tf) H2:=fun z=>by
     refine hB _ _ _ AE ⟨_,rfl,fun b o' z=>by rw [Ae (Ag z hD)]; exact sb _ _ z,Ab,?_,by rw [YR]; simp; lia⟩;rw [Zk,ef,ZU];simp only [aK,ZP,z,if_true,az];refine (tp.app (.cons Mg .nil)).keep fun b ys z=>?_
     rw [Ae (Bz z AE (fun q=>by cases q))];exact z
    have no:(decide (0 < f.length) && GA x f.length)=false->N [some (.ref tf),some (.int mo)] H2:=fun z=>by
     refine hN _ _ ⟨_,rfl,sb,AE,?_,by lia⟩;rw [Zk,ef,ZU];simp only [aK,ZP,z,Zp,if_false,az,ZE];exact tp
    refine ⟨_,rfl,tf,_,rfl,.inr (AI.of Mg),_,_,rfl,rfl,_,rfl,?_⟩;rw [YI];refine BJ (fun z1=>?_) (fun z1=>?_)
    ·have WH:0 < f.length:=by have:=of_decide_eq_true z1; lia
     refine ⟨_,rfl,_,_,rfl,rfl,_,rfl,?_⟩;refine BJ (fun z=>?_) (fun z=>?_)
     ·exact ⟨_,rfl,yes (by rw [decide_eq_true WH,mk.mp (of_decide_eq_true z)]; rfl)⟩
     ·refine no ?_;rw [decide_eq_true WH,Bool.true_and];cases hb:GA x f.length with
      | false=>rfl
      | true=>exact absurd (decide_eq_true (mk.mpr hb)) z
    ·have z0:¬ ((0:Int) < f.length):=by simpa using z1
     have WH:¬ 0 < f.length:=by lia
     refine ⟨_,rfl,?_⟩;refine F7 ?_;exact no (by rw [decide_eq_false WH]; rfl)
   ·rintro D Aw H2 acc hD ⟨v0,rfl,sb,AE,tp,al⟩;rw [hul,Zn] at tp;refine ⟨D,acc,fun _=>true,rfl,AD.of AE,tp.kinds (fun f hf=>?_),?_,fun l HW hl pm=>?_⟩
    ·have:=(Zx.mp hf).2;simp only [Z3,decide_eq_true_eq] at this;intro z;rw [z] at this;simp at this
    ·have e1:=tp.len;have e2:=(bz (p:=fun f:List Str=>decide (0 < f.length) && GA x f.length) (l:=fs)).mpr ⟨[],(sub.2 []).mpr ⟨aM _,by decide⟩,by simp⟩;lia
    ·obtain ⟨os,po,to⟩:=Bo.perm pm tp;have Sg:=Ad (o:=.lst HW) hl;refine k _ l HW os (((sa.trans sM).trans sb).trans Sg) ?_ Ab (to.keep fun b ys z=>Sg _ _ z) ⟨po.nodup_iff.mpr (sub.1.sublist ax),?_,fun ss=>?_⟩ (by rw [po.length_eq]; exact Zj (Z2 _ _) RI)
     ·exact ((sa.trans sM).trans sb).free hl
     ·trivial
     ·rw [po.mem_iff,Zx,sub.2,Z3,decide_eq_true_eq];constructor
      ·rintro ⟨⟨h1,_⟩,h2,h3⟩;exact ⟨by intro z; rw [z] at h2; simp at h2,h1,h3⟩
      ·rintro ⟨h1,h2,h3⟩;refine ⟨⟨h2,?_⟩,ZZ.mpr h1,h3⟩;have:=h2.length_le;rw [YI] at this;lia
end
section
variable {P:Program} {w:World} {K:YL} {mg:Str->Option Value} {base:Heap}
theorem Iz {f:Addr} {fd:FuncData} (F:DT K "neighbours" "neighbours" CY f fd):A3 P w K mg base Bt 1 f fd ["web"] (Q7 K):=by
 refine F.ok Fl (fun vs H Q E h=>?_) (fun cdv A outer s H vs Q E hr h=>?_)
 ·obtain ⟨q,ps,ws,r,rfl,_⟩:=h;rfl
 ·obtain ⟨q,ps,ws,r,rfl,ok,k⟩:=h;obtain ⟨tp,tw,us,hq,htp,htw,hD⟩:=ok.web.ex;have nd:=Fl.nd;have hu:=D7 hr;have big:1000 < sizeLine:=by decide
  have l30:=ok.l30;have l64:=ok.l64;refine ⟨_,Af (Eb (pv 0) (B7 K rfl rfl (Ap (Ai (i:=1) nd rfl (Or.inl rfl)) (Ap (Ai (i:=2) nd rfl (Or.inl rfl)) Bw))))
   (Af (QW (ix:=3) (N:=["place"]) (σ0:=fun _=>[none]) nd rfl (Or.inl rfl) rfl (A6.plain (by decide +kernel) (by decide +kernel) rfl (by decide +kernel)) (fun σ _=>AH.none _ _ _ ["place"] σ) (B6 K rfl (pv 1))
    (fun s2 H C fp=>⟨Ai (i:=0) (show (["place"]:List Str).Nodup by decide +kernel) rfl (Or.inl rfl),AU,pv 0,LQ⟩))
   (Af (BL PassesOwn.never rfl (B6 K rfl (pv 2)) (B7 K rfl rfl (Ap (Ai (i:=4) nd rfl (Or.inl rfl)) (Ap (Ai (i:=5) nd rfl (Or.inl rfl)) (Ap (Ai (i:=6) nd rfl (Or.inl rfl)) Bw))))
    (Af (Dd hu (AG hu (pv 3) (pv 4) (fun _ _=>rfl)) (pv 5) (pv 6) rfl) (Ak (Dd hu (AG hu (pv 3) (pv 5) (fun _ _=>rfl)) (pv 4) (pv 6) rfl))))
   (Ak (A4 (pv 3))))),?_⟩
  refine ⟨_,rfl,q,_,rfl,AI.of hq,rfl,_,_,rfl,_,_,rfl,rfl,?_⟩;refine ⟨_,rfl,tp,rfl,⟨_,AI.of htp⟩,fun C hC=>⟨fun i m Aw H'=>m=ps.length - i/\i<=ps.length/\(∃ v,Aw=[v])/\∃ ds:List Addr,Av H H'/\ds.length=i/\ds.Nodup/\C ∉ ds/\(∀ d ∈ ds,H d=none/\H' d=some (.dK []))/\H' C=some (.dK (sK (Oe (ps.take i) ds))),
   ⟨_,rfl,Zz _,⟨_,rfl⟩,[],Ad hC,rfl,.nil,by simp,by simp,Ab⟩,?_⟩⟩
  rintro i m Aw H' ⟨rfl,hi,⟨v,rfl⟩,ds,s1,dl,dn,dC,dH,Ow⟩;have Nb:=s1 _ _ htp;by_cases Bv:i < ps.length
  ·refine .inr ⟨⟨_,V.str ps[i],AI.of Nb,by rw [YS,YJ Bv]; rfl⟩,?_⟩;rintro x H6 ⟨rfl,hx⟩;have Jq:=hx _ (AI.of Nb);rw [YS,YJ Bv] at Jq;cases Jq
   have tl:(ps.take i).length=i:=by rw [Zy]; lia
   have np:ps[i] ∉ (Oe (ps.take i) ds).map (·.1):=by
    rw [IB (by lia)];intro hm;obtain ⟨j,hj,e⟩:=Zh hm;rw [aH] at e;have:=FY ok.nd (YJ (show j < ps.length by lia)) (by rw [YJ Bv,e]);lia
   refine ⟨_,rfl,fun d hd=>⟨_,Sum.inr ps[i],rfl,Ad hd _ _ Ow,?_,_,by lia,rfl,Bv,⟨_,rfl⟩,ds ++ [d],fun b o z=>?_,by simp [dl],?_,?_,fun c hc=>?_,?_⟩⟩
   ·rw [CT];unfold Oe;rw [YI,ay];lia
   ·rw [Ae (Ag z hC)];exact Ad hd _ _ (s1 _ _ z)
   ·refine Z4.mpr ⟨dn,Zu.mpr ⟨by simp,.nil⟩,fun a ha b hb=>?_⟩;have e:b=d:=by simpa using hb
    subst e;rintro rfl;rw [(dH _ ha).2] at hd;cases hd
   ·rw [Zl,not_or];refine ⟨dC,fun hm=>?_⟩;have e:C=d:=by simpa using hm
    rw [<-e,Ow] at hd;cases hd
   ·rcases Zl.mp hc with hc | hc
    ·refine ⟨(dH c hc).1,?_⟩;rw [Ae (fun z=>dC (by rw [<-z]; exact hc))];exact Ad hd _ _ (dH c hc).2
    ·have e:c=d:=by simpa using hc
     subst e;refine ⟨s1.free hd,?_⟩;rw [Ae (fun z=>by rw [z,Ow] at hd; cases hd)];exact Ab
   ·rw [Ab,D9 np];have e1:ps.take (i + 1)=ps.take i ++ [ps[i]]:=by rw [Zk,YJ Bv]; rfl
    have e2:Oe (ps.take (i + 1)) (ds ++ [d])=Oe (ps.take i) ds ++ [(ps[i],.ref d)]:=by
     unfold Oe;rw [e1,List.zip_append (by lia),YY];rfl
    rw [e2]
  ·have e0:i=ps.length:=by lia
   subst e0;rw [Zn] at Ow;refine .inl ⟨⟨_,AI.of Nb,by rw [YI]; exact YO _⟩,?_⟩;have NB0:NB H' C ps ds (Lr (ws.take 0)) 0:=⟨Ow,dl,dn,dC,fun j p d e1 e2=>⟨[],(dH d (YN e2)).2,YO _,fun y=>⟨fun z=>absurd z YU,fun ⟨u,hu,_⟩=>absurd hu YU⟩⟩⟩
   have YG:Sm H' ps ds (C1 (ws.take 0)):=fun j p d nv e1 e2 hr y v hy=>by
    have:nv=[]:=Rd.inj hr (.inl (dH d (YN e2)).2);subst this;cases hy
   have hwl:us.length=ws.length:=by rw [Mr hD,YI]
   refine ⟨_,rfl,tw,rfl,⟨_,AI.of (s1 _ _ htw)⟩,IU (xs:=us) (fun i σ H2=>(∃ v4 v5 v6,σ=[some (.ref q),some (.ref tp),some (.ref tw),some (.ref C),v4,v5,v6])/\Av H H2/\NB H2 C ps ds (Lr (ws.take i)) (2 * i)/\Sm H2 ps ds (C1 (ws.take i))) ⟨⟨_,_,_,rfl⟩,s1,NB0,YG⟩ (fun i σ H2 _ hP=>AI.of (hP.2.1 _ _ htw)) (fun i x σ H2 hx hP rt bk=>?_) (fun σ H2 hP=>?_)⟩
   ·obtain ⟨⟨v4,v5,v6,rfl⟩,s2,nb,nbv⟩:=hP;obtain ⟨u,t,gu,rfl,ht⟩:=Jd hD hx;have Vh:i < ws.length:=(YQ.mp gu).1;have hu2:=ok.ends u (YN gu);refine ⟨t,_,rfl,AI.of (s2 _ _ ht),rfl,_,_,rfl,_,_,rfl,_,_,rfl,rfl,?_⟩;obtain ⟨j,d,nv,a1,a2,a3,a4,a5,a6⟩:=nb.get ok.nd hu2.1;obtain ⟨DN,b1,b2,b3⟩:=MJ nv u.2.1 (.int u.2.2);have dH1:∀ c ∈ ds,H c=none:=fun c hc=>(dH c hc).1
    refine ⟨_,rfl,_,rfl,_,rfl,C,_,rfl,?_,_,rfl,d,_,rfl,Fh.k (k:=Sum.inr u.2.1) a4 (by rw [CT]; lia),?_⟩
    ·have:=BK.k (k:=Sum.inr u.1) nb.top;rw [a3] at this;exact this
    rw [b1];have Uk:=nb.put ok.nd a1 a2 a4 b2 b3 a6 a5;have VX:=nbv.put ok.nd nb.nd a1 a2 a4 b1 (fun _ _ _=>PY) (Mo gu);have s3:Av H (upd H2 d (.dK (sK DN))):=fun b o z=>by
     rw [Ae (Ag z (dH1 d (YN a2)))];exact s2 _ _ z
    generalize upd H2 d (.dK (sK DN))=H3 at Uk VX s3 ⊢;obtain ⟨j',d',mv,c1,c2,c3,c4,c5,c6⟩:=Uk.get ok.nd hu2.2;obtain ⟨mv',e1,e2,e3⟩:=MJ mv u.1 (.int u.2.2);refine ⟨_,rfl,_,rfl,_,rfl,C,_,rfl,?_,_,rfl,d',_,rfl,Fh.k (k:=Sum.inr u.1) c4 (by rw [CT]; lia),?_⟩
    ·have:=BK.k (k:=Sum.inr u.2.1) Uk.top;rw [c3] at this;exact this
    rw [e1];have nb3:=Uk.put ok.nd c1 c2 c4 e2 e3 c6 c5;have X9:=VX.put (Ed':=C1 (ws.take (i + 1))) ok.nd Uk.nd c1 c2 c4 e1 (fun _ _ _ h=>h) (Mo gu).symm;refine ⟨⟨_,_,_,rfl⟩,fun b o z=>?_,nb3.mono (fun a b=>(RT gu a b).symm) (by lia),X9⟩;rw [Ae (Ag z (dH1 d' (YN c2)))];exact s3 _ _ z
   ·obtain ⟨⟨v4,v5,v6,rfl⟩,s2,nb,nbv⟩:=hP;rw [hwl,Zn] at nb nbv;exact ⟨_,rfl,k H2 C ds s2 (nb.mono (fun _ _=>Iff.rfl) (by lia)) nbv hC fun d hd=>(dH d hd).1⟩
end
section
variable {P:Program} {w:World} {K:YL} {mg:Str->Option Value} {base:Heap}
structure NbF (K:YL) (mg:Str->Option Value) (f:Addr) (fd:FuncData):Prop where
 F:DT K "neighbours" "neighbours" CY f fd
 mg:mg "neighbours"=some (.ref f)
 b:Hx K fd ["web"] []
theorem Eg {f fN:Addr} {fd fdN:FuncData} (NK:NbF K mg fN fdN) (hmi:mg "min"=none) (F:DT K "nearest" "nearest" DM f fd):A3 P w K mg base Bt 2 f fd ["web","starts"] (ME K):=by
 have GN:A3 P w K mg base Bt 1 fN fdN ["web"] (Q7 K):=Iz NK.F;refine F.ok Ii (fun vs H Q E h=>?_) (fun cdv A outer s H vs Q E hr h=>?_)
 ·obtain ⟨q,st,ps,ss,ws,r,rfl,_⟩:=h;rfl
 ·obtain ⟨q,st,ps,ss,ws,r,rfl,ok,pos,uniq,hst,ssne,ssn,sssub,k⟩:=h;have nd:=Ii.nd;have hu:=D7 hr;have EB:=hr.units;have big:1000 < sizeLine:=by decide
  have l30:=ok.l30;have ssl:ss.length<=30:=by
   have:=Cj ssn sssub;lia
  refine ⟨_,Af (Ar (i:=2) nd rfl (Or.inl rfl) (Aj GN hr (by rfl) NK.mg NK.F.kp NK.b .nil As (Aa (pv 0) Ac)))
   (Af (Ar (i:=3) nd rfl (Or.inr rfl) (Iq (N:=["start"]) (σ0:=fun _=>[none]) rfl (A6.plain (by decide +kernel) (by decide +kernel) rfl (by decide +kernel)) (fun σ _=>AH.none _ _ _ ["start"] σ) (PI.or (BM K rfl (pv 1)) (B6 K rfl (pv 1)))
    (fun s2 H C fp=>⟨Ai (i:=0) (show (["start"]:List Str).Nodup by decide +kernel) rfl (Or.inl rfl),AU,pv 0,Bh (Aa Ah (Aa (pv 0) Ac))⟩)))
   (Af (Ar (i:=4) nd rfl (Or.inl rfl) LQ)
   (Af (LM PassesOwn.never (Il (pv 3) (fun _=>rfl))
    (Af (Eb (SO (Al (Ji rfl EB) (by rfl) hmi PyProof.Rows.boot_min (Aa
      (Be (N:=["name","reached"]) (σ0:=fun σ=>[none,some 3].map fun j=>j.bind fun j=>(σ[j]?).join) rfl
       (A6.caught (by rfl) (by decide +kernel) rfl (by decide +kernel) (by intro y hy; simp only [YM,YU,or_false] at hy; rcases hy with rfl <;> rfl)
        (by intro y hy e; simp only [YM,YU,or_false] at hy; rcases hy with rfl | rfl | rfl <;> first | exact ⟨_,rfl⟩ | cases e))
       (fun σ _=>AH.of [none,some 3] rfl (by
        intro i j x h1 h2;match i,h1,h2 with
        | 0,_,h2=>cases h2
        | 1,h1,h2=>cases h1; cases h2; exact ⟨rfl,.inl rfl,.inl rfl⟩
        | n + 2,h1,_=>cases h1)) (NX (pv 3))
       (fun s2 H C fp=>⟨Ai (i:=0) (show (["name","reached"]:List Str).Nodup by decide +kernel) rfl (Or.inl rfl),AU,Bh (Aa (AG hu (pv 1) (pv 0) (fun _ _=>rfl)) (Aa (pv 0) Ac))⟩)) Ac)))
      (B7 K rfl rfl (Ap (B7 K rfl rfl (Ap (Ai (i:=5) nd rfl (Or.inl rfl)) (Ap (Ai (i:=6) nd rfl (Or.inl rfl)) Bw))) (Ap (Ai (i:=7) nd rfl (Or.inl rfl)) Bw))))
    (Af (SM (pv 3) (pv 7))
    (Af (Dd hu (pv 4) (pv 7) (Bh (Aa (pv 5) (Aa (pv 6) Ac))) rfl)
    (Ak (BL PassesOwn.never rfl (NX (AG hu (pv 2) (pv 7) (fun _ _=>rfl))) (Ai (i:=8) nd rfl (Or.inl rfl))
     (Ak (D5 (Im (JV hu (pv 8) (pv 4)))
      (Af (Ar (i:=9) nd rfl (Or.inl rfl) (Bh (Aa (Ay Bc (pv 5) (AG hu (AG hu (pv 2) (pv 7) (fun _ _=>rfl)) (pv 8) (fun _ _=>rfl))) (Aa (pv 6) Ac))))
      (Ak (Dd hu (pv 3) (pv 8) (Al (J7 rfl EB) (by rfl) hmi PyProof.Rows.boot_min (Aa (pv 9) (Aa (Rc hu (pv 3) (pv 8) (pv 9) ⟨rfl,rfl,rfl,rfl⟩) Ac))) rfl))) BG))))))))
   (Ak (A4 (pv 4)))))),?_⟩
  refine ⟨_,rfl,q,ps,ws,r,rfl,ok,fun H1 B ds s1 nb nbv hB hds=>?_⟩;have nbAt:∀ a,a ∈ ds->∃ u,H1 a=some u:=fun a hm=>by
   obtain ⟨i,hi,e⟩:=Zh hm;have Vh:i < ps.length:=by rw [<-nb.len]; exact hi
   obtain ⟨nv,a1,_⟩:=nb.inner i ps[i] a (YJ Vh) (by rw [YJ hi,e]);exact ⟨_,a1⟩
  have VB:=nb.top;rcases hst with hst | hst
  case' inl=>
   refine .inl ⟨_,rfl,st,rfl,⟨_,AD.of (s1 _ _ hst)⟩,fun RA hRA=>?_⟩
  case' inr=>
   refine .inr ⟨_,rfl,st,rfl,⟨_,AI.of (s1 _ _ hst)⟩,fun RA hRA=>?_⟩
  all_goals
   refine ⟨fun i m Aw H'=>m=ss.length - i/\i<=ss.length/\(∃ v,Aw=[v])/\∃ nv:List (Str × V),Av H1 H'/\H' RA=some (.dK (sK nv))/\nv.map (·.1)=ss.take i/\∀ y v,(y,v) ∈ nv->Kt H' v (0,y),
    ⟨_,rfl,Zz _,⟨_,rfl⟩,[],Ad hRA,Ab,rfl,fun y v hy=>absurd hy YU⟩,?_⟩
   rintro i m Aw H' ⟨rfl,hi,⟨v,rfl⟩,nv,s2,Ow,nk,np⟩;have Nc:=s2 _ _ (s1 _ _ hst);by_cases Bv:i < ss.length
   ·refine .inr ⟨⟨_,V.str ss[i],by first | exact AD.of Nc | exact AI.of Nc,by rw [YS,YJ Bv]; rfl⟩,?_⟩;rintro x H6 ⟨rfl,hx⟩;have Jq:=hx _ (by first | exact AD.of Nc | exact AI.of Nc);rw [YS,YJ Bv] at Jq;cases Jq
    have nn:ss[i] ∉ nv.map (·.1):=by
     rw [nk];intro hm;obtain ⟨j,hj,e⟩:=Zh hm;rw [Zy] at hj;rw [aH] at e;have:=FY ssn (YJ (show j < ss.length by lia)) (by rw [YJ Bv,e]);lia
    have nl:nv.length=i:=by
     have:=congrArg ZW nk;rw [YI,Zy] at this;lia
    refine ⟨_,rfl,_,rfl,(by show 2<=sizeLine; lia),fun t ht=>⟨_,Sum.inr ss[i],rfl,Ad ht _ _ Ow,by rw [CT]; lia,_,by lia,rfl,Bv,⟨_,rfl⟩,nv ++ [(ss[i],.ref t)],fun b o z=>?_,by rw [Ab,D9 nn],?_,fun y v hy=>?_⟩⟩
    ·rw [Ae (Ag z hRA)];exact Ad ht _ _ (s2 _ _ z)
    ·rw [YY,nk,Zk,YJ Bv]; rfl
    ·have tk:∀ b xs,(upd H6 t (.tup [.int 0,.str ss[i]])) b=some (.tup xs)->(upd (upd H6 t (.tup [.int 0,.str ss[i]])) RA (.dK (Bg (sK nv) (Sum.inr ss[i]:A7) (.ref t)))) b=some (.tup xs):=fun b xs z=>by
      rw [Ae (Bz z (Ad ht _ _ Ow) (by intro z; cases z))]; exact z
     rcases Zl.mp hy with hy | hy
     ·exact (np y v hy).same fun b xs z=>tk b xs (Ad ht _ _ z)
     ·simp only [Zc,Prod.mk.injEq] at hy;obtain ⟨rfl,rfl⟩:=hy;exact ⟨t,rfl,tk _ _ Ab⟩
   ·have e0:i=ss.length:=by lia
    subst e0;rw [Zn] at nk;refine .inl ⟨⟨_,by first | exact AD.of Nc | exact AI.of Nc,by rw [YI]; exact YO _⟩,fun SA hSA=>?_⟩;have sS:=Ad (o:=.dK []) hSA;have aR:RA ∉ ds/\RA ≠ B/\RA ≠ SA/\H RA=none:=⟨(fun hm=>by obtain ⟨u,e⟩:=nbAt RA hm; rw [hRA] at e; cases e),(fun z=>by rw [z,VB] at hRA; cases hRA),(fun z=>by rw [<-z,Ow] at hSA; cases hSA),s1.free hRA⟩
    have aS:SA ∉ ds/\SA ≠ B/\SA ≠ RA/\H SA=none:=⟨(fun hm=>by obtain ⟨u,e⟩:=nbAt SA hm; rw [s2 _ _ e] at hSA; cases hSA),(fun z=>by rw [z,s2 _ _ VB] at hSA; cases hSA),(fun z=>aR.2.2.1 z.symm),(s1.trans s2).free hSA⟩
    have s3:Av H1 (upd H' SA (.dK [])):=s2.trans sS;have N0:NI H (upd H' SA (.dK [])) ps ws B RA SA ds nv [] (fun _ _=>False) (fun y p=>y ∈ ss/\p=(0,y)):=by
     refine ⟨s1.trans s3,nb.r.same s3,nbv.of nb.r (fun d _ nv z=>by rcases z with a | ⟨o,a⟩; exact .inl (s3 _ _ a); exact .inr ⟨o,s3 _ _ a⟩),sS _ _ Ow,Ab,⟨by rw [nk]; exact ssn,fun y v hy=>⟨(0,y),(np y v hy).same fun b xs z=>sS _ _ z,by rw [<-nk]; exact YT.mpr ⟨_,hy,rfl⟩,rfl⟩,fun y p hp=>?_⟩,⟨.nil,fun y v hy=>absurd hy YU,fun y p hp=>hp.elim⟩,fun y hy=>sssub y (by rw [<-nk]; exact hy),fun y hy=>absurd hy YU⟩;obtain ⟨hy,rfl⟩:=hp;rw [<-nk] at hy;obtain ⟨⟨z,v⟩,a,b⟩:=YT.mp hy;have b':z=y:=b;subst b';exact ⟨v,a,(np z v a).same fun b xs z=>sS _ _ z⟩
    have D0:TQ ws ss (fun _ _=>False) (fun y p=>y ∈ ss/\p=(0,y)):=⟨fun _ _ h=>h.elim,fun y p ⟨h1,h2⟩=>by subst h2; exact ⟨h1,.nil y⟩,fun _ _ _ _ h=>h.elim,fun s hs=>.inr ⟨(0,s),⟨hs,rfl⟩,D6.refl _⟩⟩
    clear Ow Nc np;generalize upd H' SA (.dK [])=H5 at N0 ⊢;refine ⟨fun m σ H2=>∃ nvR nvS S R v5 v6 v7 v8 v9,m=ps.length - nvS.length/\σ=[some (.ref q),some (.ref st),some (.ref B),some (.ref RA),some (.ref SA),v5,v6,v7,v8,v9]/\NI H H2 ps ws B RA SA ds nvR nvS S R/\TQ ws ss S R/\∀ y p,R y p->∀ q,¬ S y q,
     ⟨_,nv,[],_,_,_,_,_,_,_,rfl,rfl,N0,D0,fun _ _ _ _ h=>h⟩,?_⟩
    clear N0 D0 hSA sS s3 s2 nk;rintro m σ H2 ⟨nvR,nvS,S,R,v5,v6,v7,v8,v9,rfl,rfl,N,Dj,dis⟩;refine ⟨_,rfl,_,.inr (.inr ⟨_,N.dR,rfl⟩),?_⟩;by_cases hne:nvR=[]
    ·subst hne;refine F7 ?_;have all:∀ x ∈ ps,∃ q,S x q:=Dj.done (fun y p h=>by obtain ⟨v,a,_⟩:=N.pR.2.2 y p h; cases a) ssne ok.con (fun T x hx tx cl=>ok.con (fun z=>T z->T r) (fun h=>h) (fun a b hab h tb=>h (cl b a hab.symm tb)) x hx tx) sssub;refine ⟨_,rfl,k H2 SA nvS N.same aS.2.2.2 N.dS N.pS.1 (fun x=>⟨N.subS x,fun hx=>N.inS.mpr (all x hx)⟩) fun y v hy=>?_⟩;obtain ⟨p,h1,h2⟩:=N.pS.2.1 y v hy;exact ⟨p,h1,Dj.near y p h2⟩
    ·have Yj:(!(sK nvR).isEmpty)=true:=by cases nvR with
      | nil=>exact absurd rfl hne
      | cons=>rfl
     rw [Yj];refine MV ?_;obtain ⟨NN,hNN⟩:∃ NN:St->Hp->Prop,NN=fun Aw H'=>∃ m',m' < ps.length - nvS.length/\∃ nvR nvS S R v5 v6 v7 v8 v9,m'=ps.length - nvS.length/\Aw=[some (.ref q),some (.ref st),some (.ref B),some (.ref RA),some (.ref SA),v5,v6,v7,v8,v9]/\NI H H' ps ws B RA SA ds nvR nvS S R/\TQ ws ss S R/\∀ y p,R y p->∀ q,¬ S y q:=⟨_,rfl⟩
     refine ⟨NN,fun Aw H' z=>by rw [hNN] at z; exact z,?_⟩;have lR:=N.lenR;have lS:=N.lenS;refine ⟨_,rfl,RA,_,rfl,.inl N.dR,fun o H3 fz C hC=>?_⟩;have fz':H3=upd H2 RA (.frz o (.dK (sK nvR))):=by
      rcases fz with ⟨_,e⟩ | ⟨e,_⟩
      ·exact e
      ·rw [N.dR] at e; cases e
     have hR3:=fz.at;have Xx:∀ b xs,H2 b=some (.tup xs)->H3 b=some (.tup xs):=fun b xs z=>by
      rw [fz.ne (Bz z N.dR (by intro z; cases z))]; exact z
     refine ⟨fun i m Aw H'=>m=nvR.length - i/\i<=nvR.length/\(∃ v,Aw=[v,some (.ref RA)])/\∃ (acc:List V) (ks:List ((Int × Str) × Str)),Av H3 H'/\H' C=some (.lst acc)/\acc.length=i/\ks.length=i/\(∀ (j:Nat) v k,acc[j]? = some v->ks[j]? = some k->Uy H' v k)/\(∀ (j:Nat) y v,j < i->nvR[j]? = some (y,v)->∃ p,Kt H3 v p/\ks[j]? = some (p,y)),
      ⟨_,rfl,Zz _,⟨_,rfl⟩,[],[],Ad hC,Ab,rfl,rfl,fun j v k h=>(by simp at h),fun j y v hj=>absurd hj (dA _)⟩,?_⟩
     rintro i m Aw H' ⟨rfl,hi,⟨v,rfl⟩,acc,ks,s4,Ow,al,kl,hky,hks⟩;have W2:=s4 _ _ hR3;have nCR:RA ≠ C:=Ag hR3 hC;by_cases Bv:i < nvR.length
     ·refine .inr ⟨⟨W2,by rw [CT]; exact Bv⟩,?_⟩;rintro z H6 ⟨rfl,key,v2,ek,rfl⟩;obtain ⟨y,ey,rfl⟩:=TZ ek;have hm:=YN ey;obtain ⟨p,hp,hRp⟩:=N.pR.2.1 y v2 hm;have hp3:=hp.same Xx;refine ⟨_,rfl,_,rfl,RA,v2,rfl,.inl ⟨_,Sum.inr y,.inr ⟨o,W2⟩,rfl,(CD N.pR.1 hm).symm⟩,_,rfl,(by show 2<=sizeLine; lia),fun t ht=>?_⟩;have st:=Ad (o:=.tup [v2,.str y]) ht;have hC2:=st _ _ Ow;have tC:∀ b xs,(upd H6 t (.tup [v2,.str y])) b=some (.tup xs)->(upd (upd H6 t (.tup [v2,.str y])) C (.lst (acc ++ [.ref t]))) b=some (.tup xs):=fun b xs z=>by
       rw [Ae (Bz z hC2 (by intro z; cases z))]; exact z
      refine ⟨acc,hC2,by lia,_,by lia,rfl,Bv,⟨_,rfl⟩,acc ++ [.ref t],ks ++ [(p,y)],fun b u z=>?_,Ab,by simp [al],by simp [kl],fun j v k h1 h2=>?_,fun j y' v' hj h=>?_⟩
      ·rw [Ae (Ag z hC)];exact st _ _ (s4 _ _ z)
      ·by_cases hj:j < acc.length
       ·rw [Zs hj] at h1;rw [Zs (by lia)] at h2;exact (hky j v k h1 h2).same fun b xs z=>tC b xs (st _ _ z)
       ·rw [Zr (by lia)] at h1;rw [Zr (by lia)] at h2;have j0:j - acc.length=0:=by
         have:=(YQ.mp h1).1;simp at this;lia
        have j1:j - ks.length=0:=by lia
        rw [j0] at h1;rw [j1] at h2;cases h1
        cases h2
        obtain ⟨t2,e2,g2⟩:=hp3;subst e2;exact ⟨t,t2,rfl,tC _ _ Ab,t2,rfl,tC _ _ (st _ _ (s4 _ _ g2))⟩
      ·by_cases ej:j=i
       ·subst ej;rw [ey] at h;cases h
        exact ⟨p,hp3,by rw [Zr (by lia),kl,aJ]; rfl⟩
       ·obtain ⟨p',a1,a2⟩:=hks j y' v' (by lia) h;exact ⟨p',a1,by rw [Zs (by lia)]; exact a2⟩
     ·have e0:i=nvR.length:=by lia
      subst e0;have ksne:ks ≠ []:=by
       intro z;rw [z] at kl;exact hne (ZF.mp kl.symm)
      refine .inl ⟨⟨W2,by rw [CT]; exact YO _⟩,C,acc,ks,rfl,Ow,by lia,ksne,hky,fun v kk hk hKy hmin=>?_⟩;refine ⟨RA,o,sK nvR,W2,fun ob w z=>?_,?_⟩
      ·have z':H RA=some (.frz ob w):=z;rw [aR.2.2.2] at z';cases z'
      obtain ⟨⟨d0,Ia⟩,here⟩:=kk;obtain ⟨t,t2,rfl,ht,t2',e2,J1⟩:=hKy;cases e2
      have t45:∀ b xs,H' b=some (.tup xs)->(upd H' RA (.dK (sK nvR))) b=some (.tup xs):=fun b xs z=>by
       rw [Ae (Bz z W2 (by intro z; cases z))]; exact z
      have s25:Av H2 (upd H' RA (.dK (sK nvR))):=fun b u z=>by
       by_cases eb:b=RA
       ·subst eb;rw [N.dR] at z;cases z
        exact Ab
       ·rw [Ae eb];refine s4 _ _ ?_;rw [fz.ne eb]; exact z
      have N5:=N.grow s25;have ht5:=t45 _ _ ht;have Wn:=t45 _ _ J1;have inR:∀ j y p,ks[j]? = some (p,y)->R y p:=fun j y p h=>by
       have hj:j < nvR.length:=by
        have:=(YQ.mp h).1;lia
       obtain ⟨p',a1,a2⟩:=hks j nvR[j].1 nvR[j].2 hj (YJ hj);rw [h] at a2;cases a2
       obtain ⟨p'',b1,b2⟩:=N.pR.2.1 _ _ (ZI hj);rw [a1.fn (b1.same Xx)];exact b2
      have hRh:R here (d0,Ia):=by
       obtain ⟨j,hj,ej⟩:=Zh hk;exact inR j here (d0,Ia) (by rw [YJ hj,ej])
      have least:∀ z p,R z p->D6 (d0,Ia) p:=fun z p hz=>by
       obtain ⟨v,a,b⟩:=N.pR.2.2 z p hz;obtain ⟨j,hj,ej⟩:=Zh a;obtain ⟨p',a1,a2⟩:=hks j z v hj (by rw [YJ hj,ej]);have:=a1.fn (b.same Xx);subst this;exact hmin _ (YN a2)
      have nSh:∀ q,¬ S here q:=dis here _ hRh;have nearH:Jn ws ss here (d0,Ia):=Dj.pick pos hRh nSh least;refine ⟨t,_,rfl,AI.of ht5,rfl,_,_,rfl,t2,_,rfl,AI.of Wn,rfl,_,_,rfl,_,_,rfl,rfl,_,_,rfl,rfl,?_⟩;generalize upd H' RA (.dK (sK nvR))=H5 at N5 ht5 Wn s25 ⊢;have hin:here ∈ nvR.map (·.1):=N5.inR.mpr ⟨_,hRh⟩;have hps:here ∈ ps:=N5.subR here hin;refine ⟨_,rfl,_,rfl,RA,_,Sum.inr here,rfl,N5.dR,rfl,by rw [Hk,decide_eq_true hin],?_⟩;rw [SF];have N6:=N5.setR aR (N5.pR.drop here) (fun y hy=>by
       obtain ⟨e,he,ee⟩:=YT.mp hy;exact N5.subR y (YT.mpr ⟨e,(Zx.mp he).1,ee⟩))
      generalize upd H5 RA (.dK (sK (nvR.filter fun q=>decide (q.1 ≠ here))))=H6 at N6 ⊢;have nhS:here ∉ nvS.map (·.1):=fun h=>by
       obtain ⟨q,hq⟩:=N6.inS.mp h;exact nSh q hq
      refine ⟨_,rfl,_,rfl,(by show 2<=sizeLine; lia),fun t3 Wm=>?_⟩;have N7:=N6.grow (Ad (o:=.tup [.int d0,.str Ia]) Wm);have Wl:(upd H6 t3 (.tup [.int d0,.str Ia])) t3=some (.tup [.int d0,.str Ia]):=Ab;generalize upd H6 t3 (.tup [.int d0,.str Ia])=H7 at N7 Wl ⊢;refine ⟨_,rfl,_,rfl,SA,_,rfl,Fh.k (k:=Sum.inr here) N7.dS (by rw [CT]; have:=N7.lenS; lia),?_⟩;rw [D9 nhS];have N8:=N7.setS aS (N7.pS.put (D9 nhS) (p:=(d0,Ia)) ⟨t3,rfl,Wl⟩) (fun y hy=>by
       rw [YY] at hy;rcases Zl.mp hy with hy | hy
       ·exact N7.subS y hy
       ·have:y=here:=by simpa using hy
        rw [this]; exact hps)
      generalize upd H7 SA (.dK (sK (nvS ++ [(here,.ref t3)])))=H8 at N8 ⊢;obtain ⟨S',Ov⟩:∃ S':Str->Int × Str->Prop,S'=fun z q=>(z=here/\q=(d0,Ia))\/(z ≠ here/\S z q):=⟨_,rfl⟩
      obtain ⟨Pu,hnvS⟩:∃ Pu:List (Str × V),Pu=nvS ++ [(here,.ref t3)]:=⟨_,rfl⟩
      rw [<-Ov,<-hnvS] at N8;have nSl:Pu.length=nvS.length + 1:=by rw [hnvS]; simp
      have nearS:∀ y q,S' y q->Jn ws ss y q:=fun y q h=>by
       rw [Ov] at h;rcases h with ⟨rfl,rfl⟩ | ⟨_,h⟩
       ·exact nearH
       ·exact Dj.near y q h
      have hSh:S' here (d0,Ia):=by rw [Ov]; exact .inl ⟨rfl,rfl⟩
      have toS:∀ y q,S y q->∃ q',S' y q':=fun y q h=>by
       by_cases e:y=here
       ·rw [e]; exact ⟨_,hSh⟩
       ·exact ⟨q,by rw [Ov]; exact .inr ⟨e,h⟩⟩
      obtain ⟨i0,d,Ta,a1,a2,a3,a4,a5⟩:=N8.nr.get ok.nd hps;have dm:=YN a2;refine ⟨_,rfl,_,rfl,B,.ref d,rfl,?_,d,sK Ta,rfl,a4,fun o9 H9 fz9=>?_⟩
      ·have:=BK.k (k:=Sum.inr here) N8.nr.top;rw [a3] at this;exact this
      have N9:=N8.frz aR.1 aS.1 hds a1 a2 fz9 a5;obtain ⟨Pv,hPv⟩:∃ Pv:Nat->St->Hp->Prop,Pv=fun i σ H'=>∃ HB R' v8 v9,σ=[some (.ref q),some (.ref st),some (.ref B),some (.ref RA),some (.ref SA),some (.int d0),some (.str Ia),some (.str here),v8,v9]/\NI H H' ps ws B RA SA ds HB Pu S' R'/\H' d=some (.frz o9 (.dK (sK Ta))) /\
        (∀ y p,R' y p->p.2 ∈ ss/\B9 ws p.2 y p.1)/\(∀ s ∈ ss,(∃ q,S' s q)\/∃ q,R' s q/\D6 q (0,s)) /\
        (∀ x q y l,S' x q->C1 ws x y l->(∃ q',S' y q')\/(∃ q',R' y q'/\D6 q' (q.1 + l,q.2))\/(x=here/\∀ (j:Nat) (v:V),j < i->Ta[j]? ≠ some (y,v)))/\(∀ y p,R' y p->∀ q,¬ S' y q):=⟨_,rfl⟩
      refine PR (a:=d) (o:=o9) (kvs:=sK Ta) Pv ?_ (fun i σ H' _ hP=>by rw [hPv] at hP; obtain ⟨_,_,_,_,_,_,z,_⟩:=hP; exact z) (fun i key v σ H' hx hP rt bk=>?_) (fun σ H' hP=>?_)
      ·rw [hPv];refine ⟨_,_,_,_,rfl,N9,fz9.at,fun y p h=>Dj.reach y p h.2,fun s hs=>?_,fun x qq y l hx he=>?_,fun y p h qq hq=>?_⟩
       ·rcases Dj.start s hs with ⟨qq,h⟩ | ⟨qq,h,le⟩
        ·exact .inl (toS s qq h)
        ·by_cases e:s=here
         ·rw [e]; exact .inl ⟨_,hSh⟩
         ·exact .inr ⟨qq,⟨e,h⟩,le⟩
       ·by_cases ex:x=here
        ·exact .inr (.inr ⟨ex,fun j v hj=>absurd hj (dA _)⟩)
        ·rw [Ov] at hx;rcases hx with ⟨h,_⟩ | ⟨_,hx⟩
         ·exact absurd h ex
         ·rcases Dj.relax x qq y l hx he with ⟨q',h⟩ | ⟨q',h,le⟩
          ·exact .inl (toS y q' h)
          ·by_cases e:y=here
           ·rw [e]; exact .inl ⟨_,hSh⟩
           ·exact .inr (.inl ⟨q',⟨e,h⟩,le⟩)
       ·rw [Ov] at hq;rcases hq with ⟨h2,_⟩ | ⟨_,h2⟩
        ·exact h.1 h2
        ·exact dis y p h.2 qq h2
      ·rw [hPv] at hP;obtain ⟨HB,R',v8,v9,rfl,Sn,hf,rch,sta,rel,T7⟩:=hP;obtain ⟨y,e1,rfl⟩:=TZ hx;have hym:=YN e1;obtain ⟨w0,hw0⟩:∃ w0,Bu (sK Ta) (Sum.inr y:A7)=some w0:=by
        have:(Bu (sK Ta) (Sum.inr y:A7)).isSome=true:=by rw [Hk,decide_eq_true (YT.mpr ⟨_,hym,rfl⟩)]
        exact bV.mp this
       obtain ⟨l,rfl,ed⟩:=Sn.nbv i0 here d Ta a1 a2 (.inr ⟨o9,hf⟩) y w0 (JR hw0);have hyp:y ∈ ps:=by
        obtain ⟨u,hu,e⟩:=ed.adj;obtain ⟨q1,q2⟩:=ok.ends u hu;rcases e with ⟨_,e⟩ | ⟨e,_⟩
        ·rw [<-e]; exact q2
        ·rw [<-e]; exact q1
       refine ⟨_,rfl,_,rfl,SA,_,rfl,BK.k (k:=Sum.inr y) Sn.dS,_,rfl,?_⟩;rw [Hk];have step:∀ {z:Str},(∀ (j:Nat) (v:V),j < i->Ta[j]? ≠ some (z,v))->z ≠ y->∀ (j:Nat) (v:V),j < i + 1->Ta[j]? ≠ some (z,v):=fun h2 hz j v hj e=>by
        by_cases ej:j=i
        ·subst ej;rw [e1] at e;cases e
         exact hz rfl
        ·exact h2 j v (by lia) e
       by_cases hy:y ∈ Pu.map (·.1)
       ·rw [decide_eq_true hy];refine F7 ?_;show Pv (i + 1) _ _
        rw [hPv];refine ⟨HB,R',_,_,rfl,Sn,hf,rch,sta,fun x qq z l' Jq he=>?_,T7⟩;rcases rel x qq z l' Jq he with h | h | ⟨h1,h2⟩
        ·exact .inl h
        ·exact .inr (.inl h)
        ·by_cases ez:z=y
         ·rw [ez]; exact .inl (Sn.inS.mp hy)
         ·exact .inr (.inr ⟨h1,step h2 ez⟩)
       ·rw [decide_eq_false hy];refine MV ?_;have nSy:∀ qq,¬ S' y qq:=fun qq h=>hy (Sn.inS.mpr ⟨qq,h⟩)
        have dgT:BK H' B (.str here) (some (.ref d)):=by
         have:=BK.k (k:=Sum.inr here) Sn.nr.top;rw [a3] at this;exact this
        refine ⟨_,rfl,_,rfl,_,rfl,B,.ref d,rfl,dgT,_,rfl,d,.int l,rfl,.inl ⟨_,Sum.inr y,.inr ⟨o9,hf⟩,rfl,hw0.symm⟩,_,_,rfl,rfl,_,rfl,(by show 2<=sizeLine; lia),fun t4 ht4=>?_⟩;have s4':=Ad (o:=.tup [.int (d0 + l),.str Ia]) ht4;have Qo:=Sn.grow s4';have Ww:=s4' _ _ hf;have Wk:(upd H' t4 (.tup [.int (d0 + l),.str Ia])) t4=some (.tup [.int (d0 + l),.str Ia]):=Ab;generalize upd H' t4 (.tup [.int (d0 + l),.str Ia])=Ss at Qo Ww Wk ⊢;have cand:Kt Ss (.ref t4) (d0 + l,Ia):=⟨t4,rfl,Wk⟩
        have candW:Ia ∈ ss/\B9 ws Ia y (d0 + l):=⟨nearH.1.1,nearH.1.2.snoc ed⟩
        have lR':=Qo.lenR;have fin:∀ (x:V) (pn:Int × Str),Kt Ss x pn->D6 pn (d0 + l,Ia)->(∀ old,R' y old->D6 pn old)->(pn.2 ∈ ss/\B9 ws pn.2 y pn.1) ->
          Pv (i + 1) [some (.ref q),some (.ref st),some (.ref B),some (.ref RA),some (.ref SA),some (.int d0),some (.str Ia),some (.str here),some (.str y),some (.ref t4)] (upd Ss RA (.dK (Bg (sK HB) (Sum.inr y:A7) x))):=by
         intro x pn hx1 hle hold hW;obtain ⟨nv2,p1,p2,p3⟩:=MJ HB y x;rw [p1,hPv];have N12:=Qo.setR aR (Qo.pR.put p1 hx1) (fun z hz=>by
          rcases (p3 z).mp hz with hz | rfl
          ·exact Qo.subR z hz
          ·exact hyp)
         refine ⟨nv2,_,_,_,rfl,N12,?_,fun z p hz=>?_,fun s hs=>?_,fun x' qq z l' Jq he=>?_,fun z p hz qq hq=>?_⟩
         ·rw [Ae (fun z=>aR.1 (by rw [<-z]; exact dm))]; exact Ww
         ·rcases hz with ⟨rfl,rfl⟩ | ⟨_,hz⟩
          ·exact hW
          ·exact rch z p hz
         ·rcases sta s hs with h | ⟨qq,h,le⟩
          ·exact .inl h
          ·by_cases e:s=y
           ·subst e;exact .inr ⟨pn,.inl ⟨rfl,rfl⟩,(hold qq h).trans le⟩
           ·exact .inr ⟨qq,.inr ⟨e,h⟩,le⟩
         ·rcases rel x' qq z l' Jq he with h | ⟨q',h,le⟩ | ⟨h1,h2⟩
          ·exact .inl h
          ·by_cases e:z=y
           ·subst e;exact .inr (.inl ⟨pn,.inl ⟨rfl,rfl⟩,(hold q' h).trans le⟩)
           ·exact .inr (.inl ⟨q',.inr ⟨e,h⟩,le⟩)
          ·by_cases e:z=y
           ·subst e;subst h1;have e2:=uniq _ _ _ _ he ed;subst e2;have e3:=Qo.pS.fn Jq hSh;subst e3;exact .inr (.inl ⟨pn,.inl ⟨rfl,rfl⟩,hle⟩)
           ·exact .inr (.inr ⟨h1,step h2 e⟩)
         ·rcases hz with ⟨rfl,rfl⟩ | ⟨_,hz⟩
          ·exact nSy qq hq
          ·exact T7 z p hz qq hq
        have put:∀ {x:V},Fh Ss RA (.str y) x (upd Ss RA (.dK (Bg (sK HB) (Sum.inr y:A7) x))):=fun {x}=>Fh.k (k:=Sum.inr y) Qo.dR (by rw [CT]; lia)
        obtain ⟨w1,pq,ew,hw1,hold,hWq⟩:∃ w1 pq,(Bu (sK HB) (Sum.inr y:A7)).getD (.ref t4)=w1/\Kt Ss w1 pq/\(∀ old,R' y old->D6 pq old)/\(pq.2 ∈ ss/\B9 ws pq.2 y pq.1):=by
         cases hv:Bu (sK HB) (Sum.inr y:A7) with
         | none=>
          refine ⟨_,_,rfl,cand,fun old h=>?_,candW⟩;have h1:y ∈ HB.map (·.1):=Qo.inR.mpr ⟨old,h⟩;have h2:(Bu (sK HB) (Sum.inr y:A7)).isSome=true:=by rw [Hk,decide_eq_true h1]
          rw [hv] at h2;cases h2
         | some w1=>
          obtain ⟨pq,h1,h2⟩:=Qo.pR.2.1 y w1 (JR hv);exact ⟨w1,pq,rfl,h1,fun old h=>by rw [Qo.pR.fn h2 h]; exact D6.refl _,rch y pq h2⟩
        refine ⟨_,rfl,_,rfl,RA,rfl,.inl ⟨_,.inl Qo.dR⟩,_,rfl,_,rfl,_,BK.k (k:=Sum.inr y) Qo.dR,_,_,(d0 + l,Ia),pq,rfl,cand,(by rw [ew]; exact hw1),fun le=>⟨_,rfl,_,rfl,RA,_,rfl,put,?_⟩,fun le=>⟨_,rfl,_,rfl,RA,_,rfl,put,?_⟩⟩
        ·rw [ew];exact fin w1 pq hw1 le hold hWq
        ·exact fin (.ref t4) _ cand (D6.refl _) (fun old h=>le.trans (hold old h)) candW
      ·rw [hPv] at hP;obtain ⟨HB,R',v8,v9,rfl,Sn,hf,rch,sta,rel,T7⟩:=hP;show NN _ _
       rw [hNN];refine ⟨_,?_,HB,Pu,S',R',_,_,_,_,_,rfl,rfl,Sn,⟨nearS,rch,fun x qq y l hx he=>?_,sta⟩,T7⟩
       ·have:=Sn.lenS;lia
       ·rcases rel x qq y l hx he with h | h | ⟨rfl,h2⟩
        ·exact .inl h
        ·exact .inr h
        ·exfalso
         obtain ⟨⟨z,v⟩,Qk,e⟩:=YT.mp ((a5 y).mpr he.adj);have e':z=y:=e;subst e';obtain ⟨j,hj,e2⟩:=Zh Qk;exact h2 j v (by rw [CT]; exact hj) (by rw [YJ hj,e2])
end
section
variable {P:Program} {w:World} {K:YL} {mg:Str->Option Value} {base:Heap}
theorem G6 {fN:Addr} {fdN:FuncData} (XN:Fn K mg "nearest" DM ["web","starts"] fN fdN) (GN:A3 P w K mg base Bt 2 fN fdN ["web","starts"] (ME K)) {f:Addr} {fd:FuncData} (F:DT K "goings" "goings" FQ f fd):A3 P w K mg base Bt 3 f fd ["case","opening"] LF:=by
 refine F.ok JP (fun vs H Q E h=>?_) (fun cdv A outer s H vs Q E hr h=>?_)
 ·obtain ⟨c,o,m,n,xs,ss,ws,rs1,Au,x,d,rfl,_⟩:=h;rfl
 ·obtain ⟨c,o,m,n,xs,ss,ws,rs1,Au,x,d,rfl,cw,ho,⟨sne,snd,ssub⟩,k⟩:=h;have nd:=JP.nd;have hu:=D7 hr;have big:100000 < sizeLine:=by decide
  refine ⟨_,(Af (Eb (pv 0) (QZ rfl (Ap (Ai (i:=2) nd rfl (Or.inl rfl)) (Ap (Ai (i:=3) nd rfl (Or.inl rfl)) (Ap (Ai (i:=4) nd rfl (Or.inl rfl)) (Ap (Ai (i:=5) nd rfl (Or.inl rfl)) Bw))))))
  (Af (Ar (i:=6) nd rfl (Or.inr rfl) (Aj GN (hr.mono (by decide)) (by rfl) XN.mg XN.F.kp XN.b .nil As (Aa (pv 2) (Aa (pv 1) Ac))))
  (Ak (A4 (Be (N:=["place","many","houses"]) (σ0:=fun σ=>[none,none,some 6].map fun j=>j.bind fun j=>(σ[j]?).join) rfl (A6.caught (by rfl) (by decide +kernel) rfl (by decide +kernel) (by intro y hy; simp only [YM,YU,or_false] at hy; rcases hy with rfl <;> rfl)
   (by intro y hy e; simp only [YM,YU,or_false] at hy; rcases hy with rfl | rfl | rfl | rfl <;> first | exact ⟨_,rfl⟩ | cases e)) (fun σ _=>AH.of [none,none,some 6] rfl (by
   intro i j x h1 h2;match i,h1,h2 with
   | 0,_,h2=>cases h2
   | 1,_,h2=>cases h2
   | 2,h1,h2=>cases h1; cases h2; exact ⟨rfl,.inl rfl,.inl rfl⟩
   | n + 3,h1,_=>cases h1)) (KH (pv 4))
   (fun s2 H C fp=>⟨(B7 K rfl (n:=2) rfl (Ap (Ai (i:=0) (show (["place","many","houses"]:List Str).Nodup by decide +kernel) rfl (Or.inl rfl)) (Ap (Ai (i:=1) (show (["place","many","houses"]:List Str).Nodup by decide +kernel) rfl (Or.inl rfl)) Bw))),AU,(Bh (Aa (pv 0) (Aa (AJ (B8 K rfl) (AG hu (pv 2) (pv 0) (fun _ _=>rfl)) Ah (fun _ _=>rfl)) (Aa (AJ (B8 K rfl) (AG hu (pv 2) (pv 0) (fun _ _=>rfl)) Ah (fun _ _=>rfl)) Ac))))⟩)))))),?_⟩
  obtain ⟨t1,t2,Fi,MA,hc,HD,HR,J1,hd2⟩:=cw.ex;obtain ⟨r,okw,pos,uni⟩:=cw.map.web cw.n1 cw.n30;refine ⟨_,rfl,c,_,rfl,AI.of hc,rfl,_,_,rfl,_,_,rfl,_,_,rfl,_,_,rfl,rfl,?_⟩;refine ⟨_,rfl,_,rfl,m,o,xs,ss,ws,r,rfl,okw,pos,uni,.inr ho,sne,snd,ssub,fun H1 B nv s1 fB hB knd kif kn=>?_⟩;have ul:=BC hd2;have l2:=cw.l2;have Ym:AY H1 MA (Au.map Gy):=Cf hd2 fun b ys z=>s1 _ _ z
  refine ⟨_,rfl,t2,rfl,⟨_,AI.of (s1 _ _ J1)⟩,?_⟩;refine Bx BD (xs:=MA) (fun D i σ H' acc=>∃ (v0 v1:Option V) (gs:List AA),σ=[v0,v1,some (.ref B)]/\Av H1 H'/\H' D=some (.lst acc)/\AY H' acc (gs.map Kx)/\acc.length=i/\gs.length=i/\∀ (j:Nat) r g,Au[j]? = some r->gs[j]? = some g->g.1=r.1/\Jn ws ss r.1 (g.2.2,g.2.1))
   (by lia) (fun D hD=>⟨_,_,[],rfl,Ad hD,Ab,.nil,rfl,rfl,fun j r g _ e=>by simp at e⟩)
   (fun D i σ H' acc hD ⟨v0,v1,gs,_,sa,AE,_,al,_⟩=>⟨AI.of (sa _ _ (s1 _ _ J1)),AE,al⟩) ?_ ?_
  ·rintro D i σ H' acc x' Bk hD ex ⟨v0,v1,gs,rfl,sa,AE,dd,al,gl,gok⟩ hBk;obtain ⟨u,t,eu,rfl,ht⟩:=CO Ym ex;have ux:u.1 ∈ xs:=cw.ok2.sub u (YN eu);obtain ⟨⟨y,v⟩,hm,rfl⟩:=YT.mp ((kif u.1).mpr ux);obtain ⟨p,⟨tp,rfl,htp⟩,near⟩:=kn _ _ hm;have WA:=sa _ _ hB;have Wj:=sa _ _ htp;have dg:BK H' B (.str u.1) (some (.ref tp)):=.inl ⟨_,Sum.inr u.1,.inl WA,rfl,(CD knd hm).symm⟩;refine ⟨t,_,rfl,AI.of (sa _ _ ht),rfl,_,_,rfl,_,_,rfl,rfl,?_⟩;refine ⟨_,rfl,_,rfl,_,rfl,B,.ref tp,rfl,dg,tp,_,1,.str p.2,rfl,rfl,AI.of Wj,Cq (j:=1) rfl,_,rfl,_,rfl,B,.ref tp,rfl,dg,tp,_,0,.int p.1,rfl,rfl,AI.of Wj,Cq (j:=0) rfl,(by show 3<=sizeLine; lia),fun T hT=>?_⟩;have sT:=Ad (o:=.tup [.str u.1,.str p.2,.int p.1]) hT;have nT:T ≠ D:=by intro z; subst z; rw [AE] at hT; cases hT
   refine hBk _ _ _ (sT _ _ AE) ⟨_,_,gs ++ [(u.1,p.2,p.1)],rfl,fun b o' z=>by rw [Ae (Ag z hD)]; exact sT _ _ (sa _ _ z),Ab,?_,by rw [YR,al]; rfl,by rw [YR,gl]; rfl,fun j r' g er eg=>?_⟩
   ·rw [YY];refine Gi (Ez dd fun b ys z=>?_) (.cons (.tup (vs:=[.str u.1,.str p.2,.int p.1]) (by rw [Ae nT]; exact Ab) (.cons (.str _) (.cons (.str _) (.cons (.int _) .nil)))) .nil);rw [Ae (Bz z AE (fun y=>by cases y))];exact sT _ _ z
   ·by_cases hj:j < gs.length
    ·rw [Zs hj] at eg;exact gok j r' g er eg
    ·have Yl:=(YQ.mp eg).1;rw [YR,ZC] at Yl;have hji:j=i:=by lia
     subst hji;rw [Zr (by lia),gl,aJ,Z9] at eg;cases eg
     rw [eu] at er;cases er
     exact ⟨rfl,near⟩
  ·rintro D σ H' acc hD ⟨v0,v1,gs,rfl,sa,AE,dd,al,gl,gok⟩;have fD:H D=none:=by
    cases z:H D with
    | none=>rfl
    | some o'=>rw [s1 _ _ z] at hD; cases hD
   exact k H' D acc gs (s1.trans sa) fD AE dd ⟨by rw [gl,ul],gok⟩
theorem Dn (h_dict:mg "dict"=none) (h_sum:mg "sum"=none) {f:Addr} {fd:FuncData} (F:DT K "houses_cost" "houses_cost" CC f fd):A3 P w K mg base Bt 2 f fd ["case","opening"] FK:=by
 refine F.ok E6 (fun vs H Q E h=>?_) (fun cdv A outer s H vs Q E hr h=>?_)
 ·obtain ⟨c,o,m,n,xs,ss,ws,rs1,Au,x,d,rfl,_⟩:=h;rfl
 ·obtain ⟨c,o,m,n,xs,ss,ws,rs1,Au,x,d,rfl,cw,ho,⟨sne,snd,ssub⟩,k⟩:=h;have nd:=E6.nd;have hu:=D7 hr;have big:100000 < sizeLine:=by decide
  refine ⟨_,(Af (Ar (i:=2) nd rfl (Or.inr rfl) (A9 (BY rfl) (by rfl) h_dict PyProof.Rows.boot_dict (Aa (AJ KY (pv 0) Ah (fun _ _=>rfl)) Ac)))
  (Ak (A4 (Al (CG rfl) (by rfl) h_sum PyProof.Rows.boot_sum (Aa (Be (N:=["house","costs"]) (σ0:=fun σ=>[none,some 2].map fun j=>j.bind fun j=>(σ[j]?).join) rfl (A6.caught (by rfl) (by decide +kernel) rfl (by decide +kernel) (by intro y hy; simp only [YM,YU,or_false] at hy; rcases hy with rfl <;> rfl)
   (by intro y hy e; simp only [YM,YU,or_false] at hy; rcases hy with rfl | rfl | rfl <;> first | exact ⟨_,rfl⟩ | cases e)) (fun σ _=>AH.of [none,some 2] rfl (by
   intro i j x h1 h2;match i,h1,h2 with
   | 0,_,h2=>cases h2
   | 1,h1,h2=>cases h1; cases h2; exact ⟨rfl,.inl rfl,.inl rfl⟩
   | n + 2,h1,_=>cases h1)) (KH (pv 1))
   (fun s2 H C fp=>⟨(Ai (i:=0) (show (["house","costs"]:List Str).Nodup by decide +kernel) rfl (Or.inl rfl)),AU,(AG hu (pv 1) (pv 0) (fun _ _=>rfl))⟩)) Ac))))),?_⟩
  obtain ⟨t1,t2,Fi,MA,hc,HD,HR,J1,hd2⟩:=cw.ex;have ul:=BC HR;have l1:=cw.l1;have sl:ss.length<=rs1.length:=by
   have:=List.Nodup.length_le_of_subset snd (fun s hs=>ssub s hs);rw [YI] at this;exact this
  refine ⟨_,rfl,c,_,_,_,rfl,rfl,AI.of hc,rfl,t1,Fi,BI rs1,rfl,HD,by unfold BI; rw [YI]; exact ul,HM HR,by rw [C5]; exact cw.ok1.nd,by unfold BI; rw [YI]; lia,fun B hB=>?_⟩;have s1:=Ad (o:=.dK (sK (BI rs1))) hB;have Ng:(upd H B (.dK (sK (BI rs1)))) B=some (.dK (sK (BI rs1))):=Ab;generalize upd H B (.dK (sK (BI rs1)))=H1 at s1 Ng;refine ⟨_,rfl,o,rfl,⟨_,AI.of (s1 _ _ ho)⟩,?_⟩;refine Bx BD (xs:=ss.map V.str) (fun D i σ H' acc=>∃ v0:Option V,σ=[v0,some (.ref B)]/\Av H1 H'/\H' D=some (.lst acc)/\acc=((ss.take i).map (Ba rs1)).map V.int/\acc.length=i)
   (by rw [YI]; lia) (fun D hD=>⟨_,rfl,Ad hD,Ab,rfl,rfl⟩)
   (fun D i σ H' acc hD ⟨v0,_,sa,AE,_,al⟩=>⟨AI.of (sa _ _ (s1 _ _ ho)),AE,al⟩) ?_ ?_
  ·rintro D i σ H' acc x' Bk hD ex ⟨v0,rfl,sa,AE,ea,al⟩ hBk;obtain ⟨y,ey,rfl⟩:∃ y,ss[i]? = some y/\x'=.str y:=by
    rw [YS] at ex;cases z:ss[i]? with
    | none=>rw [z] at ex; cases ex
    | some y=>rw [z] at ex; exact ⟨y,rfl,(Zf.inj ex).symm⟩
   refine ⟨_,rfl,_,rfl,B,_,rfl,LI (sa _ _ Ng) cw.ok1.nd (ssub y (YN ey)),?_⟩;refine hBk _ _ _ AE ⟨_,rfl,fun b o' z=>by rw [Ae (Ag z hD)]; exact sa _ _ z,Ab,?_,by rw [YR,al]; rfl⟩;rw [ea,Zk,ey,YY,YY];rfl
  ·rintro D σ H' acc hD ⟨v0,rfl,sa,AE,ea,al⟩;rw [YI,Zn] at ea;exact ⟨D,ss.map (Ba rs1),rfl,AD.of (by rw [AE,ea]),k H' (s1.trans sa)⟩
theorem Ef (h_dict:mg "dict"=none) (h_sum:mg "sum"=none) {fG:Addr} {fdG:FuncData} (XG:Fn K mg "goings" FQ ["case","opening"] fG fdG) (GG:A3 P w K mg base Bt 3 fG fdG ["case","opening"] LF) {f:Addr} {fd:FuncData} (F:DT K "ways_cost" "ways_cost" Dx f fd):A3 P w K mg base Bt 4 f fd ["case","opening"] Ib:=by
 refine F.ok FL (fun vs H Q E h=>?_) (fun cdv A outer s H vs Q E hr h=>?_)
 ·obtain ⟨c,o,m,n,xs,ss,ws,rs1,Au,x,d,rfl,_⟩:=h;rfl
 ·obtain ⟨c,o,m,n,xs,ss,ws,rs1,Au,x,d,rfl,cw,ho,op,bd,k⟩:=h;have nd:=FL.nd;have hu:=D7 hr;have big:100000 < sizeLine:=by decide
  refine ⟨_,(Af (Ar (i:=2) nd rfl (Or.inr rfl) (A9 (BY rfl) (by rfl) h_dict PyProof.Rows.boot_dict (Aa (AJ KY (pv 0) Ah (fun _ _=>rfl)) Ac)))
  (Ak (A4 (Al (CG rfl) (by rfl) h_sum PyProof.Rows.boot_sum (Aa (Be (N:=["place","house","length","manys"]) (σ0:=fun σ=>[none,none,none,some 2].map fun j=>j.bind fun j=>(σ[j]?).join) rfl (A6.caught (by rfl) (by decide +kernel) rfl (by decide +kernel) (by intro y hy; simp only [YM,YU,or_false] at hy; rcases hy with rfl <;> rfl)
   (by intro y hy e; simp only [YM,YU,or_false] at hy; rcases hy with rfl | rfl | rfl | rfl | rfl <;> first | exact ⟨_,rfl⟩ | cases e)) (fun σ _=>AH.of [none,none,none,some 2] rfl (by
   intro i j x h1 h2;match i,h1,h2 with
   | 0,_,h2=>cases h2
   | 1,_,h2=>cases h2
   | 2,_,h2=>cases h2
   | 3,h1,h2=>cases h1; cases h2; exact ⟨rfl,.inl rfl,.inl rfl⟩
   | n + 4,h1,_=>cases h1)) (HN (Aj GG (hr.mono (by decide)) (by rfl) XG.mg XG.F.kp XG.b .nil As (Aa (pv 0) (Aa (pv 1) Ac))))
   (fun s2 H C fp=>⟨(B7 K rfl (n:=3) rfl (Ap (Ai (i:=0) (show (["place","house","length","manys"]:List Str).Nodup by decide +kernel) rfl (Or.inl rfl)) (Ap (Ai (i:=1) (show (["place","house","length","manys"]:List Str).Nodup by decide +kernel) rfl (Or.inl rfl)) (Ap (Ai (i:=2) (show (["place","house","length","manys"]:List Str).Nodup by decide +kernel) rfl (Or.inl rfl)) Bw)))),AU,(Ay Oa (AG hu (pv 3) (pv 0) (fun _ _=>rfl)) (pv 2))⟩)) Ac))))),?_⟩
  obtain ⟨t1,t2,Fi,MA,hc,HD,HR,J1,hd2⟩:=cw.ex;have ul:=BC hd2;have l2:=cw.l2;refine ⟨_,rfl,c,_,_,_,rfl,rfl,AI.of hc,rfl,t2,MA,BI Au,rfl,J1,by unfold BI; rw [YI]; exact ul,HM hd2,by rw [C5]; exact cw.ok2.nd,by unfold BI; rw [YI]; lia,fun B hB=>?_⟩;have s1:=Ad (o:=.dK (sK (BI Au))) hB;have Ng:(upd H B (.dK (sK (BI Au)))) B=some (.dK (sK (BI Au))):=Ab;generalize upd H B (.dK (sK (BI Au)))=H1 at s1 Ng;refine ⟨_,rfl,_,rfl,c,o,m,n,xs,ss,ws,rs1,Au,x,d,rfl,cw.same s1,s1 _ _ ho,op,fun H2 G us gs s2 fG hG dG go=>?_⟩;have gl:=go.1;have usl:us.length=gs.length:=Lx dG;refine ⟨G,rfl,⟨_,AD.of hG⟩,?_⟩;refine Bx BV (xs:=us) (fun D i σ H' acc=>∃ v0 v1 v2:Option V,σ=[v0,v1,v2,some (.ref B)]/\Av H2 H'/\H' D=some (.lst acc)/\acc=((gs.take i).map fun g=>Ba Au g.1 * g.2.2).map V.int/\acc.length=i)
   (by lia) (fun D hD=>⟨_,_,_,rfl,Ad hD,Ab,rfl,rfl⟩)
   (fun D i σ H' acc hD ⟨v0,v1,v2,_,sa,AE,_,al⟩=>⟨AD.of (sa _ _ hG),AE,al⟩) ?_ ?_
  ·rintro D i σ H' acc x' Bk hD ex ⟨v0,v1,v2,rfl,sa,AE,ea,al⟩ hBk;obtain ⟨g,t,eg,rfl,ht⟩:=Jd dG ex;have hi:i < gs.length:=(YQ.mp eg).1;have er:Au[i]? = some (Au[i]'(by lia)):=YJ _;have gm:=YN eg;have e1:=(go.2 i _ _ er eg).1;have rm:=YN er;have gp:g.1 ∈ Au.map (·.1):=by rw [e1]; exact YT.mpr ⟨_,rm,rfl⟩
   have cb:1<=Ba Au g.1/\Ba Au g.1 < 10 ^ 30:=by rw [e1,Dt cw.ok2.nd rm]; exact cw.ok2.lo _ rm
   refine ⟨t,_,rfl,AI.of (sa _ _ ht),rfl,_,_,rfl,_,_,rfl,_,_,rfl,rfl,?_⟩;refine ⟨_,rfl,_,rfl,B,_,rfl,LI (sa _ _ (s2 _ _ Ng)) cw.ok2.nd gp,_,rfl,_,_,rfl,rfl,⟨⟨by lia,by lia⟩,bd gs go g gm⟩,?_⟩;refine hBk _ _ _ AE ⟨_,_,_,rfl,fun b o' z=>by rw [Ae (Ag z hD)]; exact sa _ _ z,Ab,?_,by rw [YR,al]; rfl⟩;rw [ea,Zk,eg,YY,YY];rfl
  ·rintro D σ H' acc hD ⟨v0,v1,v2,rfl,sa,AE,ea,al⟩;rw [usl,Zn] at ea;exact ⟨D,_,rfl,AD.of (by rw [AE,ea]),k H' gs ((s1.trans s2).trans sa) go⟩
theorem KP {fH fW:Addr} {fdH fdW:FuncData} (XH:Fn K mg "houses_cost" CC ["case","opening"] fH fdH) (GH:A3 P w K mg base Bt 2 fH fdH ["case","opening"] FK) (XW:Fn K mg "ways_cost" Dx ["case","opening"] fW fdW) (GW:A3 P w K mg base Bt 4 fW fdW ["case","opening"] Ib) {f:Addr} {fd:FuncData} (F:DT K "cost" "cost" Gx f fd):A3 P w K mg base Bt 5 f fd ["case","opening"] K2:=by
 refine F.ok NM (fun vs H Q E h=>?_) (fun cdv A outer s H vs Q E hr h=>?_)
 ·obtain ⟨c,o,m,n,xs,ss,ws,rs1,Au,x,d,rfl,_⟩:=h;rfl
 ·obtain ⟨c,o,m,n,xs,ss,ws,rs1,Au,x,d,rfl,cw,ho,op,op1,bd,k⟩:=h;have nd:=NM.nd;have big:100000 < sizeLine:=by decide
  refine ⟨_,(Ak (A4 (Ay Bc (Aj GH (hr.mono (by decide)) (by rfl) XH.mg XH.F.kp XH.b .nil As (Aa (pv 0) (Aa (pv 1) Ac))) (Aj GW (hr.mono (by decide)) (by rfl) XW.mg XW.F.kp XW.b .nil As (Aa (pv 0) (Aa (pv 1) Ac)))))),?_⟩;refine ⟨_,rfl,_,rfl,c,o,m,n,xs,ss,ws,rs1,Au,x,d,rfl,cw,ho,op1,fun H1 s1=>?_⟩;refine ⟨_,rfl,_,rfl,c,o,m,n,xs,ss,ws,rs1,Au,x,d,rfl,cw.same s1,s1 _ _ ho,op,bd,fun H2 gs s2 go=>⟨_,_,rfl,rfl,k H2 gs (s1.trans s2) go⟩⟩
end
section
variable {P:Program} {w:World} {K:YL} {mg:Str->Option Value} {base:Heap}
structure NeF (K:YL) (mg:Str->Option Value) (fN:Addr) (fdN:FuncData) (f:Addr) (fd:FuncData):Prop where
 N:NbF K mg fN fdN
 mi:mg "min"=none
 F:DT K "nearest" "nearest" DM f fd
 mg:mg "nearest"=some (.ref f)
 b:Hx K fd ["web","starts"] []
theorem Fc {f fN fE:Addr} {fd fdN fdE:FuncData} (EK:NeF K mg fN fdN fE fdE) (F:DT K "fars" "fars" K6 f fd):A3 P w K mg base Bt 3 f fd ["web","place"] (QB K):=by
 have GE:A3 P w K mg base Bt 2 fE fdE ["web","starts"] (ME K):=Eg EK.N EK.mi EK.F;refine F.ok NL (fun vs H Q E h=>?_) (fun cdv A outer s H vs Q E hr h=>?_)
 ·obtain ⟨q,ps,ws,r,x,rfl,_⟩:=h;rfl
 ·obtain ⟨q,ps,ws,r,x,rfl,ok,pos,uniq,hx,k⟩:=h;have hu:=D7 hr;have nd:=NL.nd;have big:1000 < sizeLine:=by decide
  have l30:=ok.l30;refine ⟨_,Af (Ar (i:=2) nd rfl (Or.inr rfl) (Aj GE hr (by rfl) EK.mg EK.F.kp EK.b .nil As (Aa (pv 0) (Aa (Bq (Aa (pv 1) Ac)) Ac))))
   (Ak (A4 (Iq (N:=["name","told"]) (σ0:=fun σ=>[none,some 2].map fun j=>j.bind fun j=>(σ[j]?).join) rfl
      (A6.caught (by rfl) (by decide +kernel) rfl (by decide +kernel) (by intro y hy; simp only [YM,YU,or_false] at hy; rcases hy with rfl <;> rfl)
       (by intro y hy e; simp only [YM,YU,or_false] at hy; rcases hy with rfl | rfl | rfl <;> first | exact ⟨_,rfl⟩ | cases e))
      (fun σ _=>AH.of [none,some 2] rfl (by
       intro i j x h1 h2;match i,h1,h2 with
       | 0,_,h2=>cases h2
       | 1,h1,h2=>cases h1; cases h2; exact ⟨rfl,.inl rfl,.inl rfl⟩
       | n + 2,h1,_=>cases h1)) (B6 K rfl (AJ (B8 K rfl) (pv 0) Ah (fun _ _=>rfl)))
      (fun s2 H C fp=>⟨Ai (i:=0) (show (["name","told"]:List Str).Nodup by decide +kernel) rfl (Or.inl rfl),AU,pv 0,AJ (B8 K rfl) (AG hu (pv 1) (pv 0) (fun _ _=>rfl)) Ah (fun _ _=>rfl)⟩)))),?_⟩
  refine ⟨_,rfl,_,rfl,(by show 1<=sizeLine; lia),fun st hst=>?_⟩;have s0:=Ad (o:=.lst [.str x]) hst;refine ⟨q,st,ps,[x],ws,r,rfl,ok.same s0,pos,uniq,.inl Ab,by simp,Zu.mpr ⟨by simp,.nil⟩,by simpa using hx,fun H1 B nv s1 hB VB nn nk nr=>?_⟩;have Ud:=s0.trans s1;obtain ⟨tp,tw,us,hq,htp,htw,hD⟩:=ok.web.ex;refine ⟨_,rfl,q,_,0,.ref tp,rfl,rfl,AI.of (Ud _ _ hq),Cq (j:=0) rfl,tp,rfl,⟨_,AI.of (Ud _ _ htp)⟩,fun C hC=>?_⟩;refine ⟨fun i m Aw H2=>m=ps.length - i/\i<=ps.length/\(∃ v,Aw=[v,some (.ref B)])/\∃ nc:List (Str × V),H2=upd H1 C (.dK (sK nc))/\nc.map (·.1)=ps.take i/\∀ y v,(y,v) ∈ nc->∃ n,v=.int n/\VE ws x y n,⟨_,rfl,Zz _,⟨_,rfl⟩,[],rfl,rfl,fun y v hy=>absurd hy YU⟩,?_⟩;rintro i m Aw H2 ⟨rfl,hi,⟨v,rfl⟩,nc,rfl,ncK,ncV⟩;have sC:=Ad (o:=.dK (sK nc)) hC;have Nb:=sC _ _ (Ud _ _ htp);by_cases Bv:i < ps.length
  ·refine .inr ⟨⟨_,V.str ps[i],AI.of Nb,by rw [YS,YJ Bv]; rfl⟩,?_⟩;rintro z H6 ⟨rfl,hz⟩;have Up:=hz _ (AI.of Nb);rw [YS,YJ Bv] at Up;cases Up
   obtain ⟨⟨y,v2⟩,hm,e⟩:=YT.mp ((nk ps[i]).mpr (ZI Bv));have e':y=ps[i]:=e;subst e';obtain ⟨p,⟨t,e2,ht⟩,hnr⟩:=nr ps[i] v2 hm;subst e2;have WA:=sC _ _ VB;have J1:=sC _ _ ht;have nn':ps[i] ∉ nc.map (·.1):=by
    rw [ncK];intro Qk;obtain ⟨j,hj,e⟩:=Zh Qk;rw [Zy] at hj;rw [aH] at e;have:=FY ok.nd (YJ (show j < ps.length by lia)) (by rw [YJ Bv,e]);lia
   have ncl:nc.length=i:=by
    have:=congrArg ZW ncK;rw [YI,Zy] at this;lia
   refine ⟨_,rfl,_,rfl,_,rfl,B,.ref t,rfl,.inl ⟨_,Sum.inr ps[i],.inl WA,rfl,(CD nn hm).symm⟩,t,_,0,.int p.1,rfl,rfl,AI.of J1,Cq (j:=0) rfl,_,Sum.inr ps[i],rfl,Ab,by rw [CT]; lia,_,by lia,rfl,Bv,⟨_,rfl⟩,nc ++ [(ps[i],.int p.1)],by rw [Kz,D9 nn'],?_,fun y v hy=>?_⟩
   ·rw [YY,ncK,Zk,YJ Bv]; rfl
   ·rcases Zl.mp hy with hy | hy
    ·exact ncV y v hy
    ·simp only [Zc,Prod.mk.injEq] at hy;obtain ⟨rfl,rfl⟩:=hy;exact ⟨p.1,rfl,hnr.dst.2⟩
  ·have e0:i=ps.length:=by lia
   subst e0;rw [Zn] at ncK;exact .inl ⟨⟨_,AI.of Nb,by rw [YI]; exact YO _⟩,k _ C nc (Ud.trans sC) (Ud.free hC) Ab ncK ncV⟩
end
structure TxtN (K:YL) (mg:Str->Option Value):Prop where
 len:mg "len"=none
 isin:mg "isinstance"=none
 str:mg "str"=none
 all:mg "all"=none
 most:∃ t,mg "MOST_LETTERS"=some (.int 6 t)
section
variable {P:Program} {w:World} {K:YL} {mg:Str->Option Value} {base:Heap}
theorem FX {f:Addr} {fd:FuncData} (T:TxtN K mg) (F:DT K "is_name" "is_name" EX f fd):A3 P w K mg base Bt 1 f fd ["thing"] (Q8 K):=by
 refine F.ok MI (fun vs H Q E h=>?_) (fun cdv A outer s H vs Q E hr h=>?_)
 ·obtain ⟨x,rfl,_⟩:=h;rfl
 ·obtain ⟨x,rfl,h⟩:=h;obtain ⟨tk,hmost⟩:=T.most;refine ⟨_,Af (D5 (JT (F1 (G1 (Al Hu (by rfl) T.isin PyProof.Rows.boot_isinstance (Aa (pv 0) (Aa (NZ (v:=.ty "str") (by rfl) T.str PyProof.Rows.boot_str rfl) Ac)))))
    (G0 (F1 (Io LR LR Ah (Al Gn (by rfl) T.len PySem.boot_len (Aa (pv 0) Ac)) (SQ (v:=.int 6) (by rfl) hmost ⟨_,rfl⟩))))).pt
    (Ak (A4 FW)) BG)
   (Ak (A4 (Al (EN rfl) (by rfl) T.all PyProof.Rows.boot_all (Aa
    (Be (N:=["letter"]) (σ0:=fun _=>[none]) rfl (A6.plain (by decide +kernel) (by decide +kernel) rfl (by decide +kernel)) (fun σ _=>AH.none _ _ _ ["letter"] σ) (UL (pv 0))
     (fun s2 H C fp=>⟨Ai (i:=0) (show (["letter"]:List Str).Nodup by decide +kernel) rfl (Or.inl rfl),AU,Rf JW JW C7 (pv 0) C7⟩)) Ac)))),?_⟩
  rcases h with ⟨t,rfl,ht,k⟩ | ⟨⟨ty,h1,h2⟩,k⟩
  ·refine ⟨_,rfl,_,"str",_,_,rfl,EO.str t,rfl,_,rfl,?_⟩;refine F7 ?_;refine ⟨_,rfl,t,rfl,Zj ht (by decide),_,_,rfl,rfl,_,rfl,?_⟩;have last:∀ (h1:1<=t.length) (h2:t.length<=6),N4 (iStr (S3 0)) (Kf 0) L3 (MD (fun x y H Q=>∃ i j,x=.str i/\y=.str j/\Q (.bl (!(decide (j.cps.toList < i.cps.toList)))) H) (fun x y H Q=>∃ i j,x=.str i/\y=.str j/\Q (.bl (!(decide (j.cps.toList < i.cps.toList)))) H) (tC (.str "a")) (S3 0) (tC (.str "z"))) (fun _=>[none]) [some (V.str t)] H
     (fun x H1=>∃ (p:Addr) (bs:List Bool),[x]=[V.ref p]/\AD K H1 p (bs.map V.bl)/\Q (.bl (bs.all id)) H1):=by
    intro h1 h2;refine ⟨_,rfl,t,rfl,fun D hD=>⟨fun i m Aw H'=>m=t.cps.size - i/\i<=t.cps.size/\(∃ v,Aw=[v])/\H'=upd H D (.lst ((t.cps.toList.take i).map fun c=>V.bl (Ga c))),⟨_,rfl,Zz _,⟨_,rfl⟩,rfl⟩,?_⟩⟩;rintro i m Aw H' ⟨rfl,hi,⟨v,rfl⟩,rfl⟩;by_cases Bv:i < t.cps.size
    ·refine .inr ⟨Bv,?_⟩;rintro x H2 ⟨rfl,c,hc,rfl⟩;have HS:t.cps.toList[i]? = some c:=by simpa using hc
     have step:∀ b,b=Ga c->∃ acc,(upd H D (.lst ((t.cps.toList.take i).map fun c=>V.bl (Ga c)))) D=some (.lst acc)/\acc.length < sizeLine/\∃ m',m' < t.cps.size - i/\(m'=t.cps.size - (i + 1)/\i + 1<=t.cps.size/\(∃ v,[some (V.str ⟨#[c]⟩)]=[v]) /\
       upd (upd H D (.lst ((t.cps.toList.take i).map fun c=>V.bl (Ga c)))) D (.lst (acc ++ [V.bl b]))=upd H D (.lst ((t.cps.toList.take (i + 1)).map fun c=>V.bl (Ga c)))):=by
      rintro b rfl;refine ⟨_,Ab,?_,_,?_,rfl,Bv,⟨_,rfl⟩,?_⟩
      ·rw [YI,Zy];have:t.length=t.cps.size:=rfl;have:1000 < sizeLine:=by decide
       lia
      ·lia
      ·rw [Kz,Jv _ _ _ _ HS]
     refine ⟨_,rfl,_,_,rfl,rfl,_,rfl,?_⟩;rw [leA];refine BJ (fun ha=>?_) (fun ha=>?_)
     ·refine ⟨_,_,rfl,rfl,?_⟩;rw [leZ];exact step _ (by unfold Ga; rw [ha]; rfl)
     ·exact step _ (by unfold Ga; rw [Bool.not_eq_true] at ha; rw [ha]; rfl)
    ·have e:i=t.cps.size:=by lia
     subst e;refine .inl ⟨YO _,D,t.cps.toList.map Ga,rfl,.inl (.inl ?_),?_⟩
     ·rw [Ab,aG (by simp),Zt];rfl
     ·have e2:(t.cps.toList.map Ga).all id=AQ t:=by
       unfold AQ;rw [bI,decide_eq_true h1,decide_eq_true h2];rfl
      rw [e2];exact k _ (Ad hD)
   refine BJ (fun h1=>?_) (fun h1=>?_)
   ·refine ⟨_,_,rfl,rfl,_,rfl,?_⟩;rw [decide_eq_true_eq] at h1;refine BJ (fun h2=>?_) (fun h2=>?_)
    ·have e:AQ t=false:=by
      unfold AQ;have:¬ t.length<=6:=by
       intro z;rw [decide_eq_true (show ((t.length:Nat):Int)<=6 by lia)] at h2;cases h2
      rw [decide_eq_false this,Bool.and_false,b0]
     rw [<-e];exact k _ (Av.refl _)
    ·refine last (by lia) ?_;by_cases z:t.length<=6
     ·exact z
     ·rw [decide_eq_false (show ¬ ((t.length:Nat):Int)<=6 by lia)] at h2;exact absurd rfl h2
   ·refine ⟨_,rfl,?_⟩;refine MV ?_;have e:AQ t=false:=by
     unfold AQ;rw [decide_eq_true_eq] at h1;rw [decide_eq_false (show ¬ 1<=t.length by lia),b0,b0]
    show Q (.bl false) H
    rw [<-e];exact k _ (Av.refl _)
  ·refine ⟨_,rfl,_,"str",_,_,rfl,h1,h2,_,rfl,?_⟩;exact k
end
section
variable {P:Program} {w:World} {K:YL} {mg:Str->Option Value} {base:Heap}
theorem Ci (h_all:mg "all"=none) (h_list:mg "list"=none) (h_sorted:mg "sorted"=none) (h_set:mg "set"=none) {fN:Addr} {fdN:FuncData} (XN:Fn K mg "is_name" EX ["thing"] fN fdN) (GN:A3 P w K mg base Bt 1 fN fdN ["thing"] (Q8 K)) {f:Addr} {fd:FuncData} (F:DT K "are_rising" "are_rising" Dc f fd):A3 P w K mg base Bt 2 f fd ["things"] (LB K):=by
 refine F.ok Fq (fun vs H Q E h=>?_) (fun cdv A outer s H vs Q E hr h=>?_)
 ·obtain ⟨t,xs,ds,rfl,_⟩:=h;rfl
 ·obtain ⟨t,xs,ds,rfl,ht,dx,short,few,k⟩:=h;have nd:=Fq.nd;have EB:=hr.units;have big:100000 < sizeLine:=by decide
  refine ⟨_,(Ak (A4 (MQ (Al (EN rfl) (by rfl) h_all PyProof.Rows.boot_all (Aa (Be (N:=["thing"]) (σ0:=fun _=>[none]) rfl (A6.plain (by decide +kernel) (by decide +kernel) rfl (by decide +kernel)) (fun σ _=>AH.none _ _ _ ["thing"] σ) (UM (pv 0))
   (fun s2 H C fp=>⟨Ai (i:=0) (show (["thing"]:List Str).Nodup by decide +kernel) rfl (Or.inl rfl),AU,(Aj GN (hr.mono (by decide)) (by rfl) XN.mg XN.F.kp XN.b .nil As (Aa (pv 0) Ac))⟩)) Ac))
   (MO (Fb (Pr EB) (A9 Gm (by rfl) h_list PyProof.Rows.boot_list (Aa (pv 0) Ac)) (Al (HF rfl) (by rfl) h_sorted PyProof.Rows.boot_sorted (Aa (A9 (Mv K rfl rfl) (by rfl) h_set PyProof.Rows.boot_set (Aa (pv 0) Ac)) Ac)) (Bi _)))))),?_⟩
  have seq:∀ H',Av H H'->AD K H' t xs\/AI K H' t xs:=fun H' sa=>ht.imp (fun z=>AD.of (sa _ _ z)) (fun z=>AI.of (sa _ _ z))
  have dl:=dx.len;refine ⟨_,rfl,t,rfl,?_⟩;rcases ht with ht | ht
  ·refine .inl ⟨⟨_,AD.of ht⟩,Bx BV (xs:=xs) (fun D i σ H' acc=>∃ v0:Option V,σ=[v0]/\Av H H'/\H' D=some (.lst acc)/\acc=((ds.take i).map Ho).map V.bl/\acc.length=i)
    (by lia) (fun D hD=>⟨_,rfl,Ad hD,Ab,rfl,rfl⟩) (fun D i σ H' acc hD ⟨v0,_,sa,AE,_,al⟩=>⟨AD.of (sa _ _ ht),AE,al⟩) ?_ ?_⟩
   ·rintro D i σ H' acc x B hD ex ⟨v0,rfl,sa,AE,rfl,al⟩ hB;obtain ⟨d,ed,hd⟩:=dx.at ex;have M0:=hd.same sa;have step:∀ H5,Av H' H5->B [some x] (.bl (Ho d)) H5:=fun H5 s5=>by
     refine hB _ _ _ (s5 _ _ AE) ⟨_,rfl,fun b o e=>?_,Ab,?_,by rw [YR,al]; rfl⟩
     ·rw [Ae (Ag e hD)];exact s5 _ _ (sa _ _ e)
     ·rw [Zk,ed,YY,YY];rfl
    refine ⟨_,rfl,x,rfl,?_⟩;cases d with
    | str y=>
     cases hd
     exact .inl ⟨y,rfl,short y (YN ed),step⟩
    | _=>exact .inr ⟨M0.notStr (fun s=>by intro z; cases z),step _ (Av.refl _)⟩
   ·rintro D σ H' acc hD ⟨v0,rfl,sa,AE,rfl,al⟩;rw [dl,Zn] at AE;refine ⟨D,ds.map Ho,rfl,AD.of AE,_,rfl,?_⟩;refine BJ (fun z=>?_) (fun z=>?_)
    ·obtain ⟨ss,rfl,hn⟩:=G8 z;obtain rfl:=dx.txt;rw [YI] at few;refine ⟨_,rfl,t,_,rfl,seq _ sa,fun l hl=>?_⟩;have s1:=Ad (o:=.lst (ss.map V.str)) hl;refine ⟨_,rfl,t,ss,rfl,seq _ (sa.trans s1),by lia,fun D2 Jr=>⟨D2,ss,rfl,Ab,by lia,fun l2 Du Ql VW KS srt=>?_⟩⟩;have s2:=Ad (o:=setS P w D2 ss) Jr;have s3:=Ad (o:=.lst (Du.map V.str)) Ql;refine ⟨_,_,.lst (s3 _ _ (s2 _ _ Ab)) (B0 _ ss),.lst Ab (B0 _ Du),by simp only [PyData.canLay0]; exact CN hn,by simp only [PyData.canLay0]; exact CN (fun s hs=>hn s ((KS s).mp hs)),?_,?_⟩
     ·simp only [PyData.depth,C9];decide
     ·refine k _ _ (sa.trans (s1.trans (s2.trans s3))) ?_;rw [Mm];refine ⟨fun e=>⟨ss,rfl,hn,(Ea VW KS srt).mp (DU e)⟩,?_⟩;rintro ⟨s5,e5,_,r5⟩;obtain rfl:=DU e5;rw [(Ea VW KS srt).mpr r5]
    ·refine k _ _ sa ⟨fun q=>absurd q (by decide),fun ⟨ss,e,hn,_⟩=>?_⟩;rw [e] at z;exact absurd (Kr hn) z
  ·refine .inr ⟨⟨_,AI.of ht⟩,Bx BD (xs:=xs) (fun D i σ H' acc=>∃ v0:Option V,σ=[v0]/\Av H H'/\H' D=some (.lst acc)/\acc=((ds.take i).map Ho).map V.bl/\acc.length=i)
    (by lia) (fun D hD=>⟨_,rfl,Ad hD,Ab,rfl,rfl⟩) (fun D i σ H' acc hD ⟨v0,_,sa,AE,_,al⟩=>⟨AI.of (sa _ _ ht),AE,al⟩) ?_ ?_⟩
   ·rintro D i σ H' acc x B hD ex ⟨v0,rfl,sa,AE,rfl,al⟩ hB;obtain ⟨d,ed,hd⟩:=dx.at ex;have M0:=hd.same sa;have step:∀ H5,Av H' H5->B [some x] (.bl (Ho d)) H5:=fun H5 s5=>by
     refine hB _ _ _ (s5 _ _ AE) ⟨_,rfl,fun b o e=>?_,Ab,?_,by rw [YR,al]; rfl⟩
     ·rw [Ae (Ag e hD)];exact s5 _ _ (sa _ _ e)
     ·rw [Zk,ed,YY,YY];rfl
    refine ⟨_,rfl,x,rfl,?_⟩;cases d with
    | str y=>
     cases hd
     exact .inl ⟨y,rfl,short y (YN ed),step⟩
    | _=>exact .inr ⟨M0.notStr (fun s=>by intro z; cases z),step _ (Av.refl _)⟩
   ·rintro D σ H' acc hD ⟨v0,rfl,sa,AE,rfl,al⟩;rw [dl,Zn] at AE;refine ⟨D,ds.map Ho,rfl,AD.of AE,_,rfl,?_⟩;refine BJ (fun z=>?_) (fun z=>?_)
    ·obtain ⟨ss,rfl,hn⟩:=G8 z;obtain rfl:=dx.txt;rw [YI] at few;refine ⟨_,rfl,t,_,rfl,seq _ sa,fun l hl=>?_⟩;have s1:=Ad (o:=.lst (ss.map V.str)) hl;refine ⟨_,rfl,t,ss,rfl,seq _ (sa.trans s1),by lia,fun D2 Jr=>⟨D2,ss,rfl,Ab,by lia,fun l2 Du Ql VW KS srt=>?_⟩⟩;have s2:=Ad (o:=setS P w D2 ss) Jr;have s3:=Ad (o:=.lst (Du.map V.str)) Ql;refine ⟨_,_,.lst (s3 _ _ (s2 _ _ Ab)) (B0 _ ss),.lst Ab (B0 _ Du),by simp only [PyData.canLay0]; exact CN hn,by simp only [PyData.canLay0]; exact CN (fun s hs=>hn s ((KS s).mp hs)),?_,?_⟩
     ·simp only [PyData.depth,C9];decide
     ·refine k _ _ (sa.trans (s1.trans (s2.trans s3))) ?_;rw [Mm];refine ⟨fun e=>⟨ss,rfl,hn,(Ea VW KS srt).mp (DU e)⟩,?_⟩;rintro ⟨s5,e5,_,r5⟩;obtain rfl:=DU e5;rw [(Ea VW KS srt).mpr r5]
    ·refine k _ _ sa ⟨fun q=>absurd q (by decide),fun ⟨ss,e,hn,_⟩=>?_⟩;rw [e] at z;exact absurd (Kr hn) z
end
section
variable {P:Program} {w:World} {K:YL} {mg:Str->Option Value} {base:Heap}
theorem Cg (h_all:mg "all"=none) (h_dict:mg "dict"=none) (h_isinstance:mg "isinstance"=none) (h_len:mg "len"=none) (h_tuple:mg "tuple"=none) {fM fR:Addr} {fdM fdR:FuncData} (XM:Fn K mg "most_houses" Ce ["case"] fM fdM) (GM:A3 P w K mg base Bt 1 fM fdM ["case"] MF) (XR:Fn K mg "are_rising" Dc ["things"] fR fdR) (GR:A3 P w K mg base Bt 2 fR fdR ["things"] (LB K)) {f:Addr} {fd:FuncData} (F:DT K "is_opening" "is_opening" CZ f fd):A3 P w K mg base Bt 3 f fd ["case","thing"] (QA K):=by
 refine F.ok Fp (fun vs H Q E h=>?_) (fun cdv A outer s H vs Q E hr h=>?_)
 ·obtain ⟨c,sites,x,d,v,rfl,_⟩:=h;rfl
 ·obtain ⟨c,sites,x,d,v,rfl,cs,rise,names,k⟩:=h;have nd:=Fp.nd;have hu:=D7 hr;have big:1000 < sizeLine:=by decide
  refine ⟨_,(Af (D5 (JT (F1 (G1 (Al Hu (by rfl) h_isinstance PyProof.Rows.boot_isinstance (Aa (pv 1) (Aa (NZ (v:=.ty "tuple") (by rfl) h_tuple PyProof.Rows.boot_tuple rfl) Ac))))) (G0 (F1 (Io LR LR Ah (Al Em (by rfl) h_len PySem.boot_len (Aa (pv 1) Ac)) (Aj GM (hr.mono (by decide)) (by rfl) XM.mg XM.F.kp XM.b .nil As (Aa (pv 0) Ac)))))).pt
  (Ak (A4 FW))
  BG)
  (Af (Ar (i:=2) nd rfl (Or.inr rfl) (A9 (BY rfl) (by rfl) h_dict PyProof.Rows.boot_dict (Aa (AJ KY (pv 0) Ah (fun _ _=>rfl)) Ac)))
  (Ak (A4 (MQ (Aj GR (hr.mono (by decide)) (by rfl) XR.mg XR.F.kp XR.b .nil As (Aa (pv 1) Ac)) (MO (Al (EN rfl) (by rfl) h_all PyProof.Rows.boot_all (Aa (Be (N:=["place","sites"]) (σ0:=fun σ=>[none,some 2].map fun j=>j.bind fun j=>(σ[j]?).join) rfl (A6.caught (by rfl) (by decide +kernel) rfl (by decide +kernel) (by intro y hy; simp only [YM,YU,or_false] at hy; rcases hy with rfl <;> rfl)
   (by intro y hy e; simp only [YM,YU,or_false] at hy; rcases hy with rfl | rfl | rfl <;> first | exact ⟨_,rfl⟩ | cases e)) (fun σ _=>AH.of [none,some 2] rfl (by
   intro i j x h1 h2;match i,h1,h2 with
   | 0,_,h2=>cases h2
   | 1,h1,h2=>cases h1; cases h2; exact ⟨rfl,.inl rfl,.inl rfl⟩
   | n + 2,h1,_=>cases h1)) (KH (pv 1))
   (fun s2 H C fp=>⟨(Ai (i:=0) (show (["place","sites"]:List Str).Nodup by decide +kernel) rfl (Or.inl rfl)),AU,(MP (UO hu (pv 0) (pv 1)))⟩)) Ac)))))))),?_⟩
  rcases k with ⟨ds,⟨t,xs,rfl,ht,dx,short,few⟩,k⟩ | ⟨⟨ty,t1,t2⟩,k⟩
  ·refine ⟨_,rfl,_,"tuple",_,_,rfl,.tup ht,rfl,_,rfl,?_⟩;refine F7 ?_;refine ⟨_,rfl,t,_,rfl,.inr (AI.of ht),_,_,rfl,rfl,_,rfl,?_⟩;have dl:=dx.len;refine BJ (fun z1=>?_) (fun z1=>?_)
   ·refine ⟨_,rfl,c,sites,x,d,rfl,cs,fun mo WY mok=>?_⟩;obtain ⟨mV,Xw,t1,Fi,rs1,hc,HD,HR,rfl,snd,sl,lim⟩:=cs;have ul:=BC HR;rw [YI] at sl mok;refine ⟨_,_,rfl,rfl,_,rfl,?_⟩;refine BJ (fun z2=>?_) (fun z2=>?_)
    ·refine k _ _ (Av.refl _) ⟨fun q=>absurd q (by decide),fun ⟨ss,e,_,sub,lb⟩=>?_⟩;have l1:=sub.length_le;rw [YI] at l1;have:=(mok _ l1).mpr lb;rw [dl,e,YI] at z2;simp [this] at z2
    ·have z3:(xs.length:Int)<=mo:=by simpa using z2
     refine ⟨_,rfl,c,_,_,_,rfl,rfl,AI.of hc,rfl,t1,Fi,BI rs1,rfl,HD,by unfold BI; rw [YI]; exact ul,HM HR,by rw [C5]; exact snd,by unfold BI; rw [YI]; lia,fun B hB=>?_⟩;have s1:=Ad (o:=.dK (sK (BI rs1))) hB;have Ng:(upd H B (.dK (sK (BI rs1)))) B=some (.dK (sK (BI rs1))):=Ab;generalize upd H B (.dK (sK (BI rs1)))=H1 at s1 Ng;refine ⟨_,rfl,t,xs,ds,rfl,.inr (s1 _ _ ht),dx.mono (fun a o e _=>s1 a o e),short,few,fun b H2 s2 hb=>⟨_,rfl,?_⟩⟩;refine BJ (fun z=>?_) (fun z=>?_)
     ·obtain ⟨ss,rfl,hn,ri⟩:=hb.mp z;obtain rfl:=dx.txt;rw [YI] at few z1 z3;have ne:ss ≠ []:=fun e=>by subst e; simp at z1
      have WA:=s2 _ _ Ng;have J1:=s2 _ _ (s1 _ _ ht);refine ⟨_,rfl,t,rfl,⟨_,AI.of J1⟩,?_⟩;refine Bx BD (xs:=ss.map V.str) (fun D i σ H' acc=>∃ v0:Option V,σ=[v0,some (.ref B)]/\Av H2 H'/\H' D=some (.lst acc)/\acc=((ss.take i).map fun y=>decide (y ∈ rs1.map (·.1))).map V.bl/\acc.length=i)
       (by rw [YI]; lia) (fun D hD=>⟨_,rfl,Ad hD,Ab,rfl,rfl⟩) (fun D i σ H' acc hD ⟨v0,_,sa,AE,_,al⟩=>⟨AI.of (sa _ _ J1),AE,al⟩) ?_ ?_
      ·rintro D i σ H' acc x' Bk hD ex ⟨v0,rfl,sa,AE,rfl,al⟩ hBk;obtain ⟨y,ey,rfl⟩:∃ y,ss[i]? = some y/\x'=.str y:=by
        rw [YS] at ex;cases q:ss[i]? with
        | none=>rw [q] at ex; cases ex
        | some y=>rw [q] at ex; exact ⟨y,rfl,(Zf.inj ex).symm⟩
       refine ⟨_,rfl,_,rfl,B,_,rfl,BK.k (k:=Sum.inr y) (sa _ _ WA),?_⟩;rw [Hk,C5];refine hBk _ _ _ AE ⟨_,rfl,fun b o e=>?_,Ab,?_,by rw [YR,al]; rfl⟩
       ·rw [Ae (Ag e hD)];exact sa _ _ e
       ·rw [Zk,ey,YY,YY];rfl
      ·rintro D σ H' acc hD ⟨v0,rfl,sa,AE,rfl,al⟩;rw [YI,Zn] at AE;refine ⟨D,_,rfl,AD.of AE,?_⟩;refine k _ _ (s1.trans (s2.trans sa)) ?_;rw [bI,ZT];constructor
       ·intro h;have sub:=DZ ri rise fun y hy=>by simpa using h y hy
        have l1:=sub.length_le;rw [YI] at l1;exact ⟨ss,rfl,ne,sub,(mok _ l1).mp z3⟩
       ·rintro ⟨s5,e5,_,sub,_⟩ y hy;rw [DU e5] at hy;simpa using sub.subset hy
     ·refine k _ _ (s1.trans s2) ⟨fun q=>absurd q (by decide),fun ⟨ss,e,_,sub,_⟩=>absurd (hb.mpr ⟨ss,e,fun y hy=>names y (sub.subset hy),rise.sub sub⟩) z⟩
   ·refine ⟨_,rfl,?_⟩;refine MV ?_;refine k _ _ (Av.refl _) ⟨fun q=>absurd q (by decide),fun ⟨ss,e,ne,_⟩=>?_⟩;rw [dl,e,YI,decide_eq_true_eq] at z1;exact absurd (ZF.mp (by lia)) ne
  ·refine ⟨_,rfl,_,"tuple",_,_,rfl,t1,t2,_,rfl,?_⟩;exact k _ (Av.refl _)
end
section
variable {P:Program} {w:World} {K:YL} {mg:Str->Option Value} {base:Heap}
theorem BW {fF:Addr} {fdF:FuncData} (XF:Fn K mg "fars" K6 ["web","place"] fF fdF) (GF:A3 P w K mg base Bt 3 fF fdF ["web","place"] (QB K)) {f:Addr} {fd:FuncData} (F:DT K "site_fars" "site_fars" Dy f fd):A3 P w K mg base Bt 4 f fd ["case"] Ic:=by
 refine F.ok FN (fun vs H Q E h=>?_) (fun cdv A outer s H vs Q E hr h=>?_)
 ·obtain ⟨c,m,n,xs,ws,rs1,Au,x,d,rfl,_⟩:=h;rfl
 ·obtain ⟨c,m,n,xs,ws,rs1,Au,x,d,rfl,cw,k⟩:=h;have nd:=FN.nd;have big:100000 < sizeLine:=by decide
  refine ⟨_,(Ak (A4 (Iq (N:=["place","price","case"]) (σ0:=fun σ=>[none,none,some 0].map fun j=>j.bind fun j=>(σ[j]?).join) rfl (A6.caught (by rfl) (by decide +kernel) rfl (by decide +kernel) (by intro y hy; simp only [YM,YU,or_false] at hy; rcases hy with rfl <;> rfl)
   (by intro y hy e; simp only [YM,YU,or_false] at hy; rcases hy with rfl | rfl | rfl | rfl | rfl <;> first | exact ⟨_,rfl⟩ | cases e)) (fun σ _=>AH.of [none,none,some 0] rfl (by
   intro i j x h1 h2;match i,h1,h2 with
   | 0,_,h2=>cases h2
   | 1,_,h2=>cases h2
   | 2,h1,h2=>cases h1; cases h2; exact ⟨rfl,.inl rfl,.inl rfl⟩
   | n + 3,h1,_=>cases h1)) (B6 K rfl (AJ (B8 K rfl) (pv 0) Ah (fun _ _=>rfl)))
   (fun s2 H C fp=>⟨(B7 K rfl (n:=2) rfl (Ap (Ai (i:=0) (show (["place","price","case"]:List Str).Nodup by decide +kernel) rfl (Or.inl rfl)) (Ap (Ai (i:=1) (show (["place","price","case"]:List Str).Nodup by decide +kernel) rfl (Or.inl rfl)) Bw))),AU,(pv 0),(Aj GF (hr.mono (by decide)) (by rfl) XF.mg XF.F.kp XF.b .nil As (Aa (AJ (B8 K rfl) (pv 2) Ah (fun _ _=>rfl)) (Aa (pv 0) Ac)))⟩)))),?_⟩
  obtain ⟨t1,t2,Fi,MA,hc,HD,HR,J1,hd2⟩:=cw.ex;obtain ⟨r,okw,pos,uni⟩:=cw.map.web cw.n1 cw.n30;have ul:=BC HR;have l1:=cw.l1;refine ⟨_,rfl,c,_,_,_,rfl,rfl,AI.of hc,rfl,t1,rfl,⟨_,AI.of HD⟩,?_⟩;refine OZ BD (xs:=Fi) (rs1.map (·.1)) (by rw [YI,ul]) cw.ok1.nd (fun D i σ H' nv=>∃ (v0 v1:Option V),σ=[v0,v1,some (.ref c)]/\Av H H'/\H' D=some (.dK (sK nv))/\nv.map (·.1)=(rs1.map (·.1)).take i/\∀ s v,(s,v) ∈ nv->Sa H' v xs ws s)
   (by lia) (fun D hD=>⟨_,_,rfl,Ad hD,Ab,rfl,fun s v hm=>nomatch hm⟩) (fun D i σ H' nv hD ⟨v0,v1,_,sa,AE,nk,_⟩=>⟨AI.of (sa _ _ HD),AE,nk⟩) ?_ ?_
  ·rintro D i σ H' nv x' kk B hD ex ek ⟨v0,v1,rfl,sa,AE,nk,nf⟩ hB;obtain ⟨u,t,eu,rfl,ht⟩:=CO HR ex;have e:kk=u.1:=by
    rw [YS,eu] at ek;exact (Zf.inj ek).symm
   subst e;refine ⟨t,_,rfl,AI.of (sa _ _ ht),rfl,_,_,rfl,_,_,rfl,rfl,?_⟩;refine ⟨_,rfl,_,rfl,c,_,_,_,rfl,rfl,AI.of (sa _ _ hc),rfl,_,rfl,m,xs,ws,r,u.1,rfl,okw.same sa,pos,uni,cw.ok1.sub u (YN eu),fun H1 B1 nb s1 fB VB nbK nbV=>?_⟩;have Uq:=s1 _ _ AE;refine hB _ _ _ Uq ⟨_,_,rfl,fun b o' z=>by rw [Ae (Ag z hD)]; exact s1 _ _ (sa _ _ z),Ab,?_,fun s v hm=>?_⟩
   ·rw [YY,nk,Zk,ek];rfl
   ·have nB:∀ {b:Addr} {kv:List (A7 × V)},b ≠ D->H1 b=some (.dK kv)->(upd H1 D (.dK (sK (nv ++ [(u.1,.ref B1)])))) b=some (.dK kv):=fun nb z=>by rw [Ae nb]; exact z
    rcases Zl.mp hm with hm | hm
    ·obtain ⟨B2,Uk,rfl,z1,z2,z3⟩:=nf s v hm;by_cases e:B2=D
     ·subst e;rw [AE] at z1;have e:=HO.dK.inj (Zf.inj z1);have Xd:((Sum.inr s:A7),V.ref B2) ∈ sK Uk:=by rw [<-e]; exact YT.mpr ⟨_,hm,rfl⟩
      obtain ⟨⟨y,u'⟩,h1,h2⟩:=YT.mp Xd;cases h2
      obtain ⟨n',e',_⟩:=z3 _ _ h1;cases e'
     ·exact ⟨B2,Uk,rfl,nB e (s1 _ _ z1),z2,z3⟩
    ·simp only [Zc,Prod.mk.injEq] at hm;obtain ⟨rfl,rfl⟩:=hm;exact ⟨B1,nb,rfl,nB (fun z=>by rw [z,AE] at fB; cases fB) VB,nbK,nbV⟩
  ·rintro D σ H' nv hD ⟨v0,v1,rfl,sa,AE,nk,nf⟩;rw [ul,show rs1.length=(rs1.map (·.1)).length by rw [YI],Zn] at nk;exact k H' D nv sa hD AE nk nf
end
section
variable {P:Program} {w:World} {K:YL} {mg:Str->Option Value} {base:Heap}
theorem By (h_len:mg "len"=none) (h_min:mg "min"=none) {f:Addr} {fd:FuncData} (F:DT K "most_houses" "most_houses" Ce f fd):A3 P w K mg base Bt 1 f fd ["case"] MF:=by
 refine F.ok E4 (fun vs H Q E h=>?_) (fun cdv A outer s H vs Q E hr h=>?_)
 ·obtain ⟨c,sites,x,d,rfl,_⟩:=h;rfl
 ·obtain ⟨c,sites,x,d,rfl,cs,k⟩:=h;have nd:=E4.nd;have big:100000 < sizeLine:=by decide
  refine ⟨_,(Af (Eb (pv 0) (B7 K rfl rfl (Ap (Ai (i:=1) nd rfl (Or.inl rfl)) (Ap (Ai (i:=2) nd rfl (Or.inl rfl)) (Ap (Ai (i:=3) nd rfl (Or.inl rfl)) (Ap (Ai (i:=4) nd rfl (Or.inl rfl)) Bw))))))
  (Ak (A4 (Ip (Im (KJ (pv 4))) (Al (Ax K rfl) (by rfl) h_len PySem.boot_len (Aa (pv 2) Ac)) (Al (GP rfl) (by rfl) h_min PyProof.Rows.boot_min (Aa (pv 4) (Aa (Al (Ax K rfl) (by rfl) h_len PySem.boot_len (Aa (pv 2) Ac)) Ac))))))),?_⟩
  obtain ⟨mV,Xw,t1,Fi,rs1,hc,HD,HR,rfl,snd,sl,lim⟩:=cs;have ul:=BC HR;refine ⟨_,rfl,c,_,rfl,AI.of hc,rfl,_,_,rfl,_,_,rfl,_,_,rfl,_,_,rfl,rfl,?_⟩;refine ⟨_,rfl,_,rfl,?_⟩;rcases lim with ⟨rfl,_⟩ | ⟨lm,rfl,_,lm1,lm2⟩
  ·refine BJ (fun _=>?_) (fun z=>by simp at z);refine ⟨_,rfl,t1,_,rfl,.inr (AI.of HD),?_⟩;refine k _ (by lia) fun j hj=>?_
   rw [YI] at hj;simp only [GA,iff_true];lia
  ·refine BJ (fun z=>by simp at z) (fun _=>?_);refine ⟨_,rfl,_,rfl,t1,_,rfl,.inr (AI.of HD),_,_,rfl,?_⟩;refine k _ (by split <;> lia) fun j hj=>?_
   rw [YI] at hj;simp only [GA,decide_eq_true_eq];split <;> lia
theorem LU (h_len:mg "len"=none) (h_sorted:mg "sorted"=none) {fM:Addr} {fdM:FuncData} (XM:Fn K mg "most_houses" Ce ["case"] fM fdM) (GM:A3 P w K mg base Bt 1 fM fdM ["case"] MF) {f:Addr} {fd:FuncData} (F:DT K "openings" "openings" DW f fd):A3 P w K mg base Bt 2 f fd ["case"] K3:=by
 refine F.ok Hf (fun vs H Q E h=>?_) (fun cdv A outer s H vs Q E hr h=>?_)
 ·obtain ⟨c,sites,x,d,rfl,_⟩:=h;rfl
 ·obtain ⟨c,sites,x,d,rfl,cs,s6,k⟩:=h;have nd:=Hf.nd;have big:100000 < sizeLine:=by decide
  refine ⟨_,(Af (Ar (i:=1) nd rfl (Or.inr rfl) (Aj GM (hr.mono (by decide)) (by rfl) XM.mg XM.F.kp XM.b .nil As (Aa (pv 0) Ac)))
  (Af (Ar (i:=2) nd rfl (Or.inl rfl) (Bq (Aa (Bh Ac) Ac)))
  (Af (BL PassesOwn.never rfl (B6 K rfl (AJ (B8 K rfl) (pv 0) Ah (fun _ _=>rfl))) (B7 K rfl rfl (Ap (Ai (i:=3) nd rfl (Or.inr rfl)) (Ap (Ai (i:=4) nd rfl (Or.inl rfl)) Bw)))
  (Ak (Ar (i:=2) nd rfl (Or.inl rfl) (Ay G4 (pv 2) (Be (N:=["houses","most","place"]) (σ0:=fun σ=>[none,some 1,some 3].map fun j=>j.bind fun j=>(σ[j]?).join) rfl (A6.caught (by rfl) (by decide +kernel) rfl (by decide +kernel) (by intro y hy; simp only [YM,YU,or_false] at hy; rcases hy with rfl | rfl <;> rfl)
   (by intro y hy e; simp only [YM,YU,or_false] at hy; rcases hy with rfl | rfl | rfl | rfl | rfl <;> first | exact ⟨_,rfl⟩ | cases e)) (fun σ _=>AH.of [none,some 1,some 3] rfl (by
   intro i j x h1 h2;match i,h1,h2 with
   | 0,_,h2=>cases h2
   | 1,h1,h2=>cases h1; cases h2; exact ⟨rfl,.inl rfl,.inl rfl⟩
   | 2,h1,h2=>cases h1; cases h2; exact ⟨rfl,.inl rfl,.inl rfl⟩
   | n + 3,h1,_=>cases h1)) (BM K rfl (pv 2))
   (fun s2 H C fp=>⟨(Ai (i:=0) (show (["houses","most","place"]:List Str).Nodup by decide +kernel) rfl (Or.inl rfl)),(CF (AV Hm (Al (Ax K rfl) (by rfl) h_len PySem.boot_len (Aa (pv 0) Ac)) (pv 1) (Bi _))),(Ay (Iy K rfl) (pv 0) (Bh (Aa (pv 2) Ac)))⟩))))))
  (Ak (A4 (Al (CV K rfl) (by rfl) h_sorted PyProof.Rows.boot_sorted (Aa (Be (N:=["houses"]) (σ0:=fun _=>[none]) rfl (A6.plain (by decide +kernel) (by decide +kernel) rfl (by decide +kernel)) (fun σ _=>AH.none _ _ _ ["houses"] σ) (BM K rfl (pv 2))
   (fun s2 H C fp=>⟨(Ai (i:=0) (show (["houses"]:List Str).Nodup by decide +kernel) rfl (Or.inl rfl)),(CF (Ph K rfl (pv 0) (fun _=>rfl))),(pv 0)⟩)) Ac))))))),?_⟩
  refine ⟨_,rfl,c,sites,x,d,rfl,cs,fun mo WY mok=>?_⟩;obtain ⟨mV,Xw,t1,Fi,rs1,hc,HD,HR,rfl,snd,sl,lim⟩:=cs;have ul:=BC HR;rw [YI] at sl mok;refine ⟨(by show 0<=sizeLine; lia),fun T0 Yr=>⟨(by show 1<=sizeLine; lia),fun L0 Vi=>?_⟩⟩;have s0:=(Ad (o:=.tup []) Yr).trans (Ad (o:=.lst [.ref T0]) Vi);refine ⟨_,rfl,c,_,_,_,rfl,rfl,AI.of (s0 _ _ hc),rfl,t1,rfl,⟨_,AI.of (s0 _ _ HD)⟩,?_⟩;refine IU (xs:=Fi) (fun i σ H'=>∃ (L:Addr) (us:List V) (fs:List (List Str)) (v2 v3:Option V),σ=[some (.ref c),some (.int mo),some (.ref L),v2,v3]/\Av H H'/\H' L=some (.lst us)/\Bo H' us fs/\ER ((rs1.map (·.1)).take i) mo fs/\fs.length<=2 ^ i)
   ⟨L0,[.ref T0],[[]],_,_,rfl,s0,Ab,.cons (by rw [Ae (by intro z; subst z; rw [Ab] at Vi; cases Vi)]; exact Ab) .nil,ER.nil WY,YO _⟩
   (fun i σ H' _ ⟨_,_,_,_,_,_,sa,_⟩=>AI.of (sa _ _ HD)) ?_ ?_
  ·rintro i xx σ H' ex ⟨L,us,fs,v2,v3,rfl,sa,hL,tU,sub,fl⟩ rt bk;obtain ⟨u,t,eu,rfl,ht⟩:=CO HR ex;have hi:i < rs1.length:=(YQ.mp eu).1;have Y5:fs.length<=512:=Zj fl (Zj (ZR (by decide) (show i<=9 by lia)) (by decide));have hul:=tU.len;have Tt:∀ f ∈ fs,f.length<=10:=fun f hf=>by
    have:=((sub.2 f).mp hf).1.length_le;rw [Zy,YI] at this;lia
   refine ⟨t,_,rfl,AI.of (sa _ _ ht),rfl,_,_,rfl,_,_,rfl,rfl,?_⟩;refine ⟨_,rfl,_,rfl,L,rfl,⟨_,AD.of hL⟩,?_⟩;refine Bl BV (xs:=us) (fun D j Aw H2 acc=>∃ v0:Option V,Aw=[v0,some (.int mo),some (.str u.1)]/\Av H' H2/\H2 D=some (.lst acc)/\Bo H2 acc (((fs.take j).filter fun f=>decide ((f.length:Int) < mo)).map (· ++ [u.1]))/\acc.length<=j)
    (by lia) (fun D hD=>⟨_,rfl,Ad hD,Ab,.nil,YO _⟩) (fun D j Aw H2 acc hD ⟨v0,_,sb,AE,_,al⟩=>⟨AD.of (sb _ _ hL),AE,al⟩) ?_ ?_
   ·rintro D j Aw H2 acc x' B N hD Xi ⟨v0,rfl,sb,AE,tp,al⟩ hB hN;obtain ⟨tf,f,rfl,ef,htf⟩:=tU.get Xi;have fm:=Tt f (YN ef);have Mg:=sb _ _ htf;refine ⟨_,rfl,tf,_,rfl,.inr (AI.of Mg),_,rfl,_,_,rfl,rfl,_,rfl,?_⟩;rw [YI];refine BJ (fun z=>?_) (fun z=>?_)
    ·have go:∀ (H5:Hp) (T:Addr),Av H2 H5->H5 T=some (.tup ((f ++ [u.1]).map V.str))->B [some (.ref tf),some (.int mo),some (.str u.1)] (.ref T) H5:=fun H5 T s5 hT=>by
      refine hB _ _ _ (s5 _ _ AE) ⟨_,rfl,fun b o' z=>by rw [Ae (Ag z hD)]; exact s5 _ _ (sb _ _ z),Ab,?_,by rw [YR]; simp; lia⟩;rw [Zk,ef,ZU,YY];simp only [aK,ZP,z,if_true,az,Zb,bH];refine ((tp.keep fun b ys z=>s5 _ _ z).app (.cons hT .nil)).keep fun b ys z=>?_
      rw [Ae (Bz z (s5 _ _ AE) (fun q=>by cases q))];exact z
     refine ⟨_,rfl,_,rfl,(by show 1<=sizeLine; lia),fun T1 R9=>⟨tf,T1,_,_,rfl,rfl,AI.of (Ad R9 _ _ Mg),AI.of Ab,by rw [YI]; show f.length + 1<=sizeLine; lia,fun e=>?_,fun ne e=>?_,fun ne ne' p hp=>?_⟩⟩
     ·have e':f=[]:=by simpa using e
      subst e';exact go _ T1 (Ad R9) Ab
     ·cases e
     ·exact go _ p ((Ad R9).trans (Ad hp)) (by rw [Ab,YY]; rfl)
    ·have z':decide ((f.length:Int) < mo)=false:=by simpa using z
     refine hN _ _ ⟨_,rfl,sb,AE,?_,by lia⟩;rw [Zk,ef,ZU];simp only [aK,ZP,z',Zp,if_false,az,ZE];exact tp
   ·rintro D Aw H2 acc hD ⟨v0,rfl,sb,AE,tp,al⟩;refine ⟨L,D,us,acc,rfl,rfl,sb _ _ hL,AE,by lia,fun p hp=>?_⟩;have sp:=Ad (o:=.lst (us ++ acc)) hp;rw [hul,Zn] at tp;have e0:(rs1.map (·.1))[i]? = some u.1:=by rw [YS,eu]; rfl
    have e1:(rs1.map (·.1)).take (i + 1)=(rs1.map (·.1)).take i ++ [u.1]:=by rw [Zk,e0]; rfl
    have nin:u.1 ∉ (rs1.map (·.1)).take i:=by
     have:=snd.sublist (bG (i + 1) _);rw [e1] at this;exact fun z=>(Z4.mp this).2.2 _ z _ (by simp) rfl
    refine ⟨p,us ++ acc,_,_,_,rfl,(sa.trans sb).trans sp,Ab,((tU.keep fun b ys z=>sb _ _ z).app tp).keep (fun b ys z=>sp _ _ z),?_,?_⟩
    ·rw [e1];exact ER.step nin sub
    ·rw [YR,YI,cB];have:=Z2 (fun f=>decide ((f.length:Int) < mo)) fs;lia
  ·rintro σ H' ⟨L,us,fs,v2,v3,rfl,sa,hL,tU,sub,fl⟩;rw [ul,show rs1.length=(rs1.map (·.1)).length by rw [YI],Zn] at sub;rw [ul] at fl;have RI:fs.length<=1024:=Zj fl (Zj (ZR (by decide) sl) (by decide));have f64:fs.length<=64:=Zj fl (Zj (ZR (by decide) (by rw [YI] at s6; exact s6)) (by decide));have hul:=tU.len;refine ⟨_,rfl,L,rfl,⟨_,AD.of hL⟩,?_⟩;refine Bl BV (xs:=us) (fun D i Aw H2 acc=>∃ v0:Option V,Aw=[v0]/\Av H' H2/\H2 D=some (.lst acc)/\Bo H2 acc ((fs.take i).filter fun f=>!f.isEmpty)/\acc.length<=i)
    (by lia) (fun D hD=>⟨_,rfl,Ad hD,Ab,.nil,YO _⟩) (fun D i Aw H2 acc hD ⟨v0,_,sb,AE,_,al⟩=>⟨AD.of (sb _ _ hL),AE,al⟩) ?_ ?_
   ·rintro D i Aw H2 acc x' B N hD ex ⟨v0,rfl,sb,AE,tp,al⟩ hB hN;obtain ⟨tf,f,rfl,ef,htf⟩:=tU.get ex;have Mg:=sb _ _ htf;refine ⟨_,rfl,!f.isEmpty,.inr (.inl ⟨_,AI.of Mg,by cases f <;> rfl⟩),?_⟩;refine BJ (fun z=>?_) (fun z=>?_)
    ·refine ⟨_,rfl,hB _ _ _ AE ⟨_,rfl,fun b o' z=>by rw [Ae (Ag z hD)]; exact sb _ _ z,Ab,?_,by rw [YR]; simp; lia⟩⟩;rw [Zk,ef,ZU];simp only [aK,ZP,z,if_true,az];refine (tp.app (.cons Mg .nil)).keep fun b ys z=>?_
     rw [Ae (Bz z AE (fun q=>by cases q))];exact z
    ·have z':(!f.isEmpty)=false:=by simpa using z
     refine hN _ _ ⟨_,rfl,sb,AE,?_,by lia⟩;rw [Zk,ef,ZU];simp only [aK,ZP,z',Zp,if_false,az,ZE];exact tp
   ·rintro D Aw H2 acc hD ⟨v0,rfl,sb,AE,tp,al⟩;rw [hul,Zn] at tp;refine ⟨D,acc,fun _=>true,rfl,AD.of AE,tp.kinds (fun f hf=>?_),?_,fun l HW hl pm=>?_⟩
    ·have:=(Zx.mp hf).2;intro z;rw [z] at this;cases this
    ·have e1:=tp.len;have e2:=(bz (p:=fun f:List Str=>!f.isEmpty) (l:=fs)).mpr ⟨[],(sub.2 []).mpr ⟨aM _,by simpa using WY⟩,by simp⟩;lia
    ·obtain ⟨os,po,to⟩:=Bo.perm pm tp;have Sg:=Ad (o:=.lst HW) hl;refine k _ l HW os ((sa.trans sb).trans Sg) ?_ Ab (to.keep fun b ys z=>Sg _ _ z) ⟨po.nodup_iff.mpr (sub.1.sublist ax),?_,fun ss=>?_⟩ (by rw [po.length_eq]; exact Zj (Z2 _ _) RI)
     ·cases e:H l with
      | none=>rfl
      | some o=>rw [sb _ _ (sa _ _ e)] at hl; cases hl
     ·trivial
     ·rw [po.mem_iff,Zx,sub.2];constructor
      ·rintro ⟨⟨h1,h2⟩,h3⟩;have:=h1.length_le;rw [YI] at this;exact ⟨(by intro z; rw [z] at h3; cases h3),h1,(mok _ this).mp h2⟩
      ·rintro ⟨h1,h2,h3⟩;have:=h2.length_le;rw [YI] at this;exact ⟨⟨h2,(mok _ this).mpr h3⟩,by cases ss with | nil=>exact absurd rfl h1 | cons _ _=>rfl⟩
end
section
variable {P:Program} {w:World} {K:YL} {mg:Str->Option Value} {base:Heap}
theorem Ct (h_dict:mg "dict"=none) (h_min:mg "min"=none) (h_sum:mg "sum"=none) {fS:Addr} {fdS:FuncData} (XS:Fn K mg "site_fars" Dy ["case"] fS fdS) (GS:A3 P w K mg base Bt 4 fS fdS ["case"] Ic) {f:Addr} {fd:FuncData} (F:DT K "costs_of" "costs_of" C4 f fd):A3 P w K mg base Bt 5 f fd ["case","chosen"] EW:=by
 refine F.ok Hi (fun vs H Q E h=>?_) (fun cdv A outer s H vs Q E hr h=>?_)
 ·obtain ⟨c,e,m,n,xs,ws,rs1,Au,x,d,us,os,rfl,_⟩:=h;rfl
 ·obtain ⟨c,e,m,n,xs,ws,rs1,Au,x,d,us,os,rfl,cw,he,tU,ond,opn,ol,k⟩:=h;have nd:=Hi.nd;have hu:=D7 hr;have big:100000 < sizeLine:=by decide
  refine ⟨_,(Af (Eb (pv 0) (B7 K rfl rfl (Ap (Ai (i:=2) nd rfl (Or.inl rfl)) (Ap (Ai (i:=3) nd rfl (Or.inl rfl)) (Ap (Ai (i:=4) nd rfl (Or.inl rfl)) (Ap (Ai (i:=5) nd rfl (Or.inl rfl)) Bw))))))
  (Af (Ar (i:=6) nd rfl (Or.inr rfl) (A9 (BY rfl) (by rfl) h_dict PyProof.Rows.boot_dict (Aa (pv 3) Ac)))
  (Af (Ar (i:=7) nd rfl (Or.inr rfl) (Aj GS (hr.mono (by decide)) (by rfl) XS.mg XS.F.kp XS.b .nil As (Aa (pv 0) Ac)))
  (Af (Ar (i:=8) nd rfl (Or.inl rfl) LP)
  (Af (BL PassesOwn.never rfl (BM K rfl (pv 1)) (Ai (i:=9) nd rfl (Or.inr rfl))
  (Af (QX (fun x=>decide (x=("place":Str))) (ix:=10) (N:=["place","many","aways","houses"]) (σ0:=fun σ=>[none,none,some 7,some 9].map fun j=>j.bind fun j=>(σ[j]?).join) nd rfl (Or.inl rfl) rfl (Gr.caught (by rfl) rfl (by decide +kernel) (by intro y hy; simp only [YM,YU,or_false] at hy; rcases hy with rfl | rfl <;> rfl) (by refine List.Pairwise.cons (fun y hy=>?_) (aB _ _); rw [Zc.mp hy]; show @Ne Nat _ _; lia)
   (by intro y hy e; simp only [YM,YU,or_false] at hy; rcases hy with rfl | rfl | rfl | rfl | rfl | rfl <;> first | exact ⟨_,Zg⟩ | exact ⟨_,Ze _ Zg⟩ | cases e)) (by intro x h; have h':=of_decide_eq_true h; subst h'; decide +kernel) (fun σ _=>AH.of [none,none,some 7,some 9] rfl (by
   intro i j x h1 h2;match i,h1,h2 with
   | 0,_,h2=>cases h2
   | 1,_,h2=>cases h2
   | 2,h1,h2=>cases h1; cases h2; exact ⟨rfl,.inl rfl,.inl rfl⟩
   | 3,h1,h2=>cases h1; cases h2; exact ⟨rfl,.inl rfl,.inl rfl⟩
   | n + 4,h1,_=>cases h1)) (by
   intro σ i x v h1 h2;match i,h1,h2 with
   | 0,_,h2=>cases h2
   | 1,_,h2=>cases h2
   | 2,h1,h2=>cases h1; decide +kernel
   | 3,h1,h2=>cases h1; decide +kernel
   | n + 4,h1,_=>cases h1) (B6 K rfl (pv 4))
   (fun s2 H C fp=>⟨(B7 K rfl (n:=2) rfl (Ap (Ai (i:=0) (show (["place","many","aways","houses"]:List Str).Nodup by decide +kernel) rfl (Or.inr rfl) (.inl (by dsimp only; exact decide_eq_true rfl))) (Ap (Ai (i:=1) (show (["place","many","aways","houses"]:List Str).Nodup by decide +kernel) rfl (Or.inl rfl)) Bw))),AU,(Ay Oa (pv 1) (Al (J8 rfl) (by rfl) h_min PyProof.Rows.boot_min (Aa (Be (N:=["house","place","aways"]) (σ0:=fun σ=>[none,some 0,some 2].map fun j=>j.bind fun j=>(σ[j]?).join) rfl (A6.caught (by rfl) (by decide +kernel) rfl (by decide +kernel) (by intro y hy; simp only [YM,YU,or_false] at hy; rcases hy with rfl | rfl <;> rfl)
   (by intro y hy e; simp only [YM,YU,or_false] at hy; rcases hy with rfl | rfl | rfl | rfl <;> first | exact ⟨_,rfl⟩ | cases e)) (fun σ _=>AH.of [none,some 0,some 2] rfl (by
   intro i j x h1 h2;match i,h1,h2 with
   | 0,_,h2=>cases h2
   | 1,h1,h2=>cases h1; cases h2; exact ⟨rfl,.inl rfl,.inl rfl⟩
   | 2,h1,h2=>cases h1; cases h2; exact ⟨rfl,.inl rfl,.inl rfl⟩
   | n + 3,h1,_=>cases h1)) (B6 K rfl (pv 3))
   (fun s2 H C fp=>⟨(Ai (i:=0) (show (["house","place","aways"]:List Str).Nodup by decide +kernel) rfl (Or.inl rfl)),AU,(AG hu (AG hu (pv 2) (pv 0) (fun _ _=>rfl)) (pv 1) (fun _ _=>rfl))⟩)) Ac)))⟩))
  (Ak (Dd hu (pv 8) (pv 9) (Ay Bc (Al (CG rfl) (by rfl) h_sum PyProof.Rows.boot_sum (Aa (Be (N:=["house","charges"]) (σ0:=fun σ=>[none,some 6].map fun j=>j.bind fun j=>(σ[j]?).join) rfl (A6.caught (by rfl) (by decide +kernel) rfl (by decide +kernel) (by intro y hy; simp only [YM,YU,or_false] at hy; rcases hy with rfl <;> rfl)
   (by intro y hy e; simp only [YM,YU,or_false] at hy; rcases hy with rfl | rfl | rfl <;> first | exact ⟨_,rfl⟩ | cases e)) (fun σ _=>AH.of [none,some 6] rfl (by
   intro i j x h1 h2;match i,h1,h2 with
   | 0,_,h2=>cases h2
   | 1,h1,h2=>cases h1; cases h2; exact ⟨rfl,.inl rfl,.inl rfl⟩
   | n + 2,h1,_=>cases h1)) (B6 K rfl (pv 9))
   (fun s2 H C fp=>⟨(Ai (i:=0) (show (["house","charges"]:List Str).Nodup by decide +kernel) rfl (Or.inl rfl)),AU,(AG hu (pv 1) (pv 0) (fun _ _=>rfl))⟩)) Ac)) (Al (CG rfl) (by rfl) h_sum PyProof.Rows.boot_sum (Aa (pv 10) Ac))) rfl))))
  (Ak (A4 (pv 8)))))))),?_⟩
  obtain ⟨t1,t2,Fi,MA,hc,HD,HR,J1,hd2⟩:=cw.ex;have Xt:=BC HR;have ul2:=BC hd2;have l1:=cw.l1;have l2:=cw.l2;have hul:=tU.len;refine ⟨_,rfl,c,_,rfl,AI.of hc,rfl,_,_,rfl,_,_,rfl,_,_,rfl,_,_,rfl,rfl,?_⟩;refine ⟨_,rfl,t1,Fi,BI rs1,rfl,HD,by unfold BI; rw [YI]; exact Xt,HM HR,by rw [C5]; exact cw.ok1.nd,by unfold BI; rw [YI]; lia,fun CH hCH=>?_⟩;have s1:=Ad (o:=.dK (sK (BI rs1))) hCH;have hCC:(upd H CH (.dK (sK (BI rs1)))) CH=some (.dK (sK (BI rs1))):=Ab;generalize upd H CH (.dK (sK (BI rs1)))=H1 at s1 hCC;refine ⟨_,rfl,c,m,n,xs,ws,rs1,Au,x,d,rfl,cw.same s1,fun H2 AW nv s2 fA hA nk nf=>?_⟩;have Ub:=s1.trans s2;intro D hD;have s3:=Ad (o:=.dT []) hD;have fD:H D=none:=by
   cases z:H D with
   | none=>rfl
   | some o'=>rw [Ub _ _ z] at hD; cases hD
  refine ⟨_,rfl,e,rfl,⟨_,AD.of (s3 _ _ (Ub _ _ he))⟩,?_⟩;refine Kg (xs:=us) (fun i σ H'=>∃ (v9 v10:Option V) (kvs:List (List A7 × V)),σ=[some (.ref c),some (.ref e),some (.ref m),some (.ref t1),some (.ref t2),some x,some (.ref CH),some (.ref AW),some (.ref D),v9,v10]/\Av H2 H'/\H' D=some (.dT kvs)/\kvs.map (·.1)=(os.take i).map (fun ss=>ss.map Sum.inr)/\(∀ ss v,(ss.map Sum.inr,v) ∈ kvs->∃ t,v=.int t/\B5 ws rs1 Au ss t))
   ⟨_,_,[],rfl,s3,Ab,rfl,fun ss v hm=>nomatch hm⟩ (fun i σ H' _ ⟨_,_,_,_,sa,_⟩=>AD.of (sa _ _ (Ub _ _ he))) ?_ ?_
  ·rintro i v σ H' hv ⟨v9,v10,kvs,rfl,sa,AE,kk,kt⟩ rt bk NN hN;obtain ⟨o,ss,rfl,es,ho⟩:=tU.get hv;have hsm:=YN es;have hi:i < os.length:=(YQ.mp es).1;obtain ⟨sne,snd,ssub⟩:=opn ss hsm;have sl:ss.length<=rs1.length:=by
    have:=List.Nodup.length_le_of_subset snd (fun s hs=>ssub s hs);rw [YI] at this;exact this
   have Ws:=Ub _ _ ho;have sx:∀ s ∈ ss,s ∈ xs:=fun s hs=>by
    obtain ⟨r,Lm,rfl⟩:=YT.mp (ssub s hs);exact cw.ok1.sub r Lm
   have nnd:(nv.map (·.1)).Nodup:=by rw [nk]; exact cw.ok1.nd
   refine ⟨_,rfl,t2,rfl,⟨_,AI.of (sa _ _ (Ub _ _ J1))⟩,?_⟩;refine Bx BD (xs:=MA) (fun D2 j Aw H3 acc=>∃ (v0 v1:Option V) (ds:List Int),Aw=[v0,v1,some (.ref AW),some (.ref o)]/\Av H' H3/\H3 D2=some (.lst acc)/\acc=((Au.zip ds).map fun p=>p.1.2 * p.2).map V.int/\ds.length=j/\acc.length=j/\∀ (q:Nat) r d,Au[q]? = some r->ds[q]? = some d->Md ws ss r.1 d)
    (by lia) (fun D2 Jr=>⟨_,_,[],rfl,Ad Jr,Ab,by rw [List.zip_nil_right]; rfl,rfl,rfl,fun q r d _ e=>by simp at e⟩)
    (fun D2 j Aw H3 acc Jr ⟨v0,v1,ds,_,sb,RC,_,_,al,_⟩=>⟨AI.of (sb _ _ (sa _ _ (Ub _ _ J1))),RC,al⟩) ?_ ?_
   ·rintro D2 j Aw H3 acc x' B Jr ex ⟨v0,v1,ds,rfl,sb,RC,ea,dl,al,dm⟩ hB;obtain ⟨u,t,eu,rfl,ht⟩:=CO hd2 ex;have um:=YN eu;have ux:u.1 ∈ xs:=cw.ok2.sub u um;have ub:=cw.ok2.lo u um;have sab:=sa.trans sb;have hA3:=sab _ _ hA;refine ⟨t,_,rfl,AI.of (sab _ _ (Ub _ _ ht)),rfl,_,_,rfl,_,_,rfl,rfl,?_⟩;refine ⟨_,rfl,_,rfl,o,rfl,⟨_,AI.of (sab _ _ Ws)⟩,?_⟩;refine Bx BD (xs:=ss.map V.str) (fun D3 q Kv H4 GU=>∃ (w0:Option V) (ns:List Int),Kv=[w0,some (.str u.1),some (.ref AW)]/\Av H3 H4/\H4 D3=some (.lst GU)/\GU=ns.map V.int/\ns.length=q/\GU.length=q/\∀ (a:Nat) n' s,ns[a]? = some n'->ss[a]? = some s->VE ws s u.1 n')
     (by rw [YI]; lia) (fun D3 EC=>⟨_,[],rfl,Ad EC,Ab,rfl,rfl,rfl,fun a n' s e=>by simp at e⟩)
     (fun D3 q Kv H4 GU EC ⟨w0,ns,_,sc,IS,_,_,TH,_⟩=>⟨AI.of (sc _ _ (sab _ _ Ws)),IS,TH⟩) ?_ ?_
    ·rintro D3 q Kv H4 GU x3 B3 EC RL ⟨w0,ns,rfl,sc,IS,Ur,nl,TH,nm⟩ Y1;obtain ⟨s,ey,rfl⟩:∃ s,ss[q]? = some s/\x3=.str s:=by
      rw [YS] at RL;cases z:ss[q]? with
      | none=>rw [z] at RL; cases RL
      | some y=>rw [z] at RL; exact ⟨y,rfl,(Zf.inj RL).symm⟩
     have hs:=YN ey;obtain ⟨⟨s',vB⟩,hm,Tw⟩:=YT.mp (show s ∈ nv.map (·.1) by rw [nk]; exact ssub s hs);have Tw:s'=s:=Tw;subst Tw;obtain ⟨Bf,nb,rfl,hBf,nbk,nbv⟩:=nf _ _ hm;obtain ⟨⟨y',vy⟩,hmy,Y7⟩:=YT.mp (show u.1 ∈ nb.map (·.1) by rw [nbk]; exact ux);have Y7:y'=u.1:=Y7;subst Y7;obtain ⟨nn,rfl,dst⟩:=nbv _ _ hmy;have nbnd:(nb.map (·.1)).Nodup:=by rw [nbk]; exact cw.map.at'.nd
     have dg1:BK H4 AW (.str s') (some (.ref Bf)):=.inl ⟨_,Sum.inr s',.inl (sc _ _ hA3),rfl,(CD nnd hm).symm⟩;have dg2:BK H4 Bf (.str u.1) (some (.int nn)):=.inl ⟨_,Sum.inr u.1,.inl (sc _ _ (sab _ _ hBf)),rfl,(CD nbnd hmy).symm⟩;refine ⟨_,rfl,_,rfl,AW,.ref Bf,rfl,dg1,_,rfl,Bf,.int nn,rfl,dg2,?_⟩;refine Y1 _ _ _ IS ⟨_,ns ++ [nn],rfl,fun b o' z=>by rw [Ae (Ag z EC)]; exact sc _ _ z,Ab,by rw [Ur,YY]; rfl,by rw [YR,nl]; rfl,by rw [YR,TH]; rfl,fun a n' s e1 e2=>?_⟩;by_cases ha:a < ns.length
     ·rw [Zs ha] at e1;exact nm a n' s e1 e2
     ·have Yo:=(YQ.mp e1).1;rw [YR,ZC] at Yo;have hqa:a=q:=by lia
      subst hqa;rw [Zr (by lia),show a - ns.length=0 by lia,Z9] at e1;cases e1
      rw [ey] at e2;cases e2
      exact dst
    ·rintro D3 Kv H4 GU EC ⟨w0,ns,rfl,sc,IS,Ur,nl,TH,nm⟩;rw [YI] at nl;have nne:ns ≠ []:=fun z=>by rw [z] at nl; exact sne (ZF.mp nl.symm)
     refine ⟨D3,ns,rfl,by rw [IS,Ur],nne,fun mn hmn hle=>?_⟩;have md:Md ws ss u.1 mn:=by
      obtain ⟨a,ha⟩:=ZY hmn;have ha':=(YQ.mp ha).1;have Lp:ss[a]? = some (ss[a]'(by lia)):=YJ _;refine ⟨⟨_,YN Lp,(nm a _ _ ha Lp).1⟩,fun s hs mm g=>?_⟩;obtain ⟨b,hb⟩:=ZY hs;have Fu:=(YQ.mp hb).1;have en:ns[b]? = some (ns[b]'(by lia)):=YJ _;have z1:=hle _ (YN en);have z2:=(nm b _ _ en hb).2 mm g;lia
     have bd:0<=mn/\mn < 2 ^ 300:=by
      obtain ⟨a,ha⟩:=ZY hmn;have ha':=(YQ.mp ha).1;have Lp:ss[a]? = some (ss[a]'(by lia)):=YJ _;exact cw.map.bound cw.n1 cw.n30 (sx _ (YN Lp)) ux (nm a _ _ ha Lp)
     refine ⟨_,_,rfl,rfl,⟨⟨by lia,by lia⟩,⟨by lia,by lia⟩⟩,?_⟩;have Y0:=sc _ _ RC;refine hB _ _ _ Y0 ⟨_,_,ds ++ [mn],rfl,fun b o' z=>by rw [Ae (Ag z Jr)]; exact sc _ _ (sb _ _ z),Ab,?_,by rw [YR,dl]; rfl,by rw [YR,al]; rfl,fun q r d e1 e2=>?_⟩
     ·rw [Ls (a:=u) (by rw [dl]; exact eu),YY,YY,ea];rfl
     ·by_cases ha:q < ds.length
      ·rw [Zs ha] at e2;exact dm q r d e1 e2
      ·have Yo:=(YQ.mp e2).1;rw [YR,ZC] at Yo;have hqa:q=j:=by lia
       subst hqa;rw [Zr (by lia),show q - ds.length=0 by lia,Z9] at e2;cases e2
       rw [eu] at e1;cases e1
       exact md
   ·rintro D2 Aw H3 acc Jr ⟨v0,v1,ds,rfl,sb,RC,ea,dl,al,dm⟩;have sab:=sa.trans sb;have wd:Ks ws ss Au ds:=⟨by lia,dm⟩
    refine ⟨_,rfl,o,rfl,⟨_,AI.of (sab _ _ Ws)⟩,?_⟩;refine Bx BD (xs:=ss.map V.str) (fun D3 q Kv H4 GU=>∃ w0:Option V,Kv=[w0,some (.ref CH)]/\Av H3 H4/\H4 D3=some (.lst GU)/\GU=((ss.take q).map (Ba rs1)).map V.int/\GU.length=q)
     (by rw [YI]; lia) (fun D3 EC=>⟨_,rfl,Ad EC,Ab,rfl,rfl⟩)
     (fun D3 q Kv H4 GU EC ⟨w0,_,sc,IS,_,TH⟩=>⟨AI.of (sc _ _ (sab _ _ Ws)),IS,TH⟩) ?_ ?_
    ·rintro D3 q Kv H4 GU x3 B3 EC RL ⟨w0,rfl,sc,IS,Ur,TH⟩ Y1;obtain ⟨s,ey,rfl⟩:∃ s,ss[q]? = some s/\x3=.str s:=by
      rw [YS] at RL;cases z:ss[q]? with
      | none=>rw [z] at RL; cases RL
      | some y=>rw [z] at RL; exact ⟨y,rfl,(Zf.inj RL).symm⟩
     obtain ⟨r,Lm,rfl⟩:=YT.mp (ssub s (YN ey));have hm:(r.1,V.int r.2) ∈ BI rs1:=by unfold BI; exact YT.mpr ⟨r,Lm,rfl⟩
     have dg:BK H4 CH (.str r.1) (some (.int r.2)):=.inl ⟨_,Sum.inr r.1,.inl (sc _ _ (sab _ _ (s2 _ _ hCC))),rfl,(CD (by rw [C5]; exact cw.ok1.nd) hm).symm⟩;refine ⟨_,rfl,_,rfl,CH,.int r.2,rfl,dg,?_⟩;refine Y1 _ _ _ IS ⟨_,rfl,fun b o' z=>by rw [Ae (Ag z EC)]; exact sc _ _ z,Ab,?_,by rw [YR,TH]; rfl⟩;rw [Ur,Zk,ey,YY,YY];simp [Dt cw.ok1.nd Lm]
    ·rintro D3 Kv H4 GU EC ⟨w0,rfl,sc,IS,Ur,TH⟩;rw [YI,Zn] at Ur;have Yy:=sc _ _ (sb _ _ AE);have sall:=sab.trans sc;refine ⟨D3,_,rfl,AD.of (by rw [IS,Ur]),_,rfl,D2,_,rfl,AD.of (by rw [sc _ _ RC,ea]),_,_,rfl,rfl,_,rfl,_,rfl,D,_,rfl,Fh.t (k:=ss.map Sum.inr) Yy (by rw [NC]; exact sall _ _ Ws) ?_,?_⟩
     ·have:=congrArg ZW kk;rw [YI,YI,Zy] at this;lia
     have nin:ss.map Sum.inr ∉ kvs.map (·.1):=by
      rw [kk];intro hm;obtain ⟨s2,Wq,e2⟩:=YT.mp hm;have e2:=La e2;subst e2;obtain ⟨b,hb,eb⟩:=Zh Wq;rw [Zy] at hb;rw [aH] at eb;have Fu:b < os.length:=by lia
      have e5:os[b]=os[i]:=eb.trans (Zf.inj ((YJ hi).symm.trans es)).symm;have:=(bN (i:=b) (j:=i) (h₀:=Fu) (h₁:=hi) ond).mp e5;lia
     rw [Ik _ (Ly nin)];refine hN _ _ ⟨_,_,kvs ++ [(ss.map Sum.inr,_)],rfl,fun b o' z=>by rw [Ae (Ag z hD)]; exact sall _ _ z,Ab,?_,fun s2 v2 hm=>?_⟩
     ·rw [YY,kk,Zk,es,YY];rfl
     ·rcases Zl.mp hm with hm | hm
      ·exact kt s2 v2 hm
      ·simp only [Zc,Prod.mk.injEq] at hm;obtain ⟨e1,rfl⟩:=hm;have e1:=La e1;subst e1;exact ⟨_,rfl,ds,wd,rfl⟩
  ·rintro σ H' ⟨v9,v10,kvs,rfl,sa,AE,kk,kt⟩;rw [hul,Zn] at kk;exact ⟨_,rfl,k H' D kvs (Ub.trans sa) fD AE kk kt⟩
theorem Jy (h_min:mg "min"=none) {fC fO:Addr} {fdC fdO:FuncData} (XC:Fn K mg "costs_of" C4 ["case","chosen"] fC fdC) (GC:A3 P w K mg base Bt 5 fC fdC ["case","chosen"] EW) (XO:Fn K mg "openings" DW ["case"] fO fdO) (GO:A3 P w K mg base Bt 2 fO fdO ["case"] K3) {f:Addr} {fd:FuncData} (F:DT K "plain_best" "plain_best" CW f fd):A3 P w K mg base Bt 6 f fd ["case"] NH:=by
 refine F.ok Fj (fun vs H Q E h=>?_) (fun cdv A outer s H vs Q E hr h=>?_)
 ·obtain ⟨c,m,n,xs,ws,rs1,Au,x,d,rfl,_⟩:=h;rfl
 ·obtain ⟨c,m,n,xs,ws,rs1,Au,x,d,rfl,cw,s6,k⟩:=h;have nd:=Fj.nd;have hu:=D7 hr;have EB:=hr.units;have big:100000 < sizeLine:=by decide
  refine ⟨_,(Af (Ar (i:=1) nd rfl (Or.inr rfl) (Aj GC (hr.mono (by decide)) (by rfl) XC.mg XC.F.kp XC.b .nil As (Aa (pv 0) (Aa (Aj GO (hr.mono (by decide)) (by rfl) XO.mg XO.F.kp XO.b .nil As (Aa (pv 0) Ac)) Ac))))
  (Ak (A4 (Al (Ht rfl EB) (by rfl) h_min PyProof.Rows.boot_min (Aa (Be (N:=["opening","costs"]) (σ0:=fun σ=>[none,some 1].map fun j=>j.bind fun j=>(σ[j]?).join) rfl (A6.caught (by rfl) (by decide +kernel) rfl (by decide +kernel) (by intro y hy; simp only [YM,YU,or_false] at hy; rcases hy with rfl <;> rfl)
   (by intro y hy e; simp only [YM,YU,or_false] at hy; rcases hy with rfl | rfl | rfl <;> first | exact ⟨_,rfl⟩ | cases e)) (fun σ _=>AH.of [none,some 1] rfl (by
   intro i j x h1 h2;match i,h1,h2 with
   | 0,_,h2=>cases h2
   | 1,h1,h2=>cases h1; cases h2; exact ⟨rfl,.inl rfl,.inl rfl⟩
   | n + 2,h1,_=>cases h1)) (NY (pv 1))
   (fun s2 H C fp=>⟨(Ai (i:=0) (show (["opening","costs"]:List Str).Nodup by decide +kernel) rfl (Or.inl rfl)),AU,(Bh (Aa (AG hu (pv 1) (pv 0) (fun _ _=>rfl)) (Aa (pv 0) Ac)))⟩)) Ac))))),?_⟩
  refine ⟨_,rfl,_,rfl,c,rs1.map (·.1),x,d,rfl,cw.sites,by rw [YI]; exact s6,fun H1 D us os s1 fD hD tU op ol=>?_⟩;have sne:rs1.map (·.1) ≠ []:=by
   intro z;have:=cw.ok1.one;rw [cP] at z;rw [z] at this;simp at this
  have one:=op.ne sne cw.lim;refine ⟨c,D,m,n,xs,ws,rs1,Au,x,d,us,os,rfl,cw.same s1,hD,tU,op.1,fun ss hs=>op.opn cw.ok1.nd hs,ol,fun H2 D2 kvs s2 Vm Jr kk kt=>?_⟩;obtain ⟨ks,Xa,ks2,ks3,ks4⟩:=Je kk kt;have knd:(kvs.map (·.1)).Nodup:=by
   rw [kk];exact ZS.mpr (op.1.imp fun {a b} ne e=>ne (La e))
  have kvl:kvs.length=os.length:=by
   have:=congrArg ZW kk;rw [YI,YI] at this;exact this
  refine ⟨_,rfl,D2,kvs,rfl,Jr,fun o ts H3 fz tl tk=>?_⟩;obtain ⟨fz1,rfl⟩:=fz;have fH:H D2=none:=by
   cases z:H D2 with
   | none=>rfl
   | some o'=>rw [s1 _ _ z] at Vm; cases Vm
  have s13:Av H (upd H2 D2 (.frz o (.dT kvs))):=fun b o' z=>by rw [Ae (Ag z fH)]; exact s2 _ _ (s1 _ _ z)
  have hfz:(upd H2 D2 (.frz o (.dT kvs))) D2=some (.frz o (.dT kvs)):=Ab;generalize upd H2 D2 (.frz o (.dT kvs))=H3 at s13 hfz tk;refine Bx HP (xs:=ts.map V.ref) (fun D3 j Aw H4 acc=>∃ v0:Option V,Aw=[v0,some (.ref D2)]/\Av H3 H4/\H4 D3=some (.lst acc)/\acc.length=j/\∀ (q:Nat) w kq,acc[q]? = some w->ks[q]? = some kq->RW H4 w kq)
   (by rw [YI]; lia) (fun D3 EC=>⟨_,rfl,Ad EC,Ab,rfl,fun q w kq e=>by simp at e⟩)
   (fun D3 j Aw H4 acc EC ⟨v0,_,sa,AE,al,_⟩=>⟨sa _ _ hfz,AE,al⟩) ?_ ?_
  ·rintro D3 j Aw H4 acc x' B EC ex ⟨v0,rfl,sa,AE,al,kh⟩ hB;obtain ⟨t,et,rfl⟩:∃ t,ts[j]? = some t/\x'=.ref t:=by
    rw [YS] at ex;cases z:ts[j]? with
    | none=>rw [z] at ex; cases ex
    | some y=>rw [z] at ex; exact ⟨y,rfl,(Zf.inj ex).symm⟩
   have hj:=(YQ.mp et).1;have ekq:ks[j]? = some (ks[j]'(by lia)):=YJ _;generalize ks[j]'(by lia)=kq at ekq;have ekv:=ks3 j kq ekq;have htt:=sa _ _ (tk j t _ et ekv);have Yf:H4 t=some (.tup (kq.2.map V.str)):=by rw [htt,NC]
   have dg:BK H4 D2 (.ref t) (some (.int kq.1)):=.inr ⟨kvs,kq.2.map Sum.inr,t,.inr ⟨o,sa _ _ hfz⟩,rfl,htt,(ET knd ekv).symm⟩;refine ⟨_,rfl,_,rfl,D2,.int kq.1,rfl,dg,_,rfl,(by show 2<=sizeLine; lia),fun T hT=>?_⟩;have sT:=Ad (o:=.tup [.int kq.1,.ref t]) hT;have hDT:=sT _ _ AE;have nT:T ≠ D3:=Bz Ab hDT (fun z=>by cases z);have keep:∀ b ys,H4 b=some (.tup ys)->(upd (upd H4 T (.tup [.int kq.1,.ref t])) D3 (.lst (acc ++ [.ref T]))) b=some (.tup ys):=fun b ys z=>by
    rw [Ae (Bz z AE (fun q=>by cases q))];exact sT _ _ z
   refine hB _ _ _ hDT ⟨_,rfl,fun b o' z=>by rw [Ae (Ag z EC)]; exact sT _ _ (sa _ _ z),Ab,by rw [YR,al]; rfl,fun q w kq' e1 e2=>?_⟩;by_cases hq:q < acc.length
   ·rw [Zs hq] at e1;exact (kh q w kq' e1 e2).same keep
   ·have hq2:=(YQ.mp e1).1;rw [YR,ZC] at hq2;have hqj:q=j:=by lia
    subst hqj;rw [Zr (by lia),show q - acc.length=0 by lia,Z9] at e1;cases e1
    rw [ekq] at e2;cases e2
    exact ⟨T,t,rfl,by rw [Ae nT]; exact Ab,keep _ _ Yf⟩
  ·rintro D3 Aw H4 acc EC ⟨v0,rfl,sa,AE,al,kh⟩;rw [YI] at al;have kne:ks ≠ []:=fun z=>by rw [z] at Xa; exact one Xa.symm
   refine ⟨D3,acc,ks,rfl,AE,by lia,kne,kh,fun v kq hk hv hmin=>?_⟩;refine k H4 v kq (s13.trans sa) hv ⟨?_,ks4 kq hk,fun ss t o' tt=>?_⟩
   ·exact (op.2.2 _).mp (by rw [<-Xa]; exact YT.mpr ⟨kq,hk,rfl⟩)
   ·have hm:=(op.2.2 ss).mpr o';rw [<-Xa] at hm;obtain ⟨k',Ln,rfl⟩:=YT.mp hm;rw [tt.uniq (ks4 k' Ln)];exact hmin k' Ln
end
section
variable {P:Program} {w:World} {K:YL} {mg:Str->Option Value} {base:Heap}
theorem LW (h_int:mg "int"=none) (h_len:mg "len"=none) (h_min:mg "min"=none) (h_tuple:mg "tuple"=none) {fT:Addr} {fdT:FuncData} (XT:Fn K mg "_law_take" AN ["_law_pen","_law_many"] fT fdT) (GT:A3 P w K mg base Bt 1 fT fdT ["_law_pen","_law_many"] (DV K)) {fN:Addr} {fdN:FuncData} (XN:Fn K mg "_law_names" Dz ["_law_pen","_law_many"] fN fdN) (GN:A3 P w K mg base Bt 2 fN fdN ["_law_pen","_law_many"] (LD K)) {fL:Addr} {fdL:FuncData} (XL:Fn K mg "_law_length" Cw ["_law_pen"] fL fdL) (GL:A3 P w K mg base Bt 2 fL fdL ["_law_pen"] (MG K)) {fS:Addr} {fdS:FuncData} (XS:Fn K mg "_law_some" DX ["_law_pen","_law_names_here","_law_many"] fS fdS) (GS:A3 P w K mg base Bt 2 fS fdS ["_law_pen","_law_names_here","_law_many"] (ND K)) {fM:Addr} {fdM:FuncData} (XM:Fn K mg "_law_map" C3 ["_law_pen","_law_names_here","_law_shape"] fM fdM) (GM:A3 P w K mg base Bt 3 fM fdM ["_law_pen","_law_names_here","_law_shape"] (Q9 K)) {f:Addr} {fd:FuncData} (F:DT K "_law_case" "_law_case" DY f fd):A3 P w K mg base Bt 4 f fd ["_law_pen","_law_shape"] (NG K):=by
 refine F.ok Hh (fun vs H Q E h=>?_) (fun cdv A outer s H vs Q E hr h=>?_)
 ·obtain ⟨p,sh,rfl,_⟩:=h;rfl
 ·obtain ⟨p,sh,rfl,hP,WN,sh4,k⟩:=h;have nd:=Hh.nd;have big:100000 < sizeLine:=by decide
  refine ⟨_,(Af (Ar (i:=2) nd rfl (Or.inl rfl) (Aj GN (hr.mono (by decide)) (by rfl) XN.mg XN.F.kp XN.b .nil As (Aa (pv 0) (Aa (Ay Bc Ah (Aj GT (hr.mono (by decide)) (by rfl) XT.mg XT.F.kp XT.b .nil As (Aa (pv 0) (Aa Ah Ac)))) Ac))))
  (Af (Ar (i:=3) nd rfl (Or.inl rfl) (Aj GM (hr.mono (by decide)) (by rfl) XM.mg XM.F.kp XM.b .nil As (Aa (pv 0) (Aa (pv 2) (Aa (pv 1) Ac)))))
  (Af (Ar (i:=4) nd rfl (Or.inl rfl) (Aj GT (hr.mono (by decide)) (by rfl) XT.mg XT.F.kp XT.b .nil As (Aa (pv 0) (Aa Ah Ac))))
  (Af (Ar (i:=5) nd rfl (Or.inl rfl) (Bq Ac))
  (Af (BL PassesOwn.never rfl (BM K rfl (Aj GS (hr.mono (by decide)) (by rfl) XS.mg XS.F.kp XS.b .nil As (Aa (pv 0) (Aa (pv 2) (Aa (Ay Bc Ah (Aj GT (hr.mono (by decide)) (by rfl) XT.mg XT.F.kp XT.b .nil As (Aa (pv 0) (Aa (Al (GP rfl) (by rfl) h_min PyProof.Rows.boot_min (Aa Ah (Aa (Al (Ax K rfl) (by rfl) h_len PySem.boot_len (Aa (pv 2) Ac)) Ac))) Ac)))) Ac))))) (Ai (i:=6) nd rfl (Or.inl rfl))
  (Ak (FT (Ir PySem.F.plainAttrs_list PySem.F.slot_list_append PySem.F.type_list_append Cu (pv 5) (Aa (Bh (Aa (pv 6) (Aa (AJ (AF K rfl) (Bq (Aa Ah (Aa (Aj GT (hr.mono (by decide)) (by rfl) XT.mg XT.F.kp XT.b .nil As (Aa (pv 0) (Aa Ah Ac))) (Aa (Aj GT (hr.mono (by decide)) (by rfl) XT.mg XT.F.kp XT.b .nil As (Aa (pv 0) (Aa Ah Ac))) (Aa (Ay Iw (Aj GL (hr.mono (by decide)) (by rfl) XL.mg XL.F.kp XL.b .nil As (Aa (pv 0) Ac)) Ah) Ac))))) (pv 4) (fun _ _=>rfl)) Ac))) Ac)))))
  (Af (Ar (i:=7) nd rfl (Or.inl rfl) (Bq Ac))
  (Af (BL PassesOwn.never rfl (BM K rfl (Aj GS (hr.mono (by decide)) (by rfl) XS.mg XS.F.kp XS.b .nil As (Aa (pv 0) (Aa (pv 2) (Aa (Ay Bc Ah (Aj GT (hr.mono (by decide)) (by rfl) XT.mg XT.F.kp XT.b .nil As (Aa (pv 0) (Aa (Al (GP rfl) (by rfl) h_min PyProof.Rows.boot_min (Aa Ah (Aa (Al (Ax K rfl) (by rfl) h_len PySem.boot_len (Aa (pv 2) Ac)) Ac))) Ac)))) Ac))))) (Ai (i:=6) nd rfl (Or.inl rfl))
  (Ak (FT (Ir PySem.F.plainAttrs_list PySem.F.slot_list_append PySem.F.type_list_append Cu (pv 7) (Aa (Bh (Aa (pv 6) (Aa (AJ (AF K rfl) (Bq (Aa (Ay Bc Ah (Aj GT (hr.mono (by decide)) (by rfl) XT.mg XT.F.kp XT.b .nil As (Aa (pv 0) (Aa Ah Ac)))) (Aa (Aj GL (hr.mono (by decide)) (by rfl) XL.mg XL.F.kp XL.b .nil As (Aa (pv 0) Ac)) Ac))) (A9 GQ (by rfl) h_int PyProof.Rows.boot_int (Aa (Fb Oc (Aj GT (hr.mono (by decide)) (by rfl) XT.mg XT.F.kp XT.b .nil As (Aa (pv 0) (Aa Ah Ac))) Ah (Bi _)) Ac)) (fun _ _=>rfl)) Ac))) Ac)))))
  (Af (Ar (i:=8) nd rfl (Or.inl rfl) (AJ (AF K rfl) (Bq (Aa KI (Aa (Ay Bc Ah (Aj GT (hr.mono (by decide)) (by rfl) XT.mg XT.F.kp XT.b .nil As (Aa (pv 0) (Aa (Al (Ax K rfl) (by rfl) h_len PySem.boot_len (Aa (pv 5) Ac)) Ac)))) (Aa (Ay Bc Ah (Aj GT (hr.mono (by decide)) (by rfl) XT.mg XT.F.kp XT.b .nil As (Aa (pv 0) (Aa Ah Ac)))) Ac)))) (Aj GT (hr.mono (by decide)) (by rfl) XT.mg XT.F.kp XT.b .nil As (Aa (pv 0) (Aa Ah Ac))) (fun _ _=>rfl)))
  (Ak (A4 (Bh (Aa (pv 3) (Aa (A9 (AS K rfl) (by rfl) h_tuple PyProof.Rows.boot_tuple (Aa (pv 5) Ac)) (Aa (A9 (AS K rfl) (by rfl) h_tuple PyProof.Rows.boot_tuple (Aa (pv 7) Ac)) (Aa (pv 8) Ac))))))))))))))),?_⟩
  have t30:(100:Int) < 10 ^ 30:=by decide
  refine ⟨_,rfl,_,rfl,p,9,rfl,hP,by decide,by decide,fun d1 H1 P1 k1 d10 d11=>⟨_,_,rfl,rfl,?_⟩⟩;obtain ⟨n1,rfl⟩:∃ n:Nat,d1=n:=⟨d1.toNat,by lia⟩
  refine ⟨p,1 + n1,rfl,P1,by lia,fun H2 D xs P2 k2 fD hD xl xnd xnm=>?_⟩;have nD:D ≠ p:=P1.ne fD;refine ⟨_,rfl,_,rfl,_,rfl,p,D,xs,sh,rfl,P2,hD,nD,xnd,xnm,by lia,by lia,WN,sh4,fun H3 m ps ws P3 k3 pp mw=>?_⟩;have EC:=k3 _ _ nD hD;have q3:=(k1.trans k2).trans k3;refine ⟨_,rfl,p,4,rfl,P3,by decide,by decide,fun wy H4 P4 k4 wy0 wy4=>?_⟩;have q4:=q3.trans k4;have mw4:=mw.keepT (GY P3 k4);have Nf:=k4 _ _ nD EC;clear mw EC hD k1 k2 k3 k4 q3 P1 P2 P3 fD;refine ⟨(by show 0<=sizeLine; lia),fun R hR=>?_⟩;have nR:R ≠ p:=P4.ne hR;have nRD:R ≠ D:=fun z=>by rw [z,Nf] at hR; cases hR
  have s5:=Ad (o:=.lst []) hR;have P5:=P4.same s5;have XJ:=mw4.keepT (fun b ys z=>s5 _ _ z);have Mj:=s5 _ _ Nf;have Xe:(upd H4 R (.lst [])) R=some (.lst []):=Ab;have q5:AX p H (upd H4 R (.lst [])):=q4.trans (AX.of_same s5);have frR:H R=none:=by
   cases z:H R with
   | none=>rfl
   | some o=>rw [q4 _ _ nR z] at hR; cases hR
  generalize upd H4 R (.lst [])=H5 at P5 XJ Mj Xe q5;clear mw4 Nf hR s5 P4 q4;have lx:((xs.map V.str).length:Int)=1 + (n1:Int):=by rw [YI,xl]; lia
  refine ⟨_,rfl,_,rfl,_,rfl,_,rfl,D,_,rfl,.inl (AD.of Mj),_,_,rfl,p,_,rfl,P5,by rw [lx]; split <;> lia,by rw [lx]; split <;> lia,fun d2 H6 P6 k6 d20 Xo=>⟨_,_,rfl,rfl,?_⟩⟩;rw [lx] at Xo;obtain ⟨n2,rfl⟩:∃ n:Nat,d2=n:=⟨d2.toNat,by lia⟩
  have n2b:1 + n2<=xs.length/\n2 < 6:=by
   rw [xl];split at Xo <;> lia
  refine ⟨p,D,xs,1 + n2,rfl,P6,k6 _ _ nD Mj,nD,by lia,n2b.1,fun H7 D1 ys zs P7 k7 Xh Uq pm yl so=>⟨D1,rfl,⟨_,AD.of Uq⟩,?_⟩⟩;have Wg:=k6.trans k7;have mw7:=XJ.keepT (GY P5 Wg);have Sk:=Wg _ _ nD Mj;have Yu:=Wg _ _ nR Xe;have q7:=q5.trans Wg;have nD1:D1 ≠ p:=P6.ne Xh;have nDR:D1 ≠ R:=fun z=>by rw [z,k6 _ _ nR Xe] at Xh; cases Xh
  clear XJ Mj Xe q5 k6 k7 Wg P5 P6 Xh;refine Gg (xs:=ys.map V.str) (fun i σ H'=>∃ (v6:Option V) (rs:List BS) (vs:List V),σ=[some (.ref p),some (.int sh),some (.ref D),some (.ref m),some (.int wy),some (.ref R),v6,none,none]/\R5 K H7 H' p R rs vs/\rs.map (·.1)=ys.take i/\vs.length=i/\∀ r ∈ rs,0<=r.2/\r.2 < 10 ^ 30)
   ⟨_,[],[],rfl,⟨P7,fun b o _ _ z=>z,Yu,.nil,nR⟩,rfl,rfl,fun r hr=>nomatch hr⟩ (fun i σ H' _ ⟨_,_,_,_,r5,_⟩=>AD.of (r5.kp _ _ nD1 nDR Uq)) ?_ ?_
  ·rintro i v σ H' hv ⟨v6,rs,vs,rfl,r5,rt,vl,rl⟩;obtain ⟨y,ey,rfl⟩:∃ y,ys[i]? = some y/\v=.str y:=by
    rw [YS] at hv;cases ex:ys[i]? with
    | none=>rw [ex] at hv; cases hv
    | some x=>rw [ex] at hv; exact ⟨x,rfl,(Zf.inj hv).symm⟩
   have ii:=(YQ.mp ey).1;refine ⟨_,rfl,.inl ⟨rfl,_,AD.of r5.hR⟩,_,rfl,_,rfl,p,5,rfl,r5.pn,by decide,by decide,fun e1 Ha Pa ka Xm e11=>?_⟩;refine ⟨_,rfl,p,40,rfl,Pa,by decide,by decide,fun e2 Hb Pb kb e20 e21=>?_⟩;refine ⟨_,rfl,p,rfl,Pb,fun le Hc Pc kc le1 We=>⟨_,_,rfl,rfl,(by show 4<=sizeLine; lia),fun T hT=>?_⟩⟩;have rc:=r5.step Pc ((ka.trans kb).trans kc);obtain ⟨a,ha,a0,a30⟩:∃ a:Int,JA [V.int 0,V.int e1,V.int e2,V.int (le - 1)] wy=some (.int a)/\0<=a/\a < 10 ^ 30:=by
    have c:wy=0\/wy=1\/wy=2\/wy=3:=by lia
    rcases c with rfl | rfl | rfl | rfl
    ·exact ⟨0,rfl,by lia,by lia⟩
    ·exact ⟨e1,rfl,by lia,by lia⟩
    ·exact ⟨e2,rfl,by lia,by lia⟩
    ·exact ⟨le - 1,rfl,by lia,by lia⟩
   have rd:=rc.add hT (.lst [.int 0,.int e1,.int e2,.int (le - 1)]);refine ⟨_,rfl,T,_,_,_,rfl,rfl,AD.of Ab,ha,(by show 2<=sizeLine; lia),fun T2 Ou=>?_⟩;have re:=rd.add Ou (.tup [.str y,.int a]);refine ⟨R,_,_,rfl,rfl,re.hR,by lia,?_⟩;refine ⟨_,rs ++ [(y,a)],_,rfl,re.app Ab,by rw [YY,rt,Zk,ey]; rfl,by rw [YR,vl]; rfl,fun r hr=>?_⟩;rcases Zl.mp hr with hr | hr
   ·exact rl r hr
   ·rw [Zc.mp hr]; exact ⟨a0,a30⟩
  rintro σ H8 ⟨v6,rs1,Xr,rfl,r8,WT,vl1,rl1⟩;rw [YI,Zn] at WT;rw [YI] at vl1;have rs1l:rs1.length=ys.length:=by rw [<-WT,YI]
  have WJ:∀ b xs,H7 b=some (.tup xs)->H8 b=some (.tup xs):=fun b xs z=>r8.kp b _ (by obtain ⟨_,_,_,_,y,_⟩:=P7; exact Bz z y (fun q=>by cases q)) (Bz z Yu (fun q=>by cases q)) z
  have mw8:=mw7.keepT WJ;have VA:=r8.kp _ _ nD nRD.symm Sk;have q8:AX p H H8:=fun b o hb z=>r8.kp b o hb (Ag z frR) (q7 b o hb z)
  have P8:=r8.pn;have Yt:=r8.hR;have dd8:=r8.dd;have ok1:GV ps 0 rs1:=FR pm xnd WT rl1 (by lia) pp;clear r8 mw7 Sk Yu WJ Uq nDR nD1 q7 P7;refine ⟨(by show 0<=sizeLine; lia),fun R2 Tr=>?_⟩;have VY:R2 ≠ p:=P8.ne Tr;have nR2D:R2 ≠ D:=fun z=>by rw [z,VA] at Tr; cases Tr
  have nRR:R ≠ R2:=fun z=>by rw [<-z,Yt] at Tr; cases Tr
  have s9:=Ad (o:=.lst []) Tr;have P9:=P8.same s9;have XI:=mw8.keepT (fun b ys z=>s9 _ _ z);have Xf:=s9 _ _ VA;have Ys:=s9 _ _ Yt;have YA:=Cf dd8 (fun b ys z=>s9 _ _ z);have Tq:(upd H8 R2 (.lst [])) R2=some (.lst []):=Ab;have q9:AX p H (upd H8 R2 (.lst [])):=q8.trans (AX.of_same s9);have Y2:H R2=none:=by
   cases z:H R2 with
   | none=>rfl
   | some o=>rw [q8 _ _ VY z] at Tr; cases Tr
  generalize upd H8 R2 (.lst [])=H9 at P9 XI Xf Ys YA Tq q9;clear mw8 VA Yt dd8 q8 P8 s9 Tr;refine ⟨_,rfl,_,rfl,_,rfl,_,rfl,D,_,rfl,.inl (AD.of Xf),_,_,rfl,p,_,rfl,P9,by rw [lx]; split <;> lia,by rw [lx]; split <;> lia,fun d3 M4 YF k10 d30 WE=>⟨_,_,rfl,rfl,?_⟩⟩;rw [lx] at WE;obtain ⟨n3,rfl⟩:∃ n:Nat,d3=n:=⟨d3.toNat,by lia⟩
  have n3b:1 + n3<=xs.length/\n3 < 8:=by
   rw [xl];split at WE <;> lia
  refine ⟨p,D,xs,1 + n3,rfl,YF,k10 _ _ nD Xf,nD,by lia,n3b.1,fun Ss D2 VF Xq YE k11 Vm Jr WU yl2 so2=>⟨D2,rfl,⟨_,AD.of Jr⟩,?_⟩⟩;have PH:=k10.trans k11;have Wc:=XI.keepT (GY P9 PH);have W5:=PH _ _ nR Ys;have WD:=Cf YA (GY P9 PH);have RB:=PH _ _ VY Tq;have q11:=q9.trans PH;have nD2:D2 ≠ p:=YF.ne Vm;have VZ:D2 ≠ R2:=fun z=>by rw [z,k10 _ _ VY Tq] at Vm; cases Vm
  clear XI Xf Ys YA Tq q9 P9 YF k10 k11 PH Vm;refine Gg (xs:=VF.map V.str) (fun i σ H'=>∃ (v6:Option V) (rs:List BS) (vs:List V),σ=[some (.ref p),some (.int sh),some (.ref D),some (.ref m),some (.int wy),some (.ref R),v6,some (.ref R2),none]/\R5 K Ss H' p R2 rs vs/\rs.map (·.1)=VF.take i/\vs.length=i/\∀ r ∈ rs,1<=r.2/\r.2 < 10 ^ 30)
   ⟨_,[],[],rfl,⟨YE,fun b o _ _ z=>z,RB,.nil,VY⟩,rfl,rfl,fun r hr=>nomatch hr⟩ (fun i σ H' _ ⟨_,_,_,_,r5,_⟩=>AD.of (r5.kp _ _ nD2 VZ Jr)) ?_ ?_
  ·rintro i v σ H' hv ⟨v6,rs,vs,rfl,r5,rt,vl,rl⟩;obtain ⟨y,ey,rfl⟩:∃ y,VF[i]? = some y/\v=.str y:=by
    rw [YS] at hv;cases ex:VF[i]? with
    | none=>rw [ex] at hv; cases hv
    | some x=>rw [ex] at hv; exact ⟨x,rfl,(Zf.inj hv).symm⟩
   have ii:=(YQ.mp ey).1;refine ⟨_,rfl,.inl ⟨rfl,_,AD.of r5.hR⟩,_,rfl,_,rfl,p,4,rfl,r5.pn,by decide,by decide,fun e1 Ha Pa ka Xm e11=>⟨_,_,rfl,rfl,?_⟩⟩;refine ⟨_,rfl,p,rfl,Pa,fun le Hc Pc kc le1 We=>⟨(by show 2<=sizeLine; lia),fun T hT=>?_⟩⟩;have rd:=(r5.step Pc (ka.trans kc)).add hT (.lst [.int (1 + e1),.int le]);have nT:T ≠ p:=Pc.ne hT;have Nd:(upd Hc T (.lst [.int (1 + e1),.int le])) T=some (.lst [.int (1 + e1),.int le]):=Ab;generalize upd Hc T (.lst [.int (1 + e1),.int le])=Hd at rd Nd;refine ⟨_,rfl,p,5,rfl,rd.pn,by decide,by decide,fun e3 He Pe ke e30 e31=>⟨rfl,.inr ⟨_,rfl,?_⟩⟩⟩;have re:=rd.step Pe ke;have hTe:=ke _ _ nT Nd;obtain ⟨a,ha,a0,a30⟩:∃ a:Int,JA [V.int (1 + e1),V.int le] (if decide (V.int e3=V.int 0)=true then 1 else 0)=some (.int a)/\1<=a/\a < 10 ^ 30:=by
    split
    ·exact ⟨le,rfl,le1,We⟩
    ·exact ⟨1 + e1,rfl,by lia,by lia⟩
   refine ⟨T,_,_,_,rfl,rfl,AD.of hTe,ha,(by show 2<=sizeLine; lia),fun T2 Ou=>?_⟩;have rf:=re.add Ou (.tup [.str y,.int a]);refine ⟨R2,_,_,rfl,rfl,rf.hR,by lia,?_⟩;refine ⟨_,rs ++ [(y,a)],_,rfl,rf.app Ab,by rw [YY,rt,Zk,ey]; rfl,by rw [YR,vl]; rfl,fun r hr=>?_⟩;rcases Zl.mp hr with hr | hr
   ·exact rl r hr
   ·rw [Zc.mp hr]; exact ⟨a0,a30⟩
  rintro σ H12 ⟨v6',Au,WI,rfl,UI,VS,vl2,rl2⟩;rw [YI,Zn] at VS;rw [YI] at vl2;have rs2l:Au.length=VF.length:=by rw [<-VS,YI]
  have U5:∀ b xs,Ss b=some (.tup xs)->H12 b=some (.tup xs):=fun b xs z=>UI.kp b _ (by obtain ⟨_,_,_,_,y,_⟩:=YE; exact Bz z y (fun q=>by cases q)) (Bz z RB (fun q=>by cases q)) z
  have XQ:=Wc.keepT U5;have W4:=UI.kp _ _ nR nRR W5;have YB:=Cf WD U5;have q12:AX p H H12:=fun b o hb z=>UI.kp b o hb (Ag z Y2) (q11 b o hb z)
  have P12:=UI.pn;have W3:=UI.hR;have Y9:=UI.dd;have ok2:GV ps 1 Au:=FR WU xnd VS rl2 (by lia) pp;clear UI Wc W5 WD RB q11 YE U5 Jr nD2 VZ;refine ⟨_,rfl,_,rfl,R,_,rfl,.inl (AD.of W4),p,_,rfl,P12,by lia,by lia,fun f1 H13 P13 k13 Y6 f11=>⟨_,_,rfl,rfl,?_⟩⟩;refine ⟨_,rfl,p,12,rfl,P13,by decide,by decide,fun f2 H14 P14 k14 f20 f21=>⟨_,_,rfl,rfl,(by show 3<=sizeLine; lia),fun T hT=>?_⟩⟩;have V4:=Ad (o:=.lst [.non,.int (1 + f1),.int (1 + f2)]) hT;have P15:=P14.same V4;have nT:T ≠ p:=P14.ne hT;have Nd:(upd H14 T (.lst [.non,.int (1 + f1),.int (1 + f2)])) T=some (.lst [.non,.int (1 + f1),.int (1 + f2)]):=Ab;have k15:=(k13.trans k14).trans (AX.of_same V4);generalize upd H14 T (.lst [.non,.int (1 + f1),.int (1 + f2)])=H15 at P15 Nd k15;refine ⟨_,rfl,p,3,rfl,P15,by decide,by decide,fun f3 H16 P16 k16 f30 f31=>?_⟩;obtain ⟨x,d,hx,lim⟩:∃ (x:V) (d:PyData),JA [V.non,V.int (1 + f1),V.int (1 + f2)] f3=some x/\Lim x d:=by
   have c:f3=0\/f3=1\/f3=2:=by lia
   rcases c with rfl | rfl | rfl
   ·exact ⟨_,_,rfl,.inl ⟨rfl,rfl⟩⟩
   ·exact ⟨_,_,rfl,.inr ⟨1 + f1,rfl,rfl,by lia,by lia⟩⟩
   ·exact ⟨_,_,rfl,.inr ⟨1 + f2,rfl,rfl,by lia,by lia⟩⟩
  refine ⟨T,_,_,x,rfl,rfl,AD.of (k16 _ _ nT Nd),hx,?_⟩;have kk:=k15.trans k16;have tt:=GY P12 kk;have q16:=q12.trans kk;refine ⟨_,rfl,_,rfl,R,_,rfl,.inl ⟨AD.of (kk _ _ nR W4),fun t1 HD=>?_⟩⟩;have s17:=Ad (o:=.tup Xr) HD;refine ⟨_,rfl,R2,_,rfl,.inl ⟨AD.of (s17 _ _ (kk _ _ VY W3)),fun t2 J1=>?_⟩⟩;have WS:=Ad (o:=.tup WI) J1;refine ⟨_,rfl,(by show 4<=sizeLine; lia),fun c hc=>?_⟩;have X0:=Ad (o:=.tup [.ref m,.ref t1,.ref t2,x]) hc;have sa:=s17.trans (WS.trans X0);refine k _ c m (1 + n1) ps ws rs1 Au x d (P16.same sa) (q16.trans (AX.of_same sa)) ⟨⟨⟨t1,t2,Xr,WI,Ab,X0 _ _ (WS _ _ Ab),Cf YB fun b ys z=>sa _ _ (tt _ _ z),X0 _ _ Ab,Cf Y9 fun b ys z=>sa _ _ (tt _ _ z)⟩,by rw [<-xl]; exact XQ.keepT fun b ys z=>sa _ _ (tt _ _ z),by lia,by lia,ok1,ok2,by lia,by lia,lim⟩,by lia,by lia,by lia,by rw [WT]; exact so,by rw [VS]; exact so2⟩
end
end K46
namespace L2
open PySem PySem.Spec PyProof.Rows
theorem HG {X:Cx} (hc:X.calm=true):Bd X (.builtin "sorted") (fun xs H Q=>∃ (d:Addr) (kvs:List (List A7 × V)) (kd:Nat->Bool),xs=[.ref d]/\H d=some (.dT kvs)/\(∀ p ∈ kvs,p.1 ≠ []/\∀ (i:Nat) k,p.1[i]? = some k->Mz (kd i) (kV k))/\kvs.length < 64 /\
  ∀ (l:Addr) (ts:List Addr) (ks:List (List A7)),H l=none->ks.Perm (kvs.map (·.1))->ts.length=ks.length->(∀ (i:Nat) t k,ts[i]? = some t->ks[i]? = some k->H t=some (.tup (k.map kV)))->Q (.ref l) (upd H l (.lst (ts.map V.ref)))):=by
 intro pins s σ H xs us Q I r h;obtain ⟨d,kvs,kd,rfl,hd,hk,Lc,q⟩:=h;obtain ⟨u,rfl,ru⟩:=BZ r;cases ru
 obtain ⟨z,y,xs,rel,o,es,ep,h1,h2,h3,h4,h5⟩:=(show A5 X.prog X.w H s.heap d (.dT kvs) from I.hok d _ hd)
 have rl:=Paired.length rel;have hlen:es.size=kvs.length:=by
  rw [<-Zv,h4,YI];exact rl.symm
 have sm:∀ {l:List (List A7 × V)} {m:List (List A7 × Addr × Value)},Paired (fun (p:List A7 × V) (q:List A7 × Addr × Value)=>p.1=q.1/\H q.2.1=some (.tup (p.1.map kV))/\A1 p.2 q.2.2) l m->l.map (·.1)=m.map (·.1)/\∀ q ∈ m,H q.2.1=some (.tup (q.1.map kV)):=by
  intro l m r;induction r with
  | nil=>exact ⟨rfl,fun q hq=>nomatch hq⟩
  | cons a b ih=>
   refine ⟨by rw [Zb,Zb,a.1,ih.1],fun q hq=>?_⟩;rcases YM.mp hq with rfl | hq
   ·rw [<-a.1]; exact a.2.1
   ·exact ih.2 q hq
 obtain ⟨keq,kat⟩:=sm rel;have vals:∀ l:List (List A7 × Addr × Value),A0 ((l.map (·.2.1)).map V.ref) (l.map fun q=>Value.ref q.2.1):=by
  intro l;induction l with
  | nil=>exact .nil
  | cons q l ih=>exact .cons rfl ih
 have tk:∀ v ∈ (xs.map (·.2.1)).map V.ref,Nn H kd v:=fun v hv=>by
  obtain ⟨t,ht,rfl⟩:=YT.mp hv;obtain ⟨q,hq,rfl⟩:=YT.mp ht;have hm:q.1 ∈ kvs.map (·.1):=by rw [keq]; exact aP hq
  obtain ⟨p,hp,e⟩:=YT.mp hm;obtain ⟨n1,n2⟩:=hk p hp;rw [e] at n1 n2;refine ⟨_,_,rfl,kat q hq,fun z=>n1 (cP.mp z),fun i y e=>?_⟩;rw [YS] at e;cases w:q.1[i]? with
  | none=>rw [w] at e; cases e
  | some k=>rw [w] at e; rw [<-Zf.inj e]; exact n2 i k w
 have tu:=N2 I (vals xs) tk;refine Calls.call_function_entry kind_sorted plain_sorted entry_sorted (args_sorted1 _) ?_;unfold Builtin.«sorted»;refine wpAny_bind (m:=checkCount "sorted" 1 1 _) (wpAny_pure ?_);refine wpAny_bind (PySem.W.kdu_collect (SH (es:=es) (ep:=ep) y) (I.ok.hd hc) ⟨o,h1,h2,h3⟩ (by rw [hlen]; exact z) fun h' tk acc Ln hacc=>?_);have key:∀ (i:Nat) v,acc.toList[i]? = some v->∃ q,xs[i]? = some q/\v=.ref q.2.1:=fun i v e=>by
  have e2:=hacc.2 i v (by rw [<-ZL]; exact e);dsimp only at e2;rw [<-ZL,h4,YS] at e2;cases z:xs[i]? with
  | none=>rw [z] at e2; cases e2
  | some q=>
   rw [z] at e2;exact ⟨q,rfl,(Zf.inj e2).symm⟩
 have al:acc.toList.length=xs.length:=by
  rw [Zv,hacc.1,<-Zv,h4,YI]
 have av:acc.toList=xs.map fun q=>Value.ref q.2.1:=by
  refine af (by rw [al,YI]) fun i i1 i2=>?_
  obtain ⟨q,e1,e2⟩:=key i _ (YJ i1);rw [ZJ];rw [YJ (by rw [<-al]; exact i1)] at e1;rw [e2,Zf.inj e1]
 have big:100000 < sizeLine:=by decide
 refine wpAny_bind (wpAny_newList ?_ (by rw [al]; lia));have hoL:(h'.push (seqObj "list" acc.toList.toArray 0)).get? h'.objs.size=some (seqObj "list" acc.toList.toArray 0):=YW _ rfl;have keep:∀ b o,s.heap.get? b=some o->(h'.push (seqObj "list" acc.toList.toArray 0)).get? b=some o:=fun b o q=>YK _ (Ln b o q)
 show wpAny _ _ _ _ _ { s with heap:=h'.push (seqObj "list" acc.toList.toArray 0),toks:=tk }
 refine wpAny_bind (wpAny_holding (wpAny_call_entry slot_list_sort ⟨_,hoL,rfl⟩ entry_list_sort (F4 (sw:=KW (CU s.heap)) (s:={ s with heap:=h'.push (seqObj "list" acc.toList.toArray 0),toks:=tk }) hoL (by rw [al]; lia) (by rw [al]; lia) ?_ fun out o1 _=>⟨_,rfl,wpAny_pure ⟨_,rfl,?_⟩⟩) (args_list_sort _)))
 ·intro z2 h'' kp;exact JJ (s:={ s with toks:=tk }) (by rw [av]; exact tu) z2 _ h'' fun b o e=>kp b o (YX (YV (Ln b o e))) (keep b o e)
 ·rw [av] at o1;obtain ⟨Qi,px,rfl⟩:=Hl _ o1.symm xs rfl;obtain ⟨e,he⟩:=sortedHeap_at (out:=(Qi.map fun q=>Value.ref q.2.1).toArray) hoL;have gone:s.heap.get? h'.objs.size=none:=by
   cases z:s.heap.get? h'.objs.size with
   | none=>rfl
   | some o=>exact absurd (YV (Ln _ _ z)) (Z5 _)
  have fl:H h'.objs.size=none:=by
   cases z:H h'.objs.size with
   | none=>rfl
   | some u=>
    obtain ⟨ob,e⟩:=A5.there (I.hok _ u z);rw [gone] at e;cases e
  obtain ⟨m,hlm⟩:=id I.loc;obtain ⟨oL,esL,epL,Wt,rL⟩:=id hlm.1;have old:∀ b o,s.heap.get? b=some o->(sortedHeap (h'.push (seqObj "list" acc.toList.toArray 0)) h'.objs.size acc.toList (Qi.map fun q=>Value.ref q.2.1).toArray).get? b=some o:=fun b o q=>by
   have q':=Ln b o q;have lt:=YV q';rw [sortedHeap_old (YX lt) (by rw [size_push']; exact Zq lt)];exact YK _ q'
  have pl:=px.length_eq;have I2:=I.laidF (D:=h'.objs.size) (o:=.lst ((Qi.map (·.2.1)).map V.ref)) hlm ⟨oL,esL,epL,old _ _ Wt,rL⟩ (fun b ob _ q=>old b ob q) gone (fun z=>by rw [z,Wt] at gone; cases gone)
   ⟨by rw [YI,YI,pl,<-rl]; exact z,_,e,vals Qi,he⟩
  refine ⟨.ref h'.objs.size,_,I2.kept (t':=tk) fun b u q=>q,rfl,q h'.objs.size (Qi.map (·.2.1)) (Qi.map (·.1)) fl ?_ (by rw [YI,YI]) fun i t k e1 e2=>?_⟩
  ·rw [keq]; exact px.map _
  ·rw [YS] at e1 e2;cases w:Qi[i]? with
   | none=>rw [w] at e1; cases e1
   | some q=>
    rw [w] at e1 e2;rw [<-Zf.inj e1,<-Zf.inj e2];exact kat q (px.mem_iff.mp (YN w))
end L2
namespace K46
open PySem L2
section
variable {P:Program} {w:World} {K:YL} {mg:Str->Option Value} {base:Heap}
theorem UX (h_sorted:mg "sorted"=none) (h_tuple:mg "tuple"=none) {f:Addr} {cdv:Value} {A:Around} {outer:List Env} {s:Shared} {H:Hp} {E:XK} (hr:En 2 (A.deeper (PyProof.Rows.envOfC "_law_map" (Am C3) s.heap.objs.size f cdv))) :
  ∃ tl,Mx (J5 Bt P w K mg base ["_law_pen","_law_names_here","_law_shape","_law_ways","_law_k","_law_other","_law_turn","_law_pair"] "_law_map" (Am C3) f cdv A outer s H E).nox ((Cp C3).drop 3) tl /\
   ∀ (W:Ex) (H0 H1:Hp) (p e D:Addr) (xs:List Str) (us:List AA) (v2 v4 v5 v6 v7:Option V),M5 K H0 H1 p e D xs us->Fw xs us->us.length<=31->(∀ u ∈ us,u.2.2 < 10 ^ 30)->xs.Nodup->(∀ x ∈ xs,AQ x=true)->xs.length<=26 ->
    (∀ (H':Hp) (m:Addr) (ps:List Str) (ws:List AA),Eo K H' p->AX p H0 H'->ps.Perm xs->HK H' m xs.length ps ws->W.rt (.ref m) H')->tl W [some (.ref p),some (.ref e),v2,some (.ref D),v4,v5,v6,v7] H1:=by
 have nd:=F0.nd;have hu:=D7 hr;have big:100000 < sizeLine:=by decide
 refine ⟨_,(Ak (A4 (Bh (Aa (A9 (AS K rfl) (by rfl) h_tuple PyProof.Rows.boot_tuple (Aa (Al BX (by rfl) h_sorted PyProof.Rows.boot_sorted (Aa (pv 1) Ac)) Ac)) (Aa (A9 (AS K rfl) (by rfl) h_tuple PyProof.Rows.boot_tuple (Aa (Be (N:=["_law_pair","_law_ways"]) (σ0:=fun σ=>[none,some 3].map fun j=>j.bind fun j=>(σ[j]?).join) rfl (A6.caught (by rfl) (by decide +kernel) rfl (by decide +kernel) (by intro y hy; simp only [YM,YU,or_false] at hy; rcases hy with rfl <;> rfl)
   (by intro y hy e; simp only [YM,YU,or_false] at hy; rcases hy with rfl | rfl | rfl <;> first | exact ⟨_,rfl⟩ | cases e)) (fun σ _=>AH.of [none,some 3] rfl (by
   intro i j x h1 h2;match i,h1,h2 with
   | 0,_,h2=>cases h2
   | 1,h1,h2=>cases h1; cases h2; exact ⟨rfl,.inl rfl,.inl rfl⟩
   | n + 2,h1,_=>cases h1)) (BM K rfl (Al (HG rfl) (by rfl) h_sorted PyProof.Rows.boot_sorted (Aa (pv 3) Ac)))
   (fun s2 H C fp=>⟨(Ai (i:=0) (show (["_law_pair","_law_ways"]:List Str).Nodup by decide +kernel) rfl (Or.inl rfl)),AU,(Ay (Rm K rfl) (pv 0) (Bh (Aa (AG hu (pv 1) (pv 0) (fun _ _=>rfl)) Ac)))⟩)) Ac)) Ac))))),?_⟩
 intro W H0 H1 p e D xs us v2 v4 v5 v6 v7 mi wc ul Se xnd xnm x26 k;refine ⟨_,rfl,e,xs,rfl,AD.of mi.he,by lia,fun l ps hl pm so=>⟨l,_,rfl,.inl ⟨AD.of Ab,fun T1 R9=>?_⟩⟩⟩;have m1:=(mi.add hl (.lst (ps.map V.str))).add R9 (.tup (ps.map V.str));have W0:(upd (upd H1 l (.lst (ps.map V.str))) T1 (.tup (ps.map V.str))) T1=some (.tup (ps.map V.str)):=Ab;generalize upd (upd H1 l (.lst (ps.map V.str))) T1 (.tup (ps.map V.str))=H2 at m1 W0;refine ⟨_,rfl,D,_,fun _=>true,rfl,m1.hw,fun q hq=>?_,by rw [YI]; lia,fun l2 ts ks Ql pk tl tt=>⟨l2,rfl,⟨_,AD.of Ab⟩,?_⟩⟩
 ·obtain ⟨u,_,rfl⟩:=YT.mp hq;refine ⟨(fun z=>by cases z),fun i y ey=>?_⟩;have hm:=YN ey;have Xd:y ∈ [Sum.inr (BP u.1 u.2.1),Sum.inr (BQ u.1 u.2.1)]:=hm;simp only [YM,YU,or_false] at Xd;rcases Xd with rfl | rfl
  ·exact ⟨_,rfl⟩
  ·exact ⟨_,rfl⟩
 have m2:=m1.add Ql (.lst (ts.map V.ref));have Wv:(upd H2 l2 (.lst (ts.map V.ref))) l2=some (.lst (ts.map V.ref)):=Ab;have s2:=Ad (o:=.lst (ts.map V.ref)) Ql;have Wz:=s2 _ _ W0;generalize upd H2 l2 (.lst (ts.map V.ref))=H3 at m2 Wv s2 Wz;rw [Zt] at pk;obtain ⟨Ky,pu,rfl⟩:=Hl _ pk.symm us rfl;have ulen:=pu.length_eq;rw [YI] at tl;refine Bx BV (xs:=ts.map V.ref) (fun B i σ H' acc=>∃ v0:Option V,σ=[v0,some (.ref D)]/\Av H3 H'/\H' B=some (.lst acc)/\acc.length=i/\AY H' acc (((Ky.take i).map E8).map Kx))
  (by rw [YI]; lia) (fun B hB=>⟨_,rfl,Ad hB,Ab,rfl,.nil⟩) (fun B i σ H' acc hB ⟨v0,_,kp,Ng,al,_⟩=>⟨AD.of (kp _ _ Wv),Ng,al⟩) ?_ ?_
 ·rintro B i σ H' acc x' Y hB ex ⟨v0,rfl,kp,Ng,al,dd⟩ hY;obtain ⟨t,et,rfl⟩:∃ t,ts[i]? = some t/\x'=.ref t:=by
   rw [YS] at ex;cases z:ts[i]? with
   | none=>rw [z] at ex; cases ex
   | some t=>rw [z] at ex; exact ⟨t,rfl,(Zf.inj ex).symm⟩
  have hi:i < Ky.length:=by rw [<-tl]; exact (YQ.mp et).1
  obtain ⟨u,eu⟩:∃ u,Ky[i]? = some u:=⟨_,YJ hi⟩
  have ht:H2 t=some (.tup [.str (BP u.1 u.2.1),.str (BQ u.1 u.2.1)]):=tt i t (DP u) et (by rw [YS,eu]; rfl);have ht':=kp _ _ (s2 _ _ ht);have um:u ∈ us:=pu.mem_iff.mp (YN eu);have dg:BK H' D (.ref t) (some (.int u.2.2)):=by
   rw [<-valW wc.2.1 um];exact BK.t (k:=DP u) (kp _ _ m2.hw) ht'
  refine ⟨_,rfl,_,rfl,_,rfl,D,_,rfl,dg,(by show 1<=sizeLine; lia),fun T2 Ou=>?_⟩;refine ⟨t,T2,_,_,rfl,rfl,AI.of (Ad Ou _ _ ht'),AI.of Ab,by simp,by show 2 + 1<=sizeLine; lia,(fun z=>by cases z),fun _ T hT=>?_⟩;have s4:=(Ad (o:=.tup [.int u.2.2]) Ou).trans (Ad (o:=.tup [.str (BP u.1 u.2.1),.str (BQ u.1 u.2.1),.int u.2.2]) hT);have Nd:(upd (upd H' T2 (.tup [.int u.2.2])) T (.tup [.str (BP u.1 u.2.1),.str (BQ u.1 u.2.1),.int u.2.2])) T=some (.tup [.str (BP u.1 u.2.1),.str (BQ u.1 u.2.1),.int u.2.2]):=Ab;show Y _ _ (upd (upd H' T2 (.tup [.int u.2.2])) T (.tup [.str (BP u.1 u.2.1),.str (BQ u.1 u.2.1),.int u.2.2]))
  generalize upd (upd H' T2 (.tup [.int u.2.2])) T (.tup [.str (BP u.1 u.2.1),.str (BQ u.1 u.2.1),.int u.2.2])=H5 at s4 Nd;have hB5:=s4 _ _ Ng;have nT:T ≠ B:=Bz Nd hB5 (fun z=>by cases z);refine hY _ _ _ hB5 ⟨_,rfl,fun b o z=>by rw [Ae (Ag z hB)]; exact s4 _ _ (kp _ _ z),Ab,by rw [YR,al]; rfl,?_⟩;rw [Zk,eu,Option.toList_some,YY,YY];refine Gi (Ez dd fun b ys z=>?_) (.cons (.tup (vs:=[.str (BP u.1 u.2.1),.str (BQ u.1 u.2.1),.int u.2.2]) (by rw [Ae nT]; exact Nd) ?_) .nil)
  ·rw [Ae (Bz z Ng (fun y=>by cases y))];exact s4 _ _ z
  ·exact .cons (.str _) (.cons (.str _) (.cons (.int _) .nil))
 ·rintro B σ H' acc hB ⟨v0,rfl,kp,Ng,al,dd⟩;rw [YI,tl,Zn] at dd;refine ⟨B,_,rfl,.inl ⟨AD.of Ng,fun T hT=>⟨(by show 2<=sizeLine; lia),fun m hm=>?_⟩⟩⟩;have s5:=(Ad (o:=.tup acc) hT).trans (Ad (o:=.tup [.ref T1,.ref T]) hm);have s6:=kp.trans s5;have m6:=m2.step (m2.pn.same s6) (AX.of_same s6);have pw:(Ky.map E8).Perm (us.map E8):=pu.map _;refine k _ m ps (Ky.map E8) m6.pn m6.kp pm ⟨⟨⟨T1,T,acc,Ab,s6 _ _ Wz,Ad hm _ _ Ab,Ez dd fun b ys z=>s5 _ _ z⟩,pm.length_eq,pm.nodup_iff.mpr xnd,fun x hx=>xnm x (pm.mem_iff.mp hx),by rw [YI]; lia,fun w hw=>?_⟩,⟨xs,us,pm,pw,wc⟩,so,by rw [YI]; lia⟩;have hn:=Ki pw (fun u hu=>⟨(wc.1 u hu).1,(wc.1 u hu).2.1⟩) w hw;obtain ⟨u,Ye,rfl⟩:=YT.mp hw;have um:=pu.mem_iff.mp Ye;exact ⟨xnm _ hn.1,xnm _ hn.2,(wc.1 u um).2.2.2,Se u um⟩
theorem MR (h_int:mg "int"=none) (h_len:mg "len"=none) (h_max:mg "max"=none) (h_range:mg "range"=none) (h_sorted:mg "sorted"=none) (h_tuple:mg "tuple"=none) {fT:Addr} {fdT:FuncData} (XT:Fn K mg "_law_take" AN ["_law_pen","_law_many"] fT fdT) (GT:A3 P w K mg base Bt 1 fT fdT ["_law_pen","_law_many"] (DV K)) {fL:Addr} {fdL:FuncData} (XL:Fn K mg "_law_length" Cw ["_law_pen"] fL fdL) (GL:A3 P w K mg base Bt 2 fL fdL ["_law_pen"] (MG K)) {f:Addr} {fd:FuncData} (F:DT K "_law_map" "_law_map" C3 f fd):A3 P w K mg base Bt 3 f fd ["_law_pen","_law_names_here","_law_shape"] (Q9 K):=by
 refine F.ok F0 (fun vs H Q E h=>?_) (fun cdv A outer s H vs Q E hr h=>?_)
 ·obtain ⟨p,e,xs,sh,rfl,_⟩:=h;rfl
 ·obtain ⟨p,e,xs,sh,rfl,P0,he,nep,xnd,xnm,x1,x26,WN,sh4,k⟩:=h;have nd:=F0.nd;have hu:=D7 hr;have big:100000 < sizeLine:=by decide
  obtain ⟨tE,hE,kE⟩:=UX (P:=P) (w:=w) (K:=K) (mg:=mg) (base:=base) h_sorted h_tuple (f:=f) (cdv:=cdv) (A:=A) (outer:=outer) (s:=s) (H:=H) (E:=E) hr;refine ⟨_,(Af (Ar (i:=3) nd rfl (Or.inr rfl) LP)
  (Af (BL PassesOwn.never rfl (Pm (by rfl) h_range (Aa Ah (Aa (Al (Ax K rfl) (by rfl) h_len PySem.boot_len (Aa (pv 1) Ac)) Ac))) (Ai (i:=4) nd rfl (Or.inl rfl))
  (Af (Ar (i:=5) nd rfl (Or.inl rfl) (AJ (AF K rfl) (Bq (Aa (Ay Iw (pv 4) Ah) (Aa (Aj GT (hr.mono (by decide)) (by rfl) XT.mg XT.F.kp XT.b .nil As (Aa (pv 0) (Aa (pv 4) Ac))) (Aa (Al (Qe rfl) (by rfl) h_max PyProof.Rows.boot_max (Aa Ah (Aa (Ay Iw (Ay Iw (pv 4) Ah) (Aj GT (hr.mono (by decide)) (by rfl) XT.mg XT.F.kp XT.b .nil As (Aa (pv 0) (Aa Ah Ac)))) Ac))) (Aa Ah Ac))))) (pv 2) (fun _ _=>rfl)))
  (Ak (Dd hu (pv 3) (A9 (AS K rfl) (by rfl) h_tuple PyProof.Rows.boot_tuple (Aa (Al DR (by rfl) h_sorted PyProof.Rows.boot_sorted (Aa (Bq (Aa (AJ (AF K rfl) (pv 1) (pv 4) (fun _ _=>rfl)) (Aa (AJ (AF K rfl) (pv 1) (pv 5) (fun _ _=>rfl)) Ac))) Ac)) Ac)) (Aj GL (hr.mono (by decide)) (by rfl) XL.mg XL.F.kp XL.b .nil As (Aa (pv 0) Ac)) rfl))))
  (Af (BL PassesOwn.never rfl (Dg (by rfl) h_range (Aa (Ay DB (Aj GT (hr.mono (by decide)) (by rfl) XT.mg XT.F.kp XT.b .nil As (Aa (pv 0) (Aa Ah Ac))) (A9 GQ (by rfl) h_int PyProof.Rows.boot_int (Aa (Fb Rl (pv 2) Ah (Bi _)) Ac))) Ac)) (Ai (i:=6) nd rfl (Or.inl rfl))
  (Af (Ar (i:=7) nd rfl (Or.inl rfl) (A9 (AS K rfl) (by rfl) h_tuple PyProof.Rows.boot_tuple (Aa (Al DR (by rfl) h_sorted PyProof.Rows.boot_sorted (Aa (Bq (Aa (AJ (AF K rfl) (pv 1) (Aj GT (hr.mono (by decide)) (by rfl) XT.mg XT.F.kp XT.b .nil As (Aa (pv 0) (Aa (Al (Ax K rfl) (by rfl) h_len PySem.boot_len (Aa (pv 1) Ac)) Ac))) (fun _ _=>rfl)) (Aa (AJ (AF K rfl) (pv 1) (Aj GT (hr.mono (by decide)) (by rfl) XT.mg XT.F.kp XT.b .nil As (Aa (pv 0) (Aa (Al (Ax K rfl) (by rfl) h_len PySem.boot_len (Aa (pv 1) Ac)) Ac))) (fun _ _=>rfl)) Ac))) Ac)) Ac)))
  (Ak (D5 (QV (AV Rk (AJ (B8 K rfl) (pv 7) Ah (fun _ _=>rfl)) (AJ (B8 K rfl) (pv 7) Ah (fun _ _=>rfl)) (Bi _)) (NT (Im (JV hu (pv 7) (pv 3))))).pt
  (Ak (Dd hu (pv 3) (pv 7) (Aj GL (hr.mono (by decide)) (by rfl) XL.mg XL.F.kp XL.b .nil As (Aa (pv 0) Ac)) rfl))
  BG))))
  hE))),?_⟩
  intro D hD;have m0:M5 K H (upd H D (.dT [])) p e D xs []:=⟨P0.same (Ad hD),Ad hD _ _ he,Ab,AX.of_same (Ad hD),nep,P0.ne hD,hD⟩
  generalize upd H D (.dT [])=H1 at m0;refine ⟨_,rfl,e,_,rfl,.inl (AD.of m0.he),_,_,rfl,⟨by lia,by lia,by rw [YI]; lia,by rw [YI]; lia⟩,?_⟩;refine Di (lo:=1) (fun j σ H'=>∃ (v4 v5 v6 v7:Option V) (us:List AA),σ=[some (.ref p),some (.ref e),some (.int sh),some (.ref D),v4,v5,v6,v7]/\M5 K H H' p e D xs us/\us.length=j/\HJ xs (j + 1) us/\∀ u ∈ us,u.2.2 < 10 ^ 30)
   ⟨_,_,_,_,[],rfl,m0,rfl,HJ.nil xs,fun u hu=>nomatch hu⟩ ?_ ?_
  ·rintro j σ H' hj ⟨v4,v5,v6,v7,us,rfl,mi,ul,tr,Se⟩;rw [YI] at hj;have J3:j + 1 < xs.length:=by lia
   refine ⟨_,rfl,_,_,rfl,rfl,_,rfl,_,rfl,p,_,rfl,mi.pn,by lia,by lia,fun d H2 P2 k2 d0 d1=>?_⟩;refine ⟨_,rfl,_,_,rfl,rfl,_,rfl,p,2,rfl,P2,by decide,by decide,fun d' H3 P3 k3 d'0 d'1=>⟨_,_,rfl,rfl,_,_,rfl,?_⟩⟩;have V8:=mi.step P3 (k2.trans k3);clear mi P2 k2 k3;refine ⟨(by show 4<=sizeLine; lia),fun T hT=>?_⟩;have V7:=V8.add hT (.lst [.int (1 + (j:Int) - 1),.int d,.int (if 1 + (j:Int) - 1 - d' > 0 then 1 + (j:Int) - 1 - d' else 0),.int 0]);have Nd:(upd H3 T (.lst [.int (1 + (j:Int) - 1),.int d,.int (if 1 + (j:Int) - 1 - d' > 0 then 1 + (j:Int) - 1 - d' else 0),.int 0])) T=some (.lst [.int (1 + (j:Int) - 1),.int d,.int (if 1 + (j:Int) - 1 - d' > 0 then 1 + (j:Int) - 1 - d' else 0),.int 0]):=Ab;obtain ⟨o,hv,o0⟩:∃ o:Nat,JA [V.int (1 + (j:Int) - 1),V.int d,V.int (if 1 + (j:Int) - 1 - d' > 0 then 1 + (j:Int) - 1 - d' else 0),V.int 0] sh=some (.int (o:Int))/\o < j + 1:=by
    have c:sh=0\/sh=1\/sh=2\/sh=3:=by lia
    rcases c with rfl | rfl | rfl | rfl
    ·exact ⟨j,by show some (V.int _)=_; rw [show 1 + (j:Int) - 1=(j:Int) by lia],by lia⟩
    ·exact ⟨d.toNat,by show some (V.int _)=_; rw [cT d0],by lia⟩
    ·refine ⟨(if 1 + (j:Int) - 1 - d' > 0 then 1 + (j:Int) - 1 - d' else 0).toNat,?_,?_⟩
     ·show some (V.int _)=_
      rw [cT (by split <;> lia)]
     ·split <;> lia
    ·exact ⟨0,rfl,by lia⟩
   generalize upd H3 T (.lst [.int (1 + (j:Int) - 1),.int d,.int (if 1 + (j:Int) - 1 - d' > 0 then 1 + (j:Int) - 1 - d' else 0),.int 0])=H4 at V7 Nd;refine ⟨_,rfl,T,_,_,_,rfl,rfl,AD.of Nd,hv,?_⟩;refine ⟨_,rfl,p,rfl,V7.pn,fun le H5 P5 k5 l1 l30=>?_⟩;have XU:=V7.step P5 k5;have ea:(xs.map V.str)[j + 1]? = some (.str xs[j + 1]):=by rw [YS,YJ J3]; rfl
   have eo:(xs.map V.str)[o]? = some (.str (xs[o]'(by lia))):=by rw [YS,YJ (by lia)]; rfl
   have e1j:(1 + (j:Int))=((j + 1:Nat):Int):=by lia
   have xo:xs[o]? = some (xs[o]'(by lia)):=YJ _;have xj:xs[j + 1]? = some xs[j + 1]:=YJ _;generalize (xs[o]'(by lia))=x at eo xo;generalize xs[j + 1]=y at ea xj;refine ⟨_,rfl,_,rfl,_,rfl,e,_,_,_,rfl,rfl,AD.of XU.he,(by rw [e1j]; exact Cq ea),_,rfl,_,rfl,e,_,_,_,rfl,rfl,AD.of XU.he,Cq eo,(by show 2<=sizeLine; lia),fun T2 Ou=>⟨T2,y,x,rfl,Ab,fun l hl=>⟨l,_,rfl,.inl ⟨AD.of Ab,fun T3 Wy=>?_⟩⟩⟩⟩;have Si:=((XU.add Ou (.lst [.str y,.str x])).add hl (.lst [.str (BP y x),.str (BQ y x)])).add Wy (.tup [.str (BP y x),.str (BQ y x)]);have pn:=NU (UU tr xnd (x:=x) (n:=le) xj);have hk:(upd (upd (upd H5 T2 (.lst [.str y,.str x])) l (.lst [.str (BP y x),.str (BQ y x)])) T3 (.tup [.str (BP y x),.str (BQ y x)])) T3=some (.tup ((DP (x,y,le)).map kV)):=by
    rw [JZ y x,Ka y x];exact Ab
   generalize upd (upd (upd H5 T2 (.lst [.str y,.str x])) l (.lst [.str (BP y x),.str (BQ y x)])) T3 (.tup [.str (BP y x),.str (BQ y x)])=H6 at Si hk;refine ⟨D,_,rfl,Fh.t Si.hw hk (by rw [YI]; lia),?_⟩;rw [show V.int le=V.int (x,y,le).2.2 from rfl,pn];refine ⟨_,_,_,_,us ++ [(x,y,le)],rfl,Si.put _,by rw [YR,ul]; rfl,Qz tr xnd o0 xo xj l1,fun u hu=>?_⟩;rcases Zl.mp hu with hu | hu
   ·exact Se u hu
   ·rw [Zc.mp hu]; exact l30
  ·rintro σ H' ⟨v4,v5,v6,v7,us,rfl,mi,ul,tr,Se⟩;rw [YI] at ul tr;rw [show ((xs.length:Int) - 1).toNat + 1=xs.length by lia] at tr;have wc:=(tr.ways xnd).c;refine ⟨_,rfl,p,6,rfl,mi.pn,by decide,by decide,fun d H2 P2 k2 d0 d1=>?_⟩;have mi2:=mi.step P2 k2;clear mi P2 k2;refine ⟨_,rfl,_,_,rfl,rfl,.inr ⟨_,rfl,?_⟩⟩;have i01:∀ b:Bool,(if b=true then (1:Int) else 0)=0\/(if b=true then (1:Int) else 0)=1:=fun b=>by cases b <;> simp
   have i1:=i01 (decide (1 < sh));generalize (if decide (1 < sh)=true then (1:Int) else 0)=i at i1;have mb:0<=d * i/\d * i<=5:=by rcases i1 with rfl | rfl <;> lia
   refine ⟨_,_,rfl,rfl,.inl ⟨by lia,by lia⟩,_,rfl,by lia,by lia,?_⟩;generalize d * i=m at mb;refine Di (lo:=0) (fun j σ H'=>∃ (v4 v5 v6 v7:Option V) (us:List AA),σ=[some (.ref p),some (.ref e),some (.int sh),some (.ref D),v4,v5,v6,v7]/\M5 K H H' p e D xs us/\us.length<=26 + j/\Fw xs us/\∀ u ∈ us,u.2.2 < 10 ^ 30)
    ⟨_,_,_,_,us,rfl,mi2,by lia,wc,Se⟩ ?_ ?_
   ·rintro j σ H' hj ⟨v4,v5,v6,v7,us,rfl,mi,ul,wc,Se⟩;have xl0:(0:Int) < ((xs.map V.str).length:Int):=by rw [YI]; lia
    have xlB:((xs.map V.str).length:Int) < 1073741824:=by rw [YI]; lia
    refine ⟨_,rfl,_,rfl,_,rfl,e,_,rfl,.inl (AD.of mi.he),p,_,rfl,mi.pn,xl0,xlB,fun g H3 P3 k3 g0 g1=>?_⟩;rw [YI] at g1;have V8:=mi.step P3 k3;obtain ⟨gn,rfl⟩:∃ n:Nat,g=n:=⟨g.toNat,by lia⟩
    have hgn:gn < xs.length:=by lia
    have eg:(xs.map V.str)[gn]? = some (.str xs[gn]):=by rw [YS,YJ hgn]; rfl
    refine ⟨e,_,_,_,rfl,rfl,AD.of V8.he,Cq eg,?_⟩;refine ⟨_,rfl,_,rfl,_,rfl,e,_,rfl,.inl (AD.of V8.he),p,_,rfl,V8.pn,xl0,xlB,fun h H4 P4 k4 h0 h1=>?_⟩;rw [YI] at h1;have V7:=V8.step P4 k4;obtain ⟨hn,rfl⟩:∃ n:Nat,h=n:=⟨h.toNat,by lia⟩
    have hhn:hn < xs.length:=by lia
    have eh:(xs.map V.str)[hn]? = some (.str xs[hn]):=by rw [YS,YJ hhn]; rfl
    refine ⟨e,_,_,_,rfl,rfl,AD.of V7.he,Cq eh,(by show 2<=sizeLine; lia),fun T2 Ou=>?_⟩;have mx:xs[gn] ∈ xs:=ZI hgn;have my:xs[hn] ∈ xs:=ZI hhn;generalize xs[gn]=x at mx;generalize xs[hn]=y at my;refine ⟨T2,x,y,rfl,Ab,fun l hl=>⟨l,_,rfl,.inl ⟨AD.of Ab,fun T3 Wy=>?_⟩⟩⟩;have Si:=((V7.add Ou (.lst [.str x,.str y])).add hl (.lst [.str (BP x y),.str (BQ x y)])).add Wy (.tup [.str (BP x y),.str (BQ x y)]);have hk:(upd (upd (upd H4 T2 (.lst [.str x,.str y])) l (.lst [.str (BP x y),.str (BQ x y)])) T3 (.tup [.str (BP x y),.str (BQ x y)])) T3=some (.tup [.str (BP x y),.str (BQ x y)]):=Ab;generalize upd (upd (upd H4 T2 (.lst [.str x,.str y])) l (.lst [.str (BP x y),.str (BQ x y)])) T3 (.tup [.str (BP x y),.str (BQ x y)])=H6 at Si hk;refine ⟨_,rfl,T3,_,_,_,rfl,rfl,AI.of hk,rfl,_,rfl,T3,_,_,_,rfl,rfl,AI.of hk,rfl,rfl,_,rfl,?_⟩;have stay:∀ v4 v5 v6 v7:Option V,∃ (v4' v5' v6' v7':Option V) (us:List AA),[some (.ref p),some (.ref e),some (.int sh),some (.ref D),v4,v5,v6,v7]=[some (.ref p),some (.ref e),some (.int sh),some (.ref D),v4',v5',v6',v7']/\M5 K H H6 p e D xs us/\us.length<=26 + (j + 1)/\Fw xs us/\∀ u ∈ us,u.2.2 < 10 ^ 30:=fun v4 v5 v6 v7=>⟨_,_,_,_,us,rfl,Si,by lia,wc,Se⟩
    refine BJ (fun z1=>?_) (fun _=>F7 (stay _ _ _ _));have ne:x ≠ y:=by
     intro z;subst z;simp [BP,BQ] at z1
    refine ⟨_,rfl,_,rfl,D,_,rfl,BK.t (k:=DP (x,y,1)) Si.hw hk,_,rfl,?_⟩;refine BJ (fun z2=>?_) (fun _=>stay _ _ _ _);refine ⟨_,rfl,p,rfl,Si.pn,fun le H7 P7 k7 l1 l30=>?_⟩;have mi7:=Si.step P7 k7;have hk7:=GY Si.pn k7 _ _ hk;have no:∀ u ∈ us,¬ DS u (x,y,le):=fun u Ye al=>Sx (x:=(x,y,1)) (by simpa using z2) u Ye al
    have pn:=NU no;refine ⟨_,rfl,_,rfl,D,_,rfl,Fh.t (k:=DP (x,y,le)) mi7.hw hk7 (by rw [YI]; lia),?_⟩;rw [show V.int le=V.int (x,y,le).2.2 from rfl,pn];refine ⟨_,_,_,_,us ++ [(x,y,le)],rfl,mi7.put _,by rw [YR]; simp; lia,O9 wc mx my ne l1 no,fun u hu=>?_⟩;rcases Zl.mp hu with hu | hu
    ·exact Se u hu
    ·rw [Zc.mp hu]; exact l30
   ·rintro σ H' ⟨v4,v5,v6,v7,us,rfl,mi,ul,wc,Se⟩;exact kE _ H H' p e D xs us _ _ _ _ _ mi wc (by lia) Se xnd xnm x26 fun H' m ps ws a b c d=>k H' m ps ws a b c d
end
section
variable {P:Program} {w:World} {K:YL} {mg:Str->Option Value} {base:Heap}
theorem KN (h_len:mg "len"=none) (h_range:mg "range"=none) {fT:Addr} {fdT:FuncData} (XT:Fn K mg "_law_take" AN ["_law_pen","_law_many"] fT fdT) (GT:A3 P w K mg base Bt 1 fT fdT ["_law_pen","_law_many"] (DV K)) {f:Addr} {fd:FuncData} (F:DT K "_law_names" "_law_names" Dz f fd):A3 P w K mg base Bt 2 f fd ["_law_pen","_law_many"] (LD K):=by
 refine F.ok FO (fun vs H Q E h=>?_) (fun cdv A outer s H vs Q E hr h=>?_)
 ·obtain ⟨p,n,rfl,_⟩:=h;rfl
 ·obtain ⟨p,n,rfl,hP,hn,k⟩:=h;have nd:=FO.nd;have big:100000 < sizeLine:=by decide
  refine ⟨_,(Af (Ar (i:=2) nd rfl (Or.inr rfl) C7)
  (Af (Ar (i:=3) nd rfl (Or.inl rfl) (Aj GT (hr.mono (by decide)) (by rfl) XT.mg XT.F.kp XT.b .nil As (Aa (pv 0) (Aa Ah Ac))))
  (Af (Ar (i:=4) nd rfl (Or.inl rfl) (Ir PySem.F.plainAttrs_str PySem.F.slot_str_join PySem.F.type_str_join Tb C7 (Aa (Be (N:=["_law_k","_law_pen","_law_letters"]) (σ0:=fun σ=>[none,some 0,some 2].map fun j=>j.bind fun j=>(σ[j]?).join) rfl (A6.caught (by rfl) (by decide +kernel) rfl (by decide +kernel) (by intro y hy; simp only [YM,YU,or_false] at hy; rcases hy with rfl | rfl <;> rfl)
   (by intro y hy e; simp only [YM,YU,or_false] at hy; rcases hy with rfl | rfl | rfl | rfl | rfl <;> first | exact ⟨_,rfl⟩ | cases e)) (fun σ _=>AH.of [none,some 0,some 2] rfl (by
   intro i j x h1 h2;match i,h1,h2 with
   | 0,_,h2=>cases h2
   | 1,h1,h2=>cases h1; cases h2; exact ⟨rfl,.inl rfl,.inl rfl⟩
   | 2,h1,h2=>cases h1; cases h2; exact ⟨rfl,.inl rfl,.inl rfl⟩
   | n + 3,h1,_=>cases h1)) (Dg (by rfl) h_range (Aa (Aj GT (hr.mono (by decide)) (by rfl) XT.mg XT.F.kp XT.b .nil As (Aa (pv 0) (Aa Ah Ac))) Ac))
   (fun s2 H C fp=>⟨(Ai (i:=0) (show (["_law_k","_law_pen","_law_letters"]:List Str).Nodup by decide +kernel) rfl (Or.inl rfl)),AU,(AJ Rz (pv 2) (Aj GT (hr.mono (by decide)) (by rfl) XT.mg XT.F.kp XT.b .nil As (Aa (pv 1) (Aa Ah Ac))) (fun _ _=>rfl))⟩)) Ac)))
  (Af (Ar (i:=5) nd rfl (Or.inl rfl) (Aj GT (hr.mono (by decide)) (by rfl) XT.mg XT.F.kp XT.b .nil As (Aa (pv 0) (Aa (Ay Bc (Al Gn (by rfl) h_len PySem.boot_len (Aa (pv 4) Ac)) Ah) Ac))))
  (Af (Ar (i:=6) nd rfl (Or.inl rfl) (Aj GT (hr.mono (by decide)) (by rfl) XT.mg XT.F.kp XT.b .nil As (Aa (pv 0) (Aa Ah Ac))))
  (Af (Ar (i:=7) nd rfl (Or.inl rfl) (Bq Ac))
  (Af (BL PassesOwn.never rfl (Dg (by rfl) h_range (Aa (pv 1) Ac)) (Ai (i:=8) nd rfl (Or.inl rfl))
  (Af (Ar (i:=9) nd rfl (Or.inl rfl) (AJ Rz (pv 2) (Ay Ec (Ay Bc (pv 3) (Ay DB Ah (pv 8))) Ah) (fun _ _=>rfl)))
  (Ak (FT (Ir PySem.F.plainAttrs_list PySem.F.slot_list_append PySem.F.type_list_append Cu (pv 7) (Aa (Ay Ee (Ay Ee (Ay Ee (FV (pv 4) KD (KC (pv 5))) (pv 9)) (FV (pv 4) (KC (pv 5)) KD)) (Ay Rj C7 (Ay DB (pv 6) (Ay Ec (pv 8) Ah)))) Ac))))))
  (Ak (A4 (pv 7)))))))))),?_⟩
  refine ⟨_,rfl,p,26,rfl,hP,by decide,by decide,fun st H0 P0 k0 Ia st1=>?_⟩;refine ⟨rfl,_,rfl,p,5,rfl,P0,by decide,by decide,fun d H1 P1 k1 da db=>⟨_,rfl,by lia,by lia,?_⟩⟩;have q1:=k0.trans k1;refine QP (n:=d.toNat) (fun D i σ H' acc=>∃ (v0:Option V) (ss:List Str),σ=[v0,some (.ref p),some (.str Gd)]/\Eo K H' p/\AX p H1 H'/\H' D=some (.lst acc)/\acc=ss.map V.str/\acc.length=i/\∀ s ∈ ss,s.length=1/\TL s)
   (by lia) (fun D hD=>⟨_,[],rfl,P1.same (Ad hD),AX.of_same (Ad hD),Ab,rfl,rfl,fun s hs=>nomatch hs⟩) (fun D i σ H' acc hD ⟨v0,ss,_,_,_,AE,_,al,_⟩=>⟨AE,al⟩) ?_ ?_
  ·rintro D i σ H' acc B hD hi ⟨v0,ss,rfl,P2,q2,AE,ea,al,lo⟩ hB;have nD:=P1.ne hD;refine ⟨_,rfl,_,rfl,p,26,rfl,P2,by decide,by decide,fun e H3 P3 k3 Y8 Xk=>?_⟩;have lc:=Hr _ (RR (Ei Y8 Xk));have EC:=k3 _ _ nD AE;refine ⟨_,_,_,rfl,rfl,by decide,Ei Y8 Xk,?_⟩;refine hB _ _ _ EC ⟨_,ss ++ [⟨#[97 + e.toNat]⟩],rfl,P3.other EC nD,fun b' o hb z=>?_,Ab,by rw [ea,YY]; rfl,by rw [YR,al]; rfl,fun s hs=>?_⟩
   ·rw [Ae (Ag z hD)];exact k3 _ _ hb (q2 b' o hb z)
   ·rcases Zl.mp hs with hs | hs
    ·exact lo s hs
    ·rw [Zc] at hs;subst hs;refine ⟨rfl,fun c hc=>?_⟩;have:c=97 + e.toNat:=by simpa using hc
     subst this;exact lc
  rintro D0 σ0 H2 acc hD0 ⟨v0,ss,rfl,P2,q2,AE,ea,al,lo⟩;obtain ⟨j1,j2,j3⟩:=Ry lo;have sl:ss.length=d.toNat:=by rw [<-al,ea,YI]
  refine ⟨_,D0,ss,rfl,rfl,by rw [AE,ea],by decide,by lia,?_⟩;generalize Txt.join (Str.ofString "") ss=bs at j1 j2;have bl:bs.length<=4:=by lia
  refine ⟨_,rfl,_,rfl,bs,rfl,by lia,_,_,rfl,rfl,p,_,rfl,P2,by lia,by lia,fun at' H3 P3 k3 at0 Xp=>?_⟩;refine ⟨_,rfl,p,2,rfl,P3,by decide,by decide,fun mo H5 P5 k5 WY mo1=>?_⟩;have q5:AX p H H5:=((q1.trans q2).trans k3).trans k5;refine ⟨(by show 0<=sizeLine; lia),fun D hD=>?_⟩;have nD:D ≠ p:=P5.ne hD;have fD:H D=none:=by
   cases z:H D with
   | none=>rfl
   | some o=>rw [q5 _ _ nD z] at hD; cases hD
  have spm:(7:Int) ∈ ([1,3,5,7,9,11,15,17]:List Int):=by simp
  refine ⟨_,rfl,n,rfl,by lia,by lia,?_⟩;refine Di (n:=n) (lo:=0) (fun j σ H'=>∃ (xs:List Str) (v9 v10:Option V),σ=[some (.ref p),some (.int n),some (.str Gd),some (.int st),some (.str bs),some (.int at'),some (.int mo),some (.ref D),v9,v10]/\H'=upd H5 D (.lst (xs.map V.str))/\xs.length=j/\(∀ x ∈ xs,AQ x=true)/\∀ (i:Nat) x,xs[i]? = some x->∃ tl,x.cps.toList=(Txt.slice bs none (some at')).cps.toList ++ (Po n st 7 i ++ tl))
   ⟨[],_,_,rfl,rfl,rfl,(fun x hx=>nomatch hx),(fun i x e=>by simp at e)⟩ ?_ ?_
  ·rintro j σ H' hj ⟨xs,v9,v10,rfl,rfl,xl,nm,sh⟩;have r0:0<=(st + 7 * (0 + (j:Int))) % 26:=ZX _ (by decide);have r1:(st + 7 * (0 + (j:Int))) % 26 < 26:=ai _ (by decide);refine ⟨_,rfl,_,rfl,_,rfl,_,_,rfl,rfl,.inl ⟨by decide,by decide⟩,_,_,rfl,rfl,_,_,rfl,rfl,(by show (0:Int) < 26; decide),_,_,_,rfl,rfl,by decide,Ei r0 r1,?_⟩;have lc:=Hr _ (RR (Ei r0 r1));have s1:=QE (z:=bs) at0 (by lia);have s2:=MH (z:=bs) at0 (by lia);have w1:=JN (z:=bs) none (some at') j1;have w2:=JN (z:=bs) (some at') none j1;have dD:(upd H5 D (.lst (xs.map V.str))) D=some (.lst (xs.map V.str)):=Ab;have m01:mo * ((0 + (j:Int)) % 2)=0\/mo * ((0 + (j:Int)) % 2)=1:=by
    have e1:mo=0\/mo=1:=by lia
    have e2:(0 + (j:Int)) % 2=0\/(0 + (j:Int)) % 2=1:=by lia
    rcases e1 with rfl | rfl <;> rcases e2 with e2 | e2 <;> rw [e2] <;> simp
   have hz:∀ z:Str,z=(if mo * ((0 + (j:Int)) % 2)=1 then Str.ofString "z" else Str.empty)->z.length<=1/\TL z:=fun z e=>by
    subst e;split
    ·refine ⟨by decide,fun c hc=>?_⟩;have e:(Str.ofString "z").cps.toList=[122]:=by decide +kernel
     rw [e,Zc] at hc;subst hc;decide
    ·exact ⟨by decide,fun c hc=>by cases hc⟩
   obtain ⟨zz,ezz⟩:∃ zz,zz=(if mo * ((0 + (j:Int)) % 2)=1 then Str.ofString "z" else Str.empty):=⟨_,rfl⟩
   obtain ⟨z1,z2⟩:=hz zz ezz;have fin:∀ (x:Str),x=Txt.slice bs none (some at') ++ ⟨#[97 + ((st + 7 * (0 + (j:Int))) % 26).toNat]⟩ ++ Txt.slice bs (some at') none ++ zz->AQ x=true/\∃ tl,x.cps.toList=(Txt.slice bs none (some at')).cps.toList ++ (Po n st 7 j ++ tl):=fun x e=>by
    have ec:x.cps.toList=(Txt.slice bs none (some at')).cps.toList ++ ([97 + ((st + 7 * (0 + (j:Int))) % 26).toNat] ++ ((Txt.slice bs (some at') none).cps.toList ++ zz.cps.toList)):=by
     rw [e,Str.cps_append,Str.cps_append,Str.cps_append,b6,b6,b6,ZG,ZG]
    have el:x.length=(Txt.slice bs none (some at')).length + 1 + (Txt.slice bs (some at') none).length + zz.length:=by
     rw [e,Str.length_append,Str.length_append,Str.length_append];rfl
    refine ⟨Rp (by lia) (by lia) fun c hc=>?_,?_⟩
    ·rw [ec,Zl,Zl,Zl,Zc] at hc;rcases hc with hc | hc | hc | hc
     ·exact w1 c hc
     ·rw [hc]; exact lc
     ·exact w2 c hc
     ·exact z2 c hc
    ·refine ⟨(Txt.slice bs (some at') none).cps.toList ++ zz.cps.toList,?_⟩;rw [ec];unfold Po;rw [if_neg (by lia),bM]
   refine ⟨_,rfl,.inl ⟨rfl,_,AD.of dD⟩,_,rfl,_,rfl,_,rfl,bs,rfl,by lia,_,rfl,_,_,rfl,rfl,?_,_,rfl,_,rfl,_,rfl,bs,rfl,by lia,_,_,rfl,rfl,?_,_,rfl,_,rfl,_,_,rfl,rfl,(by show (0:Int) < 2; decide),_,_,rfl,rfl,.inl ⟨by lia,by lia⟩,_,_,rfl,rfl,m01,_,_,rfl,rfl,?_,D,_,_,rfl,rfl,dD,(by rw [YI]; lia),?_⟩
   ·show (Txt.slice bs none (some at')).length + 1<=sizeLine
    lia
   ·rw [Str.length_append];show (Txt.slice bs none (some at')).length + 1 + _<=sizeLine
    lia
   ·rw [<-ezz,Str.length_append,Str.length_append];show (Txt.slice bs none (some at')).length + 1 + _ + _<=sizeLine
    lia
   rw [<-ezz];obtain ⟨f1,f2⟩:=fin _ rfl;refine ⟨xs ++ [_],_,_,rfl,by rw [Kz,YY]; rfl,by rw [YR,xl]; rfl,fun x hx=>?_,fun i x e=>?_⟩
   ·rcases Zl.mp hx with hx | hx
    ·exact nm x hx
    ·rw [Zc.mp hx];exact f1
   ·by_cases hi:i < xs.length
    ·rw [Zs hi] at e;exact sh i x e
    ·have Vh:i=j:=by
      have:=(YQ.mp e).1;rw [YR,ZC] at this;lia
     subst Vh;rw [Zr (by lia),xl,aJ,Z9] at e;rw [<-Zf.inj e];exact f2
  ·rintro σ H' ⟨xs,v9,v10,rfl,rfl,xl,nm,sh⟩;exact ⟨_,rfl,k _ D xs (P5.same (Ad hD)) (fun b' o hb z=>by rw [Ae (Ag z fD)]; exact q5 _ _ hb z) fD Ab xl (LY sh fun i j hij hj tl Sf=>UP (by lia) spm hij (by lia) tl Sf) nm⟩
end
section
variable {P:Program} {w:World} {K:YL} {mg:Str->Option Value} {base:Heap}
theorem Fs (h_int:mg "int"=none) {fT:Addr} {fdT:FuncData} (XT:Fn K mg "_law_take" AN ["_law_pen","_law_many"] fT fdT) (GT:A3 P w K mg base Bt 1 fT fdT ["_law_pen","_law_many"] (DV K)) {f:Addr} {fd:FuncData} (F:DT K "_law_length" "_law_length" Cw f fd):A3 P w K mg base Bt 2 f fd ["_law_pen"] (MG K):=by
 refine F.ok Fm (fun vs H Q E h=>?_) (fun cdv A outer s H vs Q E hr h=>?_)
 ·obtain ⟨p,rfl,_⟩:=h;rfl
 ·obtain ⟨p,rfl,hP,k⟩:=h;have nd:=Fm.nd;have big:100000 < sizeLine:=by decide
  refine ⟨_,(Af (Ar (i:=1) nd rfl (Or.inl rfl) (Aj GT (hr.mono (by decide)) (by rfl) XT.mg XT.F.kp XT.b .nil As (Aa (pv 0) (Aa Ah Ac))))
  (Af (D5 (AV Hm (pv 1) Ah (Bi _))
  (Ak (A4 (Ay Bc Ah (Aj GT (hr.mono (by decide)) (by rfl) XT.mg XT.F.kp XT.b .nil As (Aa (pv 0) (Aa Ah Ac))))))
  BG)
  (Af (D5 (AV Hm (pv 1) Ah (Bi _))
  (Ak (A4 (Ay Bc Ah (Aj GT (hr.mono (by decide)) (by rfl) XT.mg XT.F.kp XT.b .nil As (Aa (pv 0) (Aa Ah Ac))))))
  BG)
  (Ak (A4 (Ay Bc (A9 J9 (by rfl) h_int PyProof.Rows.boot_int (Aa (Ay Ee C7 (Ay SU C7 (Aj GT (hr.mono (by decide)) (by rfl) XT.mg XT.F.kp XT.b .nil As (Aa (pv 0) (Aa Ah Ac))))) Ac)) (Aj GT (hr.mono (by decide)) (by rfl) XT.mg XT.F.kp XT.b .nil As (Aa (pv 0) (Aa Ah Ac))))))))),?_⟩
  have ten:(100:Int) < 10 ^ 30:=by decide
  refine ⟨_,rfl,p,12,rfl,hP,by decide,by decide,fun d H1 P1 k1 d0 d1=>?_⟩;refine ⟨_,rfl,_,_,rfl,rfl,_,rfl,?_⟩;refine BJ (fun _=>?_) (fun _=>?_)
  ·exact ⟨_,rfl,p,3,rfl,P1,by decide,by decide,fun e H2 P2 k2 e0 e1=>⟨_,_,rfl,rfl,k _ H2 P2 (k1.trans k2) (by lia) (by lia)⟩⟩
  refine ⟨_,rfl,_,_,rfl,rfl,_,rfl,?_⟩;refine BJ (fun _=>?_) (fun _=>?_)
  ·exact ⟨_,rfl,p,30,rfl,P1,by decide,by decide,fun e H2 P2 k2 e0 e1=>⟨_,_,rfl,rfl,k _ H2 P2 (k1.trans k2) (by lia) (by lia)⟩⟩
  refine ⟨_,rfl,p,30,rfl,P1,by decide,by decide,fun e H2 P2 k2 e0 e1=>?_⟩;obtain ⟨n,rfl⟩:∃ n:Nat,e=(n:Int):=⟨e.toNat,by lia⟩
  have hn:n < 30:=by lia
  have it:=Ot ⟨n,hn⟩;have l1:(Str.ofString "1").length=1:=by decide +kernel
  have zl:(JC n).length=n:=it.2;refine ⟨n,rfl,rfl,hn,_,_,rfl,rfl,(by lia),_,_,rfl,it.1,(by rw [Str.length_append,l1,zl]; lia),_,rfl,p,10,rfl,P2,by decide,by decide,fun e2 H3 P3 k3 e20 e21=>⟨_,_,rfl,rfl,k _ H3 P3 (k1.trans (k2.trans k3)) ?_ ?_⟩⟩
  ·have:(1:Int)<=10 ^ n:=(Q0 ⟨n,hn⟩).1;show 1<=(10:Int) ^ n + e2
   lia
  ·have h1:(10:Int) ^ n + 10<=10 ^ 30:=(Q0 ⟨n,hn⟩).2;show (10:Int) ^ n + e2 < 10 ^ 30
   lia
theorem LV (h_len:mg "len"=none) (h_list:mg "list"=none) (h_range:mg "range"=none) (h_sorted:mg "sorted"=none) {fT:Addr} {fdT:FuncData} (XT:Fn K mg "_law_take" AN ["_law_pen","_law_many"] fT fdT) (GT:A3 P w K mg base Bt 1 fT fdT ["_law_pen","_law_many"] (DV K)) {f:Addr} {fd:FuncData} (F:DT K "_law_some" "_law_some" DX f fd):A3 P w K mg base Bt 2 f fd ["_law_pen","_law_names_here","_law_many"] (ND K):=by
 refine F.ok Hg (fun vs H Q E h=>?_) (fun cdv A outer s H vs Q E hr h=>?_)
 ·obtain ⟨p,e,xs,m,rfl,_⟩:=h;rfl
 ·obtain ⟨p,e,xs,m,rfl,P0,he,nep,x30,mx,k⟩:=h;have nd:=Hg.nd;have big:100000 < sizeLine:=by decide
  refine ⟨_,(Af (Ar (i:=3) nd rfl (Or.inl rfl) (A9 Gm (by rfl) h_list PyProof.Rows.boot_list (Aa (pv 1) Ac)))
  (Af (Ar (i:=4) nd rfl (Or.inl rfl) (Bq Ac))
  (Af (BL PassesOwn.never rfl (Dg (by rfl) h_range (Aa (pv 2) Ac)) (Ai (i:=5) nd rfl (Or.inl rfl))
  (Ak (FT (Ir PySem.F.plainAttrs_list PySem.F.slot_list_append PySem.F.type_list_append Cu (pv 4) (Aa (Ir PySem.F.plainAttrs_list PySem.F.slot_list_pop PySem.F.type_list_pop Rq (pv 3) (Aa (Aj GT (hr.mono (by decide)) (by rfl) XT.mg XT.F.kp XT.b .nil As (Aa (pv 0) (Aa (Al (Ax K rfl) (by rfl) h_len PySem.boot_len (Aa (pv 3) Ac)) Ac))) Ac)) Ac)))))
  (Ak (A4 (Al BX (by rfl) h_sorted PyProof.Rows.boot_sorted (Aa (pv 4) Ac))))))),?_⟩
  refine ⟨_,rfl,e,_,rfl,.inl (AD.of he),fun PL hPL=>?_⟩;have s0:=Ad (o:=.lst (xs.map V.str)) hPL;have nPL:PL ≠ p:=P0.ne hPL;have P1:=P0.same s0;have hPP:(upd H PL (.lst (xs.map V.str))) PL=some (.lst (xs.map V.str)):=Ab;generalize upd H PL (.lst (xs.map V.str))=H1 at s0 P1 hPP ⊢;refine ⟨(by show 0<=sizeLine; lia),fun D hD=>?_⟩;have s1:=Ad (o:=.lst []) hD;have AE:(upd H1 D (.lst [])) D=some (.lst []):=Ab;have nD:D ≠ p:=P1.ne hD;have nDP:D ≠ PL:=fun z=>by rw [z,hPP] at hD; cases hD
  have P2:=P1.same s1;have frD:H D=none:=s0.free hD;generalize upd H1 D (.lst [])=H2 at s1 AE P2 ⊢;refine ⟨_,rfl,m,rfl,by lia,by lia,Di (n:=m) (fun i σ H'=>∃ (v5:Option V) (ys left:List Str),σ=[some (.ref p),some (.ref e),some (.int (m:Int)),some (.ref PL),some (.ref D),v5]/\Eo K H' p/\(∀ b o,b ≠ p->H b=some o->H' b=some o)/\H' PL=some (.lst (left.map V.str))/\H' D=some (.lst (ys.map V.str))/\ys.length=i/\(ys ++ left).Perm xs)
   ⟨_,[],xs,rfl,P2,fun b o _ z=>s1 _ _ (s0 _ _ z),s1 _ _ hPP,AE,rfl,List.Perm.refl _⟩ ?_ (fun σ H' hP=>?_)⟩
  ·rintro i σ H3 hi ⟨v5,ys,left,rfl,P3,k3,h3,EC,yl,pm⟩;have ll:ys.length + left.length=xs.length:=by rw [<-YR]; exact pm.length_eq
   refine ⟨_,rfl,.inl ⟨rfl,_,AD.of EC⟩,_,rfl,.inl ⟨rfl,_,AD.of h3⟩,_,rfl,_,rfl,PL,_,rfl,.inl (AD.of h3),p,_,rfl,P3,?_,?_,fun e' H4 P4 k4 Y8 Xk=>?_⟩
   ·rw [YI]; lia
   ·rw [YI]; lia
   rw [YI] at Xk;obtain ⟨q,rfl⟩:∃ q:Nat,e'=(q:Int):=⟨e'.toNat,by lia⟩
   have hq:q < left.length:=by lia
   have hget:left[q]? = some left[q]:=YJ hq;have h4:=k4 _ _ nPL h3;have Nf:=k4 _ _ nD EC;refine ⟨PL,_,_,q,.str left[q],rfl,rfl,h4,by lia,by lia,?_,by rw [YS,hget]; rfl,?_⟩
   ·rw [YI];exact (KZ (by show R0 left.length (q:Int)=some q; unfold R0; rw [if_pos (by lia),if_pos (by lia)]; rfl)).1
   rw [Kb];have P5:=P4.other (zs:=(left.eraseIdx q).map V.str) h4 nPL;have Mj:(upd H4 PL (.lst ((left.eraseIdx q).map V.str))) D=some (.lst (ys.map V.str)):=by rw [Ae nDP]; exact Nf
   refine ⟨D,_,_,rfl,rfl,Mj,by rw [YI]; lia,?_⟩;refine ⟨_,ys ++ [left[q]],left.eraseIdx q,rfl,P5.other Mj nD,fun b' o hb z=>?_,?_,by rw [Ab,YY]; rfl,by rw [YR,yl]; rfl,?_⟩
   ·rw [Ae (Ag z frD),Ae (Ag z hPL)];exact k4 _ _ hb (k3 b' o hb z)
   ·rw [Ae nDP.symm];exact Ab
   ·refine List.Perm.trans ?_ pm;rw [ZG];exact List.Perm.append_left _ (Et hget)
  ·obtain ⟨v5,ys,left,rfl,P3,k3,h3,EC,yl,pm⟩:=hP;have ll:ys.length + left.length=xs.length:=by rw [<-YR]; exact pm.length_eq
   refine ⟨_,rfl,D,ys,rfl,AD.of EC,by lia,fun l ss hl WU srt=>?_⟩;have sl:=Ad (o:=.lst (ss.map V.str)) hl;exact k _ l ss left (P3.same sl) (fun b o hb z=>sl _ _ (k3 b o hb z)) (by
    cases z:H l with
    | none=>rfl
    | some o=>
     by_cases hb:l=p
     ·subst hb;obtain ⟨_,_,_,_,q,_⟩:=P3;rw [q] at hl;cases hl
     ·rw [k3 l o hb z] at hl;cases hl) Ab ((WU.append_right left).trans pm) (by rw [WU.length_eq]; exact yl) srt
end
section
variable {P:Program} {w:World} {K:YL} {mg:Str->Option Value} {base:Heap}
theorem takeB {f:Addr} {cdv:Value} {A:Around} {outer:List Env} {s:Shared} {H:Hp} {E:XK} :
  ∃ tl,Mx (J5 Bt P w K mg base ["_law_pen","_law_many","_law_place","_law_cell","_law_number","_law_digit"] "_law_take" (Am AN) f cdv A outer s H E).nox ((Cp AN).drop 1) tl /\
   ∀ (W:Ex) (H6:Hp) (p a:Addr) (ns:List Int) (i l m:Int) (v2 v3 v4 v5:Option V),H6 p=some (.lst (KG a i l))->Nr K H6 a (ns.map V.int)->ns.length<=63->0<=i->0<=l->0 < m->m < 1073741824->(∀ (d:Int) (H':Hp),Eo K H' p->AX p H6 H'->0<=d->d < m->W.rt (.int d) H')->tl W [some (.ref p),some (.int m),v2,v3,v4,v5] H6:=by
 have nd:=CK.nd;refine ⟨_,(Af (Ar (i:=5) nd rfl (Or.inl rfl) (Ay Ec (AJ (AF K rfl) (pv 0) Ah (fun _ _=>rfl)) (pv 1)))
  (Af (Eb (Ay Ob (AJ (AF K rfl) (pv 0) Ah (fun _ _=>rfl)) (pv 1)) (MN (pv 0) Ah Ih))
  (Ak (A4 (pv 5))))),?_⟩
 intro W H6 p a ns i l m v2 v3 v4 v5 hp sc ln i0 l0 hm Qk k;have sq:∀ {H':Hp} {a:Addr} {i l:Int},H' p=some (.lst (KG a i l))->AD K H' p (KG a i l):=fun h=>.inl (.inl h)
 refine ⟨_,rfl,p,_,_,_,rfl,rfl,sq hp,QY _ _ _,_,rfl,_,_,rfl,rfl,hm,?_⟩;refine ⟨_,rfl,p,_,_,_,rfl,rfl,sq hp,QY _ _ _,_,rfl,_,_,rfl,rfl,⟨hm,Qk⟩,_,rfl,p,_,_,2,rfl,rfl,hp,rfl,_,rfl,?_⟩;exact k _ _ (Eo.put hp sc ln i0 (Int.ediv_nonneg l0 (by lia))) AX.upd (ZX _ (by lia)) (ai _ hm)
theorem takeD {f:Addr} {cdv:Value} {A:Around} {outer:List Env} {s:Shared} {H:Hp} {E:XK} :
  ∃ tl,Mx (J5 Bt P w K mg base ["_law_pen","_law_many","_law_place","_law_cell","_law_number","_law_digit"] "_law_take" (Am AN) f cdv A outer s H E).nox (MY ((MY ((Cp AN).getD 0 (.Pass ⟨0,0,0,0⟩))).getD 4 (.Pass ⟨0,0,0,0⟩))) tl /\
   ∀ (W:Ex) (H6:Hp) (p:Addr) (m i c:Int) (v4 v5:Option V),0 < m->0<=i->(∀ d:Int,0<=d->d < m->W.rt (.int d) H6)->tl W [some (.ref p),some (.int m),some (.int i),some (.int c),v4,v5] H6:=by
 have nd:=CK.nd;refine ⟨_,(Af (Ar (i:=4) nd rfl (Or.inl rfl) (Ay Ec (Ay DB (Ay Bc (Ay Bc (Ay Ec (pv 3) Ah) (Ay DB Ah (pv 2))) Ah) Ah) Ah))
  (Af (Ar (i:=4) nd rfl (Or.inl rfl) (Ay Ec (Ay Bc (Ay Bc (Ay DB (pv 4) (pv 4)) (Ay DB Ah (pv 4))) (pv 2)) Ah))
  (Ak (A4 (Ay Ec (Ay Ob (Ay Ec (Ay Bc (Ay Bc (Ay DB (pv 4) (pv 4)) (Ay DB Ah (pv 4))) Ah) Ah) Ah) (pv 1)))))),?_⟩
 intro W H6 p m i c v4 v5 hm i0 k;refine ⟨_,rfl,_,_,rfl,rfl,(by show (0:Int) < 2147483629; decide),_,rfl,_,_,rfl,rfl,.inl ⟨by decide,by decide⟩,_,_,rfl,rfl,_,_,rfl,rfl,_,_,rfl,rfl,.inr ⟨by decide,by decide⟩,_,_,rfl,rfl,(by show (0:Int) < 2147483647; decide),?_⟩;have h0:0<=(c % 2147483629 + 40503 * i + 977) * 48271 % 2147483647:=ZX _ (by decide);have h1:(c % 2147483629 + 40503 * i + 977) * 48271 % 2147483647 < 2147483647:=ai _ (by decide);have big:∀ z:Int,0<=z->z < 2147483647->-(2 ^ 64) < z/\z < 2 ^ 64:=fun z a b=>⟨de (b:=0) (by decide) a,dU b (by decide)⟩
 refine ⟨_,rfl,_,rfl,_,_,rfl,rfl,.inl (big _ h0 h1),_,rfl,_,_,rfl,rfl,.inl ⟨by decide,by decide⟩,_,_,rfl,rfl,_,rfl,_,_,rfl,rfl,_,_,rfl,rfl,(by show (0:Int) < 2147483587; decide),?_⟩;obtain ⟨u,eu,u0,u1⟩:∃ u:Int,((c % 2147483629 + 40503 * i + 977) * 48271 % 2147483647 * ((c % 2147483629 + 40503 * i + 977) * 48271 % 2147483647) + 69621 * ((c % 2147483629 + 40503 * i + 977) * 48271 % 2147483647) + i) % 2147483587=u/\0<=u/\u < 2147483647:=⟨_,rfl,ZX _ (by decide),dU (ai _ (by decide)) (by decide)⟩
 refine ⟨_,rfl,_,rfl,_,_,rfl,rfl,.inl (big _ (by rw [eu]; exact u0) (by rw [eu]; exact u1)),_,rfl,_,_,rfl,rfl,.inl ⟨by decide,by decide⟩,_,_,rfl,rfl,_,_,rfl,rfl,_,_,rfl,rfl,(by show (0:Int) < 2147483563; decide),_,_,rfl,rfl,⟨by decide,by decide⟩,_,rfl,_,_,rfl,rfl,hm,?_⟩;exact k _ (ZX _ (by lia)) (ai _ hm)
theorem takeC (h_len:mg "len"=none) {f:Addr} {cdv:Value} {A:Around} {outer:List Env} {s:Shared} {H:Hp} {E:XK} :
  ∃ tl,Mx (J5 Bt P w K mg base ["_law_pen","_law_many","_law_place","_law_cell","_law_number","_law_digit"] "_law_take" (Am AN) f cdv A outer s H E).nox ((MY ((Cp AN).getD 0 (.Pass ⟨0,0,0,0⟩))).drop 4) tl /\
   ∀ (W:Ex) (H6:Hp) (p a:Addr) (ns:List Int) (i l m c:Int) (v4 v5:Option V),H6 p=some (.lst (KG a (i + 1) l))->Nr K H6 a (ns.map V.int)->ns.length<=63->0<=i->0<=l->0 < m->m < 1073741824->0<=c->(∀ d:Int,0<=d->d < m->W.rt (.int d) H6)->(∀ (c':Int) (v4:Option V),0<=c'->W.nx [some (.ref p),some (.int m),some (.int i),some (.int c),v4,v5] (upd H6 p (.lst (KG a (i + 1) c'))))->tl W [some (.ref p),some (.int m),some (.int i),some (.int c),v4,v5] H6:=by
 have nd:=CK.nd;obtain ⟨tlD,htD,rdD⟩:=takeD (P:=P) (w:=w) (K:=K) (mg:=mg) (base:=base) (f:=f) (cdv:=cdv) (A:=A) (outer:=outer) (s:=s) (H:=H) (E:=E);refine ⟨_,(Af (D5 (JT (AV op_ge (pv 2) (Al (Ax K rfl) (by rfl) h_len PySem.boot_len (Aa (AJ (AF K rfl) (pv 0) Ah (fun _ _=>rfl)) Ac)) (Bi _)) (G0 (AV Hm (pv 3) (Ay UQ Ah Ah) (Bi _)))).pt
  htD
  BG)
  (Ak (Eb (pv 3) (MN (pv 0) Ah Ih)))),?_⟩
 intro W H6 p a ns i l m c v4 v5 hp sc ln i0 l0 hm Qk c0 kr kn;have sq:∀ {H':Hp} {a:Addr} {i l:Int},H' p=some (.lst (KG a i l))->AD K H' p (KG a i l):=fun h=>.inl (.inl h)
 refine ⟨_,rfl,_,rfl,p,_,_,_,rfl,rfl,sq hp,NV _ _ _,a,_,rfl,.inl sc.sq,_,_,rfl,rfl,_,rfl,?_⟩;refine BJ (fun _=>rdD _ H6 p m i c v4 v5 hm i0 kr) (fun _=>?_);refine ⟨_,rfl,_,_,rfl,rfl,⟨by decide,by decide,by decide⟩,_,_,rfl,rfl,_,rfl,?_⟩;refine BJ (fun _=>rdD _ H6 p m i c v4 v5 hm i0 kr) (fun _=>?_);refine ⟨_,rfl,_,rfl,p,_,_,2,rfl,rfl,hp,rfl,?_⟩;exact kn c _ c0
theorem BO (h_abs:mg "abs"=none) (h_len:mg "len"=none) {f:Addr} {fd:FuncData} (F:DT K "_law_take" "_law_take" AN f fd):A3 P w K mg base Bt 1 f fd ["_law_pen","_law_many"] (DV K):=by
 refine F.ok CK (fun vs H Q E h=>?_) (fun cdv A outer s H vs Q E hr h=>?_)
 ·obtain ⟨p,m,rfl,_⟩:=h;rfl
 ·obtain ⟨p,m,rfl,⟨a,ns,i,l,hp,sc,ln,i0,l0⟩,hm,Qk,k⟩:=h;have nd:=CK.nd;have big:100000 < sizeLine:=by decide
  obtain ⟨tlC,htC,rdC⟩:=takeC (P:=P) (w:=w) (K:=K) (mg:=mg) (base:=base) h_len (f:=f) (cdv:=cdv) (A:=A) (outer:=outer) (s:=s) (H:=H) (E:=E);obtain ⟨tlB,htB,rdB⟩:=takeB (P:=P) (w:=w) (K:=K) (mg:=mg) (base:=base) (f:=f) (cdv:=cdv) (A:=A) (outer:=outer) (s:=s) (H:=H) (E:=E);refine ⟨_,(Af (D5 (AV Oc (AJ (AF K rfl) (pv 0) Ah (fun _ _=>rfl)) Ah (Bi _))
  (Af (Ar (i:=2) nd rfl (Or.inl rfl) (AJ (AF K rfl) (pv 0) Ah (fun _ _=>rfl)))
  (Af (Eb (Ay Bc (pv 2) Ah) (MN (pv 0) Ah Ih))
  (Af (Ar (i:=3) nd rfl (Or.inl rfl) Ah)
  (Af (D5 (AV Rl (Al (Ax K rfl) (by rfl) h_len PySem.boot_len (Aa (AJ (AF K rfl) (pv 0) Ah (fun _ _=>rfl)) Ac)) Ah (Bi _))
  (Ak (Ar (i:=3) nd rfl (Or.inl rfl) (Al RQ (by rfl) h_abs PyProof.Rows.boot_abs (Aa (AJ (AF K rfl) (AJ (AF K rfl) (pv 0) Ah (fun _ _=>rfl)) (Ay Ec (pv 2) (Al (Ax K rfl) (by rfl) h_len PySem.boot_len (Aa (AJ (AF K rfl) (pv 0) Ah (fun _ _=>rfl)) Ac))) (fun _ _=>rfl)) Ac))))
  BG)
  htC))))
  BG)
  htB),?_⟩
  have sq:∀ {H':Hp} {a:Addr} {i l:Int},H' p=some (.lst (KG a i l))->AD K H' p (KG a i l):=fun h=>.inl (.inl h)
  refine ⟨_,rfl,p,_,_,_,rfl,rfl,sq hp,QY _ _ _,rfl,_,rfl,?_⟩;refine BJ (fun z0=>?_) (fun _=>rdB _ H p a ns i l m _ _ _ _ hp sc ln i0 l0 hm Qk k);refine ⟨_,rfl,p,_,_,_,rfl,rfl,sq hp,pn5_1 _ _ _,?_⟩;refine ⟨_,rfl,_,_,rfl,rfl,_,rfl,p,_,_,1,rfl,rfl,hp,rfl,?_⟩;have Wr:(upd H p (.lst (KG a (i + 1) l))) p=some (.lst (KG a (i + 1) l)):=Ab;have VN:Nr K (upd H p (.lst (KG a (i + 1) l))) a (ns.map V.int):=sc.keep hp AX.upd;have fin:∀ (c:Int),0<=c->tlC ⟨fun σ H'=>tlB ⟨fun _ H'=>Q .non H',Q,fun _ _=>False,fun _ _=>False⟩ σ H',Q,fun _ _=>False,fun _ _=>False⟩ [some (.ref p),some (.int m),some (.int i),some (.int c),none,none] (upd H p (.lst (KG a (i + 1) l))):=fun c c0=>by
   refine rdC _ _ p a ns i l m c _ _ Wr VN ln i0 l0 hm Qk c0 (fun d d0 d1=>?_) fun c' v4 c0'=>?_
   ·exact k d _ (Eo.put hp sc ln (by lia) l0) AX.upd d0 d1
   ·refine rdB _ _ p a ns (i + 1) c' m _ _ _ _ Ab (VN.keep Wr AX.upd) ln (by lia) c0' hm Qk fun d H' P' k' d0 d1=>k d H' P' ((AX.upd.trans AX.upd).trans k') d0 d1
  refine ⟨_,rfl,p,_,_,_,rfl,rfl,sq Wr,NV _ _ _,a,_,rfl,.inl VN.sq,_,_,rfl,rfl,_,rfl,?_⟩;refine BJ (fun zl=>?_) (fun _=>fin 0 (ar _));have zl':0 < ns.length:=by have:=of_decide_eq_true zl; rw [YI] at this; lia
  have j0:0<=i % ((ns.map V.int).length:Int):=ZX _ (by rw [YI]; lia);have j1:i % ((ns.map V.int).length:Int) < (ns.map V.int).length:=ai _ (by rw [YI]; lia);obtain ⟨j,ej⟩:∃ j:Nat,i % ((ns.map V.int).length:Int)=(j:Int):=⟨(i % ((ns.map V.int).length:Int)).toNat,by lia⟩
  have jl:j < ns.length:=by rw [ej,YI] at j1; lia
  refine ⟨_,rfl,p,_,_,_,rfl,rfl,sq Wr,NV _ _ _,_,rfl,_,rfl,p,_,_,_,rfl,rfl,sq Wr,NV _ _ _,a,_,rfl,.inl VN.sq,_,_,rfl,rfl,(by show (0:Int) < ((ns.map V.int).length:Int); rw [YI]; lia),a,_,_,.int ns[j],rfl,rfl,VN.sq,(by rw [ej]; exact Cq (by rw [YS,YJ jl]; rfl)),?_⟩;refine ⟨_,rfl,?_⟩;exact fin _ (by first | exact Int.natCast_nonneg _ | exact Int.ofNat_nonneg _ | (split <;> lia))
end
end K46
namespace L2
open PySem PySem.Spec PyProof.Rows
def At (K:YL) (n:Str) (st:Stmt) (f:Addr) (fd:FuncData):Prop:=ZA K mainGlobals n=some (some (.ref f))/\DT K n n st f fd
section
variable {K:YL} {h:Heap} {mg:Str->Option Value} {n p q r t u:Str} {st:Stmt} {f:Addr} {fd:FuncData}
theorem at_mk {oc:Value} {od an:Option Addr} {osl:Array (Option Value)} {kV doc pm cdv ct:Value} (a:ZA K mainGlobals n=some (some (.ref f))) (l:K.lookup f=some ⟨oc,od,.func (ag n n (Ek st) (Cp st) (Am st) .none kV doc pm an cdv ct),osl⟩)
  (c:bp K cdv n=true) (k:bj K (.ref f)=true):At K n st f (ag n n (Ek st) (Cp st) (Am st) .none kV doc pm an cdv ct):=⟨a,Vj l c k⟩
abbrev BA (n:Str) (st:Stmt) (us:List Value) (ps:List (Str × Value)):Prop:=∀ (kV doc pm:Value) (an:Option Addr) (cdv ct:Value),bindArgs (ag n n (Ek st) (Cp st) (Am st) .none kV doc pm an cdv ct) ⟨us,[]⟩=pure ps
theorem Tu (X:K.In h) (G:h.Ns mainGlobals mg) (A:At K n st f fd) (hb:∀ x,BA n st [x] [(p,x)]):Fn K mg n st [p] f fd:=⟨A.2,ZV X G A.1,A.2.binds fun _ _ _ _ _ _ us hl=>by obtain ⟨x,rfl⟩:=len1 hl; exact hb ..⟩
theorem M1 (X:K.In h) (G:h.Ns mainGlobals mg) (A:At K n st f fd) (hb:∀ x y,BA n st [x,y] [(p,x),(q,y)]):Fn K mg n st [p,q] f fd:=⟨A.2,ZV X G A.1,A.2.binds fun _ _ _ _ _ _ us hl=>by obtain ⟨x,y,rfl⟩:=Th hl; exact hb ..⟩
theorem fa3 (X:K.In h) (G:h.Ns mainGlobals mg) (A:At K n st f fd) (hb:∀ x y z,BA n st [x,y,z] [(p,x),(q,y),(r,z)]):Fn K mg n st [p,q,r] f fd:=⟨A.2,ZV X G A.1,A.2.binds fun _ _ _ _ _ _ us hl=>by obtain ⟨x,y,z,rfl⟩:=len3 hl; exact hb ..⟩
end
end L2
namespace K46
open PySem L2
theorem all_mk {l:bK} {w:World} {K:YL} {h:Heap} {mg:Str->Option Value} {fa f1 f2 f3 f4 f5 f6 f7 f8 f9 Y6 f11 f12 f13 f14 f15 f16 f17 f18 f19 f20 f21 f22 f23 f24 f25 f26 f27 f28 f29 f30 f31:Addr} {d1 d2 d3 d4 d5 d6 d7 d8 d9 d10 d11 d12 d13 d14 d15 d16 d17 d18 d19 d20 Xo d22 d23 d24 d25 d26 d27 d28 d29 d30 WE:FuncData} (X:K.In h) (G:h.Ns mainGlobals mg) (hfa:mg "law"=some (.ref fa))
  (a1:At K "is_name" EX f1 d1) (a2:At K "are_rising" Dc f2 d2) (a3:At K "is_opening" CZ f3 d3) (a4:At K "openings" DW f4 d4) (a5:At K "most_houses" Ce f5 d5) (a6:At K "neighbours" CY f6 d6) (a7:At K "fars" K6 f7 d7) (a8:At K "site_fars" Dy f8 d8) (a9:At K "nearest" DM f9 d9) (a10:At K "plain_best" CW Y6 d10) (a11:At K "costs_of" C4 f11 d11) (a12:At K "exchanges" D4 f12 d12) (a13:At K "is_settled" Cy f13 d13) (a14:At K "bettered" Dm f14 d14) (a15:At K "better" E7 f15 d15) (a16:At K "outcomes_of" Cd f16 d16) (a17:At K "changed" EY f17 d17) (a18:At K "goings" FQ f18 d18) (a19:At K "houses_cost" CC f19 d19) (a20:At K "ways_cost" Dx f20 d20) (a21:At K "cost" Gx f21 Xo) (a22:At K "_law_take" AN f22 d22) (a23:At K "_law_names" Dz f23 d23) (a24:At K "_law_length" Cw f24 d24) (a25:At K "_law_map" C3 f25 d25) (a26:At K "_law_some" DX f26 d26) (a27:At K "_law_case" DY f27 d27) (a28:At K "_law_openings" Cv f28 d28) (a29:At K "_law_stepped" CB f29 d29) (a30:At K "_law_row_right" Cn f30 d30) (a31:At K "law" QM f31 WE)
  (z1:ZA K mainGlobals "len"=some none) (z2:ZA K mainGlobals "range"=some none) (z3:ZA K mainGlobals "abs"=some none) (z4:ZA K mainGlobals "int"=some none) (z5:ZA K mainGlobals "min"=some none) (z6:ZA K mainGlobals "tuple"=some none) (z7:ZA K mainGlobals "list"=some none) (z8:ZA K mainGlobals "sorted"=some none) (z9:ZA K mainGlobals "max"=some none) (z10:ZA K mainGlobals "dict"=some none) (z11:ZA K mainGlobals "sum"=some none) (z12:ZA K mainGlobals "all"=some none) (z13:ZA K mainGlobals "isinstance"=some none) (z14:ZA K mainGlobals "set"=some none) (z15:ZA K mainGlobals "str"=some none) (z16:ZA K mainGlobals "enumerate"=some none) {tc1:Tok} (w1:ZA K mainGlobals "MOST_LETTERS"=some (some (.int 6 tc1))) :
  ∃ fd:FuncData,(∀ (s:Shared) (v:Value),BindsTo s fd ⟨[v],[]⟩ [("_law_script",v)])/\∀ base:Heap,K.In base->base.Ns mainGlobals mg->A3 l.prog w K mg base Bt 9 fa fd ["_law_script"] (NF K):=by
 cases hfa.symm.trans (ZV X G a31.1)
 have y1:=Z1 X G z1;have y2:=Z1 X G z2;have y3:=Z1 X G z3;have y4:=Z1 X G z4;have y5:=Z1 X G z5;have y6:=Z1 X G z6;have y7:=Z1 X G z7;have y8:=Z1 X G z8;have y9:=Z1 X G z9;have Lu:=Z1 X G z10;have Qh:=Z1 X G z11;have M6:=Z1 X G z12;have Sd:=Z1 X G z13;have VH:=Z1 X G z14;have VG:=Z1 X G z15;have y16:=Z1 X G z16;have n1:=Tu X G a1 (p:="thing") fun _ _ _ _ _ _ _=>rfl
 have n2:=Tu X G a2 (p:="things") fun _ _ _ _ _ _ _=>rfl
 have n3:=M1 X G a3 (p:="case") (q:="thing") fun _ _ _ _ _ _ _ _=>rfl
 have n4:=Tu X G a4 (p:="case") fun _ _ _ _ _ _ _=>rfl
 have n5:=Tu X G a5 (p:="case") fun _ _ _ _ _ _ _=>rfl
 have n6:=Tu X G a6 (p:="web") fun _ _ _ _ _ _ _=>rfl
 have n7:=M1 X G a7 (p:="web") (q:="place") fun _ _ _ _ _ _ _ _=>rfl
 have n8:=Tu X G a8 (p:="case") fun _ _ _ _ _ _ _=>rfl
 have n9:=M1 X G a9 (p:="web") (q:="starts") fun _ _ _ _ _ _ _ _=>rfl
 have n10:=Tu X G a10 (p:="case") fun _ _ _ _ _ _ _=>rfl
 have V6:=M1 X G a11 (p:="case") (q:="chosen") fun _ _ _ _ _ _ _ _=>rfl
 have n12:=M1 X G a12 (p:="case") (q:="opening") fun _ _ _ _ _ _ _ _=>rfl
 have n13:=M1 X G a13 (p:="case") (q:="opening") fun _ _ _ _ _ _ _ _=>rfl
 have n14:=M1 X G a14 (p:="case") (q:="opening") fun _ _ _ _ _ _ _ _=>rfl
 have WX:=M1 X G a15 (p:="case") (q:="opening") fun _ _ _ _ _ _ _ _=>rfl
 have Wb:=M1 X G a16 (p:="case") (q:="opening") fun _ _ _ _ _ _ _ _=>rfl
 have Wa:=fa3 X G a17 (p:="opening") (q:="out") (r:="more") fun _ _ _ _ _ _ _ _ _=>rfl
 have XE:=M1 X G a18 (p:="case") (q:="opening") fun _ _ _ _ _ _ _ _=>rfl
 have XD:=M1 X G a19 (p:="case") (q:="opening") fun _ _ _ _ _ _ _ _=>rfl
 have XB:=M1 X G a20 (p:="case") (q:="opening") fun _ _ _ _ _ _ _ _=>rfl
 have XA:=M1 X G a21 (p:="case") (q:="opening") fun _ _ _ _ _ _ _ _=>rfl
 have UW:=M1 X G a22 (p:="_law_pen") (q:="_law_many") fun _ _ _ _ _ _ _ _=>rfl
 have n23:=M1 X G a23 (p:="_law_pen") (q:="_law_many") fun _ _ _ _ _ _ _ _=>rfl
 have n24:=Tu X G a24 (p:="_law_pen") fun _ _ _ _ _ _ _=>rfl
 have n25:=fa3 X G a25 (p:="_law_pen") (q:="_law_names_here") (r:="_law_shape") fun _ _ _ _ _ _ _ _ _=>rfl
 have n26:=fa3 X G a26 (p:="_law_pen") (q:="_law_names_here") (r:="_law_many") fun _ _ _ _ _ _ _ _ _=>rfl
 have n27:=M1 X G a27 (p:="_law_pen") (q:="_law_shape") fun _ _ _ _ _ _ _ _=>rfl
 have n28:=Tu X G a28 (p:="_law_case_here") fun _ _ _ _ _ _ _=>rfl
 have n29:=fa3 X G a29 (p:="_law_case_here") (q:="_law_one") (r:="_law_other") fun _ _ _ _ _ _ _ _ _=>rfl
 have n30:=fa3 X G a30 (p:="_law_case_here") (q:="_law_opening") (r:="_law_least") fun _ _ _ _ _ _ _ _ _=>rfl
 obtain ⟨oc,od,kV,doc,pm,an,cdv,ct,osl,e,lk,hcd⟩:=a31.2.ex;exact ⟨WE,fun s v=>by subst e; exact .of_eq rfl,fun base _ _=>US y1 y2 UW (BO y3 y1 a22.2) n27 (LW y4 y1 y5 y6 UW (BO y3 y1 a22.2) n23 (KN y1 y2 UW (BO y3 y1 a22.2) a23.2) n24 (Fs y4 UW (BO y3 y1 a22.2) a24.2) n26 (LV y1 y7 y2 y8 UW (BO y3 y1 a22.2) a26.2) n25 (MR y4 y1 y9 y2 y8 y6 UW (BO y3 y1 a22.2) n24 (Fs y4 UW (BO y3 y1 a22.2) a24.2) a25.2) a27.2) n28 (HA y4 y1 y8 a28.2) n10 (Jy y5 V6 (Ct Lu y5 Qh n8 (BW n7 (Fc ⟨⟨n6.F,n6.mg,n6.b⟩,y5,n9.F,n9.mg,n9.b⟩ a7.2) a8.2) a11.2) n4 (LU y1 y8 n5 (By y1 y5 a5.2) a4.2) a10.2) XA (KP XD (Dn Lu Qh a19.2) XB (Ef Lu Qh XE (G6 n9 (Eg ⟨n6.F,n6.mg,n6.b⟩ y5 a9.2) a18.2) a20.2) a21.2) n13 (Ft WX (Fd y7 y5 Wb (BN Wa (Dp y8 y6 a17.2) n3 (Cg M6 Lu Sd y1 y6 n5 (By y1 y5 a5.2) n2 (Ci M6 y7 y8 VH n1 (FX ⟨y1,Sd,VG,M6,⟨_,ZV X G w1⟩⟩ a1.2) a2.2) a3.2) a16.2) V6 (Ct Lu y5 Qh n8 (BW n7 (Fc ⟨⟨n6.F,n6.mg,n6.b⟩,y5,n9.F,n9.mg,n9.b⟩ a7.2) a8.2) a11.2) a15.2) a13.2) n14 (Hn WX (Fd y7 y5 Wb (BN Wa (Dp y8 y6 a17.2) n3 (Cg M6 Lu Sd y1 y6 n5 (By y1 y5 a5.2) n2 (Ci M6 y7 y8 VH n1 (FX ⟨y1,Sd,VG,M6,⟨_,ZV X G w1⟩⟩ a1.2) a2.2) a3.2) a16.2) V6 (Ct Lu y5 Qh n8 (BW n7 (Fc ⟨⟨n6.F,n6.mg,n6.b⟩,y5,n9.F,n9.mg,n9.b⟩ a7.2) a8.2) a11.2) a15.2) a14.2) n30 (G5 y16 y1 XA (KP XD (Dn Lu Qh a19.2) XB (Ef Lu Qh XE (G6 n9 (Eg ⟨n6.F,n6.mg,n6.b⟩ y5 a9.2) a18.2) a20.2) a21.2) n13 (Ft WX (Fd y7 y5 Wb (BN Wa (Dp y8 y6 a17.2) n3 (Cg M6 Lu Sd y1 y6 n5 (By y1 y5 a5.2) n2 (Ci M6 y7 y8 VH n1 (FX ⟨y1,Sd,VG,M6,⟨_,ZV X G w1⟩⟩ a1.2) a2.2) a3.2) a16.2) V6 (Ct Lu y5 Qh n8 (BW n7 (Fc ⟨⟨n6.F,n6.mg,n6.b⟩,y5,n9.F,n9.mg,n9.b⟩ a7.2) a8.2) a11.2) a15.2) a13.2) n14 (Hn WX (Fd y7 y5 Wb (BN Wa (Dp y8 y6 a17.2) n3 (Cg M6 Lu Sd y1 y6 n5 (By y1 y5 a5.2) n2 (Ci M6 y7 y8 VH n1 (FX ⟨y1,Sd,VG,M6,⟨_,ZV X G w1⟩⟩ a1.2) a2.2) a3.2) a16.2) V6 (Ct Lu y5 Qh n8 (BW n7 (Fc ⟨⟨n6.F,n6.mg,n6.b⟩,y5,n9.F,n9.mg,n9.b⟩ a7.2) a8.2) a11.2) a15.2) a14.2) n29 (I0 y1 y6 XA (KP XD (Dn Lu Qh a19.2) XB (Ef Lu Qh XE (G6 n9 (Eg ⟨n6.F,n6.mg,n6.b⟩ y5 a9.2) a18.2) a20.2) a21.2) n12 (KO y7 y8 Wb (BN Wa (Dp y8 y6 a17.2) n3 (Cg M6 Lu Sd y1 y6 n5 (By y1 y5 a5.2) n2 (Ci M6 y7 y8 VH n1 (FX ⟨y1,Sd,VG,M6,⟨_,ZV X G w1⟩⟩ a1.2) a2.2) a3.2) a16.2) V6 (Ct Lu y5 Qh n8 (BW n7 (Fc ⟨⟨n6.F,n6.mg,n6.b⟩,y5,n9.F,n9.mg,n9.b⟩ a7.2) a8.2) a11.2) a12.2) a29.2) a30.2) a31.2⟩
theorem UB {K:YL} {H:Hp} {a:Addr} {xs:List V} (o:TK H) (h:AD K H a xs):Nr K H a xs:=by
 rcases h with (h | ⟨ob,h⟩) | h
 ·rcases o a with z | ⟨ob,ys,z⟩ <;> (rw [h] at z; cases z)
 ·exact .inl ⟨ob,h⟩
 ·exact .inr h
theorem walk {l:bK} {q:Program} {loose:List Str} {XP:(Str->Option Value)->Heap->Prop} {YP:World->Heap->Prop} {d:DefRec} {K:Params->YL} (hn:l.most=some 63) (hdf:d.params.defaults=[])
  (hY:∀ (w:World) (h:Heap),YP w h->(K w.params).In h)
  (F:∀ (w:World) (mg:Str->Option Value) (fa:Addr) (h:Heap),(K w.params).In h->h.Ns mainGlobals mg->mg d.name=some (.ref fa) ->
   ∃ fd:FuncData,(∀ (s:Shared) (u:Value),BindsTo s fd ⟨[u],[]⟩ [("_law_script",u)])/\∀ base:Heap,(K w.params).In base->base.Ns mainGlobals mg->A3 l.prog w (K w.params) mg base Bt 9 fa fd ["_law_script"] (NF (K w.params))) :
  dh q loose XP YP l.row.toRowW d [] (fun f vs=>PySem.call f vs):=
 L2.walk_of (n:=63) (k:=9) (x:="_law_script") (CX:=fun _=>Bt) (sp:=fun w=>NF (K w.params)) hn (by decide) hdf ⟨rfl,by decide,by decide,rfl⟩ hY F (fun _ _ a ns hl ho hS=>⟨a,ns,rfl,UB ho hS,hl,fun _=>rfl⟩) fun _ _ _ _ _ z=>z
end K46
structure PySem.W.Fast:Prop where
  (tw2610114970332826178 tw17278698285730570128 tw1211826600165094119 tw7256961994470769253 tw10485514769596935066 tw18001230884879942931 tw6461912619296627545 tw6609791122219123499 tw1489284746645159836 tw10992875512030574765 tw13404463245648940860 tw11488557303362280657 tw4613189738578980502 tw5252964623313620045 tw8828401209513011980 tw5626340925419698461 tw11978397555101126113 tw11706072723656184 tw13303454840727807595 tw17983802993572120446 tw1296811188250510897 tw14133033033589050655 tw13519339541774976466 tw12263010191020810485 tw15259392382227426720 tw8993046027948375473 tw10724836647534471936 tw9208356431439004773 tw2384487391180807543 tw15357079624212585926 tw2552501499012610204 tw9507547551834649540 tw735591741466365519 tw10910104167094689416 tw10084543745542419187 tw15932524016386596261 tw5236686721980998921 tw8856940279046671823 tw14693763828977081369 tw14509922079862051998 tw6821541743345025633 tw723594378870224158 tw5485937270117425529 tw11253811255110982084 tw5464134629080546432 tw164841954538585850 tw1739342639526537796 tw4296972306172782870 tw13777000093004319454 tw12493169045864363901 tw18056274750105609023 tw1558960988899508186 tw11933146142556990305 tw3711859875455139246 tw6589530882889226049 tw12322922383172436573 tw10494724735639564482 tw16218041610642958030 tw11314585197703157479 tw15854350069893227759 tw14152047871106855339 tw9962461534129038908 tw695439114406647743 tw1788992857317244235 tw13177069473471941728 tw6012485997914537488 tw2327705025410769905 tw6946031380962408177 tw7987574102735552219 tw3158226993255343244 tw5974018830360907630 tw13589112370810943784 tw18068324814913127900 tw3347253666151805407 tw700235237770898231 tw853810753235121391 tw15886420613538446735 tw8153881739892080290 tw4417338204282264487 tw15031263971878156339 tw11213738119873588400 tw4826940524824853304 tw5210892008003555733 tw2073585610532614367 tw8604591720013935211 tw5379235840386418570:True)
open PySem PySem.W PyProof.Rows
set_option maxRecDepth 100000 in
set_option maxHeartbeats 0 in
theorem PySem.Challenge.cw_openhouses_k46_whole_better_and_better_holds : PySem.Challenge.rw_openhouses_k46_whole_better_and_better.Holds := by
 w_on; o_law; k_head; (case hw=>w_witness2)
 k_fill
 refine K46.walk (l:=PySem.Challenge.rw_openhouses_k46_whole_better_and_better) rfl rfl (fun w h Y=>PySem.W.kIn_of Y) ?F
 case F=>
  intro w mg fa h KX G hmg;refine' K46.all_mk KX G hmg (L2.at_mk ?a1 ?l1 ?c1 ?k1) (L2.at_mk ?a2 ?l2 ?c2 ?k2) (L2.at_mk ?a3 ?l3 ?c3 ?k3) (L2.at_mk ?a4 ?l4 ?c4 ?k4) (L2.at_mk ?a5 ?l5 ?c5 ?k5) (L2.at_mk ?a6 ?l6 ?c6 ?k6) (L2.at_mk ?a7 ?l7 ?c7 ?k7) (L2.at_mk ?a8 ?l8 ?c8 ?k8) (L2.at_mk ?a9 ?l9 ?c9 ?k9) (L2.at_mk ?a10 ?l10 ?c10 ?k10) (L2.at_mk ?a11 ?l11 ?c11 ?k11) (L2.at_mk ?a12 ?l12 ?c12 ?k12) (L2.at_mk ?a13 ?l13 ?c13 ?k13) (L2.at_mk ?a14 ?l14 ?c14 ?k14) (L2.at_mk ?a15 ?l15 ?c15 ?k15) (L2.at_mk ?a16 ?l16 ?c16 ?k16) (L2.at_mk ?a17 ?l17 ?c17 ?k17) (L2.at_mk ?a18 ?l18 ?c18 ?k18) (L2.at_mk ?a19 ?l19 ?c19 ?k19) (L2.at_mk ?a20 ?l20 ?c20 ?k20) (L2.at_mk ?a21 ?l21 ?c21 ?k21) (L2.at_mk ?a22 ?l22 ?c22 ?k22) (L2.at_mk ?a23 ?l23 ?c23 ?k23) (L2.at_mk ?a24 ?l24 ?c24 ?k24) (L2.at_mk ?a25 ?l25 ?c25 ?k25) (L2.at_mk ?a26 ?l26 ?c26 ?k26) (L2.at_mk ?a27 ?l27 ?c27 ?k27) (L2.at_mk ?a28 ?l28 ?c28 ?k28) (L2.at_mk ?a29 ?l29 ?c29 ?k29) (L2.at_mk ?a30 ?l30 ?c30 ?k30) (L2.at_mk ?a31 ?l31 ?c31 ?k31) ?z1 ?z2 ?z3 ?z4 ?z5 ?z6 ?z7 ?z8 ?z9 ?z10 ?z11 ?z12 ?z13 ?z14 ?z15 ?z16 ?w1;any_goals k_is
