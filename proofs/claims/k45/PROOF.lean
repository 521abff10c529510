import PyProof.Rows.All
import Wide.All
import OpenK.AllK
import Wide.FinOn
import Lean
import PyProof.EqAt
import PyProof.EqKinds
import PyProof.TupleCall
import PyProof.P3Eq
import PyProof.NeData
import PyProof.P3In
import PyProof.StrLawsChain
import KE.KIntText
import KE.IntTextLaws
import PyProof.Rows.StrJoinMade
import PyProof.Rows.FStr
import PyProof.ListMulRoad
import PyProof.EnumStmt
import PySem.Challenge.RW_openhouses_k45_whole_there_and_back
open List renaming length_map→XJ,getElem?_eq_getElem→XO,mem_cons→XX,mem_of_getElem?→XY,length_append→XZ,getElem?_eq_some_iff→Yb,mem_map→Yc,getElem?_map→Yd,not_mem_nil→Yg,map_append→Yi,mem_append_right→Yk,map_cons→Ym,mem_singleton→Yn,size_toArray→Yp,getElem_of_mem→Yq,mem_cons_of_mem→Yr,mem_cons_self→Ys,mem_append→Yt,take_length→Yu,getD_eq_getElem?_getD→Yw,take_add_one→Yx,length_cons→Yz,map_map→Y2,mem_filter→Y3,getElem?_append_right→Y4,getElem?_append_left→Y5,length_take→Y7,length_filter_le→YB,nodup_cons→YC,length_singleton→YD,nodup_append→YJ,length_eq_zero_iff→YK,append_nil→YN,getElem?_cons_zero→YO,pairwise_iff_getElem→YQ,append_assoc→YR,mem_append_left→YS,getElem_mem→YT,getElem_map→YU,pairwise_cons→YY,all_eq_true→Za,getElem?_of_mem→Zc,length_pos_iff→Zd,ext_getElem→Ze,length→Zh,range→Zi,filter_append→Zj,find?_cons→Zl,lt_trans→Zm,pairwise_map→Zn,filter_cons→Zo,any_eq_true→Zp,cons_append→Zq,filter_sublist→Zs,length_zip→Zt,pairwise_singleton→Zu,getElem?_cons_succ→Zv,not_lt→Zw,nodup_nil→Zy,length_range→Zz,getElem_take→Z0,flatMap_cons→Z1,any_cons→Z5,map_congr_left→Z8,mem_map_of_mem→Z9,filter_eq_self→ZA,cons→ZD,mem_range→ZE,nodup_iff_pairwise_ne→ZF,lt_asymm→ZJ,lookup_cons→ZM,nil_sublist→ZN,take_of_length_le→ZO,getElem?_eq_none→ZV,length_filter_lt_length_iff_exists→ZW,lt_irrefl→ZY,filterMap_cons→ab,all_cons→ag,mem_filterMap→ah,zip_cons_cons→aj,all_map→ar,getElem_inj→az,getElem_zip→aA,sublist_nil→aB,mem_flatMap→aE,of_mem_zip→aI,perm_ext_iff_of_nodup→aL,getElem?_eq_none_iff→aN,isEmpty_eq_false_iff→aO,length_filterMap_le→aP,getElem?_set_self→aV,getElem_cons_drop→aW,take_append_drop→bg,getElem?_set_ne→bh,mem_erase_of_ne→br,pairwise_append→bx,getElem_toArray→b0,length_eraseIdx→b5,flatMap_append→b8,map_inj_right→b9,take_sublist→bD,flatten_cons→bG,ext_getElem?→bJ,length_drop→bL,flatMap_nil→bO,length_nil→bP,nil_append→bQ,foldl_cons→bR,countP_map→bT,filter_nil→bV,replicate→bW,filterMap→bX,take_zero→bZ,le_trans→cj,sum_cons→cn,map_nil→cu,map→cI
open PySem.Heap renaming get?_push_of_some→XQ,lt_size→Ye,get?_push_size→Yf,size_push→YE,get?_update_other→YG,get?_update_self→YH,get?_update_ne→ae,size_update→aD
open PySem.W renaming Frag→XU,mg_none_of→YF,nsIn→YM,kia_one→YX,fnOf→Zf,mg_of→Z3,kitOne→ZR,keepIn→ZS,codeIn→ZT,methodObj→af,instObj→au,OpenLaw→aw,lookIn→aF,cellsFrom_some→aM,kitx_list→bj,kitx_dict→bp,plainGet→b6,findIn→bC,KdlSrc→bH,WalkO→bM
open Nat renaming le_refl→Ya,ne_of_lt→Yh,lt_of_lt_of_le→Yj,le_trans→Yv,lt_succ_of_lt→Yy,lt_succ_self→Y6,le_succ→Y8,zero_le→Y9,lt_irrefl→YI,ne_of_gt→YL,zero_add→Zr,sub_self→Z2,min_le_left→Z7,le_succ_of_le→ZK,lt_or_ge→ZP,le_of_lt→ZQ,not_lt→ZU,pow_le_pow_right→ZZ,min_le_right→aG,add_mul→b7,add_sub_cancel→bE,eq_zero_or_pos→bI,lt_trichotomy→bN,not_lt_zero→cc,succ_mul→cz,min_self→cA,log2_lt→cD,one_mul→cF,mod_lt→cH
open Bool renaming false_ne_true→Yl,false_eq_true→Y1,and_eq_true→YA,eq_iff_iff→YZ,not_eq_true'→ZH,and_true→ZI,false_and→ZX,or_false→cg,not_true→cq
open Option renaming some→Yo,none→Z4,mem_toList→ZG,isSome_map→ai,isSome_iff_exists→aK,isSome_some→bq,map_some→bF,toList→bU
open Array renaming length_toList→Y0,getElem?_eq_getElem→YV,getElem?_toList→YW,getElem?_eq_none→Zx,perm_iff_toList_perm→ZC,toList_append→aa,toList→ak,toList_inj→ax,getD_eq_getD_getElem?→aH,ext→aQ,mem_of_getElem?→aU,mem_toList_iff→aX,toArray_toList→bc,toList_push→bA,getD→cy
open Int renaming emod_nonneg→Zb,mul_le_mul_of_nonneg_right→Zg,emod_lt_of_pos→Zk,le_refl→Z6,toNat_natCast→ZL,lt_of_le_of_lt→aq,zero_add→ay,natCast_add→aJ,add_assoc→aT,ediv_one→aY,add_comm→aZ,natAbs_dvd_natAbs→bz,toNat_of_nonneg→bB,lt_of_lt_of_le→bK,natCast_mul→bY,lt_trans→cB,add_mul→cE,mul_add→cG
set_option Elab.async false
set_option linter.all false
set_option maxRecDepth 100000
set_option maxHeartbeats 4000000
namespace L2
open PySem PySem.W PyProof.Rows
structure NQ (lt:Keyed->Keyed->Bool):Prop where
 irr:∀ a,lt a a=false
 tra:∀ a b c,lt a b=true->lt b c=true->lt a c=true
 neg:∀ a b c,lt a c=true->lt a b=true\/lt b c=true
def Nl (lt:Keyed->Keyed->Bool) (a b:Keyed):Prop:=lt b a=false
section
variable {lt:Keyed->Keyed->Bool}
theorem NQ.rfl' (h:NQ lt) (a:Keyed):Nl lt a a:=h.irr a
theorem NQ.of_lt (h:NQ lt) {a b:Keyed} (e:lt a b=true):Nl lt a b:=by
 unfold Nl;cases z:lt b a
 ·rfl
 ·have:=h.tra _ _ _ e z;rw [h.irr] at this;cases this
theorem NQ.trans (h:NQ lt) {a b c:Keyed} (x:Nl lt a b) (y:Nl lt b c):Nl lt a c:=by
 unfold Nl at *;cases z:lt c a
 ·rfl
 ·rcases h.neg _ b _ z with q | q
  ·rw [y] at q; cases q
  ·rw [x] at q; cases q
end
def BU (xs:Array Keyed) (i:Nat):Keyed:=xs.getD i (Value.none,Value.none)
theorem Ny {xs:Array Keyed} {i:Nat} (h:i < xs.size):xs[i]? = some (BU xs i):=by
 unfold BU;simp [cy,h]
theorem Ih {xs ys:Array Keyed} {i j:Nat} (h:xs[i]? = ys[j]?):BU xs i=BU ys j:=by
 unfold BU;rw [aH,aH,h]
theorem Nx {xs:Array Keyed} {i:Nat} (h:i < xs.size):BU xs i ∈ xs:=aU (Ny h)
def Tf (prog:Program) (w:World) (A:Around) (s:Shared) (κ:SortKind) (lt:Keyed->Keyed->Bool) (a0:Array Keyed):Prop:=
 ∀ x y,x ∈ a0->y ∈ a0->∀ (Q:Bool->Shared->Prop) (E:Value->Shared->Prop),Q (lt x y) s->wpAny (model prog w) A (keyLt' κ x.1 y.1) Q E s
section
variable {prog:Program} {w:World} {A:Around} {E:Value->Shared->Prop} {s:Shared} {κ:SortKind} {lt:Keyed->Keyed->Bool} {a0:Array Keyed}
theorem Jj {xs:Array Keyed} {i:Nat} {Q:Keyed->SortSt->Prop} {st:SortSt} (hi:i < xs.size) (h:Q (BU xs i) st):wpS (model prog w) A E s (elem' xs i) Q st:=by
 rw [elem'_eq,Ny hi];exact wpS_pure h
theorem RJ {x y:Keyed} {Q:Option Bool->SortSt->Prop} {st:SortSt} (an:Tf prog w A s κ lt a0) (hk:kindOf st=κ) (hx:x ∈ a0) (hy:y ∈ a0) (h:Q (some (lt x y)) st) :
  wpS (model prog w) A E s (lt' x y) Q st:=by
 rw [lt'_eq];refine wpS_bind (wpS_get ?_);rw [hk];refine wpS_bind (wpS_lift (wpAny_attempt (an x y hx hy _ _ ⟨rfl,?_⟩)));exact wpS_pure h
theorem CU {i j:Nat} {Q:Option Bool->SortSt->Prop} {st:SortSt} (an:Tf prog w A s κ lt a0) (hk:kindOf st=κ) (hp:(arrOf st).Perm a0) (hi:i < a0.size) (hj:j < a0.size)
  (h:Q (some (lt (BU (arrOf st) i) (BU (arrOf st) j))) st):wpS (model prog w) A E s (ltAt' i j) Q st:=by
 rw [ltAt'_eq];refine wpS_bind (wpS_get ?_);have e:=hp.size_eq;refine wpS_bind (Jj (by lia) (wpS_bind (Jj (by lia) ?_)));exact RJ an hk ((Array.Perm.mem_iff hp).mp (Nx (by lia))) ((Array.Perm.mem_iff hp).mp (Nx (by lia))) h
theorem KC {ρ:Type} {body:Nat->Option ρ × Nat × Nat->StateT SortSt Sem (ForInStep (Option ρ × Nat × Nat))} {f:Nat->Bool} {n lo hi:Nat} {st:SortSt}
  (hs:∀ x l (R:ForInStep (Option ρ × Nat × Nat)->SortSt->Prop),R (.done (none,l,l)) st->wpS (model prog w) A E s (body x (none,l,l)) R st)
  (hg:∀ x l r (R:ForInStep (Option ρ × Nat × Nat)->SortSt->Prop),l < r->r<=n ->
   (f (l + (r - l) / 2)=true->R (.yield (none,l + (r - l) / 2 + 1,r)) st)->(f (l + (r - l) / 2)=false->R (.yield (none,l,l + (r - l) / 2)) st)->wpS (model prog w) A E s (body x (none,l,r)) R st)
  (hl:lo<=hi) (hn:hi<=n) (mono:∀ i j,i<=j->j < n->f j=true->f i=true)
  (h1:∀ i,i < lo->f i=true) (h2:∀ i,hi<=i->i < n->f i=false) :
  wpS (model prog w) A E s (forIn [0:n] (none,lo,hi) body) (fun c AH=>AH=st/\∃ r,c=(none,r,r)/\r<=n/\(∀ i,i < r->f i=true)/\(∀ i,r<=i->i < n->f i=false)) st:=by
 refine wpS_forRange (I:=fun x c AH=>AH=st/\∃ l r,c=(none,l,r)/\l<=r/\r<=n/\r - l<=n - x/\(∀ i,i < l->f i=true)/\(∀ i,r<=i->i < n->f i=false)) ?_ ?_ ⟨rfl,lo,hi,rfl,hl,hn,by lia,h1,h2⟩
 ·rintro x c AH _ hx ⟨rfl,l,r,rfl,q1,q2,q3,q4,q5⟩;by_cases hlr:l < r
  ·have hm:l + (r - l) / 2 < r:=by lia
   refine hg _ _ _ _ hlr q2 (fun e=>?_) (fun e=>?_)
   ·exact ⟨rfl,_,r,rfl,by lia,by lia,by lia,fun i i1=>mono _ _ (by lia) (by lia) e,q5⟩
   ·refine ⟨rfl,l,_,rfl,by lia,by lia,by lia,q4,fun i i1 i2=>?_⟩;cases z:f i
    ·rfl
    ·rw [mono _ _ i1 i2 z] at e; cases e
  ·have:l=r:=by lia
   subst this;exact hs _ _ _ ⟨rfl,l,rfl,q2,q4,q5⟩
 ·rintro c AH ⟨rfl,l,r,rfl,q1,q2,q3,q4,q5⟩;have:l=r:=by lia
  subst this;exact ⟨rfl,l,rfl,q2,q4,q5⟩
end
section lists
variable {lt:Keyed->Keyed->Bool}
theorem Ig {xs:Array Keyed} {i:Nat} (h:i < xs.toList.length):xs.toList[i]=BU xs i:=by
 have h':i < xs.size:=by simpa using h
 unfold BU;simp [cy,h']
theorem T7 {xs:Array Keyed} (h:∀ i j,i < j->j < xs.size->Nl lt (BU xs i) (BU xs j)):xs.toList.Pairwise (Nl lt):=by
 rw [YQ];intro i j hi hj hij;rw [Ig,Ig];exact h i j hij (by simpa using hj)
end lists
section
variable {prog:Program} {w:World} {A:Around} {E:Value->Shared->Prop} {s:Shared} {κ:SortKind} {lt:Keyed->Keyed->Bool} {a0:Array Keyed}
end
section
variable {prog:Program} {w:World} {A:Around} {E:Value->Shared->Prop} {s:Shared} {κ:SortKind} {lt:Keyed->Keyed->Bool} {a0:Array Keyed}
end
section segs
variable {lt:Keyed->Keyed->Bool}
def SS (lt:Keyed->Keyed->Bool) (xs:Array Keyed) (lo hi:Nat):Prop:=∀ i j,lo<=i->i<=j->j < hi->Nl lt (BU xs i) (BU xs j)
def NS (lt:Keyed->Keyed->Bool) (xs:Array Keyed) (lo hi:Nat):Prop:=∀ i j,lo<=i->i<=j->j < hi->Nl lt (BU xs j) (BU xs i)
theorem Dh {xs:Array Keyed} {i j:Nat} (hj:j<=xs.size) (k:Nat):BU (mirror xs i j ((j - i) / 2)) k=if i<=k/\k < j then BU xs (i + j - 1 - k) else BU xs k:=by
 have e:=getElem?_mirror_all (i:=i) hj k;split at e
 ·rw [if_pos ‹_›]; exact Ih e
 ·rw [if_neg ‹_›]; exact Ih e
theorem Fo {xs:Array Keyed} {src d:Nat} (hs:src < xs.size) (hd:d<=src) (k:Nat) :
  BU (bubble xs src d) k=if k=src - d then BU xs src else if src - d < k/\k<=src then BU xs (k - 1) else BU xs k:=by
 have e:=getElem?_bubble hs d hd k;by_cases h1:k=src - d
 ·rw [if_pos h1] at e ⊢; exact Ih e
 ·by_cases h2:src - d < k/\k<=src
  ·rw [if_neg h1,if_pos h2] at e ⊢; exact Ih e
  ·rw [if_neg h1,if_neg h2] at e ⊢; exact Ih e
theorem NS.mirror {xs:Array Keyed} {lo hi:Nat} (h:NS lt xs lo hi) (hs:hi<=xs.size):SS lt (mirror xs lo hi ((hi - lo) / 2)) lo hi:=by
 intro i j h1 h2 h3;rw [Dh hs,Dh hs,if_pos ⟨h1,by lia⟩,if_pos ⟨by lia,h3⟩];exact h _ _ (by lia) (by lia) (by lia)
theorem NS.even {xs:Array Keyed} {lo p hi:Nat} (h:NS lt xs lo hi) (hs:hi<=xs.size) (hp:lo<=p) (e:∀ i j,p<=i->i < hi->p<=j->j < hi->Nl lt (BU xs i) (BU xs j)) {top:Nat} (ht:hi<=top) (h':NS lt xs lo top) :
  NS lt (PyProof.Rows.mirror xs p hi ((hi - p) / 2)) lo top:=by
 intro i j h1 h2 h3;rw [Dh hs,Dh hs];by_cases c1:p<=j/\j < hi
 ·rw [if_pos c1];by_cases c2:p<=i/\i < hi
  ·rw [if_pos c2];exact e _ _ (by lia) (by lia) (by lia) (by lia)
  ·rw [if_neg c2];exact h' _ _ h1 (by lia) (by lia)
 ·rw [if_neg c1];by_cases c2:p<=i/\i < hi
  ·rw [if_pos c2];exact h' _ _ (by lia) (by lia) h3
  ·rw [if_neg c2];exact h' _ _ h1 h2 h3
def Kp (xs ys:Array Keyed) (lo:Nat):Prop:=ys.Perm xs/\∀ k,k < lo->BU ys k=BU xs k
theorem Kp.refl (xs:Array Keyed) (lo:Nat):Kp xs xs lo:=⟨Array.Perm.refl _,fun _ _=>rfl⟩
theorem Kp.size {xs ys:Array Keyed} {lo:Nat} (h:Kp xs ys lo):ys.size=xs.size:=h.1.size_eq
theorem Kp.mirror {xs ys:Array Keyed} {lo i j:Nat} (h:Kp xs ys lo) (hj:j<=xs.size) (hi:lo<=i):Kp xs (PyProof.Rows.mirror ys i j ((j - i) / 2)) lo:=by
 refine ⟨(mirror_perm _ _ _ _).trans h.1,fun k hk=>?_⟩;rw [Dh (by rw [h.size]; exact hj),if_neg (by lia)];exact h.2 k hk
theorem Kp.bubble {xs ys:Array Keyed} {lo src d:Nat} (h:Kp xs ys lo) (hs:src < xs.size) (hd:lo + d<=src):Kp xs (PyProof.Rows.bubble ys src d) lo:=by
 refine ⟨(bubble_perm _ _ _).trans h.1,fun k hk=>?_⟩;rw [Fo (by rw [h.size]; exact hs) (by lia),if_neg (by lia),if_neg (by lia)];exact h.2 k hk
end segs
section
variable {prog:Program} {w:World} {A:Around} {E:Value->Shared->Prop} {s:Shared} {κ:SortKind} {lt:Keyed->Keyed->Bool} {a0:Array Keyed}
theorem Fx {i j:Nat} {Q:Unit->SortSt->Prop} {st:SortSt} (h:Q () (setArr st (mirror (arrOf st) i j ((j - i) / 2)))):wpS (model prog w) A E s (reverseSlice' i j) Q st:=by
 rw [reverseSlice'_eq];exact wpS_modify h
theorem ML {body:Nat->Option (Option Nat) × Nat->StateT SortSt Sem (ForInStep (Option (Option Nat) × Nat))} {f:Nat->Bool} {a nrem:Nat} {st:SortSt} (ha:a<=nrem)
  (hb:∀ x n (R:ForInStep (Option (Option Nat) × Nat)->SortSt->Prop),a<=n->n < nrem->(f n=true->R (.done (none,n)) st)->(f n=false->R (.yield (none,n + 1)) st)->wpS (model prog w) A E s (body x (none,n)) R st) :
  wpS (model prog w) A E s (forIn [a:nrem] (none,a) body) (fun c AH=>AH=st/\∃ n,c=(none,n)/\a<=n/\n<=nrem/\(∀ i,a<=i->i < n->f i=false)/\(n=nrem\/f n=true)) st:=by
 refine wpS_forRange (I:=fun x c AH=>AH=st/\c=(none,x)/\(∀ i,a<=i->i < x->f i=false)) ?_ ?_ ⟨rfl,rfl,fun i h1 h2=>by lia⟩
 ·rintro x c AH h1 h2 ⟨rfl,rfl,q⟩;refine hb _ _ _ h1 h2 (fun e=>⟨rfl,x,rfl,h1,by lia,q,.inr e⟩) (fun e=>⟨rfl,rfl,fun i i1 i2=>?_⟩);by_cases z:i=x
  ·rw [z]; exact e
  ·exact q i i1 (by lia)
 ·rintro c AH ⟨rfl,rfl,q⟩;rw [Nat.max_eq_right ha] at q ⊢;exact ⟨rfl,nrem,rfl,ha,Ya _,q,.inl rfl⟩
theorem Th {xs:Array Keyed} (sw:NQ lt) {lo a n:Nat} (h:SS lt xs lo (lo + a)) (ha:1<=a) (q:∀ i,a<=i->i < n->lt (BU xs (lo + i)) (BU xs (lo + i - 1))=false):SS lt xs lo (lo + n):=by
 have step:∀ d,a + d<=n->SS lt xs lo (lo + (a + d)):=by
  intro d;induction d with
  | zero=>intro _; exact h
  | succ d ih=>
   intro hd i j h1 h2 h3;by_cases hj:j < lo + (a + d)
   ·exact ih (by lia) i j h1 h2 hj
   ·have ej:j=lo + (a + d):=by lia
    by_cases hi:i=j
    ·rw [hi]; exact sw.rfl' _
    ·have q1:=q (a + d) (by lia) (by lia);rw [<-ej] at q1;exact sw.trans (ih (by lia) i (j - 1) h1 (by lia) (by lia)) q1
 rcases ZP n a with Bu | hge
 ·exact fun i j h1 h2 h3=>h i j h1 h2 (by lia)
 ·have:=step (n - a) (by lia);rw [show a + (n - a)=n by lia] at this;exact this
theorem IM {lo nrem:Nat} {Q:Option Nat->SortSt->Prop} {st:SortSt} (sw:NQ lt) (an:Tf prog w A s κ lt a0) (hk:kindOf st=κ) (hp:(arrOf st).Perm a0) (hn:lo + nrem<=a0.size) (h1:1<=nrem)
  (h:∀ m ys,Kp (arrOf st) ys lo->1<=m->m<=nrem->SS lt ys lo (lo + m)->Q (some m) (setArr st ys)):wpS (model prog w) A E s (countRun' lo nrem) Q st:=by
 have hz:=hp.size_eq;refine wpS_bind (wpS_mono (ML (f:=fun n=>lt (BU (arrOf st) (lo + n)) (BU (arrOf st) (lo + n - 1))) h1 ?_) ?_)
 ·intro x n R n1 n2 y1 y2;dsimp only;refine wpS_bind (CU an hk hp (by lia) (by lia) ?_);dsimp only;cases e:lt (BU (arrOf st) (lo + n)) (BU (arrOf st) (lo + n - 1))
  ·exact wpS_pure (y2 e)
  ·exact wpS_pure (y1 e)
 rintro c AH ⟨rfl,n,rfl,n1,n2,q,hor⟩;dsimp only;have s0:SS lt (arrOf AH) lo (lo + 1):=fun i j a1 a2 a3=>by
  have:i=j:=by lia
  rw [this];exact sw.rfl' _
 have sn:SS lt (arrOf AH) lo (lo + n):=Th sw s0 (Ya _) q;by_cases hnn:n=nrem
 ·rw [if_pos (by simpa using hnn)];exact wpS_pure (h n _ (Kp.refl _ _) n1 n2 sn)
 rw [if_neg (by simpa using hnn)];have Bu:lt (BU (arrOf AH) (lo + n)) (BU (arrOf AH) (lo + n - 1))=true:=hor.resolve_left hnn;by_cases hgt:n > 1
 case' pos=>
  rw [if_pos hgt];refine wpS_bind (CU an hk hp (by lia) (by lia) ?_);dsimp only;cases hrose:lt (BU (arrOf AH) lo) (BU (arrOf AH) (lo + n - 1))
  case' true=>
   simp only [if_true];exact wpS_pure (h n _ (Kp.refl _ _) n1 n2 sn)
  case' false=>
   simp only [Y1,if_false];refine wpS_bind (Fx ?_);have even:∀ i j,lo<=i->i < lo + n->lo<=j->j < lo + n->Nl lt (BU (arrOf AH) i) (BU (arrOf AH) j):=by
    intro i j a1 a2 a3 a4;have b1:=sn lo j (Ya _) a3 a4;have b2:=sn i (lo + n - 1) a1 (by lia) (by lia);exact sw.trans (sw.trans b2 hrose) b1
   have ns0:NS lt (arrOf AH) lo (lo + n):=fun i j a1 a2 a3=>even j i (by lia) a3 a1 (by lia)
   have ns1:NS lt (arrOf AH) lo (lo + (n + 1)):=by
    intro i j a1 a2 a3;by_cases hj:j < lo + n
    ·exact ns0 i j a1 a2 hj
    ·have ej:j=lo + n:=by lia
     by_cases hi:i=j
     ·rw [hi]; exact sw.rfl' _
     ·rw [ej];exact sw.trans (sw.of_lt Bu) (even _ _ (by lia) (by lia) a1 (by lia))
   have kp:Kp (arrOf AH) (mirror (arrOf AH) lo (lo + n) ((lo + n - lo) / 2)) lo:=(Kp.refl _ _).mirror (by lia) (Ya _);have ns:NS lt (mirror (arrOf AH) lo (lo + n) ((lo + n - lo) / 2)) lo (lo + (n + 1)):=ns0.even (by lia) (Ya _) even (by lia) ns1;obtain ⟨ys,ey⟩:∃ ys,ys=mirror (arrOf AH) lo (lo + n) ((lo + n - lo) / 2):=⟨_,rfl⟩
   rw [<-ey] at kp ns;show wpS (model prog w) A E s _ Q (setArr AH (mirror (arrOf AH) lo (lo + n) ((lo + n - lo) / 2)))
   rw [<-ey]
 case' neg=>
  rw [if_neg hgt];have en:n=1:=by lia
  have kp:Kp (arrOf AH) (arrOf AH) lo:=Kp.refl _ _;have ns:NS lt (arrOf AH) lo (lo + (n + 1)):=by
   intro i j a1 a2 a3;by_cases hi:i=j
   ·rw [hi]; exact sw.rfl' _
   ·have e1:j=lo + n:=by lia
    have e2:i=lo + n - 1:=by lia
    rw [e1,e2];exact sw.of_lt Bu
  obtain ⟨ys,ey⟩:∃ ys,ys=arrOf AH:=⟨_,rfl⟩
  rw [<-ey] at ns;have kp:Kp (arrOf AH) ys lo:=by rw [ey]; exact Kp.refl _ _
  show wpS (model prog w) A E s _ Q (setArr AH (arrOf AH))
  rw [<-ey]
 all_goals
  refine wpS_bind (wpS_lift (wpAny_rule ⟨rfl,?_⟩));refine wpS_bind (wpS_mono (wpS_forRange (I:=fun x c GK=>∃ neq ys,c=(none,x,neq)/\GK=setArr AH ys/\Kp (arrOf AH) ys lo/\NS lt ys lo (lo + x)/\neq + 1<=x /\
    (∀ i j,lo + x - (neq + 1)<=i->i < lo + x->lo + x - (neq + 1)<=j->j < lo + x->Nl lt (BU ys i) (BU ys j)))
   (Q:=fun c GK=>∃ m neq ys,c=(none,m,neq)/\GK=setArr AH ys/\Kp (arrOf AH) ys lo/\n + 1<=m/\m<=nrem/\NS lt ys lo (lo + m)/\neq + 1<=m /\
    (∀ i j,lo + m - (neq + 1)<=i->i < lo + m->lo + m - (neq + 1)<=j->j < lo + m->Nl lt (BU ys i) (BU ys j))) ?dstep ?dfin ?dinit) ?dpost)
  case dinit=>
   refine ⟨0,ys,rfl,rfl,kp,ns,by lia,fun i j a1 a2 a3 a4=>?_⟩;have:i=j:=by lia
   rw [this];exact sw.rfl' _
  case dfin=>
   rintro c GK ⟨neq,ys,rfl,rfl,kp,ns,a1,a2⟩;have e:max (n + 1) nrem=nrem:=by lia
   rw [e] at ns a1 a2 ⊢;exact ⟨nrem,neq,ys,rfl,rfl,kp,by lia,Ya _,ns,a1,a2⟩
  case dstep=>
   rintro x c GK x1 x2 ⟨neq,ys,rfl,rfl,kp,ns,a1,a2⟩;dsimp only;have hzy:=kp.size;have hpy:(arrOf (setArr AH ys)).Perm a0:=kp.1.trans hp;refine wpS_bind (CU (st:=setArr AH ys) an hk hpy (by lia) (by lia) ?_);dsimp only;cases hless:lt (BU ys (lo + x)) (BU ys (lo + x - 1))
   ·simp only [Y1,if_false];refine wpS_bind (CU (st:=setArr AH ys) an hk hpy (by lia) (by lia) ?_);dsimp only;cases hlarger:lt (BU ys (lo + x - 1)) (BU ys (lo + x))
    ·simp only [Y1,if_false];refine wpS_pure ⟨neq + 1,ys,rfl,rfl,kp,?_,by lia,?_⟩
     ·intro i j b1 b2 b3;by_cases hj:j < lo + x
      ·exact ns i j b1 b2 hj
      ·have ej:j=lo + x:=by lia
       by_cases hi:i=j
       ·rw [hi]; exact sw.rfl' _
       ·rw [ej];exact sw.trans hlarger (ns _ _ b1 (by lia) (by lia))
     ·have pin:∀ i,lo + (x + 1) - (neq + 1 + 1)<=i->i < lo + (x + 1)->Nl lt (BU ys i) (BU ys (lo + x - 1))/\Nl lt (BU ys (lo + x - 1)) (BU ys i):=by
       intro i b1 b2;by_cases hi:i=lo + x
       ·rw [hi];exact ⟨hlarger,hless⟩
       ·exact ⟨a2 _ _ (by lia) (by lia) (by lia) (by lia),a2 _ _ (by lia) (by lia) (by lia) (by lia)⟩
      intro i j b1 b2 b3 b4;exact sw.trans (pin i b1 b2).1 (pin j b3 b4).2
    ·simp only [if_true];exact wpS_pure ⟨x,neq,ys,rfl,rfl,kp,x1,by lia,ns,a1,a2⟩
   ·simp only [if_true];have ns':NS lt ys lo (lo + (x + 1)):=by
     intro i j b1 b2 b3;by_cases hj:j < lo + x
     ·exact ns i j b1 b2 hj
     ·have ej:j=lo + x:=by lia
      by_cases hi:i=j
      ·rw [hi]; exact sw.rfl' _
      ·rw [ej];exact sw.trans (sw.of_lt hless) (ns _ _ b1 (by lia) (by lia))
    have one:∀ (zs:Array Keyed) i j,lo + (x + 1) - (0 + 1)<=i->i < lo + (x + 1)->lo + (x + 1) - (0 + 1)<=j->j < lo + (x + 1)->Nl lt (BU zs i) (BU zs j):=by
     intro zs i j b1 b2 b3 b4;have:i=j:=by lia
     rw [this];exact sw.rfl' _
    by_cases hq:neq > 0
    ·rw [if_pos hq];refine wpS_bind (Fx (wpS_pure ⟨0,_,rfl,rfl,kp.mirror (by lia) (by lia),?_,by lia,one _⟩));exact ns.even (by show _<=ys.size; lia) (by lia) a2 (by lia) ns'
    ·rw [if_neg hq];exact wpS_pure ⟨0,ys,rfl,rfl,kp,ns',by lia,one _⟩
  case dpost=>
   rintro c GK ⟨m,neq,zs,rfl,rfl,kz,m1,m2,nz,a1,a2⟩;dsimp only;have hzz:=kz.size;by_cases hq:neq > 0
   case' pos=>
    rw [if_pos hq];refine wpS_bind (Fx ?_);have Wr:Kp (arrOf AH) (mirror zs (lo + m - (neq + 1)) (lo + m) ((lo + m - (lo + m - (neq + 1))) / 2)) lo:=kz.mirror (by lia) (by lia);have WU:NS lt (mirror zs (lo + m - (neq + 1)) (lo + m) ((lo + m - (lo + m - (neq + 1))) / 2)) lo (lo + m):=nz.even (by lia) (by lia) a2 (Ya _) nz;obtain ⟨us,eu⟩:∃ us,us=mirror zs (lo + m - (neq + 1)) (lo + m) ((lo + m - (lo + m - (neq + 1))) / 2):=⟨_,rfl⟩
    rw [<-eu] at Wr WU;show wpS (model prog w) A E s _ Q (setArr AH (mirror zs (lo + m - (neq + 1)) (lo + m) ((lo + m - (lo + m - (neq + 1))) / 2)))
    rw [<-eu]
   case' neg=>
    rw [if_neg hq];obtain ⟨us,eu⟩:∃ us,us=zs:=⟨_,rfl⟩
    have Wr:Kp (arrOf AH) us lo:=by rw [eu]; exact kz
    have WU:NS lt us lo (lo + m):=by rw [eu]; exact nz
    rw [<-eu]
   all_goals
    have hzu:=Wr.size;refine wpS_bind (Fx ?_);show wpS (model prog w) A E s _ Q (setArr AH (mirror us lo (lo + m) ((lo + m - lo) / 2)))
    have kv:Kp (arrOf AH) (mirror us lo (lo + m) ((lo + m - lo) / 2)) lo:=Wr.mirror (by lia) (Ya _);have sv:SS lt (mirror us lo (lo + m) ((lo + m - lo) / 2)) lo (lo + m):=WU.mirror (by lia);obtain ⟨vs,ev⟩:∃ vs,vs=mirror us lo (lo + m) ((lo + m - lo) / 2):=⟨_,rfl⟩
    rw [<-ev] at kv sv;rw [<-ev];have hzv:=kv.size;refine wpS_bind (wpS_mono (ML (f:=fun n=>lt (BU vs (lo + n)) (BU vs (lo + n - 1))) m2 ?_) ?_)
    ·intro x n R n1 n2 y1 y2;dsimp only;refine wpS_bind (CU (st:=setArr AH vs) an hk (kv.1.trans hp) (by lia) (by lia) ?_);dsimp only;cases e:lt (BU vs (lo + n)) (BU vs (lo + n - 1))
     ·exact wpS_pure (y2 e)
     ·exact wpS_pure (y1 e)
    rintro c WI ⟨rfl,n',rfl,b1,b2,b3,_⟩;exact wpS_pure (h n' vs kv (by lia) b2 (Th sw sv (by lia) b3))
theorem GJ {lo n ok:Nat} {Q:Bool->SortSt->Prop} {st:SortSt} (sw:NQ lt) (an:Tf prog w A s κ lt a0) (hk:kindOf st=κ) (hp:(arrOf st).Perm a0) (hn:lo + n<=a0.size) (h1:1<=ok) (hok:ok<=n)
  (hs:SS lt (arrOf st) lo (lo + ok)) (h:∀ ys,Kp (arrOf st) ys lo->SS lt ys lo (lo + n)->Q true (setArr st ys)):wpS (model prog w) A E s (binarySort' lo n ok) Q st:=by
 have hz:=hp.size_eq;refine wpS_bind (wpS_mono (wpS_forRange (I:=fun k c AH=>c=(none,())/\∃ ys,AH=setArr st ys/\Kp (arrOf st) ys lo/\SS lt ys lo (lo + k))
  (Q:=fun c AH=>c=(none,())/\∃ ys,AH=setArr st ys/\Kp (arrOf st) ys lo/\SS lt ys lo (lo + n)) ?step ?fin ?init) ?post)
 case init=>
  rw [Nat.max_eq_left h1];exact ⟨rfl,arrOf st,rfl,Kp.refl _ _,hs⟩
 case fin=>
  rintro c AH ⟨rfl,ys,rfl,kp,ss⟩;rw [show max (max ok 1) n=n by lia] at ss;exact ⟨rfl,ys,rfl,kp,ss⟩
 case post=>
  rintro c AH ⟨rfl,ys,rfl,kp,ss⟩;exact wpS_pure (h ys kp ss)
 case step=>
  rintro k c AH k1 k2 ⟨rfl,ys,rfl,kp,ss⟩;dsimp only;have hzy:=kp.size;have hpy:(arrOf (setArr st ys)).Perm a0:=kp.1.trans hp;refine wpS_bind (wpS_mono (KC (f:=fun m=>!(lt (BU ys (lo + k)) (BU ys (lo + m)))) (n:=k) ?_ ?_ (Y9 _) (Ya _) ?_ ?_ ?_) ?_)
  ·intro x l R hR;dsimp only;rw [if_pos (Ya _)];exact wpS_pure hR
  ·intro x l r R hlr hrk y1 y2;dsimp only;rw [if_neg (by lia),show (l + r) / 2=l + (r - l) / 2 by lia];refine wpS_bind (CU (st:=setArr st ys) an hk hpy (by lia) (by lia) ?_);dsimp only;cases e:lt (BU ys (lo + k)) (BU ys (lo + (l + (r - l) / 2)))
   ·exact wpS_pure (y1 (by rw [e]; rfl))
   ·exact wpS_pure (y2 (by rw [e]; rfl))
  ·intro i j hij hj e;simp only [ZH] at e ⊢;exact sw.trans (ss _ _ (by lia) (by lia) (by lia)) e
  ·intro i hi;lia
  ·intro i hi1 U7;lia
  ·rintro c ER ⟨rfl,r,rfl,r1,r2,r3⟩;refine wpS_bind ?_;rw [show (sortPriv% PySem.Builtin.moveDown)=moveDown' from rfl,moveDown'_eq];refine wpS_modify (wpS_pure ⟨rfl,bubble ys (lo + k) (lo + k - (lo + r)),rfl,kp.bubble (by lia) (by lia),?_⟩);intro i j a1 a2 a3;rw [Fo (by lia) (by lia),Fo (by lia) (by lia)];have g1:∀ m,lo<=m->m < lo + r->Nl lt (BU ys m) (BU ys (lo + k)):=fun m b1 b2=>by
    have q:=r2 (m - lo) (by lia);simp only [ZH] at q;rw [show lo + (m - lo)=m by lia] at q;exact q
   have g2:∀ m,lo + r<=m->m < lo + k->Nl lt (BU ys (lo + k)) (BU ys m):=fun m b1 b2=>by
    have q:=r3 (m - lo) (by lia) (by lia);simp only [Bool.not_eq_false'] at q;rw [show lo + (m - lo)=m by lia] at q;exact sw.of_lt q
   repeat' split
   all_goals first
    | exact sw.rfl' _
    | exact g1 _ (by lia) (by lia)
    | exact g2 _ (by lia) (by lia)
    | exact ss _ _ (by lia) (by lia) (by lia)
    | (exfalso; lia)
end
section
variable {lt:Keyed->Keyed->Bool}
end
section
variable {prog:Program} {w:World} {A:Around} {E:Value->Shared->Prop} {s:Shared} {κ:SortKind} {lt:Keyed->Keyed->Bool} {a0:Array Keyed}
end
section
variable {prog:Program} {w:World} {A:Around} {E:Value->Shared->Prop} {s:Shared} {κ:SortKind} {lt:Keyed->Keyed->Bool} {a0:Array Keyed}
end
end L2
namespace L2
open PySem PySem.Spec PyProof.Rows
abbrev A6:=Sum Int Str
def Ie:A6->Value->Bool
 | .inl k,v=>Value.isInt k v
 | .inr x,v=>Value.isStrOf x v
def keyH (w:World):A6->Int
 | .inl k=>hashInt k
 | .inr x=>hashStr w x
theorem Be:∀ {k:A6} {v:Value},Ie k v=true->(∃ i t,k=Sum.inl i/\v=Value.int i t)\/(∃ x t,k=Sum.inr x/\v=Value.str x t)
 | .inl i,v,h=>by
  obtain ⟨t,e⟩:=Value.isInt_shape (k:=i) (v:=v) h;exact .inl ⟨i,t,rfl,e⟩
 | .inr x,v,h=>by
  obtain ⟨t,e⟩:=Value.isStrOf_shape (x:=x) (v:=v) h;exact .inr ⟨x,t,rfl,e⟩
theorem OL (i:Int) (t:Tok):Ie (.inl i) (.int i t)=true:=by simp [Ie,Value.isInt]
theorem OK (x:Str) (t:Tok):Ie (.inr x) (.str x t)=true:=by simp [Ie,Value.isStrOf]
theorem U2 (a b:Int):decide ((Sum.inl a:A6)=Sum.inl b)=(a == b):=by
 by_cases e:a=b
 ·subst e; simp
 ·have h:¬ (Sum.inl a:A6)=Sum.inl b:=fun q=>e (Sum.inl.inj q)
  rw [decide_eq_false h];exact (beq_eq_false_iff_ne.mpr e).symm
theorem Uz (a b:Str):decide ((Sum.inr a:A6)=Sum.inr b)=decide (a=b):=by
 by_cases e:a=b
 ·subst e; simp
 ·have h:¬ (Sum.inr a:A6)=Sum.inr b:=fun q=>e (Sum.inr.inj q)
  rw [decide_eq_false h,decide_eq_false e]
theorem U1 (a:Int) (b:Str):decide ((Sum.inl a:A6)=Sum.inr b)=false:=decide_eq_false (fun q=>nomatch q)
theorem U0 (a:Str) (b:Int):decide ((Sum.inr a:A6)=Sum.inl b)=false:=decide_eq_false (fun q=>nomatch q)
def AK (prog:Program) (w:World):PySem.KeyKind prog w A6 where
 is:=Ie
 hash:=keyH w
 inj:=fun v a b ha hb=>by
  rcases Be ha with ⟨i,t,rfl,rfl⟩ | ⟨x,t,rfl,rfl⟩
  ·rcases Be hb with ⟨j,u,rfl,e⟩ | ⟨y,u,rfl,e⟩
   ·injection e with e1 _; rw [e1]
   ·exact nomatch e
  ·rcases Be hb with ⟨j,u,rfl,e⟩ | ⟨y,u,rfl,e⟩
   ·exact nomatch e
   ·injection e with e1 _; rw [e1]
 byValue:=fun k v h=>by
  rcases Be h with ⟨i,t,rfl,rfl⟩ | ⟨x,t,rfl,rfl⟩ <;> rfl
 pyHash:=fun hv h=>by
  rcases Be hv with ⟨i,t,rfl,rfl⟩ | ⟨x,t,rfl,rfl⟩
  ·exact wpAny_pyHash_int h
  ·exact wpAny_pyHash_str h
 eqBool:=fun hu hv h=>by
  rcases Be hu with ⟨i,t,rfl,rfl⟩ | ⟨x,t,rfl,rfl⟩
  ·rcases Be hv with ⟨j,u,rfl,rfl⟩ | ⟨y,u,rfl,rfl⟩
   ·rw [U2] at h; exact wpAny_eqBool_int h
   ·rw [U1] at h; exact SeqAt.EqAt.int_str i t y u _ _ _ _ h
  ·rcases Be hv with ⟨j,u,rfl,rfl⟩ | ⟨y,u,rfl,rfl⟩
   ·rw [U0] at h; exact SeqAt.EqAt.str_int x t j u _ _ _ _ h
   ·rw [Uz] at h; exact wpAny_eqBool_str h
 «strs»:=fun k x t v h=>by
  rcases Be h with ⟨i,u,rfl,e⟩ | ⟨y,u,rfl,e⟩
  ·exact nomatch e
  ·injection e with e1 _;subst e1;cases v <;> rfl
theorem Ls (prog:Program) (w:World) (i:Int) (t:Tok):(AK prog w).is (.inl i) (.int i t)=true:=OL i t
theorem G6 (prog:Program) (w:World) (x:Str) (t:Tok):(AK prog w).is (.inr x) (.str x t)=true:=OK x t
inductive V where
 | non | bl (b:Bool) | int (i:Int) | str (x:Str) | byt (b:Array UInt8) | flt (b:UInt64) | ref (a:Addr) | ty (n:String)
 deriving DecidableEq
def A1:V->Value->Prop
 | .non,u=>u=Value.none
 | .bl b,u=>u=Value.bool b
 | .int i,u=>∃ t,u=Value.int i t
 | .str x,u=>∃ t,u=Value.str x t
 | .byt b,u=>∃ t,u=Value.bytes b t
 | .flt b,u=>∃ t,u=Value.float b t
 | .ref a,u=>u=Value.ref a
 | .ty n,u=>u=Value.type n
abbrev Az:List V->List Value->Prop:=Paired A1
theorem Az.length {xs:List V} {us:List Value} (r:Az xs us):xs.length=us.length:=Paired.length r
theorem Az.get:∀ {xs:List V} {us:List Value} {i:Nat} {x:V},Az xs us->xs[i]? = some x->∃ u,us[i]? = some u/\A1 x u
 | _,_,_,_,.nil,e=>by simp at e
 | _,_,0,_,.cons r _,e=>by simp at e; subst e; exact ⟨_,rfl,r⟩
 | _,_,i + 1,x,.cons _ t,e=>by
  obtain ⟨u,h1,h2⟩:=Az.get (i:=i) (x:=x) t (by simpa using e);exact ⟨u,by simpa using h1,h2⟩
theorem Az.set {x:V} {u:Value} (r:A1 x u):∀ {xs:List V} {us:List Value} (i:Nat),Az xs us->Az (xs.set i x) (us.set i u)
 | _,_,_,.nil=>.nil
 | _,_,0,.cons _ t=>.cons r t
 | _,_,i + 1,.cons q t=>.cons q (Az.set r i t)
theorem Az.append:∀ {xs ys:List V} {us ws:List Value},Az xs us->Az ys ws->Az (xs ++ ys) (us ++ ws)
 | _,_,_,_,.nil,s=>s
 | _,_,_,_,.cons r t,s=>.cons r (Az.append t s)
theorem Az.take:∀ {xs:List V} {us:List Value} (n:Nat),Az xs us->Az (xs.take n) (us.take n)
 | _,_,0,_=>.nil
 | _,_,_ + 1,.nil=>.nil
 | _,_,n + 1,.cons r t=>.cons r (Az.take n t)
theorem Az.drop:∀ {xs:List V} {us:List Value} (n:Nat),Az xs us->Az (xs.drop n) (us.drop n)
 | _,_,0,r=>r
 | _,_,_ + 1,.nil=>.nil
 | _,_,n + 1,.cons _ t=>Az.drop n t
def Gs:Option V->Option Value->Prop
 | some v,some u=>A1 v u
 | none,none=>True
 | _,_=>False
def KV {κ:Type}:List (κ × V)->List (κ × Value)->Prop:=Paired fun (p:κ × V) (q:κ × Value)=>p.1=q.1/\A1 p.2 q.2
def kV:A6->V
 | .inl i=>.int i
 | .inr x=>.str x
inductive HO where
 /-- a list -/
 | lst (xs:List V)
 /-- a tuple (never changes) -/
 | tup (xs:List V)
 /-- a dict whose keys are ints and texts; one whose keys are tuples of ints and texts (the empty one is both) -/
 | dK (kvs:List (A6 × V)) | dT (kvs:List (List A6 × V))
 /-- a set of ints: Aq members,Aq size -/
 | set (S:Int->Bool) (n:Nat)
 /-- an instance of the class at C,Aq dict at dx,Aq attributes -/
 | ins (C dx:Addr) (fs:List (Str × V))
 /-- the dict of the instance at x -/
 | own (x:Addr)
 /-- the dict of an exception -/
 | xd (fs:List (Str × V))
 /-- a bound method,f of x -/
 | met (f x:Addr)
 /-- a range object lo,lo + 1,.. below hi -/
 | rng (lo hi:Int)
 /-- a thing that is known to the object (the script; a dict while a loop walks it): read,never written while it is so -/
 | frz (o:Obj) (u:HO)
 /-- a code Vt table -/
 | tbl (ps:Array Value)
 /-- any other thing,by what is true of Aq one object (a def of one's own: SetO a S n:=HO.ext fun h=>..) -/
 | ext (φ:Heap->Prop)
abbrev Hp:=Addr->Option HO
def upd (H:Hp) (a:Addr) (o:HO):Hp:=fun b=>if b=a then some o else H b
theorem Ab {H:Hp} {a:Addr} {o:HO}:upd H a o a=some o:=by unfold upd; rw [if_pos rfl]
theorem Af {H:Hp} {a b:Addr} {o:HO} (h:b ≠ a):upd H a o b=H b:=by unfold upd; rw [if_neg h]
theorem JX {H:Hp} {a:Addr} {o u:HO}:upd (upd H a o) a u=upd H a u:=by
 funext b; unfold upd; split <;> rfl
theorem BI {H:Hp} {a b:Addr} {o u:HO} (h:H a=some o) (h':H b=some u) (d:o ≠ u):a ≠ b:=by
 intro e; subst e; rw [h] at h'; exact d (Yo.inj h')
theorem Ah {H:Hp} {a b:Addr} {o:HO} (h:H a=some o) (h':H b=none):a ≠ b:=by
 intro e; subst e; rw [h] at h'; cases h'
def LO (h:Heap) (a:Addr):Prop:=∀ o,h.get? a=some o->o.dict=none
theorem LO.new {h:Heap} {o:Obj} (hd:o.dict=none) (hf:o.isFreed=false):LO (h.push o) h.objs.size:=fun o' e=>by
 rw [Yf _ hf] at e;cases e
 exact hd
section
variable (P:Program) (w:World)
def A4 (H:Hp) (h:Heap) (a:Addr):HO->Prop
 | .lst xs=>xs.length<=sizeLine/\∃ (Aq:List Value) (n:Nat),Az xs Aq/\h.get? a=some { cls:=.type "list",data:=.seq Aq.toArray n }
 | .tup xs=>xs.length<=sizeLine/\∃ Aq:List Value,Az xs Aq/\IsTup h a Aq.toArray/\LO h a
 | .dK kvs=>kvs.length<=sizeLine/\(a == sysModules)=false/\∃ vs,KV kvs vs/\h.DictOf (AK P w) a vs
 | .dT kvs=>kvs.length<=sizeLine/\(a == sysModules)=false/\∃ xs:List (List A6 × Addr × Value),
   Paired (fun (p:List A6 × V) (q:List A6 × Addr × Value)=>p.1=q.1/\H q.2.1=some (.tup (p.1.map kV))/\A1 p.2 q.2.2) kvs xs /\
   ∃ o es ep,h.get? a=some o/\o.ExactDict/\o.data=.dict es ep/\es.toList=xs.map (entryOfKey (tupleKind (AK P w)))/\(xs.map (·.1)).Nodup
 | .set S n=>h.SetOf (intKind P w) a S n
 | .ins C dx fs=>H dx=some (.own a)/\fs.length<=1000/\dx ≠ a/\h.get? a=some (au C dx) /\
   ∃ mA,h.Ns1 dx mA/\(∀ f,Gs (fs.lookup f) (mA f))/\PySem.Within mA (fs.map (·.1))
 | .own _=>∃ o,h.get? a=some o
 | .xd fs=>∃ mA,h.Ns1 a mA/\∀ f,Gs (fs.lookup f) (mA f)
 | .rng lo hi=>∃ t u v,h.get? a=some { cls:=.type "range",data:=.fields #[.int lo t,.int hi u,.int 1 v] }
 | .frz o u=>h.get? a=some o/\A4 H h a u
 | .tbl ps=>h.get? a=some { cls:=.none,data:=.fields ps }
 | .met f x=>h.get? a=some (af (.ref f) (.ref x))
 | .ext φ=>φ h/\(∃ o,h.get? a=some o)/\∀ h1 h2:Heap,φ h1->(∀ o,h1.get? a=some o->h2.get? a=some o)->φ h2
def Fu (H:Hp) (h:Heap):Prop:=∀ a o,H a=some o->A4 P w H h a o
end
section
variable {P:Program} {w:World} {H H':Hp} {h h':Heap} {a:Addr} {o:HO}
theorem A4.lt (x:A4 P w H h a o):a < h.objs.size:=by
 cases o with
 | lst xs=>obtain ⟨_,_,_,_,e⟩:=x; exact Ye e
 | tup xs=>obtain ⟨_,_,_,p,_⟩:=x; exact p.lt
 | dK kvs=>obtain ⟨_,_,_,_,o,_,_,e,_⟩:=x; exact Ye e
 | dT kvs=>obtain ⟨_,_,_,_,o,_,_,e,_⟩:=x; exact Ye e
 | set S n=>obtain ⟨o,_,_,_,e,_⟩:=x; exact Ye e
 | ins C dx fs=>obtain ⟨_,_,_,e,_⟩:=x; exact Ye e
 | own y=>obtain ⟨_,e⟩:=x; exact Ye e
 | xd fs=>obtain ⟨_,⟨_,_,_,e,_⟩,_⟩:=x; exact Ye e
 | rng lo hi=>obtain ⟨_,_,_,e⟩:=x; exact Ye e
 | frz ob u=>obtain ⟨e,_⟩:=x; exact Ye e
 | tbl ps=>exact Ye (show h.get? a=some _ from x)
 | met f y=>exact Ye (show h.get? a=some _ from x)
 | ext φ=>obtain ⟨_,⟨_,e⟩,_⟩:=x; exact Ye e
theorem Paired.mapP {α β:Type} {F G:α->β->Prop}:∀ {Lx:List α} {Lw:List β},Paired F Lx Lw->(∀ a b,F a b->G a b)->Paired G Lx Lw
 | _,_,.nil,_=>.nil
 | _,_,.cons r t,f=>.cons (f _ _ r) (Paired.mapP t f)
theorem A4.stay (x:A4 P w H h a o) (k:∀ b u,(b=a\/H b=some (.own a))->h.get? b=some u->h'.get? b=some u)
  (ho:∀ b,H b=some (.own a)->H' b=some (.own a)) (ht:∀ b xs,H b=some (.tup xs)->H' b=some (.tup xs)):A4 P w H' h' a o:=by
 induction o with
 | lst xs=>obtain ⟨z,Aq,n,r,e⟩:=x; exact ⟨z,Aq,n,r,k _ _ (.inl rfl) e⟩
 | tup xs=>
  obtain ⟨z,Aq,r,⟨ob,e,c⟩,dn⟩:=x;have e':=k _ _ (.inl rfl) e;exact ⟨z,Aq,r,⟨ob,e',c⟩,fun o q=>by rw [e'] at q; cases q; exact dn _ e⟩
 | dK kvs=>obtain ⟨z,y,vs,r,ob,es,ep,e,c⟩:=x; exact ⟨z,y,vs,r,ob,es,ep,k _ _ (.inl rfl) e,c⟩
 | dT kvs=>
  obtain ⟨z,y,xs,r,ob,es,ep,e,c⟩:=x;exact ⟨z,y,xs,Paired.mapP r fun p q z=>⟨z.1,ht _ _ z.2.1,z.2.2⟩,ob,es,ep,k _ _ (.inl rfl) e,c⟩
 | set S n=>obtain ⟨ob,es,ep,t,e,c⟩:=x; exact ⟨ob,es,ep,t,k _ _ (.inl rfl) e,c⟩
 | ins C dx fs=>
  obtain ⟨d,z,ne,e,mA,⟨od,es,ep,e2,c⟩,r⟩:=x;exact ⟨ho _ d,z,ne,k _ _ (.inl rfl) e,mA,⟨od,es,ep,k _ _ (.inr d) e2,c⟩,r⟩
 | own y=>obtain ⟨ob,e⟩:=x; exact ⟨ob,k _ _ (.inl rfl) e⟩
 | xd fs=>obtain ⟨mA,⟨od,es,ep,e,c⟩,r⟩:=x; exact ⟨mA,⟨od,es,ep,k _ _ (.inl rfl) e,c⟩,r⟩
 | rng lo hi=>obtain ⟨t,u,v,e⟩:=x; exact ⟨t,u,v,k _ _ (.inl rfl) e⟩
 | frz ob u ih=>obtain ⟨e,q⟩:=x; exact ⟨k _ _ (.inl rfl) e,ih q⟩
 | tbl ps=>
  have e:h.get? a=some { cls:=.none,data:=.fields ps }:=x;show h'.get? a=some { cls:=.none,data:=.fields ps }
  exact k a _ (.inl rfl) e
 | met f y=>
  have e:h.get? a=some (af (.ref f) (.ref y)):=x;show h'.get? a=some (af (.ref f) (.ref y))
  exact k a _ (.inl rfl) e
 | ext φ=>obtain ⟨p,⟨o,e⟩,st⟩:=x; exact ⟨st _ _ p fun o q=>k _ _ (.inl rfl) q,⟨o,k _ _ (.inl rfl) e⟩,st⟩
theorem Fu.lt (x:Fu P w H h) (e:H a=some o):a < h.objs.size:=(x a o e).lt
theorem Fu.fresh (x:Fu P w H h) (e:h.objs.size<=a):H a=none:=by
 cases q:H a with
 | none=>rfl
 | some u=>exact absurd (Yj (x.lt q) e) (YI _)
theorem Fu.kept (x:Fu P w H h) (k:∀ b u,h.get? b=some u->h'.get? b=some u):Fu P w H h':=fun a o e=>
 (x a o e).stay (fun b u _ q=>k b u q) (fun _ q=>q) fun _ _ q=>q
theorem Fu.laid (x:Fu P w H h) (k:∀ b u,h.get? b=some u->h'.get? b=some u) (hp:h.objs.size<=a) (new:A4 P w (upd H a o) h' a o):Fu P w (upd H a o) h':=fun b u e=>by
 have hn:=x.fresh hp;by_cases hb:b=a
 ·subst hb; rw [Ab] at e; cases e; exact new
 ·rw [Af hb] at e;exact (x b u e).stay (fun c v _ q=>k c v q) (fun c q=>by rw [Af (Ah q hn)]; exact q) fun c xs q=>by rw [Af (Ah q hn)]; exact q
end
def Rd (H:Hp) (a:Addr) (u:HO):Prop:=H a=some u\/∃ o,H a=some (.frz o u)
theorem Rd.ok {P:Program} {w:World} {H:Hp} {h:Heap} {a:Addr} {u:HO} (r:Rd H a u) (x:Fu P w H h):A4 P w H h a u:=by
 rcases r with r | ⟨o,r⟩
 ·exact x a u r
 ·obtain ⟨_,q⟩:=x a _ r;exact q
def Mut:Option HO->Prop
 | some (.lst _)=>True
 | some (.dK _)=>True
 | some (.dT _)=>True
 | some (.set _ _)=>True
 | some (.ins _ _ _)=>True
 | some (.ext _)=>True
 | _=>False
section
variable {P:Program} {w:World} {H:Hp} {h h':Heap} {x e:Addr} {o':HO}
theorem Fu.write (ok:Fu P w H h) (mu:Mut (H x)) (he:e=x\/H e=some (.own x)) (k:∀ b u,b ≠ e->h.get? b=some u->h'.get? b=some u) (heo:∃ u,h'.get? e=some u)
  (new:A4 P w (upd H x o') h' x o'):Fu P w (upd H x o') h':=fun b u q=>by
 have nown:∀ c y,H c=some (.own y)->c ≠ x:=fun c y r z=>by subst z; rw [r] at mu; exact mu
 have ntup:∀ c xs,H c=some (.tup xs)->c ≠ x:=fun c xs r z=>by subst z; rw [r] at mu; exact mu
 by_cases hb:b=x
 ·subst hb; rw [Ab] at q; cases q; exact new
 ·rw [Af hb] at q;by_cases hbe:b=e
  ·have q':H b=some (.own x):=by
    rcases he with z | z
    ·exact absurd (hbe.trans z) hb
    ·rw [hbe]; exact z
   rw [q] at q'; cases q';obtain ⟨v,hv⟩:=heo;exact ⟨v,by rw [hbe]; exact hv⟩
  ·refine (ok b u q).stay (fun c v hc r=>k c v ?_ r) (fun c r=>by rw [Af (nown c b r)]; exact r) fun c xs r=>by rw [Af (ntup c xs r)]; exact r
   rcases hc with rfl | hc
   ·exact hbe
   ·rintro rfl;rcases he with z | z
    ·exact nown c b hc z
    ·rw [hc] at z; cases z; exact hb rfl
end
structure Un (fs ex:List Addr) (H H':Hp) (h h':Heap):Prop where
 keep:∀ b o,h.get? b=some o->H b=none->b ∉ fs->b ∉ ex->h'.get? b=some o
 slot:∀ b o,h.get? b=some o->H b=none->b ∈ fs->b ∉ ex->∃ sl,h'.get? b=some { o with slots:=sl }
 free:∀ b o,h.get? b=some o->H b=none->b ∉ ex->H' b=none
 there:∀ b o,h.get? b=some o->b ∉ ex->∃ o',h'.get? b=some o'
 tups:∀ b xs,H b=some (.tup xs)->H' b=some (.tup xs)
 frzs:∀ b o u,H b=some (.frz o u)->H' b=some (.frz o u)
 tbls:∀ b ps,H b=some (.tbl ps)->∃ more,H' b=some (.tbl (ps ++ more))
section
variable {fs Ve ex ex':List Addr} {H H1 H2:Hp} {h h1 h2 h':Heap} {a x e:Addr} {o:HO}
theorem Un.any (u:Un fs ex H H1 h h1) {b:Addr} {ob:Obj} (q:h.get? b=some ob) (n:H b=none) (hx:b ∉ ex):∃ sl,h1.get? b=some { ob with slots:=sl }:=by
 by_cases hb:b ∈ fs
 ·exact u.slot b ob q n hb hx
 ·exact ⟨ob.slots,u.keep b ob q n hb hx⟩
theorem Un.kept (k:∀ b u,h.get? b=some u->h'.get? b=some u):Un fs ex H H h h':=
 ⟨fun b ob q _ _ _=>k b ob q,fun b ob q _ _ _=>⟨ob.slots,k b ob q⟩,fun _ _ _ n _=>n,fun b ob q _=>⟨ob,k b ob q⟩,fun _ _ q=>q,fun _ _ _ q=>q,fun _ ps q=>⟨#[],by rw [q]; simp⟩⟩
theorem Un.refl:Un fs ex H H h h:=Un.kept fun _ _ q=>q
theorem Un.laid (k:∀ b u,h.get? b=some u->h'.get? b=some u) (hp:h.objs.size<=a) (hn:H a=none):Un fs ex H (upd H a o) h h' where
 keep:=fun b u q _ _ _=>k b u q
 slot:=fun b u q _ _ _=>⟨u.slots,k b u q⟩
 free:=fun b u q n _=>by rw [Af (Yh (Yj (Ye q) hp))]; exact n
 there:=fun b u q _=>⟨u,k b u q⟩
 tups:=fun b xs q=>by rw [Af (Ah q hn)]; exact q
 frzs:=fun b u xs q=>by rw [Af (Ah q hn)]; exact q
 tbls:=fun b ps q=>⟨#[],by rw [Af (Ah q hn),q]; simp⟩
theorem Un.write (mu:Mut (H x)) (he:e=x\/H e=some (.own x)) (k:∀ b u,b ≠ e->h.get? b=some u->h'.get? b=some u) (heo:∃ u,h'.get? e=some u):Un fs ex H (upd H x o) h h':=by
 have hx:∀ b,H b=none->b ≠ x:=fun b n z=>by subst z; rw [n] at mu; exact mu
 have hb:∀ b,H b=none->b ≠ e:=fun b n z=>by
  subst z;rcases he with r | r
  ·exact hx b n r
  ·rw [n] at r; cases r
 have hm:∀ b u,H b=some u->¬ Mut (some u)->b ≠ x:=fun b u q nm z=>by subst z; rw [q] at mu; exact nm mu
 refine ⟨fun b u q n _ _=>k b u (hb b n) q,fun b u q n _ _=>⟨u.slots,k b u (hb b n) q⟩,fun b u q n _=>by rw [Af (hx b n)]; exact n,fun b u q _=>?_,
  fun b xs q=>by rw [Af (hm b _ q fun z=>z)]; exact q,fun b u xs q=>by rw [Af (hm b _ q fun z=>z)]; exact q,fun b ps q=>⟨#[],by rw [Af (hm b _ q fun z=>z),q]; simp⟩⟩
 by_cases hbe:b=e
 ·subst hbe; exact heo
 ·exact ⟨u,k b u hbe q⟩
end
def trk (h:Heap) (H:Hp):List Addr:=(Zi h.objs.size).filter fun a=>(H a).isSome
def Kz (h:Heap) (H:Hp):Heap:=PySem.W.hideAll h (trk h H)
theorem OS (h:Heap) (H:Hp):(Kz h H).objs.size=h.objs.size:=PySem.W.hideAll_size _ _
theorem Rf {h:Heap} {H:Hp} {b:Addr} {o:Obj} (e:h.get? b=some o) (n:H b=none):(Kz h H).get? b=some o:=
 PySem.W.hideAll_get _ e fun hm=>by
  have q:(H b).isSome=true:=(Y3.mp hm).2;rw [n] at q; simp at q
theorem So {h:Heap} {H:Hp} {b:Addr} {o:Obj} (e:(Kz h H).get? b=some o):h.get? b=some o/\H b=none:=by
 have e':h.get? b=some o:=PySem.W.of_hideAll (trk h H) e;refine ⟨e',?_⟩;cases q:H b with
 | none=>rfl
 | some x=>
  have hm:b ∈ trk h H:=Y3.mpr ⟨ZE.mpr (Ye e'),by simp [q]⟩;have z:(Kz h H).get? b=none:=PySem.W.hideAll_none (trk h H) hm;rw [z] at e; cases e
def SR (g h:Heap) (L:Addr):List (Addr × Obj):=(Zi h.objs.size).filterMap fun a=>if a=L\/(g.get? a).isSome=true then none else (h.get? a).map fun o=>(a,o)
def Cu (g h:Heap) (L d:Addr):List (Addr × Obj):=(SR g h L).filter fun p=>decide (p.1 ≠ d)
structure Mod (K:XU) (mg:Str->Option Value) (base:Heap):Prop where
 kin:K.In base
 glob:base.Ns mainGlobals mg
 blt:∃ mb,base.Ns builtinsNs mb/\∀ x:Str,x ≠ "__name__"->mb x=bootBuiltins x
 nolimit:base.NoLimit
structure Cx where
 prog:Program
 w:World
 K:XU
 mg:Str->Option Value
 base:Heap
 A:Around
 N:List Str
 s₀:Shared
 H₀:Hp
 env:Env
 outer:List Env
 stack:List Env
 ex:List Addr
 fn:Str->Bool
 calm:Bool
 pn:List (Addr × Obj)
 xe:Value->Shared->Prop
def Rj (l:List Env):List Addr:=l.filterMap (·.frame)
abbrev Cx.fs (X:Cx):List Addr:=Rj X.outer
def Vis (sc:Scope) (x:Str):Prop:=sc.names.lookup x=some .local\/sc.names.lookup x=some .cell\/sc.names.lookup x=some .free
def UM (sc:Scope) (x:Str):Prop:=sc.names.lookup x=some .local\/sc.names.lookup x=some .cell
def Look (env:Env) (h:Heap) (m:Str->Option Value) (x:Str) (u:Value):Prop:=
 (env.kindOf x=some .local/\m x=some u)\/((env.kindOf x=some .cell\/env.kindOf x=some .free)/\∃ c,env.cells.lookup x=some c/\h.IsCell c (some u))
structure Cx.Ok (X:Cx):Prop where
 mod:Mod X.K X.mg X.base
 kind:X.env.scope.kind=.function
 glob:X.env.globals=mainGlobals
 blt:X.env.builtins=builtinsNs
 above:X.s₀.heap.objs.size<=X.env.locals
 inj:∀ x y c,X.env.cells.lookup x=some c->X.env.cells.lookup y=some c->x=y
 has:∀ x,(X.env.kindOf x=some .cell\/X.env.kindOf x=some .free)->∃ c,X.env.cells.lookup x=some c
 cab:∀ x c,X.fn x=true->X.env.cells.lookup x=some c->X.s₀.heap.objs.size<=c
 hd:X.calm=true->X.A.handled=none
 frames:X.A.frames=some X.stack
 stk:X.stack=X.outer\/(X.stack=X.env :: X.outer/\X.env.frame=some X.env.locals)
 exf:∀ b ∈ X.ex,b ≠ X.env.locals/\∀ x c,X.env.cells.lookup x=some c->c ≠ b
 bs:∀ b o,X.base.get? b=some o->X.s₀.heap.get? b=some o/\X.H₀ b=none
 bsz:X.base.objs.size<=X.s₀.heap.objs.size
 noex:∀ b o,X.base.get? b=some o->b ∉ X.ex
 exfs:∀ b ∈ X.ex,b ∉ X.fs
 funs:X.s₀.heap.FunFrames X.base X.outer
 frf:∀ b ∈ X.fs,X.H₀ b=none
structure Ao (X:Cx) (pins:List (Addr × Obj)) (σ:List (Option V)) (H:Hp) (s:Shared):Prop where
 ok:X.Ok
 os:s.os=X.s₀.os
 bare:AllBare s.gens
 base:Un X.fs X.ex X.H₀ H X.s₀.heap s.heap
 loc:∃ m,s.heap.Ns X.env.locals m/\∀ (i:Nat) (x:Str) (v:V),X.N[i]? = some x->σ[i]? = some (some v)->Vis X.env.scope x->∃ u,A1 v u/\Look X.env s.heap m x u
 cell:∀ x c,X.env.cells.lookup x=some c->∃ v,s.heap.IsCell c v
 free:H X.env.locals=none
 freeC:∀ x c,X.env.cells.lookup x=some c->H c=none
 pin:∀ p ∈ X.pn ++ pins,s.heap.get? p.1=some p.2/\H p.1=none/\p.1 ≠ X.env.locals/\p.1 ∉ X.fs/\∀ v,p.2.data ≠ .cell v
 hok:Fu X.prog X.w H s.heap
 len:σ.length=X.N.length
section
variable {X:Cx} {pins:List (Addr × Obj)} {σ:List (Option V)} {H H':Hp} {s:Shared} {h':Heap}
theorem Cx.Ok.nofr (ok:X.Ok) {b:Addr} {o:Obj} (e:X.base.get? b=some o):b ∉ X.fs:=fun hb=>by
 have:=(ok.funs.mem hb).1;rw [e] at this; cases this
theorem Ao.bs (I:Ao X pins σ H s):∀ b o,X.base.get? b=some o->s.heap.get? b=some o/\H b=none:=fun b o e=>
 ⟨I.base.keep b o (I.ok.bs b o e).1 (I.ok.bs b o e).2 (I.ok.nofr e) (I.ok.noex b o e),I.base.free b o (I.ok.bs b o e).1 (I.ok.bs b o e).2 (I.ok.noex b o e)⟩
theorem Ao.bk (I:Ao X pins σ H s):∀ b o,X.base.get? b=some o->s.heap.get? b=some o:=fun b o e=>(I.bs b o e).1
theorem Ao.mod (I:Ao X pins σ H s):Mod X.K X.mg X.base:=I.ok.mod
theorem Ao.kIn (I:Ao X pins σ H s):X.K.In s.heap:=I.ok.mod.kin.keeps I.bk
theorem Ao.lt (I:Ao X pins σ H s):X.env.locals < s.heap.objs.size:=let ⟨_,hn,_⟩:=I.loc; hn.lt
theorem Ao.sz (I:Ao X pins σ H s):X.s₀.heap.objs.size<=s.heap.objs.size:=Yv I.ok.above (ZQ I.lt)
theorem Ao.nofs (I:Ao X pins σ H s) {a:Addr} (h:s.heap.objs.size<=a):a ∉ X.fs:=fun hb=>by
 obtain ⟨_,o,ho,_⟩:=I.ok.funs.mem hb;exact absurd (Yj (Ye ho) (Yv I.sz h)) (YI _)
theorem Ao.cne (I:Ao X pins σ H s):∀ x c,X.env.cells.lookup x=some c->c ≠ X.env.locals:=fun x c e z=>by
 obtain ⟨v,o,ho,hd⟩:=I.cell x c e;obtain ⟨m,⟨o',es,ep,IY,K0,_⟩,_⟩:=I.loc;rw [z,IY] at ho; cases ho; rw [K0] at hd; cases hd
theorem Ao.funs (I:Ao X pins σ H s):s.heap.FunFrames X.base X.outer:=by
 have all:∀ (l:List Env),(∀ b ∈ Rj l,b ∈ X.fs)->X.s₀.heap.FunFrames X.base l->s.heap.FunFrames X.base l:=by
  intro l;induction l with
  | nil=>intro _ _; trivial
  | cons env r ih=>
   intro hs hl;obtain ⟨hk,⟨L,o,hf,hn,ho,hd⟩,hr⟩:=hl;have hL:L ∈ X.fs:=hs L (by unfold Rj; rw [ab,hf]; exact Ys);obtain ⟨sl,e⟩:=I.base.slot L o ho (I.ok.frf L hL) hL fun z=>I.ok.exfs L z hL
   exact ⟨hk,⟨L,_,hf,hn,e,hd⟩,ih (fun b hb=>hs b (by unfold Rj; rw [ab,hf]; exact Yr _ hb)) hr⟩
 exact all X.outer (fun _ hb=>hb) I.ok.funs
theorem Ao.stack (I:Ao X pins σ H s):s.heap.FunFrames X.base X.stack:=by
 rcases I.ok.stk with e | ⟨e,hf⟩
 ·rw [e]; exact I.funs
 ·rw [e];obtain ⟨m,hn,_⟩:=I.loc;refine .cons (by rw [I.ok.kind]; decide) hf hn ?_ I.funs;exact Heap.get?_none_of_le (Yv I.ok.bsz I.ok.above)
theorem Ao.stkSub (I:Ao X pins σ H s):∀ b ∈ Rj X.stack,b ∈ X.env.locals :: X.fs:=fun b hb=>by
 rcases I.ok.stk with e | ⟨e,hf⟩
 ·rw [e] at hb; exact Yr _ hb
 ·rw [e] at hb;unfold Rj at hb;rw [ab,hf] at hb;exact hb
theorem Ao.stkFree (I:Ao X pins σ H s):∀ b ∈ Rj X.stack,H b=none:=fun b hb=>by
 rcases XX.mp (I.stkSub b hb) with e | hb
 ·rw [e]; exact I.free
 ·obtain ⟨_,o,ho,_⟩:=I.ok.funs.mem hb;exact I.base.free b o ho (I.ok.frf b hb) fun z=>I.ok.exfs b z hb
theorem Ao.step {g':Array GenState} {t':Nat} {d':Drawn} {ch:List Addr} (I:Ao X pins σ H s)
  (hch:∀ b ∈ ch,(b ∈ X.ex\/X.s₀.heap.objs.size<=b)/\b ≠ X.env.locals/\(∀ x c,X.env.cells.lookup x=some c->c ≠ b)/\∀ p ∈ X.pn ++ pins,p.1 ≠ b)
  (keep:∀ b o,b ≠ X.env.locals->b ∉ X.fs->b ∉ ch->s.heap.get? b=some o->H b=none->h'.get? b=some o)
  (slot:∀ b o,b ≠ X.env.locals->b ∈ X.fs->b ∉ ch->s.heap.get? b=some o->H b=none->∃ sl,h'.get? b=some { o with slots:=sl }) (free:∀ b o,b ∉ ch->s.heap.get? b=some o->H b=none->H' b=none)
  (there:∀ b o,b ∉ ch->s.heap.get? b=some o->∃ o',h'.get? b=some o')
  (tups:∀ b xs,H b=some (.tup xs)->H' b=some (.tup xs)) (frzs:∀ b o u,H b=some (.frz o u)->H' b=some (.frz o u)) (tbls:∀ b ps,H b=some (.tbl ps)->∃ more,H' b=some (.tbl (ps ++ more)))
  (ns:∀ m,s.heap.Ns X.env.locals m->h'.Ns X.env.locals m) (hok:Fu X.prog X.w H' h') (hg:AllBare g') :
  Ao X pins σ H' { s with heap:=h',gens:=g',drawn:=d',toks:=t' }:=by
 have neL:∀ b o,X.s₀.heap.get? b=some o->b ≠ X.env.locals:=fun b o e=>Yh (Yj (Ye e) I.ok.above)
 have neC:∀ b o,X.s₀.heap.get? b=some o->b ∉ X.ex->b ∉ ch:=fun b o e hx hb=>by
  rcases (hch b hb).1 with z | z
  ·exact hx z
  ·exact absurd (Yj (Ye e) z) (YI _)
 have cellK:∀ x c,X.env.cells.lookup x=some c->∀ v,s.heap.IsCell c v->h'.IsCell c v:=fun x c e v ⟨o,ho,hd⟩=>by
  have nch:c ∉ ch:=fun z=>(hch c z).2.2.1 x c e rfl
  by_cases hc:c ∈ X.fs
  ·obtain ⟨sl,q⟩:=slot c o (I.cne x c e) hc nch ho (I.freeC x c e);exact ⟨_,q,hd⟩
  ·exact ⟨o,keep c o (I.cne x c e) hc nch ho (I.freeC x c e),hd⟩
 refine ⟨I.ok,I.os,hg,⟨fun b o e n hb hx=>?_,fun b o e n hb hx=>?_,fun b o e n hx=>?_,fun b o e hx=>?_,fun b xs e=>tups b xs (I.base.tups b xs e),fun b o xs e=>frzs b o xs (I.base.frzs b o xs e),fun b ps e=>?_⟩,?_,fun x c e=>?_,?_,fun x c e=>?_,fun p hp=>?_,hok,I.len⟩
 ·exact keep b o (neL b o e) hb (neC b o e hx) (I.base.keep b o e n hb hx) (I.base.free b o e n hx)
 ·obtain ⟨sl,e1⟩:=I.base.slot b o e n hb hx;obtain ⟨Ua,e2⟩:=slot b _ (neL b o e) hb (neC b o e hx) e1 (I.base.free b o e n hx);exact ⟨Ua,e2⟩
 ·obtain ⟨o',e1⟩:=I.base.there b o e hx;exact free b o' (neC b o e hx) e1 (I.base.free b o e n hx)
 ·obtain ⟨o',e1⟩:=I.base.there b o e hx;exact there b o' (neC b o e hx) e1
 ·obtain ⟨m1,e1⟩:=I.base.tbls b ps e;obtain ⟨m2,e2⟩:=tbls b _ e1;exact ⟨m1 ++ m2,by rw [e2,Array.append_assoc]⟩
 ·obtain ⟨m,hn,hl⟩:=I.loc;refine ⟨m,ns m hn,fun i x v e1 e2 e3=>?_⟩;obtain ⟨u,r,l⟩:=hl i x v e1 e2 e3;refine ⟨u,r,?_⟩;rcases l with l | ⟨k,c,e,z⟩
  ·exact .inl l
  ·exact .inr ⟨k,c,e,cellK x c e _ z⟩
 ·obtain ⟨v,z⟩:=I.cell x c e;exact ⟨v,cellK x c e v z⟩
 ·obtain ⟨m,⟨o,_,_,ho,_⟩,_⟩:=I.loc;exact free _ o (fun z=>(hch _ z).2.1 rfl) ho I.free
 ·obtain ⟨v,o,ho,hd⟩:=I.cell x c e;exact free c o (fun z=>(hch c z).2.2.1 x c e rfl) ho (I.freeC x c e)
 ·obtain ⟨e,n,ne,nf,d⟩:=I.pin p hp;have nch:p.1 ∉ ch:=fun z=>(hch p.1 z).2.2.2 p hp rfl
  exact ⟨keep p.1 p.2 ne nf nch e n,free p.1 p.2 nch e n,ne,nf,d⟩
theorem Ao.un {t':Nat} (I:Ao X pins σ H s) (u:Un X.fs [] H H' s.heap h') (hok:Fu X.prog X.w H' h'):Ao X pins σ H' { s with heap:=h',toks:=t' }:=by
 obtain ⟨m,⟨o,es,ep,ho,r⟩,_⟩:=id I.loc;obtain ⟨sl,hL⟩:=u.any ho I.free (by simp);exact I.step (g':=s.gens) (d':=s.drawn) (ch:=[]) (fun _ z=>nomatch z) (fun b o _ hb _ e n=>u.keep b o e n hb (by simp)) (fun b o _ hb _ e n=>u.slot b o e n hb (by simp)) (fun b o _ e n=>u.free b o e n (by simp)) (fun b o _ e=>u.there b o e (by simp)) u.tups u.frzs u.tbls (fun m' hm=>by
  obtain ⟨o',SD,SH,IY,r'⟩:=hm;rw [ho] at IY; cases IY;exact ⟨_,SD,SH,hL,r'⟩) hok I.bare
theorem Ao.call {g':Array GenState} {t':Nat} {d':Drawn} {ch:List Addr} (I:Ao X pins σ H s) (u:Un (Rj X.stack) ch H H' s.heap h') (hok:Fu X.prog X.w H' h') (hg:AllBare g')
  (hch:∀ b ∈ ch,(b ∈ X.ex\/X.s₀.heap.objs.size<=b)/\b ≠ X.env.locals/\(∀ x c,X.env.cells.lookup x=some c->c ≠ b)/\∀ p ∈ X.pn ++ pins,p.1 ≠ b) :
  Ao X pins σ H' { s with heap:=h',gens:=g',drawn:=d',toks:=t' }:=by
 obtain ⟨m,⟨o,es,ep,ho,r⟩,_⟩:=id I.loc;obtain ⟨sl,hL⟩:=u.any ho I.free fun z=>(hch _ z).2.1 rfl
 exact I.step (ch:=ch) hch (fun b o hL hb hc e n=>u.keep b o e n (fun z=>(XX.mp (I.stkSub b z)).elim hL hb) hc) (fun b o _ _ hc e n=>u.any e n hc) (fun b o hc e n=>u.free b o e n hc) (fun b o hc e=>u.there b o e hc) u.tups u.frzs u.tbls (fun m' hm=>by
  obtain ⟨o',SD,SH,IY,r'⟩:=hm;rw [ho] at IY; cases IY;exact ⟨_,SD,SH,hL,r'⟩) hok hg
theorem Ao.turned {t':Nat} {it:Addr} (I:Ao X pins σ H s) (k:∀ b o,b ≠ it->s.heap.get? b=some o->h'.get? b=some o) (hn:H it=none) (hL:it ≠ X.env.locals)
  (h1:it ∈ X.ex\/X.s₀.heap.objs.size<=it) (h2:∀ x c,X.env.cells.lookup x=some c->c ≠ it) (h3:∀ p ∈ X.pn ++ pins,p.1 ≠ it):Ao X pins σ H { s with heap:=h',toks:=t' }:=by
 have nit:∀ b u,H b=some u->b ≠ it:=fun b u e z=>by rw [z,hn] at e; cases e
 refine I.step (g':=s.gens) (d':=s.drawn) (ch:=[it]) (fun b hb=>?_) (fun b o _ _ hc e _=>k b o (fun z=>hc (by simp [z])) e) (fun b o _ _ hc e _=>⟨o.slots,k b o (fun z=>hc (by simp [z])) e⟩) (fun _ _ _ _ n=>n)
  (fun b o hc e=>⟨o,k b o (fun z=>hc (by simp [z])) e⟩) (fun _ _ e=>e) (fun _ _ _ e=>e) (fun b ps e=>⟨#[],by rw [e]; simp⟩) (fun m hm=>?_) (fun b u e=>?_) I.bare
 ·have e:b=it:=by simpa using hb
  subst e;exact ⟨h1,hL,h2,h3⟩
 ·obtain ⟨o,es,ep,ho,r⟩:=hm;exact ⟨o,es,ep,k _ o (Ne.symm hL) ho,r⟩
 ·refine (I.hok b u e).stay (fun c v hc q=>k c v ?_ q) (fun _ q=>q) fun _ _ q=>q
  rcases hc with z | z
  ·rw [z]; exact nit b u e
  ·exact nit c _ z
theorem Ao.tok (I:Ao X pins σ H s) (t:Nat):Ao X pins σ H { s with toks:=t }:=I.un (h':=s.heap) (t':=t) Un.refl I.hok
theorem Ao.kept {t':Nat} (I:Ao X pins σ H s) (k:∀ b u,s.heap.get? b=some u->h'.get? b=some u):Ao X pins σ H { s with heap:=h',toks:=t' }:=I.un (Un.kept k) (I.hok.kept k)
theorem Ao.laid {a:Addr} {o:HO} {t':Nat} (I:Ao X pins σ H s) (k:∀ b u,s.heap.get? b=some u->h'.get? b=some u) (hp:s.heap.objs.size<=a) (new:A4 X.prog X.w (upd H a o) h' a o) :
  Ao X pins σ (upd H a o) { s with heap:=h',toks:=t' }:=I.un (Un.laid k hp (I.hok.fresh hp)) (I.hok.laid k hp new)
theorem Ao.write {x e:Addr} {o:HO} {t':Nat} (I:Ao X pins σ H s) (mu:Mut (H x)) (he:e=x\/H e=some (.own x)) (k:∀ b u,b ≠ e->s.heap.get? b=some u->h'.get? b=some u) (heo:∃ u,h'.get? e=some u)
  (new:A4 X.prog X.w (upd H x o) h' x o):Ao X pins σ (upd H x o) { s with heap:=h',toks:=t' }:=I.un (Un.write mu he k heo) (I.hok.write mu he k heo new)
theorem Ao.pins_of {Tr:List (Addr × Obj)} (I:Ao X pins σ H s) (h:∀ p ∈ Tr,s.heap.get? p.1=some p.2/\H p.1=none/\p.1 ≠ X.env.locals/\p.1 ∉ X.fs/\∀ v,p.2.data ≠ .cell v):Ao X Tr σ H s:=
 ⟨I.ok,I.os,I.bare,I.base,I.loc,I.cell,I.free,I.freeC,fun p hp=>(Yt.mp hp).elim (fun z=>I.pin p (YS _ z)) (h p),I.hok,I.len⟩
theorem HV {N:List Str} (hN:N.Nodup) {i j:Nat} {x:Str} (a:N[i]? = some x) (b:N[j]? = some x):i=j:=by
 obtain ⟨h1,e1⟩:=Yb.mp a;obtain ⟨h2,e2⟩:=Yb.mp b;exact (az hN).mp (e1.trans e2.symm)
theorem EE {M:Model} {A:Around} {E:Value->Shared->Prop} {i:Nat} {x:Str} {v:V} {u:Value} {Q:Unit->Shared->Prop} (I:Ao X pins σ H s) (hN:X.N.Nodup) (hi:X.N[i]? = some x) (hx:UM X.env.scope x) (r:A1 v u)
  (h:∀ s',Ao X pins (σ.set i (some v)) H s'->(∃ a,Heap.SameBut a s.heap s'.heap/\(a=X.env.locals\/X.env.cells.lookup x=some a))->Q () s') (hf:X.fn x=true\/X.env.scope.names.lookup x=some .local:=by first | exact .inl rfl | exact .inr rfl | assumption):wpAny M A (storeName X.env x u) Q E s:=by
 obtain ⟨m,hn,hl⟩:=id I.loc;have hcls:(X.env.scope.kind == .class || (X.env.scope.kind == .module && X.env.locals != X.env.globals))=false:=by rw [I.ok.kind]; rfl
 have hiσ:i < σ.length:=by rw [I.len]; exact (Yb.mp hi).1
 have cne:=I.cne;have tracked:∀ {a:Addr} {h':Heap},(∃ o,s.heap.get? a=some o/\H a=none)->Heap.SameBut a s.heap h'->Fu X.prog X.w H h':=fun {a h'} ha hs b ob e=>by
  obtain ⟨_,_,hfree⟩:=ha;refine (I.hok b ob e).stay (fun c w' hc q=>(hs.2 c ?_).trans q) (fun _ q=>q) fun _ _ q=>q
  rintro rfl;rcases hc with rfl | hc
  ·rw [hfree] at e; cases e
  ·rw [hfree] at hc; cases hc
 rcases hx with hk | hk
 ·refine wpAny_storeName_local hk hn (fun h' Wt hs=>?_) hcls;obtain ⟨oL,_,_,hoL,_⟩:=id hn;refine h _ ⟨I.ok,I.os,I.bare,⟨fun b o e n hb hx=>?_,fun b o e n hb hx=>?_,I.base.free,fun b o e hx=>?_,I.base.tups,I.base.frzs,I.base.tbls⟩,⟨_,Wt,fun j y v' e1 e2 e3=>?_⟩,fun y c e=>?_,I.free,I.freeC,fun p hp=>?_,tracked ⟨oL,hoL,I.free⟩ hs,by simpa using I.len⟩ ⟨_,hs,.inl rfl⟩
  ·exact (hs.2 b (Yh (Yj (Ye e) I.ok.above))).trans (I.base.keep b o e n hb hx)
  ·obtain ⟨sl,e1⟩:=I.base.slot b o e n hb hx;exact ⟨sl,(hs.2 b (Yh (Yj (Ye e) I.ok.above))).trans e1⟩
  ·obtain ⟨o',e1⟩:=I.base.there b o e hx;exact ⟨o',(hs.2 b (Yh (Yj (Ye e) I.ok.above))).trans e1⟩
  ·by_cases hj:j=i
   ·subst hj;rw [hi] at e1; cases e1;rw [aV hiσ] at e2;cases e2
    exact ⟨u,r,.inl ⟨hk,by simp⟩⟩
   ·rw [bh (Ne.symm hj)] at e2;obtain ⟨u',r',q⟩:=hl j y v' e1 e2 e3;refine ⟨u',r',?_⟩;rcases q with ⟨k,e⟩ | ⟨k,c,e,z⟩
    ·refine .inl ⟨k,?_⟩;have:y ≠ x:=fun e=>hj (HV hN e1 (e ▸ hi))
     simp [this,e]
    ·exact .inr ⟨k,c,e,z.sameBut hs (cne y c e)⟩
  ·obtain ⟨w',z⟩:=I.cell y c e;exact ⟨w',z.sameBut hs (cne y c e)⟩
  ·obtain ⟨e,n,ne,nf,d⟩:=I.pin p hp;exact ⟨(hs.2 p.1 ne).trans e,n,ne,nf,d⟩
 ·have hfn:X.fn x=true:=by
   rcases hf with z | z
   ·exact z
   ·rw [z] at hk; cases hk
  obtain ⟨c,hc⟩:=I.ok.has x (.inl hk);obtain ⟨w',z⟩:=I.cell x c hc;refine wpAny_storeName_cell I.ok.kind hk hc z (fun h' Hq hs=>?_);obtain ⟨oc,hoc,hocd⟩:=id z;refine h { s with heap:=h' } ⟨I.ok,I.os,I.bare,⟨fun b o e n hb hx=>?_,fun b o e n hb hx=>?_,I.base.free,fun b o e hx=>?_,I.base.tups,I.base.frzs,I.base.tbls⟩,⟨m,hn.sameBut hs (Ne.symm (cne x c hc)),fun j y v' e1 e2 e3=>?_⟩,fun y c' e=>?_,I.free,I.freeC,fun p hp=>?_,tracked ⟨oc,hoc,I.freeC x c hc⟩ hs,by simpa using I.len⟩ ⟨c,hs,.inr hc⟩
  ·exact (hs.2 b (Yh (Yj (Ye e) (I.ok.cab x c hfn hc)))).trans (I.base.keep b o e n hb hx)
  ·obtain ⟨sl,e1⟩:=I.base.slot b o e n hb hx;exact ⟨sl,(hs.2 b (Yh (Yj (Ye e) (I.ok.cab x c hfn hc)))).trans e1⟩
  ·obtain ⟨o',e1⟩:=I.base.there b o e hx;exact ⟨o',(hs.2 b (Yh (Yj (Ye e) (I.ok.cab x c hfn hc)))).trans e1⟩
  ·by_cases hj:j=i
   ·subst hj;rw [hi] at e1; cases e1;rw [aV hiσ] at e2;cases e2
    exact ⟨u,r,.inr ⟨.inl hk,c,hc,Hq⟩⟩
   ·rw [bh (Ne.symm hj)] at e2;obtain ⟨u',r',q⟩:=hl j y v' e1 e2 e3;refine ⟨u',r',?_⟩;rcases q with q | ⟨k,c',e,z'⟩
    ·exact .inl q
    ·refine .inr ⟨k,c',e,z'.sameBut hs ?_⟩;rintro rfl;exact hj (HV hN e1 (I.ok.inj _ _ _ e hc ▸ hi))
  ·by_cases hcc:c'=c
   ·subst hcc; exact ⟨_,Hq⟩
   ·obtain ⟨w2,z2⟩:=I.cell y c' e;exact ⟨w2,z2.sameBut hs hcc⟩
  ·obtain ⟨e,n,ne,nf,d⟩:=I.pin p hp;refine ⟨(hs.2 p.1 ?_).trans e,n,ne,nf,d⟩;intro q;rw [q,hoc] at e;have q':oc=p.2:=Yo.inj e;exact d w' (by rw [<-q']; exact hocd)
theorem KO {M:Model} {A:Around} {E:Value->Shared->Prop} {i:Nat} {x:Str} {v:V} {u:Value} {Q:Unit->Shared->Prop} (I:Ao X pins σ H s) (hN:X.N.Nodup) (hi:X.N[i]? = some x) (hx:UM X.env.scope x) (r:A1 v u)
  (h:∀ s',Ao X pins (σ.set i (some v)) H s'->Q () s') (hf:X.fn x=true\/X.env.scope.names.lookup x=some .local:=by first | exact .inl rfl | exact .inr rfl | assumption):wpAny M A (storeName X.env x u) Q E s:=
 EE I hN hi hx r (fun s' I' _=>h s' I') hf
theorem Ao.call' {s':Shared} {ch:List Addr} (I:Ao X pins σ H s) (ho:s'.os=s.os) (u:Un (Rj X.stack) ch H H' s.heap s'.heap) (hok:Fu X.prog X.w H' s'.heap) (hg:AllBare s'.gens)
  (hch:∀ b ∈ ch,(b ∈ X.ex\/X.s₀.heap.objs.size<=b)/\b ≠ X.env.locals/\(∀ x c,X.env.cells.lookup x=some c->c ≠ b)/\∀ p ∈ X.pn ++ pins,p.1 ≠ b):Ao X pins σ H' s':=by
 obtain ⟨h',g',d',t',o'⟩:=s';have e:o'=s.os:=ho;subst e;exact I.call (g':=g') (t':=t') (d':=d') u hok hg hch
end
abbrev XK:=Value->Option Addr->Hp->Prop
abbrev St:=List (Option V)
abbrev VK:=V->Hp->Prop
abbrev TE:=St->Hp->VK->Prop
abbrev TT:=St->Hp->(Bool->Hp->Prop)->Prop
abbrev TA:=St->Hp->(List V->Hp->Prop)->Prop
structure ED where
 nx:St->Hp->Prop
 rt:VK
 bk:St->Hp->Prop:=fun _ _=>False
 ct:St->Hp->Prop:=fun _ _=>False
abbrev TS:=ED->St->Hp->Prop
def EP (X:Cx) (pins:List (Addr × Obj)) (σ:St) (Q:VK) (u:Value) (s':Shared):Prop:=∃ v H',Ao X pins σ H' s'/\A1 v u/\Q v H'
def TP (X:Cx) (pins:List (Addr × Obj)) (σ:St) (Q:Bool->Hp->Prop) (b:Bool) (s':Shared):Prop:=∃ H',Ao X pins σ H' s'/\Q b H'
def AP (X:Cx) (pins:List (Addr × Obj)) (σ:St) (Q:List V->Hp->Prop) (us:List Value) (s':Shared):Prop:=∃ vs H',Ao X pins σ H' s'/\Az vs us/\Q vs H'
def SP (X:Cx) (pins:List (Addr × Obj)) (D:ED) (f:Flow) (s':Shared):Prop:=
 match f with
 | .next=>∃ Ay H',Ao X pins Ay H' s'/\D.nx Ay H'
 | .brk=>∃ Ay H',Ao X pins Ay H' s'/\D.bk Ay H'
 | .cont=>∃ Ay H',Ao X pins Ay H' s'/\D.ct Ay H'
 | .ret u=>∃ v Ay H',Ao X pins Ay H' s'/\A1 v u/\D.rt v H'
def PE (X:Cx) (e:Expr) (t:TE):Prop:=
 ∀ ⦃pins:List (Addr × Obj)⦄ (s:Shared) (σ:St) (H:Hp) (Q:VK),Ao X pins σ H s->t σ H Q->wpAny (model X.prog X.w) X.A (eval e X.env) (EP X pins σ Q) X.xe s
def PT (X:Cx) (e:Expr) (t:TT):Prop:=
 ∀ ⦃pins:List (Addr × Obj)⦄ (s:Shared) (σ:St) (H:Hp) (Q:Bool->Hp->Prop),Ao X pins σ H s->t σ H Q->wpAny (model X.prog X.w) X.A (isTrue e X.env (eval e X.env)) (TP X pins σ Q) X.xe s
def PW (X:Cx) (e:Expr) (t:TT):Prop:=
 ∀ ⦃whole:Sem Value⦄ (pins:List (Addr × Obj)) (s:Shared) (σ:St) (H:Hp) (Q:Bool->Hp->Prop),Ao X pins σ H s->t σ H Q->wpAny (model X.prog X.w) X.A (isTrue e X.env whole) (TP X pins σ Q) X.xe s
theorem PW.pt {X:Cx} {e:Expr} {t:TT} (h:PW X e t):PT X e t:=@h _
def PA (X:Cx) (es:List Expr) (t:TA):Prop:=
 ∀ ⦃pos:Pos⦄ (pins:List (Addr × Obj)) (s:Shared) (σ:St) (H:Hp) (Q:List V->Hp->Prop),Ao X pins σ H s->t σ H Q->wpAny (model X.prog X.w) X.A (spliced (backTo pos (starEach es X.env))) (AP X pins σ Q) X.xe s
def PS (X:Cx) (st:Stmt) (t:TS):Prop:=
 ∀ ⦃pins:List (Addr × Obj)⦄ (s:Shared) (σ:St) (H:Hp) (D:ED),Ao X pins σ H s->t D σ H->wpAny (model X.prog X.w) X.A (exec st X.env) (SP X pins D) X.xe s
def LP (X:Cx) (st:List Stmt) (t:TS):Prop:=
 ∀ ⦃pins:List (Addr × Obj)⦄ (s:Shared) (σ:St) (H:Hp) (D:ED),Ao X pins σ H s->t D σ H->wpAny (model X.prog X.w) X.A (execs st X.env) (SP X pins D) X.xe s
theorem Bo {α:Type} {t:Sem α} {Q Q':α->Shared->Prop} {M:Model} {A:Around} {E:Value->Shared->Prop} {s:Shared} (h:wpAny M A t Q E s) (hQ:∀ a s,Q a s->Q' a s):wpAny M A t Q' E s:=wpAny_mono h hQ fun _ _ x=>x
section
variable {X:Cx}
def RP (i:Nat):TE:=fun σ H Q=>∃ v,σ[i]? = some (some v)/\Q v H
def tC (v:V):TE:=fun _ H Q=>Q v H
theorem Uq {i:Nat} {x:Str} {pos:Pos} (hN:X.N[i]? = some x) (hv:Vis X.env.scope x) (hd:(x == ("__debug__":Str))=false:=by decide) (hcd:(x == ("__classdict__":Str))=false:=by decide):PE X (.Name x pos) (RP i):=by
 intro pins s σ H Q I h;obtain ⟨v,e,h⟩:=h;obtain ⟨m,hn,hl⟩:=I.loc;obtain ⟨u,r,l⟩:=hl i x v hN e hv;have fin:EP X pins σ Q u s:=⟨v,H,I,r,h⟩
 rcases l with ⟨hk,hm⟩ | ⟨hk,c,hc,hcell⟩
 ·exact wpAny_Name (wpAny_loadName_local I.ok.kind hk hn hm fin) hd
 ·rcases hk with hk | hk
  ·exact wpAny_Name (wpAny_loadName_cell I.ok.kind hk hc hcell fin) hd
  ·exact wpAny_Name (wpAny_loadName_free I.ok.kind hk hc hcell fin hcd) hd
theorem Ag {i j pos}:PE X (.Constant (.int i) j pos) (tC (.int i)):=fun _ _ _ H _ I h=>wpAny_Constant_int ⟨.int i,H,I.tok _,⟨_,rfl⟩,h⟩
theorem J1 {b j pos}:PE X (.Constant (.bool b) j pos) (tC (.bl b)):=fun _ _ _ H _ I h=>Constant_bool ⟨.bl b,H,I,rfl,h⟩
theorem Kl {j pos}:PE X (.Constant .none j pos) (tC .non):=fun _ _ _ H _ I h=>Constant_none ⟨.non,H,I,rfl,h⟩
theorem Cc {x j pos}:PE X (.Constant (.str x) j pos) (tC (.str x)):=fun _ _ _ H _ I h=>Calls.Constant_str ⟨.str x,H,I.tok _,⟨_,rfl⟩,h⟩
def Gl (X:Cx) (x:Str):Prop:=X.env.kindOf x=some .globalImplicit
theorem Nv {E:Value->Shared->Prop} {pins:List (Addr × Obj)} {s:Shared} {σ:St} {H:Hp} {x:Str} {u:Value} {pos:Pos} {Q:Value->Shared->Prop} (I:Ao X pins σ H s) (hg:Gl X x) (hm:X.mg x=some u) (h:Q u s)
  (hd:(x == ("__debug__":Str))=false:=by decide):wpAny (model X.prog X.w) X.A (eval (.Name x pos) X.env) Q E s:=
 Calls.Name_function_global I.ok.kind hg (Calls.loadGlobal_global (by rw [I.ok.glob]; exact I.mod.glob.keeps I.bk) hm h) hd
theorem Ib {E:Value->Shared->Prop} {pins:List (Addr × Obj)} {s:Shared} {σ:St} {H:Hp} {x:Str} {u:Value} {pos:Pos} {Q:Value->Shared->Prop} (I:Ao X pins σ H s) (hg:Gl X x) (hm:X.mg x=none) (hv:bootBuiltins x=some u) (h:Q u s)
  (hn:x ≠ "__name__":=by decide) (hd:(x == ("__debug__":Str))=false:=by decide):wpAny (model X.prog X.w) X.A (eval (.Name x pos) X.env) Q E s:=by
 obtain ⟨mb,h1,h2⟩:=I.mod.blt;exact Calls.Name_function_global I.ok.kind hg (Calls.loadGlobal_builtin (by rw [I.ok.glob]; exact I.mod.glob.keeps I.bk) hm (by rw [I.ok.blt]; exact h1.keeps I.bk) ((h2 x hn).trans hv) h) hd
theorem Sh {x:Str} {v:V} {u:Value} {pos:Pos} (hg:Gl X x) (hm:X.mg x=some u) (r:A1 v u) (hd:(x == ("__debug__":Str))=false:=by decide):PE X (.Name x pos) (tC v):=
 fun _ _ _ H _ I h=>Nv I hg hm ⟨v,H,I,r,h⟩ hd
theorem Nf {x:Str} {v:V} {u:Value} {pos:Pos} (hg:Gl X x) (hm:X.mg x=none) (hv:bootBuiltins x=some u) (r:A1 v u) (hn:x ≠ "__name__":=by decide) (hd:(x == ("__debug__":Str))=false:=by decide):PE X (.Name x pos) (tC v):=
 fun _ _ _ H _ I h=>Ib I hg hm hv ⟨v,H,I,r,h⟩ hn hd
variable {a b:Expr} {ta tb:TE} {pos:Pos}
def PC (X:Cx) (op:CmpOp) (a b:Expr) (t:TE):Prop:=
 ∀ ⦃pins:List (Addr × Obj)⦄ (s:Shared) (σ:St) (H:Hp) (Q:VK),Ao X pins σ H s->t σ H Q ->
  wpAny (model X.prog X.w) X.A (eval a X.env) (fun v AI=>wpAny (model X.prog X.w) X.A (eval b X.env) (fun u Em=>wpAny (model X.prog X.w) X.A (compareOp op v u) (EP X pins σ Q) X.xe Em) X.xe AI) X.xe s
theorem Lq (b:Expr) {op:CmpOp} (h:op ≠ .In) (h2:op ≠ .NotIn):behindInMarks op b=false:=by
 have e1:(op == CmpOp.In)=false:=by cases op <;> first | rfl | exact absurd rfl h
 have e2:(op == CmpOp.NotIn)=false:=by cases op <;> first | rfl | exact absurd rfl h2
 cases b <;> simp [behindInMarks,e1,e2]
def tIsN (ta:TE):TE:=fun σ H Q=>ta σ H fun x H1=>Q (.bl (decide (x=.non))) H1
theorem A1.none_iff {x:V} {v:Value} (r:A1 x v):(v == Value.none)=decide (x=.non):=by
 cases x with
 | non=>cases r; rfl
 | bl _=>cases r; rfl
 | int _=>obtain ⟨t,rfl⟩:=r; rfl
 | str _=>obtain ⟨t,rfl⟩:=r; rfl
 | byt _=>obtain ⟨t,rfl⟩:=r; rfl
 | flt _=>obtain ⟨t,rfl⟩:=r; rfl
 | ref _=>cases r; rfl
 | ty _=>cases r; rfl
theorem HL {j pos'} (ha:PE X a ta):PC X .Is a (.Constant .none j pos') (tIsN ta):=by
 intro pins s σ H Q I h;refine Bo (ha (pins:=pins) s σ H _ I h) fun v s1 ⟨x,H1,I1,r1,q1⟩=>?_
 exact Constant_none (is_none_gen ⟨.bl _,H1,I1,by rw [r1.none_iff]; rfl,q1⟩)
def tB (t:TE):TT:=fun σ H Q=>t σ H fun x H1=>∃ c,x=.bl c/\Q c H1
theorem Mn {op:CmpOp} {t:TE} (h:PC X op a b t) (h1:behindInMarks op b=false:=by first | exact Lq _ (by decide) (by decide) | rfl):PE X (.Compare a [op] [b] pos) t:=fun pins s σ H Q I hw=>wpAny_Compare1 (h (pins:=pins) s σ H Q I hw) h1
theorem HF {op:CmpOp} {t:TE} (h:PC X op a b t) (h1:behindInMarks op b=false:=by first | exact Lq _ (by decide) (by decide) | rfl):PT X (.Compare a [op] [b] pos) (tB t):=by
 intro pins s σ H Q I hw;refine wpAny_isTrue_Compare1 (Bo (h (pins:=pins) s σ H _ I hw) fun v s1 h1=>Bo h1 fun u s2 h2=>Bo h2 fun c s3 ⟨x,H1,I1,r1,q1⟩=>?_) h1;obtain ⟨d,rfl,q⟩:=q1;cases r1
 exact wpAny_truthy_bool ⟨H1,I1,q⟩
theorem Kg {e:Expr} {t:TE} (h:PE X e t) (he:∀ whole,isTrue e X.env whole=(do let v <- whole; standAt e.pos; holding [v] (truthy v)):=by intro _; rfl):PT X e (tB t):=by
 intro pins s σ H Q I hw;refine isTrue_plain (Bo (h (pins:=pins) s σ H _ I hw) fun v s1 ⟨x,H1,I1,r1,q1⟩=>?_) (he _);obtain ⟨d,rfl,q⟩:=q1;cases r1
 exact wpAny_truthy_bool ⟨H1,I1,q⟩
variable {tA Wf:TT} {Cu:List Expr}
def tAnd (t u:TT):TT:=fun σ H Q=>t σ H fun c H1=>if c=true then u σ H1 Q else Q false H1
def tOr (t u:TT):TT:=fun σ H Q=>t σ H fun c H1=>if c=true then Q true H1 else u σ H1 Q
def tNot (t:TT):TT:=fun σ H Q=>t σ H fun c H1=>Q (!c) H1
theorem Se (ha:PT X a tA):PW X (.BoolOp .And [a] pos) tA:=by
 intro wh pins s σ H Q I h;refine isTrue_and (Bo (ha (pins:=pins) s σ H Q I h) fun c s1 e=>?_);cases c with
 | true=>exact isTrue_and_nil e
 | false=>exact e
theorem HC (ha:PT X a tA):PW X (.BoolOp .Or [a] pos) tA:=by
 intro wh pins s σ H Q I h;refine isTrue_or (Bo (ha (pins:=pins) s σ H Q I h) fun c s1 e=>?_);cases c with
 | false=>exact isTrue_or_nil e
 | true=>exact e
theorem Um (ha:PT X a tA) (hb:PW X (.BoolOp .And (b :: Cu) pos) Wf):PW X (.BoolOp .And (a :: b :: Cu) pos) (tAnd tA Wf):=by
 intro wh pins s σ H Q I h;refine isTrue_and (Bo (ha (pins:=pins) s σ H _ I h) fun c s1 ⟨H1,I1,q1⟩=>?_);cases c with
 | true=>exact hb (whole:=wh) (pins:=pins) s1 σ H1 Q I1 q1
 | false=>exact ⟨H1,I1,q1⟩
theorem Lf (ha:PT X a tA) (hb:PW X (.BoolOp .Or (b :: Cu) pos) Wf):PW X (.BoolOp .Or (a :: b :: Cu) pos) (tOr tA Wf):=by
 intro wh pins s σ H Q I h;refine isTrue_or (Bo (ha (pins:=pins) s σ H _ I h) fun c s1 ⟨H1,I1,q1⟩=>?_);cases c with
 | true=>exact ⟨H1,I1,q1⟩
 | false=>exact hb (whole:=wh) (pins:=pins) s1 σ H1 Q I1 q1
theorem HE (ha:PT X a tA):PT X (.UnaryOp .Not a pos) (tNot tA):=by
 intro pins s σ H Q I h;exact isTrue_not (ha (pins:=pins) s σ H (fun c H1=>Q (!c) H1) I h)
def tAndV (ta tb:TE):TE:=fun σ H Q=>ta σ H fun x H1=>∃ c,x=.bl c/\if c=true then tb σ H1 Q else Q (.bl false) H1
theorem QD {op} {t:TE} (h:PE X a t):PE X (.BoolOp op [a] pos) t:=fun pins s σ H Q I hw=>BoolOp_one (h (pins:=pins) s σ H Q I hw)
theorem QH (ha:PE X a ta) (hb:PE X (.BoolOp .And (b :: Cu) pos) tb):PE X (.BoolOp .And (a :: b :: Cu) pos) (tAndV ta tb):=by
 intro pins s σ H Q I h;refine BoolOp_and (Bo (ha (pins:=pins) s σ H _ I h) fun v s1 ⟨x,H1,I1,r1,q1⟩=>?_);obtain ⟨c,rfl,q1⟩:=q1;cases r1
 refine wpAny_truthy_bool ?_;cases c with
 | true=>exact hb (pins:=pins) s1 σ H1 Q I1 q1
 | false=>exact ⟨.bl false,H1,I1,rfl,q1⟩
def tIf (t:TT) (ta tb:TE):TE:=fun σ H Q=>t σ H fun c H1=>if c=true then ta σ H1 Q else tb σ H1 Q
theorem HI {c:Expr} (hc:PT X c tA) (ha:PE X a ta) (hb:PE X b tb):PE X (.IfExp c a b pos) (tIf tA ta tb):=by
 intro pins s σ H Q I h;refine wpAny_IfExp (Bo (hc (pins:=pins) s σ H _ I h) fun d s1 ⟨H1,I1,q1⟩=>?_);cases d with
 | true=>exact ha (pins:=pins) s1 σ H1 Q I1 q1
 | false=>exact hb (pins:=pins) s1 σ H1 Q I1 q1
end
def AM (K:XU) (H:Hp) (a:Addr) (xs:List V):Prop:=
 Rd H a (.lst xs) \/
  ∃ (o:Obj) (Aq:Array Value) (n:Nat),K.lookup a=some o/\o.cls=.type "list"/\o.dict=none/\o.data=.seq Aq n/\Aq.size<=sizeLine/\Az xs Aq.toList
def AE (K:XU) (H:Hp) (a:Addr) (xs:List V):Prop:=
 Rd H a (.tup xs) \/
  ∃ (o:Obj) (Aq:Array Value) (n:Nat),K.lookup a=some o/\o.cls=.type "tuple"/\o.data=.seq Aq n/\Aq.size<=sizeLine/\Az xs Aq.toList
def absV:Value->Option V
 | .none=>some .non
 | .bool b=>some (.bl b)
 | .int i _=>some (.int i)
 | .str x _=>some (.str x)
 | .bytes b _=>some (.byt b)
 | .float b _=>some (.flt b)
 | .ref a=>some (.ref a)
 | .type n=>some (.ty n)
 | _=>none
theorem A1.abs {x:V} {u:Value} (r:A1 x u):absV u=some x:=by
 cases x with
 | non=>cases r; rfl
 | bl _=>cases r; rfl
 | int _=>obtain ⟨t,rfl⟩:=r; rfl
 | str _=>obtain ⟨t,rfl⟩:=r; rfl
 | byt _=>obtain ⟨t,rfl⟩:=r; rfl
 | flt _=>obtain ⟨t,rfl⟩:=r; rfl
 | ref _=>cases r; rfl
 | ty _=>cases r; rfl
theorem A1.inj {x y:V} {u:Value} (r:A1 x u) (q:A1 y u):x=y:=Yo.inj (r.abs.symm.trans q.abs)
theorem Az.inj:∀ {xs ys:List V} {us:List Value},Az xs us->Az ys us->xs=ys
 | _,_,_,.nil,.nil=>rfl
 | _,_,_,.cons r t,.cons r' t'=>by rw [r.inj r',Az.inj t t']
section
variable {X:Cx} {pins:List (Addr × Obj)} {σ:St} {H:Hp} {s:Shared} {a:Addr} {xs ys:List V}
theorem AM.of {K:XU} (h:H a=some (.lst xs)):AM K H a xs:=.inl (.inl h)
theorem AE.of {K:XU} (h:H a=some (.tup xs)):AE K H a xs:=.inl (.inl h)
theorem Ao.list (I:Ao X pins σ H s) (h:AM X.K H a xs):∃ Aq:List Value,Az xs Aq/\PlainL s.heap a Aq.toArray/\xs.length<=sizeLine:=by
 rcases h with h | ⟨o,Aq,n,hk,hc,hd,hs,hz,r⟩
 ·obtain ⟨z,Aq,n,r,e⟩:=h.ok I.hok;exact ⟨Aq,r,⟨_,n,e,rfl,rfl,rfl⟩,z⟩
 ·refine ⟨Aq.toList,r,⟨o,n,I.kIn a o hk,hc,hd,by simpa using hs⟩,?_⟩;have e:=r.length;simp only [Y0] at e;lia
theorem Ao.tuple (I:Ao X pins σ H s) (h:AE X.K H a xs):∃ Aq:List Value,Az xs Aq/\IsTup s.heap a Aq.toArray/\xs.length<=sizeLine:=by
 rcases h with h | ⟨o,Aq,n,hk,hc,hs,hz,r⟩
 ·obtain ⟨z,Aq,r,p,_⟩:=h.ok I.hok;exact ⟨Aq,r,p,z⟩
 ·refine ⟨Aq.toList,r,⟨o,I.kIn a o hk,hc,n,by simpa using hs⟩,?_⟩;have e:=r.length;simp only [Y0] at e;lia
theorem Ao.list_inj (I:Ao X pins σ H s) (h:AM X.K H a xs) (h':AM X.K H a ys):xs=ys:=by
 obtain ⟨Aq,r,⟨o,n,e,_,_,d⟩,_⟩:=I.list h;obtain ⟨its',r',⟨o',n',e',_,_,d'⟩,_⟩:=I.list h';rw [e] at e'; cases e';rw [d] at d';injection d' with d1 _;have:Aq=its':=by simpa using congrArg ak d1
 subst this;exact r.inj r'
theorem Ao.tuple_inj (I:Ao X pins σ H s) (h:AE X.K H a xs) (h':AE X.K H a ys):xs=ys:=by
 obtain ⟨Aq,r,⟨o,e,_,n,d⟩,_⟩:=I.tuple h;obtain ⟨its',r',⟨o',e',_,n',d'⟩,_⟩:=I.tuple h';rw [e] at e'; cases e';rw [d] at d';injection d' with d1 _;have:Aq=its':=by simpa using congrArg ak d1
 subst this;exact r.inj r'
end
abbrev Cx.wish (X:Cx) (E:Value->Shared->Prop):Cx:={ X with xe:=E }
abbrev Cx.nox (X:Cx):Cx:=X.wish fun _ _=>False
theorem Cx.Ok.wish {X:Cx} (ok:X.Ok) (E:Value->Shared->Prop):(X.wish E).Ok:=
 ⟨ok.mod,ok.kind,ok.glob,ok.blt,ok.above,ok.inj,ok.has,ok.cab,ok.hd,ok.frames,ok.stk,ok.exf,ok.bs,ok.bsz,ok.noex,ok.exfs,ok.funs,ok.frf⟩
theorem Cx.Ok.unwish {X:Cx} {E:Value->Shared->Prop} (ok:(X.wish E).Ok):X.Ok:=
 ⟨ok.mod,ok.kind,ok.glob,ok.blt,ok.above,ok.inj,ok.has,ok.cab,ok.hd,ok.frames,ok.stk,ok.exf,ok.bs,ok.bsz,ok.noex,ok.exfs,ok.funs,ok.frf⟩
section
variable {X:Cx} {pins:List (Addr × Obj)} {σ:St} {H:Hp} {s:Shared} {E:Value->Shared->Prop}
theorem Ao.wish (I:Ao X pins σ H s) (E:Value->Shared->Prop):Ao (X.wish E) pins σ H s:=⟨I.ok.wish E,I.os,I.bare,I.base,I.loc,I.cell,I.free,I.freeC,I.pin,I.hok,I.len⟩
theorem Ao.unwish (I:Ao (X.wish E) pins σ H s):Ao X pins σ H s:=⟨I.ok.unwish,I.os,I.bare,I.base,I.loc,I.cell,I.free,I.freeC,I.pin,I.hok,I.len⟩
theorem SP.unwish {D:ED} {f:Flow} {s':Shared} (h:SP (X.wish E) pins D f s'):SP X pins D f s':=by
 cases f with
 | next=>obtain ⟨Ay,H',I,q⟩:=h; exact ⟨Ay,H',I.unwish,q⟩
 | brk=>obtain ⟨Ay,H',I,q⟩:=h; exact ⟨Ay,H',I.unwish,q⟩
 | cont=>obtain ⟨Ay,H',I,q⟩:=h; exact ⟨Ay,H',I.unwish,q⟩
 | ret u=>obtain ⟨v,Ay,H',I,r,q⟩:=h; exact ⟨v,Ay,H',I.unwish,r,q⟩
theorem LP.nox {st:List Stmt} {t:TS} (h:LP X.nox st t):LP X st t:=fun pins s σ H D I hw=>
 wpAny_mono (h (pins:=pins) s σ H D (I.wish _) hw) (fun _ _ q=>q.unwish) fun _ _ z=>False.elim z
end
section
variable {X:Cx} {st:Stmt} {Cu:List Stmt} {t u:TS} {e:Expr} {te:TE} {pos:Pos}
def tNext:TS:=fun D σ H=>D.nx σ H
def tSeq (t u:TS):TS:=fun D σ H=>t { D with nx:=u D } σ H
theorem Bw:LP X [] tNext:=fun _ _ σ H _ I h=>wpAny_execs_nil ⟨σ,H,I,h⟩
theorem Ae (h1:PS X st t) (h2:LP X Cu u):LP X (st :: Cu) (tSeq t u):=by
 intro pins s σ H D I h;refine wpAny_execs_cons (Bo (h1 (pins:=pins) s σ H { D with nx:=u D } I h) fun f s1 q=>?_);cases f with
 | next=>
  obtain ⟨Ay,H',I',q⟩:=q;exact h2 (pins:=pins) s1 Ay H' D I' q
 | ret v=>exact q
 | brk=>exact q
 | cont=>exact q
theorem Al (h1:PS X st t):LP X [st] t:=by
 intro pins s σ H D I h;refine wpAny_execs_cons (Bo (h1 (pins:=pins) s σ H D I h) fun f s1 q=>?_);cases f with
 | next=>exact wpAny_execs_nil q
 | ret v=>exact q
 | brk=>exact q
 | cont=>exact q
theorem Ao.quiet {pins:List (Addr × Obj)} {σ:St} {H:Hp} {s:Shared} (I:Ao X pins σ H s):interactive X.env=false:=by simp [interactive,I.ok.kind]
def tDrop (te:TE):TS:=fun D σ H=>te σ H fun _ H1=>D.nx σ H1
theorem Hj (he:PE X e te) (hs:swapsWith e none pos.line X.env=pure false:=by rfl):PS X (.Expr e pos) (tDrop te):=by
 intro pins s σ H D I h;exact wpAny_Expr_any (Bo (he (pins:=pins) s σ H _ I h) fun v s1 ⟨x,H1,I1,r1,q1⟩=>⟨σ,H1,I1,q1⟩) I.quiet hs
def tRet (te:TE):TS:=fun D σ H=>te σ H D.rt
theorem A5 (he:PE X e te):PS X (.Return (some e) pos) (tRet te):=by
 intro pins s σ H D I h;exact wpAny_Return_some (Bo (he (pins:=pins) s σ H _ I h) fun v s1 ⟨x,H1,I1,r1,q1⟩=>⟨x,σ,H1,I1,r1,q1⟩)
def tIfS (c:TT) (t u:TS):TS:=fun D σ H=>c σ H fun b H1=>if b=true then t D σ H1 else u D σ H1
theorem Dd {c:Expr} {a b:List Stmt} {tc:TT} (hc:PT X c tc) (ha:LP X a t) (hb:LP X b u):PS X (.If c a b pos) (tIfS tc t u):=by
 intro pins s σ H D I h;refine wpAny_If (Bo (hc (pins:=pins) s σ H _ I h) fun d s1 ⟨H1,I1,q1⟩=>?_);cases d with
 | true=>exact ha (pins:=pins) s1 σ H1 D I1 q1
 | false=>exact hb (pins:=pins) s1 σ H1 D I1 q1
end
abbrev TG:=V->St->Hp->(St->Hp->Prop)->Prop
abbrev T9:=List V->St->Hp->(St->Hp->Prop)->Prop
def PG (X:Cx) (target:Expr) (t:TG):Prop:=
 ∀ ⦃pins:List (Addr × Obj)⦄ (s:Shared) (σ:St) (H:Hp) (v:V) (u:Value) (Q:St->Hp->Prop),Ao X pins σ H s->A1 v u->t v σ H Q ->
  wpAny (model X.prog X.w) X.A (assign target X.env u) (fun _ s'=>∃ Ay H',Ao X pins Ay H' s'/\Q Ay H') X.xe s
def PGs (X:Cx) (ts:List Expr) (t:T9):Prop:=
 ∀ ⦃pins:List (Addr × Obj)⦄ (s:Shared) (σ:St) (H:Hp) (vs:List V) (us:List Value) (Q:St->Hp->Prop),Ao X pins σ H s->Az vs us->t vs σ H Q ->
  wpAny (model X.prog X.w) X.A (assignInOrder ((assignEach ts X.env).map (·.2)) us) (fun _ s'=>∃ Ay H',Ao X pins Ay H' s'/\Q Ay H') X.xe s
abbrev UK:=V->V->V->Hp->(Hp->Prop)->Prop
def PSet (X:Cx) (t:UK):Prop:=
 ∀ ⦃pins:List (Addr × Obj)⦄ (s:Shared) (σ:St) (H:Hp) (o i v:V) (ov iv u:Value) (Q:Hp->Prop),Ao X pins σ H s->A1 o ov->A1 i iv->A1 v u->t o i v H Q ->
  wpAny (model X.prog X.w) X.A (setItem ov iv u) (fun _ s'=>∃ H',Ao X pins σ H' s'/\Q H') X.xe s
section
variable {X:Cx} {pos:Pos}
def JF (i:Nat):TG:=fun v σ H Q=>Q (σ.set i (some v)) H
theorem Ai {i:Nat} {x:Str} (hN:X.N.Nodup) (hi:X.N[i]? = some x) (hx:UM X.env.scope x) (hf:X.fn x=true\/X.env.scope.names.lookup x=some .local:=by first | exact .inl rfl | exact .inr rfl | assumption):PG X (.Name x pos) (JF i):=by
 intro pins s σ H v u Q I r h;exact wpAny_assign_Name (KO I hN hi hx r (fun s' I'=>⟨_,H,I',h⟩) hf)
def gNil:T9:=fun vs σ H Q=>vs=[]/\Q σ H
def gCons (t:TG) (u:T9):T9:=fun vs σ H Q=>∃ v r,vs=v :: r/\t v σ H fun Ay H'=>u r Ay H' Q
theorem Bs:PGs X [] gNil:=by
 intro pins s σ H vs us Q I r h;obtain ⟨e,h⟩:=h;subst e;cases r
 exact assignInOrder_nil ⟨σ,H,I,h⟩
theorem Ap {e:Expr} {es:List Expr} {t:TG} {u:T9} (h1:PG X e t) (h2:PGs X es u)
  (hs:(assignEach (e :: es) X.env).map (·.2)=assign e X.env :: (assignEach es X.env).map (·.2):=by rfl):PGs X (e :: es) (gCons t u):=by
 intro pins s σ H vs us Q I r h;obtain ⟨v,vr,e1,h⟩:=h;subst e1;cases r with
 | cons r rr=>
  rw [hs];refine assignInOrder_cons (Bo (h1 (pins:=pins) s σ H _ _ _ I r h) fun _ s1 ⟨UR,H1,I1,q1⟩=>?_);exact h2 (pins:=pins) s1 UR H1 _ _ Q I1 rr q1
def gTup (K:XU) (n:Nat) (t:T9):TG:=fun v σ H Q=>∃ a xs,v=.ref a/\AE K H a xs/\xs.length=n/\t xs σ H Q
theorem QA {es:List Expr} {k:Nat} {t:T9} {n:Nat} (hc:X.calm=true) (h:PGs X es t)
  (hn:(assignEach es X.env).length=n:=by rfl) (hst:(assignEach es X.env).findIdx? (·.1)=none:=by rfl):PG X (.Tuple es k pos) (gTup X.K n t):=by
 intro pins s σ H v u Q I r hw;obtain ⟨a,xs,e1,hq,hl,hw⟩:=hw;subst e1;cases r
 obtain ⟨Aq,rv,ht,hz⟩:=I.tuple hq;refine assign_Tuple_tuple (I.ok.hd hc) ht (by simp [hn,<-hl,rv.length]) hst fun h' hx=>?_
 have I1:Ao X pins σ H { s with heap:=h' }:=I.kept (t':=s.toks) fun b o e=>hx b o (Yh (Ye e)) e
 exact h (pins:=pins) _ σ H xs _ Q I1 (by simpa using rv) hw
def gSub (to ti:TE) (t:UK):TG:=fun v σ H Q=>to σ H fun o H1=>ti σ H1 fun i H2=>t o i v H2 fun H3=>Q σ H3
theorem Mm {o i:Expr} {to ti:TE} {t:UK} (ho:PE X o to) (hi:PE X i ti) (hs:PSet X t)
  (ha:∀ v,assign (.Subscript o i pos) X.env v=(do
   let ov <- holding [v] (eval o X.env)
   let iv <- holding [v,ov] (eval i X.env)
   standAt pos
   holding [v,ov,iv] (setItem ov iv v)
   release [v,ov,iv] []):=by intro _; rfl):PG X (.Subscript o i pos) (gSub to ti t):=by
 intro pins s σ H v u Q I r h;rw [ha];refine wpAny_bind (wpAny_holding (Bo (ho (pins:=pins) s σ H _ I h) fun ov s1 ⟨x,H1,I1,r1,q1⟩=>?_));refine wpAny_bind (wpAny_holding (Bo (hi (pins:=pins) s1 σ H1 _ I1 q1) fun iv s2 ⟨y,H2,I2,r2,q2⟩=>?_));refine wpAny_bind (wpAny_standAt (wpAny_bind (wpAny_holding (Bo (hs (pins:=pins) s2 σ H2 x y v ov iv u _ I2 r1 r2 r q2) fun _ s3 ⟨H3,I3,q3⟩=>?_))));exact wpAny_release ⟨σ,H3,I3,q3⟩
def PY (te:TE) (g:TG):TS:=fun D σ H=>te σ H fun x H1=>g x σ H1 D.nx
theorem DS {tg e:Expr} {te:TE} {g:TG} (he:PE X e te) (hg:PG X tg g) (hs:swapsWithSole [tg] e pos.line X.env=pure false:=by rfl) (hw:swappedStores [tg] e X.env=pure none:=by rfl)
  (h1:(assignEach [tg] X.env).map (·.2)=[assign tg X.env]:=by rfl):PS X (.Assign [tg] e pos) (PY te g):=by
 intro pins s σ H D I h;refine wpAny_Assign_stores (Bo (he (pins:=pins) s σ H _ I h) fun v s1 ⟨x,H1,I1,r1,q1⟩=>?_) hs hw;rw [h1];exact Bo (hg (pins:=pins) s1 σ H1 x v _ I1 r1 q1) fun _ s2 q=>q
theorem Ar {i:Nat} {x:Str} {e:Expr} {te:TE} {pos':Pos} (hN:X.N.Nodup) (hi:X.N[i]? = some x) (hx:UM X.env.scope x) (he:PE X e te) (hs:swapsWith e (some (.Name x pos')) pos.line X.env=pure false:=by rfl) (hf:X.fn x=true\/X.env.scope.names.lookup x=some .local:=by first | exact .inl rfl | exact .inr rfl | assumption) :
  PS X (.Assign [.Name x pos'] e pos) (PY te (JF i)):=by
 intro pins s σ H D I h;refine wpAny_Assign_Name (Bo (he (pins:=pins) s σ H _ I h) fun v s1 ⟨y,H1,I1,r1,q1⟩=>?_) hs;exact KO I1 hN hi hx r1 (fun s2 I2=>⟨_,H1,I2,q1⟩) hf
end
section
variable {X:Cx} {pos:Pos}
def TU (c:TT) (tb:TS):TS:=fun D σ H=>∃ W:Nat->St->Hp->Prop,(∃ m,W m σ H)/\∀ m σ H,W m σ H ->
 c σ H fun b H1=>if b=true then ∃ N:St->Hp->Prop,(∀ Ay H',N Ay H'->∃ m',m' < m/\W m' Ay H')/\tb { D with nx:=N,ct:=N,bk:=D.nx } σ H1 else D.nx σ H1
theorem Q4 {c:Expr} {body:List Stmt} {tc:TT} {tb:TS} (hp:PassesOwn (model X.prog X.w) X.A X.env X.xe) (hc:PT X c tc) (hb:LP X body tb):PS X (.While c body [] pos) (TU tc tb):=by
 intro pins s σ H D I h;obtain ⟨W,⟨m0,w0⟩,turn⟩:=h;refine wpAny_While (codeAny_whileLoop (fun n s'=>∃ Ay H',Ao X pins Ay H' s'/\W n Ay H') ?_ m0 ⟨σ,H,I,w0⟩);rintro n s1 ⟨UR,H1,I1,w1⟩;refine wpAny_passesOwn hp (Bo (hc (pins:=pins) s1 UR H1 _ I1 (turn n UR H1 w1)) fun b s2 ⟨H2,I2,q2⟩=>?_);cases b with
 | true=>
  obtain ⟨N,hN,q2⟩:=q2;rw [if_pos rfl];refine wpAny_passesOwn hp (Bo (hb (pins:=pins) s2 UR H2 _ I2 q2) fun f s3 q3=>?_);cases f with
  | next=>
   obtain ⟨Py,H3,I3,n3⟩:=q3;obtain ⟨m',hm,w3⟩:=hN Py H3 n3;exact ⟨m',hm,Py,H3,I3,w3⟩
  | cont=>
   obtain ⟨Py,H3,I3,n3⟩:=q3;obtain ⟨m',hm,w3⟩:=hN Py H3 n3;exact ⟨m',hm,Py,H3,I3,w3⟩
  | brk=>exact q3
  | ret v=>exact q3
 | false=>
  rw [if_neg Yl];exact wpAny_execs_nil ⟨UR,H2,I2,q2⟩
end
structure It where
 go:Nat->Hp->Prop
 yld:Nat->Hp->V->Hp->Prop
 stop:Nat->Hp->Prop
def Ef (X:Cx) (pins:List (Addr × Obj)) (H:Hp) (b:Addr):Prop:=
 H b=none/\b ≠ X.env.locals/\b ∉ X.fs/\(b ∈ X.ex\/X.s₀.heap.objs.size<=b)/\(∀ x c,X.env.cells.lookup x=some c->c ≠ b)/\∀ p ∈ X.pn ++ pins,p.1 ≠ b
theorem Ao.fpOk {X:Cx} {pins:List (Addr × Obj)} {σ:St} {H H':Hp} {s:Shared} {b:Addr} (I:Ao X pins σ H s) (hb:s.heap.objs.size<=b) (hn:H' b=none):Ef X pins H' b:=by
 refine ⟨hn,YL (Yj I.lt hb),I.nofs hb,.inr (Yv I.sz hb),fun x c e z=>?_,fun p hp z=>?_⟩
 ·obtain ⟨v,q⟩:=I.cell x c e;exact absurd (Yj q.lt (by rw [z]; exact hb)) (YI _)
 ·exact absurd (Yj (Ye (I.pin p hp).1) (by rw [z]; exact hb)) (YI _)
structure LM (P:Program) (w:World) (K:XU) (tg:Expr) (J:It) (fp:List Addr) (it:Addr) (tn:Nat->Heap->Prop):Prop where
 mem:it ∈ fp
 obj:∀ i h,tn i h->∀ b ∈ fp,∃ o,h.get? b=some o/\∀ v,o.data ≠ .cell v
 keep:∀ i h h',tn i h->(∀ b ∈ fp,∀ o,h.get? b=some o->h'.get? b=some o)->tn i h'
 item:∀ (X:Cx),X.prog=P->X.w=w->X.K=K->X.calm=true->∀ (i:Nat) (pins:List (Addr × Obj)) (s:Shared) (σ:St) (H:Hp) (E:Value->Shared->Prop),Ao X pins σ H s->(∀ b ∈ fp,Ef X pins H b)->tn i s.heap->J.go i H ->
  wpAny (model P w) X.A (pyNext (.ref it)) (fun r s1=>∃ u,r=some u /\
   wpAny (model P w) X.A (letOwnedTupleGo tg (.ref it) u) (fun _ s2=>∃ x H',Ao X pins σ H' s2/\A1 x u/\J.yld i H x H'/\tn (i + 1) s2.heap/\∀ b ∈ fp,H' b=none) E s1) E s
 done:∀ (X:Cx),X.prog=P->X.w=w->X.K=K->X.calm=true->∀ (i:Nat) (pins:List (Addr × Obj)) (s:Shared) (σ:St) (H:Hp) (E:Value->Shared->Prop),Ao X pins σ H s->(∀ b ∈ fp,Ef X pins H b)->tn i s.heap->J.stop i H ->
  wpAny (model P w) X.A (pyNext (.ref it)) (fun r s1=>r=none/\Ao X pins σ H s1) E s
 self:∀ (A:Around) (i:Nat) (s:Shared) (Q:Value->Shared->Prop) (E:Value->Shared->Prop),tn i s.heap->Q (.ref it) s->wpAny (model P w) A (pyIter (.ref it)) Q E s
abbrev TI:=St->Hp->(It->Hp->Prop)->Prop
def PIE (X:Cx) (pins:List (Addr × Obj)) (σ:St) (tg:Expr) (R:It->Hp->Prop) (itv:Value) (s2:Shared):Prop:=
 ∃ (it:Addr) (fp:List Addr) (tn:Nat->Heap->Prop) (J:It) (H':Hp),itv=.ref it/\Ao X pins σ H' s2/\LM X.prog X.w X.K tg J fp it tn/\tn 0 s2.heap/\(∀ b ∈ fp,Ef X pins H' b)/\R J H'
def PI (X:Cx) (tg iter:Expr) (wi:TI):Prop:=
 ∀ ⦃pins:List (Addr × Obj)⦄ (s:Shared) (σ:St) (H:Hp) (R:It->Hp->Prop),Ao X pins σ H s->wi σ H R ->
  wpAny (model X.prog X.w) X.A (eval iter X.env) (fun v s1=>wpAny (model X.prog X.w) X.A (pyIter v) (PIE X pins σ tg R) X.xe s1) X.xe s
theorem Io {M:Model} {A:Around} {E:Value->Shared->Prop} {s:Shared} {tg:Expr} {it:Addr} {u:Value} {o:Obj} {n:String} {vs:Array Value} {Q:Unit->Shared->Prop} (ho:s.heap.get? it=some o) (hc:o.cls=.type n) (hd:o.data=.fields vs)
  (hn:["enumerate","zip","dict_itemiterator","dict_reverseitemiterator","odict_iterator","itertools.zip_longest","itertools.pairwise"].contains n=false) (hQ:Q () s):wpAny M A (letOwnedTupleGo tg (.ref it) u) Q E s:=by
 unfold letOwnedTupleGo;cases tg <;> first
  | exact wpAny_pure hQ
  | (cases u <;> first
    | exact wpAny_pure hQ
    | (refine wpAny_bind (wpAny_load ho ?_)
       rw [hc,hd];show wpAny M A (if (["enumerate","zip","dict_itemiterator","dict_reverseitemiterator","odict_iterator","itertools.zip_longest","itertools.pairwise"].contains n && vs[0]? == some (rawInt _))=true then _ else _) Q E s
       rw [if_neg (by intro h; rw [hn,ZX] at h; cases h)];exact wpAny_pure hQ))
def RI (K:XU) (a:Addr):It:=
 ⟨fun i H=>∃ xs x,AM K H a xs/\xs[i]? = some x,fun i H x H'=>H'=H/\∀ xs,AM K H a xs->xs[i]? = some x,fun i H=>∃ xs,AM K H a xs/\xs.length<=i⟩
def Po (K:XU) (a:Addr):It:=
 ⟨fun i H=>∃ xs x,AE K H a xs/\xs[i]? = some x,fun i H x H'=>H'=H/\∀ xs,AE K H a xs->xs[i]? = some x,fun i H=>∃ xs,AE K H a xs/\xs.length<=i⟩
def RH (lo:Int) (n:Nat):It:=⟨fun i _=>i < n,fun i H x H'=>H'=H/\x=.int (lo + i),fun i _=>n<=i⟩
theorem Jp {P:Program} {w:World} {K:XU} {tg:Expr} (a it:Addr):LM P w K tg (RI K a) [it] it (fun i h=>h.IsListIter it a i) where
 mem:=by simp
 obj:=fun i h st b hb=>by
  have e:b=it:=by simpa using hb
  subst e;obtain ⟨o,e,c,d⟩:=st;exact ⟨o,e,fun v z=>by rw [d] at z; cases z⟩
 keep:=fun i h h' st k=>st.at fun o e=>k it (by simp) o e
 item:=by
  intro X hP hw hK hc i pins s σ H E I hf st hg;subst hP hw hK;obtain ⟨xs,x,hq,hx⟩:=hg;obtain ⟨Aq,rv,p,hz⟩:=I.list hq;obtain ⟨u,hu,ru⟩:=rv.get hx;obtain ⟨f0,f1,f2,f3,f4,f5⟩:=hf it (by simp);refine wpAny_pyNext_list_item st p.isList (x:=u) (by simpa using hu) fun h' AH sb=>?_
  have I1:Ao X pins σ H { s with heap:=h' }:=I.turned (t':=s.toks) (fun b o hb e=>(sb.2 b hb).trans e) f0 f1 f3 f4 f5;obtain ⟨o,e,c,d⟩:=id AH;exact ⟨u,rfl,Io (s:={ s with heap:=h' }) e c d (by decide) ⟨x,H,I1,ru,⟨rfl,fun ys hy=>by rw [I.list_inj hy hq]; exact hx⟩,AH,fun b hb=>(hf b hb).1⟩⟩
 done:=by
  intro X hP hw hK hc i pins s σ H E I hf st hg;subst hP hw hK;obtain ⟨xs,hq,hx⟩:=hg;obtain ⟨Aq,rv,p,hz⟩:=I.list hq;obtain ⟨f0,f1,f2,f3,f4,f5⟩:=hf it (by simp);have hl:=rv.length;exact wpAny_pyNext_list_end (I.ok.hd hc) st p.isList (by simp; lia) fun h' eb=>⟨rfl,I.turned (t':=s.toks) (fun b o hb e=>eb b o hb e) f0 f1 f3 f4 f5⟩
 self:=fun _ _ _ _ _ st h=>wpAny_pyIter_listiter st h
theorem Ht {P:Program} {w:World} {K:XU} {tg:Expr} (a it:Addr):LM P w K tg (Po K a) [it] it (fun i h=>h.IsTupleIter it a i) where
 mem:=by simp
 obj:=fun i h st b hb=>by
  have e:b=it:=by simpa using hb
  subst e;obtain ⟨o,e,c,d⟩:=st;exact ⟨o,e,fun v z=>by rw [d] at z; cases z⟩
 keep:=fun i h h' st k=>st.at fun o e=>k it (by simp) o e
 item:=by
  intro X hP hw hK hc i pins s σ H E I hf st hg;subst hP hw hK;obtain ⟨xs,x,hq,hx⟩:=hg;obtain ⟨Aq,rv,p,hz⟩:=I.tuple hq;obtain ⟨u,hu,ru⟩:=rv.get hx;obtain ⟨f0,f1,f2,f3,f4,f5⟩:=hf it (by simp);refine wpAny_pyNext_tuple_item st (show s.heap.IsTuple a Aq.toArray from p) (x:=u) (by simpa using hu) fun h' AH sb=>?_
  have I1:Ao X pins σ H { s with heap:=h' }:=I.turned (t':=s.toks) (fun b o hb e=>(sb.2 b hb).trans e) f0 f1 f3 f4 f5;obtain ⟨o,e,c,d⟩:=id AH;exact ⟨u,rfl,Io (s:={ s with heap:=h' }) e c d (by decide) ⟨x,H,I1,ru,⟨rfl,fun ys hy=>by rw [I.tuple_inj hy hq]; exact hx⟩,AH,fun b hb=>(hf b hb).1⟩⟩
 done:=by
  intro X hP hw hK hc i pins s σ H E I hf st hg;subst hP hw hK;obtain ⟨xs,hq,hx⟩:=hg;obtain ⟨Aq,rv,p,hz⟩:=I.tuple hq;obtain ⟨f0,f1,f2,f3,f4,f5⟩:=hf it (by simp);have hl:=rv.length;exact wpAny_pyNext_tuple_end (I.ok.hd hc) st (show s.heap.IsTuple a Aq.toArray from p) (by simp; lia) fun h' eb=>⟨rfl,I.turned (t':=s.toks) (fun b o hb e=>eb b o hb e) f0 f1 f3 f4 f5⟩
 self:=fun _ _ _ _ _ st h=>wpAny_pyIter_tupleiter st h
theorem LZ {P:Program} {w:World} {K:XU} {tg:Expr} (it:Addr) (lo:Int) (n:Nat):LM P w K tg (RH lo n) [it] it (fun i h=>IsRangeIter h it (lo + (i:Nat) * 1) ((n:Int) - (i:Nat)) 1) where
 mem:=by simp
 obj:=fun i h st b hb=>by
  have e:b=it:=by simpa using hb
  subst e;exact ⟨_,st,fun v z=>by
   have z':Data.fields _=Data.cell v:=z;cases z'⟩
 keep:=fun i h h' st k=>k it (by simp) _ st
 item:=by
  intro X hP hw hK hc i pins s σ H E I hf st hg;subst hP hw hK;obtain ⟨f0,f1,f2,f3,f4,f5⟩:=hf it (by simp);have W:=Walks.range (prog:=X.prog) (w:=X.w) (I.ok.hd hc) it lo 1 n;refine W.item i s _ _ hg st fun v h' tk hv AH kk=>?_
  obtain ⟨t,rfl⟩:=hv;have I1:Ao X pins σ H { s with heap:=h',toks:=tk }:=I.turned (fun b o hb e=>kk b o (by simpa using hb) e) f0 f1 f3 f4 f5;refine ⟨_,rfl,Io (s:={ s with heap:=h',toks:=tk }) (n:="range_iterator") AH rfl rfl (by decide) ⟨.int (lo + i),H,I1,⟨t,?_⟩,⟨rfl,rfl⟩,AH,fun b hb=>(hf b hb).1⟩⟩;rw [Int.mul_one]
 done:=by
  intro X hP hw hK hc i pins s σ H E I hf st hg;subst hP hw hK;obtain ⟨f0,f1,f2,f3,f4,f5⟩:=hf it (by simp);exact wpAny_pyNext_range_end (I.ok.hd hc) st (by have:n<=i:=hg; lia) fun h' eb=>⟨rfl,I.turned (t':=s.toks) (fun b o hb e=>eb b o hb e) f0 f1 f3 f4 f5⟩
 self:=fun _ _ _ _ _ st h=>wpAny_pyIter_rangeiter st h
section
variable {X:Cx} {tg:Expr}
def Tw (K:XU) (tl:TE):TI:=fun σ H R=>tl σ H fun x H1=>∃ a,x=.ref a/\(∃ xs,AM K H1 a xs)/\R (RI K a) H1
def iTup (K:XU) (tl:TE):TI:=fun σ H R=>tl σ H fun x H1=>∃ a,x=.ref a/\(∃ xs,AE K H1 a xs)/\R (Po K a) H1
theorem Hl {l:Expr} {tl:TE} (hl:PE X l tl):PI X tg l (Tw X.K tl):=by
 intro pins s σ H R I h;refine Bo (hl (pins:=pins) s σ H _ I h) fun v s1 ⟨x,H1,I1,r1,q1⟩=>?_
 obtain ⟨a,e,⟨xs,hq⟩,q⟩:=q1;subst e;cases r1
 obtain ⟨Aq,rv,p,hz⟩:=I1.list hq;refine wpAny_pyIter_list p.isList ?_;refine ⟨s1.heap.objs.size,[s1.heap.objs.size],_,_,H1,rfl,I1.kept (t':=s1.toks) fun b o e=>XQ _ e,Jp a _,⟨_,Yf _ rfl,rfl,rfl⟩,fun b hb=>?_,q⟩;have e:b=s1.heap.objs.size:=by simpa using hb
 subst e;exact I1.fpOk (Ya _) (I1.hok.fresh (Ya _))
theorem Kk {l:Expr} {tl:TE} (hl:PE X l tl):PI X tg l (iTup X.K tl):=by
 intro pins s σ H R I h;refine Bo (hl (pins:=pins) s σ H _ I h) fun v s1 ⟨x,H1,I1,r1,q1⟩=>?_
 obtain ⟨a,e,⟨xs,hq⟩,q⟩:=q1;subst e;cases r1
 obtain ⟨Aq,rv,p,hz⟩:=I1.tuple hq;refine wpAny_pyIter_tuple (show s1.heap.IsTuple a Aq.toArray from p) ?_;refine ⟨s1.heap.objs.size,[s1.heap.objs.size],_,_,H1,rfl,I1.kept (t':=s1.toks) fun b o e=>XQ _ e,Ht a _,⟨_,Yf _ rfl,rfl,rfl⟩,fun b hb=>?_,q⟩;have e:b=s1.heap.objs.size:=by simpa using hb
 subst e;exact I1.fpOk (Ya _) (I1.hok.fresh (Ya _))
theorem Le {pins:List (Addr × Obj)} {σ:St} {H:Hp} {s:Shared} {R:It->Hp->Prop} {E:Value->Shared->Prop} {lo hi:Int} {t u v:Tok} {tk:Nat} (I:Ao X pins σ H s) (h1:-(2 ^ 62)<=lo) (h2:lo < 2 ^ 62) (h3:-(2 ^ 62)<=hi) (h4:hi < 2 ^ 62)
  (q:R (RH lo (hi - lo).toNat) H):wpAny (model X.prog X.w) X.A (pyIter (.ref s.heap.objs.size)) (PIE X pins σ tg R) E { s with heap:=s.heap.push { cls:=.type "range",data:=.fields #[.int lo t,.int hi u,.int 1 v] },toks:=tk }:=by
 refine wpAny_pyIter_range (IsRange.new ..) (small_one h1 h2 h3 h4) ?_;have I1:Ao X pins σ H { s with heap:=s.heap.push { cls:=.type "range",data:=.fields #[.int lo t,.int hi u,.int 1 v] },toks:=tk }:=I.kept fun b o e=>XQ _ e
 refine ⟨(s.heap.push { cls:=.type "range",data:=.fields #[.int lo t,.int hi u,.int 1 v] }).objs.size,[(s.heap.push { cls:=.type "range",data:=.fields #[.int lo t,.int hi u,.int 1 v] }).objs.size],_,_,H,rfl,
  I1.kept (t':=tk) fun b o e=>XQ _ e,LZ _ lo (hi - lo).toNat,?_,fun b hb=>?_,q⟩
 ·have e1:lo + ((0:Nat):Int) * 1=lo:=by simp
  have e2:(((hi - lo).toNat:Nat):Int) - ((0:Nat):Int)=Builtin.Range.rangeSize lo hi 1:=by rw [rangeSize_one]; split <;> lia
  show IsRangeIter _ _ (lo + ((0:Nat):Int) * 1) ((((hi - lo).toNat:Nat):Int) - ((0:Nat):Int)) 1
  rw [e1,e2];exact Yf _ rfl
 ·have e:b=(s.heap.push { cls:=.type "range",data:=.fields #[.int lo t,.int hi u,.int 1 v] }).objs.size:=by simpa using hb
  subst e;exact I1.fpOk (Ya _) (I1.hok.fresh (Ya _))
def iRng1 (ta:TA):TI:=fun σ H R=>ta σ H fun vs H1=>∃ j:Int,vs=[.int j]/\-(2 ^ 62)<=j/\j < 2 ^ 62/\R (RH 0 j.toNat) H1
def iRng2 (ta:TA):TI:=fun σ H R=>ta σ H fun vs H1=>∃ i j:Int,vs=[.int i,.int j]/\(-(2 ^ 62)<=i/\i < 2 ^ 62/\-(2 ^ 62)<=j/\j < 2 ^ 62)/\R (RH i (j - i).toNat) H1
theorem CV {a:Expr} {ta:TA} {p pos:Pos} (hg:Gl X "range") (hm:X.mg "range"=none) (ha:PA X [a] ta) (hs:starEach [a] X.env=[(false,eval a X.env)]:=by rfl):PI X tg (.Call (.Name "range" p) [a] [] pos) (iRng1 ta):=by
 intro pins s σ H R I h;refine Call_ (Ib I hg hm boot_range (PyProof.Rows.callWith_type1 (Bo (ha (pos:=pos) (pins:=pins) s σ H _ I h) fun us s1 ⟨vs,H1,I1,r1,q1⟩=>?_) hs rfl));obtain ⟨j,e,q1,q2,q⟩:=q1;subst e;cases r1 with
 | cons r rr=>
  cases rr
  obtain ⟨t,rfl⟩:=r;exact call_range_1 (Le I1 (by lia) (by lia) q1 q2 (by simpa using q))
theorem O4 {a b:Expr} {ta:TA} {p pos:Pos} (hg:Gl X "range") (hm:X.mg "range"=none) (ha:PA X [a,b] ta) (hs:starEach [a,b] X.env=[(false,eval a X.env),(false,eval b X.env)]:=by rfl) (VA:starEach [b] X.env=[(false,eval b X.env)]:=by rfl) :
  PI X tg (.Call (.Name "range" p) [a,b] [] pos) (iRng2 ta):=by
 intro pins s σ H R I h;refine Call_ (Ib I hg hm boot_range (PyProof.Rows.callWith_type1 (Bo (ha (pos:=pos) (pins:=pins) s σ H _ I h) fun us s1 ⟨vs,H1,I1,r1,q1⟩=>?_) (by rw [hs,VA]) (by rw [VA]; rfl)));obtain ⟨i,j,e,⟨q1,q2,q3,q4⟩,q⟩:=q1;subst e;cases r1 with
 | cons r rr=>
  cases rr with
  | cons r' rr=>
   cases rr
   obtain ⟨t,rfl⟩:=r;obtain ⟨t',rfl⟩:=r';exact call_range_2 (Le I1 q1 q2 q3 q4 q)
def tFor (wi:TI) (g:TG) (tb:TS):TS:=fun D σ H=>wi σ H fun J H1=>∃ W:Nat->Nat->St->Hp->Prop,(∃ m,W 0 m σ H1)/\∀ i m σ H,W i m σ H ->
 (J.stop i H/\D.nx σ H)\/(J.go i H/\∃ N:St->Hp->Prop,(∀ Ay H',N Ay H'->∃ m',m' < m/\W (i + 1) m' Ay H')/\∀ x H',J.yld i H x H'->g x σ H' fun Ax H2=>tb { D with nx:=N,ct:=N,bk:=D.nx } Ax H2)
def Dz (fp:List Addr) (h:Heap):List (Addr × Obj):=fp.filterMap fun b=>(h.get? b).map fun o=>(b,o)
theorem AU {fp:List Addr} {h:Heap} {b:Addr} {o:Obj} (hb:b ∈ fp) (e:h.get? b=some o):(b,o) ∈ Dz fp h:=ah.mpr ⟨b,hb,by rw [e]; rfl⟩
theorem OD {fp:List Addr} {h:Heap} {p:Addr × Obj} (hp:p ∈ Dz fp h):p.1 ∈ fp/\h.get? p.1=some p.2:=by
 obtain ⟨b,hb,e⟩:=ah.mp hp;cases q:h.get? b with
 | none=>rw [q] at e; cases e
 | some o=>
  rw [q] at e;have e':(b,o)=p:=Yo.inj e;subst e';exact ⟨hb,q⟩
theorem Ao.pinned {pins:List (Addr × Obj)} {σ:St} {H:Hp} {s:Shared} {fp:List Addr} (I:Ao X pins σ H s) (hf:∀ b ∈ fp,Ef X pins H b) (ho:∀ b ∈ fp,∃ o,s.heap.get? b=some o/\∀ v,o.data ≠ .cell v):Ao X (pins ++ Dz fp s.heap) σ H s:=
 I.pins_of fun p hp=>(Yt.mp hp).elim (fun z=>I.pin p (Yk _ z)) fun z=>by
  obtain ⟨hb,e⟩:=OD z;obtain ⟨f0,f1,f2,_⟩:=hf p.1 hb;obtain ⟨o,e',d⟩:=ho p.1 hb;rw [e] at e'; cases e';exact ⟨e,f0,f1,f2,d⟩
theorem Ao.unpinned {pins pl:List (Addr × Obj)} {σ:St} {H:Hp} {s:Shared} (I:Ao X (pins ++ pl) σ H s):Ao X pins σ H s:=I.pins_of fun p hp=>I.pin p (Yk _ (YS _ hp))
theorem Cb {iter:Expr} {body:List Stmt} {wi:TI} {g:TG} {tb:TS} {pos:Pos} (hp:PassesOwn (model X.prog X.w) X.A X.env X.xe) (hc:X.calm=true) (hi:PI X tg iter wi) (hg:PG X tg g) (hb:LP X body tb)
  (hs:∀ x,foldedSetIterable iter X.env x=pure x:=by intro _; rfl):PS X (.For tg iter body [] pos) (tFor wi g tb):=by
 intro pins s σ H D I h;refine wpAny_For (Bo (hi (pins:=pins) s σ H _ I h) fun v s1 h1=>Bo h1 fun itv s2 h2=>?_) hs;obtain ⟨it,fp,tn,J,H2,e,I2,T,ER,f2,W,⟨m0,w0⟩,turn⟩:=h2;subst e;have stat:∀ {H':Hp},(∀ b ∈ fp,H' b=none)->∀ b ∈ fp,Ef X pins H' b:=fun hn b hb=>⟨hn b hb,(f2 b hb).2⟩
 refine codeAny_forLoop_any (fun n s'=>∃ i Ay H',Ao X pins Ay H' s'/\tn i s'.heap/\(∀ b ∈ fp,H' b=none)/\W i n Ay H') ?_ m0 ⟨0,σ,H2,I2,ER,fun b hb=>(f2 b hb).1,w0⟩;rintro n s3 ⟨i,Py,H3,I3,WI,fr3,w3⟩;rcases turn i n Py H3 w3 with ⟨stop,qn⟩ | ⟨go,N,hN,step⟩
 ·refine wpAny_passesOwn hp (Bo (T.done X rfl rfl rfl hc i (pins:=pins) s3 Py H3 X.xe I3 (stat fr3) WI stop) fun r s4 ⟨hr,I4⟩=>?_);subst hr;exact wpAny_execs_nil ⟨Py,H3,I4,qn⟩
 ·refine wpAny_passesOwn hp (Bo (T.item X rfl rfl rfl hc i (pins:=pins) s3 Py H3 X.xe I3 (stat fr3) WI go) fun r s4 ⟨u,hr,h4⟩=>?_);subst hr;refine wpAny_passesOwn hp (Bo h4 fun _ s5 ⟨x,H5,I5,r5,y5,WH,fr5⟩=>?_);have I5':=I5.pinned (stat fr5) (T.obj _ _ WH);refine wpAny_passesOwn hp (Bo (hg s5 Py H5 x u _ I5' r5 (step x H5 y5)) fun _ s6 ⟨σ6,H6,I6,q6⟩=>?_);refine wpAny_passesOwn hp (Bo (hb s6 σ6 H6 _ I6 q6) fun f s7 q7=>?_);have again:∀ {Eh:St} {H7:Hp},Ao X (pins ++ Dz fp s5.heap) Eh H7 s7->N Eh H7->∃ m,m < n/\∃ i Ay H',Ao X pins Ay H' s7/\tn i s7.heap/\(∀ b ∈ fp,H' b=none)/\W i m Ay H':=fun {Eh H7} I7 n7=>by
   obtain ⟨m',hm,w7⟩:=hN Eh H7 n7;refine ⟨m',hm,i + 1,Eh,H7,I7.unpinned,T.keep _ _ _ WH fun b hb o e=>(I7.pin (b,o) (Yk _ (Yk _ (AU hb e)))).1,fun b hb=>?_,w7⟩;obtain ⟨o,e,d⟩:=T.obj _ _ WH b hb;exact (I7.pin (b,o) (Yk _ (Yk _ (AU hb e)))).2.1
  cases f with
  | next=>obtain ⟨Eh,H7,I7,n7⟩:=q7; exact again I7 n7
  | cont=>obtain ⟨Eh,H7,I7,n7⟩:=q7; exact again I7 n7
  | brk=>obtain ⟨Eh,H7,I7,q7⟩:=q7; exact ⟨Eh,H7,I7.unpinned,q7⟩
  | ret v=>obtain ⟨x7,Eh,H7,I7,r7,q7⟩:=q7; exact ⟨x7,Eh,H7,I7.unpinned,r7,q7⟩
end
theorem FO {K:XU} {a:Addr} {xs:List V} {g:TG} {tb:TS} {D:ED} {σ:St} {H:Hp} (Pv:Nat->St->Hp->Prop) (h0:Pv 0 σ H) (hl:∀ i σ H,i<=xs.length->Pv i σ H->AM K H a xs)
  (hs:∀ i x σ H,xs[i]? = some x->Pv i σ H->g x σ H fun Ax H2=>tb { D with nx:=Pv (i + 1),ct:=Pv (i + 1),bk:=D.nx } Ax H2) (hd:∀ σ H,Pv xs.length σ H->D.nx σ H) :
  ∃ W:Nat->Nat->St->Hp->Prop,(∃ m,W 0 m σ H)/\∀ i m σ H,W i m σ H ->
   ((RI K a).stop i H/\D.nx σ H)\/((RI K a).go i H/\∃ N:St->Hp->Prop,(∀ Ay H',N Ay H'->∃ m',m' < m/\W (i + 1) m' Ay H')/\∀ x H',(RI K a).yld i H x H'->g x σ H' fun Ax H2=>tb { D with nx:=N,ct:=N,bk:=D.nx } Ax H2):=by
 refine ⟨fun i m σ H=>m=xs.length - i/\i<=xs.length/\Pv i σ H,⟨xs.length,by simp,Y9 _,h0⟩,?_⟩;rintro i m σ H ⟨rfl,hi,p⟩;have q:=hl i σ H hi p;by_cases Bu:i < xs.length
 ·refine .inr ⟨⟨xs,xs[i],q,by simp [Bu]⟩,Pv (i + 1),fun Ay H' p'=>⟨xs.length - (i + 1),by lia,rfl,Bu,p'⟩,fun x H' y=>?_⟩;obtain ⟨e,y⟩:=y;subst e;exact hs i x σ _ (y xs q) p
 ·have e:i=xs.length:=by lia
  subst e;exact .inl ⟨⟨xs,q,Ya _⟩,hd σ H p⟩
theorem NC {K:XU} {a:Addr} {xs:List V} {g:TG} {tb:TS} {D:ED} {σ:St} {H:Hp} (Pv:Nat->St->Hp->Prop) (h0:Pv 0 σ H) (hl:∀ i σ H,i<=xs.length->Pv i σ H->AE K H a xs)
  (hs:∀ i x σ H,xs[i]? = some x->Pv i σ H->g x σ H fun Ax H2=>tb { D with nx:=Pv (i + 1),ct:=Pv (i + 1),bk:=D.nx } Ax H2) (hd:∀ σ H,Pv xs.length σ H->D.nx σ H) :
  ∃ W:Nat->Nat->St->Hp->Prop,(∃ m,W 0 m σ H)/\∀ i m σ H,W i m σ H ->
   ((Po K a).stop i H/\D.nx σ H)\/((Po K a).go i H/\∃ N:St->Hp->Prop,(∀ Ay H',N Ay H'->∃ m',m' < m/\W (i + 1) m' Ay H')/\∀ x H',(Po K a).yld i H x H'->g x σ H' fun Ax H2=>tb { D with nx:=N,ct:=N,bk:=D.nx } Ax H2):=by
 refine ⟨fun i m σ H=>m=xs.length - i/\i<=xs.length/\Pv i σ H,⟨xs.length,by simp,Y9 _,h0⟩,?_⟩;rintro i m σ H ⟨rfl,hi,p⟩;have q:=hl i σ H hi p;by_cases Bu:i < xs.length
 ·refine .inr ⟨⟨xs,xs[i],q,by simp [Bu]⟩,Pv (i + 1),fun Ay H' p'=>⟨xs.length - (i + 1),by lia,rfl,Bu,p'⟩,fun x H' y=>?_⟩;obtain ⟨e,y⟩:=y;subst e;exact hs i x σ _ (y xs q) p
 ·have e:i=xs.length:=by lia
  subst e;exact .inl ⟨⟨xs,q,Ya _⟩,hd σ H p⟩
theorem CY {lo:Int} {n:Nat} {g:TG} {tb:TS} {D:ED} {σ:St} {H:Hp} (Pv:Nat->St->Hp->Prop) (h0:Pv 0 σ H)
  (hs:∀ i σ H,i < n->Pv i σ H->g (.int (lo + i)) σ H fun Ax H2=>tb { D with nx:=Pv (i + 1),ct:=Pv (i + 1),bk:=D.nx } Ax H2) (hd:∀ σ H,Pv n σ H->D.nx σ H) :
  ∃ W:Nat->Nat->St->Hp->Prop,(∃ m,W 0 m σ H)/\∀ i m σ H,W i m σ H ->
   ((RH lo n).stop i H/\D.nx σ H)\/((RH lo n).go i H/\∃ N:St->Hp->Prop,(∀ Ay H',N Ay H'->∃ m',m' < m/\W (i + 1) m' Ay H')/\∀ x H',(RH lo n).yld i H x H'->g x σ H' fun Ax H2=>tb { D with nx:=N,ct:=N,bk:=D.nx } Ax H2):=by
 refine ⟨fun i m σ H=>m=n - i/\i<=n/\Pv i σ H,⟨n,by simp,Y9 _,h0⟩,?_⟩;rintro i m σ H ⟨rfl,hi,p⟩;by_cases Bu:i < n
 ·refine .inr ⟨Bu,Pv (i + 1),fun Ay H' p'=>⟨n - (i + 1),by lia,rfl,Bu,p'⟩,fun x H' y=>?_⟩;obtain ⟨e,y⟩:=y;subst e y;exact hs i σ _ Bu p
 ·have e:i=n:=by lia
  subst e;exact .inl ⟨Ya _,hd σ H p⟩
abbrev R2:=V->V->Hp->VK->Prop
def EN (X:Cx) (f:Value->Value->Sem Value) (r:R2):Prop:=
 ∀ ⦃pins:List (Addr × Obj)⦄ (s:Shared) (σ:St) (H:Hp) (x y:V) (v u:Value) (Q:VK),Ao X pins σ H s->A1 x v->A1 y u->r x y H Q ->
  wpAny (model X.prog X.w) X.A (f v u) (EP X pins σ Q) X.xe s
def Bg (X:Cx) (f:Value) (r:List V->Hp->VK->Prop):Prop:=
 ∀ ⦃pins:List (Addr × Obj)⦄ (s:Shared) (σ:St) (H:Hp) (xs:List V) (us:List Value) (Q:VK),Ao X pins σ H s->Az xs us->r xs H Q ->
  wpAny (model X.prog X.w) X.A (call f us) (EP X pins σ Q) X.xe s
def TruR (X:Cx) (r:V->Hp->(Bool->Hp->Prop)->Prop):Prop:=
 ∀ ⦃pins:List (Addr × Obj)⦄ (s:Shared) (σ:St) (H:Hp) (x:V) (v:Value) (Q:Bool->Hp->Prop),Ao X pins σ H s->A1 x v->r x H Q ->
  wpAny (model X.prog X.w) X.A (truthy v) (TP X pins σ Q) X.xe s
def tOp (r:R2) (ta tb:TE):TE:=fun σ H Q=>ta σ H fun x H1=>tb σ H1 fun y H2=>r x y H2 Q
def rI (C:Int->Int->Prop) (g:Int->Int->V):R2:=fun x y H Q=>∃ i j,x=.int i/\y=.int j/\C i j/\Q (g i j) H
def Tp (g:Int->Int->V):R2:=fun x y H Q=>∃ i j,x=.int i/\y=.int j/\Q (g i j) H
section
variable {X:Cx} {a b c:Expr} {ta tb tc:TE} {pos:Pos}
theorem UH (ha:PE X a ta) (hb:PE X b tb) {pins:List (Addr × Obj)} {s:Shared} {σ:St} {H:Hp} {R:V->V->Hp->Prop} (I:Ao X pins σ H s)
  (h:ta σ H fun x H1=>tb σ H1 fun y H2=>R x y H2) {Q:Value->Shared->Prop} {f:Value->Value->Sem Value}
  (hf:∀ v u s2 x y H2,Ao X pins σ H2 s2->A1 x v->A1 y u->R x y H2->wpAny (model X.prog X.w) X.A (f v u) Q X.xe s2) :
  wpAny (model X.prog X.w) X.A (eval a X.env) (fun v AI=>wpAny (model X.prog X.w) X.A (eval b X.env) (fun u Em=>wpAny (model X.prog X.w) X.A (f v u) Q X.xe Em) X.xe AI) X.xe s:=by
 refine Bo (ha (pins:=pins) s σ H _ I h) fun v s1 ⟨x,H1,I1,r1,q1⟩=>?_
 refine Bo (hb (pins:=pins) s1 σ H1 _ I1 q1) fun u s2 ⟨y,H2,I2,r2,q2⟩=>?_
 exact hf v u s2 x y H2 I2 r1 r2 q2
theorem Av {op:Operator} {r:R2} (ho:EN X (binaryOp op) r) (ha:PE X a ta) (hb:PE X b tb):PE X (.BinOp a op b pos) (tOp r ta tb):=by
 intro pins s σ H Q I h;exact wpAny_BinOp (UH ha hb I h fun v u s2 x y H2 I2 rx ry q=>ho (pins:=pins) s2 σ H2 x y v u Q I2 rx ry q)
theorem opI {f:Value->Value->Sem Value} {C:Int->Int->Prop} {g:Int->Int->Int}
  (rule:∀ (i j:Int) (t u:Tok) (s:Shared) (Q:Value->Shared->Prop) (E:Value->Shared->Prop),C i j->Q (.int (g i j) s.toks) { s with toks:=s.toks + 1 }->wpAny (model X.prog X.w) X.A (f (.int i t) (.int j u)) Q E s) :
  EN X f (rI C fun i j=>.int (g i j)):=by
 intro pins s σ H x y v u Q I rx ry h;obtain ⟨i,j,rfl,rfl,hc,q⟩:=h;obtain ⟨t,rfl⟩:=rx;obtain ⟨t',rfl⟩:=ry;exact rule i j t t' s _ _ hc ⟨.int (g i j),H,I.tok _,⟨_,rfl⟩,q⟩
theorem opI0 {f:Value->Value->Sem Value} {g:Int->Int->Int}
  (rule:∀ (i j:Int) (t u:Tok) (s:Shared) (Q:Value->Shared->Prop) (E:Value->Shared->Prop),Q (.int (g i j) s.toks) { s with toks:=s.toks + 1 }->wpAny (model X.prog X.w) X.A (f (.int i t) (.int j u)) Q E s) :
  EN X f (Tp fun i j=>.int (g i j)):=by
 intro pins s σ H x y v u Q I rx ry h;obtain ⟨i,j,rfl,rfl,q⟩:=h;obtain ⟨t,rfl⟩:=rx;obtain ⟨t',rfl⟩:=ry;exact rule i j t t' s _ _ ⟨.int (g i j),H,I.tok _,⟨_,rfl⟩,q⟩
theorem Sl {f:Value->Value->Sem Value} {g:Int->Int->Bool}
  (rule:∀ (i j:Int) (t u:Tok) (s:Shared) (Q:Value->Shared->Prop) (E:Value->Shared->Prop),Q (.bool (g i j)) s->wpAny (model X.prog X.w) X.A (f (.int i t) (.int j u)) Q E s) :
  EN X f (Tp fun i j=>.bl (g i j)):=by
 intro pins s σ H x y v u Q I rx ry h;obtain ⟨i,j,rfl,rfl,q⟩:=h;obtain ⟨t,rfl⟩:=rx;obtain ⟨t',rfl⟩:=ry;exact rule i j t t' s _ _ ⟨.bl (g i j),H,I,rfl,q⟩
def CDiv (i j:Int):Prop:=0 < j/\j < 1073741824
def CPow (i j:Int):Prop:=0<=j/\j<=1000000/\i.natAbs < 2 ^ 64
def UO (i j:Int):Prop:=(-(2 ^ 64) < i/\i < 2 ^ 64)\/(-(2 ^ 64) < j/\j < 2 ^ 64)
theorem UO.ok {i j:Int} (h:UO i j):IntMulOk i j:=by
 rcases h with ⟨h1,h2⟩ | ⟨h1,h2⟩
 ·exact .of_left (intBits_le_64 h1 h2)
 ·exact .of_right (intBits_le_64 h1 h2)
theorem Bh:EN X (binaryOp .Add) (Tp fun i j=>.int (i + j)):=opI0 fun _ _ _ _ _ _ _ q=>add_int q
theorem HP:EN X (binaryOp .Sub) (Tp fun i j=>.int (i - j)):=opI0 fun _ _ _ _ _ _ _ q=>sub_int q
theorem De:EN X (binaryOp .Mult) (rI UO fun i j=>.int (i * j)):=opI fun _ _ _ _ _ _ _ hc q=>mul_int q hc.ok
theorem Nh:EN X (binaryOp .FloorDiv) (rI CDiv fun i j=>.int (i / j)):=opI fun i j _ _ _ _ _ hc q=>by
 have h1:(0:Int) < j:=hc.1;have h2:j < 1073741824:=hc.2;exact floordiv_int (by lia) (by rw [Int.fdiv_eq_ediv_of_nonneg i (by lia)]; exact q) (.inl (PyProof.noPylong_small (by lia)))
theorem DT:EN X (binaryOp .Mod) (rI (fun _ j=>0 < j) fun i j=>.int (i % j)):=opI fun i j _ _ _ _ _ hc q=>by
 have h1:(0:Int) < j:=hc;exact mod_int' (by lia) (by rw [Int.fmod_eq_emod_of_nonneg i (by lia)]; exact q)
theorem Ut:EN X (binaryOp .Pow) (rI CPow fun i j=>.int (i ^ j.toNat)):=opI fun _ _ _ _ _ _ _ hc q=>pow_int_small hc.1 hc.2.1 hc.2.2 q
end
def Uc:V->V->Bool
 | .non,.non=>true | .non,.int _=>true | .int _,.non=>true | .non,.bl _=>true | .bl _,.non=>true | .non,.str _=>true | .str _,.non=>true
 | .int _,.int _=>true | .bl _,.bl _=>true | .str _,.str _=>true | .byt _,.byt _=>true
 | .int _,.str _=>true | .str _,.int _=>true | .bl _,.str _=>true | .str _,.bl _=>true
 | _,_=>false
def rEq:R2:=fun x y H Q=>Uc x y=true/\Q (.bl (decide (x=y))) H
def rNe:R2:=fun x y H Q=>Uc x y=true/\Q (.bl (!decide (x=y))) H
theorem NH {i j:Int}:decide (V.int i=V.int j)=(i == j):=by
 rw [YZ];simp
theorem Ru {i j:Bool}:decide (V.bl i=V.bl j)=(i == j):=by
 rw [YZ];simp
theorem NG {i j:Str}:decide (V.str i=V.str j)=(i == j):=by
 rw [YZ];simp
theorem NJ {i j:Array UInt8}:decide (V.byt i=V.byt j)=(i.toList == j.toList):=by
 rw [YZ];cases i
 cases j
 simp
section
variable {X:Cx} {a b c:Expr} {ta tb tc:TE} {pos:Pos}
theorem AQ {pins:List (Addr × Obj)} {σ:St} {H:Hp} {s:Shared} {Q:VK} {k k':Bool} (I:Ao X pins σ H s) (q:Q (.bl k) H) (e:k=k'):EP X pins σ Q (.bool k') s:=by
 subst e;exact ⟨.bl k,H,I,rfl,q⟩
theorem Ll:EN X (compareOp .Eq) rEq:=by
 intro pins s σ H x y v u Q I rx ry h;obtain ⟨hs,q⟩:=h;cases x with
 | non=>
  cases rx
  cases y with
  | non=>cases ry; exact PySem.EqNone.eq_none_none (AQ I q (by simp))
  | bl j=>cases ry; exact PySem.EqNone.eq_none_bool (AQ I q (by simp))
  | int j=>obtain ⟨t',rfl⟩:=ry; exact PySem.EqNone.eq_none_int (AQ I q (by simp))
  | str j=>obtain ⟨t',rfl⟩:=ry; exact PySem.EqNone.eq_none_str (AQ I q (by simp))
  | _=>exact absurd (show false=true from hs) Yl
 | bl i=>
  cases rx
  cases y with
  | non=>cases ry; exact PySem.EqNone.eq_bool_none (AQ I q (by simp))
  | bl j=>cases ry; exact eq_bool (AQ I q Ru)
  | str j=>obtain ⟨t',rfl⟩:=ry; exact PySem.EqMixed.eq_bool_str (AQ I q (by simp))
  | _=>exact absurd (show false=true from hs) Yl
 | int i=>
  obtain ⟨t,rfl⟩:=rx;cases y with
  | non=>cases ry; exact PySem.EqNone.eq_int_none (AQ I q (by simp))
  | int j=>obtain ⟨t',rfl⟩:=ry; exact eq_int (AQ I q NH)
  | str j=>obtain ⟨t',rfl⟩:=ry; exact PySem.EqMixed.eq_int_str (AQ I q (by simp))
  | _=>exact absurd (show false=true from hs) Yl
 | str i=>
  obtain ⟨t,rfl⟩:=rx;cases y with
  | non=>cases ry; exact PySem.EqNone.eq_str_none (AQ I q (by simp))
  | bl j=>cases ry; exact PySem.EqMixed.eq_str_bool (AQ I q (by simp))
  | int j=>obtain ⟨t',rfl⟩:=ry; exact PySem.EqMixed.eq_str_int (AQ I q (by simp))
  | str j=>obtain ⟨t',rfl⟩:=ry; exact eq_str (AQ I q NG)
  | _=>exact absurd (show false=true from hs) Yl
 | byt i=>
  obtain ⟨t,rfl⟩:=rx;cases y with
  | byt j=>obtain ⟨t',rfl⟩:=ry; exact PySem.W.eq_bytes (AQ I q NJ)
  | _=>exact absurd (show false=true from hs) Yl
 | _=>cases y <;> exact absurd (show false=true from hs) Yl
theorem J3:EN X (compareOp .NotEq) rNe:=by
 intro pins s σ H x y v u Q I rx ry h;obtain ⟨hs,q⟩:=h;cases x with
 | non=>
  cases rx
  cases y with
  | non=>cases ry; exact PySem.EqNone.ne_none_none (AQ I q (by simp))
  | bl j=>cases ry; exact PySem.EqNone.ne_none_bool (AQ I q (by simp))
  | int j=>obtain ⟨t',rfl⟩:=ry; exact PySem.EqNone.ne_none_int (AQ I q (by simp))
  | str j=>obtain ⟨t',rfl⟩:=ry; exact PySem.EqNone.ne_none_str (AQ I q (by simp))
  | _=>exact absurd (show false=true from hs) Yl
 | bl i=>
  cases rx
  cases y with
  | non=>cases ry; exact PySem.EqNone.ne_bool_none (AQ I q (by simp))
  | bl j=>cases ry; exact ne_bool (AQ I q (congrArg not Ru))
  | str j=>obtain ⟨t',rfl⟩:=ry; exact PySem.EqMixed.ne_bool_str (AQ I q (by simp))
  | _=>exact absurd (show false=true from hs) Yl
 | int i=>
  obtain ⟨t,rfl⟩:=rx;cases y with
  | non=>cases ry; exact PySem.EqNone.ne_int_none (AQ I q (by simp))
  | int j=>obtain ⟨t',rfl⟩:=ry; exact ne_int (AQ I q (congrArg not NH))
  | str j=>obtain ⟨t',rfl⟩:=ry; exact PySem.EqMixed.ne_int_str (AQ I q (by simp))
  | _=>exact absurd (show false=true from hs) Yl
 | str i=>
  obtain ⟨t,rfl⟩:=rx;cases y with
  | non=>cases ry; exact PySem.EqNone.ne_str_none (AQ I q (by simp))
  | bl j=>cases ry; exact PySem.EqMixed.ne_str_bool (AQ I q (by simp))
  | int j=>obtain ⟨t',rfl⟩:=ry; exact PySem.EqMixed.ne_str_int (AQ I q (by simp))
  | str j=>obtain ⟨t',rfl⟩:=ry; exact ne_str (AQ I q (congrArg not NG))
  | _=>exact absurd (show false=true from hs) Yl
 | byt i=>
  obtain ⟨t,rfl⟩:=rx;cases y with
  | byt j=>obtain ⟨t',rfl⟩:=ry; exact PySem.W.ne_bytes (AQ I q (congrArg not NJ))
  | _=>exact absurd (show false=true from hs) Yl
 | _=>cases y <;> exact absurd (show false=true from hs) Yl
theorem J4:EN X (compareOp .Lt) (Tp fun i j=>.bl (decide (i < j))):=Sl fun _ _ _ _ _ _ _ q=>lt_int q
theorem Lk:EN X (compareOp .LtE) (Tp fun i j=>.bl (decide (i<=j))):=Sl fun _ _ _ _ _ _ _ q=>le_int q
theorem QL:EN X (compareOp .Gt) (Tp fun i j=>.bl (decide (j < i))):=Sl fun _ _ _ _ _ _ _ q=>gt_int q
theorem Ts:EN X (compareOp .GtE) (Tp fun i j=>.bl (decide (j<=i))):=Sl fun _ _ _ _ _ _ _ q=>ge_int q
theorem Bl (b:Expr) {op:CmpOp} (h:op ≠ .In:=by decide) (h2:op ≠ .NotIn:=by decide):behindInMarks op b=false:=by
 have e1:(op == CmpOp.In)=false:=by cases op <;> first | rfl | exact absurd rfl h
 have e2:(op == CmpOp.NotIn)=false:=by cases op <;> first | rfl | exact absurd rfl h2
 cases b <;> simp [behindInMarks,e1,e2]
theorem EJ {op:CmpOp} {r:R2} (ho:EN X (compareOp op) r) (ha:PE X a ta) (hb:PE X b tb) (hm:behindInMarks op b=false):PE X (.Compare a [op] [b] pos) (tOp r ta tb):=by
 intro pins s σ H Q I h;exact wpAny_Compare1 (UH ha hb I h fun v u s2 x y H2 I2 rx ry q=>ho (pins:=pins) s2 σ H2 x y v u Q I2 rx ry q) hm
def Tg (t:TE):TT:=fun σ H Q=>t σ H fun x H'=>∃ k,x=.bl k/\Q k H'
theorem Bm {op:CmpOp} {r:R2} (ho:EN X (compareOp op) r) (ha:PE X a ta) (hb:PE X b tb) (hm:behindInMarks op b=false):PT X (.Compare a [op] [b] pos) (Tg (tOp r ta tb)):=by
 intro pins s σ H Q I h;refine wpAny_isTrue_Compare1 (Bo (ha (pins:=pins) s σ H _ I h) fun v s1 ⟨x,H1,I1,r1,q1⟩=>Bo (hb (pins:=pins) s1 σ H1 _ I1 q1) fun u s2 ⟨y,H2,I2,r2,q2⟩=>
  Bo (ho (pins:=pins) s2 σ H2 x y v u _ I2 r1 r2 q2) fun c s3 ⟨z,H3,I3,r3,k,e,q3⟩=>?_) hm
 subst e;cases r3
 exact wpAny_truthy_bool ⟨H3,I3,q3⟩
def Ma (r r':R2) (ta tb tc:TE):TE:=fun σ H Q=>ta σ H fun x H1=>tb σ H1 fun y H2=>r x y H2 fun z H3=>∃ k,z=.bl k /\
 (if k=true then tc σ H3 fun w' H4=>r' y w' H4 Q else Q (.bl false) H3)
theorem QF {op OA:CmpOp} {r r':R2} (ho:EN X (compareOp op) r) (IY:EN X (compareOp OA) r') (ha:PE X a ta) (hb:PE X b tb) (hc:PE X c tc)
  (hm:lastMarks [op,OA] [b,c]=false:=by with_unfolding_all rfl):PE X (.Compare a [op,OA] [b,c] pos) (Ma r r' ta tb tc):=by
 intro pins s σ H Q I h;refine Compare_chain (Bo (ha (pins:=pins) s σ H _ I h) fun v s1 ⟨x,H1,I1,r1,q1⟩=>chain_link (Bo (hb (pins:=pins) s1 σ H1 _ I1 q1) fun u s2 ⟨y,H2,I2,r2,q2⟩=>
  Bo (ho (pins:=pins) s2 σ H2 x y v u _ I2 r1 r2 q2) fun d s3 ⟨z,H3,I3,r3,k,e,q3⟩=>?_)) hm
 subst e;cases r3
 refine wpAny_truthy_bool ?_;cases k with
 | false=>exact ite_ff ⟨.bl false,H3,I3,rfl,q3⟩
 | true=>exact ite_tt (chain_last (Bo (hc (pins:=pins) s3 σ H3 _ I3 q3) fun w' s4 ⟨z',H4,I4,r4,q4⟩=>IY (pins:=pins) s4 σ H4 y z' u w' Q I4 r2 r4 q4))
theorem HG {op OA:CmpOp} {r r':R2} (ho:EN X (compareOp op) r) (IY:EN X (compareOp OA) r') (ha:PE X a ta) (hb:PE X b tb) (hc:PE X c tc)
  (hm:lastMarks [op,OA] [b,c]=false:=by with_unfolding_all rfl):PT X (.Compare a [op,OA] [b,c] pos) (Tg (Ma r r' ta tb tc)):=by
 intro pins s σ H Q I h;refine isTrue_chain (Bo (ha (pins:=pins) s σ H _ I h) fun v s1 ⟨x,H1,I1,r1,q1⟩=>test_link (Bo (hb (pins:=pins) s1 σ H1 _ I1 q1) fun u s2 ⟨y,H2,I2,r2,q2⟩=>
  Bo (ho (pins:=pins) s2 σ H2 x y v u _ I2 r1 r2 q2) fun d s3 ⟨z,H3,I3,r3,k,e,q3⟩=>?_)) hm
 subst e;cases r3
 refine wpAny_truthy_bool ?_;cases k with
 | false=>
  obtain ⟨k',e',q'⟩:=q3;cases e'
  exact ite_ff ⟨H3,I3,q'⟩
 | true=>
  refine ite_tt (test_last (Bo (hc (pins:=pins) s3 σ H3 _ I3 q3) fun w' s4 ⟨z',H4,I4,r4,q4⟩=>Bo (IY (pins:=pins) s4 σ H4 y z' u w' _ I4 r2 r4 q4) fun d' s5 ⟨z2,H5,I5,r5,k2,e2,q5⟩=>?_));subst e2;cases r5
  exact wpAny_truthy_bool ⟨H5,I5,q5⟩
def TruV (K:XU) (x:V) (H:Hp) (k:Bool):Prop:=
 match x with
 | .non=>k=false
 | .bl b=>k=b
 | .int i=>k=(i != 0)
 | .str y=>y.length<=sizeLine/\k=((y.length:Int) != 0)
 | .byt y=>y.size<=sizeLine/\k=((y.size:Int) != 0)
 | .ref p=>(∃ xs,AM K H p xs/\k = !xs.isEmpty)\/(∃ xs,AE K H p xs/\k = !xs.isEmpty)\/∃ kvs,H p=some (.dK kvs)/\k = !kvs.isEmpty
 | _=>False
theorem Mt {κ:Type} {kvs:List (κ × V)} {vs:List (κ × Value)} (r:KV kvs vs):(!vs.isEmpty) = !kvs.isEmpty:=by
 cases r <;> rfl
theorem Ii {xs:List V} {Aq:List Value} (r:Az xs Aq):(!Aq.toArray.isEmpty) = !xs.isEmpty:=by
 cases r <;> simp
theorem Fl:(sizeLine:Nat) < 2 ^ 63:=by rw [sizeLine_eq]; decide
theorem TM:TruR X (fun x H Q=>∃ k,TruV X.K x H k/\Q k H):=by
 intro pins s σ H x v Q I rx h;obtain ⟨k,e,q⟩:=h;have hl:=Fl;have hs:sizeLine=16777216:=sizeLine_eq;cases x with
 | non=>
  cases rx
  have e':k=false:=e;subst e';exact truthy_none ⟨H,I,q⟩
 | bl b=>
  cases rx
  have e':k=b:=e;subst e';exact wpAny_truthy_bool ⟨H,I,q⟩
 | int i=>
  obtain ⟨t,rfl⟩:=rx;have e':k=(i != 0):=e;subst e';exact PySem.P.truthy_int ⟨H,I,q⟩
 | str y=>
  obtain ⟨t,rfl⟩:=rx;obtain ⟨hy,e'⟩:y.length<=sizeLine/\k=((y.length:Int) != 0):=e;subst e';exact PySem.P.truthy_str (by lia) ⟨H,I.tok _,q⟩
 | byt y=>
  obtain ⟨t,rfl⟩:=rx;obtain ⟨hy,e'⟩:y.size<=sizeLine/\k=((y.size:Int) != 0):=e;subst e';exact PySem.W.truthy_bytes (by lia) ⟨H,I.tok _,q⟩
 | ref p=>
  cases rx
  have e':(∃ xs,AM X.K H p xs/\k = !xs.isEmpty)\/(∃ xs,AE X.K H p xs/\k = !xs.isEmpty)\/∃ kvs,H p=some (.dK kvs)/\k = !kvs.isEmpty:=e;rcases e' with ⟨xs,hx,e'⟩ | ⟨xs,hx,e'⟩ | ⟨kvs,hx,e'⟩
  ·subst e';obtain ⟨Aq,r,pl,hz⟩:=I.list hx;have hlen:=r.length;exact wpAny_truthy_list pl.isList (by simp only [Yp]; lia) ⟨H,I.tok _,by rw [Ii r]; exact q⟩
  ·subst e';obtain ⟨Aq,r,pl,hz⟩:=I.tuple hx;have hlen:=r.length;exact truthy_tuple pl (by simp only [Yp]; lia) ⟨H,I.tok _,by rw [Ii r]; exact q⟩
  ·subst e';obtain ⟨hz,hS,vs,r,m⟩:kvs.length<=sizeLine/\(p == sysModules)=false/\∃ vs,KV kvs vs/\s.heap.DictOf (AK X.prog X.w) p vs:=I.hok p _ hx;have hlen:kvs.length=vs.length:=Paired.length r;exact wpAny_truthy_dict hS m (by lia) ⟨H,I.tok _,by rw [Mt r]; exact q⟩
 | _=>exact (show False from e).elim
theorem Lg (ha:PE X a ta) (he:∀ whole,isTrue a X.env whole=(do let v <- whole; standAt a.pos; holding [v] (truthy v))) :
  PT X a (fun σ H Q=>ta σ H fun x H'=>∃ k,TruV X.K x H' k/\Q k H'):=by
 intro pins s σ H Q I h;exact isTrue_plain (Bo (ha (pins:=pins) s σ H _ I h) fun v s1 ⟨x,H1,I1,r1,q1⟩=>TM (pins:=pins) s1 σ H1 x v Q I1 r1 q1) (he _)
theorem DU:EN X (binaryOp .Add) (fun x y H Q=>∃ i j,x=.str i/\y=.str j/\i.length + j.length<=sizeLine/\Q (.str (i ++ j)) H):=by
 intro pins s σ H x y v u Q I rx ry h;obtain ⟨i,j,rfl,rfl,hz,q⟩:=h;obtain ⟨t,rfl⟩:=rx;obtain ⟨t',rfl⟩:=ry;exact add_str (fun t' tk=>⟨.str (i ++ j),H,I.tok _,⟨_,rfl⟩,q⟩) hz
theorem BR {x:V} {us:List Value} (r:Az [x] us):∃ u,us=[u]/\A1 x u:=by
 cases r with
 | cons r1 r2=>cases r2; exact ⟨_,rfl,r1⟩
theorem MM {x y:V} {us:List Value} (r:Az [x,y] us):∃ u w',us=[u,w']/\A1 x u/\A1 y w':=by
 cases r with
 | cons r1 r2=>
  cases r2 with
  | cons r3 r4=>cases r4; exact ⟨_,_,rfl,r1,r3⟩
theorem Rv:Bg X (.builtin "abs") (fun xs H Q=>∃ i,xs=[.int i]/\Q (.int (if i < 0 then -i else i)) H):=by
 intro pins s σ H xs us Q I r h;obtain ⟨i,rfl,q⟩:=h;obtain ⟨u,rfl,t,rfl⟩:=BR r;exact call_abs_int fun u tk=>⟨.int (if i < 0 then -i else i),H,I.tok _,⟨_,rfl⟩,q⟩
theorem Pn (hc:X.calm=true):Bg X (.builtin "max") (fun xs H Q=>∃ i j,xs=[.int i,.int j]/\Q (.int (if j > i then j else i)) H):=by
 intro pins s σ H xs us Q I r h;obtain ⟨i,j,rfl,q⟩:=h;obtain ⟨u,w',rfl,⟨t,rfl⟩,⟨t',rfl⟩⟩:=MM r;refine max_two_ints (I.ok.hd hc) fun h' tk k=>⟨_,H,I.kept k,?_,q⟩
 by_cases hj:j > i
 ·rw [if_pos hj,if_pos hj]; exact ⟨_,rfl⟩
 ·rw [if_neg hj,if_neg hj]; exact ⟨_,rfl⟩
theorem Gp (hc:X.calm=true):Bg X (.builtin "min") (fun xs H Q=>∃ i j,xs=[.int i,.int j]/\Q (.int (if j < i then j else i)) H):=by
 intro pins s σ H xs us Q I r h;obtain ⟨i,j,rfl,q⟩:=h;obtain ⟨u,w',rfl,⟨t,rfl⟩,⟨t',rfl⟩⟩:=MM r;refine min_two_ints (I.ok.hd hc) fun h' tk k=>⟨_,H,I.kept k,?_,q⟩
 by_cases hj:j < i
 ·rw [if_pos hj,if_pos hj]; exact ⟨_,rfl⟩
 ·rw [if_neg hj,if_neg hj]; exact ⟨_,rfl⟩
theorem EM:Bg X (.type "int") (fun xs H Q=>(∃ i,xs=[.int i]/\Q (.int i) H)\/∃ k,xs=[.bl k]/\Q (.int (if k then 1 else 0)) H):=by
 intro pins s σ H xs us Q I r h;rcases h with ⟨i,rfl,q⟩ | ⟨k,rfl,q⟩
 ·obtain ⟨u,rfl,t,rfl⟩:=BR r;exact call_int_int ⟨.int i,H,I,⟨_,rfl⟩,q⟩
 ·obtain ⟨u,rfl,r1⟩:=BR r;cases r1
  exact call_int_bool ⟨.int (if k then 1 else 0),H,I.tok _,⟨_,rfl⟩,q⟩
end
structure UL (h:Heap) (x dx C:Addr) (mA:Str->Option Value):Prop where
 obj:h.get? x=some (au C dx)
 ns:h.Ns1 dx mA
 ne:dx ≠ x
theorem OI {h:Heap} {dx:Addr} {mA:Str->Option Value} (n:h.Ns1 dx mA):∃ od,h.get? dx=some od/\∀ name,aF name od=some (mA name):=by
 obtain ⟨o,es,ep,ho,hd,hk,_,hm⟩:=n;refine ⟨o,ho,fun name=>?_⟩;have e:=hm name;unfold nsFind findBy at e;rw [<-Array.find?_toList] at e;unfold aF;rw [hd];dsimp only;split
 ·rename_i y q
  rw [q] at e;exact congrArg some e
 ·rename_i q
  rw [q] at e;have a:es.toList.any (·.refKey)=false:=by
   rw [List.any_eq_false];intro y hy;obtain ⟨z,t,hkey⟩:=hk y (aX.mp hy);simp [DictEntry.refKey,hkey]
  have a':¬ es.toList.any (·.refKey)=true:=by rw [a]; exact Yl
  rw [if_neg a'];exact congrArg some e
theorem UL.look {h:Heap} {x dx C:Addr} {mA:Str->Option Value} (I:UL h x dx C mA):∃ od,PySem.W.InstAt h x (au C dx) C (some od)/\∀ name,aF name od=some (mA name):=
 let ⟨od,ho,hl⟩:=OI I.ns
 ⟨od,⟨I.obj,rfl,rfl,ho⟩,hl⟩
section
variable {prog:Program} {w:World} {A:Around} {E:Value->Shared->Prop} {s:Shared} {K:XU} {x dx C f:Addr} {mA:Str->Option Value} {name:Str} {v:Value}
end
theorem Gs.some_of {v:V} {o:Option Value} (r:Gs (some v) o):∃ u,o=some u/\A1 v u:=by
 cases o with
 | none=>exact (show False from r).elim
 | some u=>exact ⟨u,rfl,r⟩
section
variable {P:Program} {w:World} {H H':Hp} {h h':Heap} {a C dx:Addr} {fs Ve:List (Str × V)}
theorem S4 (hok:Fu P w H h) (e:H a=some (.ins C dx fs)):∃ mA,UL h a dx C mA/\(∀ f,Gs (fs.lookup f) (mA f))/\PySem.Within mA (fs.map (·.1))/\fs.length<=1000/\H dx=some (.own a):=by
 obtain ⟨d,z,ne,ob,mA,n,r,q⟩:=(show A4 P w H h a (.ins C dx fs) from hok a _ e)
 exact ⟨mA,⟨ob,n,ne⟩,r,q,z,d⟩
end
structure Cls (K:XU) (C:Addr):Prop where
 pg:b6 K C Str.empty=true
 hd:PySem.W.hasDictIn K C=true
 po:PySem.W.plainOver K C=true
 sa:bC K (.ref C) "__setattr__"=some (some (.builtin "object.__setattr__"))
theorem Cls.get {K:XU} {C:Addr} (c:Cls K C) (f:Str):b6 K C f=true:=c.pg
section
variable {X:Cx} {pins:List (Addr × Obj)} {σ:St} {H:Hp} {s:Shared} {a C dx:Addr} {fs:List (Str × V)} {f:Str} {v:V} {A:Around} {E:Value->Shared->Prop}
end
section
variable {X:Cx} {o e value:Expr} {f:Str} {pos pos' tpos:Pos} {ta tv:TE}
end
section
variable {X:Cx} {pins:List (Addr × Obj)} {σ:St} {H:Hp} {s:Shared} {A:Around} {E:Value->Shared->Prop} {Q:Value->Shared->Prop} {c:Value} {b:Bool}
inductive EB (K:XU) (H:Hp):V->Value->Prop where
 | non:EB K H .non (.type "NoneType")
 | bl (x:Bool):EB K H (.bl x) (.type "bool")
 | int (i:Int):EB K H (.int i) (.type "int")
 | str (x:Str):EB K H (.str x) (.type "str")
 | flt (x:UInt64):EB K H (.flt x) (.type "float")
 | lst {a:Addr} {xs:List V} (e:H a=some (.lst xs)):EB K H (.ref a) (.type "list")
 | frz {a:Addr} {o:Obj} {xs:List V} (e:H a=some (.frz o (.lst xs))):EB K H (.ref a) (.type "list")
 | tup {a:Addr} {xs:List V} (e:H a=some (.tup xs)):EB K H (.ref a) (.type "tuple")
 | dK {a:Addr} {kvs:List (A6 × V)} (e:H a=some (.dK kvs)):EB K H (.ref a) (.type "dict")
 | dT {a:Addr} {kvs:List (List A6 × V)} (e:H a=some (.dT kvs)):EB K H (.ref a) (.type "dict")
 | ins {a C dx:Addr} {fs:List (Str × V)} (e:H a=some (.ins C dx fs)) (cl:Cls K C) (ha:bC K (.ref C) "__class__"=some (some (.builtin "object.__class__")))
   (hn:PySem.W.specialIn K (.builtin "object.__class__") "__get__"=some (some (.builtin "getset_descriptor.__get__"))) (htk:PySem.W.takesIn K (.builtin "object.__class__")=some true)
   (hm:PySem.W.mroIn K C (.type "object")=some true):EB K H (.ref a) (.ref C)
theorem OO {x:V} {u t:Value} (I:Ao X pins σ H s) (rx:A1 x u) (ty:EB X.K H x t) (e:ZR X.K t c=some b) (h:∀ tk,Q (.bool b) { s with toks:=tk }) :
  wpAny (model X.prog X.w) A (call (.builtin "isinstance") [u,c]) Q E s:=by
 cases ty with
 | non=>cases (show u=Value.none from rx); exact YX PySem.W.kitx_none I.kIn True.intro e (fun z=>nomatch z) h
 | bl y=>cases (show u=Value.bool y from rx); exact YX PySem.W.kitx_bool I.kIn True.intro e (fun z=>nomatch z) h
 | int i=>obtain ⟨t,q⟩:=(show ∃ t,u=Value.int i t from rx); cases q; exact YX PySem.W.kitx_int I.kIn True.intro e (fun z=>nomatch z) h
 | str y=>obtain ⟨t,q⟩:=(show ∃ t,u=Value.str y t from rx); cases q; exact YX PySem.W.kitx_str I.kIn True.intro e (fun z=>nomatch z) h
 | flt y=>obtain ⟨t,q⟩:=(show ∃ t,u=Value.float y t from rx); cases q; exact YX PySem.W.kitx_float I.kIn True.intro e (fun z=>nomatch z) h
 | @lst a xs ea=>
  cases (show u=Value.ref a from rx)
  obtain ⟨_,_,n,_,h1⟩:=(show A4 X.prog X.w H s.heap a (.lst xs) from I.hok a _ ea)
  exact YX bj I.kIn ⟨_,h1,rfl⟩ e (fun z=>nomatch z) h
 | @frz a ob xs ea=>
  cases (show u=Value.ref a from rx)
  obtain ⟨_,_,_,n,_,h1⟩:=(show A4 X.prog X.w H s.heap a (.frz ob (.lst xs)) from I.hok a _ ea)
  exact YX bj I.kIn ⟨_,h1,rfl⟩ e (fun z=>nomatch z) h
 | @tup a xs ea=>
  cases (show u=Value.ref a from rx)
  obtain ⟨_,_,_,p,_⟩:=(show A4 X.prog X.w H s.heap a (.tup xs) from I.hok a _ ea)
  obtain ⟨o,h1,h2,_⟩:=p;exact YX PySem.W.kitx_tuple I.kIn ⟨o,h1,h2⟩ e (fun z=>nomatch z) h
 | @dK a kvs ea=>
  cases (show u=Value.ref a from rx)
  obtain ⟨_,_,vs,_,p⟩:=(show A4 X.prog X.w H s.heap a (.dK kvs) from I.hok a _ ea)
  obtain ⟨o,es,ep,h1,h2,_⟩:=p;exact YX bp I.kIn ⟨o,h1,h2.1⟩ e (fun z=>nomatch z) h
 | @dT a kvs ea=>
  cases (show u=Value.ref a from rx)
  obtain ⟨_,_,xs,_,o,es,ep,h1,h2,_⟩:=(show A4 X.prog X.w H s.heap a (.dT kvs) from I.hok a _ ea)
  exact YX bp I.kIn ⟨o,h1,h2.1⟩ e (fun z=>nomatch z) h
 | @ins a C dx fs ea cl ha hn htk hm=>
  cases (show u=Value.ref a from rx)
  obtain ⟨mA,O,_⟩:=S4 I.hok ea;obtain ⟨od,J,_⟩:=O.look;exact YX (PySem.W.kitx_own (cl.get _) cl.hd ha hn htk hm) I.kIn J e (fun z=>nomatch z) h
end
structure Eb (k:Nat) (A:Around):Prop where
 hd:A.handled=none
 dp:A.depth + 3 * k + 5 < recursionLimit
 un:A.units + 16 * k + 200 < cLine
 gd:A.guards=some []:=by rfl
theorem Eb.mono {j k:Nat} {A:Around} (r:Eb k A) (h:j<=k):Eb j A:=⟨r.hd,by have:=r.dp; lia,by have:=r.un; lia,r.gd⟩
theorem Eb.deeper {k:Nat} {A:Around} (r:Eb (k + 1) A) (env:Env):Eb k (A.deeper env):=
 ⟨r.hd,by have:=r.dp; show A.depth + 1 + 3 * k + 5 < _; lia,by have:=r.un; show A.units + 3 + 16 * k + 200 < _; lia,r.gd⟩
theorem Eb.depth {k:Nat} {A:Around} (r:Eb k A):A.depth < recursionLimit:=by have:=r.dp; lia
theorem Eb.units {k:Nat} {A:Around} (r:Eb k A):A.units + 64 < cLine:=by have:=r.un; lia
def tNil:TA:=fun _ H Q=>Q [] H
def tCons (ta:TE) (tr:TA):TA:=fun σ H Q=>ta σ H fun x H1=>tr σ H1 fun xs H2=>Q (x :: xs) H2
section
variable {X:Cx} {e:Expr} {es:List Expr} {te:TE} {t:TA} {pos:Pos}
theorem Ac:PA X [] tNil:=fun _ _ _ _ H Q I h=>Calls.spliced_nil ⟨[],H,I,.nil,h⟩
theorem Aa (ha:PE X e te) (hr:PA X es t) (hs:starEach (e :: es) X.env=(false,eval e X.env) :: starEach es X.env:=by rfl):PA X (e :: es) (tCons te t):=by
 intro pos pins s σ H Q I h;rw [hs];show wpAny _ _ (spliced ((false,eval e X.env) :: backTo pos (starEach es X.env))) _ _ s
 refine Calls.spliced_cons (Bo (ha (pins:=pins) s σ H _ I h) fun u s1 ⟨x,H1,I1,r1,q1⟩=>?_);exact Bo (hr (pos:=pos) (pins:=pins) s1 σ H1 _ I1 q1) fun us s2 ⟨xs,H2,I2,r2,q2⟩=>⟨x :: xs,H2,I2,.cons r1 r2,q2⟩
def tTup (t:TA):TE:=fun σ H Q=>t σ H fun xs H1=>xs.length<=sizeLine/\∀ p,H1 p=none->Q (.ref p) (upd H1 p (.tup xs))
def tLst (t:TA):TE:=fun σ H Q=>t σ H fun xs H1=>xs.length<=sizeLine/\∀ p,H1 p=none->Q (.ref p) (upd H1 p (.lst xs))
theorem Ba {x1} (h:PA X es t):PE X (.Tuple es x1 pos) (tTup t):=by
 intro pins s σ H Q I hq;refine wpAny_Tuple_spliced (Bo (h (pos:=pos) (pins:=pins) s σ H _ I hq) fun us s1 ⟨xs,H1,I1,r,z,q⟩=>⟨by rw [<-r.length]; exact z,?_⟩);have hf:H1 s1.heap.objs.size=none:=I1.hok.fresh (Ya _);refine ⟨.ref s1.heap.objs.size,upd H1 s1.heap.objs.size (.tup xs),I1.laid (t':=s1.toks) (fun b u e=>XQ _ e) (Ya _) ?_,rfl,q _ hf⟩;exact ⟨z,us,r,⟨_,Yf _ rfl,rfl,_,rfl⟩,LO.new rfl rfl⟩
theorem BF (h:PA X es t):PE X (.List es pos) (tLst t):=by
 intro pins s σ H Q I hq;refine wpAny_List_spliced (Bo (h (pos:=pos) (pins:=pins) s σ H _ I hq) fun us s1 ⟨xs,H1,I1,r,z,q⟩=>⟨by rw [<-r.length]; exact z,?_⟩);have hf:H1 s1.heap.objs.size=none:=I1.hok.fresh (Ya _);refine ⟨.ref s1.heap.objs.size,upd H1 s1.heap.objs.size (.lst xs),I1.laid (t':=s1.toks) (fun b u e=>XQ _ e) (Ya _) ?_,rfl,q _ hf⟩;exact ⟨z,us,0,r,Yf _ rfl⟩
end
abbrev Sp:=List V->Hp->VK->XK->Prop
abbrev R8:=List Env->Hp->Shared->XK->Value->Shared->Prop
structure Tc (P:Program) (w:World) (K:XU) (mg:Str->Option Value) (base:Heap) (A:Around) (outer:List Env) (s:Shared) (H:Hp):Prop where
 frames:A.frames=some outer
 mod:Mod K mg base
 bs:∀ b o,base.get? b=some o->s.heap.get? b=some o/\H b=none
 bsz:base.objs.size<=s.heap.objs.size
 funs:s.heap.FunFrames base outer
 frf:∀ b ∈ Rj outer,H b=none
 hok:Fu P w H s.heap
 bare:AllBare s.gens
def CE (outer:List Env) (P:Program) (w:World) (H:Hp) (s:Shared) (Q:VK) (u:Value) (s':Shared):Prop:=
 ∃ v H',s'.os=s.os/\AllBare s'.gens/\Un (Rj outer) [] H H' s.heap s'.heap/\Fu P w H' s'.heap/\A1 v u/\Q v H'
def CR (CX:R8) (outer:List Env) (P:Program) (w:World) (H:Hp) (s:Shared) (Q:VK) (E:XK) (r:Result) (s':Shared):Prop:=
 match r with
 | .ok (.ret u)=>CE outer P w H s Q u s'
 | .ok _=>False
 | .error e=>CX outer H s E e s'
structure A7 (P:Program) (w:World) (K:XU) (mg:Str->Option Value) (base:Heap) (CX:R8) (k:Nat) (f:Addr) (fd:FuncData) (ps:List Str) (sp:Sp):Prop where
 len:∀ vs H Q E,sp vs H Q E->vs.length=ps.length
 run:∀ (A:Around) (outer:List Env) (s:Shared) (H:Hp) (args:Args) (us:List Value) (vs:List V) (Q:VK) (E:XK),Eb k A->Tc P w K mg base A outer s H->BindsTo s fd args (ps.zip us)->Az vs us->sp vs H Q E ->
  codeAny (model P w) A (.call (.ref f) args) (CR CX outer P w H s Q E) s
section
variable {X:Cx} {pins:List (Addr × Obj)} {σ:St} {H:Hp} {s s':Shared}
theorem Ao.env0 (I:Ao X pins σ H s):Tc X.prog X.w X.K X.mg X.base X.A X.stack s H:=
 ⟨I.ok.frames,I.ok.mod,I.bs,Yv I.ok.bsz I.sz,I.stack,I.stkFree,I.hok,I.bare⟩
theorem Ao.after {Q:VK} {u:Value} (I:Ao X pins σ H s) (h:CE X.stack X.prog X.w H s Q u s'):EP X pins σ Q u s':=by
 obtain ⟨v,H',os,bare,un,hok,r,q⟩:=h;obtain ⟨hh,g,d,t,WQ⟩:=s';obtain rfl:WQ=s.os:=os;exact ⟨v,H',I.call (h':=hh) (g':=g) (d':=d) (t':=t) (ch:=[]) un hok bare (fun b z=>absurd z (by simp)),r,q⟩
end
def tCall (sp:Sp) (dvs:List V) (E:XK) (t:TA):TE:=fun σ H Q=>t σ H fun vs H1=>sp (vs ++ dvs) H1 Q E
def GI (K:XU) (fd:FuncData) (ps:List Str) (ds:List Value):Prop:=
 ∀ (s:Shared) (us:List Value),K.In s.heap->(us ++ ds).length=ps.length->BindsTo s fd ⟨us,[]⟩ (ps.zip (us ++ ds))
theorem GI.all {K:XU} {fd:FuncData} {ps:List Str} (h:∀ us:List Value,us.length=ps.length->bindArgs fd ⟨us,[]⟩=pure (ps.zip us)):GI K fd ps []:=fun s us _ hl=>by
 rw [YN] at hl ⊢;exact .of_eq (h us hl)
def MG (CX:R8) (X:Cx) (E:XK):Prop:=∀ (pins:List (Addr × Obj)) (σ:St) (H:Hp) (s:Shared) (e:Value) (s':Shared),Ao X pins σ H s->CX X.stack H s E e s'->X.xe e s'
section
variable {X:Cx} {CX:R8} {k:Nat} {f C:Addr} {fd:FuncData} {ps:List Str} {sp:Sp} {dvs:List V} {ds:List Value} {E:XK} {x m:Str} {p pos apos:Pos} {e o:Expr} {es:List Expr} {ta:TE} {t:TA}
theorem Ui {pins:List (Addr × Obj)} {σ:St} {H:Hp} {s:Shared} {Q:VK} {us:List Value} {vs:List V} (F:A7 X.prog X.w X.K X.mg X.base CX k f fd ps sp) (hr:Eb k X.A) (hb:GI X.K fd ps ds) (hd:Az dvs ds) (hx:MG CX X E)
  (I:Ao X pins σ H s) (r:Az vs us) (h:sp (vs ++ dvs) H Q E):wpAny (model X.prog X.w) X.A (call (.ref f) us) (EP X pins σ Q) X.xe s:=by
 have r2:Az (vs ++ dvs) (us ++ ds):=r.append hd;have hl:(us ++ ds).length=ps.length:=by rw [<-r2.length]; exact F.len _ _ _ _ h
 refine wpAny_call (codeAny_mono (F.run X.A X.stack s H ⟨us,[]⟩ (us ++ ds) (vs ++ dvs) Q E hr I.env0 (hb s us I.kIn hl) r2 h) fun r s' hq=>?_);cases r with
 | error e=>exact hx pins σ H s e s' I hq
 | ok fl=>
  cases fl with
  | ret u=>exact I.after hq
  | next=>exact False.elim hq
  | brk=>exact False.elim hq
  | cont=>exact False.elim hq
theorem Aj (F:A7 X.prog X.w X.K X.mg X.base CX k f fd ps sp) (hr:Eb k X.A) (hg:Gl X x) (hm:X.mg x=some (.ref f)) (hk:ZS X.K (.ref f)=true) (hb:GI X.K fd ps ds) (hd:Az dvs ds) (hx:MG CX X E)
  (ha:PA X (e :: es) t) (hdb:(x == ("__debug__":Str))=false:=by decide) (he:starEach (e :: es) X.env=(false,eval e X.env) :: starEach es X.env:=by rfl) (hpl:(backTo pos (starEach es X.env)).any (·.1)=false:=by rfl) :
  PE X (.Call (.Name x p) (e :: es) [] pos) (tCall sp dvs E t):=by
 intro pins s σ H Q I h;refine wpAny_Call_Name_kw (Nv I hg hm ?_ hdb);refine PySem.W.callWith_K (h₀:=X.base) I.ok.mod.kin hk (Bo (ha (pos:=pos) (pins:=pins) s σ H _ I h) fun us s1 ⟨vs,H1,I1,r,q⟩=>⟨I1.kIn,?_⟩) he hpl;exact Ui F hr hb hd hx I1 r q
end
section
variable {X:Cx} {CX:R8} {k:Nat} {f C:Addr} {fd:FuncData} {ps ks:List Str} {sp:Sp} {E:XK} {x m:Str} {p pos apos kpos:Pos} {e o:Expr} {es:List Expr} {kws:List Keyword} {te ta:TE} {t tk:TA} {nm:Option Str}
variable {g:List Value->List Value->List Value} {gV:List V->List V->List V}
end
structure A3 (N P:List Str) (sc:Scope):Prop where
 kind:sc.kind=.function
 co:sc.isCoroutine=false
 gen:sc.isGenerator=false
 nd:N.Nodup
 pre:N.take P.length=P
 par:∀ x ∈ P,sc.names.lookup x=some .local\/sc.names.lookup x=some .cell
 nofree:∀ y ∈ sc.names,y.2 ≠ .free
theorem JL {kindOf:Str->Option NameKind} {x:Str}:∀ {binds:List (Str × Value)} {m:Str->Option Value},(∀ v,(x,v) ∉ binds)->bindL kindOf binds m x=m x
 | [],_,_=>rfl
 | (n,v) :: r,m,h=>by
  unfold bindL;rw [JL fun w hw=>h w (Yr _ hw)];split
  ·have:x ≠ n:=by rintro rfl; exact h v Ys
   simp [this]
  ·rfl
theorem JN {kindOf:Str->Option NameKind} {x:Str}:∀ {binds:List (Str × Value)} {m:Str->Option Value},(∀ v,(x,v) ∉ binds)->bindC kindOf binds m x=m x
 | [],_,_=>rfl
 | (n,v) :: r,m,h=>by
  unfold bindC;rw [JN fun w hw=>h w (Yr _ hw)];split
  ·rfl
  ·have:x ≠ n:=by rintro rfl; exact h v Ys
   simp [this]
theorem JM {kindOf:Str->Option NameKind} {x:Str} {v:Value}:∀ {P:List Str} {vs:List Value} {i:Nat} {m:Str->Option Value},P.Nodup->P[i]? = some x->vs[i]? = some v->kindOf x=some .local ->
  bindL kindOf (P.zip vs) m x=some v
 | [],_,_,_,_,h,_,_=>by simp at h
 | _ :: _,[],_,_,_,_,h,_=>by simp at h
 | p :: P,w :: vs,0,m,nd,h1,h2,hk=>by
  simp at h1 h2; subst h1; subst h2;show bindL kindOf ((p,w) :: P.zip vs) m p=_
  unfold bindL;rw [JL fun v hv=>(YC.mp nd).1 (aI hv).1,if_pos hk];simp
 | p :: P,w :: vs,i + 1,m,nd,h1,h2,hk=>by
  show bindL kindOf ((p,w) :: P.zip vs) m x=_
  unfold bindL;exact JM (i:=i) (YC.mp nd).2 (by simpa using h1) (by simpa using h2) hk
theorem JO {kindOf:Str->Option NameKind} {x:Str} {v:Value}:∀ {P:List Str} {vs:List Value} {i:Nat} {m:Str->Option Value},P.Nodup->P[i]? = some x->vs[i]? = some v->kindOf x ≠ some .local ->
  bindC kindOf (P.zip vs) m x=some v
 | [],_,_,_,_,h,_,_=>by simp at h
 | _ :: _,[],_,_,_,_,h,_=>by simp at h
 | p :: P,w :: vs,0,m,nd,h1,h2,hk=>by
  simp at h1 h2; subst h1; subst h2;show bindC kindOf ((p,w) :: P.zip vs) m p=_
  unfold bindC;rw [JN fun v hv=>(YC.mp nd).1 (aI hv).1,if_neg hk];simp
 | p :: P,w :: vs,i + 1,m,nd,h1,h2,hk=>by
  show bindC kindOf ((p,w) :: P.zip vs) m x=_
  unfold bindC;exact JO (i:=i) (YC.mp nd).2 (by simpa using h1) (by simpa using h2) hk
def start (N:List Str) (vs:List V):St:=vs.map some ++ bW (N.length - vs.length) none
def Jc (CX:R8) (P:Program) (w:World) (K:XU) (mg:Str->Option Value) (base:Heap) (N:List Str) (qual:Str) (scope:Scope) (f:Addr) (cd:Value) (A:Around) (outer:List Env) (s:Shared) (H:Hp) (E:XK):Cx where
 prog:=P
 w:=w
 K:=K
 mg:=mg
 base:=base
 A:=A.deeper (envOfC qual scope s.heap.objs.size f cd)
 N:=N
 s₀:=s
 H₀:=H
 env:=envOfC qual scope s.heap.objs.size f cd
 outer:=outer
 stack:=envOfC qual scope s.heap.objs.size f cd :: outer
 ex:=[]
 calm:=true
 fn:=fun _=>true
 pn:=[]
 xe:=fun e s'=>wpAny (model P w) (A.deeper (envOfC qual scope s.heap.objs.size f cd)) (leaving (envOfC qual scope s.heap.objs.size f cd) e) (fun _ Uh=>CX outer H s E e Uh) (fun e' Uh=>CX outer H s E e' Uh) s'
theorem LJ {sc:Scope} {n:Nat} {x:Str} (h:sc.names.lookup x=some .cell):∃ c,(cellsFrom n sc.names []).lookup x=some c:=by
 have q:=aM sc.names n [] (.inl h);exact aK.mp q
theorem OP {CX:R8} {P:Program} {w:World} {K:XU} {mg:Str->Option Value} {base:Heap} {N ps:List Str} {qual:Str} {scope:Scope} {f:Addr} {cd:Value} {A:Around} {outer:List Env} {s s1:Shared} {H:Hp} {E:XK} {us:List Value} {vs:List V}
  (S:A3 N ps scope) (hd:A.handled=none) (e0:Tc P w K mg base A outer s H) (hl:vs.length=ps.length) (r:Az vs us)
  (x:InCallC s s.heap.objs.size (bindL (envOfC qual scope s.heap.objs.size f cd).kindOf (ps.zip us) fun _=>none) (cellsFrom (s.heap.objs.size + 1) scope.names []) (bindC (envOfC qual scope s.heap.objs.size f cd).kindOf (ps.zip us) fun _=>none) s1) :
  Ao (Jc CX P w K mg base N qual scope f cd A outer s H E) [] (start N vs) H s1:=by
 have hpl:ps.length<=N.length:=by have:=congrArg Zh S.pre; rw [Y7] at this; lia
 obtain ⟨h1,tk,rfl,hk⟩:=x.done;have noA:∀ b:Addr,b ∉ (Jc CX P w K mg base N qual scope f cd A outer s H E).ex:=fun b z=>absurd (show b ∈ ([]:List Addr) from z) (by simp)
 refine ⟨⟨e0.mod,S.kind,rfl,rfl,Ya _,fun y z c h1 h2=>?_,fun y hy=>?_,fun y c _ h=>?_,fun _=>hd,Around.frames_deeper e0.frames,.inr ⟨rfl,rfl⟩,fun b z=>absurd z (noA b),e0.bs,e0.bsz,fun b _ _=>noA b,fun b z=>absurd z (noA b),e0.funs,e0.frf⟩,
  rfl,e0.bare,Un.kept hk,⟨_,x.toInCall.ns,fun i y v h1 h2 h3=>?_⟩,fun y c h=>⟨_,x.cell y c h⟩,e0.hok.fresh (Ya _),fun y c h=>?_,fun p hp=>absurd (show p ∈ ([]:List (Addr × Obj)) from hp) (by simp),e0.hok.kept hk,?_⟩
 ·exact name_of_addr x.apart (PySem.mem_of_lookup h1) (PySem.mem_of_lookup h2)
 ·have hy:scope.names.lookup y=some .cell\/scope.names.lookup y=some .free:=hy;rcases hy with hy | hy
  ·exact LJ hy
  ·exact absurd rfl (S.nofree _ (PySem.mem_of_lookup hy))
 ·exact ZQ (x.above y c (PySem.mem_of_lookup h))
 ·have hi:i < vs.length:=by
   unfold start at h2;by_cases hi:i < vs.length
   ·exact hi
   ·rw [Y4 (by simpa using hi)] at h2;rw [List.getElem?_replicate] at h2;split at h2 <;> cases h2
  have ha:vs[i]? = some v:=by
   unfold start at h2;rw [Y5 (by simpa using hi),Yd] at h2;cases e:vs[i]? with
   | none=>rw [e] at h2; cases h2
   | some a=>rw [e] at h2; cases h2; rfl
  obtain ⟨u,hu,rv⟩:=r.get ha;have hp:ps[i]? = some y:=by
   rw [<-S.pre,List.getElem?_take_of_lt (by lia)]; exact h1
  have ndP:ps.Nodup:=by rw [<-S.pre]; exact S.nd.sublist (bD _ _)
  refine ⟨u,rv,?_⟩;rcases S.par y (XY hp) with k | k
  ·exact .inl ⟨k,JM ndP hp hu k⟩
  ·obtain ⟨c,e⟩:=LJ (n:=s.heap.objs.size + 1) k;refine .inr ⟨.inl k,c,e,?_⟩;have q:=x.cell y c e;rw [JO ndP hp hu (by show scope.names.lookup y ≠ _; rw [k]; decide)] at q;exact q
 ·exact e0.hok.fresh (ZQ (x.above y c (PySem.mem_of_lookup h)))
 ·unfold start;show _=N.length
  rw [XZ,XJ,List.length_replicate];lia
theorem fn_of {CX:R8} {P:Program} {w:World} {K:XU} {mg:Str->Option Value} {base:Heap} {k:Nat} {f:Addr} {name qual:Str} {params:Arguments} {body:List Stmt} {scope:Scope} {dV kV doc pm cdv ct oc:Value} {an od:Option Addr}
  {osl:Array (Option Value)} {N ps:List Str} {sp:Sp} (lk:K.lookup f=some ⟨oc,od,.func (Zf name qual params body scope dV kV doc pm an cdv ct),osl⟩) (hcd:ZT K cdv qual=true) (S:A3 N ps scope)
  (len:∀ vs H Q E,sp vs H Q E->vs.length=ps.length)
  (hbody:∀ (A:Around) (outer:List Env) (s:Shared) (H:Hp) (vs:List V) (Q:VK) (E:XK),Eb k (A.deeper (envOfC qual scope s.heap.objs.size f cdv))->sp vs H Q E ->
   ∃ t,LP (Jc CX P w K mg base N qual scope f cdv A outer s H E) body t/\t { nx:=fun _ H'=>Q .non H',rt:=Q } (start N vs) H) :
  A7 P w K mg base CX (k + 1) f (Zf name qual params body scope dV kV doc pm an cdv ct) ps sp:=by
 refine ⟨len,fun A outer s H args us vs Q E hr e0 hb r hsp=>?_⟩;have hl:=len _ _ _ _ hsp;have KX:K.In s.heap:=e0.mod.kin.keeps fun b o e=>(e0.bs b o e).1
 have lim:s.heap.NoLimit:=e0.mod.nolimit.keeps fun b o e=>(e0.bs b o e).1
 have hkind:∀ y ∈ ps.zip us,scope.names.lookup y.1=some .local\/(scope.names.lookup y.1=some .cell/\((cellsFrom (s.heap.objs.size + 1) scope.names []).lookup y.1).isSome=true):=fun ⟨n,v⟩ hy=>by
  rcases S.par n (aI hy).1 with q | q
  ·exact .inl q
  ·exact .inr ⟨q,aM _ _ _ (.inl q)⟩
 refine codeAny_call_function hr.depth (KX _ _ lk) rfl S.co S.gen rfl (PySem.W.codeRec_of KX hcd) (hb _ _ _ _ ?_);refine wpAny_newFunctionEnv_cells S.kind hkind fun env he s1 x=>?_
 subst he;refine ⟨lim.keeps x.toInCall.keep,codeAny_func ?_⟩;obtain ⟨t,ht,hq⟩:=hbody A outer s H vs Q E (hr.deeper _) hsp;have I:Ao (Jc CX P w K mg base N qual scope f cdv A outer s H E) [] (start N vs) H s1:=OP S hr.hd e0 hl r x;refine wpAny_mono (ht s1 (start N vs) H _ I hq) (fun fl s' hs=>?_) fun e s' hs=>hs
 have fin:∀ {Ay:St} {H':Hp} {v:V} {u:Value},Ao (Jc CX P w K mg base N qual scope f cdv A outer s H E) [] Ay H' s'->A1 v u->Q v H'->CE outer P w H s Q u s':=
  fun {Ay H' v u} J rv q=>⟨v,H',J.os,J.bare,J.base,J.hok,rv,q⟩
 cases fl with
 | ret u=>
  obtain ⟨v,Ay,H',J,rv,q⟩:=hs;exact fin J rv q
 | next=>
  obtain ⟨Ay,H',J,q⟩:=hs;exact fin (v:=V.non) (u:=Value.none) J rfl q
 | brk=>
  obtain ⟨_,_,_,q⟩:=hs;exact False.elim q
 | cont=>
  obtain ⟨_,_,_,q⟩:=hs;exact False.elim q
section
variable {X:Cx} {x:Str} {p pos:Pos} {e:Expr} {es:List Expr} {t:TA} {id T:String} {r:List V->Hp->VK->Prop}
def tCB (r:List V->Hp->VK->Prop) (t:TA):TE:=fun σ H Q=>t σ H fun vs H1=>r vs H1 Q
theorem Ak (hc:Bg X (.builtin id) r) (hg:Gl X x) (hm:X.mg x=none) (hv:bootBuiltins x=some (.builtin id)) (ha:PA X (e :: es) t) (hn:x ≠ "__name__":=by decide) (hdb:(x == ("__debug__":Str))=false:=by decide)
  (he:starEach (e :: es) X.env=(false,eval e X.env) :: starEach es X.env:=by rfl) (hpl:(backTo pos (starEach es X.env)).any (·.1)=false:=by rfl):PE X (.Call (.Name x p) (e :: es) [] pos) (tCB r t):=by
 intro pins s σ H Q I h;refine wpAny_Call_Name_kw (Ib I hg hm hv ?_ hn hdb);exact PyProof.Rows.callWith_builtin1 (Bo (ha (pos:=pos) (pins:=pins) s σ H _ I h) fun us s1 ⟨vs,H1,I1,r1,q1⟩=>hc (pins:=pins) s1 σ H1 vs us Q I1 r1 q1) he hpl
theorem A0 (hc:Bg X (.type T) r) (hg:Gl X x) (hm:X.mg x=none) (hv:bootBuiltins x=some (.type T)) (ha:PA X (e :: es) t) (hn:x ≠ "__name__":=by decide) (hdb:(x == ("__debug__":Str))=false:=by decide)
  (he:starEach (e :: es) X.env=(false,eval e X.env) :: starEach es X.env:=by rfl) (hpl:(backTo pos (starEach es X.env)).any (·.1)=false:=by rfl):PE X (.Call (.Name x p) (e :: es) [] pos) (tCB r t):=by
 intro pins s σ H Q I h;refine wpAny_Call_Name_kw (Ib I hg hm hv ?_ hn hdb);exact PyProof.Rows.callWith_type1 (Bo (ha (pos:=pos) (pins:=pins) s σ H _ I h) fun us s1 ⟨vs,H1,I1,r1,q1⟩=>hc (pins:=pins) s1 σ H1 vs us Q I1 r1 q1) he hpl
end
end L2
namespace HT
open PySem PyProof.Rows
section
open PySem.SeqAt
open PySem.AutoSeq1 (wpAny_loadPart')
open PySem.MeetsSeq PySem.MeetsSeq2 PySem.MeetsSeq3
end
section
variable {prog:Program} {w:World} {A:Around} {E:Value->Shared->Prop} {s:Shared}
theorem cat_tup {t b:Addr} {vs ws:List Value} {Q:Value->Shared->Prop} (ht:IsTup s.heap t vs.toArray) (hb:IsTup s.heap b ws.toArray) (hv:vs ≠ [])
  (h1:ws=[]->Q (.ref t) s) (h2:ws ≠ []->Q (.ref s.heap.objs.size) { s with heap:=s.heap.push { cls:=.type "tuple",data:=.seq (vs ++ ws).toArray } })
  (hsz:vs.length + ws.length<=sizeLine):wpAny (model prog w) A (binaryOp .Add (.ref t) (.ref b)) Q E s:=by
 obtain ⟨⟨cls,dd,data,sl⟩,ho,hc,n,hd⟩:=id ht;obtain ⟨⟨UG,NL,data2,Pq⟩,OR,Rg,n2,hd2⟩:=id hb;simp only at hc hd Rg hd2;subst hc hd Rg hd2;have e:vs.toArray ++ ws.toArray=(vs ++ ws).toArray:=by simp
 by_cases hw:ws=[]
 ·exact concat_meets ⟨_,ho,rfl⟩ ⟨_,OR,rfl⟩ noFill_tuple_add seq_tuple_add PySem.F.slot_tuple_add PySem.F.entry_tuple_add (PySem.F.args_tuple_add_2 _ _)
   (tuple_addW1 t b vs.toArray ws.toArray n n2 dd NL sl Pq (by simpa using hv) (by simp [hw])) ⟨ho,OR,h1 hw⟩
 ·refine concat_meets ⟨_,ho,rfl⟩ ⟨_,OR,rfl⟩ noFill_tuple_add seq_tuple_add PySem.F.slot_tuple_add PySem.F.entry_tuple_add (PySem.F.args_tuple_add_2 _ _)
   (tuple_addW2 t b vs.toArray ws.toArray n n2 dd NL sl Pq (by simpa using hv) (by simpa using hw) (by rw [Yp,Yp]; exact hsz)) ⟨ho,OR,?_⟩
  rw [e];exact h2 hw
def sIx (n d:Nat):Option Int->Nat
 | none=>d
 | some v=>if v < 0 then (v + (n:Int)).toNat else min v.toNat n
theorem Ue (n d:Nat) (hd:d<=n) (o:Option Int):sIx n d o<=n:=by
 cases o with
 | none=>exact hd
 | some v=>
  show (if v < 0 then (v + (n:Int)).toNat else min v.toNat n)<=n
  by_cases hv:v < 0
  ·rw [if_pos hv]; lia
  ·rw [if_neg hv]; exact aG _ _
theorem NM (v:Int) (n d:Nat):(if v < 0 then max (v + (n:Int)) 0 else min v (n:Int))=((sIx n d (some v):Nat):Int):=by
 show (if v < 0 then max (v + (n:Int)) 0 else min v (n:Int))=(((if v < 0 then (v + (n:Int)).toNat else min v.toNat n):Nat):Int)
 by_cases hv:v < 0
 ·simp only [if_pos hv]; lia
 ·simp only [if_neg hv]; lia
theorem MC (lo hi:Option Int) (n:Nat):Builtin.Slice.sliceAdjust lo hi 1 (n:Int)=(((sIx n 0 lo:Nat):Int),((sIx n n hi:Nat):Int)):=by
 have h1:¬ ((1:Int) < 0):=by lia
 unfold Builtin.Slice.sliceAdjust;simp only [h1,if_false];refine Prod.ext ?_ ?_
 ·cases lo with
  | none=>rfl
  | some v=>exact NM v n 0
 ·cases hi with
  | none=>rfl
  | some v=>exact NM v n n
theorem Ml (i j:Nat):Builtin.Slice.slicePlaces (i:Int) (j:Int) 1=j - i:=by
 unfold Builtin.Slice.slicePlaces;have h1:(1:Int) > 0:=by lia
 simp only [h1,if_true,aY];split <;> lia
theorem Hy {v:Value} {o:Option Int} {Q:Option Int->Shared->Prop} (p:IsPart v o) (h:Q o s):wpAny (model prog w) A (Builtin.Slice.slicePartIndex v) Q E s:=by
 cases p with
 | none=>exact slicePart_none h
 | int i t=>exact slicePart_int h
theorem Ge {sl:Addr} {vl vu:Value} {lo hi:Option Int} {n:Nat} {Q:Int × Int × Nat->Shared->Prop} (hs:s.heap.IsSliceOf sl vl vu .none) (pl:IsPart vl lo) (pu:IsPart vu hi)
  (h:Q (((sIx n 0 lo:Nat):Int),1,sIx n n hi - sIx n 0 lo) s):wpAny (model prog w) A (Builtin.Slice.sliceApplied (.ref sl) (pure (n:Int))) Q E s:=by
 obtain ⟨os,hos,hcs,hds⟩:=id hs;unfold Builtin.Slice.sliceApplied Builtin.Slice.sliceFields;refine wpAny_bind (wpAny_bind (wpAny_field hos hds (x:=vl) rfl (wpAny_bind (wpAny_field hos hds (x:=vu) rfl (wpAny_bind (wpAny_field hos hds (x:=.none) rfl (wpAny_pure ?_)))))));refine wpAny_bind (slicePart_none ?_);show wpAny _ _ (if ((1:Int) == 0)=true then _ else _) _ _ s
 rw [if_neg (by decide)];refine wpAny_bind (Hy pl (wpAny_bind (Hy pu (wpAny_bind (wpAny_pure ?_)))));show wpAny _ _ (match Builtin.Slice.sliceAdjust lo hi 1 (n:Int) with | (lo,hi)=>pure (lo,(1:Int),Builtin.Slice.slicePlaces lo hi 1)) _ _ s
 rw [MC lo hi n];show wpAny _ _ (pure (((sIx n 0 lo:Nat):Int),(1:Int),Builtin.Slice.slicePlaces ((sIx n 0 lo:Nat):Int) ((sIx n n hi:Nat):Int) 1)) _ _ s
 rw [Ml];exact wpAny_pure h
theorem Q8 (xs:Array Value) (i k:Nat):((Zi k).filterMap fun (m:Nat)=>xs[((i:Int) + (m:Int) * 1).toNat]?).toArray=((xs.toList.drop i).take k).toArray:=by
 have e:(fun (m:Nat)=>xs[((i:Int) + (m:Int) * 1).toNat]?)=fun m=>xs[i + m]?:=by
  funext m;have:((i:Int) + (m:Int) * 1).toNat=i + m:=by lia
  rw [this]
 rw [e];have:=pick_run xs i k;rw [List.filterMap_map] at this;have e2:((fun x=>xs[x]?) ∘ fun x=>i + x)=fun m=>xs[i + m]?:=rfl
 rw [e2] at this;rw [this]
theorem getItem_tuple_cut {t sl:Addr} {items:Array Value} {vl vu:Value} {lo hi:Option Int} {Q:Value->Shared->Prop} (ht:IsTup s.heap t items) (hs:s.heap.IsSliceOf sl vl vu .none) (pl:IsPart vl lo) (pu:IsPart vu hi)
  (hw:¬ (sIx items.size 0 lo=0/\sIx items.size items.size hi=items.size))
  (h:Q (.ref s.heap.objs.size) { s with heap:=s.heap.push { cls:=.type "tuple",data:=.seq ((items.toList.drop (sIx items.size 0 lo)).take (sIx items.size items.size hi - sIx items.size 0 lo)).toArray } })
  (hsz:items.size<=sizeLine):wpAny (model prog w) A (getItem (.ref t) (.ref sl)) Q E s:=by
 have htake:sizeOk (.seq ((items.toList.drop (sIx items.size 0 lo)).take (sIx items.size items.size hi - sIx items.size 0 lo)).toArray):=by
  show ((items.toList.drop (sIx items.size 0 lo)).take (sIx items.size items.size hi - sIx items.size 0 lo)).toArray.size<=sizeLine
  rw [Yp,Y7,bL,Y0];lia
 have hj:sIx items.size items.size hi<=items.size:=Ue _ _ (Ya _) hi;obtain ⟨os,hos,hcs,hds⟩:=id hs;have hTs:s.TypeIs (.ref sl) "slice":=⟨os,hos,hcs⟩
 unfold getItem;try with_reducible refine wpAny_holding ?_
 first | refine wpAny_bind (wpAny_pure ?_) | skip
 refine wpAny_bind (wpAny_sequenceKey ht.typeIs (by decide) ?_);refine wpAny_bind (wpAny_callSpecial?_slot (name:=Str.ofString "__getitem__") ht.typeIs PyProof.Rows.slot_tuple_getitem
  (wpAny_call_entry PyProof.Rows.slot_tuple_getitem ht.typeIs entry_tuple_getitem ?_ (args_tuple_getitem _ _)))
 show wpAny _ _ (Builtin.Tuple.tupleItemsOf (.ref t) >>= _) _ _ s
 refine wpAny_bind (tupleItemsOf_ ht ?_);refine wpAny_bind (wpAny_typeOf hTs ?_);rw [if_pos (by decide)];refine wpAny_bind (Ge hs pl pu ?_);have hno:¬ ((((sIx items.size 0 lo:Nat):Int) == 0 && (1:Int) == 1 && (sIx items.size items.size hi - sIx items.size 0 lo) == items.size)=true):=by
  intro q;rw [YA,YA] at q;have q1:((sIx items.size 0 lo:Nat):Int)=0:=eq_of_beq q.1.1;have q2:sIx items.size items.size hi - sIx items.size 0 lo=items.size:=eq_of_beq q.2;exact hw ⟨by lia,by lia⟩
 show wpAny _ _ (if (((sIx items.size 0 lo:Nat):Int) == 0 && (1:Int) == 1 && (sIx items.size items.size hi - sIx items.size 0 lo) == items.size)=true then _ else _) _ _ s
 rw [if_neg hno,Q8];first
  | exact wpAny_bind (m:=Builtin.Tuple.tupleExact _) (wpAny_newObj_type (wpAny_pure ⟨_,rfl,wpAny_pure h⟩) htake)
  | exact wpAny_bind (m:=Builtin.Tuple.tupleExact _) (wpAny_newObj_type (wpAny_bind (wpAny_pure (wpAny_pure ⟨_,rfl,wpAny_pure h⟩))) htake)
  | exact wpAny_bind (wpAny_bind (m:=Builtin.Tuple.tupleExact _) (wpAny_newObj_type (wpAny_pure (wpAny_pure ⟨_,rfl,wpAny_pure h⟩)) htake))
  | exact wpAny_bind (wpAny_bind (m:=Builtin.Tuple.tupleExact _) (wpAny_newObj_type (wpAny_pure ⟨_,rfl,wpAny_pure h⟩) htake))
end
end HT
namespace L2
open PySem PySem.Spec PyProof.Rows
abbrev TO:=St->Hp->(Option Int->Hp->Prop)->Prop
def PO (X:Cx) (e:Option Expr) (t:TO):Prop:=
 ∀ ⦃pins:List (Addr × Obj)⦄ (s:Shared) (σ:St) (H:Hp) (Q:Option Int->Hp->Prop),Ao X pins σ H s->t σ H Q ->
  wpAny (model X.prog X.w) X.A (evalPart e X.env) (fun u s'=>∃ o H',Ao X pins σ H' s'/\IsPart u o/\Q o H') X.xe s
def RQ:TO:=fun _ H Q=>Q none H
def tPart (t:TE):TO:=fun σ H Q=>t σ H fun x H1=>∃ i,x=.int i/\Q (some i) H1
section
variable {X:Cx} {e:Expr} {te:TE} {lo hi:Option Expr} {tl th:TO} {pos p2:Pos}
theorem Ki:PO X none RQ:=by
 intro pins s σ H Q I h;rw [evalPart_none];exact wpAny_pure ⟨none,H,I,.none,h⟩
theorem Kh (h:PE X e te):PO X (some e) (tPart te):=by
 intro pins s σ H Q I hw;rw [evalPart_some];refine Bo (h (pins:=pins) s σ H _ I hw) fun u s1 ⟨x,H1,I1,r1,q1⟩=>?_
 obtain ⟨i,rfl,q⟩:=q1;obtain ⟨t,rfl⟩:=r1;exact ⟨some i,H1,I1,.int i t,q⟩
def SlR (X:Cx) (r:V->Option Int->Option Int->Hp->VK->Prop):Prop:=
 ∀ ⦃pins:List (Addr × Obj)⦄ (s:Shared) (σ:St) (H:Hp) (x:V) (v vl vu:Value) (lo hi:Option Int) (sl:Addr) (Q:VK),Ao X pins σ H s->A1 x v->s.heap.IsSliceOf sl vl vu .none->IsPart vl lo->IsPart vu hi->r x lo hi H Q ->
  ∃ T id,typeLookup (.type T) "__getitem__"=pure (some (.builtin id))/\s.TypeIs v T/\wpAny (model X.prog X.w) X.A (getItem v (.ref sl)) (EP X pins σ Q) X.xe s
def tSl (r:V->Option Int->Option Int->Hp->VK->Prop) (te:TE) (tl th:TO):TE:=fun σ H Q=>te σ H fun x H1=>tl σ H1 fun l H2=>th σ H2 fun u H3=>r x l u H3 Q
theorem QC {r:V->Option Int->Option Int->Hp->VK->Prop} (hr:SlR X r) (he:PE X e te) (hl:PO X lo tl) (hu:PO X hi th):PE X (.Subscript e (.Slice lo hi none p2) pos) (tSl r te tl th):=by
 intro pins s σ H Q I h;refine Subscript_ (Bo (he (pins:=pins) s σ H _ I h) fun v s1 ⟨x,H1,I1,r1,q1⟩=>?_);refine wpAny_Slice (Bo (hl (pins:=pins) s1 σ H1 _ I1 q1) fun vl s2 ⟨l,H2,I2,pl,q2⟩=>Bo (hu (pins:=pins) s2 σ H2 _ I2 q2) fun vu s3 ⟨u,H3,I3,pu,q3⟩=>?_);rw [evalPart_none];refine wpAny_pure ?_;have I4:Ao X pins σ H3 { s3 with heap:=s3.heap.push { cls:=.type "slice",data:=.fields #[vl,vu,.none] } }:=I3.kept (t':=s3.toks) fun b ob q=>XQ _ q
 obtain ⟨T,id,hT,ht,hg⟩:=hr { s3 with heap:=s3.heap.push { cls:=.type "slice",data:=.fields #[vl,vu,.none] } } σ H3 x v vl vu l u s3.heap.objs.size Q I4 r1 (Heap.IsSliceOf.new ..) pl pu q3;show wpAny (model X.prog X.w) X.A (subscriptTail e (.Slice lo hi none p2) v (.ref s3.heap.objs.size)) (EP X pins σ Q) X.xe { s3 with heap:=s3.heap.push { cls:=.type "slice",data:=.fields #[vl,vu,.none] } }
 exact tail_any (ops:=[.ref s3.heap.objs.size,v]) ht hT hg (by with_unfolding_all rfl)
def MB (xs:List V) (lo hi:Option Int):List V:=(xs.drop (HT.sIx xs.length 0 lo)).take (HT.sIx xs.length xs.length hi - HT.sIx xs.length 0 lo)
theorem LH (xs:List V) (lo hi:Option Int):(MB xs lo hi).length<=xs.length:=by
 unfold MB;rw [Y7,bL];lia
def rSlT (K:XU):V->Option Int->Option Int->Hp->VK->Prop:=fun x lo hi H Q=>∃ a xs,x=.ref a/\AE K H a xs /\
 ¬ (HT.sIx xs.length 0 lo=0/\HT.sIx xs.length xs.length hi=xs.length)/\∀ p,H p=none->Q (.ref p) (upd H p (.tup (MB xs lo hi)))
theorem TZ:SlR X (rSlT X.K):=by
 intro pins s σ H x v vl vu lo hi sl Q I rx hs pl pu h;obtain ⟨a,xs,rfl,hx,hw,q⟩:=h;cases rx
 obtain ⟨Aq,r,ht,hz⟩:=I.tuple hx;have hlen:Aq.toArray.size=xs.length:=by rw [Yp]; exact r.length.symm
 refine ⟨"tuple",_,PyProof.Rows.slot_tuple_getitem.lookup,ht.typeIs,?_⟩;refine HT.getItem_tuple_cut ht hs pl pu (by rw [hlen]; exact hw) ?_ (by rw [hlen]; exact hz);rw [hlen];refine ⟨.ref s.heap.objs.size,_,I.laid (t':=s.toks) (o:=.tup (MB xs lo hi)) (fun b ob q=>XQ _ q) (Ya _) ?_,rfl,q _ (I.hok.fresh (Ya _))⟩;exact ⟨Yv (LH xs lo hi) hz,_,(r.drop (HT.sIx xs.length 0 lo)).take (HT.sIx xs.length xs.length hi - HT.sIx xs.length 0 lo),IsTup.new _ _,LO.new rfl rfl⟩
def Tq (K:XU):R2:=fun x y H Q=>∃ a b xs ys,x=.ref a/\y=.ref b/\AE K H a xs/\AE K H b ys/\xs ≠ []/\xs.length + ys.length<=sizeLine /\
 (ys=[]->Q (.ref a) H)/\(ys ≠ []->∀ p,H p=none->Q (.ref p) (upd H p (.tup (xs ++ ys))))
theorem Az.nil_iff {xs:List V} {us:List Value} (r:Az xs us):us=[] ↔ xs=[]:=by
 cases r with
 | nil=>simp
 | cons _ _=>simp
theorem Sk:EN X (binaryOp .Add) (Tq X.K):=by
 intro pins s σ H x y v u Q I rx ry h;obtain ⟨a,b,xs,ys,rfl,rfl,ha,hb,hx,hz,q1,q2⟩:=h;cases rx
 cases ry
 obtain ⟨Aq,r1,p1,_⟩:=I.tuple ha;obtain ⟨ON,r2,p2,_⟩:=I.tuple hb;refine HT.cat_tup p1 p2 (fun z=>hx (r1.nil_iff.mp z)) (fun z=>⟨.ref a,H,I,rfl,q1 (r2.nil_iff.mp z)⟩) (fun z=>?_) (by rw [<-r1.length,<-r2.length]; exact hz);refine ⟨.ref s.heap.objs.size,_,I.laid (t':=s.toks) (o:=.tup (xs ++ ys)) (fun b ob q=>XQ _ q) (Ya _) ?_,rfl,q2 (fun w=>z (r2.nil_iff.mpr w)) _ (I.hok.fresh (Ya _))⟩;exact ⟨by rw [XZ]; exact hz,_,r1.append r2,IsTup.new _ _,LO.new rfl rfl⟩
end
def S2 (n:Nat) (i:Int):Option Nat:=if 0<=i then (if i < n then some i.toNat else none) else if -(n:Int)<=i then some (i + n).toNat else none
def K8 {α:Type} (xs:List α) (i:Int):Option α:=(S2 xs.length i).bind fun j=>xs[j]?
theorem Ky {n:Nat} {i:Int} {j:Nat} (h:S2 n i=some j):seqIndex? i n=some j/\j < n/\-(n:Int)<=i/\i < n:=by
 unfold S2 at h;by_cases h0:0<=i
 ·rw [if_pos h0] at h;by_cases h1:i < n
  ·rw [if_pos h1] at h;have e:i.toNat=j:=Yo.inj h;exact ⟨by rw [seqIndex_of h0 h1,e],by lia,by lia,h1⟩
  ·rw [if_neg h1] at h; cases h
 ·rw [if_neg h0] at h;by_cases h1:-(n:Int)<=i
  ·rw [if_pos h1] at h;have e:(i + n).toNat=j:=Yo.inj h;exact ⟨by rw [seqIndex_neg (by lia) h1,e],by lia,h1,by lia⟩
  ·rw [if_neg h1] at h; cases h
theorem Hr {α:Type} {xs:List α} {i:Int} {v:α} (h:K8 xs i=some v):∃ j,seqIndex? i xs.length=some j/\xs[j]? = some v/\j < xs.length/\-(xs.length:Int)<=i/\i < xs.length:=by
 unfold K8 at h;cases e:S2 xs.length i with
 | none=>rw [e] at h; cases h
 | some j=>
  rw [e] at h;obtain ⟨h1,h2,h3,h4⟩:=Ky e;exact ⟨j,h1,h,h2,h3,h4⟩
theorem C9 {α:Type} {xs:List α} {j:Nat} {v:α} (h:xs[j]? = some v):K8 xs (j:Int)=some v:=by
 have hj:j < xs.length:=(Yb.mp h).1;have e:S2 xs.length (j:Int)=some j:=by
  unfold S2;rw [if_pos (by lia),if_pos (by lia)]; simp
 unfold K8; rw [e]; exact h
def SV (b:Expr):Prop:=∀ o i,subscripted b false o i=operate [o,i] (getItem o i)
def Vf (X:Cx) (r:R2):Prop:=
 ∀ (value slice:Expr) (pins:List (Addr × Obj)) (s:Shared) (σ:St) (H:Hp) (x y:V) (v u:Value) (Q:VK),Ao X pins σ H s->A1 x v->A1 y u->r x y H Q ->
  subscripted slice false v u=operate [v,u] (getItem v u)->wpAny (model X.prog X.w) X.A (subscriptTail value slice v u) (EP X pins σ Q) X.xe s
def MtR (X:Cx) (id:String) (r:V->List V->Hp->VK->Prop):Prop:=
 ∀ ⦃pins:List (Addr × Obj)⦄ (s:Shared) (σ:St) (H:Hp) (x:V) (xs:List V) (v:Value) (us:List Value) (Q:VK),Ao X pins σ H s->A1 x v->Az xs us->r x xs H Q ->
  wpAny (model X.prog X.w) X.A (call (.builtin id) (v :: us)) (EP X pins σ Q) X.xe s
section
variable {X:Cx} {a b:Expr} {ta tb:TE} {pos:Pos}
theorem A9 {r:R2} (hr:Vf X r) (ha:PE X a ta) (hb:PE X b tb) (hs:SV b):PE X (.Subscript a b pos) (tOp r ta tb):=by
 intro pins s σ H Q I h;exact Subscript_ (UH ha hb I h fun v u s2 x y H2 I2 rx ry q=>hr a b (pins:=pins) s2 σ H2 x y v u Q I2 rx ry q (hs _ _))
def rIxL (K:XU):R2:=fun x y H Q=>∃ p xs i v,x=.ref p/\y=.int i/\AM K H p xs/\K8 xs i=some v/\Q v H
def rIxT (K:XU):R2:=fun x y H Q=>∃ p xs i v,x=.ref p/\y=.int i/\AE K H p xs/\K8 xs i=some v/\Q v H
def rIxS:R2:=fun x y H Q=>∃ z i c,x=.str z/\y=.int i/\z.length<=sizeLine/\K8 z.cps.toList i=some c/\Q (.str ⟨#[c]⟩) H
theorem Nw:Vf X (rIxL X.K):=by
 intro value slice pins s σ H x y v u Q I rx ry h hs;obtain ⟨p,xs,i,z,rfl,rfl,hq,he,q⟩:=h;cases rx
 obtain ⟨t,rfl⟩:=ry;obtain ⟨Aq,r,pl,hz⟩:=I.list hq;obtain ⟨j,h1,h2,h3,h4,h5⟩:=Hr he;obtain ⟨w,ew,Ou⟩:=r.get h2;have hl:=r.length;have hn:=Fl;have fin:EP X pins σ Q w s:=⟨z,H,I,Ou,q⟩
 by_cases h0:0<=i
 ·have hj:i.toNat=j:=by
   rw [seqIndex_of h0 h5] at h1;exact Yo.inj h1
  exact item_listR pl.isList h0 (by lia) (by rw [hj]; simpa using ew) fin hs
 ·have hj:(i + (Aq.toArray.size:Int)).toNat=j:=by
   rw [seqIndex_neg (by lia) h4] at h1;rw [Yp,<-hl];exact Yo.inj h1
  exact subscriptTail_builtinR (x:=w) pl.isList.typeIs slot_list_getitem.lookup
   (wpAny_getItem_list_neg (Q:=fun r s'=>r=w/\EP X pins σ Q r s') pl.isList (by lia) (by rw [Yp] <;> lia) (by lia) (by rw [hj]; simpa using ew) ⟨rfl,fin⟩) hs
theorem Kx:Vf X (rIxT X.K):=by
 intro value slice pins s σ H x y v u Q I rx ry h hs;obtain ⟨p,xs,i,z,rfl,rfl,hq,he,q⟩:=h;cases rx
 obtain ⟨t,rfl⟩:=ry;obtain ⟨Aq,r,pl,hz⟩:=I.tuple hq;obtain ⟨j,h1,h2,h3,h4,h5⟩:=Hr he;obtain ⟨w,ew,Ou⟩:=r.get h2;have hl:=r.length;have hn:=Fl;have fin:EP X pins σ Q w s:=⟨z,H,I,Ou,q⟩
 exact subscriptTail_builtinR (x:=w) pl.typeIs slot_tuple_getitem.lookup
  (getItem_tuple (j:=j) (Q:=fun r s'=>r=w/\EP X pins σ Q r s') pl (by lia) (by lia) (by rw [Yp,<-hl]; exact h1) (by simpa using ew) ⟨rfl,fin⟩) hs
theorem QX:Vf X rIxS:=by
 intro value slice pins s σ H x y v u Q I rx ry h hs;obtain ⟨z,i,c,rfl,rfl,hz,he,q⟩:=h;obtain ⟨t,rfl⟩:=rx;obtain ⟨t',rfl⟩:=ry;obtain ⟨j,h1,h2,h3,h4,h5⟩:=Hr he;have hl:z.cps.toList.length=z.length:=by simp [Str.length]
 rw [hl] at h1 h4 h5;have hn:=Fl;exact tail_any (typeIs_str s z t) slot_str_getitem.lookup (getItem_str (c:=c) (by
  have e1:decide (i < -(2 ^ 63:Int))=false:=decide_eq_false (by lia);have e2:decide (i >= 2 ^ 63)=false:=decide_eq_false (by lia);rw [e1,e2,cg]) (by rw [h1]; simpa using h2) ⟨.str ⟨#[c]⟩,H,I.tok _,⟨_,rfl⟩,q⟩) hs
theorem Mp (Aq:List Value) (n j:Nat) (u:Value):Obj.mapSeq (·.setIfInBounds j u) { cls:=.type "list",data:=.seq Aq.toArray n } = { cls:=.type "list",data:=.seq (Aq.set j u).toArray n }:=by
 simp [Obj.mapSeq]
theorem Ao.lst {pins:List (Addr × Obj)} {σ:St} {H:Hp} {s:Shared} {p:Addr} {xs:List V} (I:Ao X pins σ H s) (h:H p=some (.lst xs)) :
  ∃ (Aq:List Value) (n:Nat),Az xs Aq/\s.heap.get? p=some { cls:=.type "list",data:=.seq Aq.toArray n }/\xs.length<=sizeLine:=by
 obtain ⟨z,Aq,n,r,e⟩:=I.hok p _ h;exact ⟨Aq,n,r,e,z⟩
theorem Ao.lstUpd {pins:List (Addr × Obj)} {σ:St} {H:Hp} {s:Shared} {p:Addr} {xs ys:List V} {Aq its':List Value} {n n':Nat} {f:Obj->Obj} (I:Ao X pins σ H s) (h:H p=some (.lst xs))
  (ho:s.heap.get? p=some { cls:=.type "list",data:=.seq Aq.toArray n }) (hf:f { cls:=.type "list",data:=.seq Aq.toArray n } = { cls:=.type "list",data:=.seq its'.toArray n' }) (r:Az ys its') (hz:ys.length<=sizeLine) (t:Nat) :
  Ao X pins σ (upd H p (.lst ys)) { s with heap:=s.heap.update p f,toks:=t }:=by
 have e:(s.heap.update p f).get? p=some { cls:=.type "list",data:=.seq its'.toArray n' }:=by
  rw [YH f ho (by rw [hf] <;> rfl),hf]
 refine I.write (x:=p) (e:=p) (by rw [h]; trivial) (.inl rfl) (fun b u hb q=>(YG _ _ (Ne.symm hb)).trans q) ⟨_,e⟩ ?_;exact ⟨hz,its',n',r,e⟩
def rSetL:V->V->V->Hp->(Hp->Prop)->Prop:=fun o i v H Q=>∃ p xs k j,o=.ref p/\i=.int k/\H p=some (.lst xs)/\S2 xs.length k=some j/\Q (upd H p (.lst (xs.set j v)))
theorem Hz:PSet X rSetL:=by
 intro pins s σ H o i v ov iv u Q I ro ri rv h;obtain ⟨p,xs,k,j,rfl,rfl,hp,hj,q⟩:=h;cases ro
 obtain ⟨t,rfl⟩:=ri;obtain ⟨Aq,n,r,ho,hz⟩:=I.lst hp;obtain ⟨h1,h2,h3,h4⟩:=Ky hj;have hl:=r.length;have hn:=Fl;have I':Ao X pins σ (upd H p (.lst (xs.set j v))) { s with heap:=s.heap.update p (Obj.mapSeq (·.setIfInBounds j u)) }:=
  I.lstUpd hp ho (Mp Aq n j u) (r.set rv j) (by rw [List.length_set]; exact hz) s.toks
 by_cases h0:0<=k
 ·have hk:k.toNat=j:=by
   rw [seqIndex_of h0 h4] at h1;exact Yo.inj h1
  exact PySem.W.ki_setAt ho h0 (by lia) (by rw [Yp,<-hl]; exact h4) (by rw [hk]; exact ⟨_,I',q⟩)
 ·have hk:(k + (Aq.toArray.size:Int)).toNat=j:=by
   rw [seqIndex_neg (by lia) h3] at h1;rw [Yp,<-hl];exact Yo.inj h1
  exact PySem.W.ki_setBack ho (by lia) (by rw [Yp,<-hl]; exact h3) (by lia) (by rw [hk]; exact ⟨_,I',q⟩)
def E2:V->Bool
 | .non=>true
 | .bl _=>true
 | .int _=>true
 | .str _=>true
 | _=>false
def SF:V->V->Bool
 | .non,.non=>true
 | .bl a,.bl b=>a == b
 | .bl a,.int b=>(if a then 1 else 0) == b
 | .int a,.bl b=>a == (if b then 1 else 0)
 | .int a,.int b=>a == b
 | .str a,.str b=>a == b
 | _,_=>false
theorem UD {A:Around} {s:Shared} {y x:V} {u v:Value} (ry:A1 y u) (rx:A1 x v) (fy:E2 y=true) (fx:E2 x=true):SeqAt.EqAt A s u v (SF y x):=by
 cases y with
 | non=>
  cases ry
  cases x with
  | non=>cases rx; exact SeqAt.EqAt.same _
  | bl b=>cases rx; exact SeqAt.EqAt.none_bool b
  | int b=>obtain ⟨t,rfl⟩:=rx; exact SeqAt.EqAt.none_int b t
  | str b=>obtain ⟨t,rfl⟩:=rx; exact SeqAt.EqAt.none_str b t
  | _=>exact absurd (show false=true from fx) Yl
 | bl a=>
  cases ry
  cases x with
  | non=>cases rx; exact SeqAt.EqAt.bool_none a
  | bl b=>cases rx; exact SeqAt.EqAt.bool_bool a b
  | int b=>obtain ⟨t,rfl⟩:=rx; exact SeqAt.EqAt.bool_int a b t
  | str b=>obtain ⟨t,rfl⟩:=rx; exact SeqAt.EqAt.bool_str a b t
  | _=>exact absurd (show false=true from fx) Yl
 | int a=>
  obtain ⟨t',rfl⟩:=ry;cases x with
  | non=>cases rx; exact SeqAt.EqAt.int_none a t'
  | bl b=>cases rx; exact SeqAt.EqAt.int_bool a t' b
  | int b=>obtain ⟨t,rfl⟩:=rx; exact SeqAt.EqAt.int_int a t' b t
  | str b=>obtain ⟨t,rfl⟩:=rx; exact SeqAt.EqAt.int_str a t' b t
  | _=>exact absurd (show false=true from fx) Yl
 | str a=>
  obtain ⟨t',rfl⟩:=ry;cases x with
  | non=>cases rx; exact SeqAt.EqAt.str_none a t'
  | bl b=>cases rx; exact SeqAt.EqAt.str_bool a t' b
  | int b=>obtain ⟨t,rfl⟩:=rx; exact SeqAt.EqAt.str_int a t' b t
  | str b=>obtain ⟨t,rfl⟩:=rx; exact SeqAt.EqAt.str_str a t' b t
  | _=>exact absurd (show false=true from fx) Yl
 | _=>exact absurd (show false=true from fy) Yl
def SG (x:V) (u:Value):Bool:=match u with
 | .none=>SF .non x
 | .bool b=>SF (.bl b) x
 | .int i _=>SF (.int i) x
 | .str z _=>SF (.str z) x
 | _=>false
theorem Rq {x y:V} {u:Value} (r:A1 y u) (f:E2 y=true):SG x u=SF y x:=by
 cases y with
 | non=>cases r; rfl
 | bl b=>cases r; rfl
 | int i=>obtain ⟨t,rfl⟩:=r; rfl
 | str z=>obtain ⟨t,rfl⟩:=r; rfl
 | _=>exact absurd (show false=true from f) Yl
theorem K4 {x:V}:∀ {xs:List V} {us:List Value},Az xs us->xs.all E2=true->us.any (SG x)=xs.any fun y=>SF y x
 | _,_,.nil,_=>rfl
 | y :: xs,u :: us,.cons r t,f=>by
  rw [ag,YA] at f;rw [Z5,Z5,Rq r f.1,K4 t f.2]
theorem Ia {A:Around} {s:Shared} {x:V} {v:Value} (rx:A1 x v) (fx:E2 x=true):∀ {xs:List V} {us:List Value},Az xs us->xs.all E2=true->∀ u ∈ us,SeqAt.EqAt A s u v (SG x u)
 | _,_,.nil,_=>fun u hu=>by cases hu
 | y :: xs,u :: us,.cons r t,f=>fun u' hu=>by
  rw [ag,YA] at f;rcases XX.mp hu with rfl | hu
  ·rw [Rq r f.1]; exact UD r rx f.1 fx
  ·exact Ia rx fx t f.2 u' hu
def inV (x:V) (xs:List V):Bool:=xs.any fun y=>SF y x
def rIn (K:XU) (neg:Bool):R2:=fun x y H Q=>∃ p xs,y=.ref p/\(AM K H p xs\/AE K H p xs)/\E2 x=true/\xs.all E2=true/\Q (.bl (if neg then !inV x xs else inV x xs)) H
theorem Kn:EN X (compareOp .NotIn) (rIn X.K true):=by
 intro pins s σ H x y v u Q I rx ry h;obtain ⟨p,xs,rfl,hq,fx,fs,q⟩:=h;cases ry
 rcases hq with hq | hq
 ·obtain ⟨Aq,r,pl,hz⟩:=I.list hq;refine SeqAt.notIn_listAt (SG x) pl.isList (fun w hw=>Ia rx fx r fs w (by simpa using hw)) ⟨.bl _,H,I,rfl,?_⟩;rw [show Aq.toArray.any (SG x)=Aq.any (SG x) by simp,K4 r fs];exact q
 ·obtain ⟨Aq,r,pl,hz⟩:=I.tuple hq;refine SeqAt.notIn_tupleAt (SG x) pl (fun w hw=>Ia rx fx r fs w (by simpa using hw)) ⟨.bl _,H,I,rfl,?_⟩;rw [show Aq.toArray.any (SG x)=Aq.any (SG x) by simp,K4 r fs];exact q
theorem Ea:Bg X (.builtin "len") (fun xs H Q=>∃ p ys,xs=[.ref p]/\(AM X.K H p ys\/AE X.K H p ys)/\Q (.int ys.length) H):=by
 intro pins s σ H xs us Q I r h;obtain ⟨p,ys,rfl,hq,q⟩:=h;obtain ⟨u,rfl,rx⟩:=BR r;cases rx
 have hn:=Fl;rcases hq with hq | hq
 ·obtain ⟨Aq,r',pl,hz⟩:=I.list hq;have hlen:=r'.length;exact Calls.call_len_list pl.isList (by simp only [Yp] <;> lia) ⟨.int ys.length,H,I.tok _,⟨s.toks + 1,by rw [Yp,hlen]⟩,q⟩
 ·obtain ⟨Aq,r',pl,hz⟩:=I.tuple hq;have hlen:=r'.length;exact len_tuple pl (by simp only [Yp] <;> lia) ⟨.int ys.length,H,I.tok _,⟨s.toks + 1,by rw [Yp,hlen]⟩,q⟩
theorem FU:Bg X (.builtin "len") (fun xs H Q=>∃ z,xs=[.str z]/\z.length<=sizeLine/\Q (.int z.length) H):=by
 intro pins s σ H xs us Q I r h;obtain ⟨z,rfl,hz,q⟩:=h;obtain ⟨u,rfl,t,rfl⟩:=BR r;have hn:=Fl;exact len_str (by lia) ⟨.int z.length,H,I.tok _,⟨_,rfl⟩,q⟩
theorem FT:Bg X (.type "list") (fun xs H Q=>∃ p ys,xs=[.ref p]/\(AM X.K H p ys\/AE X.K H p ys)/\∀ l,H l=none->Q (.ref l) (upd H l (.lst ys))):=by
 intro pins s σ H xs us Q I r h;obtain ⟨p,ys,rfl,hq,q⟩:=h;obtain ⟨u,rfl,rx⟩:=BR r;cases rx
 have fin:∀ (Aq:List Value),Az ys Aq->ys.length<=sizeLine->∀ (h':Heap) (c':Nat),(∀ b o',s.heap.get? b=some o'->h'.get? b=some o') ->
   h'.get? s.heap.objs.size=some { cls:=.type "list",dict:=none,data:=.seq Aq.toArray c',slots:=#[] }->EP X pins σ Q (.ref s.heap.objs.size) { s with heap:=h' }:=fun Aq r' hz h' c' kp e=>
  ⟨.ref s.heap.objs.size,_,I.laid (t':=s.toks) kp (Ya _) (show A4 X.prog X.w _ h' _ (.lst ys) from ⟨hz,Aq,c',r',e⟩),rfl,q _ (I.hok.fresh (Ya _))⟩
 rcases hq with hq | hq
 ·obtain ⟨Aq,r',pl,hz⟩:=I.list hq;have hlen:=r'.length;obtain ⟨o,ho,hc,n,hd⟩:=pl.isList;exact call_list_seq p (.inl rfl) ho hc hd (fun h' c' kp e=>fin Aq r' hz h' c' kp e) (by simp only [Yp] <;> lia)
 ·obtain ⟨Aq,r',pl,hz⟩:=I.tuple hq;have hlen:=r'.length;obtain ⟨o,ho,hc,n,hd⟩:=pl;exact call_list_seq p (.inr rfl) ho hc hd (fun h' c' kp e=>fin Aq r' hz h' c' kp e) (by simp only [Yp] <;> lia)
theorem Jd:Bg X (.type "tuple") (fun xs H Q=>∃ p ys,xs=[.ref p]/\((AM X.K H p ys/\∀ l,H l=none->Q (.ref l) (upd H l (.tup ys)))\/(AE X.K H p ys/\Q (.ref p) H))):=by
 intro pins s σ H xs us Q I r h;obtain ⟨p,ys,rfl,h⟩:=h;obtain ⟨u,rfl,rx⟩:=BR r;cases rx
 rcases h with ⟨hq,q⟩ | ⟨hq,q⟩
 ·obtain ⟨Aq,r',pl,hz⟩:=I.list hq;have hlen:=r'.length;refine call_tuple_list pl.isList (fun h' kp=>?_) (by simp only [Yp] <;> lia);have I1:Ao X pins σ H { s with heap:=h' }:=I.kept (t':=s.toks) kp;have I2:Ao X pins σ (upd H h'.objs.size (.tup ys)) { s with heap:=h'.push { cls:=.type "tuple",data:=.seq Aq.toArray } }:=
   I1.laid (t':=s.toks) (fun b o e=>XQ _ e) (Ya _) (show A4 X.prog X.w _ _ _ (.tup ys) from ⟨hz,Aq,r',IsTup.new _ _,LO.new rfl rfl⟩)
  exact ⟨.ref h'.objs.size,_,I2,rfl,q _ (I1.hok.fresh (Ya _))⟩
 ·obtain ⟨Aq,r',pl,hz⟩:=I.tuple hq;exact call_tuple_same pl ⟨.ref p,H,I,rfl,q⟩
def tyV (K:XU) (T:String) (x:V) (H:Hp):Prop:=match x with
 | .str _=>T="str"
 | .int _=>T="int"
 | .ref p=>(T="list"/\∃ xs,AM K H p xs)\/(T="tuple"/\∃ o,K.lookup p=some o/\o.cls=.type "tuple"/\o.dict=none) \/
   (T="dict"/\((∃ kvs,H p=some (.dK kvs))\/∃ kvs,H p=some (.dT kvs)))\/(T="set"/\∃ S n,H p=some (.set S n))
 | _=>False
theorem PM {pins:List (Addr × Obj)} {σ:St} {H:Hp} {s:Shared} {T:String} {x:V} {v:Value} (I:Ao X pins σ H s) (r:A1 x v) (ty:tyV X.K T x H) :
  s.TypeIs v T/\∀ a,v=.ref a->∃ ob,s.heap.get? a=some ob/\ob.dict=none:=by
 cases x with
 | str z=>
  obtain ⟨t,rfl⟩:=r;cases (show T="str" from ty)
  exact ⟨typeIs_str s z t,fun _ e=>nomatch e⟩
 | int i=>
  obtain ⟨t,rfl⟩:=r;cases (show T="int" from ty)
  exact ⟨typeIs_int s i t,fun _ e=>nomatch e⟩
 | ref p=>
  cases r
  rcases ty with ⟨rfl,xs,hq⟩ | ⟨rfl,o,hk,hc,hd⟩ | ⟨rfl,hk⟩ | ⟨rfl,S,n,hk⟩
  ·obtain ⟨Aq,_,pl,_⟩:=I.list hq;refine ⟨pl.isList.typeIs,fun a e=>?_⟩;cases e
   obtain ⟨o,n,e,c,hd,_⟩:=pl;exact ⟨o,e,hd⟩
  ·refine ⟨⟨o,I.kIn p o hk,hc⟩,fun a e=>?_⟩;cases e
   exact ⟨o,I.kIn _ o hk,hd⟩
  ·have z:∃ o,s.heap.get? p=some o/\o.ExactDict:=by
    rcases hk with ⟨kvs,hk⟩ | ⟨kvs,hk⟩
    ·obtain ⟨_,_,_,_,o,_,_,e,ex,_⟩:=I.hok p _ hk;exact ⟨o,e,ex⟩
    ·obtain ⟨_,_,_,_,o,_,_,e,ex,_⟩:=I.hok p _ hk;exact ⟨o,e,ex⟩
   obtain ⟨o,e,ex⟩:=z;refine ⟨⟨o,e,ex.1⟩,fun a e2=>?_⟩;cases e2
   exact ⟨o,e,ex.2.1⟩
  ·obtain ⟨o,_,_,_,e,ex,_⟩:=I.hok p _ hk;refine ⟨⟨o,e,ex.1⟩,fun a e2=>?_⟩;cases e2
   exact ⟨o,e,ex.2.1⟩
 | _=>exact False.elim ty
def tBM0 (K:XU) (T:String) (r:V->List V->Hp->VK->Prop) (to:TE):TE:=fun σ H Q=>to σ H fun x H1=>tyV K T x H1/\r x [] H1 Q
def tBM (K:XU) (T:String) (r:V->List V->Hp->VK->Prop) (to:TE) (t:TA):TE:=fun σ H Q=>to σ H fun x H1=>tyV K T x H1/\t σ H1 fun xs H2=>r x xs H2 Q
variable {o e:Expr} {es:List Expr} {to:TE} {t:TA} {name:Str} {apos E6:Pos} {T id:String} {r:V->List V->Hp->VK->Prop}
theorem QG (pa:PlainAttrs T) (slot:Slot T name id) (hty:typeOf (.builtin id)=pure (.type "method_descriptor")) (hm:MtR X id r) (ho:PE X o to)
  (hbase:attributeBase o name X.env (eval o X.env)=eval o X.env:=by rfl) (hline:(apos.endLine == E6.line)=true:=by rfl):PE X (.Call (.Attribute o name apos) [] [] E6) (tBM0 X.K T r to):=by
 intro pins s σ H Q I h;refine wpAny_Call_method0_late hbase hline (Bo (ho (pins:=pins) s σ H _ I h) fun v s1 ⟨x,H1,I1,r1,ty,q1⟩=>?_);obtain ⟨h1,h2⟩:=PM I1 r1 ty;exact ⟨T,id,pa,slot,hty,h1,h2,Calls.callWith_builtin rfl (PySem.evalArgs_none (hm (pins:=pins) s1 σ H1 x [] v [] Q I1 r1 .nil q1))⟩
theorem HK (pa:PlainAttrs T) (slot:Slot T name id) (hty:typeOf (.builtin id)=pure (.type "method_descriptor")) (hm:MtR X id r) (ho:PE X o to) (ha:PA X (e :: es) t)
  (hbase:attributeBase o name X.env (eval o X.env)=eval o X.env:=by rfl)
  (hfew:((backTo E6 (starEach (e :: es) X.env)).all (fun x=>!x.1) && (backToKw E6 (keywordEach [] X.env)).all (fun x=>x.1.isSome)
   && decide ((e :: es).length + ([]:List Keyword).length + (if ([]:List Keyword).isEmpty then 0 else 1) < 30))=true:=by rfl)
  (hline:(apos.endLine == E6.line)=true:=by rfl) (hs:starEach (e :: es) X.env=(false,eval e X.env) :: starEach es X.env:=by rfl) (hplain:(backTo E6 (starEach es X.env)).any (·.1)=false:=by rfl) :
  PE X (.Call (.Attribute o name apos) (e :: es) [] E6) (tBM X.K T r to t):=by
 intro pins s σ H Q I h;refine wpAny_Call_method_late hbase hfew hline rfl (Bo (ho (pins:=pins) s σ H _ I h) fun v s1 ⟨x,H1,I1,r1,ty,q1⟩=>?_);obtain ⟨h1,h2⟩:=PM I1 r1 ty;refine ⟨T,id,pa,slot,hty,h1,h2,?_⟩;have hA:=ha (pos:=E6) (pins:=pins) s1 σ H1 _ I1 q1;rw [hs] at hA ⊢;refine Calls.callWith_builtin (by show (false || (backTo E6 (starEach es X.env)).any (·.1))=false; rw [hplain] <;> rfl) (Calls.evalArgs_plain ?_);exact Bo hA fun us s2 ⟨vs,H2,I2,r2,q2⟩=>hm (pins:=pins) s2 σ H2 x vs v us Q I2 r1 r2 q2
end
def MtM (X:Cx) (id:String) (r:V->List V->Hp->VK->Prop):Prop:=
 ∀ ⦃pins:List (Addr × Obj)⦄ (s:Shared) (σ:St) (H:Hp) (x:V) (xs:List V) (v:Value) (us:List Value) (Q:VK),Ao X pins σ H s->A1 x v->Az xs us->r x xs H Q ->
  wpAny (model X.prog X.w) X.A (call (.builtin id) (v :: us)) (EP X pins σ Q) X.xe s
theorem Az.one:∀ {x:V} {us:List Value},Az [x] us->∃ u,us=[u]/\A1 x u
 | _,_,.cons r .nil=>⟨_,rfl,r⟩
theorem Az.eraseIdx:∀ {xs:List V} {us:List Value} (i:Nat),Az xs us->Az (xs.eraseIdx i) (us.eraseIdx i)
 | _,_,_,.nil=>.nil
 | _,_,0,.cons _ t=>t
 | _,_,i + 1,.cons r t=>.cons r (Az.eraseIdx i t)
theorem JA {α:Type}:∀ (l:List α) (i:Nat),(l.eraseIdx i).length<=l.length
 | [],_=>Ya _
 | _ :: _,0=>Y8 _
 | _ :: r,i + 1=>Nat.succ_le_succ (JA r i)
section
variable {X:Cx} {pins:List (Addr × Obj)} {σ:St} {H:Hp} {s:Shared} {l b:Addr} {xs ys zs:List V}
theorem Ao.lset {Aq its':List Value} {n:Nat} {f:Array Value->Array Value} {t':Nat} (I:Ao X pins σ H s) (hH:H l=some (.lst xs))
  (e:s.heap.get? l=some { cls:=.type "list",data:=.seq Aq.toArray n }) (hf:f Aq.toArray=its'.toArray) (hv:Az ys its') (hz:ys.length<=sizeLine) :
  Ao X pins σ (upd H l (.lst ys)) { s with heap:=s.heap.update l (Obj.mapSeq f),toks:=t' }:=by
 have q:=PySem.IsL.update e f;rw [hf] at q;refine I.write (x:=l) (e:=l) (by rw [hH]; exact trivial) (.inl rfl) (fun b' u hb hu=>(YG s.heap (Obj.mapSeq f) (Ne.symm hb)).trans hu) ⟨_,q⟩ ?_;exact ⟨hz,its',_,hv,q⟩
theorem Ao.lnew {Aq:List Value} {t':Nat} (I:Ao X pins σ H s) (hv:Az ys Aq) (hz:ys.length<=sizeLine) :
  Ao X pins σ (upd H s.heap.objs.size (.lst ys)) { s with heap:=s.heap.push { cls:=.type "list",data:=.seq Aq.toArray },toks:=t' }:=
 I.laid (fun _ _ q=>XQ _ q) (Ya _) ⟨hz,Aq,0,hv,Yf _ rfl⟩
theorem Ao.fresh (I:Ao X pins σ H s):H s.heap.objs.size=none:=I.hok.fresh (Ya _)
theorem Ao.lstM (I:Ao X pins σ H s) (hH:H l=some (.lst xs)):xs.length<=sizeLine/\∃ (Aq:List Value) (n:Nat),Az xs Aq/\xs.length=Aq.length/\s.heap.get? l=some { cls:=.type "list",data:=.seq Aq.toArray n }:=by
 obtain ⟨z,Aq,n,r,e⟩:=I.hok l _ hH;exact ⟨z,Aq,n,r,r.length,e⟩
end
section
variable {X:Cx}
def Sa:V->List V->Hp->VK->Prop:=fun x vs H Q=>∃ l xs y,x=.ref l/\vs=[y]/\H l=some (.lst xs)/\xs.length < sizeLine/\Q .non (upd H l (.lst (xs ++ [y])))
theorem C1:MtM X "list.append" Sa:=by
 intro pins s σ H x vs v us Q I rx rv h;obtain ⟨l,xs,y,rfl,rfl,hH,hz,q⟩:=h;cases rx
 obtain ⟨u,rfl,ru⟩:=rv.one;obtain ⟨z,Aq,n,r,hl,e⟩:=I.lstM hH;refine call_meets F.slot_list_append ⟨_,e,rfl⟩ F.entry_list_append (F.args_list_append_2 _ _) (PySem.list_append l Aq.toArray n u (by rw [Yp]; lia)) ⟨e,?_⟩;refine ⟨.non,_,I.lset (its':=Aq ++ [u]) hH e (by simp) (r.append (.cons ru .nil)) ?_,rfl,q⟩;rw [XZ,YD];lia
def Uj:V->List V->Hp->VK->Prop:=fun x vs H Q=>∃ l xs i k y,x=.ref l/\vs=[.int i]/\H l=some (.lst xs)/\-(2 ^ 63)<=i/\i < 2 ^ 63/\seqIndex? i xs.length=some k/\xs[k]? = some y/\Q y (upd H l (.lst (xs.eraseIdx k)))
theorem QQ:MtM X "list.pop" Uj:=by
 intro pins s σ H x vs v us Q I rx rv h;obtain ⟨l,xs,i,k,y,rfl,rfl,hH,h1,h2,hk,hy,q⟩:=h;cases rx
 obtain ⟨u,rfl,ru⟩:=rv.one;obtain ⟨t,rfl⟩:=ru;obtain ⟨z,Aq,n,r,hl,e⟩:=I.lstM hH;obtain ⟨w,hw,Ou⟩:=r.get hy;refine call_meets F.slot_list_pop ⟨_,e,rfl⟩ F.entry_list_pop (F.args_list_pop_2 _ _)
  (MeetsSeq.list_pop_at l Aq.toArray n i t k w (fitsIndex_both h1 h2) (by rw [Yp,<-hl]; exact hk) (by rw [<-YW]; exact hw) (by rw [Yp]; lia)) ⟨e,?_⟩
 refine ⟨y,_,I.lset (its':=Aq.eraseIdx k) hH e ?_ (r.eraseIdx k) ?_,Ou,q⟩
 ·show Aq.toArray.eraseIdxIfInBounds k=(Aq.eraseIdx k).toArray
  rw [List.eraseIdxIfInBounds_toArray]
 ·have:=JA xs k;lia
def rCat:R2:=fun x y H Q=>∃ l b xs zs,x=.ref l/\y=.ref b/\H l=some (.lst xs)/\H b=some (.lst zs)/\xs.length + zs.length<=sizeLine/\∀ p,H p=none->Q (.ref p) (upd H p (.lst (xs ++ zs)))
theorem Ko:EN X (binaryOp .Add) rCat:=by
 intro pins s σ H x y v u Q I rx ry h;obtain ⟨l,b,xs,zs,rfl,rfl,hH,hB,hz,q⟩:=h;cases rx
 cases ry
 obtain ⟨z,Aq,n,r,hl,e⟩:=I.lstM hH;obtain ⟨z2,ON,n2,r2,Pt,e2⟩:=I.lstM hB;refine PySem.P.add_list e e2 ?_ (by rw [Yp,Yp]; lia);have ea:Aq.toArray ++ ON.toArray=(Aq ++ ON).toArray:=by simp
 rw [ea];exact ⟨.ref _,_,I.lnew (t':=s.toks) (r.append r2) (by rw [XZ]; lia),rfl,q _ I.fresh⟩
end
section
variable {prog:Program} {w:World} {A:Around} {E:Value->Shared->Prop} {s:Shared}
set_option maxRecDepth 100000 in
end
section
variable {X:Cx}
end
section
variable {κ:Type} [DecidableEq κ]
def Bq (kvs:List (κ × V)) (k:κ):Option V:=(kvs.find? fun kv=>decide (kv.1=k)).map (·.2)
def Bj (kvs:List (κ × V)) (k:κ) (v:V):List (κ × V):=
 if (kvs.any fun kv=>decide (kv.1=k))=true then kvs.map (fun kv=>if kv.1=k then (kv.1,v) else kv) else kvs ++ [(k,v)]
def Iv (kvs:List (κ × V)) (k:κ):List (κ × V):=kvs.filter fun kv=>decide (kv.1 ≠ k)
theorem D8 {p:κ × V} {r:List (κ × V)} {k:κ} (e:p.1=k):Bq (p :: r) k=some p.2:=by simp [Bq,Zl,e]
theorem CZ {p:κ × V} {r:List (κ × V)} {k:κ} (e:¬ p.1=k):Bq (p :: r) k=Bq r k:=by simp [Bq,Zl,e]
theorem CA (k:κ):∀ kvs:List (κ × V),(kvs.any fun kv=>decide (kv.1=k))=(Bq kvs k).isSome
 | []=>rfl
 | p :: r=>by
  rw [Z5];by_cases e:p.1=k
  ·simp only [D8 e,decide_eq_true e,Bool.true_or,bq]
  ·rw [CZ e,decide_eq_false e,Bool.false_or]; exact CA k r
theorem CD (kvs:List (κ × V)) (k:κ) (v:V):(Bj kvs k v).length<=kvs.length + 1:=by
 unfold Bj;split
 ·rw [XJ]; lia
 ·rw [XZ,Yz,bP]; lia
theorem HD {kvs:List (κ × V)} {k:κ} (v:V) (h:Bq kvs k=none):Bj kvs k v=kvs ++ [(k,v)]:=by
 unfold Bj;rw [CA,h];exact if_neg (by decide)
theorem Gs.isSome_eq {o:Option V} {u:Option Value} (r:Gs o u):o.isSome=u.isSome:=by
 cases o with
 | none=>cases u with
  | none=>rfl
  | some _=>exact (show False from r).elim
 | some _=>cases u with
  | none=>exact (show False from r).elim
  | some _=>rfl
theorem Gs.getD {o:Option V} {u:Option Value} {d:V} {d':Value} (r:Gs o u) (rd:A1 d d'):A1 (o.getD d) (u.getD d'):=by
 cases o with
 | none=>cases u with
  | none=>exact rd
  | some _=>exact (show False from r).elim
 | some _=>cases u with
  | none=>exact (show False from r).elim
  | some _=>exact r
theorem KV.val {kvs:List (κ × V)} {vs:List (κ × Value)} (r:KV kvs vs) (k:κ):Gs (Bq kvs k) (valueAt vs k):=by
 unfold KV at r;induction r with
 | nil=>exact True.intro
 | @cons p q ps qs h t ih=>
  obtain ⟨h1,h2⟩:=h;by_cases e:p.1=k
  ·have e':q.1=k:=h1.symm.trans e;have b:valueAt (q :: qs) k=some q.2:=by simp [valueAt,Zl,e']
   rw [D8 e,b]; exact h2
  ·have e':¬ q.1=k:=fun z=>e (h1.trans z)
   have b:valueAt (q :: qs) k=valueAt qs k:=by simp [valueAt,Zl,e']
   rw [CZ e,b]; exact ih
theorem KV.any {kvs:List (κ × V)} {vs:List (κ × Value)} (r:KV kvs vs) (k:κ):(kvs.any fun kv=>decide (kv.1=k))=vs.any fun kv=>decide (kv.1=k):=by
 unfold KV at r;induction r with
 | nil=>rfl
 | cons h t ih=>rw [Z5,Z5,ih,h.1]
theorem KV.repl {kvs:List (κ × V)} {vs:List (κ × Value)} (r:KV kvs vs) (k:κ) {y:V} {u:Value} (ry:A1 y u) :
  KV (kvs.map fun kv=>if kv.1=k then (kv.1,y) else kv) (vs.map fun kv=>if kv.1=k then (kv.1,u) else kv):=by
 unfold KV at r ⊢;induction r with
 | nil=>exact .nil
 | @cons p q ps qs h t ih=>
  rw [Ym,Ym];refine .cons ?_ ih;obtain ⟨h1,h2⟩:=h;by_cases e:p.1=k
  ·rw [if_pos e,if_pos (h1.symm.trans e)]; exact ⟨h1,ry⟩
  ·rw [if_neg e,if_neg (fun z=>e (h1.trans z))]; exact ⟨h1,h2⟩
theorem KV.put {kvs:List (κ × V)} {vs:List (κ × Value)} (r:KV kvs vs) (k:κ) {y:V} {u:Value} (ry:A1 y u):KV (Bj kvs k y) (stored vs k u):=by
 unfold Bj stored;rw [r.any k];by_cases e:(vs.any fun kv=>decide (kv.1=k))=true
 ·rw [if_pos e,if_pos e]; exact r.repl k ry
 ·rw [if_neg e,if_neg e]; exact Paired.snoc r ⟨rfl,ry⟩
theorem KV.drop {kvs:List (κ × V)} {vs:List (κ × Value)} (r:KV kvs vs) (k:κ):KV (Iv kvs k) (without vs k):=by
 unfold KV at r ⊢;unfold Iv without;induction r with
 | nil=>exact .nil
 | @cons p q ps qs h t ih=>
  obtain ⟨h1,h2⟩:=h;rw [Zo,Zo];by_cases e:p.1=k
  ·have a:¬ decide (p.1 ≠ k)=true:=by simp [e]
   have b:¬ decide (q.1 ≠ k)=true:=by simp [h1.symm.trans e]
   rw [if_neg a,if_neg b]; exact ih
  ·have e':¬ q.1=k:=fun z=>e (h1.trans z)
   have a:decide (p.1 ≠ k)=true:=by simp [e]
   have b:decide (q.1 ≠ k)=true:=by simp [e']
   rw [if_pos a,if_pos b]; exact .cons ⟨h1,h2⟩ ih
theorem KV.length {kvs:List (κ × V)} {vs:List (κ × Value)} (r:KV kvs vs):kvs.length=vs.length:=Paired.length r
theorem Rr (kvs:List (κ × V)) (k:κ):(Iv kvs k).length<=kvs.length:=YB _ _
end
theorem G8 {P:Program} {w:World} {k:A6} {u:Value} (r:A1 (kV k) u):(AK P w).is k u=true:=by
 cases k with
 | inl i=>obtain ⟨t,e⟩:=(show ∃ t,u=Value.int i t from r); subst e; exact Ls P w i t
 | inr x=>obtain ⟨t,e⟩:=(show ∃ t,u=Value.str x t from r); subst e; exact G6 P w x t
theorem JD {P:Program} {w:World}:∀ {ks:List A6} {us:List Value},Az (ks.map kV) us->ItemsAre (AK P w) ks us
 | [],_,r=>by rw [cu] at r; cases r; exact .nil
 | k :: ks,_,r=>by
  rw [Ym] at r;cases r with
  | cons h t=>exact .cons (G8 h) (JD t)
abbrev KT (H:Hp):List (List A6 × V)->List (List A6 × Addr × Value)->Prop:=Paired fun p q=>p.1=q.1/\H q.2.1=some (.tup (p.1.map kV))/\A1 p.2 q.2.2
theorem KT.val {H:Hp} {kvs:List (List A6 × V)} {xs:List (List A6 × Addr × Value)} (r:KT H kvs xs) (k:List A6):Gs (Bq kvs k) ((atKey xs k).map (·.2)):=by
 induction r with
 | nil=>exact True.intro
 | @cons p q ps qs h t ih=>
  obtain ⟨h1,_,h2⟩:=h;by_cases e:p.1=k
  ·have e':q.1=k:=h1.symm.trans e;have b:atKey (q :: qs) k=some q.2:=by simp [atKey,Zl,e']
   rw [D8 e,b]; exact h2
  ·have e':¬ q.1=k:=fun z=>e (h1.trans z)
   have b:atKey (q :: qs) k=atKey qs k:=by simp [atKey,Zl,e']
   rw [CZ e,b]; exact ih
theorem KT.repl {H:Hp} {kvs:List (List A6 × V)} {xs:List (List A6 × Addr × Value)} (r:KT H kvs xs) (k:List A6) {y:V} {u:Value} (ry:A1 y u) :
  KT H (kvs.map fun kv=>if kv.1=k then (kv.1,y) else kv) (xs.map (putAt k u)):=by
 induction r with
 | nil=>exact .nil
 | @cons p q ps qs h t ih=>
  rw [Ym,Ym];refine .cons ?_ ih;obtain ⟨h1,h2,h3⟩:=h;unfold putAt;by_cases e:p.1=k
  ·rw [if_pos e,if_pos (h1.symm.trans e)]; exact ⟨h1,h2,ry⟩
  ·rw [if_neg e,if_neg (fun z=>e (h1.trans z))]; exact ⟨h1,h2,h3⟩
theorem KT.put {H:Hp} {kvs:List (List A6 × V)} {xs:List (List A6 × Addr × Value)} (r:KT H kvs xs) (k:List A6) {b:Addr} {y:V} {u:Value} (hb:H b=some (.tup (k.map kV))) (ry:A1 y u) :
  KT H (Bj kvs k y) (storedH xs k b u):=by
 have e:(kvs.any fun kv=>decide (kv.1=k))=(atKey xs k).isSome:=by
  rw [CA,(r.val k).isSome_eq,ai]
 unfold Bj storedH;rw [e];by_cases q:(atKey xs k).isSome=true
 ·rw [if_pos q,if_pos q]; exact r.repl k ry
 ·rw [if_neg q,if_neg q]; exact Paired.snoc r ⟨rfl,hb,ry⟩
theorem KT.keeps {H H':Hp} {kvs:List (List A6 × V)} {xs:List (List A6 × Addr × Value)} (r:KT H kvs xs) (ht:∀ b ys,H b=some (.tup ys)->H' b=some (.tup ys)):KT H' kvs xs:=
 Paired.mapP r fun _ _ z=>⟨z.1,ht _ _ z.2.1,z.2.2⟩
section
variable {P:Program} {w:World} {H:Hp} {h:Heap} {a:Addr}
theorem To {u:HO} (ok:Fu P w H h) (e:Rd H a u):A4 P w H h a u:=e.ok ok
theorem Iw {kvs:List (A6 × V)} (ok:Fu P w H h) (e:Rd H a (.dK kvs)):kvs.length<=sizeLine/\(a == sysModules)=false/\∃ vs,KV kvs vs/\h.DictOf (AK P w) a vs:=
 show A4 P w H h a (.dK kvs) from To ok e
theorem Rt {kvs:List (A6 × V)} (ok:Fu P w H h) (e:H a=some (.dK kvs)):kvs.length<=sizeLine/\(a == sysModules)=false/\∃ vs,KV kvs vs/\h.DictOf (AK P w) a vs:=Iw ok (.inl e)
theorem Fm {ks:List A6} (ok:Fu P w H h) (e:H a=some (.tup (ks.map kV))):(tupleKind (AK P w)).is h ks a:=by
 obtain ⟨_,Aq,r,⟨o,h1,h2,n,h3⟩,_⟩:=(show A4 P w H h a (.tup (ks.map kV)) from ok a _ e)
 exact ⟨o,Aq.toArray,n,h1,h2,h3,by simpa using JD r⟩
theorem Iu {kvs:List (List A6 × V)} (ok:Fu P w H h) (e:Rd H a (.dT kvs)):kvs.length<=sizeLine/\(a == sysModules)=false /\
  ∃ xs,KT H kvs xs/\h.DictOfH (tupleKind (AK P w)) a xs:=by
 obtain ⟨z,y,xs,r,o,es,ep,h1,h2,h3,h4,h5⟩:=(show A4 P w H h a (.dT kvs) from To ok e)
 refine ⟨z,y,xs,r,o,es,ep,h1,h2,h3,h4,fun x hx=>?_,h5⟩;have all:∀ {l:List (List A6 × V)} {m:List (List A6 × Addr × Value)},KT H l m->∀ x ∈ m,(tupleKind (AK P w)).is h x.1 x.2.1:=by
  intro l m q;induction q with
  | nil=>intro x hx; exact nomatch hx
  | @cons p q ps qs hq t ih=>
   intro x hx;rcases XX.mp hx with e | hx
   ·subst e;exact Fm ok (by rw [<-hq.1]; exact hq.2.1)
   ·exact ih x hx
 exact all r x hx
theorem T6 {kvs:List (List A6 × V)} (ok:Fu P w H h) (e:H a=some (.dT kvs)):kvs.length<=sizeLine/\(a == sysModules)=false /\
  ∃ xs,KT H kvs xs/\h.DictOfH (tupleKind (AK P w)) a xs:=Iu ok (.inl e)
end
def BM (H:Hp) (a:Addr) (y:V) (r:Option V):Prop:=
 (∃ kvs k,Rd H a (.dK kvs)/\y=kV k/\r=Bq kvs k)\/∃ kvs k b,Rd H a (.dT kvs)/\y=.ref b/\H b=some (.tup (k.map kV))/\r=Bq kvs k
def ET (H:Hp) (a:Addr) (y v:V) (H':Hp):Prop:=
 (∃ kvs k,H a=some (.dK kvs)/\y=kV k/\kvs.length < sizeLine/\H'=upd H a (.dK (Bj kvs k v))) \/
 ∃ kvs k b,H a=some (.dT kvs)/\y=.ref b/\H b=some (.tup (k.map kV))/\kvs.length < sizeLine/\H'=upd H a (.dT (Bj kvs k v))
theorem BM.k {H:Hp} {a:Addr} {kvs:List (A6 × V)} {k:A6} (e:H a=some (.dK kvs)):BM H a (kV k) (Bq kvs k):=.inl ⟨kvs,k,.inl e,rfl,rfl⟩
theorem BM.t {H:Hp} {a b:Addr} {kvs:List (List A6 × V)} {k:List A6} (e:H a=some (.dT kvs)) (eb:H b=some (.tup (k.map kV))):BM H a (.ref b) (Bq kvs k):=.inr ⟨kvs,k,b,.inl e,rfl,eb,rfl⟩
theorem ET.k {H:Hp} {a:Addr} {kvs:List (A6 × V)} {k:A6} {v:V} (e:H a=some (.dK kvs)) (hl:kvs.length < sizeLine):ET H a (kV k) v (upd H a (.dK (Bj kvs k v))):=.inl ⟨kvs,k,e,rfl,hl,rfl⟩
theorem ET.t {H:Hp} {a b:Addr} {kvs:List (List A6 × V)} {k:List A6} {v:V} (e:H a=some (.dT kvs)) (eb:H b=some (.tup (k.map kV))) (hl:kvs.length < sizeLine) :
  ET H a (.ref b) v (upd H a (.dT (Bj kvs k v))):=.inr ⟨kvs,k,b,e,rfl,eb,hl,rfl⟩
section
variable {X:Cx} {pins:List (Addr × Obj)} {σ:St} {H:Hp} {s:Shared} {a:Addr} {y v:V} {u r:Value} {o:Option V} {A:Around} {E:Value->Shared->Prop}
theorem Ao.big (I:Ao X pins σ H s):sysModules < s.heap.objs.size:=by
 have h:mainGlobals < s.heap.objs.size:=(I.mod.glob.keeps I.bk).lt;exact Nat.lt_trans (by decide) h
theorem Ph {Q:Value->Shared->Prop} (hu:A.units + 1 < cLine) (I:Ao X pins σ H s) (g:BM H a y (some v)) (ry:A1 y u) (h:∀ w' s',Ao X pins σ H s'->A1 v w'->Q w' s') :
  wpAny (model X.prog X.w) A (getItem (.ref a) u) Q E s:=by
 rcases g with ⟨kvs,k,e,ey,l⟩ | ⟨kvs,k,b,e,ey,eb,l⟩
 ·subst ey;obtain ⟨z,hd,vs,rel,dd⟩:=Iw I.hok e;obtain ⟨w',hw,Ou⟩:=Gs.some_of (v:=v) (o:=valueAt vs k) (by rw [l]; exact rel.val k);exact wpAny_getItem_of (G8 ry) dd.mapOf hw (h w' _ (I.tok _) Ou)
 ·subst ey;cases (show u=Value.ref b from ry)
  obtain ⟨z,hd,xs,rel,dd⟩:=Iu I.hok e;obtain ⟨w',hw,Ou⟩:=Gs.some_of (v:=v) (o:=(atKey xs k).map (·.2)) (by rw [l]; exact rel.val k);obtain ⟨p,hp,hp2⟩:=Option.map_eq_some_iff.mp hw;refine wpAny_getItem_heap (tupleKind_room_in1 hu) (Fm I.hok eb) dd hp ?_;rw [hp2];exact h w' _ (I.tok _) Ou
theorem d_in {Q:Value->Shared->Prop} (hu:A.units + 1 < cLine) (I:Ao X pins σ H s) (g:BM H a y o) (ry:A1 y u) (h:∀ s',Ao X pins σ H s'->Q (.bool o.isSome) s') :
  wpAny (model X.prog X.w) A (compareOp .In u (.ref a)) Q E s:=by
 rcases g with ⟨kvs,k,e,ey,l⟩ | ⟨kvs,k,b,e,ey,eb,l⟩
 ·subst ey;obtain ⟨z,hd,vs,rel,dd⟩:=Iw I.hok e;refine wpAny_in_of (G8 ry) hd dd.mapOf ?_;rw [<-(rel.val k).isSome_eq,<-l];exact h _ (I.tok _)
 ·subst ey;cases (show u=Value.ref b from ry)
  obtain ⟨z,hd,xs,rel,dd⟩:=Iu I.hok e;refine wpAny_in_heap (tupleKind_room_in1 hu) (Fm I.hok eb) hd dd ?_;have q:=(rel.val k).isSome_eq;rw [ai] at q;rw [<-q,<-l];exact h _ (I.tok _)
theorem SM {Q:Value->Shared->Prop} (hu:A.units + 1 < cLine) (I:Ao X pins σ H s) (g:BM H a y o) (ry:A1 y u) (h:∀ s',Ao X pins σ H s'->Q (.bool (!o.isSome)) s') :
  wpAny (model X.prog X.w) A (compareOp .NotIn u (.ref a)) Q E s:=by
 rcases g with ⟨kvs,k,e,ey,l⟩ | ⟨kvs,k,b,e,ey,eb,l⟩
 ·subst ey;obtain ⟨z,hd,vs,rel,dd⟩:=Iw I.hok e;refine wpAny_notIn_of (G8 ry) hd dd.mapOf ?_;rw [<-(rel.val k).isSome_eq,<-l];exact h _ (I.tok _)
 ·subst ey;cases (show u=Value.ref b from ry)
  obtain ⟨z,hd,xs,rel,dd⟩:=Iu I.hok e;refine wpAny_notIn_heap (tupleKind_room_in1 hu) (Fm I.hok eb) hd dd ?_;have q:=(rel.val k).isSome_eq;rw [ai] at q;rw [<-q,<-l];exact h _ (I.tok _)
theorem FQ {h':Heap} {t':Nat} {ob:HO} (I:Ao X pins σ H s) (mu:Mut (H a)) (hs:Heap.SameBut a s.heap h') (he:∃ q,h'.get? a=some q) (new:A4 X.prog X.w (upd H a ob) h' a ob) :
  Ao X pins σ (upd H a ob) { s with heap:=h',toks:=t' }:=
 I.write (x:=a) (e:=a) mu (.inl rfl) (fun b q hb z=>(hs.2 b hb).trans z) he new
theorem K3 {P:Program} {w:World} {H':Hp} {h':Heap} {kvs:List (A6 × V)} {vs:List (A6 × Value)} (z:kvs.length<=sizeLine) (hd:(a == sysModules)=false) (rel:KV kvs vs) (dd:h'.DictOf (AK P w) a vs) :
  A4 P w H' h' a (.dK kvs):=⟨z,hd,vs,rel,dd⟩
theorem Pg {H':Hp} {Q:Unit->Shared->Prop} (hu:A.units + 1 < cLine) (I:Ao X pins σ H s) (g:ET H a y v H') (ry:A1 y u) (rv:A1 v r) (h:∀ s',Ao X pins σ H' s'->Q () s') :
  wpAny (model X.prog X.w) A (setItem (.ref a) u r) Q E s:=by
 rcases g with ⟨kvs,k,e,ey,l,eH⟩ | ⟨kvs,k,b,e,ey,eb,l,eH⟩
 ·subst ey eH;obtain ⟨z,hd,vs,rel,dd⟩:=Rt I.hok e;have hz:vs.length<=sizeLine:=by rw [<-rel.length]; exact z
  have hl:(Bj kvs k v).length<=sizeLine:=by have:=CD kvs k v; lia
  refine wpAny_setItem_pairs (hsz:=hz) (G8 ry) dd fun h' LU hs=>h _ ?_
  have he:∃ q,h'.get? a=some q:=let ⟨q,_,_,hq,_⟩:=LU; ⟨q,hq⟩;exact FQ I (by rw [e]; exact True.intro) hs he (K3 hl hd (rel.put k rv) LU)
 ·subst ey eH;cases (show u=Value.ref b from ry)
  obtain ⟨z,hd,xs,rel,dd⟩:=T6 I.hok e;have hz:xs.length<=sizeLine:=by rw [<-Paired.length rel]; exact z
  have hl:(Bj kvs k v).length<=sizeLine:=by have:=CD kvs k v; lia
  refine wpAny_setItem_heap (hsz:=hz) (tupleKind_room_in1 hu) (Fm I.hok eb) dd fun h' LU hs=>h _ ?_
  obtain ⟨q,es,ep,hq,h2,h3,h4,_,h5⟩:=LU;refine FQ I (by rw [e]; exact True.intro) hs ⟨q,hq⟩ ⟨hl,hd,_,(rel.put k eb rv).keeps fun c ys ec=>?_,q,es,ep,hq,h2,h3,h4,h5⟩;rw [Af (BI ec e (fun z=>nomatch z))];exact ec
end
section
variable {X:Cx} {pins:List (Addr × Obj)} {σ:St} {H:Hp} {s:Shared} {a:Addr} {kvs:List (A6 × V)} {k:A6} {u:Value} {A:Around} {E:Value->Shared->Prop}
theorem Pj {Q:Unit->Shared->Prop} (I:Ao X pins σ H s) (e:H a=some (.dK kvs)) (ry:A1 (kV k) u) (l:(Bq kvs k).isSome=true) (h:∀ s',Ao X pins σ (upd H a (.dK (Iv kvs k))) s'->Q () s') :
  wpAny (model X.prog X.w) A (delItem (.ref a) u) Q E s:=by
 obtain ⟨z,hd,vs,rel,dd⟩:=Rt I.hok e;refine wpAny_delItem_slot dd.typeIs (by decide) PySem.F.slot_dict_delitem
  (call_meetsIn PySem.F.slot_dict_delitem dd.typeIs PySem.F.entry_dict_delitem (PySem.F.args_dict_delitem_2 _ _) (meets_dict_delitem_pairs (AK X.prog X.w) a (G8 ry)) ⟨vs,dd,by rw [<-rel.length]; exact z,by rw [<-(rel.val k).isSome_eq]; exact l,fun h' LU hs=>h _ ?_⟩)
 have he:∃ q,h'.get? a=some q:=let ⟨q,_,_,hq,_⟩:=LU; ⟨q,hq⟩;exact FQ I (by rw [e]; exact True.intro) hs he (K3 (Yv (Rr kvs k) z) hd (rel.drop k) LU)
end
def NoSl (i:Expr):Prop:=∀ ov iv,subscripted i false ov iv=operate [ov,iv] (getItem ov iv)
theorem RT {prog:Program} {w:World} {A:Around} {E:Value->Shared->Prop} {s:Shared} {env:Env} {value slice:Expr} {pos:Pos} {T id:String} {Q:Value->Shared->Prop}
  (hl:typeLookup (.type T) "__getitem__"=pure (some (.builtin id))) (hs:NoSl slice)
  (h:wpAny (model prog w) A (eval value env) (fun o AI=>wpAny (model prog w) A (eval slice env) (fun i Em=>Em.TypeIs o T/\wpAny (model prog w) A (getItem o i) Q E Em) E AI) E s) :
  wpAny (model prog w) A (eval (.Subscript value slice pos) env) Q E s:=by
 refine Subscript_ (wpAny_mono h (fun o AI h₁=>wpAny_mono h₁ (fun i Em Mx=>?_) fun _ _ x=>x) fun _ _ x=>x);obtain ⟨hT,Mx⟩:=Mx;unfold subscriptTail;refine wpAny_bind ?_;rw [getitemInPython_of_ne hT.not_modules];refine wpAny_bind (wpAny_specialOf hT hl ?_);have fin:wpAny (model prog w) A (subscripted slice false o i) (fun r BN=>wpAny (model prog w) A (letTemporaryGo value o r >>= fun _=>pure r) Q E BN) E Em:=by
  rw [hs o i];exact wpAny_operating (wpAny_mono Mx (fun r BN Mw=>wpAny_bind (wpAny_letTemporaryGo (wpAny_pure Mw))) fun _ _ x=>x)
 first
  | exact wpAny_pure (wpAny_bind fin)
  | exact wpAny_bind (wpAny_pure (wpAny_bind fin))
  | exact wpAny_bind fin
theorem LF {X:Cx} {pins:List (Addr × Obj)} {σ:St} {H:Hp} {s:Shared} {a:Addr} {y:V} {o:Option V} (I:Ao X pins σ H s) (g:BM H a y o):s.TypeIs (.ref a) "dict":=by
 rcases g with ⟨kvs,k,e,_,_⟩ | ⟨kvs,k,b,e,_,_,_⟩
 ·obtain ⟨_,_,vs,_,dd⟩:=Iw I.hok e;exact dd.typeIs
 ·obtain ⟨_,_,xs,_,dd⟩:=Iu I.hok e;exact dd.typeIs
def tDGet (td ty:TE):TE:=fun σ H Q=>td σ H fun x H1=>ty σ H1 fun y H2=>∃ a v,x=.ref a/\BM H2 a y (some v)/\Q v H2
def tDIn (ty td:TE):TE:=fun σ H Q=>ty σ H fun y H1=>td σ H1 fun x H2=>∃ a o,x=.ref a/\BM H2 a y o/\Q (.bl o.isSome) H2
def RR (ty td:TE):TE:=fun σ H Q=>ty σ H fun y H1=>td σ H1 fun x H2=>∃ a o,x=.ref a/\BM H2 a y o/\Q (.bl (!o.isSome)) H2
def sDPut (td ty tv:TE):TS:=fun D σ H=>tv σ H fun v H1=>td σ H1 fun x H2=>ty σ H2 fun y H3=>∃ a H4,x=.ref a/\ET H3 a y v H4/\D.nx σ H4
def sDDel (td ty:TE):TS:=fun D σ H=>td σ H fun x H1=>ty σ H1 fun y H2=>∃ a kvs k,x=.ref a/\H2 a=some (.dK kvs)/\y=kV k/\(Bq kvs k).isSome=true/\D.nx σ (upd H2 a (.dK (Iv kvs k)))
section
variable {X:Cx} {o i e value:Expr} {pos pos' tpos:Pos} {td ty tv:TE}
theorem AJ (hu:X.A.units + 1 < cLine) (ho:PE X o td) (hi:PE X i ty) (hs:NoSl i):PE X (.Subscript o i pos) (tDGet td ty):=by
 intro pins s σ H Q I h;refine RT PySem.F.slot_dict_getitem.lookup hs (Bo (ho (pins:=pins) s σ H _ I h) fun u s1 ⟨x,H1,I1,rx,q1⟩=>Bo (hi (pins:=pins) s1 σ H1 _ I1 q1) fun iv s2 ⟨y,H2,I2,ry,a,v,ex,g,q2⟩=>?_);subst ex;obtain rfl:u=Value.ref a:=rx;exact ⟨LF I2 g,Ph hu I2 g ry fun w' s3 I3 Ou=>⟨v,H2,I3,Ou,q2⟩⟩
theorem Ur (hu:X.A.units + 1 < cLine) (hi:PE X i ty) (ho:PE X o td):PC X .In i o (tDIn ty td):=by
 intro pins s σ H Q I h;refine Bo (hi (pins:=pins) s σ H _ I h) fun iv s1 ⟨y,H1,I1,ry,q1⟩=>Bo (ho (pins:=pins) s1 σ H1 _ I1 q1) fun u s2 ⟨x,H2,I2,rx,a,ov,ex,g,q2⟩=>?_
 subst ex;obtain rfl:u=Value.ref a:=rx;exact d_in hu I2 g ry fun s3 I3=>⟨.bl ov.isSome,H2,I3,rfl,q2⟩
theorem J2 (hu:X.A.units + 1 < cLine) (hi:PE X i ty) (ho:PE X o td):PC X .NotIn i o (RR ty td):=by
 intro pins s σ H Q I h;refine Bo (hi (pins:=pins) s σ H _ I h) fun iv s1 ⟨y,H1,I1,ry,q1⟩=>Bo (ho (pins:=pins) s1 σ H1 _ I1 q1) fun u s2 ⟨x,H2,I2,rx,a,ov,ex,g,q2⟩=>?_
 subst ex;obtain rfl:u=Value.ref a:=rx;exact SM hu I2 g ry fun s3 I3=>⟨.bl (!ov.isSome),H2,I3,rfl,q2⟩
theorem CS (hu:X.A.units + 1 < cLine) (ho:PE X o td) (hi:PE X i ty) (hv:PE X value tv) (hs:swapsWith value (some (.Subscript o i pos')) pos.line X.env=pure false) :
  PS X (.Assign [.Subscript o i pos'] value pos) (sDPut td ty tv):=by
 intro pins s σ H D I h;refine wpAny_Assign_Subscript (Bo (hv (pins:=pins) s σ H _ I h) fun r s1 ⟨v,H1,I1,rv,q1⟩=>Bo (ho (pins:=pins) s1 σ H1 _ I1 q1) fun u s2 ⟨x,H2,I2,rx,q2⟩=>Bo (hi (pins:=pins) s2 σ H2 _ I2 q2) fun iv s3 ⟨y,H3,I3,ry,a,H4,ex,g,q3⟩=>?_) hs;subst ex;obtain rfl:u=Value.ref a:=rx;exact Pg hu I3 g ry rv fun s4 I4=>⟨σ,H4,I4,q3⟩
theorem Sf (ho:PE X o td) (hi:PE X i ty):PS X (.Delete [.Subscript o i tpos] pos) (sDDel td ty):=by
 intro pins s σ H D I h;refine wpAny_Delete (wpAny_deleteEach_cons (wpAny_delete_Subscript (Bo (ho (pins:=pins) s σ H _ I h) fun u s1 ⟨x,H1,I1,rx,q1⟩=>Bo (hi (pins:=pins) s1 σ H1 _ I1 q1) fun iv s2 ⟨y,H2,I2,ry,a,kvs,k,ex,e,ey,l,q2⟩=>?_)));subst ex ey;obtain rfl:u=Value.ref a:=rx;exact Pj I2 e ry l fun s3 I3=>wpAny_deleteEach_nil ⟨σ,_,I3,q2⟩
end
theorem Iy {P:Program} {w:World} {H:Hp} (h:Heap) (hb:sysModules < h.objs.size):A4 P w H (h.push { cls:=.type "dict",data:=.dict #[] }) h.objs.size (.dK []):=
 ⟨Y9 _,beq_eq_false_iff_ne.mpr (Ne.symm (Yh hb)),[],.nil,Heap.DictOf.new h⟩
theorem LD {P:Program} {w:World} {H:Hp} (h:Heap) (hb:sysModules < h.objs.size):A4 P w H (h.push { cls:=.type "dict",data:=.dict #[] }) h.objs.size (.dT []):=
 ⟨Y9 _,beq_eq_false_iff_ne.mpr (Ne.symm (Yh hb)),[],.nil,_,#[],0,Yf _ rfl,⟨rfl,rfl,rfl⟩,rfl,rfl,Zy⟩
def TX:TE:=fun _ H Q=>∀ p,H p=none->Q (.ref p) (upd H p (.dK []))
def TV:TE:=fun _ H Q=>∀ p,H p=none->Q (.ref p) (upd H p (.dT []))
section
variable {X:Cx} {pos:Pos}
theorem Lj:PE X (.Dict [] [] pos) TX:=fun pins s σ H Q I h=>
 wpAny_Dict_empty ⟨.ref s.heap.objs.size,_,I.laid (a:=s.heap.objs.size) (o:=.dK []) (t':=s.toks) (fun _ _ q=>XQ _ q) (Ya _) (Iy s.heap I.big),rfl,h _ (I.hok.fresh (Ya _))⟩
theorem Li:PE X (.Dict [] [] pos) TV:=fun pins s σ H Q I h=>
 wpAny_Dict_empty ⟨.ref s.heap.objs.size,_,I.laid (a:=s.heap.objs.size) (o:=.dT []) (t':=s.toks) (fun _ _ q=>XQ _ q) (Ya _) (LD s.heap I.big),rfl,h _ (I.hok.fresh (Ya _))⟩
end
def HZ (kvs more:List (A6 × V)):List (A6 × V):=more.foldl (fun acc kv=>Bj acc kv.1 kv.2) kvs
structure M2 (X:Cx) (o:Expr) (m:Str) (apos:Pos) (e f:Expr) (E6:Pos):Prop where
 base:attributeBase o m X.env (eval o X.env)=eval o X.env
 few:((backTo E6 (starEach [e,f] X.env)).all (fun x=>!x.1) && (backToKw E6 (keywordEach [] X.env)).all (fun x=>x.1.isSome)
  && decide (([e,f]:List Expr).length + ([]:List Keyword).length + (if ([]:List Keyword).isEmpty then 0 else 1) < 30))=true
 line:(apos.endLine == E6.line)=true
 trees:backTo E6 (starEach [e,f] X.env)=[(false,eval e X.env),(false,eval f X.env)]
def IsD (H:Hp) (a:Addr):Prop:=(∃ kvs,Rd H a (.dK kvs))\/∃ kvs,Rd H a (.dT kvs)
theorem U3 {X:Cx} {pins:List (Addr × Obj)} {σ:St} {H:Hp} {s:Shared} {a:Addr} (I:Ao X pins σ H s) (d:IsD H a) :
  s.TypeIs (.ref a) "dict"/\(∀ b,Value.ref a=.ref b->∃ ob,s.heap.get? b=some ob/\ob.dict=none)/\(a == sysModules)=false:=by
 rcases d with ⟨kvs,e⟩ | ⟨kvs,e⟩
 ·obtain ⟨_,hd,vs,_,dd⟩:=Iw I.hok e;refine ⟨dd.typeIs,fun b q=>?_,hd⟩;cases q
  obtain ⟨ob,_,_,h1,h2,_⟩:=dd;exact ⟨ob,h1,h2.2.1⟩
 ·obtain ⟨_,hd,xs,_,dd⟩:=Iu I.hok e;refine ⟨dd.typeIs,fun b q=>?_,hd⟩;cases q
  obtain ⟨ob,_,_,h1,h2,_⟩:=dd;exact ⟨ob,h1,h2.2.1⟩
section
variable {X:Cx} {pins:List (Addr × Obj)} {σ:St} {H:Hp} {s:Shared} {a:Addr} {y d:V} {u r:Value} {o:Option V} {A:Around} {E:Value->Shared->Prop}
theorem UE {Q:Value->Shared->Prop} (hu:A.units + 1 < cLine) (I:Ao X pins σ H s) (g:BM H a y o) (ry:A1 y u) (rd:A1 d r) (h:∀ w' s',Ao X pins σ H s'->A1 (o.getD d) w'->Q w' s') :
  wpAny (model X.prog X.w) A (call (.builtin "dict.get") [.ref a,u,r]) Q E s:=by
 rcases g with ⟨kvs,k,e,ey,l⟩ | ⟨kvs,k,b,e,ey,eb,l⟩
 ·subst ey;obtain ⟨z,hd,vs,rel,dd⟩:=Iw I.hok e;refine call_meetsIn PySem.F.slot_dict_get dd.typeIs PySem.F.entry_dict_get (PySem.F.args_dict_get_3 _ _ _) (meets_dict_get_default (AK X.prog X.w) a (G8 ry) hd r) ⟨_,dd.mapOf,h _ _ (I.tok _) ?_⟩;rw [l];exact (rel.val k).getD rd
 ·subst ey;cases (show u=Value.ref b from ry)
  obtain ⟨z,hd,xs,rel,dd⟩:=Iu I.hok e;refine call_meetsIn PySem.F.slot_dict_get dd.typeIs PySem.F.entry_dict_get (PySem.F.args_dict_get_3 _ _ _) (meetsH_dict_get_default (tupleKind (AK X.prog X.w)) a b hd r) ⟨tupleKind_room_in1 hu,k,xs,Fm I.hok eb,dd,h _ _ (I.tok _) ?_⟩;rw [l];exact (rel.val k).getD rd
end
def TY (td ty tx:TE):TE:=fun σ H Q=>td σ H fun x H1=>∃ a,x=.ref a/\IsD H1 a/\ty σ H1 fun y H2=>tx σ H2 fun z H3=>∃ o,BM H3 a y o/\Q (o.getD z) H3
section
variable {X:Cx} {o e f:Expr} {apos E6:Pos} {td ty tx:TE}
theorem QE (hu:X.A.units + 1 < cLine) (ho:PE X o td) (he:PE X e ty) (hf:PE X f tx) (m:M2 X o "get" apos e f E6):PE X (.Call (.Attribute o "get" apos) [e,f] [] E6) (TY td ty tx):=by
 intro pins s σ H Q I h;refine wpAny_Call_method m.base m.few m.line PySem.F.plainAttrs_dict PySem.F.slot_dict_get PySem.F.type_dict_get (Bo (ho (pins:=pins) s σ H _ I h) fun u s1 ⟨x,H1,I1,rx,a,ex,d,q1⟩=>?_);subst ex;obtain rfl:u=Value.ref a:=rx;obtain ⟨t1,t2,_⟩:=U3 I1 d;refine ⟨t1,t2,?_⟩;rw [m.trees];refine Calls.callWith_builtin rfl (Calls.evalArgs_plain (Calls.spliced_cons (Bo (he (pins:=pins) s1 σ H1 _ I1 q1) fun iv s2 ⟨y,H2,I2,ry,q2⟩=>
  Calls.spliced_cons (Bo (hf (pins:=pins) s2 σ H2 _ I2 q2) fun fv s3 ⟨z,H3,I3,rz,ov,g,q3⟩=>Calls.spliced_nil ?_))))
 exact UE hu I3 g ry rz fun w' s4 I4 Ou=>⟨_,H3,I4,Ou,q3⟩
end
section
variable {X:Cx} {pins:List (Addr × Obj)} {σ:St} {H:Hp} {s:Shared} {a:Addr} {kvs:List (A6 × V)} {A:Around} {E:Value->Shared->Prop}
end
section
variable {X:Cx} {pins:List (Addr × Obj)} {σ:St} {H:Hp} {s:Shared} {a:Addr} {y:V} {u:Value} {A:Around} {E:Value->Shared->Prop}
end
end L2
namespace Att
open PySem PySem.W PySem.Calls PyProof.Rows
theorem GQ {P:Params} {h:Heap}:∀ (ns:List Int) (vs:List Value),WellAll P h vs (ns.map WData.int)->IntsAre vs ns:=by
 intro ns;induction ns with
 | nil=>
  intro vs w;rw [cu] at w;cases w
  exact .nil
 | cons n ns ih=>
  intro vs w;rw [Ym] at w;cases w with
  | cons a b=>
   cases a
   exact .cons _ _ (ih _ b)
theorem Ot {l:OpenLaw} {n:Nat} (hn:l.most=some n) {P:Params} {h:Heap} {args:List WData} {vals:List Value}
  (hpre:l.row.toRowW.claim.pre args=true) (hwl:WellAll P h vals args) :
  ∃ a vs ns,vals=[Value.ref a]/\args=[WData.list (ns.map WData.int)]/\h.get? a=some { cls:=.type "list",data:=.seq vs.toArray }/\IntsAre vs ns/\ns.length<=n:=by
 have hsh:WShape.hasAll [] args [.list .int]=true:=(pre_splitW hpre).1;have hc:l.pre.holds [] { args:=args } = true:=(pre_splitW hpre).2;obtain ⟨d,r,rfl,h1,h2⟩:=hasAllW_cons hsh;obtain rfl:=hasAllW_nil h2;obtain ⟨xs,rfl,h3⟩:=hasW_list h1;obtain ⟨ns,rfl⟩:=items_int h3;have hlen:ns.length<=n:=by
  unfold OpenLaw.pre at hc;have h4:(WTm.not (.lt (.lit (.int (n:Int))) (.len (.arg 0)))).holds [] { args:=[.list (ns.map .int)] } = true:=by
   have h4:=(holds_andW hc).1;rw [hn] at h4;exact h4
  have h5:=condW_of h4 (w_not (w_lt w_lit (w_len_list (w_arg rfl))));rw [XJ] at h5;refine Nat.le_of_not_lt fun q=>?_
  have q':(n:Int) < ((ns.length:Nat):Int):=by lia
  first
   | (rw [decide_eq_true q'] at h5; exact absurd h5 (by decide))
   | (simp at h5; lia)
 cases hwl with
 | cons w1 w2=>
  cases w2
  cases w1 with
  | list ho hall=>exact ⟨_,_,ns,rfl,rfl,ho,GQ ns _ hall,hlen⟩
theorem O2 (l:OpenLaw) (args:List WData):l.row.toRowW.claim.post args (.bool true) args=true:=
 postW_of (r:=l.row.toRowW) (X:=(true == true))
  (show WShape.has [] (.bool true) .bool=true by first | rfl | decide | simp [WShape.has,WShape.arms,WShape.armsAll])
  (show (WTm.eq .res (.lit (.bool true))).value [] { args:=args,res:=some (.bool true),after:=args } = some (.bool (true == true)) from w_eq_bool (w_res rfl) w_lit) rfl
theorem attach_call {l:OpenLaw} {n:Nat} {q:Program} {loose:List Str} {XP:(Str->Option Value)->Heap->Prop} {YP:World->Heap->Prop} {d:DefRec}
  (hn:l.most=some n) (hdf:d.params.defaults=[])
  (call:∀ (w:World) (s₀ AI:Shared) (mg mb:Str->Option Value) (fa:Addr) (o:Obj) (pm cd doc:Value) (a:Addr) (vs:List Value) (ns:List Int),
   Ground q loose [] XP w s₀ mg mb AI.heap->YP w AI.heap ->
   AI.heap.get? fa=some o->o.data=.func (docDef d.name d.params d.body d.scope pm cd doc)->AI.heap.CodeRec cd d.name->mg d.name=some (.ref fa) ->
   AI.heap.get? a=some { cls:=.type "list",data:=.seq vs.toArray }->IntsAre vs ns->ns.length<=n->AI.gens=#[] ->
   codeAny (model l.prog w) callerA (.call (.ref fa) ⟨[.ref a],[]⟩) (fun r s'=>r=.ok (.ret (.bool true))/\OldK AI.heap s'.heap/\s'.os=AI.os/\AllBare s'.gens) AI) :
  WalkO q loose XP YP l.row.toRowW d [] (fun f vs=>PySem.call f vs):=by
 intro w s₀ AI mg mb G Y fa o pm cd doc dV kV ho hd hcd hD hmg hg args vals as hpre hlay hrd hwl hlo;obtain rfl:dV=.none:=Dflts.none hD hdf;obtain rfl:kV=.none:=Dflts.noKw hD;obtain ⟨a,vs,ns,rfl,rfl,hobj,hints,hlen⟩:=Ot hn hpre hwl;refine enter_call (codeAny_mono (call w s₀ AI mg mb fa o pm cd doc a vs ns G Y ho (fd_plain hd) hcd hmg hobj hints hlen hg) fun r s' hq=>?_);obtain ⟨rfl,h2,h3,h4⟩:=hq;exact ⟨.inl ⟨.bool true,.bool true,[],rfl,fun _=>rfl,.bool true,O2 l _,fun _=>⟨List.Pairwise.nil,fun _ hm=>(nomatch hm)⟩⟩,h2,h3,h4⟩
section
variable {prog:Program} {w:World} {A:Around} {E:Value->Shared->Prop} {s:Shared} {K:Frag}
end
end Att
namespace L2
open PySem PySem.Spec PyProof.Rows
theorem Jo:∀ {vs:List Value} {ns:List Int},IntsAre vs ns->Az (ns.map V.int) vs
 | _,_,.nil=>.nil
 | _,_,.cons n t h=>.cons ⟨t,rfl⟩ (Jo h)
def SW (H:Hp):Prop:=∀ b,H b=none\/∃ o xs,H b=some (.frz o (.lst xs))
theorem QT {P:Program} {w:World} {K:XU} {mg mb:Str->Option Value} {CX:R8} {k:Nat} {fa a:Addr} {fd:FuncData} {x:Str} {sp:Sp} {AI:Shared} {vs:List Value} {ns:List Int}
  (KX:K.In AI.heap) (hns:AI.heap.Ns mainGlobals mg) (hb:AI.heap.Ns builtinsNs mb) (hbb:∀ x:Str,x ≠ "__name__"->mb x=bootBuiltins x) (hlim:AI.heap.NoLimit) (hg:AI.gens=#[])
  (ha:AI.heap.get? a=some { cls:=.type "list",data:=.seq vs.toArray }) (hi:IntsAre vs ns) (hl:ns.length<=sizeLine) (hr:Eb k callerA)
  (F:∀ base:Heap,K.In base->base.Ns mainGlobals mg->A7 P w K mg base CX k fa fd [x] sp) (hbind:∀ (s:Shared) (u:Value),BindsTo s fd ⟨[u],[]⟩ [(x,u)])
  (hsp:∀ H:Hp,SW H->AM K H a (ns.map V.int)->sp [.ref a] H (fun v _=>v=.bl true) fun _ _ _=>False)
  (hCX:∀ H e s',CX [] H AI (fun _ _ _=>False) e s'->False) :
  codeAny (model P w) callerA (.call (.ref fa) ⟨[.ref a],[]⟩) (fun r s'=>r=.ok (.ret (.bool true))/\OldK AI.heap s'.heap/\s'.os=AI.os/\AllBare s'.gens) AI:=by
 have rv:=Jo hi;have lenV:=hi.length;have core:∀ H:Hp,SW H->AM K H a (ns.map V.int)->Fu P w H AI.heap->(∀ b,H b ≠ none->b=a)->(H a ≠ none->K.lookup a=none) ->
   codeAny (model P w) callerA (.call (.ref fa) ⟨[.ref a],[]⟩) (fun r s'=>r=.ok (.ret (.bool true))/\OldK AI.heap s'.heap/\s'.os=AI.os/\AllBare s'.gens) AI:=by
  intro H hO hS hok hA hK;have base_of:∀ {b:Addr} {o:Obj},AI.heap.get? b=some o->H b=none->(Kz AI.heap H).get? b=some o:=fun e n=>Rf e n
  have noA:∀ {b:Addr} {o:Obj} {es:Array DictEntry} {ep:Nat},AI.heap.get? b=some o->o.data=.dict es ep->H b=none:=fun {b o es ep} e d=>by
   cases q:H b with
   | none=>rfl
   | some u=>
    have e':b=a:=hA b (by rw [q]; simp);subst e';rw [ha] at e; cases e;have d':Data.seq vs.toArray _=Data.dict es ep:=d;cases d'
  have nsK:∀ {b:Addr} {m:Str->Option Value},AI.heap.Ns b m->(Kz AI.heap H).Ns b m:=fun {b m} ⟨o,es,ep,e,d,r⟩=>⟨o,es,ep,base_of e (noA e d),d,r⟩
  have hKb:K.In (Kz AI.heap H):=fun b o e=>base_of (KX b o e) (by
   cases q:H b with
   | none=>rfl
   | some u=>
    have e':b=a:=hA b (by rw [q]; simp);subst e';rw [hK (by rw [q]; simp)] at e; cases e)
  have hM:Mod K mg (Kz AI.heap H):=⟨hKb,nsK hns,⟨mb,nsK hb,hbb⟩,let ⟨mc,h1,h2⟩:=hlim; ⟨mc,nsK h1,h2⟩⟩
  have e0:Tc P w K mg (Kz AI.heap H) callerA [] AI H:=⟨rfl,hM,fun b o e=>So e,Nat.le_of_eq (OS _ _),trivial,fun b hb=>absurd (show b ∈ ([]:List Addr) from hb) (by simp),hok,.of_eq hg⟩
  refine codeAny_mono ((F _ hKb (nsK hns)).run callerA [] AI H ⟨[.ref a],[]⟩ [.ref a] [.ref a] _ _ hr e0 (hbind AI (.ref a)) (.cons rfl .nil) (hsp H hO hS)) fun r s' h=>?_
  cases r with
  | error e=>exact (hCX H e s' h).elim
  | ok fl=>
   cases fl with
   | next=>exact False.elim h
   | brk=>exact False.elim h
   | cont=>exact False.elim h
   | ret u=>
    obtain ⟨v,H',os,bare,un,Xj,r',q⟩:=h;have q':v=.bl true:=q;subst q';obtain rfl:u=Value.bool true:=r';refine ⟨rfl,OldK.of_keep fun b o e=>?_,os,bare⟩;cases q:H b with
    | none=>exact un.keep b o e q (by intro z; exact absurd (show b ∈ ([]:List Addr) from z) (by simp)) (by simp)
    | some u=>
     rcases hO b with z | ⟨ob,xs,z⟩
     ·rw [q] at z; cases z
     ·have z2:=un.frzs b ob _ z;obtain ⟨e1,_⟩:=hok b _ z;obtain ⟨e2,_⟩:=Xj b _ z2;rw [e] at e1; cases e1;exact e2
 cases hk:K.lookup a with
 | some o=>
  have e:=KX a o hk;rw [ha] at e;cases e
  refine core (fun _=>none) (fun _=>.inl rfl) (.inr ⟨_,vs.toArray,_,hk,rfl,rfl,rfl,by rw [Yp,lenV]; exact hl,by simpa using rv⟩) (fun b u z=>by have z':(none:Option HO)=some u:=z; cases z') (fun b z=>absurd rfl z) fun z=>absurd rfl z
 | none=>
  refine core (fun b=>if b=a then some (.frz { cls:=.type "list",data:=.seq vs.toArray } (.lst (ns.map V.int))) else none) (fun b=>?_) (.inl (.inr ⟨{ cls:=.type "list",data:=.seq vs.toArray },if_pos rfl⟩)) (fun b u z=>?_) (fun b z=>?_) fun _=>hk
  ·by_cases hb:b=a
   ·exact .inr ⟨_,_,if_pos hb⟩
   ·exact .inl (if_neg hb)
  ·by_cases hb:b=a
   ·have z':=(if_pos hb).symm.trans z;cases z'
    subst hb;exact ⟨ha,by rw [XJ]; exact hl,vs,_,rv,ha⟩
   ·have z':=(if_neg hb).symm.trans z;cases z'
  ·by_cases hb:b=a
   ·exact hb
   ·exact absurd (if_neg hb) z
theorem walk_of {l:aw} {n k:Nat} {q:Program} {loose:List Str} {XP:(Str->Option Value)->Heap->Prop} {YP:World->Heap->Prop} {d:DefRec} {K:Params->XU} {CX:World->R8} {sp:World->Sp} {x:Str}
  (hn:l.most=some n) (Xl:n<=sizeLine) (hdf:d.params.defaults=[]) (hr:Eb k callerA)
  (hY:∀ (w:World) (h:Heap),YP w h->(K w.params).In h)
  (F:∀ (w:World) (mg:Str->Option Value) (fa:Addr) (h:Heap),(K w.params).In h->h.Ns mainGlobals mg->mg d.name=some (.ref fa) ->
   ∃ fd:FuncData,(∀ (s:Shared) (u:Value),BindsTo s fd ⟨[u],[]⟩ [(x,u)]) /\
    ∀ base:Heap,(K w.params).In base->base.Ns mainGlobals mg->A7 l.prog w (K w.params) mg base (CX w) k fa fd [x] (sp w))
  (hsp:∀ (w:World) (H:Hp) (a:Addr) (ns:List Int),ns.length<=n->SW H->AM (K w.params) H a (ns.map V.int)->sp w [.ref a] H (fun v _=>v=.bl true) fun _ _ _=>False)
  (hCX:∀ (w:World) (H:Hp) (s:Shared) (e:Value) (s':Shared),CX w [] H s (fun _ _ _=>False) e s'->False) :
  bM q loose XP YP l.row.toRowW d [] (fun f vs=>PySem.call f vs):=by
 refine Att.attach_call hn hdf fun w s₀ AI mg mb fa o pm cd doc a vs ns G Y ho hd hcd hmg hobj hints hlen hg=>?_
 have KX:=hY w _ Y;obtain ⟨fd,hb,hF⟩:=F w mg fa _ KX G.T.g hmg;exact QT KX G.T.g G.T.b G.T.builtins G.T.nolimit hg hobj hints (Yv hlen Xl) hr hF hb (fun H hO hS=>hsp w H a ns hlen hO hS) fun H e s'=>hCX w H AI e s'
def DY (s:Stmt):Arguments:=match s with
 | .FunctionDef _ a _ _ _ _ _ _ _ _=>a
 | _=>{ posonlyargs:=[],args:=[],vararg:=none,kwonlyargs:=[],kw_defaults:=[],kwarg:=none,defaults:=[] }
def Ca (s:Stmt):List Stmt:=match s with
 | .FunctionDef _ _ b _ _ _ _ _ _ _=>b
 | _=>[]
def Am (s:Stmt):Scope:=match s with
 | .FunctionDef _ _ _ _ _ _ sc _ _ _=>sc
 | _=>{ kind:=.function,names:=[],isGenerator:=false,isCoroutine:=false }
abbrev B9:R8:=fun _ _ _ _ _ _=>False
abbrev E0:XK:=fun _ _ _=>False
theorem As {X:Cx}:MG B9 X E0:=fun _ _ _ _ _ _ _ h=>h.elim
structure Ek (K:XU) (x qual:Str) (st:Stmt) (f:Addr) (fd:FuncData):Prop where
 ex:∃ (oc:Value) (od:Option Addr) (kV doc pm:Value) (an:Option Addr) (cdv ct:Value) (osl:Array (Option Value)),
  fd=Zf x qual (DY st) (Ca st) (Am st) .none kV doc pm an cdv ct/\K.lookup f=some ⟨oc,od,.func fd,osl⟩/\ZT K cdv qual=true
 kp:ZS K (.ref f)=true
section
variable {P:Program} {w:World} {K:XU} {mg:Str->Option Value} {base:Heap}
theorem Ek.ok {x qual:Str} {st:Stmt} {f:Addr} {fd:FuncData} {N ps:List Str} {k:Nat} {sp:Sp} (F:Ek K x qual st f fd) (S:A3 N ps (Am st)) (len:∀ vs H Q E,sp vs H Q E->vs.length=ps.length)
  (hbody:∀ (cdv:Value) (A:Around) (outer:List Env) (s:Shared) (H:Hp) (vs:List V) (Q:VK) (E:XK),Eb k (A.deeper (envOfC qual (Am st) s.heap.objs.size f cdv))->sp vs H Q E ->
   ∃ t,LP (Jc B9 P w K mg base N qual (Am st) f cdv A outer s H E).nox (Ca st) t/\t { nx:=fun _ H'=>Q .non H',rt:=Q } (start N vs) H):A7 P w K mg base B9 (k + 1) f fd ps sp:=by
 obtain ⟨oc,od,kV,doc,pm,an,cdv,ct,osl,rfl,lk,hcd⟩:=F.ex;refine fn_of lk hcd S len fun A outer s H vs Q E hr hsp=>?_
 obtain ⟨t,h,q⟩:=hbody cdv A outer s H vs Q E hr hsp;exact ⟨t,h.nox,q⟩
theorem Ek.binds {x qual:Str} {st:Stmt} {f:Addr} {fd:FuncData} {ps:List Str} (F:Ek K x qual st f fd)
  (h:∀ (kV doc pm:Value) (an:Option Addr) (cdv ct:Value) (us:List Value),us.length=ps.length->bindArgs (Zf x qual (DY st) (Ca st) (Am st) .none kV doc pm an cdv ct) ⟨us,[]⟩=pure (ps.zip us)):GI K fd ps []:=by
 obtain ⟨oc,od,kV,doc,pm,an,cdv,ct,osl,rfl,lk,hcd⟩:=F.ex;exact .all (h kV doc pm an cdv ct)
theorem U8 {x qual:Str} {st:Stmt} {f:Addr} {oc:Value} {od an:Option Addr} {osl:Array (Option Value)} {kV doc pm cdv ct:Value} (l:K.lookup f=some ⟨oc,od,.func (Zf x qual (DY st) (Ca st) (Am st) .none kV doc pm an cdv ct),osl⟩)
  (c:ZT K cdv qual=true) (k:ZS K (.ref f)=true):Ek K x qual st f (Zf x qual (DY st) (Ca st) (Am st) .none kV doc pm an cdv ct):=⟨⟨oc,od,kV,doc,pm,an,cdv,ct,osl,rfl,l,c⟩,k⟩
end
theorem DH {A:Around} {k:Nat} (hr:Eb k A):A.units + 1 < cLine:=Nat.lt_of_le_of_lt (Nat.add_le_add_left (by decide:1<=64) _) hr.units
section
variable {X:Cx}
theorem pv (i:Nat) {x:Str} {pos:Pos} (hN:X.N[i]? = some x:=by rfl) (hv:Vis X.env.scope x:=by first | exact Or.inl rfl | exact Or.inr (Or.inl rfl) | exact Or.inr (Or.inr rfl)) (hd:(x == ("__debug__":Str))=false:=by decide)
  (hcd:(x == ("__classdict__":Str))=false:=by decide):PE X (.Name x pos) (RP i):=Uq hN hv hd hcd
end
theorem L3 {A B:Prop} (h:B):if false=true then A else B:=by
 rw [if_neg Yl];exact h
theorem Ms {A B:Prop} (h:A):if true=true then A else B:=by
 rw [if_pos rfl];exact h
theorem Bz {c A B:Prop} [Decidable c] (h1:c->A) (h2:¬ c->B):if c then A else B:=by
 by_cases h:c
 ·rw [if_pos h];exact h1 h
 ·rw [if_neg h];exact h2 h
def Au (H H':Hp):Prop:=∀ b o,H b=some o->H' b=some o
theorem Au.refl (H:Hp):Au H H:=fun _ _ h=>h
theorem Au.trans {H H1 H2:Hp} (a:Au H H1) (b:Au H1 H2):Au H H2:=fun c o h=>b c o (a c o h)
theorem Au.free {H H':Hp} (e:Au H H') {l:Addr} (h:H' l=Z4):H l=Z4:=by
 cases q:H l with
 | none=>rfl
 | some o=>
  rw [e l o q] at h;cases h
section
variable {κ:Type} [DecidableEq κ]
theorem PK {kvs:List (κ × V)} {k:κ} (h:Bq kvs k=none):¬ k ∈ kvs.map (·.1):=by
 intro m;obtain ⟨p,hp,e⟩:=Yc.mp m;have q:(kvs.any fun kv=>decide (kv.1=k))=true:=Zp.mpr ⟨p,hp,decide_eq_true e⟩;rw [CA,h] at q;exact absurd q (by simp)
theorem RL {kvs:List (κ × V)} {k:κ} {v:V} (h:Bq kvs k=some v):k ∈ kvs.map (·.1):=by
 have q:(kvs.any fun kv=>decide (kv.1=k))=true:=by
  rw [CA,h];all_goals rfl
 obtain ⟨p,hp,e⟩:=Zp.mp q;exact Yc.mpr ⟨p,hp,of_decide_eq_true e⟩
end
abbrev An (X:Cx) (scope:Scope) (cl:List (Str × Addr)) (N:List Str) (s2:Shared) (H:Hp) (C:Addr) (fp:List Addr):Cx where
 prog:=X.prog
 w:=X.w
 K:=X.K
 mg:=X.mg
 base:=X.base
 A:=X.A
 N:=N
 s₀:=s2
 H₀:=H
 env:=compEnvC scope cl C X.env
 outer:=X.stack
 stack:=X.stack
 ex:=fp
 fn:=fun _=>false
 calm:=X.calm
 pn:=[]
 xe:=fun _ _=>False
structure A8 (X:Cx) (scope:Scope) (cl:List (Str × Addr)):Prop where
 clos:closureFor scope X.env=pure cl
 cell:∀ y ∈ scope.names,y.2 ≠ .cell
 kind:scope.kind=.function
 names:∀ y ∈ scope.names,y.2=.local->scope.names.lookup y.1=some .local
 sub:∀ x c,cl.lookup x=some c->X.env.cells.lookup x=some c
 has:∀ x,((relabel scope X.env).names.lookup x=some .cell\/(relabel scope X.env).names.lookup x=some .free)->∃ c,cl.lookup x=some c
def AR (X:Cx) (cl:List (Str × Addr)) (scope:Scope) (N:List Str) (σ Ay:St):Prop:=
 Ay.length=N.length/\∀ (i:Nat) (x:Str) (v:V),N[i]? = some x->Ay[i]? = some (some v) ->
  (∃ j:Nat,X.N[j]? = some x/\σ[j]? = some (some v))/\(X.env.kindOf x=some .cell\/X.env.kindOf x=some .free) /\
   ((relabel scope X.env).names.lookup x=some .cell\/(relabel scope X.env).names.lookup x=some .free)
theorem AR.none (X:Cx) (cl:List (Str × Addr)) (scope:Scope) (N:List Str) (σ:St):AR X cl scope N σ (N.map fun _=>Z4):=by
 refine ⟨by simp,fun i x v h1 h2=>?_⟩;rw [Yd,h1] at h2;cases h2
section
variable {X:Cx} {pins:List (Addr × Obj)} {σ Ay:St} {H H':Hp} {s2 s':Shared} {scope:Scope} {cl:List (Str × Addr)} {N:List Str} {fp:List Addr} {C D:Addr} {h₁ h':Heap} {t':Nat}
theorem I0 (I:Ao X pins σ H s2) (hf:∀ b ∈ fp,Ef X pins H b) (hfo:∀ b ∈ fp,∃ o,s2.heap.get? b=some o) (co:A8 X scope cl) (hσ:AR X cl scope N σ Ay)
  (k:∀ b o,s2.heap.get? b=some o->h₁.get? b=some o) (hD:s2.heap.objs.size<=D) (hC:s2.heap.objs.size<=C) (hDC:C ≠ D)
  (new:h₁.get? D=some { cls:=.type "list",data:=.seq ([]:List Value).toArray 0 }\/∃ n,h₁.get? D=some { cls:=.type "list",data:=.seq ([]:List Value).toArray n }) {m:Str->Option Value} (hn:h₁.Ns C m) :
  Ao (An X scope cl N s2 H C fp) [] Ay (upd H D (.lst [])) { s2 with heap:=h₁,toks:=t' }:=by
 have fD:H D=none:=I.hok.fresh hD;have fC:H C=none:=I.hok.fresh hC;have newO:A4 X.prog X.w (upd H D (.lst [])) h₁ D (.lst []):=by
  refine ⟨Y9 _,[],?_⟩;rcases new with e | ⟨n,e⟩
  ·exact ⟨0,.nil,e⟩
  ·exact ⟨n,.nil,e⟩
 have lts:∀ b ∈ fp,b < s2.heap.objs.size:=fun b hb=>let ⟨_,e⟩:=hfo b hb; Ye e
 have cells_lt:∀ x c,cl.lookup x=some c->c < s2.heap.objs.size:=fun x c e=>by
  obtain ⟨v,q⟩:=I.cell x c (co.sub x c e);exact q.lt
 have ok:Cx.Ok (An X scope cl N s2 H C fp):=by
  refine ⟨I.ok.mod,?_,I.ok.glob,I.ok.blt,hC,?_,?_,?_,I.ok.hd,I.ok.frames,.inl rfl,?_,I.bs,Yv I.ok.bsz I.sz,?_,?_,I.stack,I.stkFree⟩
  ·exact co.kind
  ·exact fun x y c e1 e2=>I.ok.inj x y c (co.sub x c e1) (co.sub y c e2)
  ·exact fun x h=>co.has x h
  ·exact fun x c h _=>by cases h
  ·intro b hb;refine ⟨fun e=>?_,fun x c e=>(hf b hb).2.2.2.2.1 x c (co.sub x c e)⟩;have z:=lts b hb;exact absurd (Yj z hC) (by rw [show b=C from e]; exact YI _)
  ·intro b o e hb;have Ez:b ∈ fp:=hb;rcases (hf b Ez).2.2.2.1 with z | z
   ·exact I.ok.noex b o e z
   ·exact absurd (Yj (Ye e) (Yv I.ok.bsz z)) (YI _)
  ·intro b hb hz;have Ez:b ∈ fp:=hb;obtain ⟨_,f1,f2,_⟩:=hf b Ez;rcases XX.mp (I.stkSub b hz) with e | e
   ·exact f1 e
   ·exact f2 e
 refine ⟨ok,rfl,I.bare,Un.laid k hD fD,?_,?_,?_,?_,?_,I.hok.laid k hD newO,hσ.1⟩
 ·refine ⟨m,hn,fun i x v e1 e2 _=>?_⟩;obtain ⟨⟨j,j1,j2⟩,kk,kr⟩:=hσ.2 i x v e1 e2;obtain ⟨mo,_,hl⟩:=I.loc;obtain ⟨u,r,l⟩:=hl j x v j1 j2 (by
   rcases kk with z | z
   ·exact .inr (.inl z)
   ·exact .inr (.inr z))
  refine ⟨u,r,.inr ⟨kr,?_⟩⟩;obtain ⟨c,hc⟩:=co.has x kr;rcases l with ⟨z,_⟩ | ⟨_,c',Hq,hcell⟩
  ·rcases kk with q | q
   ·rw [z] at q; cases q
   ·rw [z] at q; cases q
  ·have e3:=co.sub x c hc;rw [Hq] at e3;have e4:c'=c:=Yo.inj e3;subst e4;obtain ⟨o,ho,hd⟩:=hcell;exact ⟨c',hc,o,k _ o ho,hd⟩
 ·intro x c e;obtain ⟨v,o,ho,hd⟩:=I.cell x c (co.sub x c e);exact ⟨v,o,k _ o ho,hd⟩
 ·show upd H D (.lst []) C=none
  rw [Af hDC];exact fC
 ·intro x c e;rw [Af (Yh (Yj (cells_lt x c e) hD))];exact I.freeC x c (co.sub x c e)
 ·intro p hp;cases hp
theorem E8 {pl:List (Addr × Obj)} (I:Ao X pins σ H s2) (hf:∀ b ∈ fp,Ef X pins H b) (hC:s2.heap.objs.size<=C) (I2:Ao (An X scope cl N s2 H C fp) pl Ay H' s')
  (hs:Heap.SameBut C s'.heap h'):Ao X pins σ H' { s' with heap:=h' }:=by
 have nC:∀ b o,s2.heap.get? b=some o->b ≠ C:=fun b o e=>Yh (Yj (Ye e) hC)
 have u:=I2.base;refine I.call' (s':={ s' with heap:=h' }) (ch:=fp) I2.os ⟨?_,?_,u.free,?_,u.tups,u.frzs,u.tbls⟩ ?_ I2.bare fun b hb=>?_
 ·exact fun b o e n h1 h2=>(hs.2 b (nC b o e)).trans (u.keep b o e n h1 h2)
 ·intro b o e n h1 h2;obtain ⟨sl,q⟩:=u.slot b o e n h1 h2;exact ⟨sl,(hs.2 b (nC b o e)).trans q⟩
 ·intro b o e h2;obtain ⟨o',q⟩:=u.there b o e h2;exact ⟨o',(hs.2 b (nC b o e)).trans q⟩
 ·intro b ob e;have hfree:H' C=none:=I2.free;refine (I2.hok b ob e).stay (fun c w' hc q=>(hs.2 c ?_).trans q) (fun _ q=>q) fun _ _ q=>q
  rintro rfl;rcases hc with rfl | hc
  ·rw [hfree] at e; cases e
  ·rw [hfree] at hc; cases hc
 ·obtain ⟨_,f1,_,f3,f4,f5⟩:=hf b hb;exact ⟨f3,f1,f4,f5⟩
end
section
variable {prog:Program} {w:World} {A:Around} {R:Result->Shared->Prop} {s:Shared}
theorem BL {elt target iter:Expr} {ifs:List Expr} {scope:Scope} {pos:Pos} {it acc:Value} {env:Env} (I:Nat->Shared->Prop)
  (turn:∀ n s,I n s->wpAny (model prog w) A (pyNext it) (fun r AI=>match r with
   | none=>R (.ok .next) AI
   | some v=>wpAny (model prog w) A (letOwnedTupleGo target it v) (fun _ KJ=>wpAny (model prog w) A (assign target env v) (fun _ Em=>
     wpAny (model prog w) A (forIn ifs true fun c r=>if r=true then do let ok <- isTrue c env (eval c env); pure (ForInStep.yield ok) else pure (ForInStep.yield r)) (fun ok BN=>
      if ok=true then wpAny (model prog w) A (eval elt env) (fun x Qa=>
       wpAny (model prog w) A (call (.builtin "list.append") [acc,x]) (fun _ PZ=>∃ m,m < n/\I m PZ) (notedBy (model prog w) A env fun e s'=>R (.error e) s') Qa) (notedBy (model prog w) A env fun e s'=>R (.error e) s') BN
      else ∃ m,m < n/\I m BN) (notedBy (model prog w) A env fun e s'=>R (.error e) s') Em) (notedBy (model prog w) A env fun e s'=>R (.error e) s') KJ) (notedBy (model prog w) A env fun e s'=>R (.error e) s') AI) (notedBy (model prog w) A env fun e s'=>R (.error e) s') s)
  (n:Nat) (h:I n s) :
  codeAny (model prog w) A (.compLoop (.ListComp elt [⟨target,iter,ifs,0⟩] scope pos) 0 it acc env) R s:=by
 refine codeAny_loop rfl I (fun n s hI=>?_) n h;show wpAny _ A ((compTurn (.ListComp elt [⟨target,iter,ifs,0⟩] scope pos) 0 it acc env).onRaise (fun x=>do noteFrame x env; theTreesLotGoes x)) _ _ s
 refine wpAny_noted ?_;rw [compTurn_list];refine wpAny_bind (wpAny_standAt (wpAny_bind (wpAny_mono (turn n s hI) (fun r AI h₁=>?_) fun _ _ h'=>h')));cases r with
 | none=>exact wpAny_pure h₁
 | some v=>
  refine wpAny_bind (wpAny_mono h₁ (fun _ KJ QZ=>?_) fun _ _ h'=>h');refine wpAny_bind (wpAny_mono QZ (fun _ Em Mx=>wpAny_bind (wpAny_mono Mx (fun ok BN Mw=>?_) fun _ _ h'=>h')) fun _ _ h'=>h');cases ok with
  | false=>exact wpAny_pure ⟨rfl,Mw⟩
  | true=>
   exact wpAny_bind (wpAny_bind (wpAny_mono Mw (fun x Qa U6=>wpAny_bind (wpAny_mono U6 (fun _ PZ U5=>wpAny_pure (wpAny_pure ⟨rfl,U5⟩)) fun _ _ h'=>h')) fun _ _ h'=>h'))
end
def TC (X:Cx) (ifs:List Expr) (t:TT):Prop:=
 ∀ ⦃pins:List (Addr × Obj)⦄ (s:Shared) (σ:St) (H:Hp) (Q:Bool->Hp->Prop),Ao X pins σ H s->t σ H Q ->
  wpAny (model X.prog X.w) X.A (forIn ifs true fun c r=>if r=true then do let ok <- isTrue c X.env (eval c X.env); pure (ForInStep.yield ok) else pure (ForInStep.yield r)) (TP X pins σ Q) X.xe s
def KI:TT:=fun _ H Q=>Q true H
theorem AY {X:Cx}:TC X [] KI:=fun _ _ _ H _ I h=>wpAny_tests_nil ⟨H,I,h⟩
theorem EH {X:Cx} {c:Expr} {t:TT} (h:PT X c t):TC X [c] t:=fun pins s σ H Q I q=>wpAny_tests_one (h (pins:=pins) s σ H Q I q)
def MP (wi:TI) (g:TG) (tt:TT) (te:TE) (σ0:St->St):TE:=fun σ H Q=>wi σ H fun J H1=>∀ D,H1 D=none->∃ W:Nat->Nat->St->Hp->Prop,(∃ m,W 0 m (σ0 σ) (upd H1 D (.lst []))) /\
 ∀ i m Ay H',W i m Ay H'->(J.stop i H'/\Q (.ref D) H')\/(J.go i H'/\∀ x H2,J.yld i H' x H2->g x Ay H2 fun Ax H3=>tt Ax H3 fun b H4=>
  if b=true then te Ax H4 (fun v H5=>∃ acc,H5 D=some (.lst acc)/\acc.length < sizeLine/\∃ m',m' < m/\W (i + 1) m' Ax (upd H5 D (.lst (acc ++ [v])))) else ∃ m',m' < m/\W (i + 1) m' Ax H4)
theorem By {X:Cx} {tg iter elt:Expr} {ifs:List Expr} {scope:Scope} {cl:List (Str × Addr)} {N:List Str} {pos:Pos} {wi:TI} {g:TG} {tt:TT} {te:TE} {σ0:St->St} (hc:X.calm=true) (co:A8 X scope cl)
  (hσ:∀ σ,σ.length=X.N.length->AR X cl scope N σ (σ0 σ)) (hi:PI X tg iter wi)
  (hb:∀ s2 H C fp,PG (An X scope cl N s2 H C fp) tg g/\TC (An X scope cl N s2 H C fp) ifs tt/\PE (An X scope cl N s2 H C fp) elt te)
  (hs:∀ x,foldedSetIterable iter X.env x=pure x:=by intro _; rfl):PE X (.ListComp elt [⟨tg,iter,ifs,0⟩] scope pos) (MP wi g tt te σ0):=by
 intro pins s σ H Q I h;rw [eval_ListComp];refine wpAny_comprehension_free (use:=none) rfl hs co.clos co.kind co.names (wpAny_mono (hi (pins:=pins) s σ H _ I h) (fun xv s1 h1=>wpAny_mono h1 (fun itv s2 h2=>?_) fun _ _ e=>e) fun _ _ e=>e);obtain ⟨it,fp,tn,J,H2,rfl,I2,T,ER,f2,hW⟩:=h2;refine wpAny_newObj_type (wpAny_newFunctionEnv co.cell (by intro y hy; cases hy) (fun h₁ Bp Bb=>?_) co.kind);dsimp only at Bp Bb ⊢;generalize Il:s2.heap.push { cls:=.type "list",dict:=none,data:=.seq ([]:List Value).toArray } = HH at Bp Bb ⊢;have Bn:HH.objs.size=s2.heap.objs.size + 1:=by rw [<-Il,YE]
 have old:∀ b o,s2.heap.get? b=some o->h₁.get? b=some o:=fun b o e=>
  Bb.extBut b o (Yh (by rw [Bn]; exact Yy (Ye e))) (XQ _ (Il ▸ XQ _ e))
 have newD:∃ n,h₁.get? s2.heap.objs.size=some { cls:=.type "list",data:=.seq ([]:List Value).toArray n }:=
  ⟨_,Bb.extBut _ _ (Yh (by rw [Bn]; exact Y6 _)) (XQ _ (Il ▸ Yf _ rfl))⟩
 obtain ⟨W,⟨m0,w0⟩,turn⟩:=hW s2.heap.objs.size I2.fresh;have hfo:∀ b ∈ fp,∃ o,s2.heap.get? b=some o:=fun b hb=>let ⟨o,e,_⟩:=T.obj _ _ ER b hb; ⟨o,e⟩
 have I3:Ao (An X scope cl N s2 H2 HH.objs.size fp) [] (σ0 σ) (upd H2 s2.heap.objs.size (.lst [])) { s2 with heap:=h₁,toks:=s2.toks + ([]:List (Str × Value)).length }:=
  I0 I2 f2 hfo co (hσ σ I.len) old (Ya _) (by rw [Bn]; exact Y8 _) (YL (by rw [Bn]; exact Y6 _)) (.inr newD) Bp
 have fC:s2.heap.objs.size<=HH.objs.size:=by rw [Bn]; exact Y8 _
 obtain ⟨hg,ht,he⟩:=hb s2 H2 HH.objs.size fp;have loop:∀ BN:Shared,BN = { s2 with heap:=h₁,toks:=s2.toks + ([]:List (Str × Value)).length } ->
   codeAny (model X.prog X.w) X.A (.compLoop (.ListComp elt [⟨tg,iter,ifs,0⟩] scope pos) 0 (.ref it) (.ref s2.heap.objs.size) (compEnvC scope cl HH.objs.size X.env))
    (compPost (model X.prog X.w) X.A X.xe none (EP X pins σ Q) (.ref s2.heap.objs.size) HH.objs.size) BN:=by
  rintro BN rfl;have stat:∀ {H':Hp} ,(∀ b ∈ fp,H' b=none)->∀ b ∈ fp,Ef (An X scope cl N s2 H2 HH.objs.size fp) [] H' b:=fun hn b hb=>by
   refine ⟨hn b hb,?_,?_,.inl hb,?_,fun p hp=>by cases hp⟩
   ·obtain ⟨o,e⟩:=hfo b hb;exact Yh (show b < HH.objs.size by rw [Bn]; exact Yy (Ye e))
   ·intro hz;obtain ⟨_,q1,q2,_⟩:=f2 b hb;rcases XX.mp (I2.stkSub b hz) with e | e
    ·exact q1 e
    ·exact q2 e
   ·exact fun x c e=>(f2 b hb).2.2.2.2.1 x c (co.sub x c e)
  refine BL (fun n s'=>∃ i Ay H',Ao (An X scope cl N s2 H2 HH.objs.size fp) [] Ay H' s'/\tn i s'.heap/\(∀ b ∈ fp,H' b=none)/\W i n Ay H') ?_ m0
   ⟨0,σ0 σ,_,I3,T.keep _ _ _ ER fun b hb o e=>old b o e,fun b hb=>?_,w0⟩
  ·rintro n s4 ⟨i,Fw,H4,I4,KP,L8,w4⟩;rcases turn i n Fw H4 w4 with ⟨stop,qn⟩ | ⟨go,step⟩
   ·refine wpAny_mono (T.done (An X scope cl N s2 H2 HH.objs.size fp) rfl rfl rfl hc i [] s4 Fw H4 (fun _ _=>False) I4 (stat L8) KP stop) (fun r s5 ⟨hr,I5⟩=>?_) fun _ _ z=>z.elim
    subst hr;obtain ⟨m5,Rb,_⟩:=id I5.loc;exact ⟨m5,Rb,fun h' L4=>⟨.ref _,H4,E8 I2 f2 fC I5 L4,rfl,qn⟩⟩
   ·refine wpAny_mono (T.item (An X scope cl N s2 H2 HH.objs.size fp) rfl rfl rfl hc i [] s4 Fw H4 (fun _ _=>False) I4 (stat L8) KP go) (fun r s5 ⟨u,hr,h5⟩=>?_) fun _ _ z=>z.elim
    subst hr;refine wpAny_mono h5 (fun _ s6 ⟨x,H6,I6,r6,y6,Hu,Rk⟩=>?_) fun _ _ z=>z.elim
    have R4:=I6.pinned (stat Rk) (T.obj _ _ Hu);refine wpAny_mono (hg s6 Fw H6 x u _ R4 r6 (step x H6 y6)) (fun _ s7 ⟨Eh,H7,I7,q7⟩=>?_) fun _ _ z=>z.elim
    refine wpAny_mono (ht s7 Eh H7 _ I7 q7) (fun ok s8 ⟨H8,I8,q8⟩=>?_) fun _ _ z=>z.elim
    have again:∀ {s9:Shared} {Fv:St} {H9:Hp} ,Ao (An X scope cl N s2 H2 HH.objs.size fp) ([] ++ Dz fp s6.heap) Fv H9 s9->(∃ m',m' < n/\W (i + 1) m' Fv H9)->∃ m,m < n/\∃ i Ay H',Ao (An X scope cl N s2 H2 HH.objs.size fp) [] Ay H' s9/\tn i s9.heap/\(∀ b ∈ fp,H' b=none)/\W i m Ay H':=fun {s9 Fv H9} I9 n9=>by
     obtain ⟨m',hm,w9⟩:=n9;refine ⟨m',hm,i + 1,Fv,H9,I9.unpinned,T.keep _ _ _ Hu fun b hb o e=>(I9.pin (b,o) (Yk _ (Yk _ (AU hb e)))).1,fun b hb=>?_,w9⟩;obtain ⟨o,e,d⟩:=T.obj _ _ Hu b hb;exact (I9.pin (b,o) (Yk _ (Yk _ (AU hb e)))).2.1
    cases ok with
    | false=>
     rw [if_neg Yl] at q8 ⊢;exact again I8 q8
    | true=>
     rw [if_pos rfl] at q8 ⊢;refine wpAny_mono (he s8 Eh H8 _ I8 q8) (fun y s9 ⟨v,H9,I9,r9,acc,hacc,hsz,q9⟩=>?_) fun _ _ z=>z.elim
     refine wpAny_mono (C1 (X:=An X scope cl N s2 H2 HH.objs.size fp) s9 Eh H9 (.ref s2.heap.objs.size) [v] (.ref s2.heap.objs.size) [y] (fun _ Pp=>∃ m',m' < n/\W (i + 1) m' Eh Pp) I9 rfl (.cons r9 .nil) ⟨_,acc,v,rfl,rfl,hacc,hsz,q9⟩) (fun _ Tn ⟨_,Pp,R6,_,Q3⟩=>?_) fun _ _ z=>z.elim
     exact again R6 Q3
  ·have z:=(f2 b hb).1;obtain ⟨o,e⟩:=hfo b hb;rw [Af (Yh (Ye e))];exact z
 exact codeAny_compStart_list (loop _ rfl) (T.self _ 0 _ _ _ (T.keep _ _ _ ER fun b hb o e=>old b o e) (loop _ rfl))
def Its (x:Str):It:=⟨fun i _=>i < x.cps.size,fun i H v H'=>H'=H/\∃ c,x.cps[i]? = some c/\v=.str ⟨#[c]⟩,fun i _=>x.cps.size<=i⟩
theorem Oa {P:Program} {w:World} {K:XU} {tg:Expr} (it:Addr) (x:Str) (t:Tok):LM P w K tg (Its x) [it] it (fun i h=>h.IsStrIter it "str_ascii_iterator" x t i) where
 mem:=by simp
 obj:=fun i h st b hb=>by
  have e:b=it:=by simpa using hb
  subst e;obtain ⟨o,e,c,d⟩:=st;exact ⟨o,e,fun v z=>by rw [d] at z; cases z⟩
 keep:=fun i h h' st k=>let ⟨o,e,r⟩:=st; ⟨o,k it (by simp) o e,r⟩
 item:=by
  intro X hP hw hK hc i pins s σ H E I hf st hg;subst hP hw hK;obtain ⟨f0,f1,f2,f3,f4,f5⟩:=hf it (by simp);have S5:i < x.cps.size:=hg;refine wpAny_pyNext_ascii_item st (c:=x.cps[i]) (by simp [S5]) fun h' AH sb=>?_
  have I1:Ao X pins σ H { s with heap:=h',toks:=s.toks + 1 }:=I.turned (fun b o hb e=>(sb.2 b hb).trans e) f0 f1 f3 f4 f5;obtain ⟨o,e,c,d⟩:=id AH;exact ⟨_,rfl,Io (s:={ s with heap:=h',toks:=s.toks + 1 }) e c d (by decide) ⟨.str ⟨#[x.cps[i]]⟩,H,I1,⟨_,rfl⟩,⟨rfl,_,by simp [S5],rfl⟩,AH,fun b hb=>(hf b hb).1⟩⟩
 done:=by
  intro X hP hw hK hc i pins s σ H E I hf st hg;subst hP hw hK;obtain ⟨f0,f1,f2,f3,f4,f5⟩:=hf it (by simp);have S5:x.cps.size<=i:=hg;exact wpAny_pyNext_ascii_end (I.ok.hd hc) st (by simp [S5]) fun h' eb=>⟨rfl,I.turned (t':=s.toks) (fun b o hb e=>eb b o hb e) f0 f1 f3 f4 f5⟩
 self:=fun _ _ _ _ _ st h=>wpAny_pyIter_striter_ascii st h
theorem NZ {P:Program} {w:World} {K:XU} {tg:Expr} (it:Addr) (x:Str) (t:Tok):LM P w K tg (Its x) [it] it (fun i h=>h.IsStrIter it "str_iterator" x t i) where
 mem:=by simp
 obj:=fun i h st b hb=>by
  have e:b=it:=by simpa using hb
  subst e;obtain ⟨o,e,c,d⟩:=st;exact ⟨o,e,fun v z=>by rw [d] at z; cases z⟩
 keep:=fun i h h' st k=>let ⟨o,e,r⟩:=st; ⟨o,k it (by simp) o e,r⟩
 item:=by
  intro X hP hw hK hc i pins s σ H E I hf st hg;subst hP hw hK;obtain ⟨f0,f1,f2,f3,f4,f5⟩:=hf it (by simp);have S5:i < x.cps.size:=hg;refine wpAny_pyNext_wide_item st (c:=x.cps[i]) (by simp [S5]) fun h' AH sb=>?_
  have I1:Ao X pins σ H { s with heap:=h',toks:=s.toks + 1 }:=I.turned (fun b o hb e=>(sb.2 b hb).trans e) f0 f1 f3 f4 f5;obtain ⟨o,e,c,d⟩:=id AH;exact ⟨_,rfl,Io (s:={ s with heap:=h',toks:=s.toks + 1 }) e c d (by decide) ⟨.str ⟨#[x.cps[i]]⟩,H,I1,⟨_,rfl⟩,⟨rfl,_,by simp [S5],rfl⟩,AH,fun b hb=>(hf b hb).1⟩⟩
 done:=by
  intro X hP hw hK hc i pins s σ H E I hf st hg;subst hP hw hK;obtain ⟨f0,f1,f2,f3,f4,f5⟩:=hf it (by simp);have S5:x.cps.size<=i:=hg;exact wpAny_pyNext_wide_end (I.ok.hd hc) st (by simp [S5]) fun h' eb=>⟨rfl,I.turned (t':=s.toks) (fun b o hb e=>eb b o hb e) f0 f1 f3 f4 f5⟩
 self:=fun _ _ _ _ _ st h=>wpAny_pyIter_striter_wide st h
def iStr (tl:TE):TI:=fun σ H R=>tl σ H fun x H1=>∃ z,x=.str z/\R (Its z) H1
theorem Uo {X:Cx} {tg l:Expr} {tl:TE} (hl:PE X l tl):PI X tg l (iStr tl):=by
 intro pins s σ H R I h;refine Bo (hl (pins:=pins) s σ H _ I h) fun v s1 ⟨x,H1,I1,r1,q1⟩=>?_
 obtain ⟨z,rfl,q⟩:=q1;obtain ⟨t,rfl⟩:=r1;have fin:∀ b ∈ [s1.heap.objs.size],Ef X pins H1 b:=fun b hb=>by
  have e:b=s1.heap.objs.size:=by simpa using hb
  subst e;exact I1.fpOk (Ya _) (I1.hok.fresh (Ya _))
 cases ha:z.cps.all (· < 128)
 ·exact wpAny_pyIter_wide ha ⟨s1.heap.objs.size,[s1.heap.objs.size],_,_,H1,rfl,I1.kept (t':=s1.toks) fun b o e=>XQ _ e,NZ _ z t,⟨_,Yf _ rfl,rfl,rfl⟩,fin,q⟩
 ·exact wpAny_pyIter_ascii ha ⟨s1.heap.objs.size,[s1.heap.objs.size],_,_,H1,rfl,I1.kept (t':=s1.toks) fun b o e=>XQ _ e,Oa _ z t,⟨_,Yf _ rfl,rfl,rfl⟩,fin,q⟩
theorem Dx {X:Cx} (hc:X.calm=true):Bg X (.builtin "all") (fun xs H Q=>∃ (p:Addr) (bs:List Bool),xs=[.ref p]/\AM X.K H p (bs.map V.bl)/\Q (.bl (bs.all id)) H):=by
 intro pins s σ H xs us Q I r h;obtain ⟨p,bs,rfl,hq,q⟩:=h;obtain ⟨u,rfl,ru⟩:=BR r;cases ru
 obtain ⟨Aq,rv,pl,hz⟩:=I.list hq;have hlen:Aq.length=bs.length:=by rw [<-rv.length,XJ]
 refine call_all_walk (wpAny_pyIter_list pl.isList ?_);have hne:p ≠ s.heap.objs.size:=by
  obtain ⟨o,n,e,_⟩:=pl;exact Yh (Ye e)
 refine ⟨s.heap.objs.size,_,_,_,_,_,fun i=>bs.getD i true,rfl,Walks.list (A:=X.A.in1) (I.ok.hd hc) s.heap.objs.size p hne Aq.toArray,⟨⟨_,Yf _ rfl,rfl,rfl⟩,?_⟩,?_,?_⟩
 ·exact pl.isList.at fun o e=>XQ _ e
 ·intro i v s1 Q1 E1 hv hQ;have hv':Aq[i]? = some v:=by simpa using hv
  have hb:∃ b,bs[i]? = some b:=by
   cases e:bs[i]? with
   | some b=>exact ⟨b,rfl⟩
   | none=>
    have:=aN.mp e;have:=(Yb.mp hv').1;lia
  obtain ⟨b,hb⟩:=hb;obtain ⟨u,hu,ru⟩:=rv.get (i:=i) (x:=V.bl b) (by rw [Yd,hb]; rfl);rw [hv'] at hu;cases hu
  cases ru
  have e:bs.getD i true=b:=by rw [Yw,hb]; rfl
  have hQ':Q1 (bs.getD i true) s1:=hQ;rw [e] at hQ';exact wpAny_truthy_bool hQ'
 ·intro h' tk hk;have e:(Zi Aq.toArray.size).all (fun i=>bs.getD i true)=bs.all id:=by
   rw [Yp,hlen];apply YZ.mpr;simp only [Za,ZE,id];constructor
   ·intro h b hb;obtain ⟨i,hi,e⟩:=Yq hb;have:=h i hi;rw [Yw,XO hi] at this;simpa [e] using this
   ·intro h i hi;rw [Yw,XO hi];exact h _ (YT hi)
  rw [e];refine ⟨.bl _,H,?_,rfl,q⟩;have I1:Ao X pins σ H { s with heap:=s.heap.push { cls:=.type "list_iterator",data:=.fields #[.ref p,.int 0 0] } }:=I.kept (t':=s.toks) fun b o e=>XQ _ e
  have F:=I.fpOk (Ya _) (I.hok.fresh (Ya _));obtain ⟨f0,f1,f2,f3,f4,f5⟩:=F;exact I1.turned (it:=s.heap.objs.size) (fun b o hb e=>hk b o (by simpa using hb) e) f0 f1 f3 f4 f5
theorem GA {X:Cx}:Bg X (.builtin "isinstance") (fun xs H Q=>∃ x c t b,xs=[x,.ty c]/\EB X.K H x t/\ZR X.K t (.type c)=some b/\Q (.bl b) H):=by
 intro pins s σ H xs us Q I r h;obtain ⟨x,c,t,b,rfl,ty,e,q⟩:=h;obtain ⟨u,v,rfl,rx,rc⟩:=MM r;cases rc
 exact OO I rx ty e fun tk=>⟨.bl b,H,I.tok tk,rfl,q⟩
theorem J5 {X:Cx}:EN X (compareOp .LtE) (fun x y H Q=>∃ i j,x=.str i/\y=.str j/\Q (.bl (!(decide (j.cps.toList < i.cps.toList)))) H):=by
 intro pins s σ H x y v u Q I rx ry h;obtain ⟨i,j,rfl,rfl,q⟩:=h;obtain ⟨t,rfl⟩:=rx;obtain ⟨t',rfl⟩:=ry;exact PySem.P.le_str ⟨.bl _,H,I,rfl,q⟩
def tSlS (te:TE) (tl th:TO):TE:=fun σ H Q=>te σ H fun x H1=>tl σ H1 fun l H2=>th σ H2 fun u H3=>∃ z,x=.str z/\z.length<=sizeLine/\Q (.str (Txt.slice z l u)) H3
theorem FD {X:Cx} {e:Expr} {te:TE} {lo hi:Option Expr} {tl th:TO} {pos p2:Pos} (he:PE X e te) (hl:PO X lo tl) (hu:PO X hi th):PE X (.Subscript e (.Slice lo hi none p2) pos) (tSlS te tl th):=by
 intro pins s σ H Q I h;refine Subscript_ (Bo (he (pins:=pins) s σ H _ I h) fun v s1 ⟨x,H1,I1,r1,q1⟩=>?_);refine wpAny_Slice (Bo (hl (pins:=pins) s1 σ H1 _ I1 q1) fun vl s2 ⟨l,H2,I2,pl,q2⟩=>Bo (hu (pins:=pins) s2 σ H2 _ I2 q2) fun vu s3 ⟨u,H3,I3,pu,q3⟩=>?_);rw [evalPart_none];refine wpAny_pure ?_;obtain ⟨z,rfl,hz,q⟩:=q3;obtain ⟨t,rfl⟩:=r1;show wpAny (model X.prog X.w) X.A (subscriptTail e (.Slice lo hi none p2) (.str z t) (.ref s3.heap.objs.size)) (EP X pins σ Q) X.xe { s3 with heap:=s3.heap.push { cls:=.type "slice",data:=.fields #[vl,vu,.none] } }
 have kk:KeptH (fun h=>∀ b o,s3.heap.get? b=some o->h.get? b=some o):=fun h ob hh b o e=>XQ _ (hh b o e)
 have fin:ItemOn (model X.prog X.w) X.A X.xe (.str z t) (.ref s3.heap.objs.size) (EP X pins σ Q) { s3 with heap:=s3.heap.push { cls:=.type "slice",data:=.fields #[vl,vu,.none] } }:=by
  cases pl with
  | none=>
   cases pu with
   | none=>exact SBH.sliceItem_nn kk (fun _ _ e=>e) (fun h' t' k kp=>⟨.str _,H3,I3.kept kp,⟨_,rfl⟩,q⟩) hz
   | int j uj=>exact SBH.sliceItem_ns kk (fun _ _ e=>e) (fun h' t' k kp=>⟨.str _,H3,I3.kept kp,⟨_,rfl⟩,q⟩) hz
  | int i ui=>
   cases pu with
   | none=>exact SBH.sliceItem_sn kk (fun _ _ e=>e) (fun h' t' k kp=>⟨.str _,H3,I3.kept kp,⟨_,rfl⟩,q⟩) hz
   | int j uj=>exact SBH.sliceItem_ss kk (fun _ _ e=>e) (fun h' t' k kp=>⟨.str _,H3,I3.kept kp,⟨_,rfl⟩,q⟩) hz
 obtain ⟨T,id,hT,ht,hg⟩:=fin;exact tail_any (ops:=[.ref s3.heap.objs.size,.str z t]) ht hT hg (by with_unfolding_all rfl)
theorem Dg {α:Type}:∀ {l:List (Str × α)} {x:Str} {k:α},l.lookup x=some k->(x,k) ∈ l
 | [],_,_,h=>by cases h
 | (n,v) :: r,x,k,h=>by
  rw [ZM] at h;by_cases e:x=n
  ·subst e;simp at h;subst h;exact Ys
  ·have:(x == n)=false:=beq_eq_false_iff_ne.mpr e;rw [this] at h;exact Yr _ (Dg h)
theorem A8.plain {X:Cx} {scope:Scope} (hfree:∀ x ∈ scope.names,x.2 ≠ .free) (hcell:∀ y ∈ scope.names,y.2 ≠ .cell) (hkind:scope.kind=.function)
  (hnames:∀ y ∈ scope.names,y.2=.local->scope.names.lookup y.1=some .local):A8 X scope []:=by
 refine ⟨closureFor_none hfree,hcell,hkind,hnames,fun x c h=>(by cases h),fun x h=>?_⟩;have key:∀ k,(relabel scope X.env).names.lookup x=some k->∃ y ∈ scope.names,y.2=k:=by
  intro k e;have m:=Dg e;obtain ⟨⟨n,k'⟩,hm,e'⟩:=Yc.mp m;have hf:=hfree _ hm;have:(k' == NameKind.free)=false:=by
   cases k' <;> first | rfl | exact absurd rfl hf
  dsimp only at e';rw [this] at e';simp at e';exact ⟨_,hm,e'.2⟩
 rcases h with h | h
 ·obtain ⟨y,hy,e⟩:=key _ h;exact absurd e (hcell y hy)
 ·obtain ⟨y,hy,e⟩:=key _ h;exact absurd e (hfree y hy)
def FI (c:Nat):Bool:=decide (97<=c) && decide (c<=122)
theorem lt1 (a b:Nat):decide (([a]:List Nat) < [b])=decide (a < b):=by
 apply decide_eq_decide.mpr;rw [List.cons_lt_cons_iff];constructor
 ·rintro (h | ⟨_,h⟩)
  ·exact h
  ·exact absurd h (by simp)
 ·exact fun h=>.inl h
theorem leA (c:Nat):(!(decide ((⟨#[c]⟩:Str).cps.toList < (Str.ofString "a").cps.toList)))=decide (97<=c):=by
 show (!(decide (([c]:List Nat) < [97])))=_
 rw [lt1,<-decide_not];exact decide_eq_decide.mpr (by lia)
theorem leZ (c:Nat):(!(decide ((Str.ofString "z").cps.toList < (⟨#[c]⟩:Str).cps.toList)))=decide (c<=122):=by
 show (!(decide (([122]:List Nat) < [c])))=_
 rw [lt1,<-decide_not];exact decide_eq_decide.mpr (by lia)
def AV (t:Str):Bool:=decide (1<=t.length) && decide (t.length<=6) && t.cps.toList.all FI
def R1 (K:XU) (H:Hp) (x:V):Prop:=∃ ty,EB K H x ty/\ZR K ty (.type "str")=some false
def Qd (K:XU):Sp:=fun vs H Q _=>∃ x,vs=[x]/\((∃ t,x=.str t/\t.length<=1000/\∀ H',Au H H'->Q (.bl (AV t)) H')\/(R1 K H x/\Q (.bl false) H))
theorem Ad {H:Hp} {p:Addr} {o:HO} (h:H p=none):Au H (upd H p o):=fun b u e=>by
 rw [Af (Ah e h)];exact e
theorem IQ {α β:Type} (f:α->β) (l:List α) (i:Nat) (c:α) (h:l[i]? = some c):(l.take (i + 1)).map f=(l.take i).map f ++ [f c]:=by
 rw [List.take_succ,h,Yi];rfl
mutual
inductive Ga (H:Hp):V->PyData->Prop
 | non:Ga H .non .none
 | bl (b:Bool):Ga H (.bl b) (.bool b)
 | int (i:Int):Ga H (.int i) (.int i)
 | str (x:Str):Ga H (.str x) (.str x)
 | tup {a:Addr} {vs:List V} {ds:List PyData}:H a=some (.tup vs)->Bd H vs ds->Ga H (.ref a) (.tuple ds)
 | lst {a:Addr} {vs:List V} {ds:List PyData}:H a=some (.lst vs)->Bd H vs ds->Ga H (.ref a) (.list ds)
inductive Bd (H:Hp):List V->List PyData->Prop
 | nil:Bd H [] []
 | cons {v:V} {vs:List V} {d:PyData} {ds:List PyData}:Ga H v d->Bd H vs ds->Bd H (v :: vs) (d :: ds)
end
mutual
theorem Ga.mono {H H':Hp} (s:∀ a o,H a=some o->(∃ vs,o=.tup vs\/o=.lst vs)->H' a=some o):∀ {v:V} {d:PyData},Ga H v d->Ga H' v d
 | _,_,.non=>.non
 | _,_,.bl b=>.bl b
 | _,_,.int i=>.int i
 | _,_,.str x=>.str x
 | _,_,.tup e r=>.tup (s _ _ e ⟨_,.inl rfl⟩) (Bd.mono s r)
 | _,_,.lst e r=>.lst (s _ _ e ⟨_,.inr rfl⟩) (Bd.mono s r)
theorem Bd.mono {H H':Hp} (s:∀ a o,H a=some o->(∃ vs,o=.tup vs\/o=.lst vs)->H' a=some o):∀ {vs:List V} {ds:List PyData},Bd H vs ds->Bd H' vs ds
 | _,_,.nil=>.nil
 | _,_,.cons x r=>.cons (Ga.mono s x) (Bd.mono s r)
end
theorem Ga.same {H H':Hp} {v:V} {d:PyData} (h:Ga H v d) (s:Au H H'):Ga H' v d:=h.mono fun a o e _=>s a o e
mutual
theorem Ga.reads {X:Cx} {pins:List (Addr × Obj)} {σ:St} {H:Hp} {s:Shared} (I:Ao X pins σ H s):∀ {v:V} {d:PyData} {u:Value},Ga H v d->A1 v u->∃ as,Reads s.heap u d as
 | _,_,_,.non,r=>by cases r; exact ⟨_,.none⟩
 | _,_,_,.bl b,r=>by cases r; exact ⟨_,.bool b⟩
 | _,_,_,.int i,r=>by obtain ⟨t,rfl⟩:=r; exact ⟨_,.int i t⟩
 | _,_,_,.str x,r=>by obtain ⟨t,rfl⟩:=r; exact ⟨_,.str x t⟩
 | _,_,_,.tup (a:=a) e m,r=>by
  cases r
  obtain ⟨_,Aq,rv,⟨o,ho,hc,n,hd⟩,_⟩:=(show A4 X.prog X.w H s.heap a (.tup _) from I.hok a _ e)
  obtain ⟨as,q⟩:=Bd.reads I m rv;exact ⟨_,.tuple ho hc hd (by simpa using q)⟩
 | _,_,_,.lst (a:=a) e m,r=>by
  cases r
  obtain ⟨_,Aq,n,rv,ho⟩:=(show A4 X.prog X.w H s.heap a (.lst _) from I.hok a _ e)
  obtain ⟨as,q⟩:=Bd.reads I m rv;exact ⟨_,.list ho rfl rfl (by simpa using q)⟩
theorem Bd.reads {X:Cx} {pins:List (Addr × Obj)} {σ:St} {H:Hp} {s:Shared} (I:Ao X pins σ H s):∀ {vs:List V} {ds:List PyData} {us:List Value},Bd H vs ds->Az vs us->∃ as,ReadsAll s.heap us ds as
 | _,_,_,.nil,r=>by cases r; exact ⟨_,.nil⟩
 | _,_,_,.cons x m,r=>by
  cases r with
  | cons r1 r2=>
   obtain ⟨as,q1⟩:=Ga.reads I x r1;obtain ⟨bs,q2⟩:=Bd.reads I m r2;exact ⟨_,.cons q1 q2⟩
end
theorem O9 {X:Cx} (hu:X.A.units + 64 < cLine):EN X (compareOp .Eq) (fun x y H Q=>∃ d e,Ga H x d/\Ga H y e/\d.canLay0=true/\e.canLay0=true/\d.depth<=60/\Q (.bl (PyData.eqv d e)) H):=by
 intro pins s σ H x y v u Q I rx ry h;obtain ⟨d,e,h1,h2,c1,c2,hd,q⟩:=h;obtain ⟨as,r1⟩:=h1.reads I rx;obtain ⟨bs,r2⟩:=h2.reads I ry;exact SeqAt.compareEq_reads r1 r2 c1 c2 (by have:=Z7 d.depth e.depth; lia) ⟨.bl _,H,I,rfl,q⟩
theorem QY (z:Str) (xs:List Str):inV (.str z) (xs.map V.str)=decide (z ∈ xs):=by
 unfold inV;induction xs with
 | nil=>simp
 | cons x xs ih=>
  rw [Ym,Z5,ih];have e:SF (.str x) (.str z)=decide (z=x):=by
   show (x == z)=_
   by_cases h:z=x
   ·subst h; simp
   ·have h':¬ x=z:=fun q=>h q.symm
    rw [decide_eq_false h];exact beq_eq_false_iff_ne.mpr h'
  rw [e];by_cases h:z=x
  ·simp [h]
  ·by_cases h2:z ∈ xs <;> simp [h,h2]
theorem OW (xs:List Str):(xs.map V.str).all E2=true:=by
 rw [ar];exact Za.mpr fun _ _=>rfl
def AZ (p:Addr) (H H':Hp):Prop:=∀ b o,b ≠ p->H b=some o->H' b=some o
theorem AZ.refl (p:Addr) (H:Hp):AZ p H H:=fun _ _ _ e=>e
theorem AZ.trans {p:Addr} {H H1 H2:Hp} (a:AZ p H H1) (b:AZ p H1 H2):AZ p H H2:=fun c o n e=>b c o n (a c o n e)
theorem AZ.of_same {p:Addr} {H H':Hp} (s:Au H H'):AZ p H H':=fun b o _ e=>s b o e
theorem AZ.upd {p:Addr} {H:Hp} {o:HO}:AZ p H (L2.upd H p o):=fun b u n e=>by rw [Af n]; exact e
def ME (K:XU) (H:Hp) (a:Addr) (xs:List V):Prop:=(∃ ob,H a=some (.frz ob (.lst xs)))\/∃ o Aq n,List.lookup a K=some o/\o.cls=Value.type "list"/\o.dict=none/\o.data=Data.seq Aq n/\Aq.size<=sizeLine/\Az xs Aq.toList
theorem ME.sq {K:XU} {H:Hp} {a:Addr} {xs:List V} (h:ME K H a xs):AM K H a xs:=by
 rcases h with ⟨ob,h⟩ | h
 ·exact .inl (.inr ⟨ob,h⟩)
 ·exact .inr h
theorem ME.same {K:XU} {H H':Hp} {a:Addr} {xs:List V} (h:ME K H a xs) (s:Au H H'):ME K H' a xs:=by
 rcases h with ⟨ob,h⟩ | h
 ·exact .inl ⟨ob,s _ _ h⟩
 ·exact .inr h
theorem Rw {α:Type} {l:List α} {i:Int} {c:α} (h:K8 l i=some c):c ∈ l:=by
 obtain ⟨j,_,h2,_⟩:=Hr h;exact XY h2
abbrev FK:Str:="abcdefghijklmnopqrstuvwxyz"
theorem G7:∀ c ∈ FK.cps.toList,FI c=true:=by decide +kernel
def SX (z:Str):Prop:=∀ c ∈ z.cps.toList,FI c=true
theorem QP {z:Str} (h1:1<=z.length) (h2:z.length<=6) (h:SX z):AV z=true:=by
 unfold AV;rw [decide_eq_true h1,decide_eq_true h2,Za.mpr h];rfl
theorem Mq {z:Str} (h:AV z=true):1<=z.length/\z.length<=6/\SX z:=by
 unfold AV at h;rw [YA,YA,decide_eq_true_eq,decide_eq_true_eq,Za] at h;exact ⟨h.1.1,h.1.2,h.2⟩
theorem BX {α:Type} [BEq α] [LawfulBEq α]:∀ {l xs:List α},l.Nodup->(∀ x ∈ l,x ∈ xs)->l.length<=xs.length
 | [],_,_,_=>Y9 _
 | a :: l,xs,hn,hs=>by
  have ha:=hs a Ys;have Wt:=YC.mp hn;have:=BX (l:=l) (xs:=xs.erase a) Wt.2 fun x hx=>(br (show x ≠ a from fun e=>Wt.1 (by rw [<-e]; exact hx))).mpr (hs x (Yr _ hx))
  rw [List.length_erase_of_mem ha] at this;have:0 < xs.length:=List.length_pos_of_mem ha;rw [Yz];lia
theorem Cg (H:Hp):∀ xs:List Str,Bd H (xs.map V.str) (xs.map .str)
 | []=>.nil
 | x :: xs=>.cons (.str x) (Cg H xs)
theorem DF:∀ {xs:List Str},(∀ x ∈ xs,AV x=true)->PyData.canLayAll0 (xs.map .str)=true
 | [],_=>rfl
 | x :: xs,h=>by
  show (PyData.strOk x && PyData.canLayAll0 (xs.map .str))=true
  rw [DF fun y hy=>h y (Yr _ hy),ZI];obtain ⟨_,_,lo⟩:=Mq (h x Ys);unfold PyData.strOk;rw [Array.all_eq_true_iff_forall_mem];intro c hc;have:=lo c (by simpa using hc);unfold FI at this;rw [YA,decide_eq_true_eq,decide_eq_true_eq] at this;rw [decide_eq_true_eq];lia
theorem DX:∀ xs:List Str,PyData.depthAll (xs.map .str)=0
 | []=>rfl
 | x :: xs=>by
  show max 0 (PyData.depthAll (xs.map .str))=0
  rw [DX xs];rfl
def Mv:Stmt->List Stmt
 | .If _ b _ _=>b
 | _=>[]
theorem A8.caught {X:Cx} {scope:Scope} {cl:List (Str × Addr)} (clos:closureFor scope X.env=pure cl) (hcell:∀ y ∈ scope.names,y.2 ≠ .cell) (hkind:scope.kind=.function)
  (hnames:∀ y ∈ scope.names,y.2=.local->scope.names.lookup y.1=some .local) (hcl:∀ y ∈ cl,X.env.cells.lookup y.1=some y.2)
  (hfr:∀ y ∈ scope.names,y.2=.free->∃ c,cl.lookup y.1=some c):A8 X scope cl:=by
 refine ⟨clos,hcell,hkind,hnames,fun x c h=>hcl _ (Dg h),fun x h=>?_⟩;have key:∀ k,(relabel scope X.env).names.lookup x=some k->k=.cell\/k=.free->∃ c,cl.lookup x=some c:=by
  intro k e hk;have m:=Dg e;obtain ⟨⟨n,k'⟩,hm,e'⟩:=Yc.mp m;dsimp only at e';by_cases hf:k'=.free
  ·subst hf;have en:n=x:=by
    by_cases hc:(NameKind.free == NameKind.free && X.env.scope.kind == .function && X.env.kindOf n == some .cell)=true
    ·rw [if_pos hc] at e';injection e'
    ·rw [if_neg hc] at e';injection e'
   subst en;exact hfr _ hm rfl
  ·have:(k' == NameKind.free)=false:=by
    cases k' <;> first | rfl | exact absurd rfl hf
   rw [this] at e';simp at e';rcases hk with hk | hk
   ·exact absurd (e'.2.trans hk) (hcell _ hm)
   ·exact absurd (e'.2.trans hk) hf
 rcases h with h | h
 ·exact key _ h (.inl rfl)
 ·exact key _ h (.inr rfl)
theorem AR.of {X:Cx} {cl:List (Str × Addr)} {scope:Scope} {N:List Str} {σ:St} (js:List (Option Nat)) (hl:js.length=N.length)
  (h:∀ (i j:Nat) (x:Str),N[i]? = some x->js[i]? = some (some j)->X.N[j]? = some x/\(X.env.kindOf x=some .cell\/X.env.kindOf x=some .free)/\((relabel scope X.env).names.lookup x=some .cell\/(relabel scope X.env).names.lookup x=some .free)) :
  AR X cl scope N σ (js.map fun j=>j.bind fun j=>(σ[j]?).join):=by
 refine ⟨by rw [XJ,hl],fun i x v h1 h2=>?_⟩;rw [Yd] at h2;cases e:js[i]? with
 | none=>rw [e] at h2; cases h2
 | some o=>
  rw [e] at h2;cases o with
  | none=>cases h2
  | some j=>
   obtain ⟨a,b,c⟩:=h i j x h1 e;refine ⟨⟨j,a,?_⟩,b,c⟩;have h3:(σ[j]?).join=some v:=Yo.inj h2;cases e2:σ[j]? with
   | none=>rw [e2] at h3; cases h3
   | some o=>
    rw [e2] at h3;have:o=some v:=h3;rw [this]
abbrev AF:=Str × Str × Int
def JV (u:AF):PyData:=.tuple [.str u.1,.str u.2.1,.int u.2.2]
def DL (u v:AF):Prop:=(u.1=v.1/\u.2.1=v.2.1)\/(u.1=v.2.1/\u.2.1=v.1)
structure GZ (xs:List Str) (k:Nat) (ws:List AF):Prop where
 of:∀ u ∈ ws,∃ i j:Nat,i < j/\j < k/\xs[i]? = some u.1/\xs[j]? = some u.2.1/\1<=u.2.2
 sep:ws.Pairwise fun u v=>¬ DL u v
 to:∀ j,0 < j->j < k->∃ u ∈ ws,∃ i:Nat,i < j/\xs[i]? = some u.1/\xs[j]? = some u.2.1
 len:2 * ws.length<=k * (k - 1)
structure UJ (xs:List Str) (ws:List AF):Prop where
 of:∀ u ∈ ws,u.1 ∈ xs/\u.2.1 ∈ xs/\u.1 ≠ u.2.1/\1<=u.2.2
 sep:ws.Pairwise fun u v=>¬ DL u v
 to:∀ j,0 < j->j < xs.length->∃ u ∈ ws,∃ i:Nat,i < j/\xs[i]? = some u.1/\xs[j]? = some u.2.1
 len:2 * ws.length<=xs.length * (xs.length - 1) + 10
theorem Fi {xs:List Str} (h:xs.Nodup) {i j:Nat} {x:Str} (a:xs[i]? = some x) (b:xs[j]? = some x):i=j:=HV h a b
theorem GZ.nil (xs:List Str):GZ xs 1 []:=⟨(fun _ h=>nomatch h),List.Pairwise.nil,(fun j h1 h2=>by lia),(by decide)⟩
theorem GZ.more {xs:List Str} {k:Nat} {ws us:List AF} (hn:xs.Nodup) (h:GZ xs k ws) (hk:k < xs.length) (js:List Nat) (hj:js.Nodup) (Bu:∀ j ∈ js,j < k) (h0:js ≠ [])
  (hl:us.length=js.length) (hu:∀ (q:Nat) (u:AF) (j:Nat),us[q]? = some u->js[q]? = some j->xs[j]? = some u.1/\xs[k]? = some u.2.1/\1<=u.2.2):GZ xs (k + 1) (ws ++ us):=by
 have at_:∀ u ∈ us,∃ (q j:Nat),us[q]? = some u/\js[q]? = some j/\j < k/\xs[j]? = some u.1/\xs[k]? = some u.2.1/\1<=u.2.2:=by
  intro u hm;obtain ⟨q,hq,e⟩:=Yq hm;have e1:us[q]? = some u:=by rw [XO hq,e]
  have e2:js[q]? = some js[q]:=XO (by lia);obtain ⟨a,b,c⟩:=hu q u _ e1 e2;exact ⟨q,_,e1,e2,Bu _ (YT _),a,b,c⟩
 refine ⟨?_,?_,?_,?_⟩
 ·intro u hm;rcases Yt.mp hm with hm | hm
  ·obtain ⟨i,j,a,b,c⟩:=h.of u hm;exact ⟨i,j,a,by lia,c⟩
  ·obtain ⟨q,j,_,_,a,b,c,d⟩:=at_ u hm;exact ⟨j,k,a,by lia,b,c,d⟩
 ·rw [bx];refine ⟨h.sep,?_,?_⟩
  ·rw [YQ];intro q r hq hr hqr al;have a1:=hu q us[q] js[q] (XO hq) (XO (by lia));have a2:=hu r us[r] js[r] (XO hr) (XO (by lia));have l1:=Bu js[q] (YT _);have l2:=Bu js[r] (YT _);rcases al with ⟨e1,_⟩ | ⟨e1,_⟩
   ·have a3:=a1.1;rw [e1] at a3;have ej:=Fi hn a3 a2.1;exact absurd ((az hj).mp ej) (by lia)
   ·have a3:=a1.1;rw [e1] at a3;have ej:=Fi hn a3 a2.2.1;lia
  ·intro u Ws v hv al;obtain ⟨i,j,hij,hjk,e1,e2,_⟩:=h.of u Ws;obtain ⟨q,m,_,_,hm,e3,e4,_⟩:=at_ v hv;rcases al with ⟨_,z⟩ | ⟨z,_⟩
   ·rw [z] at e2;have:=Fi hn e2 e4;lia
   ·rw [z] at e1;have:=Fi hn e1 e4;lia
 ·intro j h1 h2;by_cases e:j=k
  ·subst e;cases us with
   | nil=>
    cases js with
    | nil=>exact absurd rfl h0
    | cons _ _=>cases hl
   | cons u us=>
    obtain ⟨q,m,_,_,hm,e3,e4,_⟩:=at_ u Ys;exact ⟨u,Yk _ Ys,m,hm,e3,e4⟩
  ·obtain ⟨u,hm,i,a,b⟩:=h.to j h1 (by lia);exact ⟨u,YS _ hm,i,a,b⟩
 ·have:=h.len;have hjl:js.length<=k:=by
   have:=BX (l:=js) (xs:=Zi k) hj fun j hm=>ZE.mpr (Bu j hm)
   rwa [Zz] at this
  rw [XZ,hl];show 2 * (ws.length + js.length)<=(k + 1) * (k + 1 - 1)
  rw [bE];have e:(k + 1) * k=k * (k - 1) + 2 * k:=by
   cases k with
   | zero=>rfl
   | succ k=>
    rw [bE];simp only [cz,Nat.mul_succ,b7,Nat.mul_add];lia
  lia
theorem GZ.ways {xs:List Str} {ws:List AF} (hn:xs.Nodup) (h:GZ xs xs.length ws):UJ xs ws:=by
 refine ⟨fun u hm=>?_,h.sep,h.to,by have:=h.len; lia⟩;obtain ⟨i,j,a,b,c,d,e⟩:=h.of u hm;refine ⟨XY c,XY d,fun z=>?_,e⟩;rw [z] at c;have:=Fi hn c d;lia
def Ff (xs:List Str) (ws:List AF):Prop:=(∀ u ∈ ws,u.1 ∈ xs/\u.2.1 ∈ xs/\u.1 ≠ u.2.1/\1<=u.2.2)/\(ws.Pairwise fun u v=>¬ DL u v) /\
 ∀ j,0 < j->j < xs.length->∃ u ∈ ws,∃ i:Nat,i < j/\xs[i]? = some u.1/\xs[j]? = some u.2.1
theorem UJ.c {xs:List Str} {ws:List AF} (h:UJ xs ws):Ff xs ws:=⟨h.of,h.sep,h.to⟩
theorem Ff.snoc {xs:List Str} {ws:List AF} {x y:Str} {n:Int} (h:Ff xs ws) (hx:x ∈ xs) (hy:y ∈ xs) (ne:x ≠ y) (hn:1<=n) (no:∀ u ∈ ws,¬ ((x=u.1\/x=u.2.1)/\(y=u.1\/y=u.2.1))):Ff xs (ws ++ [(x,y,n)]):=by
 refine ⟨fun u hu=>?_,?_,fun j h1 h2=>?_⟩
 ·rcases Yt.mp hu with hu | hu
  ·exact h.1 u hu
  ·rw [Yn.mp hu]; exact ⟨hx,hy,ne,hn⟩
 ·rw [bx];refine ⟨h.2.1,Zu _ _,fun u hu v hv al=>?_⟩;rw [Yn.mp hv] at al;refine no u hu ?_;rcases al with ⟨e1,e2⟩ | ⟨e1,e2⟩
  ·exact ⟨.inl e1.symm,.inr e2.symm⟩
  ·exact ⟨.inr e2.symm,.inl e1.symm⟩
 ·obtain ⟨u,hu,r⟩:=h.2.2 j h1 h2;exact ⟨u,YS _ hu,r⟩
theorem LG {H:Hp}:∀ {vs:List V} {ds:List PyData},Bd H vs ds->vs.length=ds.length
 | _,_,.nil=>rfl
 | _,_,.cons _ r=>by rw [Yz,Yz,LG r]
theorem Iz {H:Hp}:∀ {vs:List V} {ws:List AF} {i:Nat} {x:V},Bd H vs (ws.map JV)->vs[i]? = some x->∃ u t,ws[i]? = some u/\x=.ref t/\H t=some (.tup [.str u.1,.str u.2.1,.int u.2.2])
 | _,[],i,x,.nil,e=>by cases e
 | _,u :: ws,0,x,.cons (v:=v) h _,e=>by
  have e':v=x:=by simpa using e
  subst e';cases h with
  | tup ha hd=>
   refine ⟨u,_,rfl,rfl,?_⟩;cases hd with
   | cons h1 r1=>
    cases r1 with
    | cons h2 r2=>
     cases r2 with
     | cons h3 r3=>
      cases r3
      cases h1
      cases h2
      cases h3
      exact ha
 | _,u :: ws,i + 1,x,.cons _ r,e=>by
  obtain ⟨u',t,a,b⟩:=Iz (i:=i) (x:=x) r (by simpa using e);exact ⟨u',t,by simpa using a,b⟩
theorem FP {H:Hp}:∀ {vs us:List V} {ds es:List PyData},Bd H vs ds->Bd H us es->Bd H (vs ++ us) (ds ++ es)
 | _,_,_,_,.nil,h=>h
 | _,_,_,_,.cons a r,h=>.cons a (FP r h)
theorem AX (K:XU) {X:Cx} (h:X.K=K):Vf X (rIxL K):=by subst h; exact Nw
theorem AO (K:XU) {X:Cx} (h:X.K=K):Vf X (rIxT K):=by subst h; exact Kx
theorem Bx (K:XU) {X:Cx} (h:X.K=K) {es:List Expr} {k:Nat} {t:T9} {n:Nat} {pos:Pos} (hc:X.calm=true) (ht:PGs X es t)
  (hn:(assignEach es X.env).length=n:=by rfl) (hst:(assignEach es X.env).findIdx? (·.1)=none:=by rfl):PG X (.Tuple es k pos) (gTup K n t):=by subst h; exact QA hc ht hn hst
end L2
namespace L2
open PySem PySem.W PyProof.Rows
section
variable {n:Nat} (hn:0 < n)
include hn
end
end L2
namespace L2
open PySem PySem.Spec PyProof.Rows PySem.W
theorem A4.there {P:Program} {w:World} {H:Hp} {h:Heap} {a:Addr} {o:HO} (x:A4 P w H h a o):∃ ob,h.get? a=some ob:=by
 cases o with
 | lst xs=>obtain ⟨_,_,_,_,e⟩:=x; exact ⟨_,e⟩
 | tup xs=>obtain ⟨_,_,_,⟨ob,e,_⟩,_⟩:=x; exact ⟨ob,e⟩
 | dK kvs=>obtain ⟨_,_,_,_,o,_,_,e,_⟩:=x; exact ⟨o,e⟩
 | dT kvs=>obtain ⟨_,_,_,_,o,_,_,e,_⟩:=x; exact ⟨o,e⟩
 | set S n=>obtain ⟨o,_,_,_,e,_⟩:=x; exact ⟨o,e⟩
 | ins C dx fs=>obtain ⟨_,_,_,e,_⟩:=x; exact ⟨_,e⟩
 | own y=>exact x
 | xd fs=>obtain ⟨_,⟨_,_,_,e,_⟩,_⟩:=x; exact ⟨_,e⟩
 | rng lo hi=>obtain ⟨_,_,_,e⟩:=x; exact ⟨_,e⟩
 | frz ob u=>obtain ⟨e,_⟩:=x; exact ⟨_,e⟩
 | tbl ps=>exact ⟨_,(show h.get? a=some _ from x)⟩
 | met f y=>exact ⟨_,(show h.get? a=some _ from x)⟩
 | ext φ=>obtain ⟨_,⟨_,e⟩,_⟩:=x; exact ⟨_,e⟩
theorem Ao.laidF {X:Cx} {pins:List (Addr × Obj)} {σ:St} {H:Hp} {s:Shared} {h2:Heap} {D:Addr} {o:HO} {m:Str->Option Value} (I:Ao X pins σ H s)
  (hl:s.heap.Ns X.env.locals m/\∀ (i:Nat) (x:Str) (v:V),X.N[i]? = some x->σ[i]? = some (some v)->Vis X.env.scope x->∃ u,A1 v u/\Look X.env s.heap m x u) (hn:h2.Ns X.env.locals m)
  (kp:∀ b ob,b ≠ X.env.locals->s.heap.get? b=some ob->h2.get? b=some ob) (hD:s.heap.get? D=none) (hDL:D ≠ X.env.locals) (new:A4 X.prog X.w (upd H D o) h2 D o):Ao X pins σ (upd H D o) { s with heap:=h2 }:=by
 have fD:H D=none:=by
  cases z:H D with
  | none=>rfl
  | some u=>
   obtain ⟨ob,e⟩:=A4.there (I.hok D u z);rw [hD] at e;cases e
 have neL:∀ b ob,X.s₀.heap.get? b=some ob->b ≠ X.env.locals:=fun b ob e=>Yh (Yj (Ye e) I.ok.above)
 have neD:∀ b ob,s.heap.get? b=some ob->b ≠ D:=fun b ob e z=>by rw [z,hD] at e; cases e
 have cellK:∀ x c,X.env.cells.lookup x=some c->∀ v,s.heap.IsCell c v->h2.IsCell c v:=fun x c e v ⟨ob,ho,hd⟩=>⟨ob,kp c ob (I.cne x c e) ho,hd⟩
 refine ⟨I.ok,I.os,I.bare,⟨?_,?_,?_,?_,?_,?_,?_⟩,⟨m,hn,?_⟩,?_,?_,?_,?_,?_,I.len⟩
 ·exact fun b ob e n hb hx=>kp b ob (neL b ob e) (I.base.keep b ob e n hb hx)
 ·intro b ob e n hb hx;obtain ⟨sl,q⟩:=I.base.slot b ob e n hb hx;exact ⟨sl,kp b _ (neL b ob e) q⟩
 ·intro b ob e n hx;obtain ⟨Wq,q⟩:=I.base.there b ob e hx;rw [Af (neD b Wq q)];exact I.base.free b ob e n hx
 ·intro b ob e hx;obtain ⟨Wq,q⟩:=I.base.there b ob e hx;exact ⟨Wq,kp b Wq (neL b ob e) q⟩
 ·intro b xs e;have q:=I.base.tups b xs e;rw [Af (Ah q fD)];exact q
 ·intro b ob u e;have q:=I.base.frzs b ob u e;rw [Af (Ah q fD)];exact q
 ·intro b ps e;obtain ⟨more,q⟩:=I.base.tbls b ps e;exact ⟨more,by rw [Af (Ah q fD)]; exact q⟩
 ·intro i x v e1 e2 e3;obtain ⟨u,r,l⟩:=hl.2 i x v e1 e2 e3;refine ⟨u,r,?_⟩;rcases l with l | ⟨k,c,e,z⟩
  ·exact .inl l
  ·exact .inr ⟨k,c,e,cellK x c e _ z⟩
 ·intro x c e;obtain ⟨v,z⟩:=I.cell x c e;exact ⟨v,cellK x c e v z⟩
 ·rw [Af (Ne.symm hDL)];exact I.free
 ·intro x c e;obtain ⟨v,ob,ho,_⟩:=I.cell x c e;rw [Af (neD c ob ho)];exact I.freeC x c e
 ·intro p hp;obtain ⟨e,n,ne,nf,d⟩:=I.pin p hp;exact ⟨kp _ _ ne e,by rw [Af (neD _ _ e)]; exact n,ne,nf,d⟩
 ·intro b u e;by_cases hb:b=D
  ·subst hb;rw [Ab] at e;cases e
   exact new
  ·rw [Af hb] at e;refine (I.hok b u e).stay (fun c v hc q=>kp c v ?_ q) (fun c q=>by rw [Af (Ah q fD)]; exact q) fun c xs q=>by rw [Af (Ah q fD)]; exact q
   rintro rfl;rcases hc with rfl | hc
   ·rw [I.free] at e; cases e
   ·rw [I.free] at hc; cases hc
end L2
namespace L2
open PySem PySem.Spec PyProof.Rows
section
variable {prog:Program} {w:World} {A:Around} {E:Value->Shared->Prop} {s:Shared}
end
def BJ (a b:Str):Str:=if b.cps.toList < a.cps.toList then b else a
def BK (a b:Str):Str:=if a.cps.toList < b.cps.toList then b else a
theorem MQ {ss:List Str}:∀ {us:List Value},Az (ss.map V.str) us->StrsAre us ss:=by
 induction ss with
 | nil=>intro us r; cases r; exact .nil
 | cons x ss ih=>
  intro us r;cases r with
  | cons r1 r2=>
   obtain ⟨t,rfl⟩:=r1;exact .cons x t (ih r2)
theorem Hm:∀ {us:List Value} {ss:List Str},StrsAre us ss->Az (ss.map V.str) us
 | _,_,.nil=>.nil
 | _,_,.cons x t r=>.cons ⟨t,rfl⟩ (Hm r)
theorem BP {X:Cx}:Bg X (.builtin "sorted") (fun xs H Q=>∃ (a:Addr) (ss:List Str),xs=[.ref a]/\AM X.K H a (ss.map V.str)/\ss.length < 64 /\
  ∀ (l:Addr) (Ck:List Str),H l=none->Ck.Perm ss->sortedS Ck=true->Q (.ref l) (upd H l (.lst (Ck.map V.str)))):=by
 intro pins s σ H xs us Q I r h;obtain ⟨a,ss,rfl,ha,IK,q⟩:=h;obtain ⟨u,rfl,ru⟩:=BR r;cases ru
 obtain ⟨Aq,rv,pl,hz⟩:=I.list ha;have hl:Aq.length=ss.length:=by rw [<-rv.length,XJ]
 refine sorted_strs pl.isList (MQ rv) (by lia) fun out Ck h1 h2 h3=>?_
 obtain ⟨e,he⟩:=sortedAll_at s.heap Aq out;refine ⟨.ref (s.heap.objs.size + 1),_,I.laid (o:=.lst (Ck.map V.str)) (t':=s.toks) (fun b o z=>sortedAll_old z) (Y8 _) ⟨?_,out.toList,e,Hm h1,by simpa using he⟩,rfl,q _ Ck (I.hok.fresh (Y8 _)) h2 h3⟩;rw [XJ,h2.length_eq];have:100 < sizeLine:=by decide
 lia
end L2
namespace L2
open PySem PySem.Spec PySem.W PyProof.Rows
theorem CW {vs:List Value} {p:Keyed} (h:p ∈ (pairsOf vs).toList):p=(p.2,p.2)/\p.2 ∈ vs:=by
 rw [pairsOf_toList] at h;obtain ⟨e,m⟩:=mem_zip_self h;refine ⟨?_,e ▸ m⟩;obtain ⟨x,y⟩:=p;exact Prod.ext e rfl
theorem O5 (vs:List Value):(pairsOf vs).toList.map (·.2)=vs:=by
 rw [pairsOf_toList];induction vs with
 | nil=>rfl
 | cons v vs ih=>rw [aj,Ym,ih]
theorem QJ {vs:List Value} {xs:Array Keyed} (h:xs.Perm (pairsOf vs)):(xs.toList.map (·.2)).Perm vs:=by
 have q:=(ZC.mp h).map (·.2);rw [O5] at q;exact q
theorem QI {lt:Keyed->Keyed->Bool} {vs:List Value} {xs:Array Keyed} (h:xs.Perm (pairsOf vs)) (hs:xs.toList.Pairwise (Nl lt)):(xs.toList.map (·.2)).Pairwise (fun u v=>lt (v,v) (u,u)=false):=by
 rw [Zn];refine hs.imp_of_mem fun {p q} hp hq n=>?_
 have e1:=(CW ((ZC.mp h).mem_iff.mp hp)).1;have e2:=(CW ((ZC.mp h).mem_iff.mp hq)).1;rw [<-e1,<-e2];exact n
section
variable {prog:Program} {w:World} {A:Around} {E:Value->Shared->Prop} {s:Shared} {lt:Keyed->Keyed->Bool}
def Cmpd (prog:Program) (w:World) (s:Shared) (lt:Keyed->Keyed->Bool) (vs:List Value):Prop:=
 2<=vs.length->∀ (A:Around) (h':Heap),(∀ b o,s.heap.get? b=some o->h'.get? b=some o) ->
  ∃ κ,(∀ (Q:SortKind->Shared->Prop) (E:Value->Shared->Prop),Q κ { s with heap:=h' }->wpAny (model prog w) A (keyKind' vs.toArray) Q E { s with heap:=h' })/\Tf prog w A { s with heap:=h' } κ lt (pairsOf vs)
end
inductive Eg where
 | i (n:Int)
 | s (x:Str)
 deriving DecidableEq
def DK:Eg->Eg->Bool
 | .i a,.i b=>decide (a < b)
 | .s a,.s b=>decide (a.cps.toList < b.cps.toList)
 | .i _,.s _=>true
 | .s _,.i _=>false
def AA:List Eg->List Eg->Bool
 | [],[]=>false
 | [],_ :: _=>true
 | _ :: _,[]=>false
 | x :: xs,y :: ys=>if x=y then AA xs ys else DK x y
theorem SQ (a:Eg):DK a a=false:=by
 cases a with
 | i n=>simp [DK]
 | s x=>exact strKind.irrefl x.cps.toList
theorem SN:∀ {a b c:Eg},DK a b=true->DK b c=true->DK a c=true
 | .i a,.i b,.i c,h1,h2=>by
  simp only [DK,decide_eq_true_eq] at h1 h2 ⊢;lia
 | .i _,.i _,.s _,_,_=>rfl
 | .i _,.s _,.s _,_,_=>rfl
 | .i _,.s _,.i _,_,h=>by cases h
 | .s _,.i _,_,h,_=>by cases h
 | .s _,.s _,.i _,_,h=>by cases h
 | .s x,.s y,.s z,h1,h2=>strKind.trans x.cps.toList y.cps.toList z.cps.toList h1 h2
theorem SO {a b:Eg} (h:a ≠ b):DK a b=true\/DK b a=true:=by
 cases a <;> cases b <;> simp [DK]
 ·have:∀ x y:Int,Eg.i x ≠ Eg.i y->x < y\/y < x:=fun x y h=>by
   have:x ≠ y:=fun e=>h (by rw [e])
   lia
  exact this _ _ h
 ·rename_i x y
  by_cases h1:x.cps.toList < y.cps.toList
  ·exact .inl h1
  ·by_cases h2:y.cps.toList < x.cps.toList
   ·exact .inr h2
   ·exfalso
    apply h;have e:=strKind.total x.cps.toList y.cps.toList (decide_eq_false h1) (decide_eq_false h2);cases x
    cases y
    rw [ax] at e;subst e;rfl
theorem DV:∀ a,AA a a=false
 | []=>rfl
 | x :: xs=>by unfold AA; rw [if_pos rfl]; exact DV xs
theorem UI {a b:Eg} (h:DK a b=true):a ≠ b:=fun e=>by
 rw [e,SQ] at h;cases h
theorem FJ:∀ a b c,AA a b=true->AA b c=true->AA a c=true
 | [],[],_,h,_=>by cases h
 | [],_ :: _,[],_,h=>by cases h
 | [],_ :: _,_ :: _,_,_=>rfl
 | _ :: _,[],_,h,_=>by cases h
 | _ :: _,_ :: _,[],_,h=>by cases h
 | x :: xs,y :: ys,z :: zs,h1,h2=>by
  unfold AA at h1 h2 ⊢;by_cases e1:x=y
  ·rw [if_pos e1] at h1;by_cases e2:y=z
   ·rw [if_pos e2] at h2;rw [if_pos (e1.trans e2)];exact FJ xs ys zs h1 h2
   ·rw [if_neg e2] at h2;rw [if_neg (by rw [e1]; exact e2),e1];exact h2
  ·rw [if_neg e1] at h1;by_cases e2:y=z
   ·rw [if_neg (by rw [<-e2]; exact e1),<-e2];exact h1
   ·rw [if_neg e2] at h2;have h3:=SN h1 h2;rw [if_neg (UI h3)];exact h3
theorem Nu:∀ a b,AA a b=false->AA b a=false->a=b
 | [],[],_,_=>rfl
 | [],_ :: _,h,_=>by cases h
 | _ :: _,[],_,h=>by cases h
 | x :: xs,y :: ys,h1,h2=>by
  unfold AA at h1 h2;by_cases e:x=y
  ·rw [if_pos e] at h1;rw [if_pos e.symm] at h2;rw [e,Nu xs ys h1 h2]
  ·rw [if_neg e] at h1;rw [if_neg (fun z=>e z.symm)] at h2;rcases SO e with q | q
   ·rw [h1] at q; cases q
   ·rw [h2] at q; cases q
theorem Sv (a b c:List Eg) (h:AA a c=true):AA a b=true\/AA b c=true:=by
 cases e1:AA a b
 ·right;cases e2:AA b a
  ·rw [<-Nu a b e1 e2]; exact h
  ·exact FJ _ _ _ e2 h
 ·exact .inl rfl
theorem Kw (f:Value->List Eg):NQ (fun x y=>AA (f x.1) (f y.1)):=
 ⟨fun a=>DV _,fun a b c=>FJ _ _ _,fun a b c=>Sv _ _ _⟩
def BS:Value->Eg
 | .int n _=>.i n
 | .str x _=>.s x
 | _=>.i 0
def NX:V->Eg
 | .int n=>.i n
 | .str x=>.s x
 | _=>.i 0
def CK (h:Heap):Value->List Eg
 | .ref a=>match h.get? a with
  | some o=>(match o.data with
   | .seq xs _=>xs.toList.map BS
   | _=>[])
  | none=>[]
 | v=>[BS v]
def QV (H:Hp):V->List Eg
 | .ref a=>match H a with
  | some (.tup ys)=>ys.map NX
  | _=>[]
 | v=>[NX v]
def LR (k:Bool) (v:V):Prop:=if k=true then ∃ x,v=.str x else ∃ n,v=.int n
def CF (k:Bool) (v:Value):Prop:=if k=true then ∃ x t,v=.str x t else ∃ n t,v=.int n t
theorem S1 {k:Bool} {v:V} {u:Value} (r:A1 v u) (h:LR k v):CF k u/\BS u=NX v:=by
 unfold LR at h;unfold CF;cases k with
 | true=>
  simp only [if_true] at h ⊢;obtain ⟨x,rfl⟩:=h;obtain ⟨t,rfl⟩:=r;exact ⟨⟨x,t,rfl⟩,rfl⟩
 | false=>
  simp only [Y1,if_false] at h ⊢;obtain ⟨x,rfl⟩:=h;obtain ⟨t,rfl⟩:=r;exact ⟨⟨x,t,rfl⟩,rfl⟩
def MD (H:Hp) (kd:Nat->Bool) (v:V):Prop:=∃ t ys,v=.ref t/\H t=some (.tup ys)/\ys ≠ []/\∀ i y,ys[i]? = some y->LR (kd i) y
def LN (h:Heap) (kd:Nat->Bool) (v:Value):Prop:=∃ t o xs n,v=.ref t/\h.get? t=some o/\o.cls=.type "tuple"/\o.data=.seq xs n/\0 < xs.size/\∀ (i:Nat) x,xs.toList[i]? = some x->CF (kd i) x
theorem PQ {X:Cx} {pins:List (Addr × Obj)} {σ:St} {H:Hp} {s:Shared} (I:Ao X pins σ H s) {kd:Nat->Bool} {v:V} {u:Value} (r:A1 v u) (h:MD H kd v):LN s.heap kd u/\CK s.heap u=QV H v:=by
 obtain ⟨t,ys,rfl,ht,ne,hy⟩:=h;cases r
 obtain ⟨_,Aq,rv,⟨o,ho,hc,n,hd⟩,_⟩:=(show A4 X.prog X.w H s.heap t (.tup _) from I.hok t _ ht)
 have e:QV H (.ref t)=ys.map NX:=by
  show (match H t with | some (.tup ys)=>ys.map NX | _=>[])=_
  rw [ht]
 have e2:CK s.heap (.ref t)=Aq.map BS:=by
  show (match s.heap.get? t with | some o=>(match o.data with | .seq xs _=>xs.toList.map BS | _=>[]) | none=>[])=_
  rw [ho];dsimp only;rw [hd]
 have all:∀ {ys:List V} {Aq:List Value} (k:Nat),Az ys Aq->(∀ i y,ys[i]? = some y->LR (kd (k + i)) y)->(∀ (i:Nat) x,Aq[i]? = some x->CF (kd (k + i)) x)/\Aq.map BS=ys.map NX:=by
  intro ys;induction ys with
  | nil=>intro Aq k rv _; cases rv; exact ⟨fun i x e=>by simp at e,rfl⟩
  | cons y ys ih=>
   intro Aq k rv hy;cases rv with
   | cons r1 r2=>
    obtain ⟨a1,a2⟩:=S1 r1 (hy 0 y rfl);obtain ⟨b1,b2⟩:=ih (k + 1) r2 fun i z e=>by
     have:=hy (i + 1) z (by simpa using e);rw [show k + 1 + i=k + (i + 1) by lia];exact this
    refine ⟨fun i x e=>?_,by rw [Ym,Ym,a2,b2]⟩;cases i with
    | zero=>
     rw [YO] at e;cases e
     exact a1
    | succ i=>
     have:=b1 i x (by simpa using e);rw [show k + 1 + i=k + (i + 1) by lia] at this;exact this
 obtain ⟨a1,a2⟩:=all 0 rv fun i y e=>by rw [Zr]; exact hy i y e
 refine ⟨⟨t,o,Aq.toArray,n,rfl,ho,hc,hd,?_,fun i x e=>?_⟩,by rw [e,e2,a2]⟩
 ·have:=rv.length;have:0 < ys.length:=Zd.mpr ne;simp;lia
 ·have:=a1 i x (by simpa using e);rw [Zr] at this;exact this
section
variable {prog:Program} {w:World} {A:Around} {E:Value->Shared->Prop} {s:Shared} {Q:Bool->Shared->Prop}
theorem Sm {k b:Bool} {u v:Value} (hu:CF k u) (hv:CF k v) (h:Q (DK (BS u) (BS v)) s):wpAny (model prog w) A (oneLt' b u v) Q E s:=by
 unfold CF at hu hv;cases k with
 | true=>
  simp only [if_true] at hu hv;obtain ⟨x,t,rfl⟩:=hu;obtain ⟨y,t',rfl⟩:=hv;cases b with
  | true=>exact oneLt_str h
  | false=>exact kat_one _ _ (PySem.P.lt_str h)
 | false=>
  simp only [Y1,if_false] at hu hv;obtain ⟨x,t,rfl⟩:=hu;obtain ⟨y,t',rfl⟩:=hv;cases b with
  | true=>exact oneLt_int h
  | false=>exact kat_one _ _ (lt_int h)
theorem UC {k:Bool} {u v:Value} (hu:CF k u) (hv:CF k v):SeqAt.EqAt A s u v (decide (BS u=BS v)):=by
 unfold CF at hu hv;cases k with
 | true=>
  simp only [if_true] at hu hv;obtain ⟨x,t,rfl⟩:=hu;obtain ⟨y,t',rfl⟩:=hv;have e:decide (BS (.str x t)=BS (.str y t'))=(x == y):=by
   show decide (Eg.s x=Eg.s y)=_
   rw [YZ];simp
  rw [e];exact SeqAt.EqAt.str_str x t y t'
 | false=>
  simp only [Y1,if_false] at hu hv;obtain ⟨x,t,rfl⟩:=hu;obtain ⟨y,t',rfl⟩:=hv;have e:decide (BS (.int x t)=BS (.int y t'))=(x == y):=by
   show decide (Eg.i x=Eg.i y)=_
   rw [YZ];simp
  rw [e];exact SeqAt.EqAt.int_int x t y t'
theorem JC {b:Bool} {kd:Nat->Bool}:∀ (xs ys:List Value) (i:Nat),(∀ (j:Nat) x,xs[j]? = some x->CF (kd (i + j)) x)->(∀ (j:Nat) x,ys[j]? = some x->CF (kd (i + j)) x) ->
  Q (AA (xs.map BS) (ys.map BS)) s->KatLex prog w A b (decide (xs.length < ys.length)) Q (xs.zip ys) i s
 | [],[],i,_,_,h=>h
 | [],y :: ys,i,_,_,h=>h
 | x :: xs,[],i,_,_,h=>h
 | x :: xs,y :: ys,i,hx,hy,h=>by
  have kx:CF (kd i) x:=hx 0 x rfl;have ky:CF (kd i) y:=hy 0 y rfl;rw [Ym,Ym] at h;unfold AA at h;refine kat_cons (UC kx ky _ _ _ _ ?_);refine kat_go (fun e=>kat_yes ?_) (fun e=>kat_no (Sm kx ky ?_))
  ·have e':=of_decide_eq_true e;rw [if_pos e'] at h;have r:=JC (b:=b) (kd:=kd) xs ys (i + 1) (fun j z e=>by rw [show i + 1 + j=i + (j + 1) by lia]; exact hx (j + 1) z (by simpa using e)) (fun j z e=>by rw [show i + 1 + j=i + (j + 1) by lia]; exact hy (j + 1) z (by simpa using e)) h;have e2:decide ((x :: xs).length < (y :: ys).length)=decide (xs.length < ys.length):=by simp
   rw [e2];exact r
  ·have e':=of_decide_eq_false e;rw [if_neg e'] at h;exact h
theorem TL {kd:Nat->Bool} {u v:Value} (hu:LN s.heap kd u) (hv:LN s.heap kd v) (h:Q (AA (CK s.heap u) (CK s.heap v)) s):wpAny (model prog w) A (keyLt' (tuples' true) u v) Q E s:=by
 obtain ⟨t,o,xs,n,rfl,ho,hc,hd,p,hx⟩:=hu;obtain ⟨t',o',PD,n',rfl,IY,Hq,K0,p',My⟩:=hv;have e1:CK s.heap (.ref t)=xs.toList.map BS:=by
  show (match s.heap.get? t with | some o=>(match o.data with | .seq xs _=>xs.toList.map BS | _=>[]) | none=>[])=_
  rw [ho];dsimp only;rw [hd]
 have e2:CK s.heap (.ref t')=PD.toList.map BS:=by
  show (match s.heap.get? t' with | some o=>(match o.data with | .seq xs _=>xs.toList.map BS | _=>[]) | none=>[])=_
  rw [IY];dsimp only;rw [K0]
 rw [e1,e2] at h;refine kat_lt ho hd IY K0 ?_;have e3:decide (xs.size < PD.size)=decide (xs.toList.length < PD.toList.length):=by simp
 rw [e3];exact JC (kd:=kd) _ _ 0 (fun j x e=>by rw [Zr]; exact hx j x e) (fun j x e=>by rw [Zr]; exact My j x e) h
theorem Jq {kd:Nat->Bool} {vs:List Value} (h:∀ v ∈ vs,LN s.heap kd v):Cmpd prog w s (fun x y=>AA (CK s.heap x.1) (CK s.heap y.1)) vs:=by
 intro h2 A h' kp;have h1:∀ v ∈ vs,LN h' kd v/\CK h' v=CK s.heap v:=fun v hv=>by
  obtain ⟨t,o,xs,n,rfl,ho,hc,hd,p,hx⟩:=h v hv;refine ⟨⟨t,o,xs,n,rfl,kp t o ho,hc,hd,p,hx⟩,?_⟩;show (match h'.get? t with | some o=>(match o.data with | .seq xs _=>xs.toList.map BS | _=>[]) | none=>[])=(match s.heap.get? t with | some o=>(match o.data with | .seq xs _=>xs.toList.map BS | _=>[]) | none=>[])
  rw [ho,kp t o ho]
 refine ⟨tuples' true,?_,?_⟩
 ·intro Q E hq;have tups:∀ l:List Value,(∀ v ∈ l,LN h' kd v)->∃ fs:List Value,KatTups h' l fs/\fs.length=l.length/\∀ f ∈ fs,CF (kd 0) f:=by
   intro l;induction l with
   | nil=>intro _; exact ⟨[],KatTups.nil,rfl,fun f hf=>nomatch hf⟩
   | cons v l ih=>
    intro hl;obtain ⟨fs,k1,k2,k3⟩:=ih fun v hv=>hl v (Yr _ hv)
    obtain ⟨t,o,xs,n,rfl,ho,hc,hd,p,hx⟩:=hl v Ys;have g:xs[0]? = some xs[0]:=YV p;refine ⟨xs[0] :: fs,KatTups.cons ho hc hd g k1,by rw [Yz,Yz,k2],fun f hf=>?_⟩;rcases XX.mp hf with rfl | hf
    ·exact hx 0 _ (by rw [YW]; exact g)
    ·exact k3 f hf
  obtain ⟨fs,k1,k2,k3⟩:=tups vs fun v hv=>(h1 v hv).1
  cases ek:kd 0 with
  | true=>
   refine kat_kind (T:=.type "str") k1 (by lia) (fun v hv=>?_) rfl hq;have q:=k3 v hv;unfold CF at q;rw [ek] at q;simp only [if_true] at q;obtain ⟨x,t,rfl⟩:=q;exact Looks.now
  | false=>
   refine kat_kind (T:=.type "int") k1 (by lia) (fun v hv=>?_) rfl hq;have q:=k3 v hv;unfold CF at q;rw [ek] at q;simp only [Y1,if_false] at q;obtain ⟨x,t,rfl⟩:=q;exact Looks.now
 ·intro x y hx hy Q E hq;obtain ⟨ex,mx⟩:=CW (vs:=vs) (p:=x) (by simpa using hx);obtain ⟨ey,my⟩:=CW (vs:=vs) (p:=y) (by simpa using hy);rw [ex,ey] at hq ⊢;dsimp only at hq ⊢;refine TL (h1 _ mx).1 (h1 _ my).1 ?_;show Q (AA (CK h' x.2) (CK h' y.2)) _
  rw [(h1 _ mx).2,(h1 _ my).2];exact hq
end
theorem Jn {us JW:List Value} (p:JW.Perm us):∀ {vs:List V},Az vs us->∃ Jk,Az Jk JW/\Jk.Perm vs:=by
 induction p with
 | nil=>intro vs h; exact ⟨vs,h,.refl _⟩
 | cons x p ih=>
  intro vs h;cases h with
  | cons h1 h2=>
   obtain ⟨Jk,a,b⟩:=ih h2;exact ⟨_ :: Jk,.cons h1 a,b.cons _⟩
 | swap x y l=>
  intro vs h;cases h with
  | cons h1 h2=>
   cases h2 with
   | cons h3 h4=>exact ⟨_ :: _ :: _,.cons h3 (.cons h1 h4),.swap _ _ _⟩
 | trans p1 p2 V4 V3=>
  intro vs h;obtain ⟨WC,a1,b1⟩:=V3 h;obtain ⟨Wd,a2,b2⟩:=V4 a1;exact ⟨Wd,a2,b2.trans b1⟩
end L2
namespace L2
open PySem PySem.W PyProof.Rows
section
variable {prog:Program} {w:World} {A:Around} {E:Value->Shared->Prop} {s:Shared} {κ:SortKind} {lt:Keyed->Keyed->Bool} {a0:Array Keyed}
end
end L2
namespace L2
open PySem PySem.Spec PyProof.Rows
section
variable {prog:Program} {w:World} {A:Around} {E:Value->Shared->Prop} {s:Shared}
end
def Ex (u:AF):AF:=(BJ u.1 u.2.1,BK u.1 u.2.1,u.2.2)
theorem Hk {X:Cx} {ix:Nat} {x:Str} {px spos:Pos} {tg iter elt:Expr} {ifs:List Expr} {scope:Scope} {cl:List (Str × Addr)} {N:List Str} {pos:Pos} {wi:TI} {g:TG} {tt:TT} {te:TE} {σ0:St->St} (hN:X.N.Nodup) (hix:X.N[ix]? = some x) (hlx:UM X.env.scope x) (hc:X.calm=true) (co:A8 X scope cl)
  (hσ:∀ σ,σ.length=X.N.length->AR X cl scope N σ (σ0 σ)) (hi:PI X tg iter wi)
  (hb:∀ s2 H C fp,PG (An X scope cl N s2 H C fp) tg g/\TC (An X scope cl N s2 H C fp) ifs tt/\PE (An X scope cl N s2 H C fp) elt te)
  (hsw:swapsWith (.ListComp elt [⟨tg,iter,ifs,0⟩] scope pos) (some (.Name x px)) spos.line X.env=pure true:=by rfl)
  (hs:∀ x,foldedSetIterable iter X.env x=pure x:=by intro _; rfl) (hf:X.fn x=true\/X.env.scope.names.lookup x=some .local:=by first | exact .inl rfl | exact .inr rfl | assumption) :
  PS X (.Assign [.Name x px] (.ListComp elt [⟨tg,iter,ifs,0⟩] scope pos) spos) (PY (MP wi g tt te σ0) (JF ix)):=by
 intro pins s σ H DD I h;rw [exec_Assign_Name_used _ _ _ _ hsw];refine wpAny_bind (wpAny_standAt (wpAny_bind ?_));show wpAny _ X.A (do let _ <- comprehension (.ListComp elt [⟨tg,iter,ifs,0⟩] scope pos) scope X.env _ (newList []) false (eval iter X.env) (some (assign (.Name x px) X.env))) _ _ s
 refine wpAny_bind (wpAny_mono (wpAny_comprehension_free (use:=some (assign (.Name x px) X.env)) (Q:=fun _ s'=>SP X pins DD .next s') rfl hs co.clos co.kind co.names
  (wpAny_mono (hi (pins:=pins) s σ H _ I h) (fun xv s1 h1=>wpAny_mono h1 (fun itv s2 h2=>?_) fun _ _ e=>e) fun _ _ e=>e)) (fun _ s' hq=>wpAny_pure (wpAny_pure hq)) fun _ _ e=>e)
 obtain ⟨it,fp,tn,J,H2,rfl,I2,T,ER,f2,hW⟩:=h2;refine wpAny_newObj_type (wpAny_newFunctionEnv co.cell (by intro y hy; cases hy) (fun h₁ Bp Bb=>?_) co.kind);dsimp only at Bp Bb ⊢;generalize Il:s2.heap.push { cls:=.type "list",dict:=none,data:=.seq ([]:List Value).toArray } = HH at Bp Bb ⊢;have Bn:HH.objs.size=s2.heap.objs.size + 1:=by rw [<-Il,YE]
 have old:∀ b o,s2.heap.get? b=some o->h₁.get? b=some o:=fun b o e=>
  Bb.extBut b o (Yh (by rw [Bn]; exact Yy (Ye e))) (XQ _ (Il ▸ XQ _ e))
 have newD:∃ n,h₁.get? s2.heap.objs.size=some { cls:=.type "list",data:=.seq ([]:List Value).toArray n }:=
  ⟨_,Bb.extBut _ _ (Yh (by rw [Bn]; exact Y6 _)) (XQ _ (Il ▸ Yf _ rfl))⟩
 obtain ⟨W,⟨m0,w0⟩,turn⟩:=hW s2.heap.objs.size I2.fresh;have hfo:∀ b ∈ fp,∃ o,s2.heap.get? b=some o:=fun b hb=>let ⟨o,e,_⟩:=T.obj _ _ ER b hb; ⟨o,e⟩
 have I3:Ao (An X scope cl N s2 H2 HH.objs.size fp) [] (σ0 σ) (upd H2 s2.heap.objs.size (.lst [])) { s2 with heap:=h₁,toks:=s2.toks + ([]:List (Str × Value)).length }:=
  I0 I2 f2 hfo co (hσ σ I.len) old (Ya _) (by rw [Bn]; exact Y8 _) (YL (by rw [Bn]; exact Y6 _)) (.inr newD) Bp
 have fC:s2.heap.objs.size<=HH.objs.size:=by rw [Bn]; exact Y8 _
 obtain ⟨hg,ht,he⟩:=hb s2 H2 HH.objs.size fp;have loop:∀ BN:Shared,BN = { s2 with heap:=h₁,toks:=s2.toks + ([]:List (Str × Value)).length } ->
   codeAny (model X.prog X.w) X.A (.compLoop (.ListComp elt [⟨tg,iter,ifs,0⟩] scope pos) 0 (.ref it) (.ref s2.heap.objs.size) (compEnvC scope cl HH.objs.size X.env))
    (compPost (model X.prog X.w) X.A X.xe (some (assign (.Name x px) X.env)) (fun _ s'=>SP X pins DD .next s') (.ref s2.heap.objs.size) HH.objs.size) BN:=by
  rintro BN rfl;have stat:∀ {H':Hp} ,(∀ b ∈ fp,H' b=none)->∀ b ∈ fp,Ef (An X scope cl N s2 H2 HH.objs.size fp) [] H' b:=fun hn b hb=>by
   refine ⟨hn b hb,?_,?_,.inl hb,?_,fun p hp=>by cases hp⟩
   ·obtain ⟨o,e⟩:=hfo b hb;exact Yh (show b < HH.objs.size by rw [Bn]; exact Yy (Ye e))
   ·intro hz;obtain ⟨_,q1,q2,_⟩:=f2 b hb;rcases XX.mp (I2.stkSub b hz) with e | e
    ·exact q1 e
    ·exact q2 e
   ·exact fun x c e=>(f2 b hb).2.2.2.2.1 x c (co.sub x c e)
  refine BL (fun n s'=>∃ i Ay H',Ao (An X scope cl N s2 H2 HH.objs.size fp) [] Ay H' s'/\tn i s'.heap/\(∀ b ∈ fp,H' b=none)/\W i n Ay H') ?_ m0
   ⟨0,σ0 σ,_,I3,T.keep _ _ _ ER fun b hb o e=>old b o e,fun b hb=>?_,w0⟩
  ·rintro n s4 ⟨i,Fw,H4,I4,KP,L8,w4⟩;rcases turn i n Fw H4 w4 with ⟨stop,qn⟩ | ⟨go,step⟩
   ·refine wpAny_mono (T.done (An X scope cl N s2 H2 HH.objs.size fp) rfl rfl rfl hc i [] s4 Fw H4 (fun _ _=>False) I4 (stat L8) KP stop) (fun r s5 ⟨hr,I5⟩=>?_) fun _ _ z=>z.elim
    subst hr;obtain ⟨m5,Rb,_⟩:=id I5.loc;have I6:Ao X pins σ H4 s5:=E8 (h':=s5.heap) I2 f2 fC I5 (Heap.SameBut.refl _ _);have cC:∀ y c,X.env.cells.lookup y=some c->c ≠ HH.objs.size:=fun y c e=>by
     obtain ⟨v,q⟩:=I2.cell y c e;exact Yh (Yj q.lt fC)
    have lC:X.env.locals ≠ HH.objs.size:=Yh (Yj I2.lt fC);show wpAny _ X.A (assign (.Name x px) X.env (.ref s2.heap.objs.size)) _ X.xe s5
    refine wpAny_assign_Name (EE I6 hN hix hlx (v:=.ref s2.heap.objs.size) rfl (fun s7 I7 ⟨a,sb,ha⟩=>?_) hf);have aC:a ≠ HH.objs.size:=by
     rcases ha with rfl | ha
     ·exact lC
     ·exact cC _ _ ha
    refine ⟨m5,Rb.sameBut sb (Ne.symm aC),fun h' L4=>⟨_,H4,?_,qn⟩⟩;exact I7.turned (t':=s7.toks) (it:=HH.objs.size) (fun b o hb e=>(L4.2 b hb).trans e) I5.free (Ne.symm lC) (.inr (Yv I2.sz fC)) cC fun p hp z=>by
     have e:=(I2.pin p hp).1;exact absurd (Yj (Ye e) fC) (by rw [z]; exact YI _)
   ·refine wpAny_mono (T.item (An X scope cl N s2 H2 HH.objs.size fp) rfl rfl rfl hc i [] s4 Fw H4 (fun _ _=>False) I4 (stat L8) KP go) (fun r s5 ⟨u,hr,h5⟩=>?_) fun _ _ z=>z.elim
    subst hr;refine wpAny_mono h5 (fun _ s6 ⟨x,H6,I6,r6,y6,Hu,Rk⟩=>?_) fun _ _ z=>z.elim
    have R4:=I6.pinned (stat Rk) (T.obj _ _ Hu);refine wpAny_mono (hg s6 Fw H6 x u _ R4 r6 (step x H6 y6)) (fun _ s7 ⟨Eh,H7,I7,q7⟩=>?_) fun _ _ z=>z.elim
    refine wpAny_mono (ht s7 Eh H7 _ I7 q7) (fun ok s8 ⟨H8,I8,q8⟩=>?_) fun _ _ z=>z.elim
    have again:∀ {s9:Shared} {Fv:St} {H9:Hp} ,Ao (An X scope cl N s2 H2 HH.objs.size fp) ([] ++ Dz fp s6.heap) Fv H9 s9->(∃ m',m' < n/\W (i + 1) m' Fv H9)->∃ m,m < n/\∃ i Ay H',Ao (An X scope cl N s2 H2 HH.objs.size fp) [] Ay H' s9/\tn i s9.heap/\(∀ b ∈ fp,H' b=none)/\W i m Ay H':=fun {s9 Fv H9} I9 n9=>by
     obtain ⟨m',hm,w9⟩:=n9;refine ⟨m',hm,i + 1,Fv,H9,I9.unpinned,T.keep _ _ _ Hu fun b hb o e=>(I9.pin (b,o) (Yk _ (Yk _ (AU hb e)))).1,fun b hb=>?_,w9⟩;obtain ⟨o,e,d⟩:=T.obj _ _ Hu b hb;exact (I9.pin (b,o) (Yk _ (Yk _ (AU hb e)))).2.1
    cases ok with
    | false=>
     rw [if_neg Yl] at q8 ⊢;exact again I8 q8
    | true=>
     rw [if_pos rfl] at q8 ⊢;refine wpAny_mono (he s8 Eh H8 _ I8 q8) (fun y s9 ⟨v,H9,I9,r9,acc,hacc,hsz,q9⟩=>?_) fun _ _ z=>z.elim
     refine wpAny_mono (C1 (X:=An X scope cl N s2 H2 HH.objs.size fp) s9 Eh H9 (.ref s2.heap.objs.size) [v] (.ref s2.heap.objs.size) [y] (fun _ Pp=>∃ m',m' < n/\W (i + 1) m' Eh Pp) I9 rfl (.cons r9 .nil) ⟨_,acc,v,rfl,rfl,hacc,hsz,q9⟩) (fun _ Tn ⟨_,Pp,R6,_,Q3⟩=>?_) fun _ _ z=>z.elim
     exact again R6 Q3
  ·have z:=(f2 b hb).1;obtain ⟨o,e⟩:=hfo b hb;rw [Af (Yh (Ye e))];exact z
 exact codeAny_compStart_list (loop _ rfl) (T.self _ 0 _ _ _ (T.keep _ _ _ ER fun b hb o e=>old b o e) (loop _ rfl))
theorem Paired.at {α β:Type} {F:α->β->Prop}:∀ {Lx:List α} {Lw:List β},Paired F Lx Lw->∀ {i:Nat} {a:α},Lx[i]? = some a->∃ b,Lw[i]? = some b/\F a b
 | _,_,.nil,i,a,h=>by simp at h
 | _,_,.cons r t,0,a,h=>by
  simp only [YO,Yo.injEq] at h;subst h;exact ⟨_,rfl,r⟩
 | _,_,.cons r t,i + 1,a,h=>by
  simp only [Zv] at h;obtain ⟨b,h1,h2⟩:=Paired.at t h;exact ⟨b,by simpa using h1,h2⟩
theorem Ow {P:Program} {w:World} {k:A6} {u:Value} (h:(AK P w).is k u=true):A1 (kV k) u:=by
 rcases Be (show Ie k u=true from h) with ⟨i,t,rfl,rfl⟩ | ⟨x,t,rfl,rfl⟩
 ·exact ⟨t,rfl⟩
 ·exact ⟨t,rfl⟩
def TH (a:Addr) (kvs:List (A6 × V)) (o:Obj):It:=
 ⟨fun i H=>H a=some (.frz o (.dK kvs))/\i < kvs.length,fun i H x H'=>H'=H/\∃ k v,kvs[i]? = some (k,v)/\x=kV k,fun i H=>H a=some (.frz o (.dK kvs))/\kvs.length<=i⟩
theorem M7 {X:Cx} {pins:List (Addr × Obj)} {σ:St} {H:Hp} {s:Shared} {a:Addr} {o:Obj} {kvs:List (A6 × V)} {es:Array DictEntry} {ep:Nat} (I:Ao X pins σ H s) (e:H a=some (.frz o (.dK kvs))) (he:o.data=.dict es ep) :
  (a == sysModules)=false/\∃ vs,KV kvs vs/\s.heap.DictAt (AK X.prog X.w) a vs ep:=by
 obtain ⟨ho,z,hd,vs,rel,o',SD,SH,h1,h2,h3,h4⟩:=(show A4 X.prog X.w H s.heap a (.frz o (.dK kvs)) from I.hok a _ e)
 rw [ho] at h1;cases h1
 rw [he] at h3;injection h3 with h5 h6;subst h5 h6;exact ⟨hd,vs,rel,o,es,ho,h2,he,h4⟩
theorem Ob {P:Program} {w:World} {K:XU} {tg:Expr} (a it:Addr) {kvs:List (A6 × V)} {o:Obj} {es:Array DictEntry} {ep:Nat} (he:o.data=.dict es ep) :
  LM P w K tg (TH a kvs o) [it] it (fun i h=>h.IsKeyIter it a i kvs.length ep) where
 mem:=by simp
 obj:=fun i h st b hb=>by
  have e:b=it:=by simpa using hb
  subst e;obtain ⟨o,e,c,d⟩:=st;exact ⟨o,e,fun v z=>by rw [d] at z; cases z⟩
 keep:=fun i h h' st k=>st.at fun o e=>k it (by simp) o e
 item:=by
  intro X hP hw hK hc i pins s σ H E I hf st hg;subst hP hw hK;obtain ⟨hq,Bu⟩:=hg;obtain ⟨hd,vs,rel,da⟩:=M7 I hq he;have hx:kvs[i]? = some kvs[i]:=by simp [Bu]
  obtain ⟨⟨k,v⟩,hv,e1,e2⟩:=Paired.at rel hx;have hl:kvs.length=vs.length:=rel.length;obtain ⟨f0,f1,f2,f3,f4,f5⟩:=hf it (by simp);rw [hl] at st;refine wpAny_pyNext_dict_item st da hv fun key h' hkey AH sb=>?_
  have I1:Ao X pins σ H { s with heap:=h' }:=I.turned (t':=s.toks) (fun b o hb e=>(sb.2 b hb).trans e) f0 f1 f3 f4 f5;rw [<-hl] at AH;obtain ⟨o',e,c,d⟩:=id AH;refine ⟨key,rfl,Io (s:={ s with heap:=h' }) e c d (by decide) ⟨kV k,H,I1,Ow hkey,⟨rfl,k,kvs[i].2,?_,rfl⟩,AH,fun b hb=>(hf b hb).1⟩⟩;have W6:kvs[i].1=k:=e1;rw [hx,<-W6]
 done:=by
  intro X hP hw hK hc i pins s σ H E I hf st hg;subst hP hw hK;obtain ⟨hq,hle⟩:=hg;obtain ⟨hd,vs,rel,da⟩:=M7 I hq he;have hl:kvs.length=vs.length:=rel.length;obtain ⟨f0,f1,f2,f3,f4,f5⟩:=hf it (by simp);rw [hl] at st;exact wpAny_pyNext_dict_end (I.ok.hd hc) st da (by simp; lia) fun h' eb=>⟨rfl,I.turned (t':=s.toks) (fun b o hb e=>eb b o hb e) f0 f1 f3 f4 f5⟩
 self:=fun _ _ _ _ _ st h=>wpAny_pyIter_keyiter st h
def Ee (H:Hp) (a:Addr) (kvs:List (A6 × V)) (o:Obj) (H':Hp):Prop:=(H a=some (.dK kvs)/\H'=upd H a (.frz o (.dK kvs)))\/(H a=some (.frz o (.dK kvs))/\H'=H)
theorem Ee.at {H H':Hp} {a:Addr} {kvs:List (A6 × V)} {o:Obj} (f:Ee H a kvs o H'):H' a=some (.frz o (.dK kvs)):=by
 rcases f with ⟨_,rfl⟩ | ⟨e,rfl⟩
 ·exact Ab
 ·exact e
theorem Ee.ne {H H':Hp} {a b:Addr} {kvs:List (A6 × V)} {o:Obj} (f:Ee H a kvs o H') (h:b ≠ a):H' b=H b:=by
 rcases f with ⟨_,rfl⟩ | ⟨e,rfl⟩
 ·exact Af h
 ·rfl
theorem Ao.freeze {X:Cx} {pins:List (Addr × Obj)} {σ:St} {H:Hp} {s:Shared} {a:Addr} {kvs:List (A6 × V)} (I:Ao X pins σ H s) (e:Rd H a (.dK kvs)) :
  ∃ o es ep H',o.data=.dict es ep/\Ee H a kvs o H'/\Ao X pins σ H' s:=by
 rcases e with e | ⟨o,e⟩
 ·obtain ⟨z,hd,vs,rel,o,es,ep,h1,h2,h3,h4⟩:=(show A4 X.prog X.w H s.heap a (.dK kvs) from I.hok a _ e)
  refine ⟨o,es,ep,upd H a (.frz o (.dK kvs)),h3,.inl ⟨e,rfl⟩,?_⟩;exact I.write (x:=a) (e:=a) (h':=s.heap) (t':=s.toks) (by rw [e]; exact True.intro) (.inl rfl) (fun b u _ q=>q) ⟨o,h1⟩ ⟨h1,z,hd,vs,rel,o,es,ep,h1,h2,h3,h4⟩
 ·obtain ⟨ho,z,hd,vs,rel,o',es,ep,h1,h2,h3,h4⟩:=(show A4 X.prog X.w H s.heap a (.frz o (.dK kvs)) from I.hok a _ e)
  rw [ho] at h1;cases h1
  exact ⟨o,es,ep,H,h3,.inr ⟨e,rfl⟩,I⟩
def iDict (tl:TE):TI:=fun σ H R=>tl σ H fun x H1=>∃ a kvs,x=.ref a/\Rd H1 a (.dK kvs)/\∀ o H2,Ee H1 a kvs o H2->R (TH a kvs o) H2
theorem Nd {X:Cx} {tg l:Expr} {tl:TE} (hl:PE X l tl):PI X tg l (iDict tl):=by
 intro pins s σ H R I h;refine Bo (hl (pins:=pins) s σ H _ I h) fun v s1 ⟨x,H1,I1,r1,q1⟩=>?_
 obtain ⟨a,kvs,e,hr,q⟩:=q1;subst e;cases r1
 obtain ⟨o,es,ep,H2,he,fz,I2⟩:=I1.freeze hr;obtain ⟨hd,vs,rel,da⟩:=M7 I2 fz.at he;refine wpAny_pyIter_dict hd da ?_;refine ⟨s1.heap.objs.size,[s1.heap.objs.size],_,_,H2,rfl,I2.kept (t':=s1.toks) fun b o e=>XQ _ e,Ob a _ he,⟨_,Yf _ rfl,rfl,?_⟩,fun b hb=>?_,q o H2 fz⟩
 ·rw [rel.length]; rfl
 ·have e:b=s1.heap.objs.size:=by simpa using hb
  subst e;exact I2.fpOk (Ya _) (I2.hok.fresh (Ya _))
theorem Rm {a:Addr} {kvs:List (A6 × V)} {o:Obj} {g:TG} {tb:TS} {D:ED} {σ:St} {H:Hp} (Pv:Nat->St->Hp->Prop) (h0:Pv 0 σ H) (hl:∀ i σ H,i<=kvs.length->Pv i σ H->H a=some (.frz o (.dK kvs)))
  (hs:∀ i k v σ H,kvs[i]? = some (k,v)->Pv i σ H->g (kV k) σ H fun Ax H2=>tb { D with nx:=Pv (i + 1),ct:=Pv (i + 1),bk:=D.nx } Ax H2) (hd:∀ σ H,Pv kvs.length σ H->D.nx σ H) :
  ∃ W:Nat->Nat->St->Hp->Prop,(∃ m,W 0 m σ H)/\∀ i m σ H,W i m σ H ->
   ((TH a kvs o).stop i H/\D.nx σ H)\/((TH a kvs o).go i H/\∃ N:St->Hp->Prop,(∀ Ay H',N Ay H'->∃ m',m' < m/\W (i + 1) m' Ay H')/\∀ x H',(TH a kvs o).yld i H x H'->g x σ H' fun Ax H2=>tb { D with nx:=N,ct:=N,bk:=D.nx } Ax H2):=by
 refine ⟨fun i m σ H=>m=kvs.length - i/\i<=kvs.length/\Pv i σ H,⟨kvs.length,by simp,Y9 _,h0⟩,?_⟩;rintro i m σ H ⟨rfl,hi,p⟩;have q:=hl i σ H hi p;by_cases Bu:i < kvs.length
 ·refine .inr ⟨⟨q,Bu⟩,Pv (i + 1),fun Ay H' p'=>⟨kvs.length - (i + 1),by lia,rfl,Bu,p'⟩,fun x H' y=>?_⟩;obtain ⟨e,k,v,e1,e2⟩:=y;subst e e2;exact hs i k v σ _ e1 p
 ·have e:i=kvs.length:=by lia
  subst e;exact .inl ⟨⟨q,Ya _⟩,hd σ H p⟩
section
variable {prog:Program} {w:World} {A:Around} {E:Value->Shared->Prop} {s:Shared}
end
theorem Cd (a:List Nat):¬ a < a:=ZY a
section
variable {X:Cx} {pins:List (Addr × Obj)} {σ Ay:St} {H H':Hp} {s2 s':Shared} {scope:Scope} {cl:List (Str × Addr)} {N:List Str} {fp:List Addr} {C D:Addr} {h₁ h':Heap} {t':Nat}
theorem E7 {ob:HO} (I:Ao X pins σ H s2) (hf:∀ b ∈ fp,Ef X pins H b) (hfo:∀ b ∈ fp,∃ o,s2.heap.get? b=some o) (co:A8 X scope cl) (hσ:AR X cl scope N σ Ay)
  (k:∀ b o,s2.heap.get? b=some o->h₁.get? b=some o) (hD:s2.heap.objs.size<=D) (hC:s2.heap.objs.size<=C) (hDC:C ≠ D)
  (newO:A4 X.prog X.w (upd H D ob) h₁ D ob) {m:Str->Option Value} (hn:h₁.Ns C m) :
  Ao (An X scope cl N s2 H C fp) [] Ay (upd H D ob) { s2 with heap:=h₁,toks:=t' }:=by
 have fD:H D=none:=I.hok.fresh hD;have fC:H C=none:=I.hok.fresh hC;have lts:∀ b ∈ fp,b < s2.heap.objs.size:=fun b hb=>let ⟨_,e⟩:=hfo b hb; Ye e
 have cells_lt:∀ x c,cl.lookup x=some c->c < s2.heap.objs.size:=fun x c e=>by
  obtain ⟨v,q⟩:=I.cell x c (co.sub x c e);exact q.lt
 have ok:Cx.Ok (An X scope cl N s2 H C fp):=by
  refine ⟨I.ok.mod,?_,I.ok.glob,I.ok.blt,hC,?_,?_,?_,I.ok.hd,I.ok.frames,.inl rfl,?_,I.bs,Yv I.ok.bsz I.sz,?_,?_,I.stack,I.stkFree⟩
  ·exact co.kind
  ·exact fun x y c e1 e2=>I.ok.inj x y c (co.sub x c e1) (co.sub y c e2)
  ·exact fun x h=>co.has x h
  ·exact fun x c h _=>by cases h
  ·intro b hb;refine ⟨fun e=>?_,fun x c e=>(hf b hb).2.2.2.2.1 x c (co.sub x c e)⟩;have z:=lts b hb;exact absurd (Yj z hC) (by rw [show b=C from e]; exact YI _)
  ·intro b o e hb;have Ez:b ∈ fp:=hb;rcases (hf b Ez).2.2.2.1 with z | z
   ·exact I.ok.noex b o e z
   ·exact absurd (Yj (Ye e) (Yv I.ok.bsz z)) (YI _)
  ·intro b hb hz;have Ez:b ∈ fp:=hb;obtain ⟨_,f1,f2,_⟩:=hf b Ez;rcases XX.mp (I.stkSub b hz) with e | e
   ·exact f1 e
   ·exact f2 e
 refine ⟨ok,rfl,I.bare,Un.laid k hD fD,?_,?_,?_,?_,?_,I.hok.laid k hD newO,hσ.1⟩
 ·refine ⟨m,hn,fun i x v e1 e2 _=>?_⟩;obtain ⟨⟨j,j1,j2⟩,kk,kr⟩:=hσ.2 i x v e1 e2;obtain ⟨mo,_,hl⟩:=I.loc;obtain ⟨u,r,l⟩:=hl j x v j1 j2 (by
   rcases kk with z | z
   ·exact .inr (.inl z)
   ·exact .inr (.inr z))
  refine ⟨u,r,.inr ⟨kr,?_⟩⟩;obtain ⟨c,hc⟩:=co.has x kr;rcases l with ⟨z,_⟩ | ⟨_,c',Hq,hcell⟩
  ·rcases kk with q | q
   ·rw [z] at q; cases q
   ·rw [z] at q; cases q
  ·have e3:=co.sub x c hc;rw [Hq] at e3;have e4:c'=c:=Yo.inj e3;subst e4;obtain ⟨o,ho,hd⟩:=hcell;exact ⟨c',hc,o,k _ o ho,hd⟩
 ·intro x c e;obtain ⟨v,o,ho,hd⟩:=I.cell x c (co.sub x c e);exact ⟨v,o,k _ o ho,hd⟩
 ·show upd H D ob C=none
  rw [Af hDC];exact fC
 ·intro x c e;rw [Af (Yh (Yj (cells_lt x c e) hD))];exact I.freeC x c (co.sub x c e)
 ·intro p hp;cases hp
end
section
variable {prog:Program} {w:World} {A:Around} {R:Result->Shared->Prop} {s:Shared}
theorem BB {kx vx target iter:Expr} {ifs:List Expr} {scope:Scope} {pos:Pos} {it:Value} {D:Addr} {env:Env} (I:Nat->Shared->Prop)
  (turn:∀ n s,I n s->wpAny (model prog w) A (pyNext it) (fun r AI=>match r with
   | none=>R (.ok .next) AI
   | some v=>wpAny (model prog w) A (letOwnedTupleGo target it v) (fun _ KJ=>wpAny (model prog w) A (assign target env v) (fun _ Em=>
     wpAny (model prog w) A (forIn ifs true fun c r=>if r=true then do let ok <- isTrue c env (eval c env); pure (ForInStep.yield ok) else pure (ForInStep.yield r)) (fun ok BN=>
      if ok=true then wpAny (model prog w) A (eval kx env) (fun kv Qa=>wpAny (model prog w) A (eval vx env) (fun vv PZ=>
       wpAny (model prog w) A (dictSet D kv vv) (fun _ Vi=>∃ m,m < n/\I m Vi) (notedBy (model prog w) A env fun e s'=>R (.error e) s') PZ) (notedBy (model prog w) A env fun e s'=>R (.error e) s') Qa) (notedBy (model prog w) A env fun e s'=>R (.error e) s') BN
      else ∃ m,m < n/\I m BN) (notedBy (model prog w) A env fun e s'=>R (.error e) s') Em) (notedBy (model prog w) A env fun e s'=>R (.error e) s') KJ) (notedBy (model prog w) A env fun e s'=>R (.error e) s') AI) (notedBy (model prog w) A env fun e s'=>R (.error e) s') s)
  (n:Nat) (h:I n s) :
  codeAny (model prog w) A (.compLoop (.DictComp kx vx [⟨target,iter,ifs,0⟩] scope pos) 0 it (.ref D) env) R s:=by
 refine codeAny_loop rfl I (fun n s hI=>?_) n h;show wpAny _ A ((compTurn (.DictComp kx vx [⟨target,iter,ifs,0⟩] scope pos) 0 it (.ref D) env).onRaise (fun x=>do noteFrame x env; theTreesLotGoes x)) _ _ s
 refine wpAny_noted ?_;rw [compTurn_dict];refine wpAny_bind (wpAny_standAt (wpAny_bind (wpAny_mono (turn n s hI) (fun r AI h₁=>?_) fun _ _ h'=>h')));cases r with
 | none=>exact wpAny_pure h₁
 | some v=>
  refine wpAny_bind (wpAny_mono h₁ (fun _ KJ QZ=>?_) fun _ _ h'=>h');refine wpAny_bind (wpAny_mono QZ (fun _ Em Mx=>wpAny_bind (wpAny_mono Mx (fun ok BN Mw=>?_) fun _ _ h'=>h')) fun _ _ h'=>h');cases ok with
  | false=>exact wpAny_pure ⟨rfl,Mw⟩
  | true=>
   exact wpAny_bind (wpAny_bind (wpAny_mono Mw (fun kv Qa U6=>wpAny_bind (wpAny_holding (wpAny_mono U6 (fun vv PZ U5=>wpAny_bind (wpAny_standAt (wpAny_holding (wpAny_mono U5 (fun _ Vi Xe=>wpAny_pure ⟨rfl,Xe⟩) fun _ _ h'=>h')))) fun _ _ h'=>h'))) fun _ _ h'=>h'))
end
theorem JJ {X:Cx} {pins:List (Addr × Obj)} {σ:St} {H:Hp} {s:Shared} {a:Addr} {k:A6} {v:V} {u r:Value} {kvs:List (A6 × V)} {A:Around} {E:Value->Shared->Prop} {Q:Unit->Shared->Prop} (I:Ao X pins σ H s) (e:H a=some (.dK kvs)) (l:kvs.length < sizeLine) (ry:A1 (kV k) u) (rv:A1 v r)
  (h:∀ s',Ao X pins σ (upd H a (.dK (Bj kvs k v))) s'->Q () s'):wpAny (model X.prog X.w) A (dictSet a u r) Q E s:=by
 obtain ⟨z,hd,vs,rel,dd⟩:=Rt I.hok e;have hz:vs.length<=sizeLine:=by rw [<-rel.length]; exact z
 have hl:(Bj kvs k v).length<=sizeLine:=by have:=CD kvs k v; lia
 refine wpAny_dictSet_pairs (hsz:=hz) (G8 ry) dd fun h' LU hs=>h _ ?_
 have he:∃ q,h'.get? a=some q:=let ⟨q,_,_,hq,_⟩:=LU; ⟨q,hq⟩;exact FQ I (by rw [e]; exact True.intro) hs he (K3 hl hd (rel.put k rv) LU)
def PX (wi:TI) (g:TG) (tt:TT) (tk tv:TE) (σ0:St->St):TE:=fun σ H Q=>wi σ H fun J H1=>∀ D,H1 D=none->∃ W:Nat->Nat->St->Hp->Prop,(∃ m,W 0 m (σ0 σ) (upd H1 D (.dK []))) /\
 ∀ i m Ay H',W i m Ay H'->(J.stop i H'/\Q (.ref D) H')\/(J.go i H'/\∀ x H2,J.yld i H' x H2->g x Ay H2 fun Ax H3=>tt Ax H3 fun b H4=>
  if b=true then tk Ax H4 (fun y H5=>tv Ax H5 fun v H6=>∃ kvs k,y=kV k/\H6 D=some (.dK kvs)/\kvs.length < sizeLine/\∃ m',m' < m/\W (i + 1) m' Ax (upd H6 D (.dK (Bj kvs k v)))) else ∃ m',m' < m/\W (i + 1) m' Ax H4)
theorem HJ {X:Cx} {tg iter kx vx:Expr} {ifs:List Expr} {scope:Scope} {cl:List (Str × Addr)} {N:List Str} {pos:Pos} {wi:TI} {g:TG} {tt:TT} {tk tv:TE} {σ0:St->St} (hc:X.calm=true) (co:A8 X scope cl)
  (hσ:∀ σ,σ.length=X.N.length->AR X cl scope N σ (σ0 σ)) (hi:PI X tg iter wi)
  (hb:∀ s2 H C fp,PG (An X scope cl N s2 H C fp) tg g/\TC (An X scope cl N s2 H C fp) ifs tt/\PE (An X scope cl N s2 H C fp) kx tk/\PE (An X scope cl N s2 H C fp) vx tv)
  (hs:∀ x,foldedSetIterable iter X.env x=pure x:=by intro _; rfl):PE X (.DictComp kx vx [⟨tg,iter,ifs,0⟩] scope pos) (PX wi g tt tk tv σ0):=by
 intro pins s σ H Q I h;rw [arm_eval_DictComp];refine wpAny_comprehension_free (use:=none) rfl hs co.clos co.kind co.names (wpAny_mono (hi (pins:=pins) s σ H _ I h) (fun xv s1 h1=>wpAny_mono h1 (fun itv s2 h2=>?_) fun _ _ e=>e) fun _ _ e=>e);obtain ⟨it,fp,tn,J,H2,rfl,I2,T,ER,f2,hW⟩:=h2;refine wpAny_newObj_type (wpAny_newFunctionEnv co.cell (by intro y hy; cases hy) (fun h₁ Bp Bb=>?_) co.kind);dsimp only at Bp Bb ⊢;generalize Il:s2.heap.push { cls:=.type "dict",dict:=none,data:=.dict #[] } = HH at Bp Bb ⊢;have Bn:HH.objs.size=s2.heap.objs.size + 1:=by rw [<-Il,YE]
 have old:∀ b o,s2.heap.get? b=some o->h₁.get? b=some o:=fun b o e=>
  Bb.extBut b o (Yh (by rw [Bn]; exact Yy (Ye e))) (XQ _ (Il ▸ XQ _ e))
 have newD:A4 X.prog X.w (upd H2 s2.heap.objs.size (.dK [])) h₁ s2.heap.objs.size (.dK []):=
  let ⟨z,hd,vs,rel,o,es,ep,ho,r⟩:=Iy (P:=X.prog) (w:=X.w) (H:=upd H2 s2.heap.objs.size (.dK [])) s2.heap I2.big
  ⟨z,hd,vs,rel,o,es,ep,Bb.extBut _ _ (Yh (by rw [Bn]; exact Y6 _)) (XQ _ (Il ▸ ho)),r⟩
 obtain ⟨W,⟨m0,w0⟩,turn⟩:=hW s2.heap.objs.size I2.fresh;have hfo:∀ b ∈ fp,∃ o,s2.heap.get? b=some o:=fun b hb=>let ⟨o,e,_⟩:=T.obj _ _ ER b hb; ⟨o,e⟩
 have I3:Ao (An X scope cl N s2 H2 HH.objs.size fp) [] (σ0 σ) (upd H2 s2.heap.objs.size (.dK [])) { s2 with heap:=h₁,toks:=s2.toks + ([]:List (Str × Value)).length }:=
  E7 I2 f2 hfo co (hσ σ I.len) old (Ya _) (by rw [Bn]; exact Y8 _) (YL (by rw [Bn]; exact Y6 _)) newD Bp
 have fC:s2.heap.objs.size<=HH.objs.size:=by rw [Bn]; exact Y8 _
 obtain ⟨hg,ht,hk,hv⟩:=hb s2 H2 HH.objs.size fp;have loop:∀ BN:Shared,BN = { s2 with heap:=h₁,toks:=s2.toks + ([]:List (Str × Value)).length } ->
   codeAny (model X.prog X.w) X.A (.compLoop (.DictComp kx vx [⟨tg,iter,ifs,0⟩] scope pos) 0 (.ref it) (.ref s2.heap.objs.size) (compEnvC scope cl HH.objs.size X.env))
    (compPost (model X.prog X.w) X.A X.xe none (EP X pins σ Q) (.ref s2.heap.objs.size) HH.objs.size) BN:=by
  rintro BN rfl;have stat:∀ {H':Hp} ,(∀ b ∈ fp,H' b=none)->∀ b ∈ fp,Ef (An X scope cl N s2 H2 HH.objs.size fp) [] H' b:=fun hn b hb=>by
   refine ⟨hn b hb,?_,?_,.inl hb,?_,fun p hp=>by cases hp⟩
   ·obtain ⟨o,e⟩:=hfo b hb;exact Yh (show b < HH.objs.size by rw [Bn]; exact Yy (Ye e))
   ·intro hz;obtain ⟨_,q1,q2,_⟩:=f2 b hb;rcases XX.mp (I2.stkSub b hz) with e | e
    ·exact q1 e
    ·exact q2 e
   ·exact fun x c e=>(f2 b hb).2.2.2.2.1 x c (co.sub x c e)
  refine BB (fun n s'=>∃ i Ay H',Ao (An X scope cl N s2 H2 HH.objs.size fp) [] Ay H' s'/\tn i s'.heap/\(∀ b ∈ fp,H' b=none)/\W i n Ay H') ?_ m0
   ⟨0,σ0 σ,_,I3,T.keep _ _ _ ER fun b hb o e=>old b o e,fun b hb=>?_,w0⟩
  ·rintro n s4 ⟨i,Fw,H4,I4,KP,L8,w4⟩;rcases turn i n Fw H4 w4 with ⟨stop,qn⟩ | ⟨go,step⟩
   ·refine wpAny_mono (T.done (An X scope cl N s2 H2 HH.objs.size fp) rfl rfl rfl hc i [] s4 Fw H4 (fun _ _=>False) I4 (stat L8) KP stop) (fun r s5 ⟨hr,I5⟩=>?_) fun _ _ z=>z.elim
    subst hr;obtain ⟨m5,Rb,_⟩:=id I5.loc;exact ⟨m5,Rb,fun h' L4=>⟨.ref _,H4,E8 I2 f2 fC I5 L4,rfl,qn⟩⟩
   ·refine wpAny_mono (T.item (An X scope cl N s2 H2 HH.objs.size fp) rfl rfl rfl hc i [] s4 Fw H4 (fun _ _=>False) I4 (stat L8) KP go) (fun r s5 ⟨u,hr,h5⟩=>?_) fun _ _ z=>z.elim
    subst hr;refine wpAny_mono h5 (fun _ s6 ⟨x,H6,I6,r6,y6,Hu,Rk⟩=>?_) fun _ _ z=>z.elim
    have R4:=I6.pinned (stat Rk) (T.obj _ _ Hu);refine wpAny_mono (hg s6 Fw H6 x u _ R4 r6 (step x H6 y6)) (fun _ s7 ⟨Eh,H7,I7,q7⟩=>?_) fun _ _ z=>z.elim
    refine wpAny_mono (ht s7 Eh H7 _ I7 q7) (fun ok s8 ⟨H8,I8,q8⟩=>?_) fun _ _ z=>z.elim
    have again:∀ {s9:Shared} {Fv:St} {H9:Hp} ,Ao (An X scope cl N s2 H2 HH.objs.size fp) ([] ++ Dz fp s6.heap) Fv H9 s9->(∃ m',m' < n/\W (i + 1) m' Fv H9)->∃ m,m < n/\∃ i Ay H',Ao (An X scope cl N s2 H2 HH.objs.size fp) [] Ay H' s9/\tn i s9.heap/\(∀ b ∈ fp,H' b=none)/\W i m Ay H':=fun {s9 Fv H9} I9 n9=>by
     obtain ⟨m',hm,w9⟩:=n9;refine ⟨m',hm,i + 1,Fv,H9,I9.unpinned,T.keep _ _ _ Hu fun b hb o e=>(I9.pin (b,o) (Yk _ (Yk _ (AU hb e)))).1,fun b hb=>?_,w9⟩;obtain ⟨o,e,d⟩:=T.obj _ _ Hu b hb;exact (I9.pin (b,o) (Yk _ (Yk _ (AU hb e)))).2.1
    cases ok with
    | false=>
     rw [if_neg Yl] at q8 ⊢;exact again I8 q8
    | true=>
     rw [if_pos rfl] at q8 ⊢;refine wpAny_mono (hk s8 Eh H8 _ I8 q8) (fun yk s9 ⟨k,H9,I9,r9,q9⟩=>?_) fun _ _ z=>z.elim
     refine wpAny_mono (hv s9 Eh H9 _ I9 q9) (fun yv Tn ⟨v,Pp,R6,Vq,kvs,key,ek,hacc,hsz,Q3⟩=>?_) fun _ _ z=>z.elim
     subst ek;exact JJ (X:=An X scope cl N s2 H2 HH.objs.size fp) R6 hacc hsz r9 Vq fun s11 VZ=>again VZ Q3
  ·have z:=(f2 b hb).1;obtain ⟨o,e⟩:=hfo b hb;rw [Af (Yh (Ye e))];exact z
 exact codeAny_compStart_dict (loop _ rfl) (T.self _ 0 _ _ _ (T.keep _ _ _ ER fun b hb o e=>old b o e) (loop _ rfl))
theorem Q5 {X:Cx} {ix:Nat} {x:Str} {px spos:Pos} {tg iter kx vx:Expr} {ifs:List Expr} {scope:Scope} {cl:List (Str × Addr)} {N:List Str} {pos:Pos} {wi:TI} {g:TG} {tt:TT} {tk tv:TE} {σ0:St->St} (hN:X.N.Nodup) (hix:X.N[ix]? = some x) (hlx:UM X.env.scope x) (hc:X.calm=true) (co:A8 X scope cl)
  (hσ:∀ σ,σ.length=X.N.length->AR X cl scope N σ (σ0 σ)) (hi:PI X tg iter wi)
  (hb:∀ s2 H C fp,PG (An X scope cl N s2 H C fp) tg g/\TC (An X scope cl N s2 H C fp) ifs tt/\PE (An X scope cl N s2 H C fp) kx tk/\PE (An X scope cl N s2 H C fp) vx tv)
  (hsw:swapsWith (.DictComp kx vx [⟨tg,iter,ifs,0⟩] scope pos) (some (.Name x px)) spos.line X.env=pure true:=by rfl)
  (hs:∀ x,foldedSetIterable iter X.env x=pure x:=by intro _; rfl) (hf:X.fn x=true\/X.env.scope.names.lookup x=some .local:=by first | exact .inl rfl | exact .inr rfl | assumption) :
  PS X (.Assign [.Name x px] (.DictComp kx vx [⟨tg,iter,ifs,0⟩] scope pos) spos) (PY (PX wi g tt tk tv σ0) (JF ix)):=by
 intro pins s σ H DD I h;rw [exec_Assign_Name_used _ _ _ _ hsw];refine wpAny_bind (wpAny_standAt (wpAny_bind ?_));show wpAny _ X.A (do let _ <- comprehension (.DictComp kx vx [⟨tg,iter,ifs,0⟩] scope pos) scope X.env _ newDict false (eval iter X.env) (some (assign (.Name x px) X.env))) _ _ s
 refine wpAny_bind (wpAny_mono (wpAny_comprehension_free (use:=some (assign (.Name x px) X.env)) (Q:=fun _ s'=>SP X pins DD .next s') rfl hs co.clos co.kind co.names
  (wpAny_mono (hi (pins:=pins) s σ H _ I h) (fun xv s1 h1=>wpAny_mono h1 (fun itv s2 h2=>?_) fun _ _ e=>e) fun _ _ e=>e)) (fun _ s' hq=>wpAny_pure (wpAny_pure hq)) fun _ _ e=>e)
 obtain ⟨it,fp,tn,J,H2,rfl,I2,T,ER,f2,hW⟩:=h2;refine wpAny_newObj_type (wpAny_newFunctionEnv co.cell (by intro y hy; cases hy) (fun h₁ Bp Bb=>?_) co.kind);dsimp only at Bp Bb ⊢;generalize Il:s2.heap.push { cls:=.type "dict",dict:=none,data:=.dict #[] } = HH at Bp Bb ⊢;have Bn:HH.objs.size=s2.heap.objs.size + 1:=by rw [<-Il,YE]
 have old:∀ b o,s2.heap.get? b=some o->h₁.get? b=some o:=fun b o e=>
  Bb.extBut b o (Yh (by rw [Bn]; exact Yy (Ye e))) (XQ _ (Il ▸ XQ _ e))
 have newD:A4 X.prog X.w (upd H2 s2.heap.objs.size (.dK [])) h₁ s2.heap.objs.size (.dK []):=
  let ⟨z,hd,vs,rel,o,es,ep,ho,r⟩:=Iy (P:=X.prog) (w:=X.w) (H:=upd H2 s2.heap.objs.size (.dK [])) s2.heap I2.big
  ⟨z,hd,vs,rel,o,es,ep,Bb.extBut _ _ (Yh (by rw [Bn]; exact Y6 _)) (XQ _ (Il ▸ ho)),r⟩
 obtain ⟨W,⟨m0,w0⟩,turn⟩:=hW s2.heap.objs.size I2.fresh;have hfo:∀ b ∈ fp,∃ o,s2.heap.get? b=some o:=fun b hb=>let ⟨o,e,_⟩:=T.obj _ _ ER b hb; ⟨o,e⟩
 have I3:Ao (An X scope cl N s2 H2 HH.objs.size fp) [] (σ0 σ) (upd H2 s2.heap.objs.size (.dK [])) { s2 with heap:=h₁,toks:=s2.toks + ([]:List (Str × Value)).length }:=
  E7 I2 f2 hfo co (hσ σ I.len) old (Ya _) (by rw [Bn]; exact Y8 _) (YL (by rw [Bn]; exact Y6 _)) newD Bp
 have fC:s2.heap.objs.size<=HH.objs.size:=by rw [Bn]; exact Y8 _
 obtain ⟨hg,ht,hk,hv⟩:=hb s2 H2 HH.objs.size fp;have loop:∀ BN:Shared,BN = { s2 with heap:=h₁,toks:=s2.toks + ([]:List (Str × Value)).length } ->
   codeAny (model X.prog X.w) X.A (.compLoop (.DictComp kx vx [⟨tg,iter,ifs,0⟩] scope pos) 0 (.ref it) (.ref s2.heap.objs.size) (compEnvC scope cl HH.objs.size X.env))
    (compPost (model X.prog X.w) X.A X.xe (some (assign (.Name x px) X.env)) (fun _ s'=>SP X pins DD .next s') (.ref s2.heap.objs.size) HH.objs.size) BN:=by
  rintro BN rfl;have stat:∀ {H':Hp} ,(∀ b ∈ fp,H' b=none)->∀ b ∈ fp,Ef (An X scope cl N s2 H2 HH.objs.size fp) [] H' b:=fun hn b hb=>by
   refine ⟨hn b hb,?_,?_,.inl hb,?_,fun p hp=>by cases hp⟩
   ·obtain ⟨o,e⟩:=hfo b hb;exact Yh (show b < HH.objs.size by rw [Bn]; exact Yy (Ye e))
   ·intro hz;obtain ⟨_,q1,q2,_⟩:=f2 b hb;rcases XX.mp (I2.stkSub b hz) with e | e
    ·exact q1 e
    ·exact q2 e
   ·exact fun x c e=>(f2 b hb).2.2.2.2.1 x c (co.sub x c e)
  refine BB (fun n s'=>∃ i Ay H',Ao (An X scope cl N s2 H2 HH.objs.size fp) [] Ay H' s'/\tn i s'.heap/\(∀ b ∈ fp,H' b=none)/\W i n Ay H') ?_ m0
   ⟨0,σ0 σ,_,I3,T.keep _ _ _ ER fun b hb o e=>old b o e,fun b hb=>?_,w0⟩
  ·rintro n s4 ⟨i,Fw,H4,I4,KP,L8,w4⟩;rcases turn i n Fw H4 w4 with ⟨stop,qn⟩ | ⟨go,step⟩
   ·refine wpAny_mono (T.done (An X scope cl N s2 H2 HH.objs.size fp) rfl rfl rfl hc i [] s4 Fw H4 (fun _ _=>False) I4 (stat L8) KP stop) (fun r s5 ⟨hr,I5⟩=>?_) fun _ _ z=>z.elim
    subst hr;obtain ⟨m5,Rb,_⟩:=id I5.loc;have I6:Ao X pins σ H4 s5:=E8 (h':=s5.heap) I2 f2 fC I5 (Heap.SameBut.refl _ _);have cC:∀ y c,X.env.cells.lookup y=some c->c ≠ HH.objs.size:=fun y c e=>by
     obtain ⟨v,q⟩:=I2.cell y c e;exact Yh (Yj q.lt fC)
    have lC:X.env.locals ≠ HH.objs.size:=Yh (Yj I2.lt fC);show wpAny _ X.A (assign (.Name x px) X.env (.ref s2.heap.objs.size)) _ X.xe s5
    refine wpAny_assign_Name (EE I6 hN hix hlx (v:=.ref s2.heap.objs.size) rfl (fun s7 I7 ⟨a,sb,ha⟩=>?_) hf);have aC:a ≠ HH.objs.size:=by
     rcases ha with rfl | ha
     ·exact lC
     ·exact cC _ _ ha
    refine ⟨m5,Rb.sameBut sb (Ne.symm aC),fun h' L4=>⟨_,H4,?_,qn⟩⟩;exact I7.turned (t':=s7.toks) (it:=HH.objs.size) (fun b o hb e=>(L4.2 b hb).trans e) I5.free (Ne.symm lC) (.inr (Yv I2.sz fC)) cC fun p hp z=>by
     have e:=(I2.pin p hp).1;exact absurd (Yj (Ye e) fC) (by rw [z]; exact YI _)
   ·refine wpAny_mono (T.item (An X scope cl N s2 H2 HH.objs.size fp) rfl rfl rfl hc i [] s4 Fw H4 (fun _ _=>False) I4 (stat L8) KP go) (fun r s5 ⟨u,hr,h5⟩=>?_) fun _ _ z=>z.elim
    subst hr;refine wpAny_mono h5 (fun _ s6 ⟨x,H6,I6,r6,y6,Hu,Rk⟩=>?_) fun _ _ z=>z.elim
    have R4:=I6.pinned (stat Rk) (T.obj _ _ Hu);refine wpAny_mono (hg s6 Fw H6 x u _ R4 r6 (step x H6 y6)) (fun _ s7 ⟨Eh,H7,I7,q7⟩=>?_) fun _ _ z=>z.elim
    refine wpAny_mono (ht s7 Eh H7 _ I7 q7) (fun ok s8 ⟨H8,I8,q8⟩=>?_) fun _ _ z=>z.elim
    have again:∀ {s9:Shared} {Fv:St} {H9:Hp} ,Ao (An X scope cl N s2 H2 HH.objs.size fp) ([] ++ Dz fp s6.heap) Fv H9 s9->(∃ m',m' < n/\W (i + 1) m' Fv H9)->∃ m,m < n/\∃ i Ay H',Ao (An X scope cl N s2 H2 HH.objs.size fp) [] Ay H' s9/\tn i s9.heap/\(∀ b ∈ fp,H' b=none)/\W i m Ay H':=fun {s9 Fv H9} I9 n9=>by
     obtain ⟨m',hm,w9⟩:=n9;refine ⟨m',hm,i + 1,Fv,H9,I9.unpinned,T.keep _ _ _ Hu fun b hb o e=>(I9.pin (b,o) (Yk _ (Yk _ (AU hb e)))).1,fun b hb=>?_,w9⟩;obtain ⟨o,e,d⟩:=T.obj _ _ Hu b hb;exact (I9.pin (b,o) (Yk _ (Yk _ (AU hb e)))).2.1
    cases ok with
    | false=>
     rw [if_neg Yl] at q8 ⊢;exact again I8 q8
    | true=>
     rw [if_pos rfl] at q8 ⊢;refine wpAny_mono (hk s8 Eh H8 _ I8 q8) (fun yk s9 ⟨k,H9,I9,r9,q9⟩=>?_) fun _ _ z=>z.elim
     refine wpAny_mono (hv s9 Eh H9 _ I9 q9) (fun yv Tn ⟨v,Pp,R6,Vq,kvs,key,ek,hacc,hsz,Q3⟩=>?_) fun _ _ z=>z.elim
     subst ek;exact JJ (X:=An X scope cl N s2 H2 HH.objs.size fp) R6 hacc hsz r9 Vq fun s11 VZ=>again VZ Q3
  ·have z:=(f2 b hb).1;obtain ⟨o,e⟩:=hfo b hb;rw [Af (Yh (Ye e))];exact z
 exact codeAny_compStart_dict (loop _ rfl) (T.self _ 0 _ _ _ (T.keep _ _ _ ER fun b hb o e=>old b o e) (loop _ rfl))
theorem FC (p x:Str) (r:List Str):risingS p (x :: r)=(!ltCps x.cps.toList p.cps.toList && risingS x r):=rfl
theorem Jz:∀ (p:Str) (l:List Str),risingS p l=true->(p :: l).Pairwise fun a b=>¬ b.cps.toList < a.cps.toList
 | p,[],_=>Zu _ _
 | p,x :: r,h=>by
  rw [FC,YA,ltCps_eq] at h;have h1:¬ x.cps.toList < p.cps.toList:=by simpa using h.1
  have h2:=Jz x r h.2;refine YY.mpr ⟨fun y hy=>?_,h2⟩;rcases XX.mp hy with rfl | hy
  ·exact h1
  ·have h3:=(YY.mp h2).1 y hy;have a:p.cps.toList<=x.cps.toList:=Zw.mp h1;have b:x.cps.toList<=y.cps.toList:=Zw.mp h3;exact Zw.mpr (cj a b)
theorem Ce {l:List Str} (h:sortedS l=true):l.Pairwise fun a b=>¬ b.cps.toList < a.cps.toList:=by
 cases l with
 | nil=>exact .nil
 | cons p l=>exact Jz p l h
theorem CB {a b:Str} (h1:¬ b.cps.toList < a.cps.toList) (h2:¬ a.cps.toList < b.cps.toList):a=b:=by
 have e:a.cps.toList=b.cps.toList:=List.le_antisymm (Zw.mp h1) (Zw.mp h2);cases a; cases b
 simp only [Str.mk.injEq];exact ax.mp e
theorem Gd {l m:List Str} (hl:l.Pairwise fun a b=>¬ b.cps.toList < a.cps.toList) (hm:m.Pairwise fun a b=>¬ b.cps.toList < a.cps.toList) (p:l.Perm m):l=m:=
 List.Perm.eq_of_pairwise (fun a b _ _ h1 h2=>CB h1 h2) hl hm p
theorem G2 {l m:List Str} (hl:l.Nodup) (hm:m.Nodup) (h:∀ x,x ∈ l ↔ x ∈ m):l.Perm m:=(aL hl hm).mpr h
def K9 (ws:List AF) (x y:Str):Prop:=∃ u ∈ ws,(u.1=x/\u.2.1=y)\/(u.1=y/\u.2.1=x)
theorem K9.symm {ws:List AF} {x y:Str} (h:K9 ws x y):K9 ws y x:=let ⟨u,hu,h⟩:=h; ⟨u,hu,h.symm⟩
theorem DE (u:AF):(Ex u).1=u.1/\(Ex u).2.1=u.2.1\/(Ex u).1=u.2.1/\(Ex u).2.1=u.1:=by
 unfold Ex BJ BK;by_cases h:u.2.1.cps.toList < u.1.cps.toList
 ·have h':¬ u.1.cps.toList < u.2.1.cps.toList:=ZJ h;rw [if_pos h,if_neg h'];exact .inr ⟨rfl,rfl⟩
 ·rw [if_neg h];by_cases h':u.1.cps.toList < u.2.1.cps.toList
  ·rw [if_pos h']; exact .inl ⟨rfl,rfl⟩
  ·rw [if_neg h'];have e:u.1=u.2.1:=CB h h';exact .inl ⟨rfl,e⟩
theorem Ry {ws PH:List AF} (p:PH.Perm (ws.map Ex)) (x y:Str):K9 PH x y ↔ K9 ws x y:=by
 constructor
 ·rintro ⟨u,hu,h⟩;obtain ⟨v,hv,rfl⟩:=Yc.mp (p.mem_iff.mp hu);refine ⟨v,hv,?_⟩;rcases DE v with ⟨e1,e2⟩ | ⟨e1,e2⟩
  ·rw [e1,e2] at h; exact h
  ·rw [e1,e2] at h;rcases h with ⟨a,b⟩ | ⟨a,b⟩
   ·exact .inr ⟨b,a⟩
   ·exact .inl ⟨b,a⟩
 ·rintro ⟨v,hv,h⟩;refine ⟨Ex v,p.mem_iff.mpr (Yc.mpr ⟨v,hv,rfl⟩),?_⟩;rcases DE v with ⟨e1,e2⟩ | ⟨e1,e2⟩
  ·rw [e1,e2]; exact h
  ·rw [e1,e2];rcases h with ⟨a,b⟩ | ⟨a,b⟩
   ·exact .inr ⟨b,a⟩
   ·exact .inl ⟨b,a⟩
theorem JH {xs:List Str} {ws PH:List AF} (p:PH.Perm (ws.map Ex)) (h:∀ u ∈ ws,u.1 ∈ xs/\u.2.1 ∈ xs):∀ u ∈ PH,u.1 ∈ xs/\u.2.1 ∈ xs:=fun u hu=>by
 obtain ⟨v,hv,rfl⟩:=Yc.mp (p.mem_iff.mp hu);obtain ⟨a,b⟩:=h v hv;rcases DE v with ⟨e1,e2⟩ | ⟨e1,e2⟩ <;> rw [e1,e2]
 ·exact ⟨a,b⟩
 ·exact ⟨b,a⟩
def K5 (xs:List Str) (ws:List AF):Prop:=∀ j,0 < j->j < xs.length->∃ u ∈ ws,∃ i:Nat,i < j/\xs[i]? = some u.1/\xs[j]? = some u.2.1
theorem K5.all {xs:List Str} {ws:List AF} (h:K5 xs ws) (S:Str->Prop) (cl:∀ x y,K9 ws x y->S x->S y) {r:Str} (hr:r ∈ xs) (sr:S r):∀ x ∈ xs,S x:=by
 have down:∀ n (i:Nat),i<=n->∀ x,xs[i]? = some x->S x->∀ x0,xs[0]? = some x0->S x0:=by
  intro n;induction n with
  | zero=>
   intro i hi x e s x0 e0;have:i=0:=by lia
   subst this;rw [e] at e0; cases e0; exact s
  | succ n ih=>
   intro i hi x e s x0 e0;by_cases hz:i=0
   ·subst hz;rw [e] at e0; cases e0; exact s
   ·obtain ⟨u,hu,k,hk,e1,e2⟩:=h i (by lia) (Yb.mp e).1;rw [e] at e2; cases e2;exact ih k (by lia) u.1 e1 (cl _ _ ⟨u,hu,.inr ⟨rfl,rfl⟩⟩ s) x0 e0
 have up:∀ x0,xs[0]? = some x0->S x0->∀ n (i:Nat),i<=n->∀ x,xs[i]? = some x->S x:=by
  intro x0 e0 s0 n;induction n with
  | zero=>
   intro i hi x e;have:i=0:=by lia
   subst this;rw [e0] at e; cases e; exact s0
  | succ n ih=>
   intro i hi x e;by_cases hz:i=0
   ·subst hz;rw [e0] at e; cases e; exact s0
   ·obtain ⟨u,hu,k,hk,e1,e2⟩:=h i (by lia) (Yb.mp e).1;rw [e] at e2; cases e2;exact cl _ _ ⟨u,hu,.inl ⟨rfl,rfl⟩⟩ (ih k (by lia) u.1 e1)
 intro x hx;obtain ⟨i,hi,e⟩:=Yq hr;obtain ⟨j,hj,e'⟩:=Yq hx;have h0:xs[0]? = some xs[0]:=XO (by lia);have s0:S xs[0]:=down i i (Ya _) r (by rw [XO hi,e]) sr _ h0;exact up _ h0 s0 j j (Ya _) x (by rw [XO hj,e'])
section
variable {ws:List AF} {r:Str} {bs cs:List (Str × Option Str)}
theorem PJ {α β:Type} {l:List (α × β)} (h:(l.map (·.1)).Nodup) {x:α} {a b:β} (ha:(x,a) ∈ l) (hb:(x,b) ∈ l):a=b:=by
 induction l with
 | nil=>cases ha
 | cons p l ih=>
  rw [Ym] at h;obtain ⟨h1,h2⟩:=YC.mp h;have key:∀ c,(x,c) ∈ l->p.1 ≠ x:=fun c hc z=>h1 (by rw [z]; exact Yc.mpr ⟨(x,c),hc,rfl⟩)
  rcases XX.mp ha with e | ha1
  ·rcases XX.mp hb with e' | VH
   ·rw [<-e] at e'; cases e'; rfl
   ·exact absurd (by rw [<-e]) (key b VH)
  ·rcases XX.mp hb with e' | VH
   ·exact absurd (by rw [<-e']) (key a ha1)
   ·exact ih h2 ha1 VH
end
section
variable {ws:List AF} {r:Str} {wk:List (Str × List Str)}
end
theorem En {H2 H3:Hp} {vs:List V} {ws:List AF} (h:Bd H2 vs (ws.map JV)) (ht:∀ b xs,H2 b=some (.tup xs)->H3 b=some (.tup xs)):Bd H3 vs (ws.map JV):=by
 induction ws generalizing vs with
 | nil=>cases h; exact .nil
 | cons u ws ih=>
  cases h with
  | cons h1 r=>
   refine .cons ?_ (ih r);cases h1 with
   | tup ha hd=>
    refine .tup (ht _ _ ha) ?_;cases hd with
    | cons h1 r1=>
     cases r1 with
     | cons h2 r2=>
      cases r2 with
      | cons h3 r3=>
       cases r3
       cases h1
       cases h2
       cases h3
       exact .cons (.str _) (.cons (.str _) (.cons (.int _) .nil))
theorem FG {α:Type} {l:List α} (h:l.Nodup) {i j:Nat} {x:α} (a:l[i]? = some x) (b:l[j]? = some x):i=j:=
 (List.getElem?_inj (Yb.mp a).1 h).mp (a.trans b.symm)
def sK (nv:List (Str × V)):List (A6 × V):=nv.map fun q=>(Sum.inr q.1,q.2)
theorem CJ (nv:List (Str × V)):(sK nv).length=nv.length:=XJ ..
theorem Ke (nv:List (Str × V)):(sK nv).map (·.1)=(nv.map (·.1)).map Sum.inr:=by unfold sK; rw [Y2,Y2]; rfl
theorem Ud (a b:List (Str × V)):sK (a ++ b)=sK a ++ sK b:=Yi ..
theorem Kd:∀ {nv:List (Str × V)} {y:Str},y ∉ nv.map (·.1)->Bq (sK nv) (Sum.inr y:A6)=none
 | [],y,_=>rfl
 | q :: nv,y,h=>by
  rw [Ym,XX,not_or] at h;show Bq ((Sum.inr q.1,q.2) :: sK nv) (Sum.inr y:A6)=none
  rw [CZ (fun z=>h.1 (Sum.inr.inj z).symm)];exact Kd h.2
theorem C7:∀ {nv:List (Str × V)} {y:Str} {v:V},(nv.map (·.1)).Nodup->(y,v) ∈ nv->Bq (sK nv) (Sum.inr y:A6)=some v
 | [],y,v,_,h=>nomatch h
 | q :: nv,y,v,hn,h=>by
  rw [Ym] at hn;obtain ⟨h1,h2⟩:=YC.mp hn;show Bq ((Sum.inr q.1,q.2) :: sK nv) (Sum.inr y:A6)=some v
  rcases XX.mp h with e | h'
  ·subst e;exact D8 rfl
  ·rw [CZ (fun z=>h1 (by rw [Sum.inr.inj z]; exact Yc.mpr ⟨(y,v),h',rfl⟩))];exact C7 h2 h'
theorem G0 {nv:List (Str × V)} {y:Str}:(Bq (sK nv) (Sum.inr y:A6)).isSome=decide (y ∈ nv.map (·.1)):=by
 by_cases h:y ∈ nv.map (·.1)
 ·rw [decide_eq_true h];cases e:Bq (sK nv) (Sum.inr y:A6) with
  | some v=>rfl
  | none=>
   have:=PK e;rw [Ke] at this;exact absurd (Yc.mpr ⟨y,h,rfl⟩) this
 ·rw [decide_eq_false h,Kd h]; rfl
theorem Dy {nv:List (Str × V)} {y:Str} {v:V} (h:y ∉ nv.map (·.1)):Bj (sK nv) (Sum.inr y:A6) v=sK (nv ++ [(y,v)]):=by
 rw [HD v (Kd h),Ud]; rfl
theorem Mg (nv:List (Str × V)) (y:Str) (v:V):∃ DC,Bj (sK nv) (Sum.inr y:A6) v=sK DC/\DC.length<=nv.length + 1/\∀ z,z ∈ DC.map (·.1) ↔ z ∈ nv.map (·.1)\/z=y:=by
 by_cases h:y ∈ nv.map (·.1)
 ·refine ⟨nv.map fun q=>if q.1=y then (q.1,v) else q,?_,by rw [XJ]; lia,fun z=>?_⟩
  ·unfold Bj;have:((sK nv).any fun kv=>decide (kv.1=(Sum.inr y:A6)))=true:=by
    rw [CA,G0,decide_eq_true h]
   rw [if_pos this];unfold sK;rw [Y2,Y2];refine Z8 fun q _=>?_
   by_cases e:q.1=y
   ·simp [e]
   ·have e':¬ (Sum.inr q.1:A6)=Sum.inr y:=fun z=>e (Sum.inr.inj z)
    simp [e,e']
  ·have e:(nv.map fun q=>if q.1=y then (q.1,v) else q).map (·.1)=nv.map (·.1):=by
    rw [Y2];refine Z8 fun q _=>?_
    by_cases e:q.1=y <;> simp [e]
   rw [e];constructor
   ·exact .inl
   ·rintro (q | rfl)
    ·exact q
    ·exact h
 ·refine ⟨nv ++ [(y,v)],Dy h,by simp,fun z=>by simp⟩
theorem Ti {nv:List (Str × V)} {i:Nat} {k:A6} {v:V} (h:(sK nv)[i]? = some (k,v)):∃ y,nv[i]? = some (y,v)/\k=.inr y:=by
 unfold sK at h;rw [Yd] at h;cases e:nv[i]? with
 | none=>rw [e] at h; cases h
 | some q=>
  rw [e] at h;simp only [bF,Yo.injEq,Prod.mk.injEq] at h;exact ⟨q.1,by rw [<-h.2],h.1.symm⟩
structure Web (H:Hp) (q:Addr) (ps:List Str) (ws:List AF):Prop where
 ex:∃ tp tw us,H q=some (.tup [.ref tp,.ref tw])/\H tp=some (.tup (ps.map V.str))/\H tw=some (.tup us)/\Bd H us (ws.map JV)
theorem Web.same {H H':Hp} {q:Addr} {ps:List Str} {ws:List AF} (h:Web H q ps ws) (s:∀ b xs,H b=some (.tup xs)->H' b=some (.tup xs)):Web H' q ps ws:=by
 obtain ⟨tp,tw,us,h1,h2,h3,h4⟩:=h.ex;exact ⟨tp,tw,us,s _ _ h1,s _ _ h2,s _ _ h3,En h4 s⟩
def Nm (ps:List Str) (ds:List Addr):List (Str × V):=(ps.zip ds).map fun q=>(q.1,V.ref q.2)
theorem HW {ps:List Str} {ds:List Addr} (h:ps.length<=ds.length):(Nm ps ds).map (·.1)=ps:=by
 unfold Nm;rw [Y2];have:((fun (x:Str × V)=>x.1) ∘ fun (q:Str × Addr)=>(q.1,V.ref q.2))=Prod.fst:=rfl;rw [this,List.map_fst_zip h]
theorem Nk {ps:List Str} {ds:List Addr} {i:Nat} {p:Str} {d:Addr} (h1:ps[i]? = some p) (h2:ds[i]? = some d):(p,V.ref d) ∈ Nm ps ds:=by
 unfold Nm;refine Yc.mpr ⟨(p,d),XY (i:=i) ?_,rfl⟩;rw [List.getElem?_zip_eq_some];exact ⟨h1,h2⟩
structure NB (H:Hp) (B:Addr) (ps:List Str) (ds:List Addr) (P:Str->Str->Prop) (n:Nat):Prop where
 top:H B=some (.dK (sK (Nm ps ds)))
 len:ds.length=ps.length
 nd:ds.Nodup
 nB:B ∉ ds
 inner:∀ (i:Nat) (p:Str) (d:Addr),ps[i]? = some p->ds[i]? = some d->∃ nv:List (Str × V),H d=some (.dK (sK nv))/\nv.length<=n/\∀ y,y ∈ nv.map (·.1) ↔ P p y
theorem NB.get {H:Hp} {B:Addr} {ps:List Str} {ds:List Addr} {P:Str->Str->Prop} {n:Nat} (h:NB H B ps ds P n) (hn:ps.Nodup) {p:Str} (hp:p ∈ ps) :
  ∃ (i:Nat) (d:Addr) (nv:List (Str × V)),ps[i]? = some p/\ds[i]? = some d/\Bq (sK (Nm ps ds)) (Sum.inr p:A6)=some (.ref d)/\H d=some (.dK (sK nv))/\nv.length<=n/\∀ y,y ∈ nv.map (·.1) ↔ P p y:=by
 obtain ⟨i,hi,e⟩:=Yq hp;have e1:ps[i]? = some p:=by rw [XO hi,e]
 have Pu:i < ds.length:=by rw [h.len]; exact hi
 have e2:ds[i]? = some ds[i]:=XO Pu;obtain ⟨nv,a1,a2,a3⟩:=h.inner i p _ e1 e2;refine ⟨i,_,nv,e1,e2,C7 ?_ (Nk e1 e2),a1,a2,a3⟩;rw [HW (by rw [h.len]; exact Ya _)];exact hn
theorem NB.put {H:Hp} {B:Addr} {ps:List Str} {ds:List Addr} {P:Str->Str->Prop} {n:Nat} (h:NB H B ps ds P n) {i:Nat} {p y:Str} {d:Addr} (hn:ps.Nodup) (e1:ps[i]? = some p) (e2:ds[i]? = some d) {nv DC:List (Str × V)} (hd:H d=some (.dK (sK nv)))
  (hl:DC.length<=nv.length + 1) (hk:∀ z,z ∈ DC.map (·.1) ↔ z ∈ nv.map (·.1)\/z=y) (hP:∀ z,z ∈ nv.map (·.1) ↔ P p z) (hln:nv.length<=n):NB (upd H d (.dK (sK DC))) B ps ds (fun a b=>P a b\/(a=p/\b=y)) (n + 1):=by
 have dm:d ∈ ds:=XY e2;refine ⟨by rw [Af (fun z=>h.nB (by rw [z]; exact dm))]; exact h.top,h.len,h.nd,h.nB,fun j q c f1 f2=>?_⟩;by_cases z:c=d
 ·subst z;have ij:i=j:=FG h.nd e2 f2;subst ij;rw [e1] at f1; cases f1;refine ⟨DC,Ab,by lia,fun z=>?_⟩;rw [hk,hP];simp
 ·obtain ⟨nw,b1,b2,b3⟩:=h.inner j q c f1 f2;refine ⟨nw,by rw [Af z]; exact b1,by lia,fun y'=>?_⟩;rw [b3];have:q ≠ p:=by
   rintro rfl;have ij:=FG hn e1 f1;subst ij;rw [e2] at f2; cases f2;exact z rfl
  simp [this]
theorem NB.mono {H:Hp} {B:Addr} {ps:List Str} {ds:List Addr} {P P':Str->Str->Prop} {n m:Nat} (h:NB H B ps ds P n) (hP:∀ a b,P a b ↔ P' a b) (hn:n<=m):NB H B ps ds P' m:=
 ⟨h.top,h.len,h.nd,h.nB,fun i p d e1 e2=>let ⟨nv,a1,a2,a3⟩:=h.inner i p d e1 e2; ⟨nv,a1,by lia,fun y=>(a3 y).trans (hP p y)⟩⟩
structure IG (H:Hp) (q:Addr) (ps:List Str) (ws:List AF) (r:Str):Prop where
 web:Web H q ps ws
 nd:ps.Nodup
 l30:ps.length<=30
 l64:ws.length < 64
 ends:∀ u ∈ ws,u.1 ∈ ps/\u.2.1 ∈ ps
 first:ps[0]? = some r
 con:∀ S:Str->Prop,S r->(∀ x y,K9 ws x y->S x->S y)->∀ x ∈ ps,S x
theorem IG.same {H H':Hp} {q:Addr} {ps:List Str} {ws:List AF} {r:Str} (h:IG H q ps ws r) (s:Au H H'):IG H' q ps ws r:=
 ⟨h.web.same fun b xs z=>s _ _ z,h.nd,h.l30,h.l64,h.ends,h.first,h.con⟩
theorem Rx {ws:List AF} {i:Nat} {u:AF} (h:ws[i]? = some u) (a b:Str):K9 (ws.take (i + 1)) a b ↔ (K9 (ws.take i) a b\/(a=u.1/\b=u.2.1))\/(a=u.2.1/\b=u.1):=by
 rw [Yx,h];constructor
 ·rintro ⟨v,hv,e⟩;rcases Yt.mp hv with hv | hv
  ·exact .inl (.inl ⟨v,hv,e⟩)
  ·have:v=u:=by simpa using hv
   subst this;rcases e with ⟨e1,e2⟩ | ⟨e1,e2⟩
   ·exact .inl (.inr ⟨e1.symm,e2.symm⟩)
   ·exact .inr ⟨e2.symm,e1.symm⟩
 ·rintro ((⟨v,hv,e⟩ | ⟨rfl,rfl⟩) | ⟨rfl,rfl⟩)
  ·exact ⟨v,YS _ hv,e⟩
  ·exact ⟨u,Yk _ (by simp),.inl ⟨rfl,rfl⟩⟩
  ·exact ⟨u,Yk _ (by simp),.inr ⟨rfl,rfl⟩⟩
structure NR (H:Hp) (B:Addr) (ps:List Str) (ds:List Addr) (P:Str->Str->Prop):Prop where
 top:H B=some (.dK (sK (Nm ps ds)))
 len:ds.length=ps.length
 nd:ds.Nodup
 nB:B ∉ ds
 inner:∀ (i:Nat) (p:Str) (d:Addr),ps[i]? = some p->ds[i]? = some d->∃ nv:List (Str × V),Rd H d (.dK (sK nv))/\∀ y,y ∈ nv.map (·.1) ↔ P p y
theorem NB.r {H:Hp} {B:Addr} {ps:List Str} {ds:List Addr} {P:Str->Str->Prop} {n:Nat} (h:NB H B ps ds P n):NR H B ps ds P:=
 ⟨h.top,h.len,h.nd,h.nB,fun i p d e1 e2=>let ⟨nv,a1,_,a3⟩:=h.inner i p d e1 e2; ⟨nv,.inl a1,a3⟩⟩
theorem NR.get {H:Hp} {B:Addr} {ps:List Str} {ds:List Addr} {P:Str->Str->Prop} (h:NR H B ps ds P) (hn:ps.Nodup) {p:Str} (hp:p ∈ ps) :
  ∃ (i:Nat) (d:Addr) (nv:List (Str × V)),ps[i]? = some p/\ds[i]? = some d/\Bq (sK (Nm ps ds)) (Sum.inr p:A6)=some (.ref d)/\Rd H d (.dK (sK nv))/\∀ y,y ∈ nv.map (·.1) ↔ P p y:=by
 obtain ⟨i,hi,e⟩:=Yq hp;have e1:ps[i]? = some p:=by rw [XO hi,e]
 have Pu:i < ds.length:=by rw [h.len]; exact hi
 have e2:ds[i]? = some ds[i]:=XO Pu;obtain ⟨nv,a1,a3⟩:=h.inner i p _ e1 e2;refine ⟨i,_,nv,e1,e2,C7 ?_ (Nk e1 e2),a1,a3⟩;rw [HW (by rw [h.len]; exact Ya _)];exact hn
theorem Rd.ne {H:Hp} {a b:Addr} {u o:HO} (h:Rd H a u) (hb:a ≠ b):Rd (upd H b o) a u:=by
 rcases h with h | ⟨ob,h⟩
 ·exact .inl (by rw [Af hb]; exact h)
 ·exact .inr ⟨ob,by rw [Af hb]; exact h⟩
theorem Rd.fz {H H':Hp} {a b:Addr} {u:HO} {kvs:List (A6 × V)} {o:Obj} (h:Rd H a u) (f:Ee H b kvs o H') (hb:a ≠ b):Rd H' a u:=by
 rcases h with h | ⟨ob,h⟩
 ·exact .inl (by rw [f.ne hb]; exact h)
 ·exact .inr ⟨ob,by rw [f.ne hb]; exact h⟩
theorem NR.other {H:Hp} {B a:Addr} {ps:List Str} {ds:List Addr} {P:Str->Str->Prop} {o:HO} (h:NR H B ps ds P) (ha:a ∉ ds) (hB:a ≠ B):NR (upd H a o) B ps ds P:=
 ⟨by rw [Af (Ne.symm hB)]; exact h.top,h.len,h.nd,h.nB,fun i p d e1 e2=>let ⟨nv,a1,a3⟩:=h.inner i p d e1 e2
  ⟨nv,a1.ne (fun z=>ha (by rw [<-z]; exact XY e2)),a3⟩⟩
theorem NR.freeze {H H':Hp} {B:Addr} {ps:List Str} {ds:List Addr} {P:Str->Str->Prop} (h:NR H B ps ds P) {i:Nat} {p:Str} {d:Addr} (e1:ps[i]? = some p) (e2:ds[i]? = some d) {nv:List (Str × V)} {o:Obj} (f:Ee H d (sK nv) o H') (hP:∀ y,y ∈ nv.map (·.1) ↔ P p y):NR H' B ps ds P:=by
 have dm:d ∈ ds:=XY e2;refine ⟨by rw [f.ne (fun z=>h.nB (by rw [z]; exact dm))]; exact h.top,h.len,h.nd,h.nB,fun j q c f1 f2=>?_⟩;by_cases z:c=d
 ·subst z;have ij:i=j:=FG h.nd e2 f2;subst ij;rw [e1] at f1; cases f1;exact ⟨nv,.inr ⟨o,f.at⟩,hP⟩
 ·obtain ⟨nw,b1,b3⟩:=h.inner j q c f1 f2;exact ⟨nw,b1.fz f z,b3⟩
theorem RX {nv DC:List (Str × V)} {y:Str} {v:V} (e:Bj (sK nv) (Sum.inr y:A6) v=sK DC) (hn:(nv.map (·.1)).Nodup):(DC.map (·.1)).Nodup:=by
 have inj:∀ {a b:List (Str × V)},(sK a).map (·.1)=(sK b).map (·.1)->a.map (·.1)=b.map (·.1):=fun {a b} h=>by
  rw [Ke,Ke] at h;exact b9 (fun x y z=>Sum.inr.inj z) |>.mp h
 by_cases h:y ∈ nv.map (·.1)
 ·have e2:(Bj (sK nv) (Sum.inr y:A6) v).map (·.1)=(sK nv).map (·.1):=by
   unfold Bj;have:((sK nv).any fun kv=>decide (kv.1=(Sum.inr y:A6)))=true:=by rw [CA,G0,decide_eq_true h]
   rw [if_pos this,Y2];refine Z8 fun q _=>?_
   by_cases e:q.1=(Sum.inr y:A6) <;> simp [e]
  rw [e] at e2;rw [inj e2];exact hn
 ·rw [Dy h] at e;have e2:(nv ++ [(y,v)]).map (·.1)=DC.map (·.1):=inj (by rw [e]);rw [<-e2,Yi];refine YJ.mpr ⟨hn,YC.mpr ⟨by simp,.nil⟩,fun a ha b hb=>?_⟩;have e3:b=y:=by simpa using hb
  subst e3;rintro rfl;exact h ha
section
variable {ws:List AF} {r:Str} {bs:List (Str × Option Str)} {wk:List (Str × List Str)} {ps:List Str}
end
theorem Gh {α:Type} {l:List (Str × α)} (h:(l.map (·.1)).Nodup) (f:Str × α->Bool):((l.filter f).map (·.1)).Nodup:=by
 have s:List.Sublist ((l.filter f).map (·.1)) (l.map (·.1)):=List.Sublist.map _ Zs;exact s.nodup h
theorem Ao.thaw {X:Cx} {pins:List (Addr × Obj)} {σ:St} {H:Hp} {s:Shared} {a:Addr} {o:Obj} {u:HO} (I:Ao X pins σ H s) (e:H a=some (.frz o u)) (h0:∀ ob w,X.H₀ a ≠ some (.frz ob w)) (hu:u ≠ .own a/\∀ xs,u ≠ .tup xs):Ao X pins σ (upd H a u) s:=by
 obtain ⟨ho,hok⟩:=(show A4 X.prog X.w H s.heap a (.frz o u) from I.hok a _ e)
 have nn:∀ b,H b=none->b ≠ a:=fun b hb z=>by rw [z,e] at hb; cases hb
 have own:∀ b y,H b=some (.own y)->b ≠ a:=fun b y hb z=>by rw [z,e] at hb; cases hb
 have tup:∀ b xs,H b=some (.tup xs)->b ≠ a:=fun b xs hb z=>by rw [z,e] at hb; cases hb
 refine ⟨I.ok,I.os,I.bare,⟨I.base.keep,I.base.slot,fun b ob q n hx=>?_,I.base.there,fun b xs q=>?_,fun b ob w q=>?_,fun b ps q=>?_⟩,I.loc,I.cell,?_,fun x c q=>?_,fun p hp=>?_,fun b w q=>?_,I.len⟩
 ·have z:=I.base.free b ob q n hx;rw [Af (nn b z)]; exact z
 ·have z:=I.base.tups b xs q;rw [Af (tup b xs z)]; exact z
 ·have z:=I.base.frzs b ob w q;by_cases hb:b=a
  ·subst hb; exact absurd q (h0 ob w)
  ·rw [Af hb]; exact z
 ·obtain ⟨more,z⟩:=I.base.tbls b ps q;refine ⟨more,?_⟩;rw [Af (fun hb=>by rw [hb,e] at z; cases z)]; exact z
 ·rw [Af (nn _ I.free)]; exact I.free
 ·rw [Af (nn _ (I.freeC x c q))]; exact I.freeC x c q
 ·obtain ⟨z1,z2,z3⟩:=I.pin p hp;exact ⟨z1,by rw [Af (nn _ z2)]; exact z2,z3⟩
 ·by_cases hb:b=a
  ·subst hb;rw [Ab] at q;cases q
   exact hok.stay (fun c v _ z=>z) (fun c z=>by rw [Af (own c _ z)]; exact z) fun c xs z=>by rw [Af (tup c xs z)]; exact z
  ·rw [Af hb] at q;exact (I.hok b w q).stay (fun c v _ z=>z) (fun c z=>by rw [Af (own c _ z)]; exact z) fun c xs z=>by rw [Af (tup c xs z)]; exact z
theorem Sg {X:Cx} {e:Expr} {t:TE} (h:PE X e t):PE X e (fun σ H Q=>t σ H fun x H1=>∃ a o kvs,H1 a=some (.frz o (.dK kvs))/\(∀ ob w,X.H₀ a ≠ some (.frz ob w))/\Q x (upd H1 a (.dK kvs))):=by
 intro pins s σ H Q I q;refine Bo (h (pins:=pins) s σ H _ I q) fun v s1 ⟨x,H1,I1,r1,a,o,kvs,e1,h0,q1⟩=>?_
 exact ⟨x,_,I1.thaw e1 h0 ⟨(by intro z; cases z),(by intro xs z; cases z)⟩,r1,q1⟩
def C4 (A:Around) (s:Shared) (x y:Value) (b:Bool):Prop:=∀ (prog:Program) (w:World) (E Q:Value->Shared->Prop),Q (.bool b) s->wpAny (model prog w) A (richCompare .Lt x y) Q E s
theorem C4.int (A:Around) (s:Shared) (a:Int) (t:Tok) (c:Int) (u:Tok):C4 A s (.int a t) (.int c u) (decide (a < c)):=fun prog w E Q h=>
 (PyProof.Rows.lt_int h:wpAny (model prog w) A (compareOp .Lt (.int a t) (.int c u)) Q E s)
theorem C4.str (A:Around) (s:Shared) (a:Str) (t:Tok) (c:Str) (u:Tok):C4 A s (.str a t) (.str c u) (decide (a.cps.toList < c.cps.toList)):=fun prog w E Q h=>
 (PySem.P.lt_str h:wpAny (model prog w) A (compareOp .Lt (.str a t) (.str c u)) Q E s)
section
open PySem.SeqAt
open PySem.AutoSeq1 (wpAny_loadPart')
open PySem.MeetsSeq PySem.MeetsSeq2 PySem.MeetsSeq3
theorem Od (l b:Addr) (x1 x2 y1 y2:Value) (n n2:Nat) (dd NL:Option Addr) (sl Pq:Array (Option Value)) (e1 b1 e2 b2:Bool) :
  Meets (Builtin.«tuple.__lt__» ⟨[.ref l,.ref b],[]⟩)
   (fun A R s=>s.heap.get? l=some { cls:=.type "tuple",dict:=dd,data:=.seq #[x1,x2] n,slots:=sl }/\s.heap.get? b=some { cls:=.type "tuple",dict:=NL,data:=.seq #[y1,y2] n2,slots:=Pq } /\
    EqAt A.in1 s x1 y1 e1/\(e1=false->C4 A.in1 s x1 y1 b1)/\(e1=true->EqAt A.in1 s x2 y2 e2/\(e2=false->C4 A.in1 s x2 y2 b2)) /\
    R (.ok (.ret (.bool (if e1=true then (if e2=true then false else b2) else b1)))) s):=
 .of_wp fun prog w A R s h=>by
  obtain ⟨hp,g,d,tk,os⟩:=s; obtain ⟨hl,hb,he1,Va,h2,h⟩:=h;have f2:=AutoSeq1.sub_tuple_tuple;wp_walk using wpAny_loadPart' hl,wpAny_loadPart' hb,wpAny_forIn_list _ (fun Cu b s'=>b.1=none/\s'=⟨hp,g,d,tk,os⟩/\(Cu=[(x1,y1),(x2,y2)]\/(Cu=[(x2,y2)]/\e1=true)\/(Cu=[]/\e1=true/\e2=true))) _
  case turn=>
   rintro ⟨y,x⟩ Cu b s' ⟨Ez,rfl,hz | ⟨hz,h1⟩ | ⟨hz,_⟩⟩
   ·cases hz
    refine wpAny_bind (he1 prog w _ _ ?_);cases ee:e1 with
    | true=>
     wp_walk
     exact ⟨rfl,rfl,.inr (.inl ⟨rfl,rfl⟩)⟩
    | false=>
     rw [ee,if_neg Yl] at h;have hri:=Va ee prog w;wp_walk using hri;exact ⟨_,rfl,by simpa using h⟩
   ·cases hz
    obtain ⟨he2,Pt⟩:=h2 h1;rw [if_pos h1] at h;refine wpAny_bind (he2 prog w _ _ ?_);cases ee:e2 with
    | true=>
     wp_walk
     exact ⟨rfl,rfl,.inr (.inr ⟨rfl,h1,rfl⟩)⟩
    | false=>
     rw [ee,if_neg Yl] at h;have hri:=Pt ee prog w;wp_walk using hri;exact ⟨_,rfl,by simpa using h⟩
   ·cases hz
  case fin=>
   rintro ⟨b1',b2'⟩ s' ⟨Ez,rfl,hz | ⟨hz,h1⟩ | ⟨hz,h1,T4⟩⟩
   ·cases hz
   ·cases hz
   ·simp only at Ez;subst Ez;rw [if_pos h1,if_pos T4] at h;wp_walk;exact ⟨_,rfl,by simpa [Builtin.Tuple.tupleCompareSizes] using h⟩
  case h=>
   exact ⟨rfl,rfl,.inl rfl⟩
end
theorem C4.tup2 {A:Around} {s:Shared} {l b:Addr} {x1 x2 y1 y2:Value} {e1 b1 e2 b2:Bool} (hl:IsTup s.heap l #[x1,x2]) (hb:IsTup s.heap b #[y1,y2]) (hu:A.units < cLine) (h1:SeqAt.EqAt A.in1 s x1 y1 e1) (l1:e1=false->C4 A.in1 s x1 y1 b1)
  (h2:e1=true->SeqAt.EqAt A.in1 s x2 y2 e2/\(e2=false->C4 A.in1 s x2 y2 b2)):C4 A s (.ref l) (.ref b) (if e1=true then (if e2=true then false else b2) else b1):=fun prog w E Q h=>by
 obtain ⟨⟨cls,dd,data,sl⟩,ho,hc,n,hd⟩:=id hl;obtain ⟨⟨UG,NL,data2,Pq⟩,OR,Rg,n2,hd2⟩:=id hb;simp only at hc hd Rg hd2;subst hc hd Rg hd2;exact richCompare_meets_room (op:=.Lt) ⟨_,ho,rfl⟩ ⟨_,OR,rfl⟩ PySem.F.slot_tuple_lt PySem.F.entry_tuple_lt (PySem.F.args_tuple_lt_2 _ _) (Od l b x1 x2 y1 y2 n n2 dd NL sl Pq e1 b1 e2 b2)
  ⟨ho,OR,h1,l1,h2,show Value.bool _ ≠ Value.notImplemented/\Q (.bool _) s from ⟨(fun x=>nomatch x),h⟩⟩ hu
def RE (p q:Int × Str):Bool:=if (p.1 == q.1)=true then (if (p.2 == q.2)=true then false else decide (p.2.cps.toList < q.2.cps.toList)) else decide (p.1 < q.1)
def D7 (h:Heap) (v:Value) (p:Int × Str):Prop:=∃ a t u,v=.ref a/\IsTup h a #[.int p.1 t,.str p.2 u]
theorem D7.keep {h h':Heap} {v:Value} {p:Int × Str} (x:D7 h v p) (k:∀ b o,h.get? b=some o->h'.get? b=some o):D7 h' v p:=by
 obtain ⟨a,t,u,rfl,o,ho,r⟩:=x;exact ⟨a,t,u,rfl,o,k _ _ ho,r⟩
theorem Np {A:Around} {s:Shared} {v w:Value} {p q:Int × Str} (hv:D7 s.heap v p) (hw:D7 s.heap w q) (hu:A.units < cLine):C4 A s v w (RE p q):=by
 obtain ⟨a,t,u,rfl,hl⟩:=hv;obtain ⟨b,t',u',rfl,hb⟩:=hw;exact C4.tup2 hl hb hu (SeqAt.EqAt.int_int _ _ _ _) (fun _=>C4.int _ _ _ _ _ _) fun _=>⟨SeqAt.EqAt.str_str _ _ _ _,fun _=>C4.str _ _ _ _ _ _⟩
theorem SE {A:Around} {s:Shared} {v w:Value} {p q:Int × Str} (hv:D7 s.heap v p) (hw:D7 s.heap w q) (hu:A.units < cLine):SeqAt.EqAt A s v w (decide (p=q)):=by
 obtain ⟨a,t,u,rfl,hl⟩:=hv;obtain ⟨b,t',u',rfl,hb⟩:=hw;by_cases hab:a=b
 ·subst hab;have e:p=q:=by
   obtain ⟨o,ho,hc,n,hd⟩:=hl;obtain ⟨o',IY,Hq,n',K0⟩:=hb;rw [ho] at IY;cases IY
   rw [hd] at K0;injection K0 with e1 e2;have e3:=congrArg ak e1;simp only [ZD.injEq,Value.int.injEq,Value.str.injEq] at e3;exact Prod.ext e3.1.1 e3.2.1.1
  rw [decide_eq_true e];intro prog w E Q h;unfold eqBool;refine wpAny_holding ?_;exact wpAny_ite_split (fun _=>wpAny_bind (wpAny_rule (wpAny_pure h))) (fun hn=>absurd (by simp) hn)
 ·have key:=SeqAt.RcAt.tuples (A:=A) (s:=s) (e:=fun j=>if j=0 then p.1 == q.1 else p.2 == q.2) (show s.heap.IsTuple a #[.int p.1 t,.str p.2 u] from hl) (show s.heap.IsTuple b #[.int q.1 t',.str q.2 u'] from hb) hu (fun j h1 h2=>by
   match j,h1,h2 with
   | 0,_,_=>exact SeqAt.EqAt.int_int _ _ _ _
   | 1,_,_=>exact SeqAt.EqAt.str_str _ _ _ _
   | j + 2,h1,_=>exact absurd (show j + 2 < 2 from h1) (by lia))
  have e:((Zi (min (#[Value.int p.1 t,.str p.2 u]:Array Value).size (#[Value.int q.1 t',.str q.2 u']:Array Value).size)).all (fun j=>if j=0 then p.1 == q.1 else p.2 == q.2) && (#[Value.int p.1 t,.str p.2 u]:Array Value).size == (#[Value.int q.1 t',.str q.2 u']:Array Value).size)=decide (p=q):=by
   show ((Zi 2).all (fun j=>if j=0 then p.1 == q.1 else p.2 == q.2) && (2 == 2))=decide (p=q)
   have:(Zi 2)=[0,1]:=rfl;rw [this];simp only [ag,List.all_nil,ZI,beq_self_eq_true];rw [YZ];simp [Prod.ext_iff]
  rw [e] at key;exact SeqAt.EqAt.of_refs hab key
def II (h:Heap) (v:Value) (k:(Int × Str) × Str):Prop:=∃ a l u,v=.ref a/\IsTup h a #[.ref l,.str k.2 u]/\D7 h (.ref l) k.1
theorem II.keep {h h':Heap} {v:Value} {p:(Int × Str) × Str} (x:II h v p) (k:∀ b o,h.get? b=some o->h'.get? b=some o):II h' v p:=by
 obtain ⟨a,l,u,rfl,⟨o,ho,r⟩,z⟩:=x;exact ⟨a,l,u,rfl,⟨o,k _ _ ho,r⟩,z.keep k⟩
def Tu (p q:(Int × Str) × Str):Bool:=if decide (p.1=q.1)=true then (if (p.2 == q.2)=true then false else decide (p.2.cps.toList < q.2.cps.toList)) else RE p.1 q.1
theorem Uy {A:Around} {s:Shared} {v w:Value} {p q:(Int × Str) × Str} (hv:II s.heap v p) (hw:II s.heap w q) (hu:A.units + 1 < cLine):C4 A s v w (Tu p q):=by
 obtain ⟨a,l,u,rfl,hl,hp⟩:=hv;obtain ⟨b,l',u',rfl,hb,hq⟩:=hw;exact C4.tup2 hl hb (by lia) (SE hp hq (by rw [PySem.Around.in1_units]; exact hu)) (fun _=>Np hp hq (by rw [PySem.Around.in1_units]; exact hu)) fun _=>⟨SeqAt.EqAt.str_str _ _ _ _,fun _=>C4.str _ _ _ _ _ _⟩
def Te (prog:Program) (w:World) (A:Around) (g0:Heap) (P:Nat->Value->Prop) (bt:Nat->Nat->Bool):Prop:=
 ∀ i j vi vj (s:Shared) (Q:Value->Shared->Prop) (E:Value->Shared->Prop),(∀ b o,g0.get? b=some o->s.heap.get? b=some o)->P i vi->P j vj->Q (.bool (bt i j)) s->wpAny (model prog w) A (richCompare .Lt vi vj) Q E s
section
variable {prog:Program} {w:World} {A:Around} {R:Result->Shared->Prop} {I:Addr} {fp wr:List Addr} {n:Nat} {P:Nat->Value->Prop} {St:Nat->Heap->Prop} {g0:Heap}
theorem OH (W:Walks prog w A.in1 I fp wr n P St) (bt:Nat->Nat->Bool) (cm:Te prog w A.in1 g0 P bt) (S:Addr) (nS:S ∉ fp) (gw:∀ b o,g0.get? b=some o->b ∉ wr/\b ≠ S) :
  ∀ (m j:Nat) (s:Shared) (bv:Value) (c:Nat),n - (j + 1)=m->j + 1<=n->St (j + 1) s.heap->P (argBest bt j) bv->(∀ b o,g0.get? b=some o->s.heap.get? b=some o) ->
  s.heap.get? S=some { cls:=.type "list",dict:=none,data:=.seq #[bv,bv] c,slots:=#[] } ->
  (∀ v h2 tk,P (argBest bt (n - 1)) v->(∀ b o,b ∉ wr->b ≠ S->s.heap.get? b=some o->h2.get? b=some o)->R (.ok (.ret v)) { s with heap:=h2,toks:=tk }) ->
  codeAny (model prog w) A (.builtin "min.loop" ⟨[.ref I,.none,.ref S],[]⟩) R s:=by
 have Sw:S ∉ wr:=fun z=>nS (W.sub _ z)
 have nm:(toString "min" ++ toString ".loop":String)="min.loop":=by decide
 intro m;induction m with
 | zero=>
  intro j s bv c hm hj st pb g1 aS r;have jn:j + 1=n:=by lia
  refine codeAny_builtin F.entry_min_loop ?_;rw [Around.under_plainId F.plain_min_loop _];refine wpAny_bind (m:=seqItems? (.ref S)) (wpAny_seqItems aS rfl ?_);refine wpAny_bind (wpAny_tryCatch (W.done s _ _ (jn ▸ st) fun h2 tk k2=>?_));have T8:=k2 S _ Sw aS;refine wpAny_bind (m:=updateSeq S (fun _=>#[])) ?_;refine wpAny_updateSeq T8 rfl (wpAny_bind (wpAny_letGo (wpAny_pure ?_)));exact r bv _ tk (by rw [<-jn]; exact pb) fun b o bw bS e=>(YG _ _ (Ne.symm bS)).trans (k2 b o bw e)
 | succ m ih=>
  intro j s bv c hm hj st pb g1 aS r;have lt:j + 1 < n:=by lia
  refine codeAny_builtin F.entry_min_loop ?_;rw [Around.under_plainId F.plain_min_loop _];refine wpAny_bind (m:=seqItems? (.ref S)) (wpAny_seqItems aS rfl ?_);refine wpAny_bind (wpAny_tryCatch (W.item (j + 1) s _ _ lt st fun v h2 tk pv ER k2=>?_));have T8:=k2 S _ Sw aS;have g2:∀ b o,g0.get? b=some o->h2.get? b=some o:=fun b o e=>k2 b o (gw b o e).1 (g1 b o e)
  show wpAny _ A.in1 (tryCatch (holding [v,v] (richCompare .Lt v bv >>= _)) _ >>= _) _ _ _
  refine wpAny_bind (wpAny_tryCatch (wpAny_holding (wpAny_bind (cm (j + 1) (argBest bt j) v bv _ _ _ g2 pv pb ?_))));refine wpAny_bind (wpAny_holding (wpAny_truthy_bool ?_));refine wpAny_bind (wpAny_letGo (wpAny_pure ?_));cases hb:bt (j + 1) (argBest bt j) with
  | true=>
   simp only [if_true];refine wpAny_bind ?_;refine wpAny_updateSeq T8 rfl (wpAny_bind (wpAny_letGo ?_));rw [nm];refine wpAny_pure ⟨plainId_quiet F.plain_min_loop _,ih (j + 1) _ v _ (by lia) lt (W.frame _ _ _ ER fun b bf o e=>?_) (by simp only [argBest,hb,if_true]; exact pv) (fun b o e=>?_) (YH _ T8 rfl) fun v' h3 TR Vr k3=>?_⟩
   ·exact (YG _ _ (fun z:S=b=>nS (by rw [z]; exact bf))).trans e
   ·exact (YG _ _ (Ne.symm (gw b o e).2)).trans (g2 b o e)
   ·exact r v' h3 TR Vr fun b o bw bS e=>k3 b o bw bS ((YG _ _ (Ne.symm bS)).trans (k2 b o bw e))
  | false=>
   simp only [Y1,if_false];refine wpAny_bind (wpAny_letGo ?_);rw [nm];refine wpAny_pure ⟨plainId_quiet F.plain_min_loop _,ih (j + 1) _ bv c (by lia) lt ER (by simp only [argBest,hb,Y1,if_false]; exact pb) g2 T8 fun v' h3 TR Vr k3=>?_⟩;exact r v' h3 TR Vr fun b o bw bS e=>k3 b o bw bS (k2 b o bw e)
theorem HX (W:Walks prog w A.in1 I fp wr n P St) (bt:Nat->Nat->Bool) (cm:Te prog w A.in1 g0 P bt) (S:Addr) (nS:S ∉ fp) (gw:∀ b o,g0.get? b=some o->b ∉ wr/\b ≠ S) (hn:0 < n) {s:Shared} {c:Nat} (st:St 0 s.heap)
  (g1:∀ b o,g0.get? b=some o->s.heap.get? b=some o) (aS:s.heap.get? S=some { cls:=.type "list",dict:=none,data:=.seq #[] c,slots:=#[] })
  (r:∀ v h2 tk,P (argBest bt (n - 1)) v->(∀ b o,b ∉ wr->b ≠ S->s.heap.get? b=some o->h2.get? b=some o)->R (.ok (.ret v)) { s with heap:=h2,toks:=tk }) :
  codeAny (model prog w) A (.builtin "min.loop" ⟨[.ref I,.none,.ref S],[]⟩) R s:=by
 have Sw:S ∉ wr:=fun z=>nS (W.sub _ z)
 have nm:(toString "min" ++ toString ".loop":String)="min.loop":=by decide
 refine codeAny_builtin F.entry_min_loop ?_;rw [Around.under_plainId F.plain_min_loop _];refine wpAny_bind (m:=seqItems? (.ref S)) (wpAny_seqItems aS rfl ?_);refine wpAny_bind (wpAny_tryCatch (W.item 0 s _ _ hn st fun v h2 tk pv ER k2=>?_));have T8:=k2 S _ Sw aS;refine wpAny_bind (m:=updateSeq S (fun _=>#[v,v])) ?_;refine wpAny_updateSeq T8 rfl ?_;rw [nm];refine wpAny_pure ⟨plainId_quiet F.plain_min_loop _,OH W bt cm S nS gw _ 0 _ v _ rfl hn (W.frame _ _ _ ER fun b bf o e=>?_) pv (fun b o e=>?_) (YH _ T8 rfl) fun v' h3 TR Vr k3=>?_⟩
 ·exact (YG _ _ (fun z:S=b=>nS (by rw [z]; exact bf))).trans e
 ·exact (YG _ _ (Ne.symm (gw b o e).2)).trans (k2 b o (gw b o e).1 (g1 b o e))
 ·exact r v' h3 TR Vr fun b o bw bS e=>k3 b o bw bS ((YG _ _ (Ne.symm bS)).trans (k2 b o bw e))
end
section
variable {prog:Program} {w:World} {A:Around} {E:Value->Shared->Prop} {s:Shared}
theorem Gj {l:Addr} {vs:List Value} {bt:Nat->Nat->Bool} {Q:Value->Shared->Prop} (hh:A.handled=none) (hl:s.heap.IsList l vs.toArray) (hn:0 < vs.length) (cm:Te prog w A.in1 s.heap (fun i v=>vs[i]? = some v) bt)
  (h:∀ v h2 tk,vs[argBest bt (vs.length - 1)]? = some v->(∀ b o,s.heap.get? b=some o->h2.get? b=some o)->Q v { s with heap:=h2,toks:=tk }):wpAny (model prog w) A (call (.builtin "min") [.ref l]) Q E s:=by
 have nm:(toString "min" ++ toString ".loop":String)="min.loop":=by decide
 have Bu:l < s.heap.objs.size:=by obtain ⟨o,ho,_⟩:=id hl; exact Ye ho
 refine call_function_tree F.kind_min F.plain_min F.entry_min (F.args_min1 _) ?_;refine wpAny_bind (wpAny_of_eq (show Builtin.Builtins.bindParams "min" ["key","default"] 0 ⟨[],[]⟩=pure [none,none] from rfl) ?_);refine wpAny_bind (wpAny_pure ?_);refine wpAny_bind (wpAny_pyIter_list hl ?_);refine wpAny_bind (wpAny_newObj_type ?_);rw [nm];have sz:(s.heap.push { cls:=.type "list_iterator",data:=.fields #[.ref l,.int 0 0] }).objs.size=s.heap.objs.size + 1:=YE ..;have W:=(Walks.list (prog:=prog) (w:=w) (A:=A.in1) hh s.heap.objs.size l (Yh Bu) vs.toArray).weaken (P':=fun i v=>vs[i]? = some v) (fun i v e=>by simpa using e);refine wpAny_pure ⟨plainId_quiet F.plain_min_loop _,HX (g0:=s.heap) W bt cm (s.heap.push { cls:=.type "list_iterator",data:=.fields #[.ref l,.int 0 0] }).objs.size (fun hm=>?_) (fun b o e=>⟨fun hm=>?_,fun z=>?_⟩) (by simpa using hn) ?_ (fun b o e=>XQ _ (XQ _ e)) (Yf _ rfl) fun v h2 tk pv k2=>?_⟩
 ·rw [sz] at hm;rcases XX.mp hm with z | hm
  ·exact absurd z (Nat.succ_ne_self _)
  ·rcases XX.mp hm with z | hm
   ·exact absurd z (YL (Yy Bu))
   ·cases hm
 ·have:=Ye e;rw [Yn.mp hm] at this;exact absurd this (YI _)
 ·have:=Ye e;rw [z,sz] at this;exact absurd this (ZU.mpr (Y8 _))
 ·exact ⟨⟨_,XQ _ (Yf _ rfl),rfl,rfl⟩,(hl.push _).push _⟩
 ·refine h v h2 tk (by simpa using pv) fun b o e=>k2 b o (fun hm=>?_) (fun z=>?_) (XQ _ (XQ _ e))
  ·have:=Ye e;rw [Yn.mp hm] at this;exact absurd this (YI _)
  ·have:=Ye e;rw [z,sz] at this;exact absurd this (ZU.mpr (Y8 _))
end
section
variable {prog:Program} {w:World} {A:Around} {E:Value->Shared->Prop} {s:Shared}
theorem QR {a b:Value} {bt:Nat->Nat->Bool} {Q:Value->Shared->Prop} (hh:A.handled=none) (cm:Te prog w A.in1 s.heap (fun i v=>[a,b][i]? = some v) bt)
  (h:∀ v h2 tk,[a,b][argBest bt 1]? = some v->(∀ c o,s.heap.get? c=some o->h2.get? c=some o)->Q v { s with heap:=h2,toks:=tk }):wpAny (model prog w) A (call (.builtin "min") [a,b]) Q E s:=by
 have nm:(toString "min" ++ toString ".loop":String)="min.loop":=by decide
 have hT:(s.heap.push { cls:=.type "tuple",data:=.seq #[a,b] }).IsTuple s.heap.objs.size #[a,b]:=⟨_,Yf _ rfl,rfl,0,rfl⟩
 refine call_function_tree F.kind_min F.plain_min F.entry_min (F.args_min2 _ _) ?_;refine wpAny_bind (wpAny_of_eq (show Builtin.Builtins.bindParams "min" ["key","default"] 0 ⟨[],[]⟩=pure [none,none] from rfl) ?_);show wpAny _ A.in1 (newTuple [a,b] >>= _) _ _ s
 refine wpAny_bind (wpAny_newObj_type ?_);refine wpAny_bind (wpAny_pyIter_tuple hT ?_);refine wpAny_bind (wpAny_newObj_type ?_);rw [nm];have s1:(s.heap.push { cls:=.type "tuple",data:=.seq #[a,b] }).objs.size=s.heap.objs.size + 1:=YE ..;have s2:((s.heap.push { cls:=.type "tuple",data:=.seq #[a,b] }).push { cls:=.type "tuple_iterator",data:=.fields #[.ref s.heap.objs.size,.int 0 0] }).objs.size=s.heap.objs.size + 2:=by rw [YE,s1]
 have W:=(Walks.tuple (prog:=prog) (w:=w) (A:=A.in1) hh (s.heap.push { cls:=.type "tuple",data:=.seq #[a,b] }).objs.size s.heap.objs.size (by rw [s1]; exact Yh (Y6 _)) #[a,b]).weaken (P':=fun i v=>[a,b][i]? = some v) (fun i v e=>by simpa using e);refine wpAny_pure ⟨plainId_quiet F.plain_min_loop _,HX (g0:=s.heap) W bt cm ((s.heap.push { cls:=.type "tuple",data:=.seq #[a,b] }).push { cls:=.type "tuple_iterator",data:=.fields #[.ref s.heap.objs.size,.int 0 0] }).objs.size (fun hm=>?_) (fun b o e=>⟨fun hm=>?_,fun z=>?_⟩) (by simp) ?_ (fun b o e=>XQ _ (XQ _ (XQ _ e))) (Yf _ rfl) fun v h2 tk pv k2=>?_⟩
 ·rw [s2] at hm;rcases XX.mp hm with z | hm
  ·rw [s1] at z; exact absurd z (YL (Y6 _))
  ·rcases XX.mp hm with z | hm
   ·exact absurd z (YL (Yy (Y6 _)))
   ·cases hm
 ·have:=Ye e;rw [Yn.mp hm,s1] at this;exact absurd this (ZU.mpr (Y8 _))
 ·have:=Ye e;rw [z,s2] at this;exact absurd this (ZU.mpr (Yv (Y8 _) (Y8 _)))
 ·exact ⟨⟨_,XQ _ (Yf _ rfl),rfl,rfl⟩,(hT.push _).push _⟩
 ·refine h v h2 tk (by simpa using pv) fun b o e=>k2 b o (fun hm=>?_) (fun z=>?_) (XQ _ (XQ _ (XQ _ e)))
  ·have:=Ye e;rw [Yn.mp hm,s1] at this;exact absurd this (ZU.mpr (Y8 _))
  ·have:=Ye e;rw [z,s2] at this;exact absurd this (ZU.mpr (Yv (Y8 _) (Y8 _)))
end
theorem IE (bt:Nat->Nat->Bool) (num:Nat->Int) (h1:∀ i j,bt i j=true->num i<=num j) (h2:∀ i j,bt i j=false->num j<=num i):∀ k,argBest bt k<=k/\∀ j,j<=k->num (argBest bt k)<=num j
 | 0=>⟨Ya _,fun j hj=>by
  have:j=0:=by lia
  subst this; exact Z6 _⟩
 | k + 1=>by
  obtain ⟨a1,a2⟩:=IE bt num h1 h2 k;simp only [argBest];cases hc:bt (k + 1) (argBest bt k) with
  | true=>
   simp only [if_true];refine ⟨Ya _,fun j hj=>?_⟩;have:=h1 _ _ hc;by_cases IZ:j<=k
   ·have:=a2 j IZ; lia
   ·have:j=k + 1:=by lia
    subst this; exact Z6 _
  | false=>
   simp only [Y1,if_false];refine ⟨ZK a1,fun j hj=>?_⟩;by_cases IZ:j<=k
   ·exact a2 j IZ
   ·have:j=k + 1:=by lia
    subst this; exact h2 _ _ hc
def JR (H:Hp) (v:V) (p:Int × Str):Prop:=∃ t,v=.ref t/\H t=some (.tup [.int p.1,.str p.2])
def TF (H:Hp) (v:V) (k:(Int × Str) × Str):Prop:=∃ t t2,v=.ref t/\H t=some (.tup [.ref t2,.str k.2])/\JR H (.ref t2) k.1
theorem JR.same {H H':Hp} {v:V} {p:Int × Str} (h:JR H v p) (s:∀ b xs,H b=some (.tup xs)->H' b=some (.tup xs)):JR H' v p:=let ⟨t,e,z⟩:=h; ⟨t,e,s _ _ z⟩
theorem TF.same {H H':Hp} {v:V} {p:(Int × Str) × Str} (h:TF H v p) (s:∀ b xs,H b=some (.tup xs)->H' b=some (.tup xs)):TF H' v p:=let ⟨t,t2,e,z,q⟩:=h; ⟨t,t2,e,s _ _ z,q.same s⟩
theorem JR.at {X:Cx} {pins:List (Addr × Obj)} {σ:St} {H:Hp} {s:Shared} {v:V} {u:Value} {p:Int × Str} (I:Ao X pins σ H s) (r:A1 v u) (h:JR H v p):D7 s.heap u p:=by
 obtain ⟨t,rfl,ht⟩:=h;cases r
 obtain ⟨Aq,rv,pl,hz⟩:=I.tuple (AE.of ht);cases rv with
 | cons a1 b1=>
  cases b1 with
  | cons a2 b2=>
   cases b2
   obtain ⟨t1,rfl⟩:=a1;obtain ⟨t2,rfl⟩:=a2;exact ⟨t,t1,t2,rfl,pl⟩
theorem TF.at {X:Cx} {pins:List (Addr × Obj)} {σ:St} {H:Hp} {s:Shared} {v:V} {u:Value} {k:(Int × Str) × Str} (I:Ao X pins σ H s) (r:A1 v u) (h:TF H v k):II s.heap u k:=by
 obtain ⟨t,l,rfl,ht,hp⟩:=h;cases r
 obtain ⟨Aq,rv,pl,hz⟩:=I.tuple (AE.of ht);cases rv with
 | cons a1 b1=>
  cases b1 with
  | cons a2 b2=>
   cases b2
   cases a1
   obtain ⟨t2,rfl⟩:=a2;exact ⟨t,l,t2,rfl,pl,hp.at I (show A1 (V.ref l) (Value.ref l) from rfl)⟩
def Dv (p q:Int × Str):Prop:=p.1 < q.1\/(p.1=q.1/\¬ q.2.cps.toList < p.2.cps.toList)
theorem Dv.refl (p:Int × Str):Dv p p:=.inr ⟨rfl,ZY _⟩
theorem Dv.trans {p q r:Int × Str} (h1:Dv p q) (h2:Dv q r):Dv p r:=by
 rcases h1 with a | ⟨a,b⟩ <;> rcases h2 with c | ⟨c,d⟩
 ·exact .inl (by lia)
 ·exact .inl (by lia)
 ·exact .inl (by lia)
 ·exact .inr ⟨by lia,Zw.mpr (cj (Zw.mp b) (Zw.mp d))⟩
theorem Dv.add {d d' l:Int} {s s':Str} (h:Dv (d,s) (d',s')):Dv (d + l,s) (d' + l,s'):=by
 rcases h with a | ⟨a,b⟩
 ·have a':d < d':=a;exact .inl (show d + l < d' + l by lia)
 ·have a':d=d':=a;exact .inr ⟨show d + l=d' + l by lia,b⟩
theorem Dv.up {d d':Int} {s:Str} (h:d<=d'):Dv (d,s) (d',s):=by
 by_cases e:d=d'
 ·exact .inr ⟨e,ZY _⟩
 ·exact .inl (show d < d' by lia)
theorem Dv.fst {p q:Int × Str} (h:Dv p q):p.1<=q.1:=by
 rcases h with a | ⟨a,_⟩ <;> lia
theorem Nq {p q:Int × Str} (h:RE p q=true):Dv p q:=by
 unfold RE at h;by_cases e:(p.1 == q.1)=true
 ·have e':p.1=q.1:=by simpa using e
  rw [if_pos e] at h;by_cases e2:(p.2 == q.2)=true
  ·rw [if_pos e2] at h; cases h
  ·rw [if_neg e2] at h;exact .inr ⟨e',ZJ (by simpa using h)⟩
 ·rw [if_neg e] at h;exact .inl (by simpa using h)
theorem Nr {p q:Int × Str} (h:RE p q=false):Dv q p:=by
 unfold RE at h;by_cases e:(p.1 == q.1)=true
 ·have e':p.1=q.1:=by simpa using e
  rw [if_pos e] at h;by_cases e2:(p.2 == q.2)=true
  ·have e2':p.2=q.2:=by simpa using e2
   exact .inr ⟨e'.symm,by rw [e2']; exact ZY _⟩
  ·rw [if_neg e2] at h;exact .inr ⟨e'.symm,by simpa using h⟩
 ·rw [if_neg e] at h;have e':¬ p.1=q.1:=by simpa using e
  have:¬ p.1 < q.1:=by simpa using h
  exact .inl (by lia)
theorem Ss {p q:(Int × Str) × Str} (h:Tu p q=true):Dv p.1 q.1:=by
 unfold Tu at h;by_cases e:decide (p.1=q.1)=true
 ·have:p.1=q.1:=by simpa using e
  rw [this]; exact Dv.refl _
 ·rw [if_neg e] at h;exact Nq h
theorem Su {p q:(Int × Str) × Str} (h:Tu p q=false):Dv q.1 p.1:=by
 unfold Tu at h;by_cases e:decide (p.1=q.1)=true
 ·have:p.1=q.1:=by simpa using e
  rw [this]; exact Dv.refl _
 ·rw [if_neg e] at h;exact Nr h
theorem GC (bt:Nat->Nat->Bool) (num:Nat->Int × Str) (h1:∀ i j,bt i j=true->Dv (num i) (num j)) (h2:∀ i j,bt i j=false->Dv (num j) (num i)):∀ k,argBest bt k<=k/\∀ j,j<=k->Dv (num (argBest bt k)) (num j)
 | 0=>⟨Ya _,fun j hj=>by
  have:j=0:=by lia
  subst this; exact Dv.refl _⟩
 | k + 1=>by
  obtain ⟨a1,a2⟩:=GC bt num h1 h2 k;simp only [argBest];cases hc:bt (k + 1) (argBest bt k) with
  | true=>
   simp only [if_true];refine ⟨Ya _,fun j hj=>?_⟩;by_cases IZ:j<=k
   ·exact (h1 _ _ hc).trans (a2 j IZ)
   ·have:j=k + 1:=by lia
    subst this; exact Dv.refl _
  | false=>
   simp only [Y1,if_false];refine ⟨ZK a1,fun j hj=>?_⟩;by_cases IZ:j<=k
   ·exact a2 j IZ
   ·have:j=k + 1:=by lia
    subst this; exact h2 _ _ hc
theorem IC {X:Cx} (hc:X.calm=true) (hu:X.A.units + 64 < cLine):Bg X (.builtin "min") (fun xs H Q=>∃ (a:Addr) (vs:List V) (ks:List ((Int × Str) × Str)),xs=[.ref a]/\H a=some (.lst vs)/\vs.length=ks.length/\ks ≠ []/\(∀ (i:Nat) v k,vs[i]? = some v->ks[i]? = some k->TF H v k) /\
  ∀ v k,k ∈ ks->TF H v k->(∀ k' ∈ ks,Dv k.1 k'.1)->Q v H):=by
 intro pins s σ H xs us Q I r h;obtain ⟨a,vs,ks,rfl,ha,hl,hne,hk,q⟩:=h;obtain ⟨u,rfl,ru⟩:=BR r;cases ru
 obtain ⟨Aq,rv,pl,hz⟩:=I.list (AM.of ha);have il:Aq.length=ks.length:=by rw [<-rv.length,hl]
 have pos:0 < ks.length:=Zd.mpr hne;have kat:∀ (i:Nat) (v:Value),Aq[i]? = some v->∃ k,ks[i]? = some k/\II s.heap v k/\∃ x,vs[i]? = some x/\A1 x v:=fun i v e=>by
  have hi:i < Aq.length:=(Yb.mp e).1;have e1:vs[i]? = some vs[i]:=XO (by lia);have e2:ks[i]? = some ks[i]:=XO (by lia);obtain ⟨v',e3,r3⟩:=rv.get e1;rw [e] at e3;cases e3
  exact ⟨_,e2,(hk i _ _ e1 e2).at I r3,_,e1,r3⟩
 refine Gj (bt:=fun i j=>Tu (ks.getD i default) (ks.getD j default)) (I.ok.hd hc) pl.isList (by lia) (fun i j vi vj s' Q' E' g hi hj hQ=>?_) fun v h2 tk hv k2=>?_
 ·obtain ⟨ki,e1,a1,_⟩:=kat i vi hi;obtain ⟨kj,e2,a2,_⟩:=kat j vj hj;have d1:ks.getD i default=ki:=by rw [Yw,e1]; rfl
  have d2:ks.getD j default=kj:=by rw [Yw,e2]; rfl
  dsimp only at hQ;rw [d1,d2] at hQ;exact Uy (a1.keep g) (a2.keep g) (by rw [PySem.Around.in1_units]; lia) _ _ _ _ hQ
 ·obtain ⟨k,e1,a1,x,e3,r3⟩:=kat _ v hv;obtain ⟨b1,b2⟩:=GC (fun i j=>Tu (ks.getD i default) (ks.getD j default)) (fun i=>(ks.getD i default).1) (fun _ _=>Ss) (fun _ _=>Su) (Aq.length - 1);refine ⟨x,H,I.kept k2,r3,q x k (XY e1) (hk _ x k e3 e1) fun k' M1=>?_⟩;obtain ⟨j,hj,ej⟩:=Yq M1;have:=b2 j (by lia);have d1:ks.getD (argBest (fun i j=>Tu (ks.getD i default) (ks.getD j default)) (Aq.length - 1)) default=k:=by rw [Yw,e1]; rfl
  have d2:ks.getD j default=k':=by rw [Yw,XO hj,ej]; rfl
  rw [d1,d2] at this;exact this
theorem Je {X:Cx} (hc:X.calm=true) (hu:X.A.units + 64 < cLine):Bg X (.builtin "min") (fun xs H Q=>∃ (x y:V) (p q:Int × Str),xs=[x,y]/\JR H x p/\JR H y q/\((Dv q p->Q y H)/\(Dv p q->Q x H))):=by
 intro pins s σ H xs us Q I r h;obtain ⟨x,y,p,q,rfl,hx,hy,q1,q2⟩:=h;obtain ⟨u,v,rfl,ru,rv⟩:=MM r;have pu:=hx.at I ru;have pv:=hy.at I rv;refine QR (bt:=fun i j=>RE ([p,q].getD i default) ([p,q].getD j default)) (I.ok.hd hc) (fun i j vi vj s' Q' E' g hi hj hQ=>?_) fun z h2 tk hz k2=>?_
 ·have at':∀ (i:Nat) (vi:Value),[u,v][i]? = some vi->D7 s.heap vi ([p,q].getD i default):=fun i vi e=>by
   match i,e with
   | 0,e=>cases e; exact pu
   | 1,e=>cases e; exact pv
   | i + 2,e=>cases e
  exact Np ((at' i vi hi).keep g) ((at' j vj hj).keep g) (by rw [PySem.Around.in1_units]; lia) _ _ _ _ hQ
 ·have e:argBest (fun i j=>RE ([p,q].getD i default) ([p,q].getD j default)) 1=if RE q p=true then 1 else 0:=rfl
  rw [e] at hz;cases hl:RE q p with
  | true=>
   rw [hl,if_pos rfl] at hz;cases hz
   exact ⟨y,H,I.kept k2,rv,q1 (Nq hl)⟩
  | false=>
   rw [hl,if_neg Yl] at hz;cases hz
   exact ⟨x,H,I.kept k2,ru,q2 (Nr hl)⟩
def Ct (ws:List AF) (x y:Str) (l:Int):Prop:=∃ u ∈ ws,((u.1=x/\u.2.1=y)\/(u.1=y/\u.2.1=x))/\u.2.2=l
theorem Ct.adj {ws:List AF} {x y:Str} {l:Int} (h:Ct ws x y l):K9 ws x y:=let ⟨u,hu,e,_⟩:=h; ⟨u,hu,e⟩
theorem Ct.symm {ws:List AF} {x y:Str} {l:Int} (h:Ct ws x y l):Ct ws y x l:=let ⟨u,hu,e,z⟩:=h; ⟨u,hu,e.symm,z⟩
inductive B4 (ws:List AF):Str->Str->Int->Prop
 | nil (x:Str):B4 ws x x 0
 | cons {x y z:Str} {l m:Int}:Ct ws x y l->B4 ws y z m->B4 ws x z (l + m)
theorem B4.app {ws:List AF} {x y z:Str} {m n:Int} (h:B4 ws x y m) (g:B4 ws y z n):B4 ws x z (m + n):=by
 induction h with
 | nil x=>rw [ay]; exact g
 | cons e _ ih=>rw [aT]; exact .cons e (ih g)
theorem B4.snoc {ws:List AF} {x y z:Str} {m l:Int} (h:B4 ws x y m) (e:Ct ws y z l):B4 ws x z (m + l):=by
 have:=h.app (.cons e (.nil z));rwa [Int.add_zero] at this
theorem B4.symm {ws:List AF} {x y:Str} {m:Int} (h:B4 ws x y m):B4 ws y x m:=by
 induction h with
 | nil x=>exact .nil x
 | @cons x y z l m e _ ih=>rw [aZ]; exact ih.snoc e.symm
theorem B4.pos {ws:List AF} (hp:∀ u ∈ ws,1<=u.2.2) {x y:Str} {m:Int} (h:B4 ws x y m):0<=m:=by
 induction h with
 | nil x=>exact Z6 _
 | cons e _ ih=>
  obtain ⟨u,hu,_,rfl⟩:=e;have:=hp u hu;lia
def IH (ws:List AF) (ss:List Str) (y:Str) (p:Int × Str):Prop:=(p.2 ∈ ss/\B4 ws p.2 y p.1)/\∀ s ∈ ss,∀ m,B4 ws s y m->Dv p (m,s)
structure Td (ws:List AF) (ss:List Str) (S R:Str->Int × Str->Prop):Prop where
 near:∀ y p,S y p->IH ws ss y p
 reach:∀ y p,R y p->p.2 ∈ ss/\B4 ws p.2 y p.1
 relax:∀ x p y l,S x p->Ct ws x y l->(∃ q,S y q)\/∃ q,R y q/\Dv q (p.1 + l,p.2)
 start:∀ s ∈ ss,(∃ q,S s q)\/∃ q,R s q/\Dv q (0,s)
theorem Td.out {ws:List AF} {ss:List Str} {S R:Str->Int × Str->Prop} (h:Td ws ss S R) (hp:∀ u ∈ ws,1<=u.2.2) {x z:Str} {m:Int} (g:B4 ws x z m) (hz:∀ q,¬ S z q):∀ p,S x p->∃ y q,R y q/\Dv q (p.1 + m,p.2):=by
 induction g with
 | nil x=>intro p VC; exact absurd VC (hz p)
 | @cons x y z l m e g ih=>
  intro p hx;rcases h.relax x p y l hx e with ⟨q,hq⟩ | ⟨q,hq,le⟩
  ·obtain ⟨y',q',h1,h2⟩:=ih hz q hq;refine ⟨y',q',h1,h2.trans ?_⟩;have n1:=(h.near y q hq).2 p.2 (h.near x p hx).1.1 (p.1 + l) ((h.near x p hx).1.2.snoc e);have:=n1.add (l:=m);rw [aT] at this;exact this
  ·exact ⟨y,q,hq,le.trans (Dv.up (by have:=g.pos hp; lia))⟩
theorem Td.pick {ws:List AF} {ss:List Str} {S R:Str->Int × Str->Prop} (h:Td ws ss S R) (hp:∀ u ∈ ws,1<=u.2.2) {y:Str} {p:Int × Str} (hy:R y p) (ny:∀ q,¬ S y q) (least:∀ z q,R z q->Dv p q):IH ws ss y p:=by
 refine ⟨h.reach y p hy,fun s hs m g=>?_⟩;rcases h.start s hs with ⟨q,hq⟩ | ⟨q,hq,le⟩
 ·obtain ⟨z,q',h1,h2⟩:=h.out hp g ny q hq;refine (least z q' h1).trans (h2.trans ?_);have n1:=(h.near s q hq).2 s hs 0 (.nil s);have:=(show Dv (q.1,q.2) (0,s) from n1).add (l:=m);rw [ay] at this;exact this
 ·exact (least s q hq).trans (le.trans (Dv.up (g.pos hp)))
theorem Td.done {ws:List AF} {ss:List Str} {S R:Str->Int × Str->Prop} (h:Td ws ss S R) (hR:∀ y p,¬ R y p) {r:Str} (hss:ss ≠ []) {ps:List Str} (con:∀ T:Str->Prop,T r->(∀ x y,K9 ws x y->T x->T y)->∀ x ∈ ps,T x)
  (XB:∀ T:Str->Prop,∀ x ∈ ps,T x->(∀ x y,K9 ws x y->T x->T y)->T r) (sub:∀ s ∈ ss,s ∈ ps):∀ x ∈ ps,∃ q,S x q:=by
 have cl:∀ x y,K9 ws x y->(∃ q,S x q)->∃ q,S y q:=fun x y ⟨u,hu,e⟩ ⟨q,hq⟩=>by
  rcases h.relax x q y u.2.2 hq ⟨u,hu,e,rfl⟩ with z | ⟨q',hq',_⟩
  ·exact z
  ·exact absurd hq' (hR _ _)
 obtain ⟨s,hs⟩:=List.exists_mem_of_ne_nil ss hss;have s0:∃ q,S s q:=by
  rcases h.start s hs with z | ⟨q,hq,_⟩
  ·exact z
  ·exact absurd hq (hR _ _)
 exact con (fun x=>∃ q,S x q) (XB (fun x=>∃ q,S x q) s (sub s hs) s0 cl) cl
theorem Kf {a b:List (Str × V)} (h:sK a=sK b):a=b:=by
 unfold sK at h;exact b9 (fun x y z=>by
  simp only [Prod.mk.injEq,Sum.inr.injEq] at z;exact Prod.ext z.1 z.2) |>.mp h
theorem Hh {nv DC:List (Str × V)} {y:Str} {v:V} (e:Bj (sK nv) (Sum.inr y:A6) v=sK DC):∀ z x,(z,x) ∈ DC ↔ (z=y/\x=v)\/(z ≠ y/\(z,x) ∈ nv):=by
 intro z x;by_cases h:y ∈ nv.map (·.1)
 ·have e2:Bj (sK nv) (Sum.inr y:A6) v=sK (nv.map fun q=>if q.1=y then (q.1,v) else q):=by
   unfold Bj;have:((sK nv).any fun kv=>decide (kv.1=(Sum.inr y:A6)))=true:=by rw [CA,G0,decide_eq_true h]
   rw [if_pos this];unfold sK;rw [Y2,Y2];refine Z8 fun q _=>?_
   by_cases e:q.1=y
   ·simp [e]
   ·have e':¬ (Sum.inr q.1:A6)=Sum.inr y:=fun z=>e (Sum.inr.inj z)
    simp [e,e']
  rw [e2] at e;rw [<-Kf e,Yc];constructor
  ·rintro ⟨q,hq,e⟩;by_cases eq:q.1=y
   ·rw [if_pos eq] at e;have e1:q.1=z:=congrArg Prod.fst e;have e3:v=x:=congrArg Prod.snd e;exact .inl ⟨by rw [<-e1,eq],e3.symm⟩
   ·rw [if_neg eq] at e;refine .inr ⟨?_,by rw [<-e]; exact hq⟩;rw [show z=q.1 from (congrArg Prod.fst e).symm]; exact eq
  ·rintro (⟨rfl,rfl⟩ | ⟨h1,h2⟩)
   ·obtain ⟨q,hq,e1⟩:=Yc.mp h;have W6:q.1=z:=e1;exact ⟨q,hq,by rw [if_pos W6,W6]⟩
   ·exact ⟨(z,x),h2,by rw [if_neg h1]⟩
 ·rw [Dy h] at e;rw [<-Kf e,Yt];constructor
  ·rintro (h1 | h1)
   ·refine .inr ⟨?_,h1⟩;rintro rfl;exact h (Yc.mpr ⟨_,h1,rfl⟩)
   ·simp only [Yn,Prod.mk.injEq] at h1;exact .inl h1
  ·rintro (⟨rfl,rfl⟩ | ⟨_,h2⟩)
   ·exact .inr (by simp)
   ·exact .inl h2
theorem RY (nv:List (Str × V)) (y:Str):Iv (sK nv) (Sum.inr y:A6)=sK (nv.filter fun q=>decide (q.1 ≠ y)):=by
 unfold Iv sK;rw [List.filter_map];congr 1;refine List.filter_congr fun q _=>?_
 by_cases e:q.1=y
 ·simp [e]
 ·have e':¬ (Sum.inr q.1:A6)=Sum.inr y:=fun z=>e (Sum.inr.inj z)
  simp [e,e']
def RF (H:Hp) (ps:List Str) (ds:List Addr) (Ed:Str->Str->Int->Prop):Prop:=∀ (i:Nat) (p:Str) (d:Addr) (nv:List (Str × V)),ps[i]? = some p->ds[i]? = some d->Rd H d (.dK (sK nv))->∀ y v,(y,v) ∈ nv->∃ l,v=.int l/\Ed p y l
theorem Rd.inj {H:Hp} {d:Addr} {a b:List (Str × V)} (h:Rd H d (.dK (sK a))) (g:Rd H d (.dK (sK b))):a=b:=by
 rcases h with h | ⟨o,h⟩ <;> rcases g with g | ⟨o',g⟩ <;> have e:=Yo.inj (h.symm.trans g)
 ·injection e with e; exact Kf e
 ·exact nomatch e
 ·exact nomatch e
 ·injection e with _ e;injection e with e; exact Kf e
theorem RF.put {H:Hp} {ps:List Str} {ds:List Addr} {Ed Ed':Str->Str->Int->Prop} (h:RF H ps ds Ed) (hn:ps.Nodup) (dn:ds.Nodup) {i:Nat} {p y:Str} {d:Addr} {l:Int} (e1:ps[i]? = some p) (e2:ds[i]? = some d) {nv DC:List (Str × V)} (hd:H d=some (.dK (sK nv)))
  (ep:Bj (sK nv) (Sum.inr y:A6) (.int l)=sK DC) (mono:∀ a b m,Ed a b m->Ed' a b m) (new:Ed' p y l):RF (upd H d (.dK (sK DC))) ps ds Ed':=by
 intro j q c nw f1 f2 hr z v hz;by_cases hc:c=d
 ·subst hc;have ij:i=j:=FG dn e2 f2;subst ij;rw [e1] at f1; cases f1;have:nw=DC:=Rd.inj hr (.inl Ab);subst this;rcases (Hh ep z v).mp hz with ⟨rfl,rfl⟩ | ⟨_,Tx⟩
  ·exact ⟨l,rfl,new⟩
  ·obtain ⟨l',e,ed⟩:=h i _ c nv e1 e2 (.inl hd) z v Tx;exact ⟨l',e,mono _ _ _ ed⟩
 ·have N2:Rd H c (.dK (sK nw)):=by
   rcases hr with g | ⟨o,g⟩
   ·exact .inl (by rw [Af hc] at g; exact g)
   ·exact .inr ⟨o,by rw [Af hc] at g; exact g⟩
  obtain ⟨l',e,ed⟩:=h j q c nw f1 f2 N2 z v hz;exact ⟨l',e,mono _ _ _ ed⟩
def Qc (K:XU):Sp:=fun vs H Q _=>∃ (q:Addr) (ps:List Str) (ws:List AF) (r:Str),vs=[.ref q]/\IG H q ps ws r /\
 ∀ (H':Hp) (B:Addr) (ds:List Addr),Au H H'->NB H' B ps ds (K9 ws) 128->RF H' ps ds (Ct ws)->H B=none->(∀ d ∈ ds,H d=none)->Q (.ref B) H'
theorem PI.or {X:Cx} {tg l:Expr} {w1 w2:TI} (h1:PI X tg l w1) (h2:PI X tg l w2):PI X tg l (fun σ H R=>w1 σ H R\/w2 σ H R):=by
 intro pins s σ H R I h;rcases h with h | h
 ·exact h1 (pins:=pins) s σ H R I h
 ·exact h2 (pins:=pins) s σ H R I h
def MF (H:Hp) (nv:List (Str × V)) (S:Str->Int × Str->Prop):Prop:=(nv.map (·.1)).Nodup/\(∀ y v,(y,v) ∈ nv->∃ p,JR H v p/\S y p)/\∀ y p,S y p->∃ v,(y,v) ∈ nv/\JR H v p
def Mb (K:XU):Sp:=fun vs H Q _=>∃ (q st:Addr) (ps ss:List Str) (ws:List AF) (r:Str),vs=[.ref q,.ref st]/\IG H q ps ws r/\(∀ u ∈ ws,1<=u.2.2)/\(∀ x y l l',Ct ws x y l->Ct ws x y l'->l=l')/\(H st=some (.lst (ss.map V.str))\/H st=some (.tup (ss.map V.str)))/\ss ≠ []/\ss.Nodup/\(∀ s ∈ ss,s ∈ ps) /\
 ∀ (H':Hp) (B:Addr) (nv:List (Str × V)),Au H H'->H B=none->H' B=some (.dK (sK nv))->(nv.map (·.1)).Nodup->(∀ x,x ∈ nv.map (·.1) ↔ x ∈ ps)->(∀ y v,(y,v) ∈ nv->∃ p,JR H' v p/\IH ws ss y p)->Q (.ref B) H'
theorem Jy {nv:List (Str × V)} {y:Str} {v:V} (h:Bq (sK nv) (Sum.inr y:A6)=some v):(y,v) ∈ nv:=by
 unfold Bq at h;cases e:(sK nv).find? (fun kv=>decide (kv.1=(Sum.inr y:A6))) with
 | none=>rw [e] at h; cases h
 | some kv=>
  rw [e] at h;have h1:=List.find?_some e;have h2:=List.mem_of_find?_eq_some e;obtain ⟨q,hq,rfl⟩:=Yc.mp h2;have e1:q.1=y:=by
   have:(Sum.inr q.1:A6)=Sum.inr y:=by simpa using h1
   exact Sum.inr.inj this
  have e2:q.2=v:=Yo.inj h;rw [<-e1,<-e2];exact hq
theorem Pf {ws:List AF} {i:Nat} {a b:Str} {m:Int} (h:Ct (ws.take i) a b m):Ct (ws.take (i + 1)) a b m:=by
 obtain ⟨u,hu,e⟩:=h;rw [Yx];exact ⟨u,YS _ hu,e⟩
theorem LC {ws:List AF} {i:Nat} {u:AF} (h:ws[i]? = some u):Ct (ws.take (i + 1)) u.1 u.2.1 u.2.2:=by
 rw [Yx,h];exact ⟨u,Yk _ (by simp),.inl ⟨rfl,rfl⟩,rfl⟩
theorem JR.fn {H:Hp} {v:V} {p q:Int × Str} (h:JR H v p) (g:JR H v q):p=q:=by
 obtain ⟨t,rfl,e⟩:=h;obtain ⟨t',e',g⟩:=g;have:t=t':=by injection e'
 subst this;have z:=Yo.inj (e.symm.trans g);injection z with z;simp only [ZD.injEq,V.int.injEq,V.str.injEq] at z;exact Prod.ext z.1 z.2.1
theorem NR.same {H H':Hp} {B:Addr} {ps:List Str} {ds:List Addr} {P:Str->Str->Prop} (h:NR H B ps ds P) (s:Au H H'):NR H' B ps ds P:=
 ⟨s _ _ h.top,h.len,h.nd,h.nB,fun i p d e1 e2=>let ⟨nv,a1,a3⟩:=h.inner i p d e1 e2
  ⟨nv,(by rcases a1 with a | ⟨o,a⟩; exact .inl (s _ _ a); exact .inr ⟨o,s _ _ a⟩),a3⟩⟩
theorem RF.of {H H':Hp} {B:Addr} {ps:List Str} {ds:List Addr} {P:Str->Str->Prop} {Ed:Str->Str->Int->Prop} (h:RF H ps ds Ed) (nr:NR H B ps ds P) (k:∀ d ∈ ds,∀ nv:List (Str × V),Rd H d (.dK (sK nv))->Rd H' d (.dK (sK nv))):RF H' ps ds Ed:=by
 intro i p d nv e1 e2 hr y v hy;obtain ⟨nw,a1,_⟩:=nr.inner i p d e1 e2;have:=Rd.inj hr (k d (XY e2) nw a1);subst this;exact h i p d nv e1 e2 a1 y v hy
theorem MF.same {H H':Hp} {nv:List (Str × V)} {S:Str->Int × Str->Prop} (h:MF H nv S) (s:∀ b xs,H b=some (.tup xs)->H' b=some (.tup xs)):MF H' nv S:=
 ⟨h.1,fun y v hv=>let ⟨p,a,b⟩:=h.2.1 y v hv; ⟨p,a.same s,b⟩,fun y p hp=>let ⟨v,a,b⟩:=h.2.2 y p hp; ⟨v,a,b.same s⟩⟩
theorem MF.fn {H:Hp} {nv:List (Str × V)} {S:Str->Int × Str->Prop} (h:MF H nv S) {y:Str} {p q:Int × Str} (hp:S y p) (hq:S y q):p=q:=by
 obtain ⟨v,a,b⟩:=h.2.2 y p hp;obtain ⟨w,c,d⟩:=h.2.2 y q hq;have:=PJ h.1 a c;subst this;exact b.fn d
theorem MF.put {H:Hp} {nv DC:List (Str × V)} {S:Str->Int × Str->Prop} {y:Str} {v:V} {p:Int × Str} (h:MF H nv S) (e:Bj (sK nv) (Sum.inr y:A6) v=sK DC) (hv:JR H v p):MF H DC (fun z q=>(z=y/\q=p)\/(z ≠ y/\S z q)):=by
 refine ⟨RX e h.1,fun z x hz=>?_,fun z q hq=>?_⟩
 ·rcases (Hh e z x).mp hz with ⟨rfl,rfl⟩ | ⟨n,Tx⟩
  ·exact ⟨p,hv,.inl ⟨rfl,rfl⟩⟩
  ·obtain ⟨q,a,b⟩:=h.2.1 z x Tx;exact ⟨q,a,.inr ⟨n,b⟩⟩
 ·rcases hq with ⟨rfl,rfl⟩ | ⟨n,hq⟩
  ·exact ⟨v,(Hh e _ _).mpr (.inl ⟨rfl,rfl⟩),hv⟩
  ·obtain ⟨x,a,b⟩:=h.2.2 z q hq;exact ⟨x,(Hh e _ _).mpr (.inr ⟨n,a⟩),b⟩
theorem MF.drop {H:Hp} {nv:List (Str × V)} {S:Str->Int × Str->Prop} (h:MF H nv S) (y:Str):MF H (nv.filter fun q=>decide (q.1 ≠ y)) (fun z q=>z ≠ y/\S z q):=by
 refine ⟨Gh h.1 _,fun z x hz=>?_,fun z q hq=>?_⟩
 ·obtain ⟨a,b⟩:=Y3.mp hz;obtain ⟨q,c,d⟩:=h.2.1 z x a;exact ⟨q,c,by simpa using b,d⟩
 ·obtain ⟨n,hq⟩:=hq;obtain ⟨x,a,b⟩:=h.2.2 z q hq;exact ⟨x,Y3.mpr ⟨a,by simpa using n⟩,b⟩
structure NI (H H2:Hp) (ps:List Str) (ws:List AF) (B RA SA:Addr) (ds:List Addr) (nvR nvS:List (Str × V)) (S R:Str->Int × Str->Prop):Prop where
 same:Au H H2
 nr:NR H2 B ps ds (K9 ws)
 nbv:RF H2 ps ds (Ct ws)
 dR:H2 RA=some (.dK (sK nvR))
 dS:H2 SA=some (.dK (sK nvS))
 pR:MF H2 nvR R
 pS:MF H2 nvS S
 subR:∀ y ∈ nvR.map (·.1),y ∈ ps
 subS:∀ y ∈ nvS.map (·.1),y ∈ ps
section
variable {H H2 H3:Hp} {ps:List Str} {ws:List AF} {B RA SA:Addr} {ds:List Addr} {nvR nvS:List (Str × V)} {S R:Str->Int × Str->Prop}
theorem NI.grow (h:NI H H2 ps ws B RA SA ds nvR nvS S R) (s:Au H2 H3):NI H H3 ps ws B RA SA ds nvR nvS S R:=
 ⟨h.same.trans s,h.nr.same s,h.nbv.of h.nr fun d _ nv z=>by rcases z with a | ⟨o,a⟩; exact .inl (s _ _ a); exact .inr ⟨o,s _ _ a⟩,s _ _ h.dR,s _ _ h.dS,h.pR.same fun b xs z=>s _ _ z,h.pS.same fun b xs z=>s _ _ z,h.subR,h.subS⟩
theorem NI.lenS (h:NI H H2 ps ws B RA SA ds nvR nvS S R):nvS.length<=ps.length:=by
 have:=BX h.pS.1 h.subS;rwa [XJ] at this
theorem NI.lenR (h:NI H H2 ps ws B RA SA ds nvR nvS S R):nvR.length<=ps.length:=by
 have:=BX h.pR.1 h.subR;rwa [XJ] at this
theorem NI.inS (h:NI H H2 ps ws B RA SA ds nvR nvS S R) {y:Str}:y ∈ nvS.map (·.1) ↔ ∃ q,S y q:=by
 constructor
 ·intro hy;obtain ⟨⟨z,v⟩,a,b⟩:=Yc.mp hy;have b':z=y:=b;subst b';obtain ⟨p,_,c⟩:=h.pS.2.1 z v a;exact ⟨p,c⟩
 ·rintro ⟨q,hq⟩;obtain ⟨v,a,_⟩:=h.pS.2.2 y q hq;exact Yc.mpr ⟨_,a,rfl⟩
theorem NI.inR (h:NI H H2 ps ws B RA SA ds nvR nvS S R) {y:Str}:y ∈ nvR.map (·.1) ↔ ∃ q,R y q:=by
 constructor
 ·intro hy;obtain ⟨⟨z,v⟩,a,b⟩:=Yc.mp hy;have b':z=y:=b;subst b';obtain ⟨p,_,c⟩:=h.pR.2.1 z v a;exact ⟨p,c⟩
 ·rintro ⟨q,hq⟩;obtain ⟨v,a,_⟩:=h.pR.2.2 y q hq;exact Yc.mpr ⟨_,a,rfl⟩
theorem NI.setR (h:NI H H2 ps ws B RA SA ds nvR nvS S R) (aR:RA ∉ ds/\RA ≠ B/\RA ≠ SA/\H RA=none) {DC:List (Str × V)} {R':Str->Int × Str->Prop} (p':MF H2 DC R') (sub:∀ y ∈ DC.map (·.1),y ∈ ps):NI H (upd H2 RA (.dK (sK DC))) ps ws B RA SA ds DC nvS S R':=by
 have tu:∀ b xs,H2 b=some (.tup xs)->(upd H2 RA (.dK (sK DC))) b=some (.tup xs):=fun b xs z=>by
  rw [Af (BI z h.dR (by intro z; cases z))]; exact z
 exact ⟨fun b o z=>by rw [Af (Ah z aR.2.2.2)]; exact h.same _ _ z,h.nr.other aR.1 aR.2.1,h.nbv.of h.nr fun d hd nv z=>z.ne (fun e=>aR.1 (by rw [<-e]; exact hd)),Ab,by rw [Af (Ne.symm aR.2.2.1)]; exact h.dS,p'.same tu,h.pS.same tu,sub,h.subS⟩
theorem NI.setS (h:NI H H2 ps ws B RA SA ds nvR nvS S R) (aS:SA ∉ ds/\SA ≠ B/\SA ≠ RA/\H SA=none) {DC:List (Str × V)} {S':Str->Int × Str->Prop} (p':MF H2 DC S') (sub:∀ y ∈ DC.map (·.1),y ∈ ps):NI H (upd H2 SA (.dK (sK DC))) ps ws B RA SA ds nvR DC S' R:=by
 have tu:∀ b xs,H2 b=some (.tup xs)->(upd H2 SA (.dK (sK DC))) b=some (.tup xs):=fun b xs z=>by
  rw [Af (BI z h.dS (by intro z; cases z))]; exact z
 exact ⟨fun b o z=>by rw [Af (Ah z aS.2.2.2)]; exact h.same _ _ z,h.nr.other aS.1 aS.2.1,h.nbv.of h.nr fun d hd nv z=>z.ne (fun e=>aS.1 (by rw [<-e]; exact hd)),by rw [Af (Ne.symm aS.2.2.1)]; exact h.dR,Ab,h.pR.same tu,p'.same tu,h.subR,sub⟩
theorem NI.frz (h:NI H H2 ps ws B RA SA ds nvR nvS S R) (aR:RA ∉ ds) (aS:SA ∉ ds) (fr:∀ d ∈ ds,H d=none) {i:Nat} {p:Str} {d:Addr} (e1:ps[i]? = some p) (e2:ds[i]? = some d) {nv:List (Str × V)} {o:Obj} (f:Ee H2 d (sK nv) o H3) (hP:∀ y,y ∈ nv.map (·.1) ↔ K9 ws p y):NI H H3 ps ws B RA SA ds nvR nvS S R:=by
 have dm:d ∈ ds:=XY e2;have tu:∀ b xs,H2 b=some (.tup xs)->H3 b=some (.tup xs):=fun b xs z=>by
  rw [f.ne (by
   rintro rfl;rcases f with ⟨g,_⟩ | ⟨g,_⟩ <;> (rw [z] at g; cases g))]
  exact z
 refine ⟨fun b u z=>by rw [f.ne (Ah z (fr d dm))]; exact h.same _ _ z,h.nr.freeze e1 e2 f hP,h.nbv.of h.nr fun c hc nw z=>?_,by rw [f.ne (fun z=>aR (by rw [z]; exact dm))]; exact h.dR,by rw [f.ne (fun z=>aS (by rw [z]; exact dm))]; exact h.dS,h.pR.same tu,h.pS.same tu,h.subR,h.subS⟩;by_cases hcd:c=d
 ·subst hcd;rcases f with ⟨g,e⟩ | ⟨g,e⟩
  ·have:=Rd.inj z (.inl g);subst this;exact .inr ⟨o,by rw [e]; exact Ab⟩
  ·rw [e]; exact z
 ·exact z.fz f hcd
end
theorem E5:entryFor table "dict.update.loop"=some Builtin.«dict.update.loop»:=entryFor_of_tree (by kernel_rfl)
theorem Co:plainId "dict.update.loop"=true:=by decide +kernel
def TB (g0:Heap) (v:Value) (p:Str × V):Prop:=∃ a t u,v=.ref a/\IsTup g0 a #[.str p.1 t,u]/\A1 p.2 u
section
variable {prog:Program} {w:World} {A:Around} {R:Result->Shared->Prop} {g0:Heap} {D it l:Addr} {vs:List Value} {ps:List (Str × V)}
end
section
variable {prog:Program} {w:World} {A:Around} {E:Value->Shared->Prop} {s:Shared}
end
theorem Lv:∀ (b a:List (Str × V)),((a ++ b).map (·.1)).Nodup->HZ (sK a) (sK b)=sK (a ++ b)
 | [],a,_=>by rw [YN]; rfl
 | q :: b,a,hn=>by
  have nq:q.1 ∉ a.map (·.1):=by
   rw [Yi,Ym] at hn;intro hm;exact (YJ.mp hn).2.2 q.1 hm q.1 Ys rfl
  show HZ (Bj (sK a) (Sum.inr q.1) q.2) (sK b)=_
  rw [Dy nq];have:=Lv b (a ++ [(q.1,q.2)]) (by rw [YR]; exact hn);rw [this,YR];rfl
theorem Qt:∀ {ws:List AF},(ws.Pairwise fun u v=>¬ DL u v)->∀ {u v:AF},u ∈ ws->v ∈ ws->DL u v->u=v
 | [],_,u,v,hu,_,_=>nomatch hu
 | a :: ws,h,u,v,hu,hv,al=>by
  obtain ⟨h1,h2⟩:=YY.mp h;rcases XX.mp hu with e1 | Ws
  ·rcases XX.mp hv with e2 | Xg
   ·rw [e1,e2]
   ·exact absurd (by rw [<-e1]; exact al) (h1 v Xg)
  ·rcases XX.mp hv with e2 | Xg
   ·refine absurd ?_ (h1 u Ws);rw [<-e2];rcases al with ⟨a1,a2⟩ | ⟨a1,a2⟩
    ·exact .inl ⟨a1.symm,a2.symm⟩
    ·exact .inr ⟨a2.symm,a1.symm⟩
   ·exact Qt h2 Ws Xg al
theorem Pd {ws:List AF} (h:ws.Pairwise fun u v=>¬ DL u v) {x y:Str} {l l':Int} (e:Ct ws x y l) (e':Ct ws x y l'):l=l':=by
 obtain ⟨u,hu,a,rfl⟩:=e;obtain ⟨v,hv,b,rfl⟩:=e';have:u=v:=Qt h hu hv (by
  rcases a with ⟨a1,a2⟩ | ⟨a1,a2⟩ <;> rcases b with ⟨b1,b2⟩ | ⟨b1,b2⟩
  ·exact .inl ⟨a1.trans b1.symm,a2.trans b2.symm⟩
  ·exact .inr ⟨a1.trans b2.symm,a2.trans b1.symm⟩
  ·exact .inr ⟨a1.trans b2.symm,a2.trans b1.symm⟩
  ·exact .inl ⟨a1.trans b1.symm,a2.trans b2.symm⟩)
 rw [this]
theorem JI {ws PH:List AF} (p:PH.Perm (ws.map Ex)) (x y:Str) (l:Int):Ct PH x y l ↔ Ct ws x y l:=by
 constructor
 ·rintro ⟨u,hu,h,e⟩;obtain ⟨v,hv,rfl⟩:=Yc.mp (p.mem_iff.mp hu);refine ⟨v,hv,?_,e⟩;rcases DE v with ⟨e1,e2⟩ | ⟨e1,e2⟩
  ·rw [e1,e2] at h; exact h
  ·rw [e1,e2] at h;rcases h with ⟨a,b⟩ | ⟨a,b⟩
   ·exact .inr ⟨b,a⟩
   ·exact .inl ⟨b,a⟩
 ·rintro ⟨v,hv,h,e⟩;refine ⟨Ex v,p.mem_iff.mpr (Yc.mpr ⟨v,hv,rfl⟩),?_,e⟩;rcases DE v with ⟨e1,e2⟩ | ⟨e1,e2⟩
  ·rw [e1,e2]; exact h
  ·rw [e1,e2];rcases h with ⟨a,b⟩ | ⟨a,b⟩
   ·exact .inr ⟨b,a⟩
   ·exact .inl ⟨b,a⟩
theorem PF {ws PH:List AF} (h:∀ x y l,Ct PH x y l ↔ Ct ws x y l) {x y:Str} {m:Int}:B4 PH x y m ↔ B4 ws x y m:=by
 constructor
 ·intro g;induction g with
  | nil x=>exact .nil x
  | cons e _ ih=>exact .cons ((h _ _ _).mp e) ih
 ·intro g;induction g with
  | nil x=>exact .nil x
  | cons e _ ih=>exact .cons ((h _ _ _).mpr e) ih
def Vg (ws:List AF) (x y:Str) (n:Int):Prop:=B4 ws x y n/\∀ m,B4 ws x y m->n<=m
theorem IH.dst {ws:List AF} {x y:Str} {p:Int × Str} (h:IH ws [x] y p):p.2=x/\Vg ws x y p.1:=by
 have e:p.2=x:=by simpa using h.1.1
 refine ⟨e,by rw [<-e]; exact h.1.2,fun m g=>(h.2 x (by simp) m g).fst⟩
def Qi (K:XU):Sp:=fun vs H Q _=>∃ (q:Addr) (ps:List Str) (ws:List AF) (r x:Str),vs=[.ref q,.str x]/\IG H q ps ws r/\(∀ u ∈ ws,1<=u.2.2)/\(∀ x y l l',Ct ws x y l->Ct ws x y l'->l=l')/\x ∈ ps /\
 ∀ (H':Hp) (B:Addr) (nv:List (Str × V)),Au H H'->H B=none->H' B=some (.dK (sK nv))->nv.map (·.1)=ps->(∀ y v,(y,v) ∈ nv->∃ n,v=.int n/\Vg ws x y n)->Q (.ref B) H'
end L2
namespace L2
open PySem PySem.Spec PySem.W PyProof.Rows
theorem Hn:∀ {ns:List Int} {us:List Value},Az (ns.map V.int) us->∀ (i:Nat) (v:Value),us[i]? = some v->∃ n t,ns[i]? = some n/\v=Value.int n t
 | [],_,.nil,i,v,e=>by simp at e
 | n :: ns,_,.cons r1 r2,0,v,e=>by
  obtain ⟨t,rfl⟩:=r1;simp only [YO,Yo.injEq] at e;exact ⟨n,t,rfl,e.symm⟩
 | n :: ns,_,.cons r1 r2,i + 1,v,e=>by simpa using Hn r2 i v (by simpa using e)
end L2
namespace L2
open PySem PySem.Spec PyProof.Rows
theorem Ej {α:Type}:∀ {ys:List α} {k:Nat} {y:α},ys[k]? = some y->(y :: ys.eraseIdx k).Perm ys
 | [],k,y,e=>by simp at e
 | x :: ys,0,y,e=>by
  simp at e;subst e;exact List.Perm.refl _
 | x :: ys,k + 1,y,e=>by
  simp at e;exact (List.Perm.swap x y _).trans ((Ej e).cons x)
theorem J9 {α β:Type} (f:α->β):∀ (ys:List α) (k:Nat),(ys.map f).eraseIdx k=(ys.eraseIdx k).map f
 | [],k=>by simp
 | x :: ys,0=>rfl
 | x :: ys,k + 1=>by
  show f x :: (ys.map f).eraseIdx k=f x :: (ys.eraseIdx k).map f
  rw [J9 f ys k]
theorem KL:∀ {ss:List Str} {us:List Value},Az (ss.map V.str) us->StrsAre us ss
 | [],_,.nil=>.nil
 | _ :: _,_,.cons r q=>by
  obtain ⟨t,rfl⟩:=r;exact .cons _ t (KL q)
theorem Sr {X:Cx}:MtM X "str.join" (fun x vs H Q=>∃ (z:Str) (a:Addr) (ss:List Str),x=.str z/\vs=[.ref a]/\H a=some (.lst (ss.map V.str))/\z.length<=16/\(ss.map (·.length)).sum + ss.length<=1048576/\Q (.str (Txt.join z ss)) H):=by
 intro pins s σ H x vs v us Q I rx rv h;obtain ⟨z,a,ss,rfl,rfl,hH,hz,hw,q⟩:=h;obtain ⟨t,rfl⟩:=rx;obtain ⟨u,rfl,ru⟩:=rv.one;cases ru
 obtain ⟨_,Aq,n,r,_,e⟩:=I.lstM hH;refine join_listW (ys:=ss) ⟨_,e,rfl,n,rfl⟩ (by rw [List.toList_toArray]; exact KL r) hz hw fun t' k=>?_
 exact ⟨.str (Txt.join z ss),H,I.tok k,⟨t',rfl⟩,q⟩
theorem Lz (ss:List Str):(Txt.join (Str.ofString "") ss).cps.toList=(ss.map fun s=>s.cps.toList).flatten:=by
 unfold Txt.join;rw [PySem.StrLaws.glued_eq_join];induction ss with
 | nil=>rfl
 | cons x r ih=>
  cases r with
  | nil=>
   show x.cps.toList=_
   simp
  | cons y r=>
   have e:Str.join (Str.ofString "") (x :: y :: r)=x ++ Str.ofString "" ++ Str.join (Str.ofString "") (y :: r):=rfl;rw [e,Ym,bG,<-ih];show ((x.cps ++ #[]) ++ (Str.join (Str.ofString "") (y :: r)).cps).toList=_
   simp
theorem QW {ss:List Str} (h:∀ s ∈ ss,s.length=1/\SX s):SX (Txt.join (Str.ofString "") ss)/\(Txt.join (Str.ofString "") ss).length=ss.length/\(ss.map (·.length)).sum=ss.length:=by
 have e:∀ l:List Str,(∀ s ∈ l,s.length=1/\SX s)->((l.map fun s=>s.cps.toList).flatten).length=l.length/\(l.map (·.length)).sum=l.length:=by
  intro l;induction l with
  | nil=>intro _; exact ⟨rfl,rfl⟩
  | cons x r ih=>
   intro h;obtain ⟨i1,i2⟩:=ih fun s hs=>h s (Yr _ hs)
   have hx:x.cps.size=1:=(h x (Ys ..)).1;constructor
   ·rw [Ym,bG,XZ,i1,Y0,hx,Yz];lia
   ·rw [Ym,cn,i2,Yz];show x.cps.size + r.length=r.length + 1
    lia
 refine ⟨fun c hc=>?_,?_,(e ss h).2⟩
 ·rw [Lz] at hc;obtain ⟨l,hl,hcl⟩:=List.mem_flatten.mp hc;obtain ⟨s,hs,rfl⟩:=Yc.mp hl;exact (h s hs).2 c hcl
 ·show (Txt.join (Str.ofString "") ss).cps.size=_
  rw [<-Y0,Lz];exact (e ss h).1
theorem Lr {xs:List Str} {hd:List Nat} {f:Nat->List Nat} (h:∀ i x,xs[i]? = some x->∃ tl,x.cps.toList=hd ++ (f i ++ tl)) (hf:∀ i j,i < j->j < xs.length->∀ tl TQ,f i ++ tl ≠ f j ++ TQ):xs.Nodup:=by
 refine YQ.mpr fun i j hi hj hij e=>?_
 obtain ⟨tl,h1⟩:=h i _ (XO hi);obtain ⟨TQ,h2⟩:=h j _ (XO hj);rw [e,h2] at h1;exact hf i j hij hj tl TQ (List.append_cancel_left h1).symm
def O6 (n:Nat) (st sp:Int) (k:Nat):List Nat:=if 26 < n then [97 + ((st + sp * k) % 26).toNat,97 + k / 26] else [97 + ((st + sp * k) % 26).toNat]
theorem Us {n:Nat} {st sp:Int} (hn:n<=52) (hs:sp ∈ ([1,3,5,7,9,11,15,17]:List Int)) {i j:Nat} (hij:i < j) (hj:j < n) (tl TQ:List Nat):O6 n st sp i ++ tl ≠ O6 n st sp j ++ TQ:=by
 have key:((st + sp * i) % 26).toNat=((st + sp * j) % 26).toNat->(j - i) % 26=0:=by
  intro e;have e2:(st + sp * i) % 26=(st + sp * j) % 26:=by
   have a1:=Zb (st + sp * i) (show (26:Int) ≠ 0 by decide);have a2:=Zb (st + sp * j) (show (26:Int) ≠ 0 by decide);lia
  have g:Int.gcd 26 sp=1:=by
   simp only [XX,Yg,or_false] at hs;rcases hs with rfl | rfl | rfl | rfl | rfl | rfl | rfl | rfl <;> rfl
  have d:(26:Int) ∣ sp * ((j:Int) - i):=by
   refine Int.dvd_of_emod_eq_zero ?_;have e3:sp * ((j:Int) - i)=(st + sp * j) - (st + sp * i):=by rw [Int.mul_sub]; lia
   rw [e3,Int.sub_emod,e2,Int.sub_self];rfl
  have d2:(26:Int) ∣ (j:Int) - i:=by
   rw [Int.mul_comm] at d;have e4:Nat.gcd 26 sp.natAbs=1:=g;have e5:(26:Nat) ∣ ((j:Int) - i).natAbs * sp.natAbs:=by rw [<-Int.natAbs_mul]; exact bz.mpr d
   exact bz.mp (Nat.Coprime.dvd_of_dvd_mul_right e4 e5)
  lia
 intro e;unfold O6 at e;by_cases h:26 < n
 ·rw [if_pos h,if_pos h] at e;simp only [Zq,bQ,ZD.injEq] at e;have:=key (by lia);lia
 ·rw [if_neg h,if_neg h] at e;simp only [Zq,bQ,ZD.injEq] at e;have:=key (by lia);lia
theorem DW {i:Int} (h0:0<=i) (h1:i < 26):K8 FK.cps.toList i=some (97 + i.toNat):=by
 obtain ⟨n,rfl⟩:∃ n:Nat,i=(n:Int):=⟨i.toNat,by lia⟩
 have:∀ m:Fin 26,K8 FK.cps.toList (m.val:Int)=some (97 + ((m.val:Int)).toNat):=by decide +kernel
 exact this ⟨n,by lia⟩
theorem len1 {α:Type} {l:List α} (h:l.length=1):∃ a,l=[a]:=List.length_eq_one_iff.mp h
theorem lenS {α:Type} {n:Nat} {l:List α} (h:l.length=n + 1):∃ a r,l=a :: r/\r.length=n:=by
 cases l with
 | nil=>cases h
 | cons a r=>exact ⟨a,r,rfl,Nat.succ.inj h⟩
theorem Sy {α:Type} {l:List α} (h:l.length=2):∃ a b,l=[a,b]:=by
 obtain ⟨a,r,rfl,hr⟩:=lenS h;obtain ⟨b,rfl⟩:=len1 hr;exact ⟨a,b,rfl⟩
theorem len3 {α:Type} {l:List α} (h:l.length=3):∃ a b c,l=[a,b,c]:=by
 obtain ⟨a,r,rfl,hr⟩:=lenS h;obtain ⟨b,c,rfl⟩:=Sy hr;exact ⟨a,b,c,rfl⟩
section
variable {K:Type} [DecidableEq K] [BEq K] [LawfulBEq K]
def met (val:Nat->K) (i:Nat):List K:=((Zi i).map val).foldl step_dedup []
theorem HY (val:Nat->K) (i:Nat):met val (i + 1)=step_dedup (met val i) (val i):=by
 unfold met; rw [List.range_succ,Yi,List.foldl_append]; rfl
theorem Oh (σ:List K) (v k:K):(step_dedup σ v).any (· == k)=(σ.any (· == k) || decide (k=v)):=by
 unfold step_dedup;by_cases h:σ.any (· == v)=true
 ·rw [if_pos h];by_cases e:k=v
  ·subst e; rw [h]; simp
  ·simp [e]
 ·rw [if_neg h,List.any_append];by_cases e:k=v
  ·subst e; simp
  ·have hb:(v == k)=false:=by simpa [beq_iff_eq] using (fun h':v=k=>e h'.symm)
   simp [hb,e]
theorem F1 (σ:List K) (v:K):(step_dedup σ v).length=if σ.any (· == v) then σ.length else σ.length + 1:=by
 unfold step_dedup; split <;> simp
theorem D4 (val:Nat->K):∀ i,(met val i).length<=i
 | 0=>Ya _
 | i + 1=>by
  rw [HY,F1];have ih:=D4 val i;split <;> lia
end
section
variable {prog:Program} {w:World} {A:Around} {R:Result->Shared->Prop} {I:Addr} {fp wr:List Addr} {G:Array GenState->Array GenState->Prop} {n:Nat} {P:Nat->Value->Prop} {St:Nat->Shared->Prop}
variable {K:Type} [DecidableEq K] [BEq K] [LawfulBEq K] {knd:KeyKind prog w K}
end
section
variable {prog:Program} {w:World} {A:Around} {E:Value->Shared->Prop} {s:Shared}
variable {K:Type} [DecidableEq K] [BEq K] [LawfulBEq K] {knd:KeyKind prog w K}
end
theorem Lu (ss:List Str):met (fun i=>ss.getD i (Str.ofString "")) ss.length=ss.foldl step_dedup []:=by
 unfold met;congr 1;refine Ze (by simp) fun i h1 h2=>?_
 simp [Yw,XO h2]
def D6 (h:Heap) (d:Addr) (es:Array DictEntry) (ep:Nat):Prop:=∃ o,h.get? d=some o/\o.ExactDict/\o.data=.dict es ep
theorem D6.typeIs {s:Shared} {d:Addr} {es:Array DictEntry} {ep:Nat} (x:D6 s.heap d es ep):s.TypeIs (.ref d) "dict":=let ⟨o,h1,h2,_⟩:=x; ⟨o,h1,h2.1⟩
theorem D6.at' {h h':Heap} {d:Addr} {es:Array DictEntry} {ep:Nat} (x:D6 h d es ep) (e:∀ o,h.get? d=some o->h'.get? d=some o):D6 h' d es ep:=let ⟨o,h1,r⟩:=x; ⟨o,e _ h1,r⟩
theorem D6.lt {h:Heap} {d:Addr} {es:Array DictEntry} {ep:Nat} (x:D6 h d es ep):d < h.objs.size:=let ⟨_,h1,_⟩:=x; Ye h1
section
variable {prog:Program} {w:World} {A:Around} {E:Value->Shared->Prop} {s:Shared}
theorem Lc {d:Addr} {es:Array DictEntry} {ep:Nat} {Q:Value->Shared->Prop} (hd:(d == sysModules)=false) (hm:D6 s.heap d es ep)
  (hQ:Q (.ref s.heap.objs.size) { s with heap:=s.heap.push { cls:=.type "dict_keyiterator",data:=.fields #[.ref d,.int 0 0,.int es.size 0,.int ep 0] } }) :
  wpAny (model prog w) A (pyIter (.ref d)) Q E s:=by
 obtain ⟨o,ho,hc,hdat⟩:=id hm;have hT:s.TypeIs (.ref d) "dict":=hm.typeIs;refine wpAny_pyIter_slot hT F.slot_dict_iter (wpAny_call_entry F.slot_dict_iter hT F.entry_dict_iter ?_ (F.args_dict_iter_1 _));unfold Builtin.«dict.__iter__»;refine wpAny_bind ?_;unfold Builtin.Dict.dictSlotNone;refine wpAny_bind (wpAny_notOrdered_dict hT ?_);show wpAny _ _ (pure (Value.ref d)) _ _ s
 refine wpAny_pure ?_;show wpAny _ _ (Builtin.Dict.showsAll d >>= _) _ _ s
 unfold Builtin.Dict.showsAll;rw [if_neg (by rw [hd]; exact Yl)];refine wpAny_bind (wpAny_pure ?_);refine wpAny_bind (wpAny_dictEntries ho hdat ?_);refine wpAny_bind (wpAny_dictEpoch ho hdat ?_);have hsz:es.size=es.size:=rfl;refine wpAny_bind (wpAny_newObj_type (wpAny_pure ⟨_,rfl,"dict_keyiterator",_,⟨_,Yf _ rfl,rfl⟩,F.slot_dict_keyiterator_next.lookup,?_⟩));simpa [rawInt] using hQ
theorem Ld {it d:Addr} {i ep:Nat} {es:Array DictEntry} {key:Value} {Q:Option Value->Shared->Prop} (hit:s.heap.IsKeyIter it d i es.size ep)
  (hm:D6 s.heap d es ep) (hx:es[i]?.map (·.key)=some key)
  (hQ:∀ h',h'.IsKeyIter it d (i + 1) es.size ep->Heap.SameBut it s.heap h'->Q (some key) { s with heap:=h' }) :
  wpAny (model prog w) A (pyNext (.ref it)) Q E s:=by
 obtain ⟨o,ho,hc,hd⟩:=id hit;obtain ⟨od,hod,hcd,hdd⟩:=id hm;unfold pyNext;refine wpAny_bind (wpAny_attempt (wpAny_callSpecial?_slot (name:=Str.ofString "__next__") hit.typeIs F.slot_dict_keyiterator_next
  (wpAny_call_entry F.slot_dict_keyiterator_next hit.typeIs F.entry_dict_keyiterator_next ?_ (F.args_dict_keyiterator_next_1 _))))
 refine wpAny_bind (wpAny_pure ?_);refine wpAny_bind ?_;refine wpAny_bind ?_;first | refine wpAny_bind (wpAny_typeNameOfWhole_keyiter hit.typeIs (wpAny_pure ?_)) | refine wpAny_bind (wpAny_typeNameOf_keyiter hit.typeIs (wpAny_pure ?_))
 refine wpAny_bind (wpAny_fieldsOf ho hd ?_);have hown:Builtin.Dict_items.ownsTuple "dict_keyiterator"=false:=by decide
 simp only [hown,Y1,if_false];show wpAny _ _ (if (Value.ref d == Value.none)=true then _ else _) _ _ s
 rw [if_neg (show ¬ ((Value.ref d == Value.none)=true) from Yl)];refine wpAny_bind (wpAny_pure ?_);refine wpAny_bind (wpAny_dictEntries hod hdd ?_);have hsz:es.size=es.size:=rfl;rw [if_neg (by rw [hsz]; simp)];refine wpAny_bind (wpAny_pure ?_);refine wpAny_bind (wpAny_dictEpoch hod hdd ?_);rw [if_neg (by simp)];refine wpAny_pure ?_;have Rc:i < es.size:=by
  rcases ZP i es.size with h | h
  ·exact h
  ·rw [Zx h] at hx; cases hx
 have hkey:es[i].key=key:=by rw [YV Rc] at hx; exact Yo.inj hx
 simp only [show ¬ ((i:Int) < 0) from by lia,if_false,ZL,YV Rc];refine wpAny_bind ?_;first | refine wpAny_bind (wpAny_typeNameOfWhole_keyiter hit.typeIs (wpAny_pure ?_)) | refine wpAny_bind (wpAny_typeNameOf_keyiter hit.typeIs (wpAny_pure ?_))
 refine wpAny_bind (wpAny_isOneOf_keyiter hit.typeIs ?_);show wpAny _ _ (setField (.ref it) 1 (rawInt ((i:Int) + 1)) >>= _) _ _ s
 refine wpAny_bind (wpAny_setField ho hd (by simp) ?_);have Ja:(s.heap.update it (Obj.mapFields (·.setIfInBounds 1 (rawInt ((i:Int) + 1))))).IsKeyIter it d (i + 1) es.size ep:=
  ⟨_,YH _ ho (Obj.isFreed_of_fields (Obj.data_mapFields hd _)),(Obj.cls_mapFields ..).trans hc,by rw [Obj.data_mapFields hd]; simp [rawInt]⟩
 refine wpAny_bind (wpAny_holding ?_);refine wpAny_bind (wpAny_isOneOf_keyiter (s:={ s with heap:=s.heap.update it (Obj.mapFields (·.setIfInBounds 1 (rawInt ((i:Int) + 1)))) }) Ja.typeIs ?_);show wpAny _ _ (pure es[i].key) _ _ _
 exact wpAny_pure (wpAny_pure ⟨_,rfl,wpAny_pure (hkey ▸ hQ _ Ja (Heap.SameBut.update ..))⟩)
theorem MZ {it d:Addr} {i ep:Nat} {es:Array DictEntry} {Q:Option Value->Shared->Prop} (hh:A.handled=none) (hit:s.heap.IsKeyIter it d i es.size ep)
  (hm:D6 s.heap d es ep) (hx:es.size<=i)
  (hQ:∀ h',Heap.ExtBut it s.heap h'->Q none { s with heap:=h' }):wpAny (model prog w) A (pyNext (.ref it)) Q E s:=by
 obtain ⟨o,ho,hc,hd⟩:=id hit;obtain ⟨od,hod,hcd,hdd⟩:=id hm;unfold pyNext;refine wpAny_bind (wpAny_attempt (wpAny_callSpecial?_slot (name:=Str.ofString "__next__") hit.typeIs F.slot_dict_keyiterator_next
  (wpAny_call_entry F.slot_dict_keyiterator_next hit.typeIs F.entry_dict_keyiterator_next ?_ (F.args_dict_keyiterator_next_1 _))))
 refine wpAny_bind (wpAny_pure ?_);refine wpAny_bind ?_;refine wpAny_bind ?_;first | refine wpAny_bind (wpAny_typeNameOfWhole_keyiter hit.typeIs (wpAny_pure ?_)) | refine wpAny_bind (wpAny_typeNameOf_keyiter hit.typeIs (wpAny_pure ?_))
 refine wpAny_bind (wpAny_fieldsOf ho hd ?_);have hown:Builtin.Dict_items.ownsTuple "dict_keyiterator"=false:=by decide
 simp only [hown,Y1,if_false];show wpAny _ _ (if (Value.ref d == Value.none)=true then _ else _) _ _ s
 rw [if_neg (show ¬ ((Value.ref d == Value.none)=true) from Yl)];refine wpAny_bind (wpAny_pure ?_);refine wpAny_bind (wpAny_dictEntries hod hdd ?_);have hsz:es.size=es.size:=rfl;rw [if_neg (by rw [hsz]; simp)];refine wpAny_bind (wpAny_pure ?_);refine wpAny_bind (wpAny_dictEpoch hod hdd ?_);rw [if_neg (by simp)];refine wpAny_pure ?_;have hge:es.size<=i:=hx;simp only [show ¬ ((i:Int) < 0) from by lia,if_false,ZL,Zx hge];refine wpAny_bind ?_;first | refine wpAny_bind (wpAny_typeNameOfWhole_keyiter hit.typeIs (wpAny_pure ?_)) | refine wpAny_bind (wpAny_typeNameOf_keyiter hit.typeIs (wpAny_pure ?_))
 show wpAny _ _ (setField (.ref it) 0 .none >>= _) _ _ s
 refine wpAny_bind (wpAny_setField ho hd (by simp) ?_);show wpAny _ _ (newExc (.type "StopIteration") [] >>= _) _ _ _
 refine wpAny_bind ?_;simp only [newExc,newTuple];refine wpAny_bind (wpAny_newObj_type ?_ (by size_fits));refine wpAny_bind (m:=firstArgMember _ _) (wpAny_of_eq (a:=Value.none) (by first | rfl | (simp only [firstArgMember]; rfl)) ?_);refine wpAny_newObj_type ?_ (by size_fits);simp only [raiseNew];refine wpAny_bind (wpAny_handled ?_);rw [show A.in1.handled=none from hh];refine wpAny_bind (wpAny_pure (wpAny_throw ?_));refine wpAny_bind (wpAny_isInstance (T:="StopIteration") (b:=true) ⟨_,Yf _ rfl,rfl⟩ isSubtype_stop ?_);exact wpAny_pure (hQ _ (((Heap.SameBut.update ..).extBut.push _).push _))
theorem Oy (hh:A.handled=none) (I d:Addr) (hne:d ≠ I) (es:Array DictEntry) (ep:Nat) :
  Walks prog w A I [I,d] [I] es.size (fun i v=>es[i]?.map (·.key)=some v) (fun i h=>h.IsKeyIter I d i es.size ep/\D6 h d es ep) where
 sub:=fun b hb=>by simp at hb; simp [hb]
 frame:=fun _ _ _ st hk=>⟨st.1.at fun o e=>hk I (by simp) o e,st.2.at' fun o e=>hk d (by simp) o e⟩
 item:=fun i s Q E hi st hQ=>by
  have hx:es[i]?.map (·.key)=some es[i].key:=by rw [YV hi]; rfl
  refine Ld st.1 st.2 hx fun h' Ja L4=>?_
  exact hQ _ h' s.toks hx ⟨Ja,st.2.at' fun o e=>L4.extBut d o hne e⟩ fun b o hb e=>L4.extBut b o (fun h=>hb (by simp [h])) e
 done:=fun s Q E st hQ=>MZ hh st.1 st.2 (Ya _) fun h' FL=>hQ h' s.toks fun b o hb e=>FL b o (fun h=>hb (by simp [h])) e
 self:=fun _ _ _ _ st hQ=>wpAny_pyIter_keyiter st.1 hQ
theorem RZ {d:Addr} {es:Array DictEntry} {ep:Nat} (lo:(d == sysModules)=false):bH prog w "dict" d d es.size (fun i v=>es[i]?.map (·.key)=some v) (fun h=>D6 h d es ep) where
 type:=fun _ hm=>hm.typeIs
 there:=fun _ hm=>⟨hm.lt,hm.lt⟩
 keep:=fun _ _ hm hk=>hm.at' fun o e=>hk d (.inl rfl) o e
 notList:=by decide
 notTuple:=by decide
 hint:=fun _ _ _ _ hm hq=>PySem.W.kdl_hint_dict hm.typeIs hq
 iter:=fun _ _ hh hm=>⟨_,_,(fun _ _ hq=>Lc lo hm hq),Oy hh _ d (Yh hm.lt) es ep,⟨⟨_,Yf _ rfl,rfl,rfl⟩,hm.at' fun o e=>XQ _ e⟩⟩
end
structure Fn (K:XU) (mg:Str->Option Value) (nm:Str) (st:Stmt) (ps:List Str) (f:Addr) (fd:FuncData):Prop where
 F:Ek K nm nm st f fd
 mg:mg nm=some (.ref f)
 b:GI K fd ps []
theorem KH {κ:Type} [DecidableEq κ] {kvs:List (κ × V)} {k:κ} {v:V} (h:(k,v) ∈ kvs):∃ v',Bq kvs k=some v'/\(k,v') ∈ kvs:=by
 induction kvs with
 | nil=>exact nomatch h
 | cons p r ih=>
  by_cases e:p.1=k
  ·exact ⟨p.2,D8 e,by rw [<-e]; exact Ys⟩
  ·rcases XX.mp h with z | z
   ·exact absurd (by rw [<-z]) e
   ·obtain ⟨v',a,b⟩:=ih z;exact ⟨v',by rw [CZ e]; exact a,Yr _ b⟩
structure NT (H:Hp) (m:Addr) (n:Nat) (xs:List Str) (ws:List AF):Prop where
 ex:∃ t1 t2:Addr,∃ vs:List V,H m=some (.tup [.ref t1,.ref t2])/\H t1=some (.tup (xs.map V.str))/\H t2=some (.tup vs)/\Bd H vs (ws.map JV)
 len:xs.length=n
 nd:xs.Nodup
 nm:∀ x ∈ xs,AV x=true
 wl:ws.length<=100
 wn:∀ u ∈ ws,AV u.1=true/\AV u.2.1=true/\1<=u.2.2/\u.2.2 < 10 ^ 30
def iSeq (K:XU) (tl:TE):TI:=fun σ H R=>tl σ H fun x H1=>∃ a,x=.ref a/\(((∃ xs,AM K H1 a xs)/\R (RI K a) H1)\/((∃ xs,AE K H1 a xs)/\R (Po K a) H1))
theorem Up {X:Cx} {tg l:Expr} {tl:TE} (hl:PE X l tl):PI X tg l (iSeq X.K tl):=by
 intro pins s σ H R I h;refine Bo (hl (pins:=pins) s σ H _ I h) fun v s1 ⟨x,H1,I1,r1,q1⟩=>?_
 obtain ⟨a,e,q1⟩:=q1;subst e;cases r1
 have fp:∀ b ∈ [s1.heap.objs.size],Ef X pins H1 b:=fun b hb=>by
  have e:b=s1.heap.objs.size:=by simpa using hb
  subst e;exact I1.fpOk (Ya _) (I1.hok.fresh (Ya _))
 rcases q1 with ⟨⟨xs,hq⟩,q⟩ | ⟨⟨xs,hq⟩,q⟩
 ·obtain ⟨Aq,rv,p,hz⟩:=I1.list hq;refine wpAny_pyIter_list p.isList ?_;exact ⟨s1.heap.objs.size,[s1.heap.objs.size],_,_,H1,rfl,I1.kept (t':=s1.toks) fun b o e=>XQ _ e,Jp a _,⟨_,Yf _ rfl,rfl,rfl⟩,fp,q⟩
 ·obtain ⟨Aq,rv,p,hz⟩:=I1.tuple hq;refine wpAny_pyIter_tuple (show s1.heap.IsTuple a Aq.toArray from p) ?_;exact ⟨s1.heap.objs.size,[s1.heap.objs.size],_,_,H1,rfl,I1.kept (t':=s1.toks) fun b o e=>XQ _ e,Ht a _,⟨_,Yf _ rfl,rfl,rfl⟩,fp,q⟩
structure MH (J:It) (xs:List V) (S:Hp->Prop):Prop where
 go:∀ i H,S H->i < xs.length->J.go i H
 yld:∀ i H x H',S H->J.yld i H x H'->H'=H/\xs[i]? = some x
 stop:∀ H,S H->J.stop xs.length H
theorem C0 {K:XU} {a:Addr} {xs:List V}:MH (RI K a) xs (fun H=>AM K H a xs):=
 ⟨fun i H q Bu=>⟨xs,xs[i],q,by simp [Bu]⟩,fun i H x H' q y=>⟨y.1,y.2 xs q⟩,fun H q=>⟨xs,q,Ya _⟩⟩
theorem B7 {K:XU} {a:Addr} {xs:List V}:MH (Po K a) xs (fun H=>AE K H a xs):=
 ⟨fun i H q Bu=>⟨xs,xs[i],q,by simp [Bu]⟩,fun i H x H' q y=>⟨y.1,y.2 xs q⟩,fun H q=>⟨xs,q,Ya _⟩⟩
theorem Bt {J:It} {xs:List V} {S:Hp->Prop} {g:TG} {te:TE} {H:Hp} {σ0:St} {R:Addr->Hp->Prop} (ov:MH J xs S) (I:Addr->Nat->St->Hp->List V->Prop) (big:xs.length < sizeLine)
  (h0:∀ D,H D=none->I D 0 σ0 (upd H D (.lst [])) [])
  (hs:∀ D i σ H' acc,H D=none->I D i σ H' acc->S H'/\H' D=some (.lst acc)/\acc.length=i)
  (turn:∀ D i σ H' acc x (B:St->V->Hp->Prop),H D=none->xs[i]? = some x->I D i σ H' acc->(∀ Ax v H5,H5 D=some (.lst acc)->I D (i + 1) Ax (upd H5 D (.lst (acc ++ [v]))) (acc ++ [v])->B Ax v H5)->g x σ H' fun Ax H3=>te Ax H3 (B Ax))
  (fin:∀ D σ H' acc,H D=none->I D xs.length σ H' acc->R D H') :
  ∀ D,H D=none->∃ W:Nat->Nat->St->Hp->Prop,(∃ m,W 0 m σ0 (upd H D (.lst []))) /\
   ∀ i m Ay H',W i m Ay H'->(J.stop i H'/\R D H')\/(J.go i H'/\∀ x H2,J.yld i H' x H2->g x Ay H2 fun Ax H3=>KI Ax H3 fun b H4=>
    if b=true then te Ax H4 (fun v H5=>∃ acc,H5 D=some (.lst acc)/\acc.length < sizeLine/\∃ m',m' < m/\W (i + 1) m' Ax (upd H5 D (.lst (acc ++ [v])))) else ∃ m',m' < m/\W (i + 1) m' Ax H4):=by
 intro D hD;refine ⟨fun i m σ H'=>m=xs.length - i/\i<=xs.length/\∃ acc,I D i σ H' acc,⟨xs.length,rfl,Y9 _,[],h0 D hD⟩,?_⟩;rintro i m σ H' ⟨rfl,hi,acc,p⟩;obtain ⟨s1,s2,s3⟩:=hs D i σ H' acc hD p;by_cases Bu:i < xs.length
 ·refine .inr ⟨ov.go i H' s1 Bu,fun x H2 y=>?_⟩;obtain ⟨rfl,ex⟩:=ov.yld i H' x H2 s1 y;have e:∀ (F:St->V->Hp->Prop) (G:St->Hp->Prop),(fun (Ax:St) (H3:Hp)=>KI Ax H3 fun b H4=>if b=true then te Ax H4 (F Ax) else G Ax H4)=fun Ax H3=>te Ax H3 (F Ax):=by
   intro F G;funext Ax H3;show (if true=true then te Ax H3 (F Ax) else G Ax H3)=_
   rw [if_pos rfl]
  rw [e (fun Ax v H5=>∃ acc,H5 D=some (.lst acc)/\acc.length < sizeLine/\∃ m',m' < xs.length - i/\(m'=xs.length - (i + 1)/\i + 1<=xs.length/\∃ IF,I D (i + 1) Ax (upd H5 D (.lst (acc ++ [v]))) IF)) (fun Ax H4=>∃ m',m' < xs.length - i/\(m'=xs.length - (i + 1)/\i + 1<=xs.length/\∃ IF,I D (i + 1) Ax H4 IF))];refine turn D i σ H2 acc x _ hD ex p fun Ax v H5 d5 p5=>?_
  exact ⟨acc,d5,by lia,xs.length - (i + 1),by lia,rfl,Bu,_,p5⟩
 ·have e:i=xs.length:=by lia
  subst e;exact .inl ⟨ov.stop H' s1,fin D σ H' acc hD p⟩
structure CG (d:PyData) (k b:Nat):Prop where
 lay:d.canLay0=true
 sho:d.showable=true
 nod:d.hasDict=false
 lv:d.leavesShort 200=true
 dp:d.depth<=k
 bu:d.bulk<=b
theorem CG.str {x:Str} (h:AV x=true):CG (.str x) 0 6:=by
 obtain ⟨l1,l2,lo⟩:=Mq h;refine ⟨?_,rfl,rfl,?_,Ya _,?_⟩
 ·have:=DF (xs:=[x]) (by simpa using h);simpa [PyData.canLayAll0,PyData.canLay0] using this
 ·have e:PyData.leavesShort 200 (.str x)=x.cps.toList.all fun c=>decide (c < 16 ^ 8):=by simp only [PyData.leavesShort]
  rw [e,Za];intro c hc;have:=lo c hc;unfold FI at this;simp at this;apply decide_eq_true;lia
 ·show PyData.bulk (.str x)<=6
  simp only [PyData.bulk];exact l2
theorem CG.mono {d:PyData} {k b k' b':Nat} (h:CG d k b) (h1:k<=k') (h2:b<=b'):CG d k' b':=⟨h.lay,h.sho,h.nod,h.lv,Yv h.dp h1,Yv h.bu h2⟩
theorem CG.all {k b:Nat}:∀ {ds:List PyData},(∀ d ∈ ds,CG d k b)->PyData.canLayAll0 ds=true/\PyData.showableAll ds=true/\PyData.hasDictAll ds=false/\PyData.leavesShortAll 200 ds=true/\PyData.depthAll ds<=k/\PyData.bulkAll ds<=ds.length * (b + 1)
 | [],_=>⟨rfl,rfl,rfl,rfl,Y9 _,Y9 _⟩
 | d :: ds,h=>by
  obtain ⟨a1,a2,a3,a4,a5,a6⟩:=CG.all (ds:=ds) fun e he=>h e (Yr _ he)
  have f:=h d Ys;have f5:=f.dp;have f6:=f.bu;refine ⟨by simp [PyData.canLayAll0,f.lay,a1],by simp [PyData.showableAll,f.sho,a2],by simp [PyData.hasDictAll,f.nod,a3],by simp [PyData.leavesShortAll,f.lv,a4],?_,?_⟩
  ·simp only [PyData.depthAll];lia
  ·simp only [PyData.bulkAll,Yz,cz];lia
theorem CG.tuple {ds:List PyData} {k b:Nat} (h:∀ d ∈ ds,CG d k b):CG (.tuple ds) (k + 1) (ds.length * (b + 1)):=by
 obtain ⟨a1,a2,a3,a4,a5,a6⟩:=CG.all h;exact ⟨by simp only [PyData.canLay0]; exact a1,by simp only [PyData.showable]; exact a2,by simp only [PyData.hasDict]; exact a3,by simp only [PyData.leavesShort]; exact a4,by simp only [PyData.depth]; lia,by simp only [PyData.bulk]; exact a6⟩
theorem CG.list {ds:List PyData} {k b:Nat} (h:∀ d ∈ ds,CG d k b):CG (.list ds) (k + 1) (ds.length * (b + 1)):=by
 obtain ⟨a1,a2,a3,a4,a5,a6⟩:=CG.all h;exact ⟨by simp only [PyData.canLay0]; exact a1,by simp only [PyData.showable]; exact a2,by simp only [PyData.hasDict]; exact a3,by simp only [PyData.leavesShort]; exact a4,by simp only [PyData.depth]; lia,by simp only [PyData.bulk]; exact a6⟩
abbrev Cj:=Str × Int
def Gf (u:Cj):PyData:=.tuple [.str u.1,.int u.2]
structure Gr (xs:List Str) (lo:Int) (rs:List Cj):Prop where
 sub:∀ r ∈ rs,r.1 ∈ xs
 nd:(rs.map (·.1)).Nodup
 lo:∀ r ∈ rs,lo<=r.2/\r.2 < 10 ^ 30
 one:1<=rs.length
theorem OX {xs:List Str} (h:∀ x ∈ xs,AV x=true):∀ d ∈ xs.map PyData.str,CG d 0 6:=by
 intro d hd;obtain ⟨u,hu,rfl⟩:=Yc.mp hd;exact CG.str (h u hu)
theorem Qw {H:Hp} {v:V} {u:Cj} (h:Ga H v (Gf u)):∃ t,v=.ref t/\H t=some (.tup [.str u.1,.int u.2]):=by
 unfold Gf at h;cases h with
 | tup ha hd=>
  cases hd with
  | cons h1 r1=>
   cases r1 with
   | cons h2 r2=>
    cases r2
    cases h1
    cases h2
    exact ⟨_,rfl,ha⟩
theorem MX {H:Hp} {t:Addr} {u:Cj} (h:H t=some (.tup [.str u.1,.int u.2])):Ga H (.ref t) (Gf u):=.tup h (.cons (.str _) (.cons (.int _) .nil))
theorem BW {H2 H3:Hp} {vs:List V} {rs:List Cj} (h:Bd H2 vs (rs.map Gf)) (ht:∀ b xs,H2 b=some (.tup xs)->H3 b=some (.tup xs)):Bd H3 vs (rs.map Gf):=by
 induction rs generalizing vs with
 | nil=>cases h; exact .nil
 | cons u rs ih=>
  cases h with
  | cons h1 r=>
   obtain ⟨t,rfl,e⟩:=Qw h1;exact .cons (MX (ht _ _ e)) (ih r)
theorem Dk {H:Hp}:∀ {vs:List V} {rs:List Cj} {i:Nat} {x:V},Bd H vs (rs.map Gf)->vs[i]? = some x->∃ u t,rs[i]? = some u/\x=.ref t/\H t=some (.tup [.str u.1,.int u.2])
 | _,[],i,x,.nil,e=>by simp at e
 | _,u :: rs,0,x,.cons h r,e=>by
  simp only [YO,Yo.injEq] at e;subst e;obtain ⟨t,rfl,q⟩:=Qw h;exact ⟨u,t,rfl,rfl,q⟩
 | _,u :: rs,i + 1,x,.cons h r,e=>by
  obtain ⟨u',t,a,b,c⟩:=Dk r (by simpa using e);exact ⟨u',t,by simpa using a,b,c⟩
theorem B6 {H:Hp}:∀ {vs:List V} {rs:List Cj},Bd H vs (rs.map Gf)->vs.length=rs.length
 | _,[],.nil=>rfl
 | _,u :: rs,.cons h r=>by rw [Yz,Yz,B6 r]
def Lim (x:V) (d:PyData):Prop:=(x=.non/\d=.none)\/∃ i:Int,x=.int i/\d=.int i/\1<=i/\i < 10 ^ 30
end L2
namespace L2
open PySem PySem.Spec PySem.W PyProof.Rows
theorem MN {X:Cx} {pins:List (Addr × Obj)} {σ:St} {H:Hp} {s:Shared} (I:Ao X pins σ H s) {kd:Nat->Bool}:∀ {vs:List V} {Aq:List Value},Az vs Aq->(∀ v ∈ vs,MD H kd v)->∀ u ∈ Aq,LN s.heap kd u
 | _,_,.nil,_,_,hu=>nomatch hu
 | _,_,.cons r1 r2,hk,u,hu=>by
  rcases XX.mp hu with rfl | hu
  ·exact (PQ I r1 (hk _ Ys)).1
  ·exact MN I r2 (fun v hv=>hk v (Yr _ hv)) u hu
end L2
namespace L2
open PySem PySem.Spec PyProof.Rows
theorem NT.keepT {H H':Hp} {m:Addr} {n:Nat} {xs:List Str} {ws:List AF} (h:NT H m n xs ws) (t:∀ b ys,H b=some (.tup ys)->H' b=some (.tup ys)):NT H' m n xs ws:=by
 obtain ⟨ta,tb,vs,a,b,c,e⟩:=h.ex;exact ⟨⟨ta,tb,vs,t _ _ a,t _ _ b,t _ _ c,En e t⟩,h.len,h.nd,h.nm,h.wl,h.wn⟩
theorem LY {x y x' y':Str} (p:[x',y'].Perm [x,y]) (h:sortedS [x',y']=true):x'=BJ x y/\y'=BK x y:=by
 have h1:=Ce h;have h2:[BJ x y,BK x y].Pairwise fun a b=>¬ b.cps.toList < a.cps.toList:=by
  refine List.pairwise_pair.mpr ?_;unfold BJ BK;by_cases a:y.cps.toList < x.cps.toList
  ·rw [if_pos a,if_neg (fun z=>Cd _ (Zm a z))];exact fun z=>Cd _ (Zm a z)
  ·rw [if_neg a];by_cases b:x.cps.toList < y.cps.toList
   ·rw [if_pos b];exact a
   ·rw [if_neg b];exact Cd _
 have p2:[BJ x y,BK x y].Perm [x,y]:=by
  unfold BJ BK;by_cases a:y.cps.toList < x.cps.toList
  ·rw [if_pos a,if_neg (fun z=>Cd _ (Zm a z))];exact .swap _ _ _
  ·rw [if_neg a];by_cases b:x.cps.toList < y.cps.toList
   ·rw [if_pos b]
   ·rw [if_neg b];have e:x=y:=CB a b;rw [e]
 have e:=Gd h1 h2 (p.trans p2.symm);simp only [ZD.injEq,and_true] at e;exact e
structure Hf (H:Hp) (m:Addr) (n:Nat) (ps:List Str) (ws:List AF):Prop where
 at':NT H m n ps ws
 dr:∃ (xs:List Str) (UT:List AF),ps.Perm xs/\ws.Perm (UT.map Ex)/\Ff xs UT
 so:sortedS ps=true
 l64:ws.length < 64
theorem Hf.web {H:Hp} {m:Addr} {n:Nat} {ps:List Str} {ws:List AF} (h:Hf H m n ps ws) (n1:1<=n) (n30:n<=30) :
  ∃ r,IG H m ps ws r/\(∀ u ∈ ws,1<=u.2.2)/\(∀ x y l l',Ct ws x y l->Ct ws x y l'->l=l'):=by
 obtain ⟨xs,UT,pp,wp,wof,sep,jn⟩:=h.dr;have pl:0 < ps.length:=by rw [h.at'.len]; lia
 have hr0:ps[0] ∈ xs:=pp.mem_iff.mp (YT pl);have en:=fun x y l=>JI wp x y l
 refine ⟨ps[0],⟨⟨h.at'.ex⟩,h.at'.nd,by rw [h.at'.len]; lia,h.l64,fun u hu=>?_,XO pl,fun Sp hs hcl z hz=>?_⟩,fun u hu=>(h.at'.wn u hu).2.2.1,fun x y l l' e1 e2=>Pd sep ((en x y l).mp e1) ((en x y l').mp e2)⟩
 ·obtain ⟨q1,q2⟩:=JH wp (fun u hu=>⟨(wof u hu).1,(wof u hu).2.1⟩) u hu;exact ⟨pp.mem_iff.mpr q1,pp.mem_iff.mpr q2⟩
 ·exact K5.all jn Sp (fun b c hbc=>hcl b c ((Ry wp b c).mpr hbc)) hr0 hs z (pp.mem_iff.mp hz)
theorem Ij:∀ {ns:List Int} {us:List Value},Az (ns.map V.int) us->∃ ts:List (Int × Tok),us=ts.map (fun p=>Value.int p.1 p.2)/\ts.map (·.1)=ns
 | [],_,.nil=>⟨[],rfl,rfl⟩
 | n :: ns,_,.cons r q=>by
  obtain ⟨t,rfl⟩:=r;obtain ⟨ts,rfl,e⟩:=Ij q;exact ⟨(n,t) :: ts,rfl,by rw [Ym,e]⟩
theorem C8 {X:Cx} (hc:X.calm=true):Bg X (.builtin "sum") (fun xs H Q=>∃ (a:Addr) (ns:List Int),xs=[.ref a]/\AM X.K H a (ns.map V.int)/\Q (.int ns.sum) H):=by
 intro pins s σ H xs us Q I r h;obtain ⟨a,ns,rfl,ha,q⟩:=h;obtain ⟨u,rfl,ru⟩:=BR r;cases ru
 obtain ⟨Aq,rv,pl,hz⟩:=I.list ha;obtain ⟨ts,rfl,e⟩:=Ij rv;have hl:s.heap.IsList a (intItems ts.toArray):=by
  have:=pl.isList;unfold intItems;simpa using this
 refine sum_intListG (I.ok.hd hc) hl fun h' tk t' kk=>?_
 refine ⟨.int ns.sum,H,I.kept (t':=tk) kk,⟨t',?_⟩,q⟩;have:preSum (numAt ts.toArray) ts.toArray.size=ns.sum:=by
  rw [preSum_eq,ZO (by simp),<-e]
 rw [this]
theorem IW:typeLookup (.type "tuple") "keys"=pure none:=by rw [typeLookup_type,builtinLookup_eq_fast]; kernel_rfl
theorem Oe {prog:Program} {w:World} {A:Around} {E:Value->Shared->Prop} {s:Shared} {a:Addr} {o:Obj} {xs:Array Value} {k:Nat} {Q:Option Value->Shared->Prop}
  (hx:s.heap.get? a=some o) (hc:o.cls=.type "tuple") (hdat:o.data=.seq xs k) (hd:o.dict=none) (hA:A.handled=none)
  (h:∀ h' tk,(∀ b ob,s.heap.get? b=some ob->h'.get? b=some ob)->Q none { s with heap:=h',toks:=tk }):wpAny (model prog w) A (getAttr? (.ref a) "keys") Q E s:=by
 obtain ⟨c,dct,dat,sl⟩:=o;simp only at hc hdat hd;subst hc hdat hd;obtain ⟨hp,g,d,tk,os⟩:=s;have hT:∀ UU,(⟨hp,g,d,UU,os⟩:Shared).TypeIs (.ref a) "tuple":=fun _=>⟨_,hx,rfl⟩
 have f1:=sub_AttributeError;have f3:=F.slot_tuple_getattribute.lookup;have f4:=F.slot_tuple_getattribute.bind (.ref a);have f5:=am_tuple_getattr_none;unfold getAttr? getAttrBy? getAttrBy;repeat (any_goals (first | assumption | exact hT _ | ((with_reducible show wpAny _ _ (call (Value.builtin "tuple.__getattribute__") _ _) _ _ _); refine call_meets F.slot_tuple_getattribute (hT _) am_entry_tuple_getattribute (F.args_tuple_getattribute_2 _ _) (meets_getattribute_miss_tuple a xs k sl "keys" _ IW (by decide +kernel) (by decide +kernel)) ⟨hx,hA,fun h' UU e My=>?_⟩) | wp_step))
 obtain ⟨t',u',he⟩:=My.there;show wpAny _ _ (getattributeRaised _ _ _ _ _ _ _) _ _ _
 unfold getattributeRaised;have hE:∀ UU,(⟨h',g,d,UU,os⟩:Shared).TypeIs (.ref e) "AttributeError":=fun _=>⟨_,he,rfl⟩
 repeat (any_goals (first | assumption | exact hE _ | wp_step))
 exact h _ _ My.keeps
section
variable {prog:Program} {w:World} {A:Around} {R:Result->Shared->Prop} {g0:Heap} {D it l:Addr} {vs:List Value} {ps:List (Str × V)}
theorem NY (hh:A.handled=none) (nI:it ≠ D) (nl:l ≠ it/\l ≠ D) (g1:∀ b o,g0.get? b=some o->b ≠ it/\b ≠ D) (hl:vs.length=ps.length) (rows:∀ (i:Nat) v p,vs[i]? = some v->ps[i]? = some p->TB g0 v p) (hsz:ps.length < sizeLine) :
  ∀ (m i:Nat) (s:Shared) (kvs:List (A6 × V)) (us:List (A6 × Value)),ps.length - i=m->i<=ps.length->s.heap.IsTupleIter it l i->s.heap.IsTuple l vs.toArray->KV kvs us->kvs.length<=i->s.heap.DictOf (AK prog w) D us->(∀ b o,g0.get? b=some o->s.heap.get? b=some o) ->
   (∀ h' tk JW,KV (HZ kvs (sK (ps.drop i))) JW->h'.DictOf (AK prog w) D JW->(∀ b o,b ≠ it->b ≠ D->s.heap.get? b=some o->h'.get? b=some o)->R (.ok (.ret .none)) { s with heap:=h',toks:=tk }) ->
   codeAny (model prog w) A (.builtin "dict.update.loop" ⟨[.ref D,.ref it,.int (i:Int) 0,.none],[]⟩) R s:=by
 intro m;induction m with
 | zero=>
  intro i s kvs us hm hi st hL kv kl dd gk r;have e:i=ps.length:=by lia
  refine codeAny_builtin E5 ?_;rw [Around.under_plainId Co _];unfold Builtin.«dict.update.loop»;refine wpAny_bind (wpAny_pyNext_tuple_end hh st hL (by simp; lia) fun h' eb=>?_);refine wpAny_bind (wpAny_pure (wpAny_pure ?_));have LU:h'.DictOf (AK prog w) D us:=dd.at fun o q=>eb D o (Ne.symm nI) q
  refine r h' s.toks us ?_ LU fun b o b1 b2 q=>eb b o b1 q
  rw [e,List.drop_length];exact kv
 | succ m ih=>
  intro i s kvs us hm hi st hL kv kl dd gk r;have Bu:i < ps.length:=by lia
  have ev:vs[i]? = some (vs[i]'(by lia)):=XO (by lia);have ep:ps[i]? = some ps[i]:=XO Bu;obtain ⟨a,t,u,e1,ht,ru⟩:=rows i _ _ ev ep;rw [e1] at ev;refine codeAny_builtin E5 ?_;rw [Around.under_plainId Co _];unfold Builtin.«dict.update.loop»;refine wpAny_bind (wpAny_pyNext_tuple_item st hL (x:=.ref a) (by simpa using ev) fun h' AH sb=>?_);obtain ⟨o,ho,hc,n,hd⟩:=id ht;have ha:=(sb.2 a (g1 a o ho).1).trans (gk a o ho);have LU:h'.DictOf (AK prog w) D us:=dd.at fun o q=>(sb.2 D (Ne.symm nI)).trans q
  have L':h'.IsTuple l vs.toArray:=by
   obtain ⟨ol,hol,rl⟩:=hL;exact ⟨ol,(sb.2 l nl.1).trans hol,rl⟩
  refine wpAny_bind (wpAny_holding ?_);refine wpAny_bind (wpAny_tryCatch ?_);unfold Builtin.Dict.pairItems;refine wpAny_bind (wpAny_typeOf (T:="tuple") ⟨o,ha,hc⟩ ?_);rw [if_pos (by decide)];refine wpAny_bind (wpAny_seqItems ha hd (wpAny_pure ?_));show wpAny _ A.in1 (holding [Value.str ps[i].1 t,u] (dictSet D (Value.str ps[i].1 t) u)) _ _ _
  have WE:us.length<=sizeLine:=by rw [<-kv.length]; lia
  refine wpAny_holding (wpAny_dictSet_pairs (k:=Sum.inr ps[i].1) (hsz:=WE) (G6 prog w _ t) LU fun h2 NL Wh=>?_);have ki:((i:Int) + 1)=((i + 1:Nat):Int):=by lia
  refine wpAny_pure ⟨plainId_quiet Co _,?_⟩;show codeAny (model prog w) A (.builtin "dict.update.loop" ⟨[.ref D,.ref it,.int ((i:Int) + 1) 0,.none],[]⟩) R _
  rw [ki];have kl2:=CD kvs (Sum.inr ps[i].1:A6) ps[i].2;have it2:h2.IsTupleIter it l (i + 1):=by
   obtain ⟨oi,hoi,ri⟩:=AH;exact ⟨oi,(Wh.2 it nI).trans hoi,ri⟩
  refine ih (i + 1) _ (Bj kvs (Sum.inr ps[i].1) ps[i].2) _ (by lia) Bu it2 ?_ (kv.put (Sum.inr ps[i].1) ru) (by lia) NL (fun b ob q=>(Wh.2 b (g1 b ob q).2).trans ((sb.2 b (g1 b ob q).1).trans (gk b ob q))) fun h3 TR us3 kv3 dd3 k3=>?_
  ·obtain ⟨ol,hol,rl⟩:=L';exact ⟨ol,(Wh.2 l nl.2).trans hol,rl⟩
  ·refine r h3 TR us3 ?_ dd3 fun b ob b1 b2 q=>k3 b ob b1 b2 ((Wh.2 b b2).trans ((sb.2 b b1).trans q))
   have ed:ps.drop i=ps[i] :: ps.drop (i + 1):=(List.drop_eq_getElem_cons Bu)
   rw [ed];exact kv3
end
section
variable {prog:Program} {w:World} {A:Around} {E:Value->Shared->Prop} {s:Shared}
theorem GY {l:Addr} {vs:List Value} {ps:List (Str × V)} {Q:Value->Shared->Prop} (hh:A.handled=none) {ol:Obj} {nl:Nat} (hl:s.heap.get? l=some ol) (hc:ol.cls=.type "tuple") (hd:ol.data=.seq vs.toArray nl) (hdc:ol.dict=none)
  (hlen:vs.length=ps.length) (rows:∀ (i:Nat) v p,vs[i]? = some v->ps[i]? = some p->TB s.heap v p) (hsz:ps.length < sizeLine)
  (h:∀ h' tk us,KV (HZ [] (sK ps)) us->h'.DictOf (AK prog w) s.heap.objs.size us->(∀ b o,s.heap.get? b=some o->h'.get? b=some o)->Q (.ref s.heap.objs.size) { s with heap:=h',toks:=tk }):wpAny (model prog w) A (call (.type "dict") [.ref l]) Q E s:=by
 refine callType_codes (Q₁:=fun obj AI=>obj=.ref s.heap.objs.size/\AI = { s with heap:=s.heap.push { cls:=.type "dict",data:=.dict #[] } }) F.kt_called_dict (F.kt_typeCall_dict_1 _) F.entry_dict_init (kt_code_dict_new _ ⟨rfl,rfl⟩) ?_;rintro obj AI ⟨rfl,rfl⟩;have hnew:(s.heap.push { cls:=.type "dict",data:=.dict #[] }).DictOf (AK prog w) s.heap.objs.size []:=Heap.DictOf.new s.heap;have Va:(s.heap.push { cls:=.type "dict",data:=.dict #[] }).get? l=some ol:=XQ _ hl;refine ⟨hnew.typeIs,F.args_dict_init_2 _ _,?_⟩;unfold Builtin.«dict.__init__»;refine wpAny_bind ?_;unfold Builtin.Dict.selfAndRest;refine wpAny_bind (wpAny_notOrdered_dict hnew.typeIs ?_);show wpAny _ _ (pure (s.heap.objs.size,[Value.ref l])) _ _ _
 refine wpAny_pure ?_;show wpAny _ _ (Builtin.Dict.updateFrom "dict.__init__" s.heap.objs.size (.ref l) [] .none) _ _ _
 unfold Builtin.Dict.updateFrom;refine wpAny_bind (wpAny_typeOf (T:="tuple") ⟨ol,Va,hc⟩ ?_);rw [if_pos (by decide)];refine wpAny_bind (Oe Va hc hd hdc hh fun h1 tk1 k1=>?_);simp only [Option.isNone_none,if_true];refine wpAny_bind (wpAny_rule ?_);have Pt:h1.IsTuple l vs.toArray:=⟨ol,k1 _ _ Va,hc,nl,hd⟩
 refine wpAny_bind (wpAny_pyIter_tuple Pt ?_);have old:∀ b o,s.heap.get? b=some o->h1.get? b=some o:=fun b o q=>k1 b o (XQ _ q)
 obtain ⟨od,esd,epd,hod,rd⟩:=id hnew;have Tz:=k1 _ _ hod;have ltD:=Ye Tz;have ltl:=Ye (k1 _ _ Va);refine wpAny_pure ⟨plainId_quiet Co _,?_⟩;refine NY (A:=A.in1) (g0:=s.heap) (D:=s.heap.objs.size) (it:=h1.objs.size) (l:=l) (vs:=vs) (ps:=ps) hh (YL ltD) ⟨Yh ltl,Yh (Ye hl)⟩ (fun b o q=>⟨Yh (Ye (old b o q)),Yh (Ye q)⟩) hlen rows hsz _ 0 { s with heap:=h1.push { cls:=.type "tuple_iterator",data:=.fields #[.ref l,.int 0 0] },toks:=tk1 } [] [] rfl (Y9 _)
  ⟨_,Yf _ rfl,rfl,rfl⟩ (Pt.push _) .nil (Ya _) ⟨od,esd,epd,XQ _ Tz,rd⟩ (fun b o q=>XQ _ (old b o q)) fun h' tk us kv dd kk=>?_
 rw [List.drop_zero] at kv;exact ⟨rfl,h h' tk us kv dd fun b o q=>kk b o (Yh (Ye (old b o q))) (Yh (Ye q)) (XQ _ (old b o q))⟩
end
theorem BQ {X:Cx} (hc:X.calm=true):Bg X (.type "dict") (fun xs H Q=>∃ (a:Addr) (vs:List V) (ps:List (Str × V)),xs=[.ref a]/\H a=some (.tup vs)/\vs.length=ps.length/\(∀ (i:Nat) v p,vs[i]? = some v->ps[i]? = some p->∃ t,v=.ref t/\H t=some (.tup [.str p.1,p.2]))/\(ps.map (·.1)).Nodup/\ps.length < 1000 /\
  ∀ D,H D=none->Q (.ref D) (upd H D (.dK (sK ps)))):=by
 intro pins s σ H xs us Q I r h;obtain ⟨a,vs,ps,rfl,ha,hl,hk,hn,h1000,q⟩:=h;obtain ⟨u,rfl,ru⟩:=BR r;cases ru
 obtain ⟨hz,Aq,rv,⟨o,ho,Hq,n,hdat⟩,dn⟩:=(show A4 X.prog X.w H s.heap a (.tup vs) from I.hok a _ ha)
 have K0:=dn o ho;have il:Aq.length=ps.length:=by rw [<-rv.length,hl]
 have big:1000 < sizeLine:=by decide
 refine GY (I.ok.hd hc) (ps:=ps) ho Hq hdat K0 il (fun i v p e1 e2=>?_) (by lia) fun h' tk us kv dd kk=>?_
 ·have hi:i < Aq.length:=(Yb.mp e1).1;have e3:vs[i]? = some vs[i]:=XO (by lia);obtain ⟨v',e4,r4⟩:=rv.get e3;rw [e1] at e4;cases e4
  obtain ⟨t,e5,ht⟩:=hk i _ p e3 e2;rw [e5] at r4;cases r4
  obtain ⟨ON,rv2,pl2,_⟩:=I.tuple (AE.of ht);cases rv2 with
  | cons x1 y1=>
   cases y1 with
   | cons x2 y2=>
    cases y2
    obtain ⟨t1,rfl⟩:=x1;exact ⟨t,t1,_,rfl,pl2,x2⟩
 ·have em:HZ [] (sK ps)=sK ps:=Lv ps [] (by simpa using hn);rw [em] at kv;refine ⟨.ref s.heap.objs.size,_,I.laid (a:=s.heap.objs.size) (o:=.dK (sK ps)) (t':=tk) kk (Ya _) (K3 (by rw [CJ]; lia) (beq_eq_false_iff_ne.mpr (Ne.symm (Yh I.big))) kv dd),rfl,q _ (I.hok.fresh (Ya _))⟩
theorem NO {k:Int} (h1:-(2 ^ 300) < k) (h2:k < 2 ^ 300):Builtin.Int.intBits k<=2 ^ 20:=by
 unfold Builtin.Int.intBits;split
 ·exact Y9 _
 ·have hn:k.natAbs < 2 ^ 300:=by lia
  have:k.natAbs.log2 < 300:=by
   rcases bI k.natAbs with h0 | hp
   ·rw [h0]; decide
   ·exact (cD (by lia)).mpr hn
  lia
def CMulB (i j:Int):Prop:=(-(2 ^ 300) < i/\i < 2 ^ 300)/\(-(2 ^ 300) < j/\j < 2 ^ 300)
theorem Ng {X:Cx}:EN X (binaryOp .Mult) (rI CMulB fun i j=>.int (i * j)):=opI fun _ _ _ _ _ _ _ hc q=>mul_int q (IntMulOk.of_bits (NO hc.1.1 hc.1.2) (NO hc.2.1 hc.2.2))
structure Ci (H:Hp) (c m:Addr) (n:Nat) (xs:List Str) (ws:List AF) (rs1 A2:List Cj) (x:V) (d:PyData):Prop where
 ex:∃ (t1 t2:Addr) (El LS:List V),H c=some (.tup [.ref m,.ref t1,.ref t2,x])/\H t1=some (.tup El)/\Bd H El (rs1.map Gf)/\H t2=some (.tup LS)/\Bd H LS (A2.map Gf)
 map:Hf H m n xs ws
 n1:1<=n
 n30:n<=30
 ok1:Gr xs 0 rs1
 ok2:Gr xs 1 A2
 l1:rs1.length<=10
 l2:A2.length<=30
 lim:Lim x d
theorem Hf.keepT {H H':Hp} {m:Addr} {n:Nat} {xs:List Str} {ws:List AF} (h:Hf H m n xs ws) (t:∀ b ys,H b=some (.tup ys)->H' b=some (.tup ys)):Hf H' m n xs ws:=⟨h.at'.keepT t,h.dr,h.so,h.l64⟩
theorem Ci.keepT {H H':Hp} {c m:Addr} {n:Nat} {xs:List Str} {ws:List AF} {rs1 A2:List Cj} {x:V} {d:PyData} (h:Ci H c m n xs ws rs1 A2 x d) (t:∀ b ys,H b=some (.tup ys)->H' b=some (.tup ys)):Ci H' c m n xs ws rs1 A2 x d:=by
 obtain ⟨t1,t2,El,LS,a,b,e,f,g⟩:=h.ex;exact ⟨⟨t1,t2,El,LS,t _ _ a,t _ _ b,BW e t,t _ _ f,BW g t⟩,h.map.keepT t,h.n1,h.n30,h.ok1,h.ok2,h.l1,h.l2,h.lim⟩
theorem Ci.same {H H':Hp} {c m:Addr} {n:Nat} {xs:List Str} {ws:List AF} {rs1 A2:List Cj} {x:V} {d:PyData} (h:Ci H c m n xs ws rs1 A2 x d) (s:Au H H'):Ci H' c m n xs ws rs1 A2 x d:=h.keepT fun b ys z=>s _ _ z
def LQ (xs ss:List Str):Prop:=ss ≠ []/\ss.Nodup/\∀ s ∈ ss,s ∈ xs
def EC (ws:List AF) (ss:List Str) (rs:List Cj) (gs:List AF):Prop:=gs.length=rs.length/\∀ (i:Nat) r g,rs[i]? = some r->gs[i]? = some g->g.1=r.1/\IH ws ss r.1 (g.2.2,g.2.1)
def KS:Sp:=fun vs H Q _=>∃ (c o m:Addr) (n:Nat) (xs ss:List Str) (ws:List AF) (rs1 A2:List Cj) (x:V) (d:PyData),vs=[.ref c,.ref o]/\Ci H c m n xs ws rs1 A2 x d/\H o=some (.tup (ss.map V.str))/\LQ xs ss /\
 ∀ (H':Hp) (D:Addr) (us:List V) (gs:List AF),Au H H'->H D=none->H' D=some (.lst us)->Bd H' us (gs.map JV)->EC ws ss A2 gs->Q (.ref D) H'
def Bc (rs:List Cj) (h:Str):Int:=((rs.find? fun r=>decide (r.1=h)).map (·.2)).getD 0
def F2:Sp:=fun vs H Q _=>∃ (c o m:Addr) (n:Nat) (xs ss:List Str) (ws:List AF) (rs1 A2:List Cj) (x:V) (d:PyData),vs=[.ref c,.ref o]/\Ci H c m n xs ws rs1 A2 x d/\H o=some (.tup (ss.map V.str))/\LQ (rs1.map (·.1)) ss /\
 ∀ (H':Hp),Au H H'->Q (.int (ss.map (Bc rs1)).sum) H'
theorem Dl {rs:List Cj} (h:(rs.map (·.1)).Nodup) {r:Cj} (hr:r ∈ rs):Bc rs r.1=r.2:=by
 induction rs with
 | nil=>exact nomatch hr
 | cons q rs ih=>
  rw [Ym,YC] at h;unfold Bc;rw [Zl];by_cases e:q.1=r.1
  ·rw [decide_eq_true e];rcases XX.mp hr with z | z
   ·rw [z]; rfl
   ·exact absurd (Yc.mpr ⟨_,z,e.symm⟩) h.1
  ·rw [decide_eq_false e];rcases XX.mp hr with z | z
   ·rw [z] at e; exact absurd rfl e
   ·exact ih h.2 z
def BD (rs:List Cj):List (Str × V):=rs.map fun r=>(r.1,.int r.2)
theorem Cz (rs:List Cj):(BD rs).map (·.1)=rs.map (·.1):=by unfold BD; rw [Y2]; rfl
theorem Hi {H:Hp} {us:List V} {rs:List Cj} (h:Bd H us (rs.map Gf)):∀ (i:Nat) v p,us[i]? = some v->(BD rs)[i]? = some p->∃ t,v=.ref t/\H t=some (.tup [.str p.1,p.2]):=fun i v p e1 e2=>by
 obtain ⟨u,t,eu,rfl,ht⟩:=Dk h e1;unfold BD at e2;rw [Yd,eu] at e2;cases e2
 exact ⟨t,rfl,ht⟩
theorem Lb {H:Hp} {B:Addr} {rs:List Cj} (h:H B=some (.dK (sK (BD rs)))) (nd:(rs.map (·.1)).Nodup) {y:Str} (hy:y ∈ rs.map (·.1)):BM H B (.str y) (some (.int (Bc rs y))):=by
 obtain ⟨r,hr,rfl⟩:=Yc.mp hy;rw [Dl nd hr];exact .inl ⟨_,Sum.inr r.1,.inl h,rfl,(C7 (nv:=BD rs) (by rw [Cz]; exact nd) (Yc.mpr ⟨r,hr,rfl⟩)).symm⟩
def Hw:Sp:=fun vs H Q _=>∃ (c o m:Addr) (n:Nat) (xs ss:List Str) (ws:List AF) (rs1 A2:List Cj) (x:V) (d:PyData),vs=[.ref c,.ref o]/\Ci H c m n xs ws rs1 A2 x d/\H o=some (.tup (ss.map V.str))/\LQ xs ss /\
 (∀ gs,EC ws ss A2 gs->∀ g ∈ gs,-(2 ^ 300) < g.2.2/\g.2.2 < 2 ^ 300) /\
 ∀ (H':Hp) (gs:List AF),Au H H'->EC ws ss A2 gs->Q (.int (gs.map fun g=>Bc A2 g.1 * g.2.2).sum) H'
def Qj:Sp:=fun vs H Q _=>∃ (c o m:Addr) (n:Nat) (xs ss:List Str) (ws:List AF) (rs1 A2:List Cj) (x:V) (d:PyData),vs=[.ref c,.ref o]/\Ci H c m n xs ws rs1 A2 x d/\H o=some (.tup (ss.map V.str))/\LQ xs ss/\LQ (rs1.map (·.1)) ss /\
 (∀ gs,EC ws ss A2 gs->∀ g ∈ gs,-(2 ^ 300) < g.2.2/\g.2.2 < 2 ^ 300) /\
 ∀ (H':Hp) (gs:List AF),Au H H'->EC ws ss A2 gs->Q (.int ((ss.map (Bc rs1)).sum + (gs.map fun g=>Bc A2 g.1 * g.2.2).sum)) H'
theorem KD {H:Hp}:∀ {vs:List V} {ws:List AF},Bd H vs (ws.map JV)->vs.length=ws.length
 | _,[],.nil=>rfl
 | _,u :: ws,.cons h r=>by rw [Yz,Yz,KD r]
section
variable {prog:Program} {w:World} {A:Around} {E:Value->Shared->Prop} {s:Shared}
end
section
variable {prog:Program} {w:World} {A:Around} {E:Value->Shared->Prop} {s:Shared}
end
theorem Cf {J:It} {xs:List V} {S:Hp->Prop} {g:TG} {tt:TT} {te:TE} {H:Hp} {σ0:St} {R:Addr->Hp->Prop} (ov:MH J xs S) (I:Addr->Nat->St->Hp->List V->Prop) (big:xs.length < sizeLine)
  (h0:∀ D,H D=none->I D 0 σ0 (upd H D (.lst [])) [])
  (hs:∀ D i σ H' acc,H D=none->I D i σ H' acc->S H'/\H' D=some (.lst acc)/\acc.length<=i)
  (turn:∀ D i σ H' acc x (B:St->V->Hp->Prop) (N:St->Hp->Prop),H D=none->xs[i]? = some x->I D i σ H' acc->(∀ Ax v H5,H5 D=some (.lst acc)->I D (i + 1) Ax (upd H5 D (.lst (acc ++ [v]))) (acc ++ [v])->B Ax v H5) ->
   (∀ Ax H4,I D (i + 1) Ax H4 acc->N Ax H4)->g x σ H' fun Ax H3=>tt Ax H3 fun b H4=>if b=true then te Ax H4 (B Ax) else N Ax H4)
  (fin:∀ D σ H' acc,H D=none->I D xs.length σ H' acc->R D H') :
  ∀ D,H D=none->∃ W:Nat->Nat->St->Hp->Prop,(∃ m,W 0 m σ0 (upd H D (.lst []))) /\
   ∀ i m Ay H',W i m Ay H'->(J.stop i H'/\R D H')\/(J.go i H'/\∀ x H2,J.yld i H' x H2->g x Ay H2 fun Ax H3=>tt Ax H3 fun b H4=>
    if b=true then te Ax H4 (fun v H5=>∃ acc,H5 D=some (.lst acc)/\acc.length < sizeLine/\∃ m',m' < m/\W (i + 1) m' Ax (upd H5 D (.lst (acc ++ [v])))) else ∃ m',m' < m/\W (i + 1) m' Ax H4):=by
 intro D hD;refine ⟨fun i m σ H'=>m=xs.length - i/\i<=xs.length/\∃ acc,I D i σ H' acc,⟨xs.length,rfl,Y9 _,[],h0 D hD⟩,?_⟩;rintro i m σ H' ⟨rfl,hi,acc,p⟩;obtain ⟨s1,s2,s3⟩:=hs D i σ H' acc hD p;by_cases Bu:i < xs.length
 ·refine .inr ⟨ov.go i H' s1 Bu,fun x H2 y=>?_⟩;obtain ⟨rfl,ex⟩:=ov.yld i H' x H2 s1 y;refine turn D i σ H2 acc x (fun Ax v H5=>∃ acc,H5 D=some (.lst acc)/\acc.length < sizeLine/\∃ m',m' < xs.length - i/\(m'=xs.length - (i + 1)/\i + 1<=xs.length/\∃ IF,I D (i + 1) Ax (upd H5 D (.lst (acc ++ [v]))) IF)) (fun Ax H4=>∃ m',m' < xs.length - i/\(m'=xs.length - (i + 1)/\i + 1<=xs.length/\∃ IF,I D (i + 1) Ax H4 IF)) hD ex p (fun Ax v H5 d5 p5=>?_) fun Ax H4 p4=>?_
  ·exact ⟨acc,d5,by lia,xs.length - (i + 1),by lia,rfl,Bu,_,p5⟩
  ·exact ⟨xs.length - (i + 1),by lia,rfl,Bu,_,p4⟩
 ·have e:i=xs.length:=by lia
  subst e;exact .inl ⟨ov.stop H' s1,fin D σ H' acc hD p⟩
def Hg (rs:List Cj) (gs:List AF):Int:=(gs.map fun g=>Bc rs g.1 * g.2.2).sum
theorem B4.app' {ws:List AF} {x y z:Str} {m n:Int} (h:B4 ws x y m) (g:B4 ws y z n):B4 ws x z (m + n):=by
 induction h with
 | nil x=>rw [ay]; exact g
 | cons e _ ih=>rw [aT]; exact .cons e (ih g)
theorem Mr {xs:List Str} {ws:List AF} (jn:K5 xs ws) {L:Int} (L0:0<=L) (hL:∀ u ∈ ws,u.2.2<=L) (hp:∀ u ∈ ws,1<=u.2.2) {r:Str} (hr:xs[0]? = some r):∀ (j:Nat) x,xs[j]? = some x->∃ m,B4 ws x r m/\0<=m/\m<=j * L:=by
 intro j;induction j using Nat.strongRecOn with
 | ind j ih=>
  intro x hx;by_cases z:j=0
  ·subst z;rw [hr] at hx;cases hx
   exact ⟨0,.nil _,Z6 _,by simp⟩
  ·obtain ⟨u,hu,i,hij,e1,e2⟩:=jn j (by lia) (Yb.mp hx).1;rw [hx] at e2;cases e2
   obtain ⟨m,w,m0,ml⟩:=ih i hij _ e1;have hl:=hL u hu;have hq:=hp u hu;refine ⟨u.2.2 + m,.cons ⟨u,hu,.inr ⟨rfl,rfl⟩,rfl⟩ w,by lia,?_⟩;have:((i:Int) + 1) * L<=j * L:=Zg (by lia) L0;rw [cE,Int.one_mul] at this;lia
theorem Hf.sums {H:Hp} {m:Addr} {n:Nat} {ps:List Str} {ws:List AF} (h:Hf H m n ps ws) (n1:1<=n) (n30:n<=30):∀ x ∈ ps,∀ y ∈ ps,∃ k,B4 ws x y k/\0<=k/\k < 2 ^ 300:=by
 obtain ⟨xs,UT,pp,wp,wof,sep,jn⟩:=h.dr;have en:=fun x y l=>JI wp x y l
 have xl:xs.length=n:=by rw [<-pp.length_eq]; exact h.at'.len
 have hr:xs[0]? = some (xs[0]'(by lia)):=XO _;have hL:∀ u ∈ UT,u.2.2<=10 ^ 30:=fun u hu=>by
  have:=(h.at'.wn (Ex u) (wp.mem_iff.mpr (Yc.mpr ⟨u,hu,rfl⟩))).2.2.2;have e:(Ex u).2.2=u.2.2:=rfl;lia
 have one:∀ x ∈ ps,∃ k,B4 UT x (xs[0]'(by lia)) k/\0<=k/\k<=30 * 10 ^ 30:=fun x hx=>by
  obtain ⟨j,hj,ej⟩:=Yq (pp.mem_iff.mp hx);obtain ⟨k,a,b,c⟩:=Mr jn (by decide) hL (fun u hu=>(wof u hu).2.2.2) hr j x (by rw [XO hj,ej]);refine ⟨k,a,b,Int.le_trans c (Zg (by lia) (by decide))⟩
 intro x hx y hy;obtain ⟨k1,a1,b1,c1⟩:=one x hx;obtain ⟨k2,a2,b2,c2⟩:=one y hy;have a3:=(PF en).mpr (B4.app' a1 a2.symm);exact ⟨k1 + k2,a3,by lia,by lia⟩
theorem B4.pos' {ws:List AF} (hp:∀ u ∈ ws,1<=u.2.2) {x y:Str} {m:Int} (h:B4 ws x y m):0<=m:=by
 induction h with
 | nil=>exact Z6 _
 | cons e _ ih=>obtain ⟨u,hu,_,rfl⟩:=e; have:=hp u hu; lia
theorem Hf.bound {H:Hp} {m:Addr} {n:Nat} {ps:List Str} {ws:List AF} (h:Hf H m n ps ws) (n1:1<=n) (n30:n<=30) {x y:Str} (hx:x ∈ ps) (hy:y ∈ ps) {k:Int} (d:Vg ws x y k):0<=k/\k < 2 ^ 300:=by
 obtain ⟨k',a,_,c⟩:=h.sums n1 n30 x hx y hy;exact ⟨d.1.pos' fun u hu=>(h.at'.wn u hu).2.2.1,aq (d.2 k' a) c⟩
theorem CG.intB {i:Int} (h0:0<=i) (h:i < 2 ^ 600):CG (.int i) 0 0:=by
 have hn:i.natAbs < 2 ^ 600:=by lia
 have l:i.natAbs.log2 < 600:=by
  by_cases z:i.natAbs=0
  ·rw [z]; decide
  ·exact (cD z).mpr hn
 have e:PyData.leavesShort 200 (.int i)=decide ((PyData.shown (.int i)).length<=200):=by simp only [PyData.leavesShort]
 refine ⟨rfl,?_,rfl,?_,Ya _,Ya _⟩
 ·simp only [PyData.showable];exact decide_eq_true (by lia)
 ·rw [e];apply decide_eq_true;have q:=int_text_length_le10 (a:=i) (k:=190) (by decide) (Yj hn (by decide));have e2:PyData.shown (.int i)=Str.ofString (toString i):=by simp only [PyData.shown]
  rw [e2,PySem.ofString_length];lia
theorem JY {B:Int} (hB:0<=B):∀ {l:List Int},(∀ t ∈ l,0<=t/\t<=B)->0<=l.sum/\l.sum<=l.length * B
 | [],_=>⟨Z6 _,by simp⟩
 | t :: l,h=>by
  obtain ⟨a,b⟩:=JY hB (l:=l) fun t' ht=>h t' (Yr _ ht)
  obtain ⟨c,d⟩:=h t Ys;rw [cn,Yz];have e:((l.length + 1:Nat):Int) * B=l.length * B + B:=by rw [aJ,cE]; simp
  constructor <;> lia
theorem Pl {rs:List Cj} {ss xs:List Str} {lo:Int} (ok:Gr xs lo rs) (h0:0<=lo) (sub:∀ s ∈ ss,s ∈ rs.map (·.1)) (sl:ss.length<=30):0<=(ss.map (Bc rs)).sum/\(ss.map (Bc rs)).sum < 2 ^ 500:=by
 have q:=JY (B:=10 ^ 30) (by decide) (l:=ss.map (Bc rs)) fun t ht=>by
  obtain ⟨s,hs,rfl⟩:=Yc.mp ht;obtain ⟨r,hr,rfl⟩:=Yc.mp (sub s hs);rw [Dl ok.nd hr];have:=ok.lo r hr;lia
 rw [XJ] at q;have:(ss.length:Int) * 10 ^ 30<=30 * 10 ^ 30:=Zg (by lia) (by decide);lia
end L2
namespace L2
open PySem
theorem L9 {K:XU} {a:Addr} {xs:List V} {g:TG} {tb:TS} {D:ED} {σ:St} {H:Hp} (Pv:Nat->St->Hp->Prop) (h0:Pv 0 σ H) (hl:∀ i σ H,i<=xs.length->Pv i σ H->AE K H a xs)
  (hs:∀ i x σ H,xs[i]? = some x->Pv i σ H->∀ (rt:VK) (bk:St->Hp->Prop),g x σ H fun Ax H2=>tb ⟨Pv (i + 1),rt,bk,Pv (i + 1)⟩ Ax H2) (hd:∀ σ H,Pv xs.length σ H->D.nx σ H) :
  ∃ W:Nat->Nat->St->Hp->Prop,(∃ m,W 0 m σ H)/\∀ i m σ H,W i m σ H ->
   ((Po K a).stop i H/\D.nx σ H)\/((Po K a).go i H/\∃ N:St->Hp->Prop,(∀ Ay H',N Ay H'->∃ m',m' < m/\W (i + 1) m' Ay H')/\∀ x H',(Po K a).yld i H x H'->g x σ H' fun Ax H2=>tb { D with nx:=N,ct:=N,bk:=D.nx } Ax H2):=
 NC Pv h0 hl (fun i x σ H hx hp=>hs i x σ H hx hp D.rt D.nx) hd
theorem OV {a:Addr} {kvs:List (A6 × V)} {o:Obj} {g:TG} {tb:TS} {D:ED} {σ:St} {H:Hp} (Pv:Nat->St->Hp->Prop) (h0:Pv 0 σ H) (hl:∀ i σ H,i<=kvs.length->Pv i σ H->H a=some (.frz o (.dK kvs)))
  (hs:∀ i k v σ H,kvs[i]? = some (k,v)->Pv i σ H->∀ (rt:VK) (bk:St->Hp->Prop),g (kV k) σ H fun Ax H2=>tb ⟨Pv (i + 1),rt,bk,Pv (i + 1)⟩ Ax H2) (hd:∀ σ H,Pv kvs.length σ H->D.nx σ H) :
  ∃ W:Nat->Nat->St->Hp->Prop,(∃ m,W 0 m σ H)/\∀ i m σ H,W i m σ H ->
   ((TH a kvs o).stop i H/\D.nx σ H)\/((TH a kvs o).go i H/\∃ N:St->Hp->Prop,(∀ Ay H',N Ay H'->∃ m',m' < m/\W (i + 1) m' Ay H')/\∀ x H',(TH a kvs o).yld i H x H'->g x σ H' fun Ax H2=>tb { D with nx:=N,ct:=N,bk:=D.nx } Ax H2):=
 Rm Pv h0 hl (fun i k v σ H hx hp=>hs i k v σ H hx hp D.rt D.nx) hd
theorem Rl {K:XU} {a:Addr} {xs:List V} {g:TG} {tb:TS} {D:ED} {σ:St} {H:Hp} (Pv:Nat->St->Hp->Prop) (h0:Pv 0 σ H) (hl:∀ i σ H,i<=xs.length->Pv i σ H->AE K H a xs)
  (hs:∀ i x σ H,xs[i]? = some x->Pv i σ H->∀ (rt:VK) (bk N:St->Hp->Prop),(∀ σ H,Pv (i + 1) σ H->N σ H)->g x σ H fun Ax H2=>tb ⟨N,rt,bk,N⟩ Ax H2) (hd:∀ σ H,Pv xs.length σ H->D.nx σ H) :
  ∃ W:Nat->Nat->St->Hp->Prop,(∃ m,W 0 m σ H)/\∀ i m σ H,W i m σ H ->
   ((Po K a).stop i H/\D.nx σ H)\/((Po K a).go i H/\∃ N:St->Hp->Prop,(∀ Ay H',N Ay H'->∃ m',m' < m/\W (i + 1) m' Ay H')/\∀ x H',(Po K a).yld i H x H'->g x σ H' fun Ax H2=>tb { D with nx:=N,ct:=N,bk:=D.nx } Ax H2):=
 NC Pv h0 hl (fun i x σ H hx hp=>hs i x σ H hx hp D.rt D.nx _ fun _ _ z=>z) hd
theorem JG {K:XU} {a:Addr} {xs:List V} {g:TG} {tb:TS} {D:ED} {σ:St} {H:Hp} (Pv:Nat->St->Hp->Prop) (h0:Pv 0 σ H) (hl:∀ i σ H,i<=xs.length->Pv i σ H->AM K H a xs)
  (hs:∀ i x σ H,xs[i]? = some x->Pv i σ H->∀ (rt:VK) (bk N:St->Hp->Prop),(∀ σ H,Pv (i + 1) σ H->N σ H)->g x σ H fun Ax H2=>tb ⟨N,rt,bk,N⟩ Ax H2) (hd:∀ σ H,Pv xs.length σ H->D.nx σ H) :
  ∃ W:Nat->Nat->St->Hp->Prop,(∃ m,W 0 m σ H)/\∀ i m σ H,W i m σ H ->
   ((RI K a).stop i H/\D.nx σ H)\/((RI K a).go i H/\∃ N:St->Hp->Prop,(∀ Ay H',N Ay H'->∃ m',m' < m/\W (i + 1) m' Ay H')/\∀ x H',(RI K a).yld i H x H'->g x σ H' fun Ax H2=>tb { D with nx:=N,ct:=N,bk:=D.nx } Ax H2):=
 FO Pv h0 hl (fun i x σ H hx hp=>hs i x σ H hx hp D.rt D.nx _ fun _ _ z=>z) hd
end L2
namespace L2
open PySem PySem.Spec PyProof.Rows
theorem IP {M:Model} {A:Around} {E:Value->Shared->Prop} {s:Shared} {scope:Scope} {globals:Addr} {closure:List (Str × Addr)} {qual:Str} {func:Option Addr} {code:Value} {outer:Env} {builtins:Addr} {Q:Env->Shared->Prop}
  (hQ:Q (newEnv scope s.heap.objs.size globals (cellsFrom (s.heap.objs.size + 1) scope.names closure) qual func code (some outer) builtins) { s with heap:=pushCells (s.heap.push { cls:=.type "dict",data:=.dict #[] }) scope.names }) :
  wpAny M A (newFunctionEnv scope globals closure [] qual func code (some outer) builtins) Q E s:=by
 simp only [newFunctionEnv,bq,if_true];refine wpAny_bind (wpAny_alloc ?_);refine wpAny_bind (wpAny_layCells _ (fun name kind cells=>by cases hkc:kind == NameKind.cell <;> simp [hkc]) _ _ _ _ ?_);rw [show ({ s with heap:=s.heap.push { cls:=.type "dict",data:=.dict #[] } }:Shared).heap.objs.size=s.heap.objs.size + 1 from YE ..];refine wpAny_bind ?_;rw [List.forIn_nil];exact wpAny_pure (wpAny_pure hQ)
theorem Gm:∀ (names:List (Str × NameKind)) (h:Heap) (acc:List (Str × Addr)) (lo:Nat),lo<=h.objs.size->(∀ x c,(x,c) ∈ acc->c < lo\/(lo<=c/\c < h.objs.size/\h.IsCell c none)) ->
  ∀ x c,(x,c) ∈ cellsFrom h.objs.size names acc->(x,c) ∈ acc\/(lo<=c/\(pushCells h names).IsCell c none)
 | [],h,acc,lo,_,_,x,c,hm=>.inl hm
 | (name,kind) :: r,h,acc,lo,hlo,ha,x,c,hm=>by
  unfold cellsFrom at hm;unfold pushCells;split at hm
  ·rename_i hk
   rw [if_pos hk];rw [show h.objs.size + 1=(h.push { cls:=.type "cell",data:=.cell none }).objs.size from (YE ..).symm] at hm;rcases Gm r (h.push { cls:=.type "cell",data:=.cell none }) ((name,h.objs.size) :: acc) lo (by rw [YE]; lia) (fun y d hy=>by
    rcases XX.mp hy with e | hy
    ·cases e
     exact .inr ⟨hlo,by rw [YE]; exact Y6 _,_,Yf _ rfl,rfl⟩
    ·rcases ha y d hy with z | ⟨z1,z2,z3⟩
     ·exact .inl z
     ·exact .inr ⟨z1,by rw [YE]; exact Yy z2,z3.keeps fun b o e=>XQ _ e⟩) x c hm with q | q
   ·rcases XX.mp q with e | q
    ·cases e
     exact .inr ⟨hlo,_,pushCells_keeps _ _ _ _ (Yf _ rfl),rfl⟩
    ·exact .inl q
   ·exact .inr q
  ·rename_i hk
   rw [if_neg hk];exact Gm r h acc lo hlo ha x c hm
theorem E9:∀ (names:List (Str × NameKind)) (n:Nat) (acc:List (Str × Addr)),(acc.Pairwise fun x y=>x.2 ≠ y.2)->(∀ x c,(x,c) ∈ acc->c < n)->(cellsFrom n names acc).Pairwise fun x y=>x.2 ≠ y.2
 | [],n,acc,h,_=>h
 | (name,kind) :: r,n,acc,h,ha=>by
  unfold cellsFrom;split
  ·refine E9 r (n + 1) ((name,n) :: acc) (YY.mpr ⟨fun y hy e=>?_,h⟩) fun x c hm=>?_
   ·have:=ha y.1 y.2 hy;have e':n=y.2:=e;exact absurd this (by rw [<-e']; exact YI _)
   ·rcases XX.mp hm with e | hm
    ·cases e; exact Y6 _
    ·exact Yy (ha x c hm)
  ·exact E9 r n acc h ha
theorem Df {α:Type}:∀ {l:List (Str × α)} {x:Str} {c:α},(x,c) ∈ l->∃ d,l.lookup x=some d
 | (k,v) :: r,x,c,h=>by
  rw [ZM];cases hb:x == k with
  | true=>exact ⟨v,rfl⟩
  | false=>
   rcases XX.mp h with e | h
   ·cases e; simp at hb
   ·exact Df h
theorem Gn:∀ (names:List (Str × NameKind)) (n:Nat) (acc:List (Str × Addr)) (x:Str),((x,NameKind.cell) ∈ names\/∃ c,(x,c) ∈ acc)->∃ c,(x,c) ∈ cellsFrom n names acc
 | [],n,acc,x,h=>by
  rcases h with h | h
  ·cases h
  ·exact h
 | (name,kind) :: r,n,acc,x,h=>by
  unfold cellsFrom;split
  ·rename_i hk
   refine Gn r (n + 1) ((name,n) :: acc) x ?_;rcases h with h | ⟨c,h⟩
   ·rcases XX.mp h with e | h
    ·cases e; exact .inr ⟨n,Ys⟩
    ·exact .inl h
   ·exact .inr ⟨c,Yr _ h⟩
  ·rename_i hk
   refine Gn r n acc x ?_;rcases h with h | h
   ·rcases XX.mp h with e | h
    ·cases e; exact absurd rfl hk
    ·exact .inl h
   ·exact .inr h
abbrev BC (X:Cx) (scope:Scope) (cl:List (Str × Addr)) (N:List Str) (s2:Shared) (H:Hp) (C:Addr) (fp:List Addr) (fn:Str->Bool):Cx:={ An X scope cl N s2 H C fp with fn:=fn }
theorem Gk (n0:Nat):∀ (names:List (Str × NameKind)) (n:Nat) (acc:List (Str × Addr)) (x:Str) (c:Addr),n0<=n->((x,NameKind.cell) ∈ names\/∃ d,acc.lookup x=some d/\n0<=d)->(cellsFrom n names acc).lookup x=some c->n0<=c
 | [],n,acc,x,c,_,h,e=>by
  rcases h with h | ⟨d,h1,h2⟩
  ·cases h
  ·have e':acc.lookup x=some c:=e;rw [h1] at e';cases e'
   exact h2
 | (name,kind) :: r,n,acc,x,c,hn,h,e=>by
  unfold cellsFrom at e;split at e
  ·rename_i hk
   refine Gk n0 r (n + 1) ((name,n) :: acc) x c (ZK hn) ?_ e;by_cases ex:x=name
   ·refine .inr ⟨n,?_,hn⟩;rw [ex,ZM,beq_self_eq_true]
   ·have hb:(x == name)=false:=beq_eq_false_iff_ne.mpr ex;rcases h with h | ⟨d,h1,h2⟩
    ·rcases XX.mp h with z | z
     ·injection z with z1 z2;exact absurd z1 ex
     ·exact .inl z
    ·exact .inr ⟨d,by rw [ZM,hb]; exact h1,h2⟩
  ·rename_i hk
   refine Gk n0 r n acc x c hn ?_ e;rcases h with h | h
   ·rcases XX.mp h with z | z
    ·cases z; exact absurd rfl hk
    ·exact .inl z
   ·exact .inr h
structure FX (X:Cx) (scope:Scope) (cl:List (Str × Addr)):Prop where
 clos:closureFor scope X.env=pure cl
 kind:scope.kind=.function
 names:∀ y ∈ scope.names,y.2=.local->scope.names.lookup y.1=some .local
 sub:∀ x c,(x,c) ∈ cl->X.env.cells.lookup x=some c
 apart:(cl.Pairwise fun x y=>x.2 ≠ y.2)
 has:∀ x,((relabel scope X.env).names.lookup x=some .cell\/(relabel scope X.env).names.lookup x=some .free)->(x,NameKind.cell) ∈ scope.names\/∃ c,(x,c) ∈ cl
theorem Fh:∀ (names:List (Str × NameKind)) (n:Nat) (acc:List (Str × Addr)) (x:Str) (c:Addr),(x,c) ∈ cellsFrom n names acc->(x,NameKind.cell) ∉ names->(x,c) ∈ acc
 | [],n,acc,x,c,h,_=>h
 | (name,kind) :: r,n,acc,x,c,h,hn=>by
  unfold cellsFrom at h;split at h
  ·rename_i hk
   have M1:kind=.cell:=by cases kind <;> first | rfl | cases hk
   rcases XX.mp (Fh r (n + 1) ((name,n) :: acc) x c h fun z=>hn (Yr _ z)) with e | e
   ·cases e
    exact absurd (by rw [M1]; exact Ys) hn
   ·exact e
  ·exact Fh r n acc x c h fun z=>hn (Yr _ z)
section
variable {X:Cx} {pins:List (Addr × Obj)} {σ Ay:St} {H H':Hp} {s2 s':Shared} {scope:Scope} {cl:List (Str × Addr)} {N:List Str} {fp:List Addr} {C D:Addr} {h₁ h':Heap} {t':Nat}
theorem LI {fn:Str->Bool} {cl0:List (Str × Addr)} (I:Ao X pins σ H s2) (hf:∀ b ∈ fp,Ef X pins H b) (hfo:∀ b ∈ fp,∃ o,s2.heap.get? b=some o) (co:FX X scope cl0) (sub:∀ x c,cl.lookup x=some c->X.env.cells.lookup x=some c\/(s2.heap.objs.size<=c/\c ≠ D/\c ≠ C/\h₁.IsCell c none)) (inj:∀ x y c,cl.lookup x=some c->cl.lookup y=some c->x=y) (own:∀ x c,fn x=true->cl.lookup x=some c->s2.heap.objs.size<=c)
  (has:∀ x,((relabel scope X.env).names.lookup x=some .cell\/(relabel scope X.env).names.lookup x=some .free)->∃ c,cl.lookup x=some c) (keepS:∀ (i:Nat) (x:Str) (v:V),N[i]? = some x->Ay[i]? = some (some v)->∀ c,cl.lookup x=some c->X.env.cells.lookup x=some c) (hσ:AR X cl scope N σ Ay)
  (k:∀ b o,s2.heap.get? b=some o->h₁.get? b=some o) (hD:s2.heap.objs.size<=D) (hC:s2.heap.objs.size<=C) (hDC:C ≠ D)
  (new:h₁.get? D=some { cls:=.type "list",data:=.seq ([]:List Value).toArray 0 }\/∃ n,h₁.get? D=some { cls:=.type "list",data:=.seq ([]:List Value).toArray n }) {m:Str->Option Value} (hn:h₁.Ns C m) :
  Ao (BC X scope cl N s2 H C fp fn) [] Ay (upd H D (.lst [])) { s2 with heap:=h₁,toks:=t' }:=by
 have fD:H D=none:=I.hok.fresh hD;have fC:H C=none:=I.hok.fresh hC;have newO:A4 X.prog X.w (upd H D (.lst [])) h₁ D (.lst []):=by
  refine ⟨Y9 _,[],?_⟩;rcases new with e | ⟨n,e⟩
  ·exact ⟨0,.nil,e⟩
  ·exact ⟨n,.nil,e⟩
 have lts:∀ b ∈ fp,b < s2.heap.objs.size:=fun b hb=>let ⟨_,e⟩:=hfo b hb; Ye e
 have ok:Cx.Ok (BC X scope cl N s2 H C fp fn):=by
  refine ⟨I.ok.mod,?_,I.ok.glob,I.ok.blt,hC,?_,?_,?_,I.ok.hd,I.ok.frames,.inl rfl,?_,I.bs,Yv I.ok.bsz I.sz,?_,?_,I.stack,I.stkFree⟩
  ·exact co.kind
  ·exact inj
  ·exact has
  ·exact own
  ·intro b hb;refine ⟨fun e=>?_,fun x c e=>by
    rcases sub x c e with z | ⟨z,_⟩
    ·exact (hf b hb).2.2.2.2.1 x c z
    ·exact YL (Yj (lts b hb) z)⟩
   have z:=lts b hb;exact absurd (Yj z hC) (by rw [show b=C from e]; exact YI _)
  ·intro b o e hb;have Ez:b ∈ fp:=hb;rcases (hf b Ez).2.2.2.1 with z | z
   ·exact I.ok.noex b o e z
   ·exact absurd (Yj (Ye e) (Yv I.ok.bsz z)) (YI _)
  ·intro b hb hz;have Ez:b ∈ fp:=hb;obtain ⟨_,f1,f2,_⟩:=hf b Ez;rcases XX.mp (I.stkSub b hz) with e | e
   ·exact f1 e
   ·exact f2 e
 refine ⟨ok,rfl,I.bare,Un.laid k hD fD,?_,?_,?_,?_,?_,I.hok.laid k hD newO,hσ.1⟩
 ·refine ⟨m,hn,fun i x v e1 e2 _=>?_⟩;obtain ⟨⟨j,j1,j2⟩,kk,kr⟩:=hσ.2 i x v e1 e2;obtain ⟨mo,_,hl⟩:=I.loc;obtain ⟨u,r,l⟩:=hl j x v j1 j2 (by
   rcases kk with z | z
   ·exact .inr (.inl z)
   ·exact .inr (.inr z))
  refine ⟨u,r,.inr ⟨kr,?_⟩⟩;obtain ⟨c,hc⟩:=has x kr;rcases l with ⟨z,_⟩ | ⟨_,c',Hq,hcell⟩
  ·rcases kk with q | q
   ·rw [z] at q; cases q
   ·rw [z] at q; cases q
  ·have e3:=keepS i x v e1 e2 c hc;rw [Hq] at e3;have e4:c'=c:=Yo.inj e3;subst e4;obtain ⟨o,ho,hd⟩:=hcell;exact ⟨c',hc,o,k _ o ho,hd⟩
 ·intro x c e;rcases sub x c e with z | ⟨_,_,_,z⟩
  ·obtain ⟨v,o,ho,hd⟩:=I.cell x c z;exact ⟨v,o,k _ o ho,hd⟩
  ·exact ⟨Z4,z⟩
 ·show upd H D (.lst []) C=none
  rw [Af hDC];exact fC
 ·intro x c e;rcases sub x c e with z | ⟨z1,z2,_,_⟩
  ·obtain ⟨v,q⟩:=I.cell x c z;rw [Af (Yh (Yj q.lt hD))];exact I.freeC x c z
  ·rw [Af z2];exact I.hok.fresh z1
 ·intro p hp;cases hp
theorem Pm {fn:Str->Bool} {pl:List (Addr × Obj)} (I:Ao X pins σ H s2) (hf:∀ b ∈ fp,Ef X pins H b) (hC:s2.heap.objs.size<=C) (I2:Ao (BC X scope cl N s2 H C fp fn) pl Ay H' s')
  (hs:Heap.SameBut C s'.heap h'):Ao X pins σ H' { s' with heap:=h' }:=by
 have nC:∀ b o,s2.heap.get? b=some o->b ≠ C:=fun b o e=>Yh (Yj (Ye e) hC)
 have u:=I2.base;refine I.call' (s':={ s' with heap:=h' }) (ch:=fp) I2.os ⟨?_,?_,u.free,?_,u.tups,u.frzs,u.tbls⟩ ?_ I2.bare fun b hb=>?_
 ·exact fun b o e n h1 h2=>(hs.2 b (nC b o e)).trans (u.keep b o e n h1 h2)
 ·intro b o e n h1 h2;obtain ⟨sl,q⟩:=u.slot b o e n h1 h2;exact ⟨sl,(hs.2 b (nC b o e)).trans q⟩
 ·intro b o e h2;obtain ⟨o',q⟩:=u.there b o e h2;exact ⟨o',(hs.2 b (nC b o e)).trans q⟩
 ·intro b ob e;have hfree:H' C=none:=I2.free;refine (I2.hok b ob e).stay (fun c w' hc q=>(hs.2 c ?_).trans q) (fun _ q=>q) fun _ _ q=>q
  rintro rfl;rcases hc with rfl | hc
  ·rw [hfree] at e; cases e
  ·rw [hfree] at hc; cases hc
 ·obtain ⟨_,f1,_,f3,f4,f5⟩:=hf b hb;exact ⟨f3,f1,f4,f5⟩
end
end L2
namespace L2
open PySem PySem.Spec PySem.W PyProof.Rows
end L2
namespace L2
open PySem PySem.Spec PyProof.Rows
theorem FX.caught {X:Cx} {scope:Scope} {cl:List (Str × Addr)} (clos:closureFor scope X.env=pure cl) (hkind:scope.kind=.function)
  (hnames:∀ y ∈ scope.names,y.2=.local->scope.names.lookup y.1=some .local) (hcl:∀ y ∈ cl,X.env.cells.lookup y.1=some y.2) (hap:cl.Pairwise fun x y=>x.2 ≠ y.2)
  (hfr:∀ y ∈ scope.names,y.2=.free->∃ c,(y.1,c) ∈ cl):FX X scope cl:=by
 refine ⟨clos,hkind,hnames,fun x c h=>hcl _ h,hap,fun x h=>?_⟩;have key:∀ k,(relabel scope X.env).names.lookup x=some k->k=.cell\/k=.free->(x,NameKind.cell) ∈ scope.names\/∃ c,(x,c) ∈ cl:=by
  intro k e hk;have m:=Dg e;obtain ⟨⟨n,k'⟩,hm,e'⟩:=Yc.mp m;dsimp only at e';by_cases hf:k'=.free
  ·subst hf;have en:n=x:=by
    by_cases hc:(NameKind.free == NameKind.free && X.env.scope.kind == .function && X.env.kindOf n == some .cell)=true
    ·rw [if_pos hc] at e';injection e'
    ·rw [if_neg hc] at e';injection e'
   subst en;exact .inr (hfr _ hm rfl)
  ·have:(k' == NameKind.free)=false:=by
    cases k' <;> first | rfl | exact absurd rfl hf
   rw [this] at e';simp at e';obtain ⟨rfl,rfl⟩:=e';rcases hk with rfl | rfl
   ·exact .inl hm
   ·exact absurd rfl hf
 rcases h with h | h
 ·exact key _ h (.inl rfl)
 ·exact key _ h (.inr rfl)
theorem Aw (K:XU) {X:Cx} (h:X.K=K):Bg X (.builtin "len") (fun xs H Q=>∃ p vs,xs=[V.ref p]/\(AM K H p vs\/AE K H p vs)/\Q (.int vs.length) H):=by subst h; exact Ea
theorem Cp (K:XU) {X:Cx} {tg l:Expr} {tl:TE} (h:X.K=K) (hl:PE X l tl):PI X tg l (Tw K tl):=by subst h; exact Hl hl
theorem BO (K:XU) {X:Cx} {tg l:Expr} {tl:TE} (h:X.K=K) (hl:PE X l tl):PI X tg l (iTup K tl):=by subst h; exact Kk hl
def GtAt (A:Around) (s:Shared) (x y:Value) (b:Bool):Prop:=∀ (prog:Program) (w:World) (E Q:Value->Shared->Prop),Q (.bool b) s->wpAny (model prog w) A (richCompare .Gt x y) Q E s
def FV (h:Heap) (v:Value) (ss:List Str):Prop:=∃ a us,v=.ref a/\IsTup h a us.toArray/\Az (ss.map V.str) us
def MI (h:Heap) (v:Value) (k:Int × List Str):Prop:=∃ a l t,v=.ref a/\IsTup h a #[.int k.1 t,.ref l]/\FV h (.ref l) k.2
def CT (k:Int × List Str):List Eg:=.i k.1 :: k.2.map Eg.s
theorem FV.keep {h h':Heap} {v:Value} {p:List Str} (x:FV h v p) (k:∀ b o,h.get? b=some o->h'.get? b=some o):FV h' v p:=by
 obtain ⟨a,us,rfl,⟨o,ho,r⟩,z⟩:=x;exact ⟨a,us,rfl,⟨o,k _ _ ho,r⟩,z⟩
theorem MI.keep {h h':Heap} {v:Value} {p:Int × List Str} (x:MI h v p) (k:∀ b o,h.get? b=some o->h'.get? b=some o):MI h' v p:=by
 obtain ⟨a,l,t,rfl,⟨o,ho,r⟩,z⟩:=x;exact ⟨a,l,t,rfl,⟨o,k _ _ ho,r⟩,z.keep k⟩
theorem Jm {us vs:List Value} {xs:List Str} (r1:Az (xs.map V.str) us) (j:Nat) (hj:j < us.length):∃ t x,xs[j]? = some x/\us[j]=.str x t:=by
 have l1:=r1.length;rw [XJ] at l1;have e:(xs.map V.str)[j]? = some (V.str (xs[j]'(by lia))):=by rw [Yd,XO (by lia)]; rfl
 obtain ⟨u,e1,r⟩:=r1.get e;obtain ⟨t,rfl⟩:=r;rw [XO hj] at e1;exact ⟨t,_,XO (by lia),Yo.inj e1⟩
theorem Jl {us:List Value}:∀ {xs ys:List Str},Az (xs.map V.str) us->Az (ys.map V.str) us->xs=ys:=by
 induction us with
 | nil=>
  intro xs ys r1 r2;cases xs with
  | nil=>cases ys with | nil=>rfl | cons _ _=>cases r2
  | cons _ _=>cases r1
 | cons u us ih=>
  intro xs ys r1 r2;cases xs with
  | nil=>cases r1
  | cons x xs=>
   cases ys with
   | nil=>cases r2
   | cons y ys=>
    cases r1 with
    | cons a1 b1=>
     cases r2 with
     | cons a2 b2=>
      obtain ⟨t,e⟩:=a1;obtain ⟨t',e'⟩:=a2;rw [e] at e';cases e'
      rw [ih b1 b2]
theorem K2 {A:Around} {s:Shared} {v w:Value} {xs ys:List Str} (hv:FV s.heap v xs) (hw:FV s.heap w ys) (hu:A.units < cLine):SeqAt.EqAt A s v w (decide (xs=ys)):=by
 obtain ⟨a,us,rfl,ha,r1⟩:=hv;obtain ⟨b,vs,rfl,hb,r2⟩:=hw;by_cases hab:a=b
 ·subst hab;have e:xs=ys:=by
   obtain ⟨o,ho,hc,n,hd⟩:=ha;obtain ⟨o',IY,Hq,n',K0⟩:=hb;rw [ho] at IY;cases IY
   rw [hd] at K0;injection K0 with e1 e2;have e3:=congrArg ak e1;simp only at e3;subst e3;exact Jl r1 r2
  rw [decide_eq_true e];intro prog w E Q h;unfold eqBool;refine wpAny_holding ?_;exact wpAny_ite_split (fun _=>wpAny_bind (wpAny_rule (wpAny_pure h))) (fun hn=>absurd (by simp) hn)
 ·have l1:=r1.length;have l2:=r2.length;rw [XJ] at l1 l2;have key:=SeqAt.RcAt.tuples (A:=A) (s:=s) (e:=fun j=>xs[j]? == ys[j]?) (show s.heap.IsTuple a us.toArray from ha) (show s.heap.IsTuple b vs.toArray from hb) hu (fun j h1 h2=>by
   obtain ⟨t,x,e1,e2⟩:=Jm (vs:=us) r1 j (by simpa using h1);obtain ⟨t',y,e3,e4⟩:=Jm (vs:=vs) r2 j (by simpa using h2);rw [b0,b0,e2,e4,e1,e3];have:=SeqAt.EqAt.str_str x t y t' (A:=A.in1) (s:=s);exact this)
  have e:((Zi (min us.toArray.size vs.toArray.size)).all (fun j=>xs[j]? == ys[j]?) && us.toArray.size == vs.toArray.size)=decide (xs=ys):=by
   rw [YZ,YA,Za,decide_eq_true_iff];simp only [ZE,Yp,beq_iff_eq];constructor
   ·rintro ⟨h1,h2⟩;refine bJ fun j=>?_
    by_cases hj:j < us.length
    ·exact h1 j (by lia)
    ·rw [ZV (by lia),ZV (by lia)]
   ·rintro rfl;exact ⟨fun j _=>rfl,by lia⟩
  rw [e] at key;exact SeqAt.EqAt.of_refs hab key
def CmpsG (A:Around) (s:Shared) (z:Bool):List (Value × Value)->Bool->Prop
 | [],r=>r=z
 | p :: Cu,r=>∃ e,SeqAt.EqAt A s p.1 p.2 e/\(e=false->GtAt A s p.1 p.2 r)/\(e=true->CmpsG A s z Cu r)
section
open PySem.SeqAt
open PySem.AutoSeq1 (wpAny_loadPart')
open PySem.MeetsSeq PySem.MeetsSeq2 PySem.MeetsSeq3
end
def JS (A:Around) (s:Shared) (z:Bool):List (Value × Value)->Bool->Prop
 | [],r=>r=z
 | p :: Cu,r=>∃ e,SeqAt.EqAt A s p.1 p.2 e/\(e=false->C4 A s p.1 p.2 r)/\(e=true->JS A s z Cu r)
section
open PySem.SeqAt
open PySem.AutoSeq1 (wpAny_loadPart')
open PySem.MeetsSeq PySem.MeetsSeq2 PySem.MeetsSeq3
theorem Oc (l b:Addr) (xs ys:Array Value) (n n2:Nat) (dd NL:Option Addr) (sl Pq:Array (Option Value)) (r:Bool) :
  Meets (Builtin.«tuple.__lt__» ⟨[.ref l,.ref b],[]⟩)
   (fun A R s=>s.heap.get? l=some { cls:=.type "tuple",dict:=dd,data:=.seq xs n,slots:=sl }/\s.heap.get? b=some { cls:=.type "tuple",dict:=NL,data:=.seq ys n2,slots:=Pq } /\
    JS A.in1 s (decide (xs.size < ys.size)) (xs.toList.zip ys.toList) r/\R (.ok (.ret (.bool r))) s):=
 .of_wp fun prog w A R s h=>by
  obtain ⟨hp,g,d,tk,os⟩:=s; obtain ⟨hl,hb,hc,h⟩:=h;have f2:=AutoSeq1.sub_tuple_tuple;wp_walk using wpAny_loadPart' hl,wpAny_loadPart' hb,wpAny_forIn_list _ (fun Cu b s'=>b.1=none/\s'=⟨hp,g,d,tk,os⟩/\JS A.in1 ⟨hp,g,d,tk,os⟩ (decide (xs.size < ys.size)) Cu r) _
  case turn=>
   rintro ⟨y,x⟩ Cu b s' ⟨Ez,rfl,e,he,h1,h2⟩;refine wpAny_bind (he prog w _ _ ?_);cases ee:e with
   | true=>
    wp_walk
    exact ⟨rfl,rfl,h2 ee⟩
   | false=>
    have hri:=h1 ee prog w;wp_walk using hri;exact ⟨_,rfl,by simpa using h⟩
  case fin=>
   rintro ⟨b1',b2'⟩ s' ⟨Ez,rfl,hz⟩;have Tx:r=decide (xs.size < ys.size):=hz;simp only at Ez;subst Ez Tx;wp_walk;exact ⟨_,rfl,by simpa [Builtin.Tuple.tupleCompareSizes] using h⟩
  case h=>
   exact ⟨rfl,rfl,hc⟩
end
theorem C4.tupN {A:Around} {s:Shared} {l b:Addr} {xs ys:Array Value} {r:Bool} (hl:IsTup s.heap l xs) (hb:IsTup s.heap b ys) (hu:A.units < cLine) (hc:JS A.in1 s (decide (xs.size < ys.size)) (xs.toList.zip ys.toList) r):C4 A s (.ref l) (.ref b) r:=fun prog w E Q h=>by
 obtain ⟨⟨cls,dd,data,sl⟩,ho,Hq,n,hd⟩:=id hl;obtain ⟨⟨UG,NL,data2,Pq⟩,OR,Rg,n2,hd2⟩:=id hb;simp only at Hq hd Rg hd2;subst Hq hd Rg hd2;exact richCompare_meets_room (op:=.Lt) ⟨_,ho,rfl⟩ ⟨_,OR,rfl⟩ PySem.F.slot_tuple_lt PySem.F.entry_tuple_lt (PySem.F.args_tuple_lt_2 _ _) (Oc l b xs ys n n2 dd NL sl Pq r)
  ⟨ho,OR,hc,show Value.bool _ ≠ Value.notImplemented/\Q (.bool _) s from ⟨(fun x=>nomatch x),h⟩⟩ hu
theorem IA {A:Around} {s:Shared}:∀ (xs ys:List Str) {us vs:List Value},Az (xs.map V.str) us->Az (ys.map V.str) vs->JS A s (decide (xs.length < ys.length)) (us.zip vs) (AA (xs.map Eg.s) (ys.map Eg.s))
 | [],[],_,_,r1,r2=>by cases r1; cases r2; rfl
 | [],y :: ys,_,_,r1,r2=>by cases r1; cases r2; rfl
 | x :: xs,[],_,_,r1,r2=>by cases r1; cases r2; rfl
 | x :: xs,y :: ys,_,_,r1,r2=>by
  cases r1 with
  | cons a1 b1=>
   cases r2 with
   | cons a2 b2=>
    obtain ⟨t,rfl⟩:=a1;obtain ⟨t',rfl⟩:=a2;refine ⟨x == y,SeqAt.EqAt.str_str _ _ _ _,fun e=>?_,fun e=>?_⟩
    ·have e:¬ x=y:=by simpa using e
     have:=C4.str A s x t y t';rw [Ym,Ym];unfold AA;rw [if_neg (by intro z; injection z with z; exact e z)];exact this
    ·have e:x=y:=by simpa using e
     rw [Ym,Ym];unfold AA;rw [if_pos (by rw [e])];have:=IA xs ys b1 b2 (A:=A) (s:=s);rw [Yz,Yz];simp only [Nat.add_lt_add_iff_right];exact this
theorem Nn {A:Around} {s:Shared} {v w:Value} {xs ys:List Str} (hv:FV s.heap v xs) (hw:FV s.heap w ys) (hu:A.units < cLine):C4 A s v w (AA (xs.map Eg.s) (ys.map Eg.s)):=by
 obtain ⟨a,us,rfl,ha,r1⟩:=hv;obtain ⟨b,vs,rfl,hb,r2⟩:=hw;refine C4.tupN ha hb hu ?_;have l1:=r1.length;have l2:=r2.length;rw [XJ] at l1 l2;have:=IA (A:=A.in1) (s:=s) xs ys r1 r2;rw [l1,l2] at this;simpa using this
theorem lt_kn {A:Around} {s:Shared} {v w:Value} {p q:Int × List Str} (hv:MI s.heap v p) (hw:MI s.heap w q) (hu:A.units + 1 < cLine):C4 A s v w (AA (CT p) (CT q)):=by
 obtain ⟨a,l,t,rfl,ha,h1⟩:=hv;obtain ⟨b,l',t',rfl,hb,h2⟩:=hw;refine C4.tupN ha hb (by lia) ?_;show JS A.in1 s _ [(.int p.1 t,.int q.1 t'),(.ref l,.ref l')] _
 refine ⟨p.1 == q.1,SeqAt.EqAt.int_int _ _ _ _,fun e=>?_,fun e=>⟨decide (p.2=q.2),K2 h1 h2 (by rw [PySem.Around.in1_units]; exact hu),fun e2=>?_,fun e2=>?_⟩⟩
 ·have e:¬ p.1=q.1:=by simpa using e
  have:=C4.int A.in1 s p.1 t q.1 t';unfold CT;unfold AA;rw [if_neg (by intro z; injection z with z; exact e (by first | exact z | exact z.symm))];exact this
 ·have e:p.1=q.1:=by simpa using e
  have:=Nn (A:=A.in1) (s:=s) h1 h2 (by rw [PySem.Around.in1_units]; exact hu);unfold CT;unfold AA;rw [if_pos (by rw [e])];exact this
 ·have e:p.1=q.1:=by simpa using e
  have e2:p.2=q.2:=of_decide_eq_true e2;show AA (CT p) (CT q)=_
  unfold CT;rw [e,e2,DV];rfl
section
variable {prog:Program} {w:World} {A:Around} {R:Result->Shared->Prop} {I:Addr} {fp wr:List Addr} {n:Nat} {P:Nat->Value->Prop} {St:Nat->Heap->Prop} {g0:Heap}
end
section
variable {prog:Program} {w:World} {A:Around} {E:Value->Shared->Prop} {s:Shared}
end
def SY (H:Hp) (v:V) (k:Int × List Str):Prop:=∃ t l,v=.ref t/\H t=some (.tup [.int k.1,.ref l])/\H l=some (.tup (k.2.map V.str))
theorem SY.same {H H':Hp} {v:V} {p:Int × List Str} (h:SY H v p) (s:∀ b xs,H b=some (.tup xs)->H' b=some (.tup xs)):SY H' v p:=let ⟨t,l,e,z,q⟩:=h; ⟨t,l,e,s _ _ z,s _ _ q⟩
theorem PN {X:Cx} {pins:List (Addr × Obj)} {σ:St} {H:Hp} {s:Shared} {l:Addr} {ss:List Str} (I:Ao X pins σ H s) (h:H l=some (.tup (ss.map V.str))):FV s.heap (.ref l) ss:=by
 obtain ⟨Aq,rv,pl,hz⟩:=I.tuple (AE.of h);exact ⟨l,Aq,rfl,pl,rv⟩
theorem SY.at {X:Cx} {pins:List (Addr × Obj)} {σ:St} {H:Hp} {s:Shared} {v:V} {u:Value} {k:Int × List Str} (I:Ao X pins σ H s) (r:A1 v u) (h:SY H v k):MI s.heap u k:=by
 obtain ⟨t,l,rfl,ht,hp⟩:=h;cases r
 obtain ⟨Aq,rv,pl,hz⟩:=I.tuple (AE.of ht);cases rv with
 | cons a1 b1=>
  cases b1 with
  | cons a2 b2=>
   cases b2
   cases a2
   obtain ⟨t2,rfl⟩:=a1;exact ⟨t,l,t2,rfl,pl,PN I hp⟩
theorem GB (bt:Nat->Nat->Bool) (f:Nat->List Eg) (h1:∀ i j,bt i j=AA (f i) (f j)):∀ k,argBest bt k<=k/\∀ j,j<=k->AA (f j) (f (argBest bt k))=false
 | 0=>⟨Ya _,fun j hj=>by
  have:j=0:=by lia
  subst this; exact DV _⟩
 | k + 1=>by
  obtain ⟨a1,a2⟩:=GB bt f h1 k;simp only [argBest];cases hc:bt (k + 1) (argBest bt k) with
  | true=>
   simp only [if_true];refine ⟨Ya _,fun j hj=>?_⟩;by_cases IZ:j<=k
   ·have a3:=a2 j IZ;rw [h1] at hc;cases e:AA (f j) (f (k + 1)) with
    | false=>rfl
    | true=>rw [FJ _ _ _ e hc] at a3; cases a3
   ·have:j=k + 1:=by lia
    subst this; exact DV _
  | false=>
   simp only [Y1,if_false];refine ⟨ZK a1,fun j hj=>?_⟩;by_cases IZ:j<=k
   ·exact a2 j IZ
   ·have:j=k + 1:=by lia
    subst this; rw [<-h1]; exact hc
section
variable {X:Cx} {pins:List (Addr × Obj)} {σ:St} {H:Hp} {s:Shared}
theorem S0 (I:Ao X pins σ H s) {vs:List V} {Aq:List Value} {ks:List (Int × List Str)} (rv:Az vs Aq) (hl:vs.length=ks.length) (hk:∀ (i:Nat) v k,vs[i]? = some v->ks[i]? = some k->SY H v k) :
  ∀ (i:Nat) (v:Value),Aq[i]? = some v->∃ k,ks[i]? = some k/\MI s.heap v k/\∃ x,vs[i]? = some x/\A1 x v:=fun i v e=>by
 have il:Aq.length=ks.length:=by rw [<-rv.length,hl]
 have hi:i < Aq.length:=(Yb.mp e).1;have e1:vs[i]? = some vs[i]:=XO (by lia);have e2:ks[i]? = some ks[i]:=XO (by lia);obtain ⟨v',e3,r3⟩:=rv.get e1;rw [e] at e3;cases e3
 exact ⟨_,e2,(hk i _ _ e1 e2).at I r3,_,e1,r3⟩
end
theorem LL {X:Cx} (hc:X.calm=true) (hu:X.A.units + 64 < cLine):Bg X (.builtin "min") (fun xs H Q=>∃ (a:Addr) (vs:List V) (ks:List (Int × List Str)),xs=[.ref a]/\H a=some (.lst vs)/\vs.length=ks.length/\ks ≠ []/\(∀ (i:Nat) v k,vs[i]? = some v->ks[i]? = some k->SY H v k) /\
  ∀ v k,k ∈ ks->SY H v k->(∀ k' ∈ ks,AA (CT k') (CT k)=false)->Q v H):=by
 intro pins s σ H xs us Q I r h;obtain ⟨a,vs,ks,rfl,ha,hl,hne,hk,q⟩:=h;obtain ⟨u,rfl,ru⟩:=BR r;cases ru
 obtain ⟨Aq,rv,pl,hz⟩:=I.list (AM.of ha);have il:Aq.length=ks.length:=by rw [<-rv.length,hl]
 have pos:0 < ks.length:=Zd.mpr hne;have kat:=S0 I rv hl hk;refine Gj (bt:=fun i j=>AA (CT (ks.getD i (0,[]))) (CT (ks.getD j (0,[])))) (I.ok.hd hc) pl.isList (by lia) (fun i j vi vj s' Q' E' g hi hj hQ=>?_) fun v h2 tk hv k2=>?_
 ·obtain ⟨ki,e1,a1,_⟩:=kat i vi hi;obtain ⟨kj,e2,a2,_⟩:=kat j vj hj;have d1:ks.getD i (0,[])=ki:=by rw [Yw,e1]; rfl
  have d2:ks.getD j (0,[])=kj:=by rw [Yw,e2]; rfl
  dsimp only at hQ;rw [d1,d2] at hQ;exact lt_kn (a1.keep g) (a2.keep g) (by rw [PySem.Around.in1_units]; lia) _ _ _ _ hQ
 ·obtain ⟨k,e1,a1,x,e3,r3⟩:=kat _ v hv;obtain ⟨b1,b2⟩:=GB (fun i j=>AA (CT (ks.getD i (0,[]))) (CT (ks.getD j (0,[])))) (fun i=>CT (ks.getD i (0,[]))) (fun _ _=>rfl) (Aq.length - 1);refine ⟨x,H,I.kept k2,r3,q x k (XY e1) (hk _ x k e3 e1) fun k' M1=>?_⟩;obtain ⟨j,hj,ej⟩:=Yq M1;have:=b2 j (by lia);have d1:ks.getD (argBest (fun i j=>AA (CT (ks.getD i (0,[]))) (CT (ks.getD j (0,[])))) (Aq.length - 1)) (0,[])=k:=by rw [Yw,e1]; rfl
  have d2:ks.getD j (0,[])=k':=by rw [Yw,XO hj,ej]; rfl
  rw [d1,d2] at this;exact this
theorem QM (K:XU) {X:Cx} (h:X.K=K):EN X (binaryOp .Add) (Tq K):=by subst h; exact Sk
inductive Cs (H:Hp):List V->List (List Str)->Prop
 | nil:Cs H [] []
 | cons {t:Addr} {us:List V} {f:List Str} {fs:List (List Str)}:H t=some (.tup (f.map V.str))->Cs H us fs->Cs H (.ref t :: us) (f :: fs)
theorem Cs.len {H:Hp} {us:List V} {fs:List (List Str)} (h:Cs H us fs):us.length=fs.length:=by
 induction h with
 | nil=>rfl
 | cons _ _ ih=>rw [Yz,Yz,ih]
theorem Cs.keep {H H':Hp} {us:List V} {fs:List (List Str)} (h:Cs H us fs) (s:∀ b xs,H b=some (.tup xs)->H' b=some (.tup xs)):Cs H' us fs:=by
 induction h with
 | nil=>exact .nil
 | cons a _ ih=>exact .cons (s _ _ a) ih
theorem Cs.app {H:Hp} {us vs:List V} {fs gs:List (List Str)} (h:Cs H us fs) (h':Cs H vs gs):Cs H (us ++ vs) (fs ++ gs):=by
 induction h with
 | nil=>exact h'
 | cons a _ ih=>exact .cons a ih
theorem Cs.get {H:Hp} {us:List V} {fs:List (List Str)} (h:Cs H us fs):∀ {i:Nat} {u:V},us[i]? = some u->∃ t f,u=.ref t/\fs[i]? = some f/\H t=some (.tup (f.map V.str)):=by
 induction h with
 | nil=>intro i u e; simp at e
 | cons a _ ih=>
  intro i u e;cases i with
  | zero=>simp at e; subst e; exact ⟨_,_,rfl,rfl,a⟩
  | succ i=>exact ih (by simpa using e)
theorem Cs.mem {H:Hp} {us:List V} {fs:List (List Str)} (h:Cs H us fs) {u:V} (hu:u ∈ us):∃ t f,u=.ref t/\f ∈ fs/\H t=some (.tup (f.map V.str)):=by
 obtain ⟨i,hi⟩:=Zc hu;obtain ⟨t,f,e,ef,ht⟩:=h.get hi;exact ⟨t,f,e,XY ef,ht⟩
theorem Cs.perm {H:Hp} {us JW:List V} (p:JW.Perm us):∀ {fs:List (List Str)},Cs H us fs->∃ Ve,Ve.Perm fs/\Cs H JW Ve:=by
 induction p with
 | nil=>intro fs h; cases h; exact ⟨[],.refl _,.nil⟩
 | cons x p ih=>
  intro fs h;cases h with
  | cons a b=>
   obtain ⟨Ve,p',t'⟩:=ih b;exact ⟨_ :: Ve,p'.cons _,.cons a t'⟩
 | swap x y l=>
  intro fs h;cases h with
  | cons a b=>
   cases b with
   | cons c d=>exact ⟨_ :: _ :: _,.swap _ _ _,.cons c (.cons a d)⟩
 | trans p1 p2 V4 V3=>
  intro fs h;obtain ⟨f1,q1,t1⟩:=V3 h;obtain ⟨f2,q2,t2⟩:=V4 t1;exact ⟨f2,q2.trans q1,t2⟩
theorem Cs.kinds {H:Hp} {us:List V} {fs:List (List Str)} (h:Cs H us fs) (ne:∀ f ∈ fs,f ≠ []):∀ v ∈ us,MD H (fun _=>true) v:=by
 intro v hv;obtain ⟨t,f,rfl,hf,ht⟩:=h.mem hv;refine ⟨t,_,rfl,ht,by simpa using ne f hf,fun i y e=>?_⟩;rw [Yd] at e;cases z:f[i]? with
 | none=>rw [z] at e; cases e
 | some x=>rw [z] at e; exact ⟨x,(Yo.inj e).symm⟩
def C2:V->Nat->Bool
 | .int i,k=>decide ((k:Int)<=i)
 | _,_=>true
def Rz (sites:List Str) (x:V) (os:List (List Str)):Prop:=
 os.Nodup/\True/\∀ ss,ss ∈ os ↔ ss ≠ []/\ss.Sublist sites/\C2 x ss.length=true
theorem Rz.ne {sites:List Str} {x:V} {d:PyData} {os:List (List Str)} (h:Rz sites x os) (hs:sites ≠ []) (l:Lim x d):os ≠ []:=by
 cases sites with
 | nil=>exact absurd rfl hs
 | cons s sites=>
  have:[s] ∈ os:=(h.2.2 [s]).mpr ⟨by simp,(ZN _).cons₂ s,by
   rcases l with ⟨rfl,_⟩ | ⟨i,rfl,_,h1,_⟩
   ·rfl
   ·exact decide_eq_true (by simpa using h1)⟩
  intro z;rw [z] at this;cases this
theorem LQ.mono {xs ys ss:List Str} (h:LQ xs ss) (s:∀ x ∈ xs,x ∈ ys):LQ ys ss:=⟨h.1,h.2.1,fun x hx=>s x (h.2.2 x hx)⟩
def NV (H:Hp) (c:Addr) (sites:List Str) (x:V) (d:PyData):Prop:=
 ∃ (m t2:V) (t1:Addr) (El:List V) (rs1:List Cj),H c=some (.tup [m,.ref t1,t2,x])/\H t1=some (.tup El)/\Bd H El (rs1.map Gf)/\rs1.map (·.1)=sites/\sites.Nodup/\sites.length<=10/\Lim x d
theorem Ci.sites {H:Hp} {c m:Addr} {n:Nat} {xs:List Str} {ws:List AF} {rs1 A2:List Cj} {x:V} {d:PyData} (h:Ci H c m n xs ws rs1 A2 x d):NV H c (rs1.map (·.1)) x d:=by
 obtain ⟨t1,t2,El,LS,a,b,e,f,g⟩:=h.ex;exact ⟨_,_,t1,El,rs1,a,b,e,rfl,h.ok1.nd,by rw [XJ]; exact h.l1,h.lim⟩
theorem Q6 {X:Cx} (fn:Str->Bool) {ix:Nat} {x:Str} {px spos:Pos} {tg iter elt:Expr} {ifs:List Expr} {scope:Scope} {cl:List (Str × Addr)} {N:List Str} {pos:Pos} {wi:TI} {g:TG} {tt:TT} {te:TE} {σ0:St->St} (hN:X.N.Nodup) (hix:X.N[ix]? = some x) (hlx:UM X.env.scope x) (hc:X.calm=true) (co:FX X scope cl) (hfn:∀ x,fn x=true->(x,NameKind.cell) ∈ scope.names)
  (hσ:∀ σ,σ.length=X.N.length->AR X cl scope N σ (σ0 σ)) (hK:∀ (σ:St) (i:Nat) (x:Str) (v:V),N[i]? = some x->(σ0 σ)[i]? = some (some v)->(x,NameKind.cell) ∉ scope.names) (hi:PI X tg iter wi)
  (hb:∀ s2 H C fp,PG (BC X scope (cellsFrom (C + 1) scope.names cl) N s2 H C fp fn) tg g/\TC (BC X scope (cellsFrom (C + 1) scope.names cl) N s2 H C fp fn) ifs tt/\PE (BC X scope (cellsFrom (C + 1) scope.names cl) N s2 H C fp fn) elt te)
  (hsw:swapsWith (.ListComp elt [⟨tg,iter,ifs,0⟩] scope pos) (some (.Name x px)) spos.line X.env=pure true:=by rfl)
  (hs:∀ x,foldedSetIterable iter X.env x=pure x:=by intro _; rfl) (hf:X.fn x=true\/X.env.scope.names.lookup x=some .local:=by first | exact .inl rfl | exact .inr rfl | assumption) :
  PS X (.Assign [.Name x px] (.ListComp elt [⟨tg,iter,ifs,0⟩] scope pos) spos) (PY (MP wi g tt te σ0) (JF ix)):=by
 intro pins s σ H DD I h;rw [exec_Assign_Name_used _ _ _ _ hsw];refine wpAny_bind (wpAny_standAt (wpAny_bind ?_));show wpAny _ X.A (do let _ <- comprehension (.ListComp elt [⟨tg,iter,ifs,0⟩] scope pos) scope X.env _ (newList []) false (eval iter X.env) (some (assign (.Name x px) X.env))) _ _ s
 refine wpAny_bind (wpAny_mono (wpAny_comprehension_free (use:=some (assign (.Name x px) X.env)) (Q:=fun _ s'=>SP X pins DD .next s') rfl hs co.clos co.kind co.names
  (wpAny_mono (hi (pins:=pins) s σ H _ I h) (fun xv s1 h1=>wpAny_mono h1 (fun itv s2 h2=>?_) fun _ _ e=>e) fun _ _ e=>e)) (fun _ s' hq=>wpAny_pure (wpAny_pure hq)) fun _ _ e=>e)
 obtain ⟨it,fp,tn,J,H2,rfl,I2,T,ER,f2,hW⟩:=h2;refine wpAny_newObj_type (IP ?_);dsimp only;generalize Il:s2.heap.push { cls:=.type "list",dict:=none,data:=.seq ([]:List Value).toArray } = HH;have Bn:HH.objs.size=s2.heap.objs.size + 1:=by rw [<-Il,YE]
 obtain ⟨h₁,LB⟩:∃ h₁,h₁=pushCells (HH.push { cls:=.type "dict",data:=.dict #[] }) scope.names:=⟨_,rfl⟩
 rw [<-LB];have Bp:h₁.Ns HH.objs.size (fun _=>Z4):=by
  rw [LB];exact (Heap.Ns.new HH (.type "dict")).keeps (pushCells_keeps _ _)
 have old:∀ b o,s2.heap.get? b=some o->h₁.get? b=some o:=fun b o e=>by
  rw [LB];exact pushCells_keeps _ _ _ _ (XQ _ (Il ▸ XQ _ e))
 have newD:∃ n,h₁.get? s2.heap.objs.size=some { cls:=.type "list",data:=.seq ([]:List Value).toArray n }:=by
  refine ⟨0,?_⟩;rw [LB];exact pushCells_keeps _ _ _ _ (XQ _ (Il ▸ Yf _ rfl))
 obtain ⟨JK,ecl⟩:∃ JK,JK=cellsFrom (HH.objs.size + 1) scope.names cl:=⟨_,rfl⟩
 have clt:∀ x c,(x,c) ∈ cl->c < s2.heap.objs.size:=fun x c e=>by
  obtain ⟨v,q⟩:=I2.cell x c (co.sub x c e);exact q.lt
 have Kv:∀ x c,(x,c) ∈ JK->(x,c) ∈ cl\/(HH.objs.size + 1<=c/\h₁.IsCell c Z4):=fun x c hm=>by
  have hsz:(HH.push { cls:=.type "dict",data:=.dict #[] }).objs.size=HH.objs.size + 1:=YE ..;rw [ecl,<-hsz] at hm;have q:=Gm scope.names (HH.push { cls:=.type "dict",data:=.dict #[] }) cl (HH.objs.size + 1) (by rw [hsz]; exact Ya _) (fun y d hy=>.inl (Yj (clt y d hy) (by rw [Bn]; lia))) x c hm;rw [LB];exact q
 have ap':JK.Pairwise fun x y=>x.2 ≠ y.2:=by
  rw [ecl];exact E9 _ _ _ co.apart fun x c hm=>Yj (clt x c hm) (by rw [Bn]; lia)
 have Vj:∀ x c,JK.lookup x=some c->X.env.cells.lookup x=some c\/(s2.heap.objs.size<=c/\c ≠ s2.heap.objs.size/\c ≠ HH.objs.size/\h₁.IsCell c Z4):=fun x c e=>by
  rcases Kv x c (PySem.mem_of_lookup e) with q | ⟨q1,q2⟩
  ·exact .inl (co.sub x c q)
  ·exact .inr ⟨by rw [Bn] at q1; exact ZQ (Yj (Yy (Y6 _)) q1),YL (by rw [Bn] at q1; exact Yj (Yy (Y6 _)) q1),YL (Yj (Y6 _) q1),q2⟩
 have Xd:∀ x y c,JK.lookup x=some c->JK.lookup y=some c->x=y:=fun x y c e1 e2=>name_of_addr ap' (PySem.mem_of_lookup e1) (PySem.mem_of_lookup e2)
 have WO:∀ x c,fn x=true->JK.lookup x=some c->s2.heap.objs.size<=c:=fun x c h e=>by
  rw [ecl] at e;exact Gk s2.heap.objs.size scope.names (HH.objs.size + 1) cl x c (by rw [Bn]; lia) (.inl (hfn x h)) e
 have Xo:∀ x,((relabel scope X.env).names.lookup x=some .cell\/(relabel scope X.env).names.lookup x=some .free)->∃ c,JK.lookup x=some c:=fun x h=>by
  obtain ⟨c,hc⟩:=Gn scope.names (HH.objs.size + 1) cl x (co.has x h);rw [ecl];exact Df hc
 have keepS:∀ (i:Nat) (x:Str) (v:V),N[i]? = some x->(σ0 σ)[i]? = some (some v)->∀ c,JK.lookup x=some c->X.env.cells.lookup x=some c:=fun i x v e1 e2 c e=>by
  rw [ecl] at e;have m2:=Fh scope.names (HH.objs.size + 1) cl x c (PySem.mem_of_lookup e) (hK σ i x v e1 e2);exact co.sub x c m2
 obtain ⟨W,⟨m0,w0⟩,turn⟩:=hW s2.heap.objs.size I2.fresh;have hfo:∀ b ∈ fp,∃ o,s2.heap.get? b=some o:=fun b hb=>let ⟨o,e,_⟩:=T.obj _ _ ER b hb; ⟨o,e⟩
 have Xf:∀ σ,σ.length=X.N.length->AR X JK scope N σ (σ0 σ):=fun σ h=>hσ σ h
 have I3:Ao (BC X scope JK N s2 H2 HH.objs.size fp fn) [] (σ0 σ) (upd H2 s2.heap.objs.size (.lst [])) { s2 with heap:=h₁,toks:=s2.toks }:=
  LI I2 f2 hfo co Vj Xd WO Xo keepS (Xf σ I.len) old (Ya _) (by rw [Bn]; exact Y8 _) (YL (by rw [Bn]; exact Y6 _)) (.inr newD) Bp
 have fC:s2.heap.objs.size<=HH.objs.size:=by rw [Bn]; exact Y8 _
 obtain ⟨hg,ht,he⟩:=hb s2 H2 HH.objs.size fp;rw [<-ecl] at hg ht he;have loop:∀ BN:Shared,BN = { s2 with heap:=h₁,toks:=s2.toks } ->
   codeAny (model X.prog X.w) X.A (.compLoop (.ListComp elt [⟨tg,iter,ifs,0⟩] scope pos) 0 (.ref it) (.ref s2.heap.objs.size) (compEnvC scope JK HH.objs.size X.env))
    (compPost (model X.prog X.w) X.A X.xe (some (assign (.Name x px) X.env)) (fun _ s'=>SP X pins DD .next s') (.ref s2.heap.objs.size) HH.objs.size) BN:=by
  rintro BN rfl;have stat:∀ {H':Hp} ,(∀ b ∈ fp,H' b=none)->∀ b ∈ fp,Ef (BC X scope JK N s2 H2 HH.objs.size fp fn) [] H' b:=fun hn b hb=>by
   refine ⟨hn b hb,?_,?_,.inl hb,?_,fun p hp=>by cases hp⟩
   ·obtain ⟨o,e⟩:=hfo b hb;exact Yh (show b < HH.objs.size by rw [Bn]; exact Yy (Ye e))
   ·intro hz;obtain ⟨_,q1,q2,_⟩:=f2 b hb;rcases XX.mp (I2.stkSub b hz) with e | e
    ·exact q1 e
    ·exact q2 e
   ·intro x c e;rcases Vj x c e with z | ⟨z,_⟩
    ·exact (f2 b hb).2.2.2.2.1 x c z
    ·obtain ⟨o,eo⟩:=hfo b hb;exact YL (Yj (Ye eo) z)
  refine BL (fun n s'=>∃ i Ay H',Ao (BC X scope JK N s2 H2 HH.objs.size fp fn) [] Ay H' s'/\tn i s'.heap/\(∀ b ∈ fp,H' b=none)/\W i n Ay H') ?_ m0
   ⟨0,σ0 σ,_,I3,T.keep _ _ _ ER fun b hb o e=>old b o e,fun b hb=>?_,w0⟩
  ·rintro n s4 ⟨i,Fw,H4,I4,KP,L8,w4⟩;rcases turn i n Fw H4 w4 with ⟨stop,qn⟩ | ⟨go,step⟩
   ·refine wpAny_mono (T.done (BC X scope JK N s2 H2 HH.objs.size fp fn) rfl rfl rfl hc i [] s4 Fw H4 (fun _ _=>False) I4 (stat L8) KP stop) (fun r s5 ⟨hr,I5⟩=>?_) fun _ _ z=>z.elim
    subst hr;obtain ⟨m5,Rb,_⟩:=id I5.loc;have I6:Ao X pins σ H4 s5:=Pm (h':=s5.heap) I2 f2 fC I5 (Heap.SameBut.refl _ _);have cC:∀ y c,X.env.cells.lookup y=some c->c ≠ HH.objs.size:=fun y c e=>by
     obtain ⟨v,q⟩:=I2.cell y c e;exact Yh (Yj q.lt fC)
    have lC:X.env.locals ≠ HH.objs.size:=Yh (Yj I2.lt fC);show wpAny _ X.A (assign (.Name x px) X.env (.ref s2.heap.objs.size)) _ X.xe s5
    refine wpAny_assign_Name (EE I6 hN hix hlx (v:=.ref s2.heap.objs.size) rfl (fun s7 I7 ⟨a,sb,ha⟩=>?_) hf);have aC:a ≠ HH.objs.size:=by
     rcases ha with rfl | ha
     ·exact lC
     ·exact cC _ _ ha
    refine ⟨m5,Rb.sameBut sb (Ne.symm aC),fun h' L4=>⟨_,H4,?_,qn⟩⟩;exact I7.turned (t':=s7.toks) (it:=HH.objs.size) (fun b o hb e=>(L4.2 b hb).trans e) I5.free (Ne.symm lC) (.inr (Yv I2.sz fC)) cC fun p hp z=>by
     have e:=(I2.pin p hp).1;exact absurd (Yj (Ye e) fC) (by rw [z]; exact YI _)
   ·refine wpAny_mono (T.item (BC X scope JK N s2 H2 HH.objs.size fp fn) rfl rfl rfl hc i [] s4 Fw H4 (fun _ _=>False) I4 (stat L8) KP go) (fun r s5 ⟨u,hr,h5⟩=>?_) fun _ _ z=>z.elim
    subst hr;refine wpAny_mono h5 (fun _ s6 ⟨x,H6,I6,r6,y6,Hu,Rk⟩=>?_) fun _ _ z=>z.elim
    have R4:=I6.pinned (stat Rk) (T.obj _ _ Hu);refine wpAny_mono (hg s6 Fw H6 x u _ R4 r6 (step x H6 y6)) (fun _ s7 ⟨Eh,H7,I7,q7⟩=>?_) fun _ _ z=>z.elim
    refine wpAny_mono (ht s7 Eh H7 _ I7 q7) (fun ok s8 ⟨H8,I8,q8⟩=>?_) fun _ _ z=>z.elim
    have again:∀ {s9:Shared} {Fv:St} {H9:Hp} ,Ao (BC X scope JK N s2 H2 HH.objs.size fp fn) ([] ++ Dz fp s6.heap) Fv H9 s9->(∃ m',m' < n/\W (i + 1) m' Fv H9)->∃ m,m < n/\∃ i Ay H',Ao (BC X scope JK N s2 H2 HH.objs.size fp fn) [] Ay H' s9/\tn i s9.heap/\(∀ b ∈ fp,H' b=none)/\W i m Ay H':=fun {s9 Fv H9} I9 n9=>by
     obtain ⟨m',hm,w9⟩:=n9;refine ⟨m',hm,i + 1,Fv,H9,I9.unpinned,T.keep _ _ _ Hu fun b hb o e=>(I9.pin (b,o) (Yk _ (Yk _ (AU hb e)))).1,fun b hb=>?_,w9⟩;obtain ⟨o,e,d⟩:=T.obj _ _ Hu b hb;exact (I9.pin (b,o) (Yk _ (Yk _ (AU hb e)))).2.1
    cases ok with
    | false=>
     rw [if_neg Yl] at q8 ⊢;exact again I8 q8
    | true=>
     rw [if_pos rfl] at q8 ⊢;refine wpAny_mono (he s8 Eh H8 _ I8 q8) (fun y s9 ⟨v,H9,I9,r9,acc,hacc,hsz,q9⟩=>?_) fun _ _ z=>z.elim
     refine wpAny_mono (C1 (X:=BC X scope JK N s2 H2 HH.objs.size fp fn) s9 Eh H9 (.ref s2.heap.objs.size) [v] (.ref s2.heap.objs.size) [y] (fun _ Pp=>∃ m',m' < n/\W (i + 1) m' Eh Pp) I9 rfl (.cons r9 .nil) ⟨_,acc,v,rfl,rfl,hacc,hsz,q9⟩) (fun _ Tn ⟨_,Pp,R6,_,Q3⟩=>?_) fun _ _ z=>z.elim
     exact again R6 Q3
  ·have z:=(f2 b hb).1;obtain ⟨o,e⟩:=hfo b hb;rw [Af (Yh (Ye e))];exact z
 subst ecl;exact codeAny_compStart_list (loop _ rfl) (T.self _ 0 _ _ _ (T.keep _ _ _ ER fun b hb o e=>old b o e) (loop _ rfl))
theorem HM {α β:Type} {F G:α->β->Prop}:∀ {Lx:List α} {Lw:List β},Paired F Lx Lw->(∀ a b,F a b->G a b)->Paired G Lx Lw
 | _,_,.nil,_=>.nil
 | _,_,.cons r t,h=>.cons (h _ _ r) (HM t h)
def Tb (H:Hp) (a:Addr) (kvs:List (List A6 × V)) (o:Obj) (H':Hp):Prop:=H a=some (.dT kvs)/\H'=upd H a (.frz o (.dT kvs))
def UN (a:Addr) (kvs:List (List A6 × V)) (o:Obj) (ts:List Addr):It:=
 ⟨fun i H=>H a=some (.frz o (.dT kvs))/\i < ts.length,fun i H x H'=>H'=H/\∃ t,ts[i]? = some t/\x=.ref t,fun i H=>H a=some (.frz o (.dT kvs))/\ts.length<=i⟩
theorem Q0 {X:Cx} {pins:List (Addr × Obj)} {σ:St} {H:Hp} {s:Shared} {a:Addr} {o:Obj} {kvs:List (List A6 × V)} {es:Array DictEntry} {ep:Nat} (I:Ao X pins σ H s) (e:H a=some (.frz o (.dT kvs))) (he:o.data=.dict es ep):D6 s.heap a es ep:=by
 obtain ⟨ho,_,_,xs,rel,o',SD,SH,h1,h2,h3,h4⟩:=(show A4 X.prog X.w H s.heap a (.frz o (.dT kvs)) from I.hok a _ e)
 rw [ho] at h1;cases h1
 exact ⟨o,ho,h2,he⟩
theorem RN {P:Program} {w:World} {K:XU} {tg:Expr} (a it:Addr) {kvs:List (List A6 × V)} {o:Obj} {es:Array DictEntry} {ep:Nat} {ts:List Addr} (he:o.data=.dict es ep) (hk:es.toList.map (·.key)=ts.map Value.ref) :
  LM P w K tg (UN a kvs o ts) [it] it (fun i h=>h.IsKeyIter it a i es.size ep) where
 mem:=by simp
 obj:=fun i h st b hb=>by
  have e:b=it:=by simpa using hb
  subst e;obtain ⟨o,e,c,d⟩:=st;exact ⟨o,e,fun v z=>by rw [d] at z; cases z⟩
 keep:=fun i h h' st k=>st.at fun o e=>k it (by simp) o e
 item:=by
  intro X hP hw hK hc i pins s σ H E I hf st hg;subst hP hw hK;obtain ⟨hq,Bu⟩:=hg;have rd:=Q0 I hq he;have ex:es[i]?.map (·.key)=some (.ref ts[i]):=by
   have e:=congrArg (fun l:List Value=>l[i]?) hk;rw [Yd,Yd,XO Bu,YW] at e;exact e
  obtain ⟨f0,f1,f2,f3,f4,f5⟩:=hf it (by simp);refine Ld st rd ex fun h' AH sb=>?_
  have I1:Ao X pins σ H { s with heap:=h' }:=I.turned (t':=s.toks) (fun b o hb e=>(sb.2 b hb).trans e) f0 f1 f3 f4 f5;obtain ⟨o',e,c,d⟩:=id AH;exact ⟨_,rfl,Io (s:={ s with heap:=h' }) e c d (by decide) ⟨.ref ts[i],H,I1,rfl,⟨rfl,ts[i],XO Bu,rfl⟩,AH,fun b hb=>(hf b hb).1⟩⟩
 done:=by
  intro X hP hw hK hc i pins s σ H E I hf st hg;subst hP hw hK;obtain ⟨hq,hle⟩:=hg;have rd:=Q0 I hq he;obtain ⟨f0,f1,f2,f3,f4,f5⟩:=hf it (by simp);have hl:es.size=ts.length:=by
   have e:=congrArg Zh hk;rw [XJ,XJ,Y0] at e;exact e
  exact MZ (I.ok.hd hc) st rd (by lia) fun h' eb=>⟨rfl,I.turned (t':=s.toks) (fun b o hb e=>eb b o hb e) f0 f1 f3 f4 f5⟩
 self:=fun _ _ _ _ _ st h=>wpAny_pyIter_keyiter st h
def U4 (tl:TE):TI:=fun σ H R=>tl σ H fun x H1=>∃ a kvs,x=.ref a/\H1 a=some (.dT kvs)/\∀ o ts H2,Tb H1 a kvs o H2->ts.length=kvs.length->(∀ (i:Nat) t p,ts[i]? = some t->kvs[i]? = some p->H2 t=some (.tup (p.1.map kV)))->R (UN a kvs o ts) H2
theorem Q9 {X:Cx} {tg l:Expr} {tl:TE} (hl:PE X l tl):PI X tg l (U4 tl):=by
 intro pins s σ H R I h;refine Bo (hl (pins:=pins) s σ H _ I h) fun v s1 ⟨x,H1,I1,r1,q1⟩=>?_
 obtain ⟨a,kvs,e,hr,q⟩:=q1;subst e;cases r1
 obtain ⟨z,y,xs,rel,o,es,ep,h1,h2,h3,h4,h5⟩:=(show A4 X.prog X.w H1 s1.heap a (.dT kvs) from I1.hok a _ hr)
 have I2:Ao X pins σ (upd H1 a (.frz o (.dT kvs))) s1:=by
  have tup:∀ b ys,H1 b=some (.tup ys)->b ≠ a:=fun b ys hb z=>by rw [z,hr] at hb; cases hb
  refine I1.write (x:=a) (e:=a) (h':=s1.heap) (t':=s1.toks) (by rw [hr]; exact True.intro) (.inl rfl) (fun b u _ q=>q) ⟨o,h1⟩ ⟨h1,z,y,xs,?_,o,es,ep,h1,h2,h3,h4,h5⟩;exact HM rel fun p q ⟨e1,e2,e3⟩=>⟨e1,by rw [Af (tup _ _ e2)]; exact e2,e3⟩
 have hk:es.toList.map (·.key)=(xs.map (·.2.1)).map Value.ref:=by rw [h4,Y2,Y2]; rfl
 have rd:D6 s1.heap a es ep:=⟨o,h1,h2,h3⟩
 refine Lc y rd ?_;refine ⟨s1.heap.objs.size,[s1.heap.objs.size],_,_,_,rfl,I2.kept (t':=s1.toks) fun b o e=>XQ _ e,RN a _ h3 hk,⟨_,Yf _ rfl,rfl,rfl⟩,fun b hb=>?_,q o (xs.map (·.2.1)) _ ⟨hr,rfl⟩ (by rw [XJ]; exact (Paired.length rel).symm) fun i t p e1 e2=>?_⟩
 ·have e:b=s1.heap.objs.size:=by simpa using hb
  subst e;exact I2.fpOk (Ya _) (I2.hok.fresh (Ya _))
 ·obtain ⟨qq,e3,_,e4,_⟩:=Paired.at rel e2;rw [Yd,e3] at e1;cases e1
  show upd H1 a _ qq.2.1=_
  rw [Af (fun z=>by rw [z,hr] at e4; cases e4)];exact e4
theorem Km {a:Addr} {kvs:List (List A6 × V)} {o:Obj} {ts:List Addr}:MH (UN a kvs o ts) (ts.map V.ref) (fun H=>H a=some (.frz o (.dT kvs))):=
 ⟨fun i H q Bu=>⟨q,by rwa [XJ] at Bu⟩,fun i H x H' q ⟨e,t,et,ex⟩=>⟨e,by rw [Yd,et,ex]; rfl⟩,fun H q=>⟨q,by rw [XJ]; exact Ya _⟩⟩
def Q2 (K:XU):R2:=fun x y H Q=>∃ a b xs ys,x=.ref a/\y=.ref b/\AE K H a xs/\AE K H b ys/\xs.length + ys.length<=sizeLine /\
 (xs=[]->Q (.ref b) H)/\(xs ≠ []->ys=[]->Q (.ref a) H)/\(xs ≠ []->ys ≠ []->∀ p,H p=none->Q (.ref p) (upd H p (.tup (xs ++ ys))))
theorem Lm (K:XU) {X:Cx} (hK:X.K=K):EN X (binaryOp .Add) (Q2 K):=by
 subst hK;intro pins s σ H x y v u Q I rx ry h;obtain ⟨a,b,xs,ys,rfl,rfl,ha,hb,hz,q0,q1,q2⟩:=h;cases rx
 cases ry
 obtain ⟨Aq,r1,p1,_⟩:=I.tuple ha;obtain ⟨ON,r2,p2,_⟩:=I.tuple hb;by_cases hx:xs=[]
 ·obtain ⟨⟨cls,dd,data,sl⟩,ho,hc,n,hd⟩:=id p1;obtain ⟨⟨UG,NL,data2,Pq⟩,OR,Rg,n2,hd2⟩:=id p2;simp only at hc hd Rg hd2;subst hc hd Rg hd2;exact concat_meets ⟨_,ho,rfl⟩ ⟨_,OR,rfl⟩ noFill_tuple_add seq_tuple_add PySem.F.slot_tuple_add PySem.F.entry_tuple_add (PySem.F.args_tuple_add_2 _ _)
   (tuple_addW0 a b Aq.toArray ON.toArray n n2 dd NL sl Pq (by simp [r1.nil_iff.mpr hx])) ⟨ho,OR,⟨.ref b,H,I,rfl,q0 hx⟩⟩
 ·refine HT.cat_tup p1 p2 (fun z=>hx (r1.nil_iff.mp z)) (fun z=>⟨.ref a,H,I,rfl,q1 hx (r2.nil_iff.mp z)⟩) (fun z=>?_) (by rw [<-r1.length,<-r2.length]; exact hz);refine ⟨.ref s.heap.objs.size,_,I.laid (t':=s.toks) (o:=.tup (xs ++ ys)) (fun b ob q=>XQ _ q) (Ya _) ?_,rfl,q2 hx (fun w=>z (r2.nil_iff.mpr w)) _ (I.hok.fresh (Ya _))⟩;exact ⟨by rw [XZ]; exact hz,_,r1.append r2,IsTup.new _ _,LO.new rfl rfl⟩
theorem Jf {X:Cx} (hc:X.calm=true):Bg X (.builtin "min") (fun xs H Q=>∃ (a:Addr) (ns:List Int),xs=[.ref a]/\H a=some (.lst (ns.map V.int))/\ns ≠ [] /\
  ∀ m,m ∈ ns->(∀ x ∈ ns,m<=x)->Q (.int m) H):=by
 intro pins s σ H xs us Q I r h;obtain ⟨a,ns,rfl,ha,hne,q⟩:=h;obtain ⟨u,rfl,ru⟩:=BR r;cases ru
 obtain ⟨Aq,rv,pl,hz⟩:=I.list (AM.of ha);have il:Aq.length=ns.length:=by rw [<-rv.length,XJ]
 have pos:0 < ns.length:=Zd.mpr hne;refine Gj (bt:=fun i j=>decide (ns.getD i 0 < ns.getD j 0)) (I.ok.hd hc) pl.isList (by lia) (fun i j vi vj s' Q' E' g hi hj hQ=>?_) fun v h2 tk hv k2=>?_
 ·obtain ⟨x,t,e1,rfl⟩:=Hn rv i vi hi;obtain ⟨y,u,e2,rfl⟩:=Hn rv j vj hj;dsimp only at hQ;rw [Yw,Yw,e1,e2] at hQ;exact C4.int _ _ _ _ _ _ _ _ _ _ hQ
 ·obtain ⟨x,t,e1,rfl⟩:=Hn rv _ v hv;obtain ⟨b1,b2⟩:=IE (fun i j=>decide (ns.getD i 0 < ns.getD j 0)) (fun i=>ns.getD i 0) (fun i j h=>by have:=of_decide_eq_true h; lia) (fun i j h=>by have:=of_decide_eq_false h; lia) (Aq.length - 1);refine ⟨.int x,H,I.kept k2,⟨t,rfl⟩,q x (XY e1) fun y hy=>?_⟩;obtain ⟨j,hj,rfl⟩:=Yq hy;have:=b2 j (by lia);have e2:ns.getD j 0=ns[j]:=by simp [hj]
  have e3:ns.getD (argBest (fun i j=>decide (ns.getD i 0 < ns.getD j 0)) (Aq.length - 1)) 0=x:=by
   rw [Yw,e1]; rfl
  rw [e2,e3] at this;exact this
def Md (ws:List AF) (ss:List Str) (y:Str) (d:Int):Prop:=(∃ s ∈ ss,B4 ws s y d)/\∀ s ∈ ss,∀ m,B4 ws s y m->d<=m
theorem Md.uniq {ws:List AF} {ss:List Str} {y:Str} {d e:Int} (h:Md ws ss y d) (g:Md ws ss y e):d=e:=by
 obtain ⟨⟨s,hs,h1⟩,h2⟩:=h;obtain ⟨⟨t,ht,g1⟩,g2⟩:=g;have a:=h2 t ht _ g1;have b:=g2 s hs _ h1;lia
theorem IH.md {ws:List AF} {ss:List Str} {y:Str} {p:Int × Str} (h:IH ws ss y p):Md ws ss y p.1:=
 ⟨⟨p.2,h.1.1,h.1.2⟩,fun s hs m g=>by
  rcases h.2 s hs m g with z | ⟨z,_⟩
  ·exact Int.le_of_lt z
  ·have:p.1=m:=z;lia⟩
def JQ (ws:List AF) (ss:List Str) (rs:List Cj) (ds:List Int):Prop:=ds.length=rs.length/\∀ (i:Nat) r d,rs[i]? = some r->ds[i]? = some d->Md ws ss r.1 d
theorem JQ.uniq {ws:List AF} {ss:List Str} {rs:List Cj} {ds es:List Int} (h:JQ ws ss rs ds) (g:JQ ws ss rs es):ds=es:=by
 refine Ze (by rw [h.1,g.1]) fun i i1 i2=>?_
 have hr:rs[i]? = some (rs[i]'(by rw [<-h.1]; exact i1)):=XO _;exact (h.2 i _ _ hr (XO i1)).uniq (g.2 i _ _ hr (XO i2))
def Ku (rs:List Cj) (ds:List Int):Int:=((rs.zip ds).map fun p=>p.1.2 * p.2).sum
def Cw (ws:List AF) (rs1 A2:List Cj) (ss:List Str) (t:Int):Prop:=∃ ds,JQ ws ss A2 ds/\t=(ss.map (Bc rs1)).sum + Ku A2 ds
theorem Cw.uniq {ws:List AF} {rs1 A2:List Cj} {ss:List Str} {t u:Int} (h:Cw ws rs1 A2 ss t) (g:Cw ws rs1 A2 ss u):t=u:=by
 obtain ⟨ds,a,rfl⟩:=h;obtain ⟨es,b,rfl⟩:=g;rw [a.uniq b]
theorem EC.ways {ws:List AF} {ss:List Str} {rs gs:_} (h:EC ws ss rs gs):JQ ws ss rs (gs.map (·.2.2)):=by
 refine ⟨by rw [XJ]; exact h.1,fun i r d e1 e2=>?_⟩;rw [Yd] at e2;cases z:gs[i]? with
 | none=>rw [z] at e2; cases e2
 | some g=>
  rw [z] at e2;cases e2
  exact (h.2 i r g e1 z).2.md
theorem LV {ws:List AF} {ss:List Str} {rs gs:_} (h:EC ws ss rs gs) (nd:(rs.map (·.1)).Nodup):Hg rs gs=Ku rs (gs.map (·.2.2)):=by
 unfold Hg Ku;congr 1;refine Ze (by rw [XJ,XJ,Zt,XJ,h.1,cA]) fun i i1 i2=>?_
 rw [XJ] at i1;have hr:rs[i]? = some (rs[i]'(by rw [<-h.1]; exact i1)):=XO _;have hg:gs[i]? = some gs[i]:=XO _;rw [YU,YU,aA,YU,(h.2 i _ _ hr hg).1,Dl nd (XY hr)]
theorem EC.total {ws:List AF} {ss:List Str} {rs1 rs gs:_} (h:EC ws ss rs gs) (nd:(rs.map (·.1)).Nodup):Cw ws rs1 rs ss ((ss.map (Bc rs1)).sum + Hg rs gs):=
 ⟨_,h.ways,by rw [LV h nd]⟩
def R0 (sites:List Str) (x:V) (ss:List Str):Prop:=ss ≠ []/\ss.Sublist sites/\C2 x ss.length=true
def R7 (H:Hp) (v:V) (xs:List Str) (ws:List AF) (s:Str):Prop:=∃ (B:Addr) (nb:List (Str × V)),v=.ref B/\H B=some (.dK (sK nb))/\nb.map (·.1)=xs/\∀ y u,(y,u) ∈ nb->∃ n,u=.int n/\Vg ws s y n
def Hx:Sp:=fun vs H Q _=>∃ (c m:Addr) (n:Nat) (xs:List Str) (ws:List AF) (rs1 A2:List Cj) (x:V) (d:PyData),vs=[.ref c]/\Ci H c m n xs ws rs1 A2 x d /\
 ∀ (H':Hp) (D:Addr) (nv:List (Str × V)),Au H H'->H D=none->H' D=some (.dK (sK nv))->nv.map (·.1)=rs1.map (·.1)->(∀ s v,(s,v) ∈ nv->R7 H' v xs ws s)->Q (.ref D) H'
def Qe:Sp:=fun vs H Q _=>∃ (c:Addr) (sites:List Str) (x:V) (d:PyData),vs=[.ref c]/\NV H c sites x d /\
 ∀ mo:Int,0<=mo->(∀ k:Nat,k<=sites.length->((k:Int)<=mo ↔ C2 x k=true))->Q (.int mo) H
def Gb:Sp:=fun vs H Q _=>∃ (c e m:Addr) (n:Nat) (xs:List Str) (ws:List AF) (rs1 A2:List Cj) (x:V) (d:PyData) (us:List V) (os:List (List Str)),vs=[.ref c,.ref e]/\Ci H c m n xs ws rs1 A2 x d /\
 H e=some (.lst us)/\Cs H us os/\os.Nodup/\(∀ ss ∈ os,LQ (rs1.map (·.1)) ss)/\os.length<=1024 /\
 ∀ (H':Hp) (D:Addr) (kvs:List (List A6 × V)),Au H H'->H D=none->H' D=some (.dT kvs)->kvs.map (·.1)=os.map (fun ss=>ss.map Sum.inr)->(∀ ss v,(ss.map Sum.inr,v) ∈ kvs->∃ t,v=.int t/\Cw ws rs1 A2 ss t)->Q (.ref D) H'
def GD (l:List Str) (mo:Int) (fs:List (List Str)):Prop:=fs.Nodup/\∀ ss,ss ∈ fs ↔ ss.Sublist l/\(ss.length:Int)<=mo
theorem GD.nil {mo:Int} (h:0<=mo):GD [] mo [[]]:=⟨by simp,fun ss=>by
 constructor
 ·intro z;rw [Yn] at z;subst z;exact ⟨List.Sublist.refl _,by simpa using h⟩
 ·rintro ⟨z,_⟩;rw [aB.mp z];simp⟩
theorem GD.step {a:Str} {l:List Str} {mo:Int} {fs:List (List Str)} (ha:a ∉ l) (h:GD l mo fs):GD (l ++ [a]) mo (fs ++ (fs.filter fun f=>decide ((f.length:Int) < mo)).map (· ++ [a])):=by
 refine ⟨YJ.mpr ⟨h.1,?_,?_⟩,fun ss=>?_⟩
 ·exact Zn.mpr ((h.1.sublist Zs).imp fun {x y} ne e=>ne (List.append_cancel_right e))
 ·rintro x hx y hy rfl;obtain ⟨g,hg,rfl⟩:=Yc.mp hy;exact ha (((h.2 _).mp hx).1.subset (by simp))
 ·rw [Yt,Yc,List.sublist_append_iff];constructor
  ·rintro (h1 | ⟨g,hg,rfl⟩)
   ·exact ⟨⟨ss,[],by simp,((h.2 _).mp h1).1,ZN _⟩,((h.2 _).mp h1).2⟩
   ·obtain ⟨g1,g2⟩:=Y3.mp hg;exact ⟨⟨g,[a],rfl,((h.2 _).mp g1).1,List.Sublist.refl _⟩,by have:=of_decide_eq_true g2; rw [XZ,YD]; lia⟩
  ·rintro ⟨⟨l1,l2,rfl,s1,s2⟩,le⟩;have:l2=[]\/l2=[a]:=by
    cases s2 with
    | cons _ s=>exact .inl (aB.mp s)
    | cons_cons _ s=>rw [aB.mp s]; exact .inr rfl
   rcases this with rfl | rfl
   ·rw [YN] at le ⊢;exact .inl ((h.2 _).mpr ⟨s1,le⟩)
   ·rw [XZ,YD] at le;exact .inr ⟨l1,Y3.mpr ⟨(h.2 _).mpr ⟨s1,by lia⟩,decide_eq_true (by lia)⟩,rfl⟩
theorem Ox {J:It} {xs:List V} {S:Hp->Prop} {g:TG} {tk tv:TE} {H:Hp} {σ0:St} {R:Addr->Hp->Prop} (ov:MH J xs S) (ks:List Str) (hk:ks.length=xs.length) (nd:ks.Nodup) (I:Addr->Nat->St->Hp->List (Str × V)->Prop) (big:xs.length < sizeLine)
  (h0:∀ D,H D=none->I D 0 σ0 (upd H D (.dK (sK []))) [])
  (hs:∀ D i σ H' nv,H D=none->I D i σ H' nv->S H'/\H' D=some (.dK (sK nv))/\nv.map (·.1)=ks.take i)
  (turn:∀ D i σ H' nv x k (B:St->V->V->Hp->Prop),H D=none->xs[i]? = some x->ks[i]? = some k->I D i σ H' nv->(∀ Ax v H6,H6 D=some (.dK (sK nv))->I D (i + 1) Ax (upd H6 D (.dK (sK (nv ++ [(k,v)])))) (nv ++ [(k,v)])->B Ax (.str k) v H6) ->
   g x σ H' fun Ax H3=>tk Ax H3 fun y H5=>tv Ax H5 fun v H6=>B Ax y v H6)
  (fin:∀ D σ H' nv,H D=none->I D xs.length σ H' nv->R D H') :
  ∀ D,H D=none->∃ W:Nat->Nat->St->Hp->Prop,(∃ m,W 0 m σ0 (upd H D (.dK []))) /\
   ∀ i m Ay H',W i m Ay H'->(J.stop i H'/\R D H')\/(J.go i H'/\∀ x H2,J.yld i H' x H2->g x Ay H2 fun Ax H3=>KI Ax H3 fun b H4=>
    if b=true then tk Ax H4 (fun y H5=>tv Ax H5 fun v H6=>∃ kvs k,y=kV k/\H6 D=some (.dK kvs)/\kvs.length < sizeLine/\∃ m',m' < m/\W (i + 1) m' Ax (upd H6 D (.dK (Bj kvs k v)))) else ∃ m',m' < m/\W (i + 1) m' Ax H4):=by
 intro D hD;refine ⟨fun i m σ H'=>m=xs.length - i/\i<=xs.length/\∃ nv,I D i σ H' nv,⟨xs.length,rfl,Y9 _,[],h0 D hD⟩,?_⟩;rintro i m σ H' ⟨rfl,hi,nv,p⟩;obtain ⟨s1,s2,s3⟩:=hs D i σ H' nv hD p;by_cases Bu:i < xs.length
 ·refine .inr ⟨ov.go i H' s1 Bu,fun x H2 y=>?_⟩;obtain ⟨rfl,ex⟩:=ov.yld i H' x H2 s1 y;have hki:i < ks.length:=by lia
  have ek:ks[i]? = some ks[i]:=XO hki;have nin:ks[i] ∉ nv.map (·.1):=by
   rw [s3];intro Pr;obtain ⟨j,hj,e⟩:=Yq Pr;rw [Y7] at hj;rw [Z0] at e;have:=FG nd (XO (show j < ks.length by lia)) (by rw [ek,e]);lia
  have nl:nv.length=i:=by
   have:=congrArg Zh s3;rw [XJ,Y7] at this;lia
  have e:∀ (F:St->V->V->Hp->Prop) (G:St->Hp->Prop),(fun (Ax:St) (H3:Hp)=>KI Ax H3 fun b H4=>if b=true then tk Ax H4 (fun y H5=>tv Ax H5 fun v H6=>F Ax y v H6) else G Ax H4)=fun Ax H3=>tk Ax H3 (fun y H5=>tv Ax H5 fun v H6=>F Ax y v H6):=by
   intro F G;funext Ax H3;show (if true=true then tk Ax H3 (fun y H5=>tv Ax H5 fun v H6=>F Ax y v H6) else G Ax H3)=_
   rw [if_pos rfl]
  rw [e (fun Ax y v H6=>∃ kvs k,y=kV k/\H6 D=some (.dK kvs)/\kvs.length < sizeLine/\∃ m',m' < xs.length - i/\(m'=xs.length - (i + 1)/\i + 1<=xs.length/\∃ DC,I D (i + 1) Ax (upd H6 D (.dK (Bj kvs k v))) DC)) (fun Ax H4=>∃ m',m' < xs.length - i/\(m'=xs.length - (i + 1)/\i + 1<=xs.length/\∃ DC,I D (i + 1) Ax H4 DC))];refine turn D i σ H2 nv x ks[i] _ hD ex ek p fun Ax v H6 d6 p6=>?_
  exact ⟨_,Sum.inr ks[i],rfl,d6,by rw [CJ]; lia,xs.length - (i + 1),by lia,rfl,Bu,nv ++ [(ks[i],v)],by rw [Dy nin]; exact p6⟩
 ·have e:i=xs.length:=by lia
  subst e;exact .inl ⟨ov.stop H' s1,fin D σ H' nv hD p⟩
theorem KA {α β:Type} {b:β}:∀ {as:List α} {bs:List β} {a:α},as[bs.length]? = some a->as.zip (bs ++ [b])=as.zip bs ++ [(a,b)]
 | [],bs,a,h=>by simp at h
 | x :: as,[],a,h=>by simp at h; subst h; simp
 | x :: as,y :: bs,a,h=>by
  have:=KA (as:=as) (bs:=bs) (b:=b) (a:=a) (by simpa using h);simp [this]
theorem N1 {a b:List Str} (h:a.map (Sum.inr:Str->A6)=b.map Sum.inr):a=b:=by
 induction a generalizing b with
 | nil=>cases b with | nil=>rfl | cons _ _=>cases h
 | cons x a ih=>
  cases b with
  | nil=>cases h
  | cons y b=>
   rw [Ym,Ym] at h;injection h with h1 h2;injection h1 with h1;rw [h1,ih h2]
theorem RU (ss:List Str):(ss.map (Sum.inr:Str->A6)).map kV=ss.map V.str:=by rw [Y2]; rfl
theorem KG {κ:Type} [DecidableEq κ] {kvs:List (κ × V)} {k:κ} (h:k ∉ kvs.map (·.1)):Bq kvs k=none:=by
 cases e:Bq kvs k with
 | none=>rfl
 | some v=>exact absurd (RL e) h
theorem Fz {κ:Type} [DecidableEq κ] {k:κ} {v:V}:∀ {kvs:List (κ × V)} {q:Nat},(kvs.map (·.1)).Nodup->kvs[q]? = some (k,v)->Bq kvs k=some v
 | [],q,_,e=>by simp at e
 | p :: kvs,0,_,e=>by
  simp at e;subst e;exact D8 rfl
 | p :: kvs,q + 1,nd,e=>by
  rw [Ym] at nd;obtain ⟨n1,n2⟩:=YC.mp nd;have e':kvs[q]? = some (k,v):=by simpa using e
  rw [CZ (fun z=>n1 (by rw [z]; exact Yc.mpr ⟨_,XY e',rfl⟩))];exact Fz n2 e'
theorem Qx {n:Nat} {g:TG} {te:TE} {H:Hp} {σ0:St} {R:Addr->Hp->Prop} (I:Addr->Nat->St->Hp->List V->Prop) (big:n < sizeLine)
  (h0:∀ D,H D=none->I D 0 σ0 (upd H D (.lst [])) [])
  (hs:∀ D i σ H' acc,H D=none->I D i σ H' acc->H' D=some (.lst acc)/\acc.length=i)
  (turn:∀ D i σ H' acc (B:St->V->Hp->Prop),H D=none->i < n->I D i σ H' acc->(∀ Ax v H5,H5 D=some (.lst acc)->I D (i + 1) Ax (upd H5 D (.lst (acc ++ [v]))) (acc ++ [v])->B Ax v H5)->g (.int (0 + (i:Int))) σ H' fun Ax H3=>te Ax H3 (B Ax))
  (fin:∀ D σ H' acc,H D=none->I D n σ H' acc->R D H') :
  ∀ D,H D=none->∃ W:Nat->Nat->St->Hp->Prop,(∃ m,W 0 m σ0 (upd H D (.lst []))) /\
   ∀ i m Ay H',W i m Ay H'->((RH 0 n).stop i H'/\R D H')\/((RH 0 n).go i H'/\∀ x H2,(RH 0 n).yld i H' x H2->g x Ay H2 fun Ax H3=>KI Ax H3 fun b H4=>
    if b=true then te Ax H4 (fun v H5=>∃ acc,H5 D=some (.lst acc)/\acc.length < sizeLine/\∃ m',m' < m/\W (i + 1) m' Ax (upd H5 D (.lst (acc ++ [v])))) else ∃ m',m' < m/\W (i + 1) m' Ax H4):=by
 intro D hD;refine ⟨fun i m σ H'=>m=n - i/\i<=n/\∃ acc,I D i σ H' acc,⟨n,rfl,Y9 _,[],h0 D hD⟩,?_⟩;rintro i m σ H' ⟨rfl,hi,acc,p⟩;obtain ⟨s2,s3⟩:=hs D i σ H' acc hD p;by_cases Bu:i < n
 ·refine .inr ⟨Bu,fun x H2 ⟨e1,e2⟩=>?_⟩;subst e1 e2;have e:∀ (F:St->V->Hp->Prop) (G:St->Hp->Prop),(fun (Ax:St) (H3:Hp)=>KI Ax H3 fun b H4=>if b=true then te Ax H4 (F Ax) else G Ax H4)=fun Ax H3=>te Ax H3 (F Ax):=by
   intro F G;funext Ax H3;show (if true=true then te Ax H3 (F Ax) else G Ax H3)=_
   rw [if_pos rfl]
  rw [e (fun Ax v H5=>∃ acc,H5 D=some (.lst acc)/\acc.length < sizeLine/\∃ m',m' < n - i/\(m'=n - (i + 1)/\i + 1<=n/\∃ IF,I D (i + 1) Ax (upd H5 D (.lst (acc ++ [v]))) IF)) (fun Ax H4=>∃ m',m' < n - i/\(m'=n - (i + 1)/\i + 1<=n/\∃ IF,I D (i + 1) Ax H4 IF))];refine turn D i σ H2 acc _ hD Bu p fun Ax v H5 d5 p5=>?_
  exact ⟨acc,d5,by lia,n - (i + 1),by lia,rfl,Bu,_,p5⟩
 ·have e:i=n:=by lia
  subst e;exact .inl ⟨Ya _,fin D σ H' acc hD p⟩
theorem Ju {z:Str} (l u:Option Int) (h:SX z):SX (Txt.slice z l u):=by
 unfold Txt.slice;split
 ·exact h
 ·intro c hc;have Hq:c ∈ (Builtin.Str.strSliceIndices l u 1 z.length).filterMap (z.cps[·]?):=by simpa using hc
  obtain ⟨i,_,e⟩:=ah.mp Hq;exact h c (by rw [aX]; exact aU e)
theorem Qn {z:Str} {a:Int} (h0:0<=a) (h1:a<=z.length):(Txt.slice z none (some a)).length<=a.toNat:=by
 have e:(Builtin.Str.strSliceIndices none (some a) 1 z.length).length=a.toNat:=by
  unfold Builtin.Str.strSliceIndices sliceRange;simp only [show (1:Int) > 0 by decide,if_true,XJ,Zz];(split <;> (try split) <;> (try split) <;> (try simp only [aY]) <;> lia)
 unfold Txt.slice;split
 ·rename_i q
  rw [e] at q;have:a.toNat=z.length:=by simpa using q
  lia
 ·show (bX _ (Builtin.Str.strSliceIndices none (some a) 1 z.length)).toArray.size<=_
  rw [Yp,<-e];exact aP _ _
theorem Me {z:Str} {a:Int} (h0:0<=a) (h1:a<=z.length):(Txt.slice z (some a) none).length<=z.length - a.toNat:=by
 have e:(Builtin.Str.strSliceIndices (some a) none 1 z.length).length=z.length - a.toNat:=by
  unfold Builtin.Str.strSliceIndices sliceRange;simp only [show (1:Int) > 0 by decide,if_true,XJ,Zz];(split <;> (try split) <;> (try split) <;> (try simp only [aY]) <;> lia)
 unfold Txt.slice;split
 ·rename_i q
  rw [e] at q;have:z.length - a.toNat=z.length:=by simpa using q
  lia
 ·show (bX _ (Builtin.Str.strSliceIndices (some a) none 1 z.length)).toArray.size<=_
  rw [Yp,<-e];exact aP _ _
theorem QK {X:Cx}:EN X (binaryOp .Mult) (fun x y H Q=>∃ z n,x=.str z/\y=.int n/\(n=0\/n=1)/\Q (.str (if n=1 then z else Str.empty)) H):=by
 intro pins s σ H x y v u Q I rx ry h;obtain ⟨z,n,rfl,rfl,hn,q⟩:=h;obtain ⟨t,rfl⟩:=rx;obtain ⟨t',rfl⟩:=ry;rcases hn with rfl | rfl
 ·exact PySem.P.mul_str_none (by decide) (by decide) ⟨.str Str.empty,H,I.tok _,⟨_,rfl⟩,q⟩
 ·refine PySem.P.mul_str (by decide) (fun _ z=>by simp at z) (fun _ z=>by simp at z) ?_;rw [if_neg (by decide),if_pos (by simp)];exact ⟨.str z,H,I,⟨_,rfl⟩,q⟩
theorem RV (K:XU) {X:Cx} (h:X.K=K):SlR X (rSlT K):=by subst h; exact TZ
section
variable {prog:Program} {w:World} {A:Around} {E:Value->Shared->Prop} {s:Shared}
theorem M6 {l:Addr} {vs:List Value} {Q:List Value->Shared->Prop} (hl:s.heap.IsTuple l vs.toArray) (few:vs.toArray.size<=sizeLine)
  (h:∀ h1:Heap,s.heap.objs.size<=h1.objs.size->(∀ b o,s.heap.get? b=some o->h1.get? b=some o)->Q vs { s with heap:=h1 }):wpAny (model prog w) A (collect (.ref l)) Q E s:=by
 obtain ⟨o,ho,hc,n,hd⟩:=hl;obtain ⟨g,eg⟩:∃ g,g=(s.heap.push { cls:=.type "list",data:=.seq ([]:List Value).toArray }).update s.heap.objs.size (Obj.mapSeq (· ++ vs.toArray)):=⟨_,rfl⟩
 have gS:=YH (Obj.mapSeq (· ++ vs.toArray)) (Yf s.heap (o:={ cls:=.type "list",data:=.seq ([]:List Value).toArray }) rfl) rfl;rw [<-eg] at gS;have last:=h g (by rw [eg,aD,YE]; exact Y8 _) fun b o' hb=>by
  rw [eg];exact (YG _ _ (YL (Ye hb))).trans (XQ _ hb)
 unfold collect;refine wpAny_bind (wpAny_runValue (codeAny_builtin PySem.F.entry_proto_collect ?_));rw [Around.under_plainId PySem.F.plain_proto_collect _];refine wpAny_bind (wpAny_newObj_type (wpAny_pure ⟨plainId_quiet PySem.F.plain_list_iadd _,codeAny_builtin PySem.F.entry_list_iadd ?_⟩));rw [Around.under_plainId PySem.F.plain_list_iadd _];have fin:∀ s':Shared,s' = { s with heap:=g }->wpAny (model prog w) A (match Value.ref s.heap.objs.size with
   | Value.ref a=>do
    match (<- load a).data with
     | Data.seq xs _=>pure xs.toList
     | _=>unsupported "internal:collect"
   | _=>unsupported "internal:collect") Q E s':=by
  rintro s' rfl;refine wpAny_bind (wpAny_load gS (wpAny_pure ?_));simpa using last
 refine wpAny_mono (wpAny_extend_seq (hsz:=few) (A:=A) (R:=fun r s'=>r=.ok (.ret (.ref s.heap.objs.size))/\s' = { s with heap:=g }) (s:={ s with heap:=s.heap.push { cls:=.type "list",data:=.seq ([]:List Value).toArray } }) _ l _ 0 (.inr rfl) (Yf _ rfl) (XQ _ ho) hc hd ⟨rfl,by rw [eg]⟩) (fun r s' q=>?_) (fun e s' q=>absurd q.1 (by simp));cases r with
 | done f=>
  obtain ⟨e,q⟩:=q;cases e
  exact fin s' q
 | again c=>exact ⟨q.1,codeAny_mono q.2 fun r Uh z=>by obtain ⟨rfl,z⟩:=z; exact fin Uh z⟩
theorem KY {l:Addr} {vs:List Value} {ss:List Str} {Q:Value->Shared->Prop} (hl:s.heap.IsTuple l vs.toArray) (hS:StrsAre vs ss) (IK:vs.length < 64)
  (h:∀ (h':Heap) (a:Addr) (out:Array Value) (Ck:List Str) (e:Nat),s.heap.objs.size<=a->(∀ b o,s.heap.get? b=some o->h'.get? b=some o)->h'.get? a=some (seqObj "list" out e)->StrsAre out.toList Ck->Ck.Perm ss->sortedS Ck=true->Q (.ref a) { s with heap:=h' }) :
  wpAny (model prog w) A (call (.builtin "sorted") [.ref l]) Q E s:=by
 have few:vs.toArray.size<=sizeLine:=by rw [Yp,sizeLine_eq]; lia
 refine Calls.call_function_entry kind_sorted plain_sorted entry_sorted (args_sorted1 _) ?_;unfold Builtin.«sorted»;refine wpAny_bind (m:=checkCount "sorted" 1 1 _) (wpAny_pure (wpAny_bind (M6 hl few fun h1 sz k1=>?_)));refine wpAny_bind (wpAny_newList ?_ (by simpa using few));have lies:(h1.push (seqObj "list" vs.toArray 0)).get? h1.objs.size=some (seqObj "list" vs.toArray 0):=Yf _ rfl;refine wpAny_bind (wpAny_holding (wpAny_call_entry slot_list_sort ⟨_,lies,rfl⟩ entry_list_sort (list_sort_treeK (s:={ s with heap:=h1.push (seqObj "list" vs.toArray 0) }) strKind_oneLt lies hS.keysOf (fun WB WA Cu e=>keyKind_strs (by rw [<-e]; exact hS)) IK fun AH hp hs=>⟨_,rfl,wpAny_pure ⟨_,rfl,?_⟩⟩) (args_list_sort _)));obtain ⟨Ck,q1,q2,q3⟩:=sorted_out_str hS hp hs;obtain ⟨e,he⟩:=sortedHeap_at (out:=(arrOf AH).map (·.2)) lies;refine h _ h1.objs.size _ Ck e sz (fun b o z=>?_) he q1 q2 q3;have hb:=k1 b o z;rw [sortedHeap_old (Yh (Ye hb)) (by rw [YE]; exact Yy (Ye hb))];exact XQ _ hb
end
theorem J7 (a b:Str):BJ a b=BJ b a:=by
 unfold BJ;split
 ·rename_i h
  rw [if_neg (fun z=>ZJ h z)]
 ·rename_i h
  split
  ·rfl
  ·rename_i h'
   exact CB h h'
theorem J8 (a b:Str):BK a b=BK b a:=by
 unfold BK;split
 ·rename_i h
  rw [if_neg (fun z=>ZJ h z)]
 ·rename_i h
  split
  ·rfl
  ·rename_i h'
   exact (CB h h').symm
theorem AG (K:XU) {X:Cx} (h:X.K=K):Bg X (.type "tuple") (fun xs H Q=>∃ p ys,xs=[.ref p]/\((AM K H p ys/\∀ l,H l=none->Q (.ref l) (upd H l (.tup ys)))\/(AE K H p ys/\Q (.ref p) H))):=by subst h; exact Jd
end L2
namespace L2
open PySem PySem.Spec PySem.W PyProof.Rows
theorem Dw (K:XU) {X:Cx} (h:X.K=K):Bg X (.builtin "sorted") (fun xs H Q=>∃ (a:Addr) (ss:List Str),xs=[.ref a]/\AM K H a (ss.map V.str)/\ss.length < 64 /\
  ∀ (l:Addr) (Ck:List Str),H l=none->Ck.Perm ss->sortedS Ck=true->Q (.ref l) (upd H l (.lst (Ck.map V.str)))):=by subst h; exact BP
section
variable {prog:Program} {w:World} {A:Around} {E:Value->Shared->Prop} {s:Shared} {κ:SortKind} {lt:Keyed->Keyed->Bool} {a0:Array Keyed}
theorem FH {n:Nat} (h1:1<=n) (IK:n < 64):(sortPriv% PySem.Builtin.minRun) n n 0=n:=by
 obtain ⟨f,hf⟩:∃ f,n=f + 1:=⟨n - 1,by lia⟩
 have:minRun' (f + 1) n 0=n:=by rw [minRun'_succ,if_pos IK]; rfl
 rw [<-hf] at this;exact this
theorem Hs {st:SortSt} {Q:Unit->SortSt->Prop} (sw:NQ lt) (an:Tf prog w A s κ lt a0) (hk:kindOf st=κ) (ha:arrOf st=a0) (hf:failedOf st=none) (hpe:pendingOf st=#[]) (h2:1<=a0.size) (IK:a0.size < 64)
  (h:∀ AH,(arrOf AH).Perm a0->failedOf AH=none->(arrOf AH).toList.Pairwise (Nl lt)->Q () AH):wpS (model prog w) A E s sortRuns' Q st:=by
 have hp:(arrOf st).Perm a0:=by rw [ha]
 refine wpS_bind (wpS_get ?_);dsimp only;have ez:((sortPriv% PySem.Builtin.SortState.a) st).size=a0.size:=by rw [show (sortPriv% PySem.Builtin.SortState.a) st=a0 from ha]
 rw [ez];refine wpS_bind (wpS_mono (wpS_forRange (I:=fun x c AH=>(x=0/\c=(none,0)/\AH=st)\/(1<=x/\c=(none,a0.size)/\(arrOf AH).Perm a0/\failedOf AH=none/\(pendingOf AH).size<=1/\SS lt (arrOf AH) 0 a0.size))
  (Q:=fun c AH=>c=(none,a0.size)/\(arrOf AH).Perm a0/\failedOf AH=none/\(pendingOf AH).size<=1/\SS lt (arrOf AH) 0 a0.size) ?step ?fin (.inl ⟨rfl,rfl,rfl⟩)) ?post)
 case fin=>
  rintro c AH (⟨hx,_,_⟩ | ⟨_,r⟩)
  ·lia
  ·exact r
 case step=>
  rintro x c AH _ hx (⟨rfl,rfl,rfl⟩ | ⟨_,rfl,r⟩)
  ·dsimp only;rw [if_neg (by lia)];refine wpS_bind (IM sw an hk hp (by lia) (by lia) fun m ys k1 m1 m2 s1=>?_);dsimp only;have hpd:∀ zs,(pendingOf (setArr AH zs)).back? = none:=fun zs=>by
    show (pendingOf AH).back? = none
    rw [hpe];rfl
   by_cases hm:m < (sortPriv% PySem.Builtin.minRun) a0.size a0.size 0
   ·rw [if_pos hm];refine wpS_bind (wpS_lift (wpAny_rule ⟨rfl,?_⟩));refine wpS_bind (GJ (st:=setArr AH ys) sw an hk (k1.1.trans hp) (by lia) m1 (by lia) s1 fun zs k2 s2=>?_);simp only [cq,Y1,if_false];refine wpS_bind (wpS_get ?_);rw [hpd];dsimp only;have emin:min (a0.size - 0) ((sortPriv% PySem.Builtin.minRun) a0.size a0.size 0)=a0.size:=by rw [FH h2 IK]; lia
    rw [emin];exact wpS_bind (wpS_modify (wpS_pure (.inr ⟨by lia,by rw [Zr],k2.1.trans (k1.1.trans hp),hf,by show ((pendingOf AH).push _).size<=1; rw [hpe]; exact Ya 1 ,by rw [emin,Zr] at s2; exact s2⟩)))
   ·rw [if_neg hm];rw [FH h2 IK] at hm;have em:m=a0.size:=by lia
    refine wpS_bind (wpS_get ?_);rw [hpd];dsimp only;rw [em];exact wpS_bind (wpS_modify (wpS_pure (.inr ⟨by lia,by rw [Zr],k1.1.trans hp,hf,by show ((pendingOf AH).push _).size<=1; rw [hpe]; exact Ya 1 ,by rw [em,Zr] at s1; exact s1⟩)))
  ·dsimp only;rw [if_pos (Ya _)];exact wpS_pure ⟨rfl,r⟩
 case post=>
  rintro c AH ⟨rfl,r1,r2,r3 ,r4⟩;dsimp only;refine wpS_bind (wpS_mono (wpS_forRange (I:=fun _ c GK=>GK=AH/\c=(none,())) (Q:=fun c GK=>GK=AH/\c=(none,())) ?_ (fun _ _ hh=>hh) ⟨rfl,rfl⟩) ?_)
  ·rintro x c GK _ _ ⟨rfl,rfl⟩;refine wpS_bind (wpS_get ?_);rw [if_pos r3];exact wpS_pure ⟨rfl,rfl⟩
  ·rintro c GK ⟨rfl,rfl⟩;exact wpS_pure (h _ r1 r2 (T7 fun i j hij hj=>r4 i j (Y9 _) (ZQ hij) (by have:=r1.size_eq; lia)))
theorem Fj {a:Addr} {vs:List Value} {n:Nat} {P:Fin->Shared->Prop} (sw:NQ lt) (lies:s.heap.get? a=some (seqObj "list" vs.toArray n)) (few:vs.length<=sizeLine) (IK:vs.length < 64)
  (cm:2<=vs.length->∀ h',(∀ b o,b ≠ a->s.heap.get? b=some o->h'.get? b=some o) ->
   ∃ κ,(∀ (Q:SortKind->Shared->Prop) (E:Value->Shared->Prop),Q κ { s with heap:=h' }->wpAny (model prog w) A (keyKind' vs.toArray) Q E { s with heap:=h' })/\Tf prog w A { s with heap:=h' } κ lt (pairsOf vs))
  (k:∀ out:List Value,out.Perm vs->out.Pairwise (fun u v=>lt (v,v) (u,u)=false)->P (.done (.ret .none)) { s with heap:=sortedHeap s.heap a vs out.toArray }) :
  wpAny (model prog w) A (Builtin.«list.sort» ⟨[.ref a],[]⟩) P E s:=by
 have alt:=Ye lies;rw [list_sort_plain];refine wpAny_bind (listItems_at lies rfl (wpAny_bind (listUpdate_at lies rfl ?_ (by simpa using few) (Y9 _))));obtain ⟨c,Tv⟩:∃ c,(s.heap.update a (Obj.mapSeq fun _=>#[])).get? a=some (seqObj "list" #[] c):=⟨_,get?_update_seq lies (fun _=>#[])⟩
 refine wpAny_bind (seqEpoch_at Tv rfl (wpAny_bind (wpAny_newTuple (wpAny_bind (wpAny_newList (wpAny_holding ?_) (Y9 _))) (by simpa using few))));obtain ⟨h3,W4⟩:∃ h3,h3=((s.heap.update a (Obj.mapSeq fun _=>(#[]:Array Value))).push (seqObj "tuple" vs.toArray 0)).push (seqObj "list" #[] 0):=⟨_,rfl⟩
 have Nt:h3.get? a=some (seqObj "list" #[] c):=by
  rw [W4];exact XQ _ (XQ _ Tv)
 have V1:∀ b o,b ≠ a->s.heap.get? b=some o->h3.get? b=some o:=fun b o hb e=>by
  rw [W4];exact XQ _ (XQ _ ((ae _ _ _ _ hb).trans e))
 show wpAny (model prog w) A _ P E { s with heap:=((s.heap.update a (Obj.mapSeq fun _=>(#[]:Array Value))).push (seqObj "tuple" vs.toArray 0)).push (seqObj "list" #[] 0) }
 rw [<-W4];have last:∀ AH:SortSt,(arrOf AH).Perm (pairsOf vs)->(arrOf AH).toList.Pairwise (Nl lt)->P (.done (.ret .none)) { s with heap:=h3.update a (Obj.mapSeq fun _=>(arrOf AH).map (·.2)) }:=fun AH hp hs=>by
  have e:(arrOf AH).map (·.2)=((arrOf AH).toList.map (·.2)).toArray:=by apply ax.mp; simp
  have q:=k _ (QJ hp) (QI hp hs);rw [<-e] at q;rw [W4];exact q
 have zl:∀ AH:SortSt,(arrOf AH).Perm (pairsOf vs)->((arrOf AH).map (·.2)).size<=sizeLine + 1:=fun AH hp=>by
  rw [Array.size_map,hp.size_eq,pairsOf_size];lia
 have zv:vs.toArray.size=vs.length:=rfl;dsimp only;rcases ZP vs.toArray.size 2 with lo | hi
 ·rw [if_pos lo,if_pos lo];refine wpAny_bind (wpAny_pure ?_);rw [StateT.run_pure];refine wpAny_bind (wpAny_pure (wpAny_bind (seqEpoch_at Nt rfl ?_)));have p0:(arrOf (SortSt.mk' general' (vs.toArray.zip vs.toArray) #[] 7 none)).Perm (pairsOf vs):=Array.Perm.refl _;refine wpAny_bind (listUpdate_at Nt rfl ?_ (Y9 _) (zl _ p0));rw [bne_self_eq_false];refine wpAny_pure (last _ p0 (T7 fun i j hij hj=>?_));have:=p0.size_eq;rw [pairsOf_size] at this;have IZ:j < (arrOf (SortSt.mk' general' (vs.toArray.zip vs.toArray) #[] 7 none)).size:=hj;lia
 ·rw [if_neg (by lia),if_neg (by lia)];obtain ⟨κ,k1,k2⟩:=cm (by lia) h3 V1;refine wpAny_bind (k1 _ _ ?_);refine wpAny_bind (wpAny_mono (Hs (a0:=pairsOf vs) (st:=SortSt.mk' κ (vs.toArray.zip vs.toArray) #[] 7 none)
   (Q:=fun _ AH=>(arrOf AH).Perm (pairsOf vs)/\failedOf AH=none/\(arrOf AH).toList.Pairwise (Nl lt)) sw k2 rfl rfl rfl rfl (by rw [pairsOf_size]; lia) (by rw [pairsOf_size]; lia) fun AH a1 a2 a3=>⟨a1,a2,a3⟩) ?_ fun _ _ e=>e)
  rintro ⟨u,AH⟩ s' ⟨rfl,hp,hf,hs⟩;refine wpAny_bind (seqEpoch_at Nt rfl (wpAny_bind (listUpdate_at Nt rfl ?_ (Y9 _) (zl _ hp))));dsimp only;rw [hf,bne_self_eq_false];exact wpAny_pure (last AH hp hs)
theorem Qm {l:Addr} {vs:List Value} {Q:Value->Shared->Prop} (sw:NQ lt) (hl:s.heap.IsList l vs.toArray) (few:vs.length<=sizeLine) (IK:vs.length < 64) (cm:Cmpd prog w s lt vs)
  (k:∀ out:List Value,out.Perm vs->out.Pairwise (fun u v=>lt (v,v) (u,u)=false)->Q (.ref (s.heap.objs.size + 1)) { s with heap:=sortedAll s.heap vs out.toArray }) :
  wpAny (model prog w) A (call (.builtin "sorted") [.ref l]) Q E s:=by
 refine Calls.call_function_entry kind_sorted plain_sorted entry_sorted (args_sorted1 _) ?_;unfold Builtin.«sorted»;refine wpAny_bind (m:=checkCount "sorted" 1 1 _) (wpAny_pure (wpAny_bind (collect_list hl ?_ few)));refine wpAny_bind (wpAny_newList ?_ (by simpa using few));obtain ⟨h1,SI⟩:∃ h1,h1=(s.heap.push (seqObj "list" #[] 0)).update s.heap.objs.size (Obj.mapSeq (· ++ vs.toArray)):=⟨_,rfl⟩
 have z1:h1.objs.size=s.heap.objs.size + 1:=by rw [SI,aD,size_push']
 have lies:(h1.push (seqObj "list" vs.toArray 0)).get? (s.heap.objs.size + 1)=some (seqObj "list" vs.toArray 0):=by
  rw [<-z1];exact Yf _ rfl
 have keep:∀ b o,s.heap.get? b=some o->(h1.push (seqObj "list" vs.toArray 0)).get? b=some o:=fun b o q=>by
  have hb:=Ye q;refine XQ _ ?_;rw [SI,ae _ _ _ _ (Yh hb)];exact XQ _ q
 show wpAny _ _ _ _ _ { s with heap:=((s.heap.push (seqObj "list" #[] 0)).update s.heap.objs.size (Obj.mapSeq (· ++ vs.toArray))).push (seqObj "list" vs.toArray 0) }
 rw [<-SI,z1];refine wpAny_bind (wpAny_holding (wpAny_call_entry slot_list_sort ⟨_,lies,rfl⟩ entry_list_sort (Fj (s:={ s with heap:=h1.push (seqObj "list" vs.toArray 0) }) sw lies few IK ?_ fun out o1 o2=>⟨_,rfl,wpAny_pure ⟨_,rfl,?_⟩⟩) (args_list_sort _)))
 ·intro h2 h' kp;exact cm h2 _ h' fun b o e=>kp b o (Yh (Yy (Ye e))) (keep b o e)
 ·have q:=k out o1 o2;unfold sortedAll at q;rw [<-SI] at q;exact q
end
theorem Fs {X:Cx}:Bg X (.builtin "sorted") (fun xs H Q=>∃ (a:Addr) (vs:List V) (kd:Nat->Bool),xs=[.ref a]/\AM X.K H a vs/\(∀ v ∈ vs,MD H kd v)/\vs.length < 64 /\
  ∀ (l:Addr) (Jk:List V),H l=none->Jk.Perm vs->Jk.Pairwise (fun u v=>AA (QV H v) (QV H u)=false)->Q (.ref l) (upd H l (.lst Jk))):=by
 intro pins s σ H xs us Q I r h;obtain ⟨a,vs,kd,rfl,ha,hk,IK,q⟩:=h;obtain ⟨u,rfl,ru⟩:=BR r;cases ru
 obtain ⟨Aq,rv,pl,hz⟩:=I.list ha;have all:∀ {vs:List V} {Aq:List Value},Az vs Aq->(∀ v ∈ vs,MD H kd v)->(∀ u ∈ Aq,LN s.heap kd u)/\Aq.map (CK s.heap)=vs.map (QV H):=by
  intro vs;induction vs with
  | nil=>intro Aq rv _; cases rv; exact ⟨(fun u hu=>nomatch hu),rfl⟩
  | cons v vs ih=>
   intro Aq rv hk;cases rv with
   | cons r1 r2=>
    obtain ⟨a1,a2⟩:=PQ I r1 (hk v Ys);obtain ⟨b1,b2⟩:=ih r2 fun v hv=>hk v (Yr _ hv)
    refine ⟨fun u hu=>?_,by rw [Ym,Ym,a2,b2]⟩;rcases XX.mp hu with rfl | hu
    ·exact a1
    ·exact b1 u hu
 refine Qm (Kw (CK s.heap)) pl.isList (by rw [<-rv.length]; exact hz) (by rw [<-rv.length]; exact IK) (Jq (all rv hk).1) fun out o1 o2=>?_
 obtain ⟨Jk,UX,pv⟩:=Jn o1 rv;have keys:=(all UX fun v hv=>hk v (pv.mem_iff.mp hv)).2;obtain ⟨e,he⟩:=sortedAll_at s.heap Aq out.toArray;refine ⟨.ref (s.heap.objs.size + 1),_,I.laid (o:=.lst Jk) (t':=s.toks) (fun b o z=>sortedAll_old z) (Y8 _) ⟨by rw [pv.length_eq]; exact hz,out,e,UX,he⟩,rfl,q _ Jk (I.hok.fresh (Y8 _)) pv ?_⟩;have p1:(out.map (CK s.heap)).Pairwise (fun a b=>AA b a=false):=Zn.mpr o2;rw [keys] at p1;exact Zn.mp p1
theorem ES (K:XU) {X:Cx} (h:X.K=K):Bg X (.builtin "sorted") (fun xs H Q=>∃ (a:Addr) (vs:List V) (kd:Nat->Bool),xs=[.ref a]/\AM K H a vs/\(∀ v ∈ vs,MD H kd v)/\vs.length < 64 /\
  ∀ (l:Addr) (Jk:List V),H l=none->Jk.Perm vs->Q (.ref l) (upd H l (.lst Jk))):=by
 subst h;intro pins s σ H xs us Q I r h;obtain ⟨a,vs,kd,rfl,ha,hk,IK,q⟩:=h;exact Fs (pins:=pins) s σ H _ us Q I r ⟨a,vs,kd,rfl,ha,hk,IK,fun l Jk hl pv _=>q l Jk hl pv⟩
end L2
namespace L2
open PySem PySem.Spec PyProof.Rows
open PySem.W
section
variable {prog:Program} {w:World} {A:Around} {E:Value->Shared->Prop} {s:Shared} {κ:SortKind} {lt:Keyed->Keyed->Bool} {a0:Array Keyed}
theorem Ql {l:Addr} {vs:List Value} {Q:Value->Shared->Prop} (sw:NQ lt) (hl:s.heap.IsList l vs.toArray) (few:vs.length<=sizeLine) (IK:vs.length < 64) (cm:2<=vs.length->∀ h':Heap,(∀ b o,s.heap.get? b=some o->h'.get? b=some o)->∃ κ,(∀ (Q:SortKind->Shared->Prop) (E:Value->Shared->Prop),Q κ { s with heap:=h' }->wpAny (model prog w) A.in1.in1 (keyKind' vs.toArray) Q E { s with heap:=h' })/\Tf prog w A.in1.in1 { s with heap:=h' } κ lt (pairsOf vs))
  (k:∀ out:List Value,out.Perm vs->out.Pairwise (fun u v=>lt (v,v) (u,u)=false)->Q (.ref (s.heap.objs.size + 1)) { s with heap:=sortedAll s.heap vs out.toArray }) :
  wpAny (model prog w) A (call (.builtin "sorted") [.ref l]) Q E s:=by
 refine Calls.call_function_entry kind_sorted plain_sorted entry_sorted (args_sorted1 _) ?_;unfold Builtin.«sorted»;refine wpAny_bind (m:=checkCount "sorted" 1 1 _) (wpAny_pure (wpAny_bind (collect_list hl ?_ few)));refine wpAny_bind (wpAny_newList ?_ (by simpa using few));obtain ⟨h1,SI⟩:∃ h1,h1=(s.heap.push (seqObj "list" #[] 0)).update s.heap.objs.size (Obj.mapSeq (· ++ vs.toArray)):=⟨_,rfl⟩
 have z1:h1.objs.size=s.heap.objs.size + 1:=by rw [SI,aD,size_push']
 have lies:(h1.push (seqObj "list" vs.toArray 0)).get? (s.heap.objs.size + 1)=some (seqObj "list" vs.toArray 0):=by
  rw [<-z1];exact Yf _ rfl
 have keep:∀ b o,s.heap.get? b=some o->(h1.push (seqObj "list" vs.toArray 0)).get? b=some o:=fun b o q=>by
  have hb:=Ye q;refine XQ _ ?_;rw [SI,ae _ _ _ _ (Yh hb)];exact XQ _ q
 show wpAny _ _ _ _ _ { s with heap:=((s.heap.push (seqObj "list" #[] 0)).update s.heap.objs.size (Obj.mapSeq (· ++ vs.toArray))).push (seqObj "list" vs.toArray 0) }
 rw [<-SI,z1];refine wpAny_bind (wpAny_holding (wpAny_call_entry slot_list_sort ⟨_,lies,rfl⟩ entry_list_sort (Fj (s:={ s with heap:=h1.push (seqObj "list" vs.toArray 0) }) sw lies few IK ?_ fun out o1 o2=>⟨_,rfl,wpAny_pure ⟨_,rfl,?_⟩⟩) (args_list_sort _)))
 ·intro h2 h' kp;exact cm h2 h' fun b o e=>kp b o (Yh (Yy (Ye e))) (keep b o e)
 ·have q:=k out o1 o2;unfold sortedAll at q;rw [<-SI] at q;exact q
end
def PxH (H:Hp) (v:V) (k:List Str):Prop:=∃ t e y,v=.ref t/\H t=some (.tup [.ref e,y])/\H e=some (.tup (k.map V.str))/\((∃ n,y=.int n)\/∃ (l:Addr) (ss:List Str),y=.ref l/\H l=some (.tup (ss.map V.str)))
def FW (h:Heap) (v:Value) (k:List Str):Prop:=∃ t e y,v=.ref t/\IsTup h t #[.ref e,y]/\FV h (.ref e) k/\((∃ n tk,y=.int n tk)\/∃ ss,FV h y ss)
theorem FW.keep {h h':Heap} {v:Value} {k:List Str} (x:FW h v k) (kp:∀ b o,h.get? b=some o->h'.get? b=some o):FW h' v k:=by
 obtain ⟨t,e,y,rfl,a,b,c⟩:=x;refine ⟨t,e,y,rfl,?_,b.keep kp,c.imp id fun ⟨ss,z⟩=>⟨ss,z.keep kp⟩⟩;obtain ⟨o,h1,r⟩:=a;exact ⟨o,kp _ _ h1,r⟩
theorem PxH.at {X:Cx} {pins:List (Addr × Obj)} {σ:St} {H:Hp} {s:Shared} {v:V} {u:Value} {k:List Str} (I:Ao X pins σ H s) (r:A1 v u) (h:PxH H v k):FW s.heap u k:=by
 obtain ⟨t,e,y,rfl,ht,he,hy⟩:=h;cases r
 obtain ⟨Aq,rv,pl,hz⟩:=I.tuple (AE.of ht);cases rv with
 | cons a1 b1=>
  cases b1 with
  | @cons _ y' _ _ a2 b2=>
   cases b2
   cases a1
   refine ⟨t,e,y',rfl,pl,PN I he,?_⟩;rcases hy with ⟨n,rfl⟩ | ⟨l,ss,rfl,hl⟩
   ·obtain ⟨tk,rfl⟩:=a2;exact .inl ⟨n,tk,rfl⟩
   ·cases a2
    exact .inr ⟨ss,PN I hl⟩
theorem RM {h:Heap} {v:Value} {a b:List Str} (x:FV h v a) (y:FV h v b):a=b:=by
 obtain ⟨p,us,rfl,⟨o,h1,h2,n,h3⟩,r1⟩:=x;obtain ⟨q,JW,e,⟨o',OU,T4,n',S8⟩,r2⟩:=y;cases e
 rw [h1] at OU;cases OU
 rw [h3] at S8;injection S8 with e _;have e2:us=JW:=by simpa using e
 subst e2;exact Jl r1 r2
theorem Sb {h:Heap} {v:Value} {a b:List Str} (x:FW h v a) (y:FW h v b):a=b:=by
 obtain ⟨t,e,y1,rfl,⟨o,h1,h2,n,h3⟩,x1,_⟩:=x;obtain ⟨t',e',y2,q,⟨o',OU,T4,n',S8⟩,x2,_⟩:=y;cases q
 rw [h1] at OU;cases OU
 rw [h3] at S8;injection S8 with q _;have q2:e=e':=by
  have:=congrArg (fun a:Array Value=>a[0]?) q;simpa using this
 subst q2;exact RM x1 x2
open Classical in
noncomputable def Ul (h:Heap) (v:Value):List Eg:=if p:∃ k,FW h v k then p.choose.map Eg.s else []
theorem Mk {h:Heap} {v:Value} {k:List Str} (x:FW h v k):Ul h v=k.map Eg.s:=by
 unfold Ul;rw [dif_pos ⟨k,x⟩,Sb (Exists.choose_spec ⟨k,x⟩) x]
theorem EI {α β:Type} {f:α->β}:∀ {l':List β} {l:List α},l'.Perm (l.map f)->∃ m:List α,m.Perm l/\m.map f=l'
 | [],l,h=>by
  have e:=h.length_eq;rw [XJ] at e;have:l=[]:=YK.mp e.symm;subst this;exact ⟨[],.refl _,rfl⟩
 | b :: l',l,h=>by
  obtain ⟨a,ha,rfl⟩:=Yc.mp (h.mem_iff.mp Ys);obtain ⟨l1,l2,rfl⟩:=List.append_of_mem ha;have p1:(l1 ++ a :: l2).Perm (a :: (l1 ++ l2)):=List.perm_middle;have p2:=h.trans (p1.map f);rw [Ym] at p2;obtain ⟨m,q1,q2⟩:=EI (List.Perm.cons_inv p2);exact ⟨a :: m,(q1.cons a).trans p1.symm,by rw [Ym,q2]⟩
section
variable {prog:Program} {w:World} {A:Around} {s:Shared}
theorem px_lt {E:Value->Shared->Prop} {Q:Bool->Shared->Prop} {u v:Value} {k k':List Str} (hA:A.units + 2 < cLine) (hu:FW s.heap u k) (hv:FW s.heap v k') (same:k=k'->u=v) (h:Q (AA (k.map Eg.s) (k'.map Eg.s)) s):wpAny (model prog w) A (keyLt' (tuples' false) u v) Q E s:=by
 obtain ⟨t,e,y,rfl,⟨o,h1,h2,n,h3⟩,x1,hy⟩:=id hu;obtain ⟨t',e',y',rfl,⟨o',OU,T4,n',S8⟩,x1',hy'⟩:=id hv;refine kat_lt h1 h3 OU S8 ?_;show KatLex prog w A false _ Q [(.ref e,.ref e'),(y,y')] 0 s
 refine kat_cons (K2 x1 x1' (by lia) _ _ _ _ ?_);refine kat_go (fun q=>kat_yes ?_) (fun q=>kat_no ?_)
 ·have q:=of_decide_eq_true q;have z:=same q;cases z
  rw [h1] at OU;cases OU
  rw [h3] at S8;injection S8 with q2 _;have q3:y=y':=by
   have:=congrArg (fun a:Array Value=>a[1]?) q2;simpa using this
  subst q3 q;rw [DV] at h;refine kat_cons ?_;rcases hy with ⟨m,tk,rfl⟩ | ⟨ss,hs⟩
  ·refine SeqAt.EqAt.int_int m tk m tk _ _ _ _ ?_;rw [beq_self_eq_true];exact kat_yes (kat_nil h)
  ·refine K2 hs hs (by lia) _ _ _ _ ?_;rw [decide_eq_true rfl];exact kat_yes (kat_nil h)
 ·refine kat_one _ _ ?_;exact Nn x1 x1' (by lia) _ _ _ _ h
theorem Sd {vs:List Value} {ks:List (List Str)} (hA:A.units + 2 < cLine) (hl:vs.length=ks.length) (hk:∀ (i:Nat) v k,vs[i]? = some v->ks[i]? = some k->FW s.heap v k) (nd:ks.Nodup) :
  2<=vs.length->∀ h':Heap,(∀ b o,s.heap.get? b=some o->h'.get? b=some o)->∃ κ,(∀ (Q:SortKind->Shared->Prop) (E:Value->Shared->Prop),Q κ { s with heap:=h' }->wpAny (model prog w) A (keyKind' vs.toArray) Q E { s with heap:=h' })/\Tf prog w A { s with heap:=h' } κ (fun x y=>AA (Ul s.heap x.1) (Ul s.heap y.1)) (pairsOf vs):=by
 intro h2 h' kp;have W8:∀ v ∈ vs,∃ (i:Nat) (k:List Str),vs[i]? = some v/\ks[i]? = some k/\FW s.heap v k:=fun v hv=>by
  obtain ⟨i,hi,e⟩:=Yq hv;have e1:vs[i]? = some v:=by rw [XO hi,e]
  exact ⟨i,ks[i],e1,XO (by lia),hk i v _ e1 (XO (by lia))⟩
 refine ⟨tuples' false,?_,?_⟩
 ·intro Q E hq;have tups:∀ l:List Value,(∀ v ∈ l,∃ k,FW h' v k)->∃ fs:List Value,KatTups h' l fs/\fs.length=l.length/\∀ f ∈ fs,∃ k,FV h' f k:=by
   intro l;induction l with
   | nil=>intro _; exact ⟨[],KatTups.nil,rfl,fun f hf=>nomatch hf⟩
   | cons v l ih=>
    intro hl;obtain ⟨fs,k1,k2,k3⟩:=ih fun v hv=>hl v (Yr _ hv)
    obtain ⟨k,t,e,y,rfl,⟨o,h1,h2,n,h3⟩,x1,_⟩:=hl v Ys;refine ⟨.ref e :: fs,KatTups.cons h1 h2 h3 rfl k1,by rw [Yz,Yz,k2],fun f hf=>?_⟩;rcases XX.mp hf with rfl | hf
    ·exact ⟨k,x1⟩
    ·exact k3 f hf
  obtain ⟨fs,k1,k2,k3⟩:=tups vs fun v hv=>let ⟨_,k,_,_,z⟩:=W8 v hv; ⟨k,z.keep kp⟩
  refine kat_kind (T:=.type "tuple") k1 (by lia) (fun v hv=>?_) rfl hq;obtain ⟨k,a,us,rfl,⟨o,h1,h2,_⟩,_⟩:=k3 v hv;exact fun A Q E s k q=>wpAny_typeOf (T:="tuple") ⟨o,k _ _ h1,h2⟩ q
 ·intro x y hx hy Q E hq;obtain ⟨ex,mx⟩:=CW (vs:=vs) (p:=x) (by simpa using hx);obtain ⟨ey,my⟩:=CW (vs:=vs) (p:=y) (by simpa using hy);rw [ex,ey] at hq ⊢;dsimp only at hq ⊢;obtain ⟨i,k,e1,e2,z1⟩:=W8 _ mx;obtain ⟨j,k',e3,e4,z2⟩:=W8 _ my;rw [Mk z1,Mk z2] at hq;refine px_lt hA (z1.keep kp) (z2.keep kp) (fun q=>?_) hq;subst q;have ij:i=j:=FG nd e2 e4;subst ij;rw [e1] at e3;exact Yo.inj e3
end
theorem IB (K:XU) {X:Cx} (hK:X.K=K) (hu:X.A.units + 64 < cLine):Bg X (.builtin "sorted") (fun xs H Q=>∃ (a:Addr) (ps:List (V × List Str)),xs=[.ref a]/\AM K H a (ps.map (·.1))/\(∀ p ∈ ps,PxH H p.1 p.2)/\(ps.map (·.2)).Nodup/\ps.length < 64 /\
  ∀ (l:Addr) (O1:List (V × List Str)),H l=none->O1.Perm ps->(O1.map (·.2)).Pairwise (fun a b=>AA (b.map Eg.s) (a.map Eg.s)=false)->Q (.ref l) (upd H l (.lst (O1.map (·.1))))):=by
 subst hK;intro pins s σ H xs us Q I r h;obtain ⟨a,ps,rfl,ha,hp,nd,IK,q⟩:=h;obtain ⟨u,rfl,ru⟩:=BR r;cases ru
 obtain ⟨Aq,rv,pl,hz⟩:=I.list ha;have il:Aq.length=ps.length:=by rw [<-rv.length,XJ]
 have at2:∀ (ps:List (V × List Str)) (Aq:List Value),(∀ p ∈ ps,PxH H p.1 p.2)->Az (ps.map (·.1)) Aq->∀ (i:Nat) v k,Aq[i]? = some v->(ps.map (·.2))[i]? = some k->FW s.heap v k:=fun ps Aq hp rv i v k e1 e2=>by
  rw [Yd] at e2;cases z:ps[i]? with
  | none=>rw [z] at e2; cases e2
  | some p=>
   rw [z] at e2;cases e2
   obtain ⟨v',e3,r3⟩:=rv.get (show (ps.map (·.1))[i]? = some p.1 by rw [Yd,z]; rfl);rw [e1] at e3;cases e3
   exact (hp p (XY z)).at I r3
 refine Ql (Kw (Ul s.heap)) pl.isList (by rw [<-rv.length]; exact hz) (by lia) (Sd (by rw [PySem.Around.in1_units,PySem.Around.in1_units]; lia) (by rw [XJ]; exact il) (at2 ps Aq hp rv) nd) fun out o1 o2=>?_
 obtain ⟨Jk,UX,pv⟩:=Jn o1 rv;obtain ⟨O1,q1,q2⟩:=EI pv;subst q2;obtain ⟨e,he⟩:=sortedAll_at s.heap Aq out.toArray;refine ⟨.ref (s.heap.objs.size + 1),_,I.laid (o:=.lst (O1.map (·.1))) (t':=s.toks) (fun b o z=>sortedAll_old z) (Y8 _) ⟨by rw [XJ,q1.length_eq]; rw [XJ] at hz; exact hz,out,e,UX,he⟩,rfl,q _ O1 (I.hok.fresh (Y8 _)) q1 ?_⟩;have p1:(out.map (Ul s.heap)).Pairwise (fun a b=>AA b a=false):=Zn.mpr o2;have keys:out.map (Ul s.heap)=(O1.map (·.2)).map (cI Eg.s):=by
  refine bJ fun i=>?_
  have ol:out.length=O1.length:=by rw [<-UX.length,XJ]
  rw [Yd,Yd];cases z:out[i]? with
  | none=>
   have:O1.length<=i:=by rw [<-ol]; exact aN.mp z
   rw [ZV (by rw [XJ]; exact this)];rfl
  | some v=>
   have hi:i < O1.length:=by rw [<-ol]; exact (Yb.mp z).1
   have e2:(O1.map (·.2))[i]? = some (O1[i]).2:=by rw [Yd,XO hi]; rfl
   rw [e2];show some _=some _
   rw [Mk (at2 O1 out (fun p VC=>hp p (q1.mem_iff.mp VC)) UX i v _ z e2)]
 rw [keys] at p1;exact Zn.mp p1
end L2
namespace L2
open PySem PySem.Spec PyProof.Rows
theorem QU {mask finger moves:Nat} {led plain:Bool} {hs:Array Int} {t:SetTable} {o:Array Nat} (h:SetTable.laid mask finger moves led plain hs=some (t,o)):t.led=led/\t.plain=plain:=by
 unfold SetTable.laid at h;cases e:SetTable.layClean mask hs with
 | none=>rw [e] at h; cases h
 | some ow=>
  rw [e] at h;injection h with h;injection h with h1 h2;subst h1;exact ⟨rfl,rfl⟩
theorem Ov (t:SetTable) (es:Array (Int × Value)) (wanted:Nat):(relayAll t es wanted).2.1.led=t.led/\(t.plain=false->(relayAll t es wanted).2.1.plain=false):=by
 unfold relayAll;split
 ·rename_i t' order e
  have:=QU e;dsimp only;split
  ·exact ⟨this.1,fun z=>this.2.trans z⟩
  ·exact ⟨rfl,fun _=>rfl⟩
 ·exact ⟨rfl,fun _=>rfl⟩
theorem Sz (t:SetTable) (es:Array (Int × Value)) (h:Int) (x:Value):(layNew t es h x).2.1.led=t.led:=by
 unfold layNew;split
 ·dsimp only;unfold SetTable.orStandIn;split <;> rfl
 ·rfl
section
variable {prog:Program} {w:World} {A:Around} {E:Value->Shared->Prop} {s:Shared}
def Tab (w:World) (es:Array (Int × Value)) (t:SetTable):Prop:=t.led=(!w.params.followText "set-order")/\(0 < es.size->t.plain=false)
def Dm (prog:Program) (w:World) (h:Heap) (a:Addr) (S:Str->Bool) (n:Nat):Prop:=
 ∃ o es ep t,h.get? a=some o/\o.ExactSet/\o.data=.set es ep t/\ElemsOf (PySem.strKind prog w) es.toList/\(∀ k,S k=true ↔ ∃ e ∈ es.toList,(PySem.strKind prog w).is k e.2=true) /\
  es.size < scanBound/\t.fits es.size=true/\es.size=n/\Tab w es t
theorem Qs {a:Addr} {S:Str->Bool} {n:Nat} {k:Str} {tk:Tok} {Q:Bool->Shared->Prop} (hS:Dm prog w s.heap a S n) (room:n + 1 < scanBound)
  (h:∀ h',Heap.SameBut a s.heap h'->Dm prog w h' a (fun k'=>S k' || decide (k'=k)) (if S k then n else n + 1)->Q (!S k) { s with heap:=h' }) :
  wpAny (model prog w) A (setAddHashed a (.str k tk) ((PySem.strKind prog w).hash k)) Q E s:=by
 obtain ⟨o,es,ep,t,ho,ex,hd,el,mem,few,fit,hn,tab⟩:=hS;have is:(PySem.strKind prog w).is k (.str k tk)=true:=by simp [PySem.strKind,Value.isStrOf]
 have sc:(Value.str k tk).scannable=true:=rfl;have UA:es.size + 1 < scanBound:=by lia
 unfold setAddHashed setAddHashedIn;refine wpAny_holding (wpAny_bind (wpAny_setState_of ho hd fit ?_));dsimp only;rw [if_pos (byScan_of sc few el)];unfold setAddByScan;refine wpAny_bind (wpAny_bind (wpAny_rule (wpAny_bind (wpAny_setScan_of is ho hd fit el ?_))));cases hr:List.findIdx? (fun e=>(PySem.strKind prog w).is k e.2) es.toList with
 | some j=>
  obtain ⟨hj,pj,_⟩:=List.findIdx?_eq_some_iff_getElem.mp hr;have there:S k=true:=(mem k).mpr ⟨es.toList[j],YT hj,pj⟩;refine wpAny_pure (wpAny_pure ?_);have q:=h s.heap (Heap.SameBut.refl a s.heap) ⟨o,es,ep,t,ho,ex,hd,el,fun k'=>?_,few,fit,by rw [there]; exact hn,tab⟩
  ·rw [there] at q; exact q
  ·rw [Bool.or_eq_true,decide_eq_true_eq,<-mem k'];exact ⟨fun z=>z.elim id fun e=>e ▸ there,.inl⟩
 | none=>
  have gone:S k=false:=by
   cases z:S k with
   | false=>rfl
   | true=>
    obtain ⟨e,he,hp⟩:=(mem k).mp z;have:=List.findIdx?_eq_none_iff.mp hr e he;rw [hp] at this;cases this
  dsimp only;have pm:=layNew_perm t es ((PySem.strKind prog w).hash k) (.str k tk);have ft:=layNew_fits t es ((PySem.strKind prog w).hash k) (.str k tk);have ld:=Sz t es ((PySem.strKind prog w).hash k) (.str k tk);generalize layNew t es ((PySem.strKind prog w).hash k) (.str k tk)=L at pm ft ld ⊢;obtain ⟨IL,t1,dum,gv⟩:=L;dsimp only at pm ft ld ⊢;rw [bA] at pm;have el1:=(el.push is sc).perm pm;have Vz:=mem_push_iff is mem pm;have z1:IL.size=n + 1:=by rw [<-Y0,pm.length_eq,XZ,Y0,hn]; rfl
  have U9:IL.size < scanBound:=by lia
  have fin:∀ (K7:Array (Int × Value)) (t2:SetTable) (h':Heap) (o':Obj) (SH:Nat),Heap.SameBut a s.heap h'->h'.get? a=some o'->o'.ExactSet->o'.data=.set K7 SH t2->K7.toList.Perm IL.toList->t2.fits K7.size=true->t2.led=t.led->t2.plain=false->Q true { s with heap:=h' }:=by
   intro K7 t2 h' o' SH sb g x d p f l pl;have z2:K7.size=n + 1:=by rw [<-z1,<-Y0,p.length_eq,Y0]
   have q:=h h' sb ⟨o',K7,SH,t2,g,x,d,el1.perm p,fun k'=>(Vz k').trans ⟨fun ⟨e,he,r⟩=>⟨e,p.mem_iff.mpr he,r⟩,fun ⟨e,he,r⟩=>⟨e,p.mem_iff.mp he,r⟩⟩,by lia,f,by rw [gone]; exact z2,l.trans tab.1,fun _=>pl⟩;rw [gone] at q;exact q
  have gw:∀ (b:Bool) {AI:Shared} {R:Unit->Shared->Prop},R () AI->wpAny (model prog w) A (match b with | true=>rule "set.scan.the-table-gave-way" | false=>pure ()) R E AI:=fun b AI R q=>by cases b <;> first | exact wpAny_pure q | exact wpAny_rule q
  refine wpAny_bind (gw gv ?_);have main:∀ t2:SetTable,t2.fits IL.size=true->t2.led=t.led->t2.plain=false->wpAny (model prog w) A (do
    storeSet a IL t2
    if (!dum && t2.tooFull)=true then do
      (match (relayAll t2 IL (SetTable.grown IL.size)).2.2 with | true=>rule "set.scan.the-table-gave-way" | false=>pure ())
      storeSet a (relayAll t2 IL (SetTable.grown IL.size)).1 (relayAll t2 IL (SetTable.grown IL.size)).2.1
      pure (some true)
     else pure (some true)) (fun r s'=>r=some true/\Q true s') E s:=by
   intro t2 f2 l2 p2;refine wpAny_bind (wpAny_storeSet_of ho hd ?_ (fits_of_scanBound U9));obtain ⟨g1,_⟩:=SetOf_store (knd:=PySem.strKind prog w) ho ex hd el1 Vz U9 f2;have sb1:=Heap.SameBut.update s.heap a (Obj.putSet IL t2);split
   ·have pr:=relayAll_perm t2 IL (SetTable.grown IL.size);have fr:=relayAll_fits t2 IL (SetTable.grown IL.size);have lr:=Ov t2 IL (SetTable.grown IL.size);generalize relayAll t2 IL (SetTable.grown IL.size)=R at pr fr lr ⊢;obtain ⟨K7,t3,gv2⟩:=R;dsimp only at pr fr lr ⊢;have z2:K7.size=IL.size:=by rw [<-Y0,pr.length_eq,Y0]
    refine wpAny_bind (gw gv2 ?_);refine wpAny_bind (wpAny_storeSet_of g1 rfl ?_ (fits_of_scanBound (by rw [z2]; exact U9)));have g2:=YH (Obj.putSet K7 t3) g1 (by rw [putSet_of K7 t3 rfl]; rfl);rw [putSet_of K7 t3 rfl] at g2;exact wpAny_pure ⟨rfl,fin K7 t3 _ _ _ (sb1.trans (Heap.SameBut.update _ a _)) g2 ex rfl pr fr (lr.1.trans l2) (lr.2 p2)⟩
   ·exact wpAny_pure ⟨rfl,fin IL t2 _ _ _ sb1 g1 ex rfl (.refl _) f2 l2 p2⟩
  by_cases pl:t1.plain=true
  ·rw [if_pos pl];refine wpAny_bind ?_;rw [hashByValue_scannable 8 sc];refine wpAny_pure ?_;refine wpAny_mono (main { t1 with plain:=false } (SetTable.fits_plain_off ft) ld rfl) (fun r s' z=>?_) fun _ _ z=>z
   obtain ⟨rfl,z⟩:=z;exact wpAny_pure z
  ·rw [if_neg pl];refine wpAny_bind (wpAny_pure ?_);refine wpAny_mono (main t1 ft ld (by simpa using pl)) (fun r s' z=>?_) fun _ _ z=>z
   obtain ⟨rfl,z⟩:=z;exact wpAny_pure z
end
section
variable {prog:Program} {w:World} {A:Around} {R:Result->Shared->Prop} {I:Addr} {fp wr:List Addr} {G:Array GenState->Array GenState->Prop} {n:Nat} {P:Nat->Value->Prop} {St:Nat->Shared->Prop}
theorem Dm.kept {h h':Heap} {a:Addr} {S:Str->Bool} {n:Nat} (hS:Dm prog w h a S n) (k:∀ o,h.get? a=some o->h'.get? a=some o):Dm prog w h' a S n:=by
 obtain ⟨o,es,ep,t,ho,r⟩:=hS;exact ⟨o,es,ep,t,k _ ho,r⟩
theorem Dm.as {h:Heap} {a:Addr} {S S':Str->Bool} {n n':Nat} (hS:Dm prog w h a S n) (e:∀ k,S' k=S k) (en:n'=n):Dm prog w h a S' n':=by
 subst en;have:S'=S:=funext e;rw [this];exact hS
theorem Oo (W:WalksS prog w A.in1 I fp wr G n P St) (D:Addr) (hD:D ∉ fp) (val:Nat->Str) (hv:∀ i v,P i v->∃ tk,v=.str (val i) tk) (few:n + 1 < scanBound) :
  ∀ (k i:Nat) (s:Shared),n - i=k->i<=n->St i s->Dm prog w s.heap D (fun k'=>(met val i).any (· == k')) (met val i).length ->
   (∀ s',Moved (D :: wr) G s s'->Dm prog w s'.heap D (fun k'=>(met val n).any (· == k')) (met val n).length->R (.ok (.ret .none)) s') ->
   codeAny (model prog w) A (.builtin "set.update.loop" ⟨[.ref D,.ref I],[]⟩) R s:=by
 have hw:D ∉ wr:=fun z=>hD (W.sub _ z)
 have up:∀ b ∈ wr,b ∈ D :: wr:=fun b z=>Yr _ z
 intro k;induction k with
 | zero=>
  intro i s hk hi st hS q;have e:i=n:=by lia
  subst e;refine codeAny_builtin F.entry_set_update_loop ?_;rw [Around.under_plainId F.plain_set_update_loop _];refine wpAny_bind (W.done s _ _ st fun s' m=>?_);exact wpAny_pure (q s' (m.mono up) (hS.kept fun o e=>m.heap D _ hw e))
 | succ k ih=>
  intro i s hk hi st hS q;have lt:i < n:=by lia
  refine codeAny_builtin F.entry_set_update_loop ?_;rw [Around.under_plainId F.plain_set_update_loop _];refine wpAny_bind (W.item i s _ _ lt st fun v s' pv AH m=>?_);obtain ⟨tk,rfl⟩:=hv i v pv;have N4:=hS.kept (h':=s'.heap) fun o e=>m.heap D _ hw e
  refine wpAny_bind (wpAny_holding ?_);unfold setAdd;refine wpAny_holding ?_;refine wpAny_bind ((PySem.strKind prog w).pyHash (k:=val i) (by simp [PySem.strKind,Value.isStrOf]) ?_);refine Qs (s:={ s' with toks:=s'.toks + 1 }) N4 (by have:=D4 val i; lia) fun h' sb hS2=>?_
  have nx:Dm prog w h' D (fun k'=>(met val (i + 1)).any (· == k')) (met val (i + 1)).length:=
   hS2.as (fun k'=>by rw [HY,Oh]) (by rw [HY,F1])
  refine wpAny_pure ⟨plainId_quiet F.plain_set_update_loop _,ih (i + 1) _ (by lia) lt (W.frame _ s' _ _ AH (Y8 _) fun b z o e=>?_) nx fun Uh m2 hS3=>?_⟩
  ·rw [sb.2 b fun y:b=D=>hD (y ▸ z)];exact e
  ·refine q Uh (Moved.trans W.gtrans ((m.mono up).then_heap (Y8 _) fun b o z e=>?_) m2) hS3;rw [sb.2 b fun y:b=D=>z (y ▸ Ys)];exact e
end
section
variable {prog:Program} {w:World} {A:Around} {E:Value->Shared->Prop} {s:Shared}
theorem Qr (a:Value) {Q₁:Value->Shared->Prop}
  (h:Q₁ (.ref s.heap.objs.size) { s with heap:=s.heap.push { cls:=.type "set",dict:=none,data:=.set #[] 0 (.fresh 0 0 (!w.params.followText "set-order")) } }) :
  codeAny (model prog w) A (.call (.builtin "set.__new__") ⟨[.type "set",a],[]⟩) (wants Q₁ E) s:=by
 refine codeAny_of_tree ?_;show wpAny _ A.in1 (checkBuiltinCall "set.__new__" ⟨[.type "set",a],[]⟩ >>= fun _=>again (.builtin "set.__new__" ⟨[.type "set",a],[]⟩)) _ _ s
 refine wpAny_bind (wpAny_of_eq (F.newCall_set_1 a) (wpAny_pure ⟨plainId_quiet F.plain_set_new _,codeAny_builtin F.entry_set_new ?_⟩));rw [Around.under_plainId F.plain_set_new _];unfold Builtin.«set.__new__» Builtin.Frozenset.newClass;have hsub:=sub_set_self;obtain ⟨hp,g,d,tk,os⟩:=s;dsimp only;wp_walk;refine wpAny_askSetting (wpAny_pure ?_);dsimp only;simp only [newObj];refine wpAny_bind (wpAny_alloc (wpAny_pure ?_));exact wpAny_pure h
theorem MU {a:Addr} {T:String} {o:Obj} {oI:Obj} {items:Array Value} {val:Nat->Str} {St:Addr->Nat->Heap->Prop} {Q:Value->Shared->Prop} (hh:A.handled=none)
  (ho:s.heap.get? a=some o) (hc:o.cls=.type T) (hnd:(Value.type T == Value.type "dict")=false) (hs1:isSubtype (.type T) (.type "set")=pure false) (VA:isSubtype (.type T) (.type "frozenset")=pure false)
  (hit:∀ (B:Around) (E':Value->Shared->Prop) (s1:Shared) (Q':Value->Shared->Prop),(∀ b o,s.heap.get? b=some o->s1.heap.get? b=some o)->Q' (.ref s1.heap.objs.size) { s1 with heap:=s1.heap.push oI }->wpAny (model prog w) B (pyIter (.ref a)) Q' E' s1)
  (hW:∀ (B:Around) (I:Addr),B.handled=none->a ≠ I->Walks prog w B I [I,a] [I] items.size (fun i v=>items[i]? = some v) (St I))
  (hst:∀ h:Heap,(∀ b o,s.heap.get? b=some o->h.get? b=some o)->St h.objs.size 0 (h.push oI))
  (hi:∀ (i:Nat) v,items[i]? = some v->∃ tk,v=.str (val i) tk) (few:items.size + 1 < scanBound)
  (h:∀ (h':Heap) (tk:Nat),Dm prog w h' s.heap.objs.size (fun k'=>(met val items.size).any (· == k')) (met val items.size).length ->
   (∀ b o,s.heap.get? b=some o->h'.get? b=some o)->Q (.ref s.heap.objs.size) { s with heap:=h',toks:=tk }) :
  wpAny (model prog w) A (call (.type "set") [.ref a]) Q E s:=by
 obtain ⟨c,tl,hmro⟩:=F.called_set.mro;have hmade:=F.called_set.made;have hsub:=F.called_set.sub;refine wpAny_call (codeAny_of_tree ?_);show wpAny _ _ (callAny (.type "set") _) _ _ _
 refine wpAny_pure ⟨Code.quiet_builtin _ (by decide +kernel),codeAny_builtin F.entry_type_call ?_⟩;rw [Around.under_plain (weight_type_call_type "set" [.ref a] []) rfl];have h1:=F.called_set.notType;have h2:=F.called_set.canCreate;have hct:=F.typeCall_set_1 (.ref a);repeat (any_goals (first | assumption | wp_step))
 obtain ⟨fr,efr⟩:∃ fr:Obj,fr = { cls:=.type "set",dict:=none,data:=.set #[] 0 (.fresh 0 0 (!w.params.followText "set-order")) }:=⟨_,rfl⟩
 refine codeAny_mono (Qr (.ref a) (E:=E) (Q₁:=fun obj AI=>obj=.ref s.heap.objs.size/\AI = { s with heap:=s.heap.push fr }) ⟨rfl,by rw [efr]⟩) fun r AI hr=>?_
 have gS:(s.heap.push fr).get? s.heap.objs.size=some fr:=Yf _ (by rw [efr]; rfl);have cf:fr.cls=.type "set":=by rw [efr]
 have new:∀ h5:Heap,h5.get? s.heap.objs.size=some fr->Dm prog w h5 s.heap.objs.size (fun k'=>(met val 0).any (· == k')) (met val 0).length:=fun h5 g=>
  ⟨fr,#[],0,.fresh 0 0 (!w.params.followText "set-order"),g,by rw [efr]; exact ⟨rfl,rfl,rfl⟩,by rw [efr],fun e he=>by simp at he,fun k=>by simp [met],by decide,rfl,rfl,rfl,fun z=>by simp at z⟩
 cases r with
 | error e=>exact hr
 | ok fl=>
  cases fl with
  | ret obj=>
   obtain ⟨rfl,rfl⟩:=hr;have hT:Shared.TypeIs { s with heap:=s.heap.push fr } (.ref s.heap.objs.size) "set":=⟨_,gS,cf⟩
   have hli:=F.called_set.init.lookup;have hbi:=F.called_set.init.bind (.ref s.heap.objs.size);repeat (any_goals (first | assumption | wp_step))
   refine codeAny_mono (codeAny_call_builtin (R:=wants (fun r Em=>r=.none/\∃ h' tk,Em = { s with heap:=h',toks:=tk } /\
     Dm prog w h' s.heap.objs.size (fun k'=>(met val items.size).any (· == k')) (met val items.size).length /\
     (∀ b o,s.heap.get? b=some o->h'.get? b=some o)) E) F.called_set.init.plain F.entry_set_init (check_set_init_1 hT ?_)) fun WM Em Ra=>?_
   ·obtain ⟨ocls,odict,odata,oslots⟩:=o;simp only at hc;subst hc;have lt:a < s.heap.objs.size:=Ye ho;have IY:(s.heap.push fr).get? a=some { cls:=.type T,dict:=odict,data:=odata,slots:=oslots }:=XQ _ ho;subst efr;unfold Builtin.«set.__init__» noKeywords Builtin.Frozenset.updateFrom;generalize hPI:pyIter=PI;wp_walk;subst hPI;refine hit _ _ _ _ (fun b o e=>XQ _ e) ?_;refine wpAny_bind (wpAny_runValue ?_);have ne:a ≠ (s.heap.push { cls:=.type "set",dict:=none,data:=.set #[] 0 (.fresh 0 0 (!w.params.followText "set-order")) }).objs.size:=by
     rw [YE]; exact Yh (Yy lt)
    have nS:s.heap.objs.size ∉ [(s.heap.push { cls:=.type "set",dict:=none,data:=.set #[] 0 (.fresh 0 0 (!w.params.followText "set-order")) }).objs.size,a]:=by
     rw [YE]; simp only [XX,Yg,or_false,not_or];exact ⟨Yh (Y6 _),YL lt⟩
    refine Oo ((hW _ _ (by simp [hh]) ne).toS) s.heap.objs.size nS val hi few (items.size - 0) 0 _ (by lia) (Y9 _) (hst _ fun b o e=>XQ _ e) (new _ (XQ _ gS)) ?_;intro s' hm N4;obtain ⟨h',g',d',UU,WQ⟩:=s';have eg:g'=s.gens:=hm.gens;have ed:d'=s.drawn:=hm.drawn;have eo:WQ=s.os:=hm.os;subst eg ed eo;refine wpAny_pure ?_;refine wpAny_pure ⟨rfl,h',UU,rfl,N4,fun b o e=>?_⟩;have hb:=Ye e;have VH:b ≠ s.heap.objs.size:=Yh hb;have hb2:b ≠ (s.heap.push { cls:=.type "set",dict:=none,data:=.set #[] 0 (.fresh 0 0 (!w.params.followText "set-order")) }).objs.size:=by
     rw [YE]; exact Yh (Yy hb)
    exact hm.heap b o (by simp only [XX,Yg,or_false,not_or]; exact ⟨VH,hb2⟩) (XQ _ (XQ _ e))
   ·cases WM with
    | error e=>exact Ra
    | ok VT=>
     cases VT with
     | ret r=>
      obtain ⟨rfl,h',tk,rfl,N4,M1⟩:=Ra;repeat (any_goals (first | assumption | wp_step))
      exact h _ _ N4 M1
     | _=>exact Ra.elim
  | _=>exact hr.elim
end
theorem Ir:entryFor table "set.__iter__"=some Builtin.«frozenset.__iter__»:=
 entryFor_alias (id':="frozenset.__iter__") (by kernel_rfl) rfl (by decide +kernel) (by kernel_rfl)
theorem BZ:entryFor table "set_iterator.__next__"=some Builtin.«set_iterator.__next__»:=entryFor_of_tree (by kernel_rfl)
theorem AD:Slot "set_iterator" "__next__" "set_iterator.__next__":=
 .of (owner:="set_iterator") (n:="__next__") (by rw [typeLookup_type,builtinLookup_eq_fast]; kernel_rfl) (by decide +kernel) (by decide +kernel) (by decide +kernel)
  (by first | exact .inl (by decide +kernel) | exact .inr (by decide +kernel)) (by rw [isSubtype_type]; kernel_rfl)
theorem Ep:Slot "set_iterator" "__iter__" "set_iterator.__iter__":=
 .of (owner:="set_iterator") (n:="__iter__") (by rw [typeLookup_type,builtinLookup_eq_fast]; kernel_rfl) (by decide +kernel) (by decide +kernel) (by decide +kernel)
  (by first | exact .inl (by decide +kernel) | exact .inr (by decide +kernel)) (by rw [isSubtype_type]; kernel_rfl)
theorem Cr (a:Value):argsOk "set_iterator.__next__" ⟨[a],[]⟩:=by unfold argsOk; kernel_rfl
theorem ID (a:Value):argsOk "set_iterator.__iter__" ⟨[a],[]⟩:=by unfold argsOk; kernel_rfl
theorem GU:entryFor table "set_iterator.__iter__"=some Builtin.«dict_keyiterator.__iter__»:=
 entryFor_alias (id':="dict_keyiterator.__iter__") (by kernel_rfl) (by first | rfl | decide +kernel | (unfold String.splitOn; simp +decide [String.splitOnAux])) (by decide +kernel) (by kernel_rfl)
section
variable {prog:Program} {w:World} {A:Around} {E:Value->Shared->Prop} {s:Shared}
def Dp (x:Value) (i:Int) (a:Addr) (n ep:Nat):Obj:={ cls:=.type "set_iterator",data:=.fields #[x,.int i 0,.ref a,.int n 0,.int ep 0] }
theorem Jv {r a:Addr} {x:Value} {i:Int} {n ep:Nat} {Q:Value->Shared->Prop} (hr:s.heap.get? r=some (Dp x i a n ep)) (h:Q (.ref r) s):wpAny (model prog w) A (pyIter (.ref r)) Q E s:=by
 have hT:s.TypeIs (.ref r) "set_iterator":=⟨_,hr,rfl⟩
 refine wpAny_pyIter_slot hT Ep (wpAny_call_entry Ep hT GU ?_ (ID _));show wpAny _ _ (ret (.ref r)) _ _ s
 exact wpAny_pure ⟨_,rfl,"set_iterator",_,hT,AD.lookup,h⟩
def CI (w:World) (a:Addr) (es:Array (Int × Value)) (ep:Nat) (t:SetTable) (slot given:Nat):Option (Value × Nat):=
 if w.params.followText "set-order"=true then ((pickOrder (w.params.setOrder a ep) es)[given]?).map fun e=>(e.2,slot) else
 match es[SetTable.below t.place slot]?,t.place[SetTable.below t.place slot]? with
  | some (_,x),some j=>some (x,j + 1)
  | _,_=>none
theorem La {a:Addr} {o:Obj} {es:Array (Int × Value)} {ep:Nat} {t:SetTable} {slot given:Nat} {Q:Option (Value × Nat)->Shared->Prop} (ho:s.heap.get? a=some o) (hd:o.data=.set es ep t) (fit:t.fits es.size=true) (tab:Tab w es t)
  (few:w.params.followText "set-order"=false->es.size<=1) (h:Q (CI w a es ep t slot given) s):wpAny (model prog w) A (setNext a slot given ep) Q E s:=by
 unfold setNext;refine wpAny_bind (wpAny_setState_of ho hd fit ?_);dsimp only;unfold setsByText;refine wpAny_bind (wpAny_bind (wpAny_askSetting (wpAny_pure ?_)));unfold CI at h;show wpAny _ _ (if w.params.followText "set-order"=true then _ else _) _ _ _
 by_cases z:w.params.followText "set-order"=true
 ·rw [if_pos z] at h;rw [if_pos z,if_neg (by simp)];unfold setWalk;refine wpAny_bind (wpAny_bind (wpAny_setState_of ho hd fit ?_));dsimp only;unfold setsByText;refine wpAny_bind (wpAny_bind (wpAny_askSetting (wpAny_pure ?_)));show wpAny _ _ (if w.params.followText "set-order"=true then _ else _) _ _ _
  rw [if_pos z];refine wpAny_bind (wpAny_askSetting (wpAny_pure ?_));exact wpAny_pure h
 ·rw [if_neg z] at h;rw [if_neg z];have z':w.params.followText "set-order"=false:=by simpa using z
  have sm:=few z';show wpAny _ _ (if (!t.plain && decide (es.size > 1))=true then _ else _) _ _ _
  rw [if_neg (by simp; lia)];refine wpAny_bind ?_;show wpAny _ _ (if (!t.led && !es.isEmpty)=true then _ else _) _ _ _
  rw [if_neg (by rw [tab.1,z']; simp)];exact wpAny_pure (wpAny_pure h)
theorem Oi {r a:Addr} {slot i:Nat} {o:Obj} {es:Array (Int × Value)} {ep:Nat} {t:SetTable} {x:Value} {nx:Nat} {Q:Option Value->Shared->Prop}
  (hr:s.heap.get? r=some (Dp (.int slot 0) i a es.size ep)) (ho:s.heap.get? a=some o) (hd:o.data=.set es ep t) (fit:t.fits es.size=true) (tab:Tab w es t) (few:w.params.followText "set-order"=false->es.size<=1)
  (hx:CI w a es ep t slot i=some (x,nx))
  (hQ:∀ h',h'.get? r=some (Dp (.int nx 0) (i + 1) a es.size ep)->Heap.SameBut r s.heap h'->Q (some x) { s with heap:=h' }) :
  wpAny (model prog w) A (pyNext (.ref r)) Q E s:=by
 have hT:s.TypeIs (.ref r) "set_iterator":=⟨_,hr,rfl⟩
 obtain ⟨hp,g,d,tk,os⟩:=s;unfold pyNext;refine wpAny_bind (wpAny_attempt (wpAny_callSpecial?_slot (name:=Str.ofString "__next__") hT AD
  (wpAny_call_entry AD hT BZ ?_ (Cr _))))
 unfold Builtin.«set_iterator.__next__»;unfold Dp at hr;repeat (any_goals (first | assumption | (refine wpAny_setEntries_of ho hd fit ?_) | (refine La (given:=i) (slot:=slot) ho hd fit tab few ?_) | wp_step))
 rw [show ((ep:Nat):Int).toNat=ep by simp,hx];repeat (any_goals (first | assumption | wp_step))
 refine ⟨_,rfl,wpAny_pure (hQ _ ?_ ((Heap.SameBut.update ..).trans (Heap.SameBut.update ..)))⟩;have e1:=YH (Obj.mapFields fun fs=>fs.setIfInBounds 0 (rawInt nx)) hr rfl;have e2:=YH (Obj.mapFields fun fs=>fs.setIfInBounds 1 (rawInt (i + 1))) e1 rfl;exact e2
theorem Qo {r a:Addr} {slot i:Nat} {o:Obj} {es:Array (Int × Value)} {ep:Nat} {t:SetTable} {Q:Option Value->Shared->Prop} (hh:A.handled=none)
  (hr:s.heap.get? r=some (Dp (.int slot 0) i a es.size ep)) (ho:s.heap.get? a=some o) (hd:o.data=.set es ep t) (fit:t.fits es.size=true) (tab:Tab w es t) (few:w.params.followText "set-order"=false->es.size<=1)
  (hx:CI w a es ep t slot i=none)
  (hQ:∀ h',Heap.ExtBut r s.heap h'->Q none { s with heap:=h' }) :
  wpAny (model prog w) A (pyNext (.ref r)) Q E s:=by
 have hT:s.TypeIs (.ref r) "set_iterator":=⟨_,hr,rfl⟩
 obtain ⟨hp,g,d,tk,os⟩:=s;unfold pyNext;refine wpAny_bind (wpAny_attempt (wpAny_callSpecial?_slot (name:=Str.ofString "__next__") hT AD
  (wpAny_call_entry AD hT BZ ?_ (Cr _))))
 unfold Builtin.«set_iterator.__next__»;unfold Dp at hr;repeat (any_goals (first | assumption | (refine wpAny_setEntries_of ho hd fit ?_) | (refine La (given:=i) (slot:=slot) ho hd fit tab few ?_) | wp_step))
 rw [show ((ep:Nat):Int).toNat=ep by simp,hx];repeat (any_goals (first | assumption | wp_step))
 simp only [raiseNew];refine wpAny_bind (wpAny_handled ?_);rw [show A.in1.handled=none from hh];refine wpAny_bind (wpAny_pure (wpAny_throw ?_));refine wpAny_bind (wpAny_isInstance (T:="StopIteration") (b:=true) ⟨_,Yf _ rfl,rfl⟩ isSubtype_stop ?_);exact wpAny_pure (hQ _ fun b o hb e=>XQ _ (XQ _ ((Heap.SameBut.update ..).extBut b o hb e)))
end
section
variable {prog:Program} {w:World} {A:Around} {E:Value->Shared->Prop} {s:Shared}
def O7 (is:List Nat) (c:Nat):Obj:={ cls:=.type "tuple",data:=.seq (is.map fun (i:Nat)=>rawInt i).toArray c }
theorem Oj {a:Addr} {o:Obj} {es:Array (Int × Value)} {ep:Nat} {t:SetTable} {j:Nat} {h:Int} {x:Value} {Q:Value->Shared->Prop} (ho:s.heap.get? a=some o) (hd:o.data=.set es ep t) (fit:t.fits es.size=true)
  (hx:es[j]? = some (h,x)) (q:Q x s):wpAny (model prog w) A (setNextDrawn a j ep) Q E s:=by
 unfold setNextDrawn;refine wpAny_bind (wpAny_setState_of ho hd fit ?_);dsimp only;rw [if_neg (by simp),hx];exact wpAny_pure q
theorem Ol {r a p:Addr} {i c:Nat} {o:Obj} {es:Array (Int × Value)} {ep:Nat} {t:SetTable} {is:List Nat} {j:Nat} {h:Int} {x:Value} {Q:Option Value->Shared->Prop}
  (hr:s.heap.get? r=some (Dp (.ref p) i a es.size ep)) (hp:s.heap.get? p=some (O7 is c)) (ho:s.heap.get? a=some o) (hd:o.data=.set es ep t) (fit:t.fits es.size=true)
  (hj:is[i]? = some j) (hx:es[j]? = some (h,x))
  (hQ:∀ h',h'.get? r=some (Dp (.ref p) (i + 1) a es.size ep)->Heap.SameBut r s.heap h'->Q (some x) { s with heap:=h' }) :
  wpAny (model prog w) A (pyNext (.ref r)) Q E s:=by
 have hT:s.TypeIs (.ref r) "set_iterator":=⟨_,hr,rfl⟩
 have IZ:((is.map fun (i:Nat)=>rawInt i).toArray)[i]? = some (.int j 0):=by simp [hj,rawInt]
 obtain ⟨hp,g,d,tk,os⟩:=s;unfold pyNext;refine wpAny_bind (wpAny_attempt (wpAny_callSpecial?_slot (name:=Str.ofString "__next__") hT AD
  (wpAny_call_entry AD hT BZ ?_ (Cr _))))
 unfold Builtin.«set_iterator.__next__»;unfold Dp at hr;unfold O7 at hp;repeat (any_goals (first | assumption | (refine wpAny_setEntries_of ho hd fit ?_) | wp_step))
 rw [show ((i:Nat):Int).toNat=i by simp,IZ];dsimp only;refine wpAny_bind (Oj (h:=h) (x:=x) ho hd fit (by simpa using hx) ?_);repeat (any_goals (first | assumption | wp_step))
 refine ⟨_,rfl,wpAny_pure (hQ _ ?_ (Heap.SameBut.update ..))⟩;exact YH (Obj.mapFields fun fs=>fs.setIfInBounds 1 (rawInt (i + 1))) hr rfl
theorem Qp {r a p:Addr} {i c:Nat} {o:Obj} {es:Array (Int × Value)} {ep:Nat} {t:SetTable} {is:List Nat} {Q:Option Value->Shared->Prop} (hh:A.handled=none)
  (hr:s.heap.get? r=some (Dp (.ref p) i a es.size ep)) (hp:s.heap.get? p=some (O7 is c)) (ho:s.heap.get? a=some o) (hd:o.data=.set es ep t) (fit:t.fits es.size=true)
  (hj:is[i]? = none) (hQ:∀ h',Heap.ExtBut r s.heap h'->Q none { s with heap:=h' }) :
  wpAny (model prog w) A (pyNext (.ref r)) Q E s:=by
 have hT:s.TypeIs (.ref r) "set_iterator":=⟨_,hr,rfl⟩
 have IZ:((is.map fun (i:Nat)=>rawInt i).toArray)[i]? = none:=by simpa using hj
 obtain ⟨hp,g,d,tk,os⟩:=s;unfold pyNext;refine wpAny_bind (wpAny_attempt (wpAny_callSpecial?_slot (name:=Str.ofString "__next__") hT AD
  (wpAny_call_entry AD hT BZ ?_ (Cr _))))
 unfold Builtin.«set_iterator.__next__»;unfold Dp at hr;unfold O7 at hp;repeat (any_goals (first | assumption | (refine wpAny_setEntries_of ho hd fit ?_) | wp_step))
 rw [show ((i:Nat):Int).toNat=i by simp,IZ];repeat (any_goals (first | assumption | wp_step))
 simp only [raiseNew];refine wpAny_bind (wpAny_handled ?_);rw [show A.in1.handled=none from hh];refine wpAny_bind (wpAny_pure (wpAny_throw ?_));refine wpAny_bind (wpAny_isInstance (T:="StopIteration") (b:=true) ⟨_,Yf _ rfl,rfl⟩ isSubtype_stop ?_);exact wpAny_pure (hQ _ fun b o hb e=>XQ _ (XQ _ ((Heap.SameBut.update ..).extBut b o hb ((Heap.SameBut.update ..).extBut b o hb e))))
theorem LW (hh:A.handled=none) (I a:Addr) (ne:a ≠ I) {o:Obj} {es:Array (Int × Value)} {ep:Nat} {t:SetTable} (hd:o.data=.set es ep t) (fit:t.fits es.size=true) (tab:Tab w es t) (few:w.params.followText "set-order"=false->es.size<=1)
  (vs:List Value) (sl:Nat->Nat) (hs:∀ (i:Nat) (v:Value),vs[i]? = some v->CI w a es ep t (sl i) i=some (v,sl (i + 1))) (he:CI w a es ep t (sl vs.length) vs.length=none) :
  Walks prog w A I [I,a] [I] vs.length (fun i v=>vs[i]? = some v) (fun i h=>h.get? I=some (Dp (.int (sl i:Nat) 0) i a es.size ep)/\h.get? a=some o) where
 sub:=fun b hb=>by simp at hb; simp [hb]
 frame:=fun i h h' st k=>⟨k I (by simp) _ st.1,k a (by simp) _ st.2⟩
 item:=fun i s Q E hi st q=>by
  have e:vs[i]? = some vs[i]:=by simp [hi]
  refine Oi st.1 st.2 hd fit tab few (hs i _ e) fun h' hr sb=>q _ h' s.toks e ⟨hr,?_⟩ fun b o hb z=>?_
  ·rw [sb.2 a ne]; exact st.2
  ·rw [sb.2 b (by simpa using hb)]; exact z
 done:=fun s Q E st q=>Qo hh st.1 st.2 hd fit tab few he fun h' eb=>q h' s.toks fun b o hb z=>eb b o (by simpa using hb) z
 self:=fun i s Q E st q=>Jv st.1 q
theorem LX (hh:A.handled=none) (I a p:Addr) (ne:a ≠ I) (np:p ≠ I) {o:Obj} {es:Array (Int × Value)} {ep c:Nat} {t:SetTable} (hd:o.data=.set es ep t) (fit:t.fits es.size=true)
  (is:List Nat) (vs:List Value) (hl:is.length=vs.length) (hs:∀ (i:Nat) (v:Value),vs[i]? = some v->∃ j h,is[i]? = some j/\es[j]? = some (h,v)) :
  Walks prog w A I [I,a,p] [I] vs.length (fun i v=>vs[i]? = some v) (fun i h=>h.get? I=some (Dp (.ref p) i a es.size ep)/\h.get? a=some o/\h.get? p=some (O7 is c)) where
 sub:=fun b hb=>by simp at hb; simp [hb]
 frame:=fun i h h' st k=>⟨k I (by simp) _ st.1,k a (by simp) _ st.2.1,k p (by simp) _ st.2.2⟩
 item:=fun i s Q E hi st q=>by
  have e:vs[i]? = some vs[i]:=by simp [hi]
  obtain ⟨j,h,e1,e2⟩:=hs i _ e;refine Ol st.1 st.2.2 st.2.1 hd fit e1 e2 fun h' hr sb=>q _ h' s.toks e ⟨hr,?_,?_⟩ fun b o hb z=>?_
  ·rw [sb.2 a ne]; exact st.2.1
  ·rw [sb.2 p np]; exact st.2.2
  ·rw [sb.2 b (by simpa using hb)]; exact z
 done:=fun s Q E st q=>Qp hh st.1 st.2.2 st.2.1 hd fit (by simp [hl]) fun h' eb=>q h' s.toks fun b o hb z=>eb b o (by simpa using hb) z
 self:=fun i s Q E st q=>Jv st.1 q
theorem Ip {α:Type} {xs:List α} {i:Nat} {x:α} (h:xs[i]? = some x):(x :: xs.eraseIdx i).Perm xs:=by
 induction xs generalizing i with
 | nil=>simp at h
 | cons y ys ih=>
  cases i with
  | zero=>simp at h; subst h; exact .refl _
  | succ i=>
   simp only [Zv] at h;exact (List.Perm.swap _ _ _).trans ((ih h).cons _)
theorem M9 {α:Type} (n:Nat):∀ (xs:List α) (s:Shared) (Q:List α->Shared->Prop),n=xs.length->(∀ ys dr,ys.Perm xs->Q ys { s with drawn:=dr })->wpAny (model prog w) A (drawOrder n xs) Q E s:=by
 induction n with
 | zero=>
  intro xs s Q hn h;cases xs with
  | nil=>exact wpAny_pure (h [] s.drawn (.refl _))
  | cons x xs=>simp at hn
 | succ n ih=>
  intro xs s Q hn h;cases xs with
  | nil=>simp at hn
  | cons x xs=>
   unfold drawOrder;refine wpAny_bind ?_;intro Γ p hΓ;refine ⟨by simp,?_⟩;have lt:w.draws .order (s.drawn.get .order) % (x :: xs).length < (x :: xs).length:=cH _ (by simp);show wpAny (model prog w) A (match (x :: xs)[w.draws .order (s.drawn.get .order) % (x :: xs).length]? with
    | some y=>drawOrder n ((x :: xs).eraseIdx (w.draws .order (s.drawn.get .order) % (x :: xs).length)) >>= fun r=>pure (y :: r)
    | none=>unsupported "internal:drawOrder") Q E { s with drawn:=s.drawn.bump .order }
   generalize w.draws .order (s.drawn.get .order) % (x :: xs).length=i at lt;have e:(x :: xs)[i]? = some (x :: xs)[i]:=by simp
   rw [e];refine wpAny_bind (ih _ _ _ (by rw [b5]; simp only [lt,if_true]; lia) fun ys dr pm=>?_);exact wpAny_pure (h _ dr ((pm.cons _).trans (Ip e)))
theorem Nc {α:Type} (next:Nat->Nat):∀ (fuel k:Nat) (left:List α) (out:Array α),fuel=left.length->(pickOrder.go next fuel k left out).toList.Perm (out.toList ++ left)
 | 0,k,[],out,_=>by unfold pickOrder.go; simp
 | fuel + 1,k,x :: xs,out,h=>by
  unfold pickOrder.go;have lt:next k % (x :: xs).length < (x :: xs).length:=cH _ (by simp);generalize next k % (x :: xs).length=i at lt;have e:(x :: xs)[i]? = some (x :: xs)[i]:=by simp
  rw [e];refine (Nc next fuel (k + 1) _ _ (by rw [b5]; simp only [lt,if_true]; simp at h ⊢; lia)).trans ?_;rw [bA,YR];exact (Ip e).append_left _
theorem O3 {α:Type} (next:Nat->Nat) (xs:Array α):(pickOrder next xs).toList.Perm xs.toList:=by
 unfold pickOrder;simpa using Nc next xs.size 0 xs.toList #[] (by simp)
end
theorem KN:∀ {vs:List Value},(∀ v ∈ vs,∃ x t,v=Value.str x t)->∃ ks,StrsAre vs ks
 | [],_=>⟨[],.nil⟩
 | v :: vs,h=>by
  obtain ⟨x,t,rfl⟩:=h v (by simp);obtain ⟨ks,r⟩:=KN fun u hu=>h u (Yr _ hu)
  exact ⟨x :: ks,.cons x t r⟩
theorem Qb {P:Program} {w:World} {vs:List Value} {ks:List Str} (h:StrsAre vs ks) (k:Str):k ∈ ks ↔ ∃ v ∈ vs,(PySem.strKind P w).is k v=true:=by
 induction h with
 | nil=>simp
 | cons x t r ih=>
  rw [XX,ih];constructor
  ·rintro (rfl | ⟨v,hv,e⟩)
   ·exact ⟨_,Ys,by simp [PySem.strKind,Value.isStrOf]⟩
   ·exact ⟨v,Yr _ hv,e⟩
  ·rintro ⟨v,hv,e⟩;rcases XX.mp hv with rfl | hv
   ·refine .inl ?_;have e':Value.isStrOf k (.str x t)=true:=e;first | exact (eq_of_beq e').symm | exact eq_of_beq e' | exact of_decide_eq_true e' | exact (of_decide_eq_true e').symm
   ·exact .inr ⟨v,hv,e⟩
section
variable {prog:Program} {w:World} {A:Around} {E:Value->Shared->Prop} {s:Shared}
theorem Om {a:Addr} {o:Obj} {es:Array (Int × Value)} {ep:Nat} {t:SetTable} {Q:Bool->Shared->Prop} (ho:s.heap.get? a=some o) (hd:o.data=.set es ep t) (fit:t.fits es.size=true)
  (h:Q (!w.params.followText "set-order" && (!t.plain && decide (es.size > 1))) s):wpAny (model prog w) A (setDrawn a) Q E s:=by
 unfold setDrawn;refine wpAny_bind (wpAny_setState_of ho hd fit ?_);dsimp only;unfold setsByText;exact wpAny_bind (wpAny_bind (wpAny_askSetting (wpAny_pure (wpAny_pure h))))
theorem Oq {a:Addr} {S:Str->Bool} {n:Nat} {Q:Value->Shared->Prop} (hS:Dm prog w s.heap a S n)
  (h:∀ (h':Heap) (dr:Drawn) (I:Addr) (fp:List Addr) (vs:List Value) (ks:List Str) (St:Nat->Heap->Prop),(∀ b o,s.heap.get? b=some o->h'.get? b=some o)->s.heap.objs.size<=I->(∀ b ∈ fp,b=a\/s.heap.objs.size<=b) ->
   StrsAre vs ks->(∀ k,S k=true ↔ k ∈ ks)->ks.length=n->(∀ B:Around,B.handled=none->Walks prog w B I fp [I] vs.length (fun i v=>vs[i]? = some v) St)->St 0 h'->Q (.ref I) { s with heap:=h',drawn:=dr }) :
  wpAny (model prog w) A (pyIter (.ref a)) Q E s:=by
 obtain ⟨o,es,ep,t,ho,ex,hd,el,mem,few,fit,hn,tab⟩:=hS;have lt:a < s.heap.objs.size:=Ye ho;have strE:∀ e ∈ es.toList,∃ x tk,e.2=Value.str x tk:=fun e he=>by
  obtain ⟨⟨k,hk,_⟩,_⟩:=el e he;have M1:Value.isStrOf k e.2=true:=hk;cases z:e.2 <;> rw [z] at M1 <;> first | exact ⟨_,_,rfl⟩ | (simp [Value.isStrOf] at M1)
 have tx:∀ vs:List Value,vs.Perm (es.toList.map (·.2))->∃ ks,StrsAre vs ks/\(∀ k,S k=true ↔ k ∈ ks)/\ks.length=n:=fun vs pm=>by
  obtain ⟨ks,r⟩:=KN (vs:=vs) fun v hv=>by
   obtain ⟨e,he,rfl⟩:=Yc.mp (pm.mem_iff.mp hv);exact strE e he
  refine ⟨ks,r,fun k=>?_,by rw [<-r.length,pm.length_eq,XJ,Y0]; exact hn⟩;rw [mem,Qb (P:=prog) (w:=w) r];constructor
  ·rintro ⟨e,he,z⟩;exact ⟨e.2,pm.mem_iff.mpr (Yc.mpr ⟨e,he,rfl⟩),z⟩
  ·rintro ⟨v,hv,z⟩;obtain ⟨e,he,rfl⟩:=Yc.mp (pm.mem_iff.mp hv);exact ⟨e,he,z⟩
 have hT:s.TypeIs (.ref a) "set":=⟨o,ho,ex.1⟩
 refine wpAny_pyIter_slot hT F.slot_set_iter (wpAny_call_entry F.slot_set_iter hT Ir ?_ (F.args_set_iter_1 _));unfold Builtin.«frozenset.__iter__» Builtin.Frozenset.slot0 slotArgs;simp only [List.isEmpty_nil,cq,Y1,↓reduceIte,bind_assoc,bP,bne_self_eq_false];unfold Builtin.Frozenset.addrOf Builtin.Frozenset.sizeOf;refine wpAny_bind (wpAny_pure ?_);try dsimp only
 refine wpAny_bind (wpAny_pure ?_);refine wpAny_bind (wpAny_bind (wpAny_setEntries_of ho hd fit (wpAny_pure ?_)));refine wpAny_bind (Om ho hd fit ?_);by_cases z:(!w.params.followText "set-order" && (!t.plain && decide (es.size > 1)))=true
 ·rw [if_pos z];refine wpAny_bind (M9 es.size (Zi es.size) _ _ (by rw [Zz]) fun is dr pm=>?_);refine wpAny_bind (wpAny_newTuple ?_ (by rw [XJ,pm.length_eq,Zz]; exact fits_of_scanBound few));refine wpAny_bind (wpAny_setEpoch_of (XQ _ ho) hd fit ?_);refine wpAny_bind (wpAny_newObj_type (wpAny_pure ⟨_,rfl,"set_iterator",_,⟨_,Yf _ rfl,rfl⟩,AD.lookup,?_⟩));have rng:∀ j ∈ is,j < es.size:=fun j hj=>ZE.mp (pm.mem_iff.mp hj)
  have pv:(is.map fun j=>((es[j]?).map (·.2)).getD Value.none).Perm (es.toList.map (·.2)):=by
   refine (pm.map _).trans ?_;refine List.Perm.of_eq (Ze (by simp) fun i h1 h2=>?_);have:i < es.size:=by simpa using h2
   simp [this]
  obtain ⟨ks,r1,r2,r3⟩:=tx _ pv;refine h _ dr _ [(s.heap.push (O7 is 0)).objs.size,a,s.heap.objs.size] _ ks _ (fun b o e=>XQ _ (XQ _ e)) (by rw [size_push']; exact Y8 _) (fun b hb=>?_) r1 r2 r3
   (fun B hB=>LX hB _ a s.heap.objs.size (by rw [size_push']; exact Yh (Yy lt)) (by rw [size_push']; exact Yh (Y6 _)) hd fit is _ (by simp) fun i v e=>?_)
   ⟨Yf _ rfl,XQ _ (XQ _ ho),XQ _ (Yf _ rfl)⟩
  ·simp only [XX,Yg,or_false] at hb;rcases hb with rfl | rfl | rfl
   ·exact .inr (by rw [size_push']; exact Y8 _)
   ·exact .inl rfl
   ·exact .inr (Ya _)
  ·rw [Yd] at e;cases ej:is[i]? with
   | none=>rw [ej] at e; cases e
   | some j=>
    rw [ej] at e;have hj:=rng j (XY ej);have e5:es[j]? = some es[j]:=by simp [hj]
    simp only [bF,e5,Option.getD_some,Yo.injEq] at e;exact ⟨j,es[j].1,rfl,by rw [e5,<-e]⟩
 ·rw [if_neg z];refine wpAny_bind (wpAny_pure ?_);refine wpAny_bind (wpAny_setEpoch_of ho hd fit ?_);refine wpAny_bind (wpAny_newObj_type (wpAny_pure ⟨_,rfl,"set_iterator",_,⟨_,Yf _ rfl,rfl⟩,AD.lookup,?_⟩));have UA:w.params.followText "set-order"=false->es.size<=1:=fun q=>by
   rcases ZP 1 es.size with y | y
   ·rw [q,tab.2 (by lia)] at z;simp [y] at z
   ·exact y
  have go:∀ (vs:List Value) (sl:Nat->Nat),sl 0=0->vs.Perm (es.toList.map (·.2))->(∀ (i:Nat) (v:Value),vs[i]? = some v->CI w a es ep t (sl i) i=some (v,sl (i + 1)))->CI w a es ep t (sl vs.length) vs.length=none ->
    Q (.ref s.heap.objs.size) { s with heap:=s.heap.push (Dp (rawInt 0) 0 a es.size ep) }:=fun vs sl s0 pm h1 h2=>by
   obtain ⟨ks,r1,r2,r3⟩:=tx _ pm;refine h _ s.drawn _ [s.heap.objs.size,a] vs ks _ (fun b o e=>XQ _ e) (Ya _) (fun b hb=>?_) r1 r2 r3 (fun B hB=>LW hB _ a (Yh lt) hd fit tab UA vs sl h1 h2) ⟨?_,XQ _ ho⟩
   ·simp only [XX,Yg,or_false] at hb;rcases hb with rfl | rfl
    ·exact .inr (Ya _)
    ·exact .inl rfl
   ·rw [s0]; exact Yf _ rfl
  by_cases ft:w.params.followText "set-order"=true
  ·refine go ((pickOrder (w.params.setOrder a ep) es).toList.map (·.2)) (fun _=>0) rfl ((O3 _ es).map _) (fun i v e=>?_) ?_
   ·unfold CI;rw [if_pos ft];rw [Yd,YW] at e;cases y:(pickOrder (w.params.setOrder a ep) es)[i]? with
    | none=>rw [y] at e; cases e
    | some x=>rw [y] at e; cases e; rfl
   ·unfold CI;rw [if_pos ft];simp
  ·have sm:=UA (by simpa using ft);refine go (es.toList.map (·.2)) (fun i=>if i=0 then 0 else t.place.getD 0 0 + 1) rfl (.refl _) (fun i v e=>?_) ?_
   ·unfold CI;rw [if_neg ft];have i0:i < es.size:=by
     have:=(Yb.mp e).1;simpa using this
    have z1:es.size=1:=by lia
    have i1:i=0:=by lia
    subst i1;obtain ⟨x,rfl⟩:∃ x,es=#[x]:=⟨es[0],aQ (by simpa using z1) fun j a1 a2=>by
     have:j=0:=by lia
     subst this; rfl⟩
    have pz:t.place.size=1:=by
     simp only [SetTable.fits,YA,beq_iff_eq] at fit;exact fit.1
    obtain ⟨y,ey⟩:∃ y,t.place=#[y]:=⟨t.place[0],aQ (by simpa using pz) fun j a1 a2=>by
     have:j=0:=by lia
     subst this; rfl⟩
    rw [ey];simp at e;subst e;rfl
   ·unfold CI;rw [if_neg ft];rcases bI es.size with z0 | z0
    ·have:es=#[]:=Array.eq_empty_of_size_eq_zero z0;subst this;rfl
    ·have z1:es.size=1:=by lia
     obtain ⟨x,rfl⟩:∃ x,es=#[x]:=⟨es[0],aQ (by simpa using z1) fun j a1 a2=>by
      have:j=0:=by lia
      subst this; rfl⟩
     have pz:t.place.size=1:=by
      simp only [SetTable.fits,YA,beq_iff_eq] at fit;exact fit.1
     obtain ⟨y,ey⟩:∃ y,t.place=#[y]:=⟨t.place[0],aQ (by simpa using pz) fun j a1 a2=>by
      have:j=0:=by lia
      subst this; rfl⟩
     rw [ey];simp [SetTable.below,SetTable.below.go]
end
section
variable {prog:Program} {w:World} {A:Around} {E:Value->Shared->Prop} {s:Shared}
theorem Qq {r:Addr} {Q:Bool->Shared->Prop} (hT:s.TypeIs (.ref r) "set") (h:∀ b,Q b s):wpAny (model prog w) A (Builtin.List.listLengthHint (.ref r)) Q E s:=by
 unfold Builtin.List.listLengthHint;refine wpAny_bind (wpAny_specialOf hT PySem.F.slot_set_len.lookup ?_);generalize hid:("set.__len__":String)=id0;wp_delta;rw [show splitId id0=some ("set","__len__") from by subst hid; decide +kernel];subst hid;refine wpAny_bind (wpAny_isInstance (T:="set") (b:=true) hT (by rw [isSubtype_type]; kernel_rfl) ?_);refine wpAny_ite_split (fun z=>absurd z (by decide)) (fun _=>?_);refine wpAny_ite_split (fun _=>?_) (fun z=>absurd (by decide +kernel) z);refine wpAny_bind (wpAny_typeOf hT ?_);exact wpAny_pure (h _)
theorem Ka {a:Addr} {S:Str->Bool} {n:Nat} {R:List Value->Shared->Prop} (hh:A.handled=none) (hS:Dm prog w s.heap a S n)
  (h:∀ (h':Heap) (tk:Nat) (dr:Drawn) (vs:List Value) (ks:List Str),(∀ b o,s.heap.get? b=some o->h'.get? b=some o)->StrsAre vs ks->(∀ k,S k=true ↔ k ∈ ks)->ks.length=n->R vs { s with heap:=h',toks:=tk,drawn:=dr }) :
  wpAny (model prog w) A (collect (.ref a)) R E s:=by
 have hn:n < scanBound:=by obtain ⟨o,es,ep,t,ho,ex,hd,el,mem,few,fit,hn,tab⟩:=hS; lia
 have Xl:n<=sizeLine:=fits_of_scanBound hn;have lt:a < s.heap.objs.size:=by obtain ⟨o,es,ep,t,ho,r⟩:=hS; exact Ye ho
 unfold collect;refine wpAny_bind (wpAny_runValue (codeAny_builtin entry_proto_collect' ?_));rw [Around.under_plainId PySem.F.plain_proto_collect _];show wpAny _ A.in1 (newList [] >>= fun l=>again (.builtin "list.__iadd__" ⟨[l,.ref a],[]⟩)) _ _ s
 refine wpAny_bind (wpAny_newObj_type ?_);refine wpAny_pure ⟨plainId_quiet PySem.F.plain_list_iadd _,codeAny_builtin entry_list_iadd' ?_⟩;rw [Around.under_plainId PySem.F.plain_list_iadd _];have e1:(s.heap.push { cls:=.type "list",data:=.seq ([]:List Value).toArray }).get? s.heap.objs.size=some { cls:=.type "list",data:=.seq #[] }:=Yf _ rfl;show wpAny _ A.in1 (Builtin.List.listExtendWith (.ref s.heap.objs.size) (.ref a) (.ref s.heap.objs.size)) _ _ _
 have hS1:Dm prog w (s.heap.push { cls:=.type "list",data:=.seq ([]:List Value).toArray }) a S n:=hS.kept fun o e=>XQ _ e
 unfold Builtin.List.listExtendWith;have hT:Shared.TypeIs { s with heap:=s.heap.push { cls:=.type "list",data:=.seq ([]:List Value).toArray } } (.ref a) "set":=by
  obtain ⟨o,es,ep,t,ho,ex,r⟩:=hS1;exact ⟨o,ho,ex.1⟩
 refine wpAny_bind (wpAny_typeOf hT ?_);have e2:Builtin.List.listSameRef (.ref s.heap.objs.size) (.ref a)=false:=by simp [Builtin.List.listSameRef,YL lt]
 have e3:(Value.type "set" == Value.type "list")=false:=by decide
 have e4:(Value.type "set" == Value.type "tuple")=false:=by decide
 simp only [e2,e3,e4,cg,Y1,if_false];refine wpAny_bind (Oq hS1 fun h1 dr I fp vs ks St kk hI hfp sv mem len hW st=>?_);have k1:∀ b o,s.heap.get? b=some o->h1.get? b=some o:=fun b o e=>kk b o (XQ _ e)
 have eS:=kk _ _ e1;have VL:Shared.TypeIs { s with heap:=h1,drawn:=dr } (.ref a) "set":=by
  obtain ⟨o,es,ep,t,ho,ex,r⟩:=hS;exact ⟨o,k1 _ _ ho,ex.1⟩
 have szI:(s.heap.push { cls:=.type "list",data:=.seq ([]:List Value).toArray }).objs.size=s.heap.objs.size + 1:=size_push' ..;have nf:s.heap.objs.size ∉ fp:=fun z=>by
  rcases hfp _ z with e | e
  ·exact absurd e (YL lt)
  ·rw [szI] at e; exact absurd e (Nat.not_le_of_lt (Y6 _))
 have vl:vs.length=n:=by rw [sv.length]; exact len
 have key:∀ (h2:Heap) (c tk:Nat),St 0 h2->(∀ b o,b ≠ s.heap.objs.size->h1.get? b=some o->h2.get? b=some o)->h2.get? s.heap.objs.size=some { cls:=.type "list",data:=.seq #[] c } ->
   codeAny (model prog w) A (.builtin "list.extend.loop" ⟨[.ref s.heap.objs.size,.ref I,.ref s.heap.objs.size],[]⟩) (fun (q:Result) (s':Shared)=>∃ (h':Heap) (tk:Nat) (acc:Array Value) (c':Nat),q=.ok (.ret (.ref s.heap.objs.size))/\s' = { s with heap:=h',toks:=tk,drawn:=dr } /\
    (∀ b o,s.heap.get? b=some o->h'.get? b=some o)/\h'.get? s.heap.objs.size=some { cls:=.type "list",dict:=none,data:=.seq acc c',slots:=#[] }/\ItemsOf (fun i v=>vs[i]? = some v) acc vs.length) { s with heap:=h2,toks:=tk,drawn:=dr }:=by
  intro h2 c tk ER k2 g2;refine codeAny_extend_loopS (hW _ (by simp [hh])).toS (by rw [vl]; exact Xl) s.heap.objs.size nf (.ref s.heap.objs.size) vs.length 0 _ #[] c rfl (Y9 _) ER g2 (ItemsOf.nil _) fun s' acc c' m g' ia=>?_
  refine ⟨s'.heap,s'.toks,acc,c',rfl,?_,fun b o e=>?_,g',ia⟩
  ·rw [Moved.eq_with m]
  ·have lb:=Ye e;refine m.heap b o (fun z=>?_) (k2 b o (Yh lb) (k1 b o e));rcases XX.mp z with y | y
   ·exact Yh lb y
   ·rw [Yn.mp y] at lb;rw [szI] at hI;exact absurd lb (Nat.not_lt_of_le (Nat.le_of_succ_le hI))
 refine wpAny_mono (Q:=fun fin s'=>match fin with | .done f=>False | .again c'=>c'.quiet=true/\codeAny (model prog w) A c' (fun (q:Result) (s':Shared)=>∃ (h':Heap) (tk:Nat) (acc:Array Value) (c':Nat),q=.ok (.ret (.ref s.heap.objs.size))/\s' = { s with heap:=h',toks:=tk,drawn:=dr } /\
    (∀ b o,s.heap.get? b=some o->h'.get? b=some o)/\h'.get? s.heap.objs.size=some { cls:=.type "list",dict:=none,data:=.seq acc c',slots:=#[] }/\ItemsOf (fun i v=>vs[i]? = some v) acc vs.length) s') (E:=fun _ _=>False) ?_ (fun fin s' x=>?_) fun e s' x=>x.elim
 ·refine wpAny_bind (wpAny_holding (Qq VL fun b=>?_));refine wpAny_ite_split (fun _=>?_) (fun _=>wpAny_pure ⟨plainId_quiet PySem.F.plain_extend_loop _,key _ _ _ st (fun b o _ e=>e) eS⟩);refine wpAny_bind (wpAny_rule ?_);refine wpAny_bind ?_;show wpAny _ _ (updateSeq s.heap.objs.size (·.push .none) >>= fun _=>updateSeq s.heap.objs.size (·.pop)) _ _ _
  refine wpAny_bind (wpAny_updateSeq eS rfl ?_);have eS2:=YH (Obj.mapSeq (·.push Value.none)) eS rfl;refine wpAny_updateSeq (hz:=by seq_fits) eS2 rfl ?_;have eS3:=YH (Obj.mapSeq (·.pop)) eS2 rfl;have oth:∀ b o,b ≠ s.heap.objs.size->h1.get? b=some o->((h1.update s.heap.objs.size (Obj.mapSeq (·.push Value.none))).update s.heap.objs.size (Obj.mapSeq (·.pop))).get? b=some o:=fun b o hb e=>
   (YG _ _ (Ne.symm hb)).trans ((YG _ _ (Ne.symm hb)).trans e)
  refine wpAny_pure ⟨plainId_quiet PySem.F.plain_extend_loop _,key _ _ _ ?_ oth eS3⟩;exact (hW A (by simp [hh])).frame 0 _ _ st fun b hb o e=>oth b o (fun z=>nf (z ▸ hb)) e
 ·cases fin with
  | done f=>exact x.elim
  | again c₁=>
   refine ⟨x.1,codeAny_mono x.2 fun q Em y=>?_⟩;obtain ⟨h',tk,acc,c',rfl,rfl,hk,N4,ia⟩:=y;show wpAny _ A (load s.heap.objs.size >>= _) _ _ _
   refine wpAny_bind (wpAny_load N4 ?_);have:acc.toList=vs:=Ze (by rw [Y0]; exact ia.1) fun i h1 h2=>by
    have h3:i < acc.size:=by simpa using h1
    have this:vs[i]? = some acc[i]:=ia.2 i acc[i] (by simp [h3]);rw [XO h2] at this;simpa using (Yo.inj this).symm
   refine wpAny_pure ?_;have q:=h h' tk dr vs ks hk sv mem len;rw [<-this] at q;exact q
theorem KZ {a:Addr} {S:Str->Bool} {n:Nat} {Q:Value->Shared->Prop} (hh:A.handled=none) (hS:Dm prog w s.heap a S n) (IK:n < 64)
  (h:∀ (h':Heap) (tk:Nat) (dr:Drawn) (l:Addr) (us:List Value) (e:Nat) (ss ks:List Str),(∀ b o,s.heap.get? b=some o->h'.get? b=some o)->s.heap.get? l=none->h'.get? l=some (seqObj "list" us.toArray e)->StrsAre us ss->ss.Perm ks->sortedS ss=true ->
   (∀ k,S k=true ↔ k ∈ ks)->ks.length=n->Q (.ref l) { s with heap:=h',toks:=tk,drawn:=dr }) :
  wpAny (model prog w) A (call (.builtin "sorted") [.ref a]) Q E s:=by
 refine Calls.call_function_entry kind_sorted plain_sorted entry_sorted (args_sorted1 _) ?_;unfold Builtin.«sorted»;refine wpAny_bind (m:=checkCount "sorted" 1 1 _) (wpAny_pure ?_);refine wpAny_bind (Ka (A:=A.in1) hh hS fun h' tk dr vs ks hk sv mem len=>?_);have hl:vs.length=n:=by rw [sv.length]; exact len
 refine wpAny_bind (wpAny_newList ?_ (Yv (show vs.length<=64 by lia) (by decide)));have g:(h'.push (seqObj "list" vs.toArray 0)).get? h'.objs.size=some (seqObj "list" vs.toArray 0):=Yf _ rfl;show wpAny _ _ _ _ _ { s with heap:=h'.push (seqObj "list" vs.toArray 0),toks:=tk,drawn:=dr }
 refine wpAny_bind (wpAny_holding (wpAny_call_entry slot_list_sort ⟨_,g,rfl⟩ entry_list_sort (list_sort_treeK strKind_oneLt (s:={ s with heap:=h'.push (seqObj "list" vs.toArray 0),toks:=tk,drawn:=dr }) g sv.keysOf (fun WB WA Cu e=>keyKind_strs (by rw [<-e]; exact sv)) (by rw [hl]; exact IK) fun AH a1 a2=>⟨_,rfl,?_⟩) (args_list_sort _)));refine wpAny_pure ⟨_,rfl,?_⟩;obtain ⟨ss,b1,b2,b3⟩:=sorted_out_str sv a1 a2;obtain ⟨e,he⟩:=sortedHeap_at (out:=(arrOf AH).map (·.2)) g;refine h _ tk dr h'.objs.size ((arrOf AH).map (·.2)).toList e ss ks (fun b o q=>?_) ?_ (by rw [bc]; exact he) b1 b2 b3 mem len
 ·have q':=hk b o q;have lt:=Ye q';rw [sortedHeap_old (Yh lt) (by rw [size_push']; exact Yy lt)];exact XQ _ q'
 ·cases z:s.heap.get? h'.objs.size with
  | none=>rfl
  | some o=>exact absurd (Ye (hk _ _ z)) (YI _)
end
def SetW (P:Program) (w:World) (a:Addr) (S:Str->Bool) (n:Nat):HO:=.ext fun h=>Dm P w h a S n
theorem IS:isSubtype (.type "tuple") (.type "set")=pure false:=by rw [isSubtype_type]; kernel_rfl
theorem EO:isSubtype (.type "tuple") (.type "frozenset")=pure false:=by rw [isSubtype_type]; kernel_rfl
def setS (P:Program) (w:World) (a:Addr) (ss:List Str):HO:=SetW P w a (fun k=>(ss.foldl step_dedup []).any (· == k)) (ss.foldl step_dedup []).length
theorem RW {X:Cx} {pins:List (Addr × Obj)} {σ:St} {H:Hp} {s:Shared} (I:Ao X pins σ H s) {h':Heap} {tk:Nat} {ss:List Str} (hS:Dm X.prog X.w h' s.heap.objs.size (fun k=>(ss.foldl step_dedup []).any (· == k)) (ss.foldl step_dedup []).length)
  (kk:∀ b o,s.heap.get? b=some o->h'.get? b=some o):Ao X pins σ (upd H s.heap.objs.size (setS X.prog X.w s.heap.objs.size ss)) { s with heap:=h',toks:=tk }:=by
 obtain ⟨oS,e1,e2,e3,hoS,Cu⟩:=id hS;refine I.laid (a:=s.heap.objs.size) (o:=setS X.prog X.w s.heap.objs.size ss) (t':=tk) kk (Ya _) ⟨hS,⟨_,hoS⟩,fun h1 h2 z st=>?_⟩;exact z.kept fun o e=>st _ e
theorem LK (K:XU) {X:Cx} (hK:X.K=K) (hc:X.calm=true):Bg X (.type "set") (fun xs H Q=>∃ (a:Addr) (ss:List Str),xs=[.ref a]/\(AM K H a (ss.map V.str)\/AE K H a (ss.map V.str))/\ss.length<=1000 /\
  ∀ D,H D=none->Q (.ref D) (upd H D (setS X.prog X.w D ss))):=by
 subst hK;intro pins s σ H xs us Q I r h;obtain ⟨a,ss,rfl,ha,hl,q⟩:=h;obtain ⟨u,rfl,ru⟩:=BR r;cases ru
 have txt:∀ Aq:List Value,Az (ss.map V.str) Aq->∀ (i:Nat) v,Aq.toArray[i]? = some v->∃ tk,v=.str (ss.getD i (Str.ofString "")) tk:=fun Aq rv i v e=>by
  have il:Aq.length=ss.length:=by rw [<-rv.length,XJ]
  have e':Aq[i]? = some v:=by simpa using e
  have hi:i < Aq.length:=(Yb.mp e').1;have e3:(ss.map V.str)[i]? = some (.str ss[i]):=by rw [Yd,XO (by lia)]; rfl
  obtain ⟨v',e4,r4⟩:=rv.get e3;rw [e'] at e4;cases e4
  obtain ⟨t,rfl⟩:=r4;exact ⟨t,by simp [Yw,XO (show i < ss.length by lia)]⟩
 have fin:∀ Aq:List Value,Az (ss.map V.str) Aq->∀ (h':Heap) (tk:Nat),Dm X.prog X.w h' s.heap.objs.size (fun k'=>(met (fun i=>ss.getD i (Str.ofString "")) Aq.toArray.size).any (· == k')) (met (fun i=>ss.getD i (Str.ofString "")) Aq.toArray.size).length ->
   (∀ b o,s.heap.get? b=some o->h'.get? b=some o)->∃ v H',Ao X pins σ H' { s with heap:=h',toks:=tk }/\A1 v (.ref s.heap.objs.size)/\Q v H':=fun Aq rv h' tk hS kk=>by
  have es:Aq.toArray.size=ss.length:=by rw [Yp,<-rv.length,XJ]
  rw [es,Lu] at hS;exact ⟨.ref s.heap.objs.size,_,RW I hS kk,rfl,q _ (I.hok.fresh (Ya _))⟩
 have bnd:∀ Aq:List Value,Az (ss.map V.str) Aq->Aq.toArray.size + 1 < scanBound:=fun Aq rv=>by
  rw [Yp,<-rv.length,XJ];unfold scanBound;lia
 rcases ha with ha | ha
 ·obtain ⟨Aq,rv,pl,hz⟩:=I.list ha;have il:=pl.isList;obtain ⟨o,ho,hcl,n,hdat⟩:=id il;refine MU (items:=Aq.toArray) (val:=fun i=>ss.getD i (Str.ofString "")) (St:=fun I' i h=>h.IsListIter I' a i/\h.IsList a Aq.toArray) (I.ok.hd hc) ho hcl (by decide) F.sub_list_set F.sub_list_frozenset
   (fun B E' s1 Q' k q'=>wpAny_pyIter_list ⟨o,k _ _ ho,hcl,n,hdat⟩ q') (fun B I' hB ne=>Walks.list hB I' a ne Aq.toArray) (fun h k=>⟨⟨_,Yf _ rfl,rfl,rfl⟩,⟨o,XQ _ (k _ _ ho),hcl,n,hdat⟩⟩) (txt Aq rv) (bnd Aq rv) fun h' tk hS kk=>?_
  exact fin Aq rv h' tk hS kk
 ·obtain ⟨Aq,rv,pl,hz⟩:=I.tuple ha;obtain ⟨o,ho,hcl,n,hdat⟩:=id pl;refine MU (items:=Aq.toArray) (val:=fun i=>ss.getD i (Str.ofString "")) (St:=fun I' i h=>h.IsTupleIter I' a i/\h.IsTuple a Aq.toArray) (I.ok.hd hc) ho hcl (by decide) IS EO
   (fun B E' s1 Q' k q'=>wpAny_pyIter_tuple ⟨o,k _ _ ho,hcl,n,hdat⟩ q') (fun B I' hB ne=>Walks.tuple hB I' a ne Aq.toArray) (fun h k=>⟨⟨_,Yf _ rfl,rfl,rfl⟩,⟨o,XQ _ (k _ _ ho),hcl,n,hdat⟩⟩) (txt Aq rv) (bnd Aq rv) fun h' tk hS kk=>?_
  exact fin Aq rv h' tk hS kk
theorem Fq (k:Str):∀ (ss σ:List Str),k ∈ ss.foldl step_dedup σ ↔ k ∈ σ\/k ∈ ss
 | [],σ=>by simp
 | x :: xs,σ=>by
  rw [bR,Fq k xs];have:k ∈ step_dedup σ x ↔ k ∈ σ\/k=x:=by
   unfold step_dedup;split
   ·rename_i h
    rw [Zp] at h;obtain ⟨y,hy,e⟩:=h;have e:=eq_of_beq e;subst e;exact ⟨.inl,fun z=>z.elim id fun e=>e ▸ hy⟩
   ·simp
  rw [this,XX];exact or_assoc
theorem DZ:∀ (ss σ:List Str),σ.Nodup->(ss.foldl step_dedup σ).Nodup
 | [],σ,h=>h
 | x :: xs,σ,h=>by
  rw [bR];refine DZ xs _ ?_;unfold step_dedup;split
  ·exact h
  ·rename_i hn
   refine YJ.mpr ⟨h,by simp,fun a ha b hb e=>hn ?_⟩;rw [Yn] at hb;subst hb e;exact Zp.mpr ⟨_,ha,by simp⟩
theorem Lh:∀ {l m:List Str},l.Nodup->(∀ x ∈ l,x ∈ m)->∃ r,m.Perm (l ++ r)
 | [],m,_,_=>⟨m,.refl _⟩
 | x :: l,m,nd,h=>by
  rw [YC] at nd;have p:=List.perm_cons_erase (h x (by simp));obtain ⟨r,pr⟩:=Lh (m:=m.erase x) nd.2 fun y hy=>(br (fun e:y=x=>nd.1 (e ▸ hy))).mpr (h y (Yr _ hy))
  exact ⟨r,p.trans (pr.cons _)⟩
theorem QB {l m:List Str} (nd:l.Nodup) (h:∀ x ∈ l,x ∈ m) (e:m.length=l.length):m.Perm l:=by
 obtain ⟨r,p⟩:=Lh nd h;have:=p.length_eq;rw [XZ] at this;have:r=[]:=YK.mp (by lia);subst this;simpa using p
theorem Ao.drew {X:Cx} {pins:List (Addr × Obj)} {σ:St} {H:Hp} {s:Shared} (I:Ao X pins σ H s) (dr:Drawn):Ao X pins σ H { s with drawn:=dr }:=
 ⟨I.ok,I.os,I.bare,I.base,I.loc,I.cell,I.free,I.freeC,I.pin,I.hok,I.len⟩
theorem GV {X:Cx} (hc:X.calm=true):Bg X (.builtin "sorted") (fun xs H Q=>∃ (a:Addr) (ss:List Str),xs=[.ref a]/\H a=some (setS X.prog X.w a ss)/\ss.length < 64 /\
  ∀ (l:Addr) (Ck:List Str),H l=none->Ck.Nodup->(∀ k,k ∈ Ck ↔ k ∈ ss)->sortedS Ck=true->Q (.ref l) (upd H l (.lst (Ck.map V.str)))):=by
 intro pins s σ H xs us Q I r h;obtain ⟨a,ss,rfl,ha,IK,q⟩:=h;obtain ⟨u,rfl,ru⟩:=BR r;cases ru
 have hS:Dm X.prog X.w s.heap a (fun k=>(ss.foldl step_dedup []).any (· == k)) (ss.foldl step_dedup []).length:=(I.hok a _ ha).1;have few:(ss.foldl step_dedup []).length<=ss.length:=by rw [<-Lu]; exact D4 _ _
 refine KZ (I.ok.hd hc) hS (by lia) fun h' tk dr l us e Ck ks k1 k2 k3 k4 k5 k6 k7 k8=>?_
 obtain ⟨m,hlm⟩:=id I.loc;obtain ⟨oL,esL,epL,hoL,rL⟩:=id hlm.1;have fl:H l=none:=by
  cases z:H l with
  | none=>rfl
  | some u=>
   obtain ⟨ob,e⟩:=A4.there (I.hok l u z);rw [k2] at e;cases e
 have mk:∀ k,k ∈ ks ↔ k ∈ ss:=fun k=>by
  rw [<-k7,Zp];have:=Fq k ss [];constructor
  ·rintro ⟨x,hx,e⟩;have e:=eq_of_beq e;subst e;exact (this.mp hx).resolve_left (by simp)
  ·intro z;exact ⟨k,this.mpr (.inr z),by simp⟩
 have pm:ks.Perm (ss.foldl step_dedup []):=QB (DZ ss [] Zy) (fun x hx=>(mk x).mpr (((Fq x ss []).mp hx).resolve_left (by simp))) k8;have I2:=I.laidF (h2:=h') (D:=l) (o:=.lst (Ck.map V.str)) hlm ⟨oL,esL,epL,k1 _ _ hoL,rL⟩ (fun b ob _ q=>k1 b ob q) k2 (fun z=>by rw [z,hoL] at k2; cases k2)
  ⟨by rw [XJ,k5.length_eq,k8,sizeLine_eq]; lia,us,e,Hm k4,k3⟩
 exact ⟨.ref l,_,(I2.kept (t':=tk) fun b u q=>q).drew dr,rfl,q l Ck fl (k5.nodup_iff.mpr (pm.nodup_iff.mpr (DZ ss [] Zy))) (fun k=>k5.mem_iff.trans (mk k)) k6⟩
end L2
namespace L2
open PySem PySem.Spec PySem.W PyProof.Rows
end L2
namespace L2
open PySem PySem.Spec PyProof.Rows
def B5 (l:List Str):Prop:=l.Pairwise fun a b=>a.cps.toList < b.cps.toList
theorem B5.nodup {l:List Str} (h:B5 l):l.Nodup:=List.Pairwise.imp (fun {a b} z e=>by subst e; exact Cd _ z) h
theorem B5.pw {l:List Str} (h:B5 l):l.Pairwise fun a b=>¬ b.cps.toList < a.cps.toList:=List.Pairwise.imp (fun {a b} z=>ZJ z) h
theorem Gg {l:List Str} (h:l.Pairwise fun a b=>¬ b.cps.toList < a.cps.toList) (nd:l.Nodup):B5 l:=by
 induction l with
 | nil=>exact .nil
 | cons x l ih=>
  rw [YY] at h;rw [YC] at nd;refine YY.mpr ⟨fun y hy=>?_,ih h.2 nd.2⟩;by_cases z:x.cps.toList < y.cps.toList
  ·exact z
  ·exact absurd (CB (h.1 y hy) z) (fun e=>nd.1 (e ▸ hy))
theorem DQ:∀ {ss l:List Str},B5 ss->B5 l->(∀ s ∈ ss,s ∈ l)->ss.Sublist l
 | [],l,_,_,_=>ZN _
 | x :: ss,[],_,_,h=>absurd (h x (by simp)) (by simp)
 | x :: ss,y :: l,h1,h2,h=>by
  have OU:=YY.mp h1;have T4:=YY.mp h2;by_cases e:x=y
  ·subst e;refine (DQ OU.2 T4.2 fun s hs=>?_).cons₂ _;rcases XX.mp (h s (Yr _ hs)) with rfl | z
   ·exact absurd (OU.1 _ hs) (Cd _)
   ·exact z
  ·refine (DQ h1 T4.2 fun s hs=>?_).cons _;rcases XX.mp (h s hs) with rfl | z
   ·have hx:=(XX.mp (h x (by simp))).resolve_left e;rcases XX.mp hs with rfl | hs
    ·exact absurd rfl e
    ·exact absurd (Zm (OU.1 _ hs) (T4.1 _ hx)) (Cd _)
   ·exact z
theorem B5.sub {ss l:List Str} (h:B5 l) (s:ss.Sublist l):B5 ss:=List.Pairwise.sublist s h
theorem DR {ss Ck:List Str} (nd:Ck.Nodup) (mem:∀ k,k ∈ Ck ↔ k ∈ ss) (srt:sortedS Ck=true):Ck=ss ↔ B5 ss:=
 ⟨fun e=>e ▸ Gg (Ce srt) nd,fun h=>Gd (Ce srt) h.pw (G2 nd h.nodup mem)⟩
def tyD:PyData->String
 | .none=>"NoneType"
 | .bool _=>"bool"
 | .int _=>"int"
 | .str _=>"str"
 | .list _=>"list"
 | .tuple _=>"tuple"
 | .dict _=>"dict"
theorem Ga.ty {K:XU} {H:Hp} {v:V} {d:PyData} (h:Ga H v d):EB K H v (.type (tyD d)):=by
 cases h with
 | non=>exact .non
 | bl b=>exact .bl b
 | int i=>exact .int i
 | str x=>exact .str x
 | tup e _=>exact .tup e
 | lst e _=>exact .lst e
theorem Ga.notStr {K:XU} {H:Hp} {v:V} {d:PyData} (h:Ga H v d) (n:∀ s,d ≠ .str s):R1 K H v:=by
 refine ⟨_,h.ty,?_⟩;cases d with
 | str s=>exact absurd rfl (n s)
 | _=>rfl
def NoTup (K:XU) (H:Hp) (v:V):Prop:=∃ ty,EB K H v ty/\ZR K ty (.type "tuple")=some false
theorem Iq:∀ (ss:List Str) (ds:List PyData),PyData.eqvAll (ss.map PyData.str) ds=true ↔ ds=ss.map PyData.str
 | [],[]=>by simp [PyData.eqvAll]
 | [],d :: ds=>by simp [PyData.eqvAll]
 | x :: ss,[]=>by simp [PyData.eqvAll]
 | x :: ss,d :: ds=>by
  rw [Ym,PyData.eqvAll,YA,Iq ss ds];constructor
  ·rintro ⟨h,rfl⟩;cases d with
   | str y=>
    rw [PyData.eqv] at h;rw [eq_of_beq h]
   | _=>rw [PyData.eqv] at h; cases h
  ·intro e;injection e with e1 e2;subst e1;refine ⟨?_,e2⟩;rw [PyData.eqv];simp
theorem LA (ss:List Str) (ds:List PyData):PyData.eqv (.list (ss.map PyData.str)) (.list ds)=true ↔ ds=ss.map PyData.str:=by
 rw [PyData.eqv]; exact Iq ss ds
theorem OZ (ss:List Str) (ds:List PyData):PyData.eqv (.tuple (ss.map PyData.str)) (.tuple ds)=true ↔ ds=ss.map PyData.str:=by
 rw [PyData.eqv]; exact Iq ss ds
theorem Bd.len {H:Hp}:∀ {xs:List V} {ds:List PyData},Bd H xs ds->xs.length=ds.length
 | _,_,.nil=>rfl
 | _,_,.cons _ r=>congrArg (· + 1) r.len
theorem Bd.at {H:Hp}:∀ {xs:List V} {ds:List PyData},Bd H xs ds->∀ {i:Nat} {v:V},xs[i]? = some v->∃ d,ds[i]? = some d/\Ga H v d
 | _,_,.nil,i,v,e=>by simp at e
 | _,_,.cons h r,0,v,e=>by
  simp only [YO,Yo.injEq] at e;subst e;exact ⟨_,rfl,h⟩
 | _,_,.cons h r,i + 1,v,e=>by
  simp only [Zv] at e;obtain ⟨d,e1,e2⟩:=r.at e;exact ⟨d,by simpa using e1,e2⟩
theorem Bd.txt {H:Hp}:∀ {xs:List V} {ss:List Str},Bd H xs (ss.map PyData.str)->xs=ss.map V.str
 | xs,[],h=>by cases h; rfl
 | xs,x :: ss,h=>by
  cases h with
  | cons h1 h2=>
   cases h1
   rw [h2.txt];rfl
def G5:PyData->Bool
 | .str s=>AV s
 | _=>false
theorem Gi:∀ {ds:List PyData},(ds.map G5).all id=true->∃ ss:List Str,ds=ss.map PyData.str/\∀ s ∈ ss,AV s=true
 | [],_=>⟨[],rfl,fun s hs=>nomatch hs⟩
 | d :: ds,h=>by
  rw [Ym,ag,YA] at h;obtain ⟨ss,rfl,hn⟩:=Gi h.2;cases d with
  | str x=>exact ⟨x :: ss,rfl,fun s hs=>(XX.mp hs).elim (fun e=>e ▸ h.1) (hn s)⟩
  | _=>exact absurd (show false=true from h.1) (by decide)
theorem JP {ss:List Str} (h:∀ s ∈ ss,AV s=true):((ss.map PyData.str).map G5).all id=true:=by
 rw [Y2,ar,Za];exact fun s hs=>h s hs
theorem Dn {ss Ck:List Str} (h:ss.map PyData.str=Ck.map PyData.str):ss=Ck:=by
 induction ss generalizing Ck with
 | nil=>cases Ck with
  | nil=>rfl
  | cons _ _=>cases h
 | cons x ss ih=>cases Ck with
  | nil=>cases h
  | cons y Ck=>
   injection h with h1 h2;injection h1 with h1;rw [h1,ih h2]
def KQ (K:XU):Sp:=fun vs H Q _=>∃ (t:Addr) (xs:List V) (ds:List PyData),vs=[.ref t]/\(H t=some (.lst xs)\/H t=some (.tup xs))/\Bd H xs ds/\(∀ s,PyData.str s ∈ ds->s.length<=1000)/\xs.length<=60 /\
 ∀ (b:Bool) (H':Hp),Au H H'->(b=true ↔ ∃ ss:List Str,ds=ss.map PyData.str/\(∀ s ∈ ss,AV s=true)/\B5 ss)->Q (.bl b) H'
def R3 (sites:List Str) (x:V) (ds:List PyData):Prop:=∃ ss:List Str,ds=ss.map PyData.str/\ss ≠ []/\ss.Sublist sites/\C2 x ss.length=true
def NP (H:Hp) (v:V) (ds:List PyData):Prop:=∃ (t:Addr) (xs:List V),v=.ref t/\H t=some (.tup xs)/\Bd H xs ds/\(∀ s,PyData.str s ∈ ds->s.length<=1000)/\xs.length<=60
def Qh (K:XU):Sp:=fun vs H Q _=>∃ (c:Addr) (sites:List Str) (x:V) (d:PyData) (v:V),vs=[.ref c,v]/\NV H c sites x d/\B5 sites/\(∀ s ∈ sites,AV s=true) /\
 ((∃ ds,NP H v ds/\∀ (b:Bool) (H':Hp),Au H H'->(b=true ↔ R3 sites x ds)->Q (.bl b) H')\/(NoTup K H v/\∀ H',Au H H'->Q (.bl false) H'))
end L2
namespace HT
open PySem PySem.Spec PyProof.Rows
section
variable {prog:Program} {w:World} {A:Around} {E:Value->Shared->Prop} {s:Shared}
end
end HT
namespace L2
open PySem PySem.Spec PyProof.Rows
section
variable {X:Cx} {Φ:St->Hp->Prop} {a b:Expr} {pos:Pos} {n m:Nat}
end
section
variable {Φ:St->Hp->Prop} {n:Nat}
end
theorem catA {K:XU} {H:Hp} {a b:Addr} {xs ys:List V} {Q:VK} (ha:H a=some (.tup xs)) (hb:H b=some (.tup ys)) (l:xs.length + ys.length<=sizeLine) (q:∀ T H',Au H H'->H' T=some (.tup (xs ++ ys))->Q (.ref T) H'):Q2 K (.ref a) (.ref b) H Q:=by
 refine ⟨a,b,xs,ys,rfl,rfl,AE.of ha,AE.of hb,l,fun e=>?_,fun _ e=>?_,fun _ _ T hT=>?_⟩
 ·refine q b H (Au.refl _) ?_;rw [hb,e];rfl
 ·refine q a H (Au.refl _) ?_;rw [ha,e,YN]
 ·exact q T _ (Ad hT) Ab
end L2
namespace L2
open PySem PySem.Builtin.Str PySem.StrLaws
end L2
namespace L2
open PySem PySem.Spec PyProof.Rows PySem.NumText
theorem Jg {X:Cx}:Bg X (.type "int") (fun xs H Q=>∃ (x:Str) (n:Int),xs=[.str x]/\PySem.intText? x=some n/\x.length<=640/\Q (.int n) H):=by
 intro pins s σ H xs us Q I r h;obtain ⟨x,n,rfl,e,l,q⟩:=h;obtain ⟨u,rfl,t,rfl⟩:=BR r;exact PySem.W.KIN.call_text e l ⟨.int n,H,I.tok _,⟨_,rfl⟩,q⟩
end L2
namespace L2
open PySem PySem.Spec PyProof.Rows
theorem QO {s:Str} (h:AV s=true):s.length<=10:=by
 obtain ⟨_,l,_⟩:=Mq h;lia
section
variable {prog:Program} {w:World} {A:Around} {E:Value->Shared->Prop} {s:Shared}
end
section
variable {prog:Program} {w:World} {A:Around} {E:Value->Shared->Prop} {s:Shared}
end
end L2
namespace HT
open PySem PySem.Spec PyProof.Rows
section
variable {prog:Program} {w:World} {A:Around} {E:Value->Shared->Prop} {s:Shared}
end
end HT
namespace L2
open PySem PySem.Spec PyProof.Rows
theorem NP.strs {H:Hp} {o:Addr} {ss:List Str} (ho:H o=some (.tup (ss.map V.str))) (l:ss.length<=60) (sh:∀ s ∈ ss,s.length<=1000):NP H (.ref o) (ss.map PyData.str):=by
 refine ⟨o,_,rfl,ho,Cg H ss,fun s hs=>?_,by rw [XJ]; exact l⟩;obtain ⟨y,hy,e⟩:=Yc.mp hs;cases e
 exact sh _ hy
theorem O8 (K:XU) {X:Cx} (h:X.K=K):EN X (compareOp .NotIn) (fun x y H Q=>∃ p xs,y=.ref p/\(AM K H p xs\/AE K H p xs)/\E2 x=true/\xs.all E2=true/\Q (.bl (!inV x xs)) H):=by subst h; exact Kn
def Qk:Sp:=fun vs H Q _=>∃ (c:Addr) (sites:List Str) (x:V) (d:PyData),vs=[.ref c]/\NV H c sites x d/\sites.length<=6 /\
 ∀ (H':Hp) (D:Addr) (us:List V) (os:List (List Str)),Au H H'->H D=none->H' D=some (.lst us)->Cs H' us os->Rz sites x os->os.length<=1024->Q (.ref D) H'
section
variable {H:Hp} {c m o t T:Addr} {n:Nat} {xs:List Str} {ws:List AF} {rs1 A2:List Cj} {x:V} {d:PyData} {ss:List Str} {zs:List (Str × Str)} {qs:List Cj} {lv:Int}
end
def Kj (a:Addr) (i l:Int):List V:=[.ref a,.int i,.int l]
theorem Nb (a:Addr) (i l:Int):K8 (Kj a i l) 0=some (.ref a):=rfl
theorem pn5_1 (a:Addr) (i l:Int):K8 (Kj a i l) 1=some (.int i):=rfl
theorem Q7 (a:Addr) (i l:Int):K8 (Kj a i l) 2=some (.int l):=rfl
def Ec (K:XU) (H:Hp) (p:Addr):Prop:=∃ (a:Addr) (ns:List Int) (i l:Int),H p=some (.lst (Kj a i l))/\ME K H a (ns.map V.int)/\ns.length<=63/\0<=i/\0<=l
theorem Ec.ne {K:XU} {H:Hp} {p q:Addr} (h:Ec K H p) (e:H q=none):q ≠ p:=by
 obtain ⟨a,ns,i,l,h,_⟩:=h;intro z; subst z; rw [h] at e; cases e
theorem ME.keep {K:XU} {H H':Hp} {a p:Addr} {xs:List V} {ys:List V} (h:ME K H a xs) (hp:H p=some (.lst ys)) (k:AZ p H H'):ME K H' a xs:=by
 rcases h with ⟨ob,h⟩ | h
 ·refine .inl ⟨ob,k _ _ (fun z=>?_) h⟩;subst z;rw [hp] at h;cases h
 ·exact .inr h
theorem Ec.same {K:XU} {H H':Hp} {p:Addr} (h:Ec K H p) (s:Au H H'):Ec K H' p:=by
 obtain ⟨a,ns,i,l,h,sc,r⟩:=h;exact ⟨a,ns,i,l,s _ _ h,sc.keep h (AZ.of_same s),r⟩
theorem Ec.other {K:XU} {H:Hp} {p D:Addr} {ys zs:List V} (h:Ec K H p) (hD:H D=some (.lst ys)) (ne:D ≠ p):Ec K (upd H D (.lst zs)) p:=by
 obtain ⟨a,ns,i,l,h,sc,r⟩:=h;refine ⟨a,ns,i,l,by rw [Af ne.symm]; exact h,?_,r⟩;rcases sc with ⟨ob,h'⟩ | h'
 ·refine .inl ⟨ob,?_⟩;rw [Af (by intro z; subst z; rw [hD] at h'; cases h')];exact h'
 ·exact .inr h'
theorem Ec.put {K:XU} {H:Hp} {p a:Addr} {ns:List Int} {i l i' l':Int} (hp:H p=some (.lst (Kj a i l))) (sc:ME K H a (ns.map V.int)) (ln:ns.length<=63) (i0:0<=i') (l0:0<=l'):Ec K (upd H p (.lst (Kj a i' l'))) p:=
 ⟨a,ns,i',l',Ab,sc.keep hp AZ.upd,ln,i0,l0⟩
theorem Gu {K:XU} {H H':Hp} {p:Addr} (hP:Ec K H p) (k:AZ p H H'):∀ b ys,H b=some (.tup ys)->H' b=some (.tup ys):=fun b ys z=>k b _ (by
 obtain ⟨_,_,_,_,q,_⟩:=hP;exact BI z q (fun y=>by cases y)) z
def DM (K:XU):Sp:=fun vs H Q _=>∃ (p:Addr) (m:Int),vs=[.ref p,.int m]/\Ec K H p/\0 < m/\m < 1073741824/\∀ (d:Int) (H':Hp),Ec K H' p->AZ p H H'->0<=d->d < m->Q (.int d) H'
def Mc (K:XU):Sp:=fun vs H Q _=>∃ p:Addr,vs=[.ref p]/\Ec K H p/\∀ (d:Int) (H':Hp),Ec K H' p->AZ p H H'->1<=d->d < 10 ^ 30->Q (.int d) H'
def KR (K:XU):Sp:=fun vs H Q _=>∃ (p:Addr) (n:Nat),vs=[.ref p,.int n]/\Ec K H p/\n<=26 /\
 ∀ (H':Hp) (D:Addr) (xs:List Str),Ec K H' p->AZ p H H'->H D=none->H' D=some (.lst (xs.map V.str))->xs.length=n->xs.Nodup->(∀ x ∈ xs,AV x=true)->Q (.ref D) H'
def MR (K:XU):Sp:=fun vs H Q _=>∃ (p e:Addr) (xs:List Str) (m:Nat),vs=[.ref p,.ref e,.int m]/\Ec K H p/\H e=some (.lst (xs.map V.str))/\e ≠ p/\xs.length<=30/\m<=xs.length /\
 ∀ (H':Hp) (D:Addr) (ys zs:List Str),Ec K H' p->AZ p H H'->H D=none->H' D=some (.lst (ys.map V.str))->(ys ++ zs).Perm xs->ys.length=m->sortedS ys=true->Q (.ref D) H'
def Ji:Nat->Str
 | 0=>Str.empty
 | n + 1=>⟨(Array.replicate (n + 1) 48)⟩
theorem Nz:∀ k:Fin 30,PySem.intText? (Str.ofString "1" ++ Ji k.1)=some (10 ^ k.1)/\(Ji k.1).length=k.1:=by decide +kernel
theorem PV:∀ k:Fin 30,1<=(10:Int) ^ k.1/\(10:Int) ^ k.1 + 10<=10 ^ 30:=by decide +kernel
theorem PB:∀ k:Fin 30,(⟨(bW k.1 (Str.ofString "0").cps).foldl (· ++ ·) #[]⟩:Str)=Ji k.1:=by decide +kernel
theorem Sj {X:Cx}:EN X (binaryOp .Mult) (fun x y H Q=>∃ n:Nat,x=.str (Str.ofString "0")/\y=.int n/\n < 30/\Q (.str (Ji n)) H):=by
 intro pins s σ H x y v u Q I rx ry h;obtain ⟨n,rfl,rfl,hn,q⟩:=h;obtain ⟨t,rfl⟩:=rx;obtain ⟨t',rfl⟩:=ry;have big:1000<=sizeLine:=by decide
 match n,hn,q with
 | 0,_,q=>exact PySem.P.mul_str_none (by decide) (by decide) ⟨.str Str.empty,H,I.tok _,⟨_,rfl⟩,q⟩
 | 1,_,q=>
  refine PySem.P.mul_str (by decide) (fun _ z=>by simp at z) (fun _ z=>by simp at z) ?_;rw [if_neg (by decide),if_pos (by simp)];exact ⟨.str _,H,I,⟨_,rfl⟩,by rw [show Str.ofString "0"=Ji 1 by decide +kernel]; exact q⟩
 | n + 2,hn,q=>
  have l1:(Str.ofString "0").length=1:=by decide +kernel
  have e:((n + 2:Nat):Int).toNat=n + 2:=rfl;refine PySem.P.mul_str (by rw [decide_eq_false (by lia),decide_eq_false (by lia)]; rfl) (fun _ _=>?_) (fun _ _=>?_) ?_
  ·rw [l1];have:(1:Int)<=(2 ^ 63 - 1) / ((n + 2:Nat):Int):=by
    rw [Int.le_ediv_iff_mul_le (by lia)];lia
   lia
  ·rw [l1,e];exact decide_eq_false (by show ¬ _; lia)
  ·rw [if_neg (by lia),if_neg (by rw [l1]; simp; lia),e,PB ⟨n + 2,hn⟩];refine ⟨?_,⟨.str _,H,I.tok _,⟨_,rfl⟩,q⟩⟩;have:=(Nz ⟨n + 2,hn⟩).2;lia
theorem G3 {α β:Type} (f:α->β) {m out:List β} (p:m.Perm out):∀ xs:List α,m=xs.map f->∃ ys:List α,ys.Perm xs/\out=ys.map f:=by
 induction p with
 | nil=>
  intro xs e;cases xs with
  | nil=>exact ⟨[],.nil,rfl⟩
  | cons a xs=>cases e
 | cons a p ih=>
  intro xs e;cases xs with
  | nil=>cases e
  | cons b xs=>
   simp only [Ym,ZD.injEq] at e;obtain ⟨ys,h1,rfl⟩:=ih xs e.2;exact ⟨b :: ys,h1.cons b,by rw [e.1]; rfl⟩
 | swap a b l=>
  intro xs e;match xs,e with
  | [],e=>cases e
  | [_],e=>cases e
  | x :: y :: xs,e=>
   simp only [Ym,ZD.injEq] at e;exact ⟨y :: x :: xs,.swap _ _ _,by rw [e.1,e.2.1,e.2.2]; rfl⟩
 | trans p q V4 V3=>
  intro xs e;obtain ⟨ys,h1,e1⟩:=V4 xs e;obtain ⟨zs,h2,e2⟩:=V3 ys e1;exact ⟨zs,h2.trans h1,e2⟩
theorem DJ {X:Cx}:Bg X (.builtin "sorted") (fun xs H Q=>∃ (t:Addr) (x y:Str),xs=[.ref t]/\H t=some (.lst [.str x,.str y])/\∀ l,H l=none->Q (.ref l) (upd H l (.lst [.str (BJ x y),.str (BK x y)]))):=by
 intro pins s σ H xs us Q I r h;obtain ⟨t,x,y,rfl,ht,q⟩:=h;refine BP (pins:=pins) s σ H _ us Q I r ⟨t,[x,y],rfl,AM.of ht,by show 2 < 64; decide,fun l Ck hl pm so=>?_⟩;have len:=pm.length_eq;match Ck,len with
 | [a,b],_=>
  obtain ⟨rfl,rfl⟩:=LY pm so;exact q l hl
def DG (u:AF):List A6:=[.inr (BJ u.1 u.2.1),.inr (BK u.1 u.2.1)]
def OJ (u:AF):List A6 × V:=(DG u,.int u.2.2)
theorem Ic {u v:AF} (e:DG u=DG v):DL u v:=by
 unfold DG at e;simp only [ZD.injEq,Sum.inr.injEq,and_true] at e;obtain ⟨e1,e2⟩:=e;unfold BJ at e1;unfold BK at e2;by_cases a:u.2.1.cps.toList < u.1.cps.toList <;> by_cases b:v.2.1.cps.toList < v.1.cps.toList
 ·rw [if_pos a,if_pos b] at e1;rw [if_neg (fun z=>Cd _ (Zm a z)),if_neg (fun z=>Cd _ (Zm b z))] at e2;exact .inl ⟨e2,e1⟩
 ·rw [if_pos a,if_neg b] at e1;rw [if_neg (fun z=>Cd _ (Zm a z))] at e2;by_cases c:v.1.cps.toList < v.2.1.cps.toList
  ·rw [if_pos c] at e2;exact .inr ⟨e2,e1⟩
  ·rw [if_neg c] at e2;rw [e1,e2] at a;exact absurd a (Cd _)
 ·rw [if_neg a,if_pos b] at e1;rw [if_neg (fun z=>Cd _ (Zm b z))] at e2;by_cases c:u.1.cps.toList < u.2.1.cps.toList
  ·rw [if_pos c] at e2;exact .inr ⟨e1,e2⟩
  ·rw [if_neg c] at e2;rw [<-e1,<-e2] at b;exact absurd b (Cd _)
 ·rw [if_neg a,if_neg b] at e1;by_cases c:u.1.cps.toList < u.2.1.cps.toList <;> by_cases d:v.1.cps.toList < v.2.1.cps.toList
  ·rw [if_pos c,if_pos d] at e2;exact .inl ⟨e1,e2⟩
  ·rw [if_pos c,if_neg d] at e2;rw [e1,e2] at c;exact absurd c (Cd _)
  ·rw [if_neg c,if_pos d] at e2;rw [<-e1,<-e2] at d;exact absurd d (Cd _)
  ·exact .inl ⟨e1,by rw [<-CB a c,e1]; exact CB b d⟩
theorem Na {us:List AF} {x:AF} (no:∀ u ∈ us,¬ DL u x):Bj (us.map OJ) (DG x) (.int x.2.2)=(us ++ [x]).map OJ:=by
 unfold Bj;rw [if_neg,Yi]
 ·rfl
 ·intro z;obtain ⟨q,hq,e⟩:=Zp.mp z;obtain ⟨u,hu,rfl⟩:=Yc.mp hq;exact no u hu (Ic (of_decide_eq_true e))
theorem valW {us:List AF} (sep:us.Pairwise fun u v=>¬ DL u v) {u:AF} (hu:u ∈ us):Bq (us.map OJ) (DG u)=some (.int u.2.2):=by
 obtain ⟨v',h1,h2⟩:=KH (Z9 (f:=OJ) hu);rw [show Bq (us.map OJ) (DG u)=Bq (us.map OJ) (OJ u).1 from rfl];have e1:(OJ u).1=DG u:=rfl;obtain ⟨w,hw,e⟩:=Yc.mp h2;have ek:DG w=DG u:=congrArg Prod.fst e;have ev:V.int w.2.2=v':=congrArg Prod.snd e;have al:=Ic ek;have same:w=u:=by
  by_cases z:w=u
  ·exact z
  ·obtain ⟨i,hi⟩:=Zc hw;obtain ⟨j,hj⟩:=Zc hu;obtain ⟨Pu,ei⟩:=Yb.mp hi;obtain ⟨IZ,ej⟩:=Yb.mp hj;rcases bN i j with l | l | l
   ·exact absurd (by rw [ei,ej]; exact al) (YQ.mp sep i j Pu IZ l)
   ·subst l;rw [ei] at ej;exact absurd ej z
   ·refine absurd ?_ (YQ.mp sep j i IZ Pu l);rw [ei,ej];rcases al with ⟨a,b⟩ | ⟨a,b⟩
    ·exact .inl ⟨a.symm,b.symm⟩
    ·exact .inr ⟨b.symm,a.symm⟩
 subst same;rw [<-ev] at h1;exact h1
theorem RK {us:List AF} {x:AF} (h:(Bq (us.map OJ) (DG x)).isSome=false):∀ u ∈ us,¬ DL u x:=by
 intro u hu al;have ek:DG u=DG x:=by
  unfold DG;rcases al with ⟨a,b⟩ | ⟨a,b⟩
  ·rw [a,b]
  ·rw [a,b,J7,J8]
 obtain ⟨v',h1,_⟩:=KH (Z9 (f:=OJ) hu);have h2:Bq (us.map OJ) (DG u)=some v':=h1;rw [ek] at h2;rw [h2] at h;cases h
theorem Ec.dict {K:XU} {H:Hp} {p D:Addr} {ys zs:List (List A6 × V)} (h:Ec K H p) (hD:H D=some (.dT ys)):Ec K (upd H D (.dT zs)) p:=by
 obtain ⟨a,ns,i,l,h,sc,r⟩:=h;refine ⟨a,ns,i,l,by rw [Af (BI h hD (fun z=>by cases z))]; exact h,?_,r⟩;rcases sc with ⟨ob,h'⟩ | h'
 ·refine .inl ⟨ob,?_⟩;rw [Af (BI h' hD (fun z=>by cases z))];exact h'
 ·exact .inr h'
structure M5 (K:XU) (H H':Hp) (p e W:Addr) (xs:List Str) (us:List AF):Prop where
 pn:Ec K H' p
 he:H' e=some (.lst (xs.map V.str))
 hw:H' W=some (.dT (us.map OJ))
 kp:AZ p H H'
 ne:e ≠ p
 nw:W ≠ p
 fw:H W=none
theorem M5.step {K:XU} {H H' MJ:Hp} {p e W:Addr} {xs:List Str} {us:List AF} (h:M5 K H H' p e W xs us) (P:Ec K MJ p) (k:AZ p H' MJ):M5 K H MJ p e W xs us:=
 ⟨P,k _ _ h.ne h.he,k _ _ h.nw h.hw,h.kp.trans k,h.ne,h.nw,h.fw⟩
theorem M5.add {K:XU} {H H':Hp} {p e W q:Addr} {xs:List Str} {us:List AF} (h:M5 K H H' p e W xs us) (hq:H' q=none) (o:HO):M5 K H (upd H' q o) p e W xs us:=
 h.step (h.pn.same (Ad hq)) (AZ.of_same (Ad hq))
theorem M5.put {K:XU} {H H':Hp} {p e W:Addr} {xs:List Str} {us:List AF} (h:M5 K H H' p e W xs us) (JW:List AF):M5 K H (upd H' W (.dT (JW.map OJ))) p e W xs JW:=
 ⟨h.pn.dict h.hw,by rw [Af (BI h.he h.hw (fun z=>by cases z))]; exact h.he,Ab,fun b o hb z=>by rw [Af (Ah z h.fw)]; exact h.kp b o hb z,h.ne,h.nw,h.fw⟩
theorem Uv {xs:List Str} {k:Nat} {ws:List AF} (h:GZ xs k ws) (hn:xs.Nodup) {x y:Str} {n:Int} (hy:xs[k]? = some y):∀ u ∈ ws,¬ DL u (x,y,n):=by
 intro u hu al;obtain ⟨i,j,a,b,c,d,_⟩:=h.of u hu;rcases al with ⟨_,e⟩ | ⟨e,_⟩
 ·have e':u.2.1=y:=e;rw [e'] at d;have:=Fi hn d hy;lia
 ·have e':u.1=y:=e;rw [e'] at c;have:=Fi hn c hy;lia
theorem PU {xs:List Str} {k:Nat} {ws:List AF} (h:GZ xs k ws) (hn:xs.Nodup) {x y:Str} {n:Int} {i:Nat} (hi:i < k) (hx:xs[i]? = some x) (hy:xs[k]? = some y) (n1:1<=n):GZ xs (k + 1) (ws ++ [(x,y,n)]):=
 h.more hn (Yb.mp hy).1 [i] (by simp) (by intro z hz; rw [Yn.mp hz]; exact hi) (by simp) rfl (fun q u j e1 e2=>by
  cases q with
  | zero=>
   simp at e1 e2;subst e1 e2;exact ⟨hx,hy,n1⟩
  | succ q=>simp at e2)
theorem NW {xs:List Str} {us:List AF} {x y:Str} {n:Int} (h:Ff xs us) (hx:x ∈ xs) (hy:y ∈ xs) (ne:x ≠ y) (hn:1<=n) (no:∀ u ∈ us,¬ DL u (x,y,n)):Ff xs (us ++ [(x,y,n)]):=by
 refine h.snoc hx hy ne hn fun u hu ⟨a,b⟩=>no u hu ?_
 have uu:=(h.1 u hu).2.2.1;rcases a with a | a <;> rcases b with b | b
 ·exact absurd (a.trans b.symm) ne
 ·exact .inl ⟨a.symm,b.symm⟩
 ·exact .inr ⟨b.symm,a.symm⟩
 ·exact absurd (a.trans b.symm) ne
def Qf (K:XU):Sp:=fun vs H Q _=>∃ (p e:Addr) (xs:List Str) (sh:Int),vs=[.ref p,.ref e,.int sh]/\Ec K H p/\H e=some (.lst (xs.map V.str))/\e ≠ p/\xs.Nodup/\(∀ x ∈ xs,AV x=true)/\1<=xs.length/\xs.length<=26/\0<=sh/\sh < 4 /\
 ∀ (H':Hp) (m:Addr) (ps:List Str) (ws:List AF),Ec K H' p->AZ p H H'->ps.Perm xs->Hf H' m xs.length ps ws->Q (.ref m) H'
structure R5 (K:XU) (H0 H':Hp) (p R:Addr) (rs:List Cj) (vs:List V):Prop where
 pn:Ec K H' p
 kp:∀ b o,b ≠ p->b ≠ R->H0 b=some o->H' b=some o
 hR:H' R=some (.lst vs)
 dd:Bd H' vs (rs.map Gf)
 nR:R ≠ p
theorem R5.step {K:XU} {H0 H' MJ:Hp} {p R:Addr} {rs:List Cj} {vs:List V} (h:R5 K H0 H' p R rs vs) (P:Ec K MJ p) (k:AZ p H' MJ):R5 K H0 MJ p R rs vs:=
 ⟨P,fun b o hb Ez z=>k b o hb (h.kp b o hb Ez z),k _ _ h.nR h.hR,BW h.dd (Gu h.pn k),h.nR⟩
theorem R5.add {K:XU} {H0 H':Hp} {p R q:Addr} {rs:List Cj} {vs:List V} (h:R5 K H0 H' p R rs vs) (hq:H' q=none) (o:HO):R5 K H0 (upd H' q o) p R rs vs:=
 h.step (h.pn.same (Ad hq)) (AZ.of_same (Ad hq))
theorem R5.app {K:XU} {H0 H':Hp} {p R T:Addr} {rs:List Cj} {vs:List V} {y:Str} {l:Int} (h:R5 K H0 H' p R rs vs) (hT:H' T=some (.tup [.str y,.int l])):R5 K H0 (upd H' R (.lst (vs ++ [.ref T]))) p R (rs ++ [(y,l)]) (vs ++ [.ref T]):=by
 refine ⟨h.pn.other h.hR h.nR,fun b o hb Ez z=>by rw [Af Ez]; exact h.kp b o hb Ez z,Ab,?_,h.nR⟩;rw [Yi];refine FP (BW h.dd fun b ys e=>?_) (.cons (MX (u:=(y,l)) (by rw [Af (BI hT h.hR (fun z=>by cases z))]; exact hT)) .nil);rw [Af (BI e h.hR (fun z=>by cases z))];exact e
theorem FA {xs ys zs:List Str} {rs:List Cj} {lo:Int} (pm:(ys ++ zs).Perm xs) (nd:xs.Nodup) (rt:rs.map (·.1)=ys) (rl:∀ r ∈ rs,lo<=r.2/\r.2 < 10 ^ 30) (one:1<=rs.length) {ps:List Str} (pp:ps.Perm xs):Gr ps lo rs:=
 ⟨fun r hr=>pp.mem_iff.mpr (pm.mem_iff.mp (YS _ (by rw [<-rt]; exact Z9 hr))),by rw [rt]; exact (YJ.mp (pm.nodup_iff.mpr nd)).1,rl,one⟩
structure Case5 (H:Hp) (c m:Addr) (n:Nat) (xs:List Str) (ws:List AF) (rs1 A2:List Cj) (x:V) (d:PyData):Prop where
 cw:Ci H c m n xs ws rs1 A2 x d
 n9:n<=9
 l6:rs1.length<=6
 l8:A2.length<=8
 so1:sortedS (rs1.map (·.1))=true
 so2:sortedS (A2.map (·.1))=true
def MT (K:XU):Sp:=fun vs H Q _=>∃ (p:Addr) (sh:Int),vs=[.ref p,.int sh]/\Ec K H p/\0<=sh/\sh < 4 /\
 ∀ (H':Hp) (c m:Addr) (n:Nat) (xs:List Str) (ws:List AF) (rs1 A2:List Cj) (x:V) (d:PyData),Ec K H' p->AZ p H H'->Case5 H' c m n xs ws rs1 A2 x d->Q (.ref c) H'
section
open PySem.SeqAt
open PySem.AutoSeq1 (wpAny_loadPart')
open PySem.MeetsSeq PySem.MeetsSeq2 PySem.MeetsSeq3
end
section
variable {X:Cx} {pins:List (Addr × Obj)} {σ:St} {H:Hp} {s:Shared}
end
section
variable {prog:Program} {w:World} {A:Around} {R:Result->Shared->Prop} {I:Addr} {fp wr:List Addr} {n:Nat} {P:Nat->Value->Prop} {St:Nat->Heap->Prop} {g0:Heap} {kw:List (Str × Value)}
end
section
variable {prog:Program} {w:World} {A:Around} {E:Value->Shared->Prop} {s:Shared}
end
theorem MA {X:Cx} {pins:List (Addr × Obj)} {σ:St} {H:Hp} {s:Shared} {a b:Addr} {k:List A6} {v:V} {u r:Value} {kvs:List (List A6 × V)} {A:Around} {E:Value->Shared->Prop} {Q:Unit->Shared->Prop} (hu:A.units + 1 < cLine) (I:Ao X pins σ H s) (e:H a=some (.dT kvs)) (eb:H b=some (.tup (k.map kV))) (l:kvs.length < sizeLine) (ry:A1 (.ref b) u) (rv:A1 v r)
  (h:∀ s',Ao X pins σ (upd H a (.dT (Bj kvs k v))) s'->Q () s'):wpAny (model X.prog X.w) A (dictSet a u r) Q E s:=by
 cases (show u=Value.ref b from ry)
 obtain ⟨z,hd,xs,rel,dd⟩:=T6 I.hok e;have hz:xs.length<=sizeLine:=by rw [<-Paired.length rel]; exact z
 have hl:(Bj kvs k v).length<=sizeLine:=by have:=CD kvs k v; lia
 refine wpAny_dictSet_heap (hsz:=hz) (show _ from (show A.units < cLine by lia)) (Fm I.hok eb) dd fun h' LU hs=>h _ ?_
 obtain ⟨q,es,ep,hq,h2,h3,h4,_,h5⟩:=LU;refine FQ I (by rw [e]; exact True.intro) hs ⟨q,hq⟩ ⟨hl,hd,_,(rel.put k eb rv).keeps fun c ys ec=>?_,q,es,ep,hq,h2,h3,h4,h5⟩;rw [Af (BI ec e (fun z=>nomatch z))];exact ec
def RS (wi:TI) (g:TG) (tt:TT) (tk tv:TE) (σ0:St->St):TE:=fun σ H Q=>wi σ H fun J H1=>∀ D,H1 D=none->∃ W:Nat->Nat->St->Hp->Prop,(∃ m,W 0 m (σ0 σ) (upd H1 D (.dT []))) /\
 ∀ i m Ay H',W i m Ay H'->(J.stop i H'/\Q (.ref D) H')\/(J.go i H'/\∀ x H2,J.yld i H' x H2->g x Ay H2 fun Ax H3=>tt Ax H3 fun b H4=>
  if b=true then tk Ax H4 (fun y H5=>tv Ax H5 fun v H6=>∃ kvs k b,y=.ref b/\H6 b=some (.tup (k.map kV))/\H6 D=some (.dT kvs)/\kvs.length < sizeLine/\∃ m',m' < m/\W (i + 1) m' Ax (upd H6 D (.dT (Bj kvs k v)))) else ∃ m',m' < m/\W (i + 1) m' Ax H4)
theorem J0 {X:Cx} {tg iter kx vx:Expr} {ifs:List Expr} {scope:Scope} {cl:List (Str × Addr)} {N:List Str} {pos:Pos} {wi:TI} {g:TG} {tt:TT} {tk tv:TE} {σ0:St->St} (hc:X.calm=true) (hu:X.A.units + 1 < cLine) (co:A8 X scope cl)
  (hσ:∀ σ,σ.length=X.N.length->AR X cl scope N σ (σ0 σ)) (hi:PI X tg iter wi)
  (hb:∀ s2 H C fp,PG (An X scope cl N s2 H C fp) tg g/\TC (An X scope cl N s2 H C fp) ifs tt/\PE (An X scope cl N s2 H C fp) kx tk/\PE (An X scope cl N s2 H C fp) vx tv)
  (hs:∀ x,foldedSetIterable iter X.env x=pure x:=by intro _; rfl):PE X (.DictComp kx vx [⟨tg,iter,ifs,0⟩] scope pos) (RS wi g tt tk tv σ0):=by
 intro pins s σ H Q I h;rw [arm_eval_DictComp];refine wpAny_comprehension_free (use:=none) rfl hs co.clos co.kind co.names (wpAny_mono (hi (pins:=pins) s σ H _ I h) (fun xv s1 h1=>wpAny_mono h1 (fun itv s2 h2=>?_) fun _ _ e=>e) fun _ _ e=>e);obtain ⟨it,fp,tn,J,H2,rfl,I2,T,ER,f2,hW⟩:=h2;refine wpAny_newObj_type (wpAny_newFunctionEnv co.cell (by intro y hy; cases hy) (fun h₁ Bp Bb=>?_) co.kind);dsimp only at Bp Bb ⊢;generalize Il:s2.heap.push { cls:=.type "dict",dict:=none,data:=.dict #[] } = HH at Bp Bb ⊢;have Bn:HH.objs.size=s2.heap.objs.size + 1:=by rw [<-Il,YE]
 have old:∀ b o,s2.heap.get? b=some o->h₁.get? b=some o:=fun b o e=>
  Bb.extBut b o (Yh (by rw [Bn]; exact Yy (Ye e))) (XQ _ (Il ▸ XQ _ e))
 have newD:A4 X.prog X.w (upd H2 s2.heap.objs.size (.dT [])) h₁ s2.heap.objs.size (.dT []):=
  let ⟨z,hd,vs,rel,o,es,ep,ho,r⟩:=LD (P:=X.prog) (w:=X.w) (H:=upd H2 s2.heap.objs.size (.dT [])) s2.heap I2.big
  ⟨z,hd,vs,rel,o,es,ep,Bb.extBut _ _ (Yh (by rw [Bn]; exact Y6 _)) (XQ _ (Il ▸ ho)),r⟩
 obtain ⟨W,⟨m0,w0⟩,turn⟩:=hW s2.heap.objs.size I2.fresh;have hfo:∀ b ∈ fp,∃ o,s2.heap.get? b=some o:=fun b hb=>let ⟨o,e,_⟩:=T.obj _ _ ER b hb; ⟨o,e⟩
 have I3:Ao (An X scope cl N s2 H2 HH.objs.size fp) [] (σ0 σ) (upd H2 s2.heap.objs.size (.dT [])) { s2 with heap:=h₁,toks:=s2.toks + ([]:List (Str × Value)).length }:=
  E7 I2 f2 hfo co (hσ σ I.len) old (Ya _) (by rw [Bn]; exact Y8 _) (YL (by rw [Bn]; exact Y6 _)) newD Bp
 have fC:s2.heap.objs.size<=HH.objs.size:=by rw [Bn]; exact Y8 _
 obtain ⟨hg,ht,hk,hv⟩:=hb s2 H2 HH.objs.size fp;have loop:∀ BN:Shared,BN = { s2 with heap:=h₁,toks:=s2.toks + ([]:List (Str × Value)).length } ->
   codeAny (model X.prog X.w) X.A (.compLoop (.DictComp kx vx [⟨tg,iter,ifs,0⟩] scope pos) 0 (.ref it) (.ref s2.heap.objs.size) (compEnvC scope cl HH.objs.size X.env))
    (compPost (model X.prog X.w) X.A X.xe none (EP X pins σ Q) (.ref s2.heap.objs.size) HH.objs.size) BN:=by
  rintro BN rfl;have stat:∀ {H':Hp} ,(∀ b ∈ fp,H' b=none)->∀ b ∈ fp,Ef (An X scope cl N s2 H2 HH.objs.size fp) [] H' b:=fun hn b hb=>by
   refine ⟨hn b hb,?_,?_,.inl hb,?_,fun p hp=>by cases hp⟩
   ·obtain ⟨o,e⟩:=hfo b hb;exact Yh (show b < HH.objs.size by rw [Bn]; exact Yy (Ye e))
   ·intro hz;obtain ⟨_,q1,q2,_⟩:=f2 b hb;rcases XX.mp (I2.stkSub b hz) with e | e
    ·exact q1 e
    ·exact q2 e
   ·exact fun x c e=>(f2 b hb).2.2.2.2.1 x c (co.sub x c e)
  refine BB (fun n s'=>∃ i Ay H',Ao (An X scope cl N s2 H2 HH.objs.size fp) [] Ay H' s'/\tn i s'.heap/\(∀ b ∈ fp,H' b=none)/\W i n Ay H') ?_ m0
   ⟨0,σ0 σ,_,I3,T.keep _ _ _ ER fun b hb o e=>old b o e,fun b hb=>?_,w0⟩
  ·rintro n s4 ⟨i,Fw,H4,I4,KP,L8,w4⟩;rcases turn i n Fw H4 w4 with ⟨stop,qn⟩ | ⟨go,step⟩
   ·refine wpAny_mono (T.done (An X scope cl N s2 H2 HH.objs.size fp) rfl rfl rfl hc i [] s4 Fw H4 (fun _ _=>False) I4 (stat L8) KP stop) (fun r s5 ⟨hr,I5⟩=>?_) fun _ _ z=>z.elim
    subst hr;obtain ⟨m5,Rb,_⟩:=id I5.loc;exact ⟨m5,Rb,fun h' L4=>⟨.ref _,H4,E8 I2 f2 fC I5 L4,rfl,qn⟩⟩
   ·refine wpAny_mono (T.item (An X scope cl N s2 H2 HH.objs.size fp) rfl rfl rfl hc i [] s4 Fw H4 (fun _ _=>False) I4 (stat L8) KP go) (fun r s5 ⟨u,hr,h5⟩=>?_) fun _ _ z=>z.elim
    subst hr;refine wpAny_mono h5 (fun _ s6 ⟨x,H6,I6,r6,y6,Hu,Rk⟩=>?_) fun _ _ z=>z.elim
    have R4:=I6.pinned (stat Rk) (T.obj _ _ Hu);refine wpAny_mono (hg s6 Fw H6 x u _ R4 r6 (step x H6 y6)) (fun _ s7 ⟨Eh,H7,I7,q7⟩=>?_) fun _ _ z=>z.elim
    refine wpAny_mono (ht s7 Eh H7 _ I7 q7) (fun ok s8 ⟨H8,I8,q8⟩=>?_) fun _ _ z=>z.elim
    have again:∀ {s9:Shared} {Fv:St} {H9:Hp} ,Ao (An X scope cl N s2 H2 HH.objs.size fp) ([] ++ Dz fp s6.heap) Fv H9 s9->(∃ m',m' < n/\W (i + 1) m' Fv H9)->∃ m,m < n/\∃ i Ay H',Ao (An X scope cl N s2 H2 HH.objs.size fp) [] Ay H' s9/\tn i s9.heap/\(∀ b ∈ fp,H' b=none)/\W i m Ay H':=fun {s9 Fv H9} I9 n9=>by
     obtain ⟨m',hm,w9⟩:=n9;refine ⟨m',hm,i + 1,Fv,H9,I9.unpinned,T.keep _ _ _ Hu fun b hb o e=>(I9.pin (b,o) (Yk _ (Yk _ (AU hb e)))).1,fun b hb=>?_,w9⟩;obtain ⟨o,e,d⟩:=T.obj _ _ Hu b hb;exact (I9.pin (b,o) (Yk _ (Yk _ (AU hb e)))).2.1
    cases ok with
    | false=>
     rw [if_neg Yl] at q8 ⊢;exact again I8 q8
    | true=>
     rw [if_pos rfl] at q8 ⊢;refine wpAny_mono (hk s8 Eh H8 _ I8 q8) (fun yk s9 ⟨k,H9,I9,r9,q9⟩=>?_) fun _ _ z=>z.elim
     refine wpAny_mono (hv s9 Eh H9 _ I9 q9) (fun yv Tn ⟨v,Pp,R6,Vq,kvs,key,b,ek,eb,hacc,hsz,Q3⟩=>?_) fun _ _ z=>z.elim
     subst ek;exact MA (X:=An X scope cl N s2 H2 HH.objs.size fp) hu R6 hacc eb hsz r9 Vq fun s11 VZ=>again VZ Q3
  ·have z:=(f2 b hb).1;obtain ⟨o,e⟩:=hfo b hb;rw [Af (Yh (Ye e))];exact z
 exact codeAny_compStart_dict (loop _ rfl) (T.self _ 0 _ _ _ (T.keep _ _ _ ER fun b hb o e=>old b o e) (loop _ rfl))
section
variable {prog:Program} {w:World} {A:Around} {E:Value->Shared->Prop} {s:Shared}
theorem O0 {it d:Addr} {i ep:Nat} {es:Array DictEntry} {key:Value} {Q:Option Value->Shared->Prop} (hit:s.heap.IsValIter it d i es.size ep)
  (hm:D6 s.heap d es ep) (hx:es[i]?.map (·.val)=some key)
  (hQ:∀ h',h'.IsValIter it d (i + 1) es.size ep->Heap.SameBut it s.heap h'->Q (some key) { s with heap:=h' }) :
  wpAny (model prog w) A (pyNext (.ref it)) Q E s:=by
 obtain ⟨o,ho,hc,hd⟩:=id hit;obtain ⟨od,hod,hcd,hdd⟩:=id hm;unfold pyNext;refine wpAny_bind (wpAny_attempt (wpAny_callSpecial?_slot (name:=Str.ofString "__next__") hit.typeIs F.slot_dict_valueiterator_next
  (wpAny_call_entry F.slot_dict_valueiterator_next hit.typeIs F.entry_dict_valueiterator_next ?_ (F.args_dict_valueiterator_next_1 _))))
 refine wpAny_bind (wpAny_pure ?_);refine wpAny_bind ?_;refine wpAny_bind ?_;first | refine wpAny_bind (wpAny_typeNameOfWhole_valiter hit.typeIs (wpAny_pure ?_)) | refine wpAny_bind (wpAny_typeNameOf_valiter hit.typeIs (wpAny_pure ?_))
 refine wpAny_bind (wpAny_fieldsOf ho hd ?_);have hown:Builtin.Dict_items.ownsTuple "dict_valueiterator"=false:=by decide
 simp only [hown,Y1,if_false];show wpAny _ _ (if (Value.ref d == Value.none)=true then _ else _) _ _ s
 rw [if_neg (show ¬ ((Value.ref d == Value.none)=true) from Yl)];refine wpAny_bind (wpAny_pure ?_);refine wpAny_bind (wpAny_dictEntries hod hdd ?_);have hsz:es.size=es.size:=rfl;rw [if_neg (by rw [hsz]; simp)];refine wpAny_bind (wpAny_pure ?_);refine wpAny_bind (wpAny_dictEpoch hod hdd ?_);rw [if_neg (by simp)];refine wpAny_pure ?_;have Rc:i < es.size:=by
  rcases ZP i es.size with h | h
  ·exact h
  ·rw [Zx h] at hx; cases hx
 have hkey:es[i].val=key:=by rw [YV Rc] at hx; exact Yo.inj hx
 simp only [show ¬ ((i:Int) < 0) from by lia,if_false,ZL,YV Rc];refine wpAny_bind ?_;first | refine wpAny_bind (wpAny_typeNameOfWhole_valiter hit.typeIs (wpAny_pure ?_)) | refine wpAny_bind (wpAny_typeNameOf_valiter hit.typeIs (wpAny_pure ?_))
 refine wpAny_bind (wpAny_isOneOf_valiter hit.typeIs ?_);show wpAny _ _ (setField (.ref it) 1 (rawInt ((i:Int) + 1)) >>= _) _ _ s
 refine wpAny_bind (wpAny_setField ho hd (by simp) ?_);have Ja:(s.heap.update it (Obj.mapFields (·.setIfInBounds 1 (rawInt ((i:Int) + 1))))).IsValIter it d (i + 1) es.size ep:=
  ⟨_,YH _ ho (Obj.isFreed_of_fields (Obj.data_mapFields hd _)),(Obj.cls_mapFields ..).trans hc,by rw [Obj.data_mapFields hd]; simp [rawInt]⟩
 refine wpAny_bind (wpAny_holding ?_);refine wpAny_bind (wpAny_isOneOf_valiter (s:={ s with heap:=s.heap.update it (Obj.mapFields (·.setIfInBounds 1 (rawInt ((i:Int) + 1)))) }) Ja.typeIs ?_);refine wpAny_bind (wpAny_isOneOf_valiter (s:={ s with heap:=s.heap.update it (Obj.mapFields (·.setIfInBounds 1 (rawInt ((i:Int) + 1)))) }) Ja.typeIs ?_);show wpAny _ _ (pure es[i].val) _ _ _
 exact wpAny_pure (wpAny_pure ⟨_,rfl,wpAny_pure (hkey ▸ hQ _ Ja (Heap.SameBut.update ..))⟩)
theorem Qz {it d:Addr} {i ep:Nat} {es:Array DictEntry} {Q:Option Value->Shared->Prop} (hh:A.handled=none) (hit:s.heap.IsValIter it d i es.size ep)
  (hm:D6 s.heap d es ep) (hx:es.size<=i)
  (hQ:∀ h',Heap.ExtBut it s.heap h'->Q none { s with heap:=h' }):wpAny (model prog w) A (pyNext (.ref it)) Q E s:=by
 obtain ⟨o,ho,hc,hd⟩:=id hit;obtain ⟨od,hod,hcd,hdd⟩:=id hm;unfold pyNext;refine wpAny_bind (wpAny_attempt (wpAny_callSpecial?_slot (name:=Str.ofString "__next__") hit.typeIs F.slot_dict_valueiterator_next
  (wpAny_call_entry F.slot_dict_valueiterator_next hit.typeIs F.entry_dict_valueiterator_next ?_ (F.args_dict_valueiterator_next_1 _))))
 refine wpAny_bind (wpAny_pure ?_);refine wpAny_bind ?_;refine wpAny_bind ?_;first | refine wpAny_bind (wpAny_typeNameOfWhole_valiter hit.typeIs (wpAny_pure ?_)) | refine wpAny_bind (wpAny_typeNameOf_valiter hit.typeIs (wpAny_pure ?_))
 refine wpAny_bind (wpAny_fieldsOf ho hd ?_);have hown:Builtin.Dict_items.ownsTuple "dict_valueiterator"=false:=by decide
 simp only [hown,Y1,if_false];show wpAny _ _ (if (Value.ref d == Value.none)=true then _ else _) _ _ s
 rw [if_neg (show ¬ ((Value.ref d == Value.none)=true) from Yl)];refine wpAny_bind (wpAny_pure ?_);refine wpAny_bind (wpAny_dictEntries hod hdd ?_);have hsz:es.size=es.size:=rfl;rw [if_neg (by rw [hsz]; simp)];refine wpAny_bind (wpAny_pure ?_);refine wpAny_bind (wpAny_dictEpoch hod hdd ?_);rw [if_neg (by simp)];refine wpAny_pure ?_;have hge:es.size<=i:=hx;simp only [show ¬ ((i:Int) < 0) from by lia,if_false,ZL,Zx hge];refine wpAny_bind ?_;first | refine wpAny_bind (wpAny_typeNameOfWhole_valiter hit.typeIs (wpAny_pure ?_)) | refine wpAny_bind (wpAny_typeNameOf_valiter hit.typeIs (wpAny_pure ?_))
 show wpAny _ _ (setField (.ref it) 0 .none >>= _) _ _ s
 refine wpAny_bind (wpAny_setField ho hd (by simp) ?_);show wpAny _ _ (newExc (.type "StopIteration") [] >>= _) _ _ _
 refine wpAny_bind ?_;simp only [newExc,newTuple];refine wpAny_bind (wpAny_newObj_type ?_ (by size_fits));refine wpAny_bind (m:=firstArgMember _ _) (wpAny_of_eq (a:=Value.none) (by first | rfl | (simp only [firstArgMember]; rfl)) ?_);refine wpAny_newObj_type ?_ (by size_fits);simp only [raiseNew];refine wpAny_bind (wpAny_handled ?_);rw [show A.in1.handled=none from hh];refine wpAny_bind (wpAny_pure (wpAny_throw ?_));refine wpAny_bind (wpAny_isInstance (T:="StopIteration") (b:=true) ⟨_,Yf _ rfl,rfl⟩ isSubtype_stop ?_);exact wpAny_pure (hQ _ (((Heap.SameBut.update ..).extBut.push _).push _))
theorem IsValIter.at'' {h h':Heap} {it d:Addr} {i n ep:Nat} (x:h.IsValIter it d i n ep) (e:∀ o,h.get? it=some o->h'.get? it=some o):h'.IsValIter it d i n ep:=let ⟨o,a,b⟩:=x; ⟨o,e _ a,b⟩
theorem Oz {v d:Addr} {es:Array DictEntry} {ep:Nat} {Q:Value->Shared->Prop} (hv:s.heap.IsValuesView v d) (hm:D6 s.heap d es ep)
  (hQ:Q (.ref s.heap.objs.size) { s with heap:=s.heap.push { cls:=.type "dict_valueiterator",data:=.fields #[.ref d,.int 0 0,.int es.size 0,.int ep 0] } }) :
  wpAny (model prog w) A (pyIter (.ref v)) Q E s:=by
 obtain ⟨ov,hov,hcv,hdv⟩:=id hv;obtain ⟨o,ho,hc,hdat⟩:=id hm;refine wpAny_pyIter_slot hv.typeIs F.slot_dict_values_iter (wpAny_call_entry F.slot_dict_values_iter hv.typeIs F.entry_dict_values_iter ?_ (F.args_dict_values_iter_1 _));unfold Builtin.«dict_values.__iter__» Builtin.Dict_items.dictOf Builtin.Dict_items.newIterator;refine wpAny_bind (wpAny_pure (wpAny_bind (wpAny_bind (wpAny_field hov hdv (x:=.ref d) rfl (wpAny_pure ?_)))));refine wpAny_bind (wpAny_bind (wpAny_dictEntries ho hdat (wpAny_bind (wpAny_dictEpoch ho hdat ?_))));rw [show Builtin.Dict_items.ownsTuple "dict_valueiterator"=false by decide];simp only [Y1,if_false];refine wpAny_newObj_type (wpAny_pure ⟨_,rfl,"dict_valueiterator",_,⟨_,Yf _ rfl,rfl⟩,F.slot_dict_valueiterator_next.lookup,?_⟩);simpa [rawInt] using hQ
theorem Mj (hh:A.handled=none) (I d:Addr) (hne:d ≠ I) (es:Array DictEntry) (ep:Nat) :
  Walks prog w A I [I,d] [I] es.size (fun i v=>es[i]?.map (·.val)=some v) (fun i h=>h.IsValIter I d i es.size ep/\D6 h d es ep) where
 sub:=fun b hb=>by simp at hb; simp [hb]
 frame:=fun _ _ _ st hk=>⟨IsValIter.at'' st.1 fun o e=>hk I (by simp) o e,st.2.at' fun o e=>hk d (by simp) o e⟩
 item:=fun i s Q E hi st hQ=>by
  have hx:es[i]?.map (·.val)=some es[i].val:=by rw [YV hi]; rfl
  refine O0 st.1 st.2 hx fun h' Ja L4=>?_
  exact hQ _ h' s.toks hx ⟨Ja,st.2.at' fun o e=>L4.extBut d o hne e⟩ fun b o hb e=>L4.extBut b o (fun h=>hb (by simp [h])) e
 done:=fun s Q E st hQ=>Qz hh st.1 st.2 (Ya _) fun h' FL=>hQ h' s.toks fun b o hb e=>FL b o (fun h=>hb (by simp [h])) e
 self:=fun _ _ _ _ st hQ=>wpAny_pyIter_valiter st.1 hQ
theorem Qy {r d:Addr} {es:Array DictEntry} {ep:Nat}:bH prog w "dict_values" r d es.size (fun i v=>es[i]?.map (·.val)=some v) (fun h=>h.IsValuesView r d/\D6 h d es ep) where
 type:=fun _ hm=>hm.1.typeIs
 there:=fun _ hm=>⟨let ⟨_,ho,_⟩:=hm.1; Ye ho,hm.2.lt⟩
 keep:=fun _ _ hm hk=>⟨let ⟨o,ho,x⟩:=hm.1; ⟨o,hk r (.inl rfl) o ho,x⟩,hm.2.at' fun o e=>hk d (.inr rfl) o e⟩
 notList:=by decide
 notTuple:=by decide
 hint:=fun _ _ _ _ hm hq=>PySem.W.kdl_hint_values hm.1.typeIs hq
 iter:=fun _ _ hh hm=>⟨_,_,(fun _ _ hq=>Oz hm.1 hm.2 hq),Mj hh _ d (Yh hm.2.lt) es ep,⟨⟨_,Yf _ rfl,rfl,rfl⟩,hm.2.at' fun o e=>XQ _ e⟩⟩
end
def Fy (r d:Addr):HO:=.ext fun h=>h.IsValuesView r d
theorem IV {prog:Program} {w:World} (d:Addr) (hd:(d == sysModules)=false) :
  MeetsIn prog w (Builtin.«dict.values» ⟨[.ref d],[]⟩) (fun _ R s=>(∃ es ep,D6 s.heap d es ep) /\
   R (.ok (.ret (.ref s.heap.objs.size))) { s with heap:=s.heap.push { cls:=.type "dict_values",data:=.fields #[.ref d] } }):=
 .of_wp fun A R s ⟨⟨es,ep,hm⟩,h⟩=>by
  refine wpAny_bind ?_;unfold Builtin.Dict.noArgs;refine wpAny_bind (wpAny_notOrdered_dict hm.typeIs ?_);show wpAny _ _ (pure d) _ _ s
  refine wpAny_pure ?_;show wpAny _ _ (Builtin.Dict.showsAll d >>= _) _ _ s
  unfold Builtin.Dict.showsAll;rw [if_neg (by rw [hd]; exact Yl)];refine wpAny_bind (wpAny_pure (wpAny_bind (wpAny_newObj_type (wpAny_pure ⟨_,rfl,h⟩))))
theorem J6 {X:Cx}:MtM X "dict.values" (fun x vs H Q=>∃ (d:Addr) (kvs:List (List A6 × V)),x=.ref d/\vs=[]/\H d=some (.dT kvs)/\∀ r,H r=none->Q (.ref r) (upd H r (Fy r d))):=by
 intro pins s σ H x vs v us Q I rx rv h;obtain ⟨d,kvs,rfl,rfl,hd,q⟩:=h;cases rx
 cases rv
 obtain ⟨z,y,xs,rel,o,es,ep,h1,h2,h3,h4,h5⟩:=(show A4 X.prog X.w H s.heap d (.dT kvs) from I.hok d _ hd)
 have rd:D6 s.heap d es ep:=⟨o,h1,h2,h3⟩
 refine call_meetsIn PySem.F.slot_dict_values rd.typeIs PySem.F.entry_dict_values (PySem.F.args_dict_values_1 _) (IV d y) ⟨⟨es,ep,rd⟩,?_⟩;refine ⟨.ref s.heap.objs.size,_,I.laid (a:=s.heap.objs.size) (o:=Fy s.heap.objs.size d) (t':=s.toks) (fun _ _ e=>XQ _ e) (Ya _) ?_,rfl,q _ (I.hok.fresh (Ya _))⟩;refine ⟨⟨_,Yf _ rfl,rfl,rfl⟩,⟨_,Yf _ rfl⟩,fun h1 h2 ⟨o,a,b⟩ st=>⟨o,st _ a,b⟩⟩
theorem EA {X:Cx} (hc:X.calm=true):Bg X (.type "list") (fun xs H Q=>∃ (r d:Addr) (kvs:List (List A6 × V)),xs=[.ref r]/\H r=some (Fy r d)/\H d=some (.dT kvs) /\
  ∀ l,H l=none->Q (.ref l) (upd H l (.lst (kvs.map (·.2))))):=by
 intro pins s σ H xs us Q I r h;obtain ⟨rr,d,kvs,rfl,hr,hd,q⟩:=h;obtain ⟨u,rfl,ru⟩:=BR r;cases ru
 obtain ⟨z,y,xs,rel,o,es,ep,h1,h2,h3,h4,h5⟩:=(show A4 X.prog X.w H s.heap d (.dT kvs) from I.hok d _ hd)
 have vw:s.heap.IsValuesView rr d:=(I.hok rr _ hr).1;have xl:xs.length=kvs.length:=(Paired.length rel).symm;have hlen:es.size=kvs.length:=by
  rw [<-Y0,h4,XJ];exact xl
 refine PySem.W.kdl_call (Qy (es:=es) (ep:=ep)) (I.ok.hd hc) ⟨vw,o,h1,h2,h3⟩ (by rw [hlen]; exact z) fun h' tk acc c' kk hl hacc=>?_
 have al:acc.toList.length=xs.length:=by
  rw [Y0,hacc.1,<-Y0,h4,XJ]
 have av:acc.toList=xs.map fun q=>q.2.2:=by
  refine Ze (by rw [al,XJ]) fun i i1 i2=>?_
  have e2:=hacc.2 i acc.toList[i] (by rw [<-YW]; exact XO i1);dsimp only at e2;rw [<-YW,h4,Yd,XO (by rw [<-al]; exact i1)] at e2;rw [YU];exact (Yo.inj e2).symm
 have vals:∀ {l:List (List A6 × V)} {m:List (List A6 × Addr × Value)},Paired (fun (p:List A6 × V) (q:List A6 × Addr × Value)=>p.1=q.1/\H q.2.1=some (.tup (p.1.map kV))/\A1 p.2 q.2.2) l m->Az (l.map (·.2)) (m.map fun q=>q.2.2):=fun {l m} hp=>by
  induction hp with
  | nil=>exact .nil
  | cons a _ ih=>exact .cons a.2.2 ih
 have rv:=vals rel;rw [<-av] at rv;refine ⟨.ref s.heap.objs.size,_,I.laid (o:=.lst (kvs.map (·.2))) (t':=tk) kk (Ya _) ⟨by rw [XJ]; exact z,acc.toList,c',rv,by rw [bc]; exact hl⟩,rfl,q _ (I.hok.fresh (Ya _))⟩
def AB (ss op:List Str):List Str:=ss.filter fun s=>decide (s ∉ op)
abbrev Br:=List Str × Option Str × Option Str
def Jb (s:Str):Br:=(["open",s],none,some s)
def FZ (h:Str):Br:=(["shut",h],some h,none)
def G9 (h s:Str):Br:=(["swap",h,s],some h,some s)
def DI (ss op:List Str) (h:Str):List Br:=FZ h :: (AB ss op).map (G9 h)
def Bv (ss op:List Str):List Br:=(AB ss op).map Jb ++ op.flatMap (DI ss op)
def AL (op:List Str) (out:Option Str):List Str:=op.filter fun h=>decide (some h ≠ out)
def Bi (op:List Str) (out more:Option Str) (zs:List Str):Prop:=zs.Perm (AL op out ++ more.toList)/\sortedS zs=true
theorem Bi.uniq {op:List Str} {out more:Option Str} {zs ys:List Str} (h:Bi op out more zs) (g:Bi op out more ys):zs=ys:=
 Gd (Ce h.2) (Ce g.2) (h.1.trans g.1.symm)
def Cv (x:V) (op:List Str) (e:Br):Bool:=!(AL op e.2.1 ++ e.2.2.toList).isEmpty && C2 x (AL op e.2.1 ++ e.2.2.toList).length
def D5 (ss:List Str) (x:V) (op:List Str):List Br:=(Bv ss op).filter (Cv x op)
theorem BG {ss op:List Str} {s:Str}:s ∈ AB ss op ↔ s ∈ ss/\s ∉ op:=by
 unfold AB;rw [Y3];simp
theorem EL {ss op:List Str} {e:Br}:e ∈ Bv ss op ↔ (∃ s ∈ AB ss op,e=Jb s)\/∃ h ∈ op,e=FZ h\/∃ s ∈ AB ss op,e=G9 h s:=by
 unfold Bv DI;rw [Yt,Yc,aE];constructor
 ·rintro (⟨s,a,b⟩ | ⟨h,a,b⟩)
  ·exact .inl ⟨s,a,b.symm⟩
  ·rcases XX.mp b with b | b
   ·exact .inr ⟨h,a,.inl b⟩
   ·obtain ⟨s,c,d⟩:=Yc.mp b;exact .inr ⟨h,a,.inr ⟨s,c,d.symm⟩⟩
 ·rintro (⟨s,a,b⟩ | ⟨h,a,b | ⟨s,c,d⟩⟩)
  ·exact .inl ⟨s,a,b.symm⟩
  ·exact .inr ⟨h,a,by rw [b]; exact Ys⟩
  ·exact .inr ⟨h,a,Yr _ (Yc.mpr ⟨s,c,d.symm⟩)⟩
structure Ft (ss op:List Str) (e:Br):Prop where
 out:∀ h,e.2.1=some h->h ∈ op
 more:∀ s,e.2.2=some s->s ∈ ss/\s ∉ op
 any:e.2.1 ≠ none\/e.2.2 ≠ none
 key:e=match e.2.1,e.2.2 with
  | none,some s=>Jb s
  | some h,none=>FZ h
  | some h,some s=>G9 h s
  | none,none=>e
theorem Di {ss op:List Str} {e:Br} (h:e ∈ Bv ss op):Ft ss op e:=by
 rcases EL.mp h with ⟨s,a,rfl⟩ | ⟨h,a,rfl | ⟨s,b,rfl⟩⟩
 ·exact ⟨(fun h z=>nomatch z),(fun s' z=>by cases z; exact BG.mp a),.inr (fun z=>nomatch z),rfl⟩
 ·exact ⟨(fun h' z=>by cases z; exact a),(fun s z=>nomatch z),.inl (fun z=>nomatch z),rfl⟩
 ·exact ⟨(fun h' z=>by cases z; exact a),(fun s' z=>by cases z; exact BG.mp b),.inl (fun z=>nomatch z),rfl⟩
theorem B8 {α β:Type} {f:α->β} (inj:∀ a b,f a=f b->a=b):∀ {l:List α},l.Nodup->(l.map f).Nodup
 | [],_=>Zy
 | a :: l,h=>by
  rw [YC] at h;rw [Ym,YC];refine ⟨fun hm=>?_,B8 inj h.2⟩;obtain ⟨b,hb,e⟩:=Yc.mp hm;exact h.1 (by rw [<-inj _ _ e]; exact hb)
theorem E3 {ss op:List Str} (sn:ss.Nodup) (on:op.Nodup):((Bv ss op).map (·.1)).Nodup:=by
 have hn:(AB ss op).Nodup:=sn.filter _;unfold Bv;rw [Yi,YJ];refine ⟨?_,?_,fun a ha b hb=>?_⟩
 ·rw [Y2];exact B8 (fun a b e=>by simpa [Jb] using e) hn
 ·have key:∀ l:List Str,l.Nodup->((l.flatMap (DI ss op)).map (·.1)).Nodup:=fun l=>by
   induction l with
   | nil=>intro _; exact Zy
   | cons h l ih=>
    intro hl;rw [YC] at hl;rw [Z1,Yi,YJ];refine ⟨?_,ih hl.2,fun a ha b hb=>?_⟩
    ·unfold DI;rw [Ym,YC];refine ⟨fun hm=>?_,?_⟩
     ·obtain ⟨e,he,q⟩:=Yc.mp hm;obtain ⟨s,_,rfl⟩:=Yc.mp he;simp [FZ,G9] at q
     ·rw [Y2];exact B8 (fun a b e=>by simpa [G9] using e) hn
    ·rintro rfl;obtain ⟨e,he,q⟩:=Yc.mp ha;obtain ⟨e',FL,q'⟩:=Yc.mp hb;obtain ⟨h',hh',FL⟩:=aE.mp FL;have nhh:h ≠ h':=fun z=>hl.1 (by rw [z]; exact hh')
     rw [<-q'] at q;unfold DI at he FL;rcases XX.mp he with rfl | he <;> rcases XX.mp FL with rfl | FL
     ·exact nhh (by simpa [FZ] using q)
     ·obtain ⟨s,_,rfl⟩:=Yc.mp FL;simp [FZ,G9] at q
     ·obtain ⟨s,_,rfl⟩:=Yc.mp he;simp [FZ,G9] at q
     ·obtain ⟨s,_,rfl⟩:=Yc.mp he;obtain ⟨s',_,rfl⟩:=Yc.mp FL;simp [G9] at q;exact nhh q.1
  exact key op on
 ·rintro rfl;obtain ⟨e,he,q⟩:=Yc.mp ha;obtain ⟨e',FL,q'⟩:=Yc.mp hb;obtain ⟨s,_,rfl⟩:=Yc.mp he;obtain ⟨h',hh',FL⟩:=aE.mp FL;rw [<-q'] at q;unfold DI at FL;rcases XX.mp FL with rfl | FL
  ·simp [Jb,FZ] at q;exact absurd q.1 (by decide +kernel)
  ·obtain ⟨s',_,rfl⟩:=Yc.mp FL;simp [Jb,G9] at q
theorem C3 {ss op:List Str} {x:V} (sn:ss.Nodup) (on:op.Nodup):((D5 ss x op).map (·.1)).Nodup:=List.Nodup.sublist ((Zs).map _) (E3 sn on)
theorem Bi.mem {op:List Str} {out more:Option Str} {zs:List Str} (h:Bi op out more zs) {z:Str}:z ∈ zs ↔ (z ∈ op/\some z ≠ out)\/more=some z:=by
 rw [h.1.mem_iff,Yt];unfold AL;rw [Y3];simp only [decide_eq_true_eq,ZG]
theorem Bi.nodup {ss op:List Str} {e:Br} {zs:List Str} (h:Bi op e.2.1 e.2.2 zs) (on:op.Nodup) (i:Ft ss op e):zs.Nodup:=by
 rw [h.1.nodup_iff,YJ];refine ⟨on.filter _,?_,fun a ha b hb=>?_⟩
 ·cases e.2.2 with
  | none=>exact Zy
  | some s=>exact Zu _ _
 ·rintro rfl;have Ez:e.2.2=some a:=ZG.mp hb;exact (i.more a Ez).2 (Y3.mp ha).1
theorem Bi.sub {ss op:List Str} {e:Br} {zs:List Str} (h:Bi op e.2.1 e.2.2 zs) (os:∀ s ∈ op,s ∈ ss) (i:Ft ss op e):∀ z ∈ zs,z ∈ ss:=fun z hz=>by
 rcases h.mem.mp hz with ⟨a,_⟩ | a
 ·exact os z a
 ·exact (i.more z a).1
theorem Bi.rising {ss op:List Str} {e:Br} {zs:List Str} (h:Bi op e.2.1 e.2.2 zs) (on:op.Nodup) (i:Ft ss op e):B5 zs:=Gg (Ce h.2) (h.nodup on i)
theorem Bi.isOp {ss op:List Str} {e:Br} {zs:List Str} {x:V} (h:Bi op e.2.1 e.2.2 zs) (sr:B5 ss) (on:op.Nodup) (os:∀ s ∈ op,s ∈ ss) (i:Ft ss op e):R3 ss x (zs.map PyData.str) ↔ Cv x op e=true:=by
 have len:=h.1.length_eq;have emp:zs=[] ↔ (AL op e.2.1 ++ e.2.2.toList)=[]:=by rw [<-YK,len,YK]
 unfold R3 Cv;rw [YA,<-len];constructor
 ·rintro ⟨ys,e1,e2,_,e4⟩;have:zs=ys:=Dn e1;subst this;refine ⟨?_,e4⟩;rw [ZH,aO];exact fun z=>e2 (emp.mpr z)
 ·rintro ⟨a,b⟩;refine ⟨zs,rfl,fun z=>?_,DQ (h.rising on i) sr (h.sub os i),b⟩;rw [emp.mp z] at a;cases a
theorem Bi.inj {ss op:List Str} {e e':Br} {zs:List Str} (h:Bi op e.2.1 e.2.2 zs) (h':Bi op e'.2.1 e'.2.2 zs) (i:Ft ss op e) (i':Ft ss op e'):e=e':=by
 have o1:e.2.1=e'.2.1:=by
  have half:∀ {e e':Br},Bi op e.2.1 e.2.2 zs->Bi op e'.2.1 e'.2.2 zs->Ft ss op e->Ft ss op e'->∀ a,e.2.1=some a->e'.2.1=some a:=fun {e e'} h h' i i' a ea=>by
   have ao:=i.out a ea;have na:a ∉ zs:=fun hz=>by
    rcases h.mem.mp hz with ⟨_,q⟩ | q
    ·exact q ea.symm
    ·exact (i.more a q).2 ao
   by_cases q:e'.2.1=some a
   ·exact q
   ·exact absurd (h'.mem.mpr (.inl ⟨ao,fun z=>q z.symm⟩)) na
  cases q:e.2.1 with
  | some a=>exact (half h h' i i' a q).symm
  | none=>
   cases q':e'.2.1 with
   | none=>rfl
   | some b=>rw [half h' h i' i b q'] at q; cases q
 have o2:e.2.2=e'.2.2:=by
  have half:∀ {e e':Br},Bi op e.2.1 e.2.2 zs->Bi op e'.2.1 e'.2.2 zs->Ft ss op e->Ft ss op e'->∀ a,e.2.2=some a->e'.2.2=some a:=fun {e e'} h h' i i' a ea=>by
   rcases h'.mem.mp (h.mem.mpr (.inr ea)) with ⟨q,_⟩ | q
   ·exact absurd q (i.more a ea).2
   ·exact q
  cases q:e.2.2 with
  | some a=>exact (half h h' i i' a q).symm
  | none=>
   cases q':e'.2.2 with
   | none=>rfl
   | some b=>rw [half h' h i' i b q'] at q; cases q
 have k1:=i.key;have k2:=i'.key;obtain ⟨a,b,c⟩:=e;obtain ⟨a',b',c'⟩:=e';have o1':b=b':=o1;have o2':c=c':=o2;subst o1' o2';cases b with
 | none=>
  cases c with
  | none=>exact absurd i.any (by simp)
  | some s=>rw [k1,k2]
 | some h=>
  cases c with
  | none=>rw [k1,k2]
  | some s=>rw [k1,k2]
def BY (H:Hp) (op:List Str) (kvs:List (List A6 × V)) (L:List Br):Prop:=kvs.map (·.1)=L.map (fun e=>e.1.map Sum.inr) /\
 ∀ (i:Nat) kv e,kvs[i]? = some kv->L[i]? = some e->∃ t zs,kv.2=.ref t/\H t=some (.tup (zs.map V.str))/\Bi op e.2.1 e.2.2 zs
theorem BY.len {H:Hp} {op:List Str} {kvs:List (List A6 × V)} {L:List Br} (h:BY H op kvs L):kvs.length=L.length:=by
 have:=congrArg Zh h.1;rwa [XJ,XJ] at this
theorem BY.keep {H H':Hp} {op:List Str} {kvs:List (List A6 × V)} {L:List Br} (h:BY H op kvs L) (s:∀ b xs,H b=some (.tup xs)->H' b=some (.tup xs)):BY H' op kvs L:=
 ⟨h.1,fun i kv e e1 e2=>let ⟨t,zs,a,b,c⟩:=h.2 i kv e e1 e2; ⟨t,zs,a,s _ _ b,c⟩⟩
theorem BY.nil {H:Hp} {op:List Str}:BY H op [] []:=⟨rfl,fun i kv e e1=>by cases e1⟩
theorem BY.snoc {H:Hp} {op:List Str} {kvs:List (List A6 × V)} {L:List Br} (h:BY H op kvs L) {e:Br} {t:Addr} {zs:List Str} (ht:H t=some (.tup (zs.map V.str))) (o:Bi op e.2.1 e.2.2 zs):BY H op (kvs ++ [(e.1.map Sum.inr,.ref t)]) (L ++ [e]):=by
 refine ⟨by rw [Yi,Yi,h.1]; rfl,fun i kv e' e1 e2=>?_⟩;have l:=h.len;by_cases hi:i < kvs.length
 ·rw [Y5 hi] at e1;rw [Y5 (by lia)] at e2;exact h.2 i kv e' e1 e2
 ·have U7:i=kvs.length:=by
   have:=(Yb.mp e1).1;rw [XZ,YD] at this;lia
  subst U7;rw [Y4 (Ya _),Z2] at e1;rw [l,Y4 (Ya _),Z2] at e2;cases e1
  cases e2
  exact ⟨t,zs,rfl,ht,o⟩
theorem Ey:∀ {a b:List Str},a.map (Sum.inr:Str->A6)=b.map Sum.inr->a=b
 | [],[],_=>rfl
 | [],_ :: _,e=>by cases e
 | _ :: _,[],e=>by cases e
 | x :: a,y :: b,e=>by
  rw [Ym,Ym] at e;injection e with e1 e2;injection e1 with e1;rw [e1,Ey e2]
theorem BY.new {H:Hp} {op:List Str} {kvs:List (List A6 × V)} {L:List Br} (h:BY H op kvs L) {k:List Str} (n:k ∉ L.map (·.1)) (v:V):Bj kvs (k.map Sum.inr) v=kvs ++ [(k.map Sum.inr,v)]:=by
 refine HD v (KG fun hm=>?_);rw [h.1] at hm;obtain ⟨e,he,q⟩:=Yc.mp hm;exact n (Yc.mpr ⟨e,he,Ey q⟩)
theorem BY.val {H:Hp} {op:List Str} {kvs:List (List A6 × V)} {L:List Br} (h:BY H op kvs L) (nd:(L.map (·.1)).Nodup) {i:Nat} {e:Br} (he:L[i]? = some e):∃ t zs,Bq kvs (e.1.map Sum.inr)=some (.ref t)/\H t=some (.tup (zs.map V.str))/\Bi op e.2.1 e.2.2 zs:=by
 have hi:i < kvs.length:=by rw [h.len]; exact (Yb.mp he).1
 obtain ⟨t,zs,a,b,c⟩:=h.2 i _ e (XO hi) he;refine ⟨t,zs,?_,b,c⟩;have kn:(kvs.map (·.1)).Nodup:=by
  rw [h.1,show (fun e:Br=>e.1.map (Sum.inr:Str->A6))=(fun k:List Str=>k.map Sum.inr) ∘ (fun e:Br=>e.1) from rfl,<-Y2];exact B8 (fun a b e=>Ey e) nd
 refine Fz (q:=i) kn ?_;rw [XO hi];have k:=congrArg (fun l:List (List A6)=>l[i]?) h.1;rw [Yd,Yd,XO hi,he] at k;have k':kvs[i].1=e.1.map Sum.inr:=Yo.inj k;rw [<-k',<-a]
def oS:Option Str->V
 | none=>.non
 | some s=>.str s
def Jt:Sp:=fun vs H Q _=>∃ (o:Addr) (op:List Str) (out more:Option Str),vs=[.ref o,oS out,oS more]/\H o=some (.tup (op.map V.str))/\op.length<=30 /\
 ∀ (H':Hp) (t:Addr) (zs:List Str),Au H H'->H t=none->H' t=some (.tup (zs.map V.str))->Bi op out more zs->Q (.ref t) H'
structure FY (H:Hp) (c o m:Addr) (n:Nat) (xs:List Str) (ws:List AF) (rs1 A2:List Cj) (x:V) (d:PyData) (op:List Str):Prop where
 cw:Ci H c m n xs ws rs1 A2 x d
 ri:B5 (rs1.map (·.1))
 ho:H o=some (.tup (op.map V.str))
 op:R0 (rs1.map (·.1)) x op
theorem FY.keepT {H H':Hp} {c o m:Addr} {n:Nat} {xs:List Str} {ws:List AF} {rs1 A2:List Cj} {x:V} {d:PyData} {op:List Str} (h:FY H c o m n xs ws rs1 A2 x d op) (t:∀ b ys,H b=some (.tup ys)->H' b=some (.tup ys)):FY H' c o m n xs ws rs1 A2 x d op:=⟨h.cw.keepT t,h.ri,t _ _ h.ho,h.op⟩
def JZ:Sp:=fun vs H Q _=>∃ (c o m:Addr) (n:Nat) (xs:List Str) (ws:List AF) (rs1 A2:List Cj) (x:V) (d:PyData) (op:List Str),vs=[.ref c,.ref o]/\FY H c o m n xs ws rs1 A2 x d op /\
 ∀ (H':Hp) (D:Addr) (kvs:List (List A6 × V)),Au H H'->H D=none->H' D=some (.dT kvs)->BY H' op kvs (D5 (rs1.map (·.1)) x op)->Q (.ref D) H'
def NU (H:Hp) (vs:List V) (ps:List (List Str × Int)):Prop:=vs.length=ps.length/\∀ (i:Nat) v p,vs[i]? = some v->ps[i]? = some p->∃ t e,v=.ref t/\H t=some (.tup [.ref e,.int p.2])/\H e=some (.tup (p.1.map V.str))
def TJ (ws:List AF) (rs1 A2:List Cj) (x:V) (op:List Str) (ps:List (List Str × Int)):Prop:=(ps.map (·.1)).Perm ((D5 (rs1.map (·.1)) x op).map (·.1))/\(ps.map (·.1)).Pairwise (fun a b=>AA (b.map Eg.s) (a.map Eg.s)=false) /\
 ∀ p ∈ ps,∃ e zs,e ∈ D5 (rs1.map (·.1)) x op/\e.1=p.1/\Bi op e.2.1 e.2.2 zs/\Cw ws rs1 A2 zs p.2
def Gv:Sp:=fun vs H Q _=>∃ (c o m:Addr) (n:Nat) (xs:List Str) (ws:List AF) (rs1 A2:List Cj) (x:V) (d:PyData) (op:List Str),vs=[.ref c,.ref o]/\FY H c o m n xs ws rs1 A2 x d op /\
 ∀ (H':Hp) (L:Addr) (vs:List V) (ps:List (List Str × Int)),Au H H'->H L=none->H' L=some (.lst vs)->NU H' vs ps->TJ ws rs1 A2 x op ps->Q (.ref L) H'
theorem Au.free0 {H H':Hp} {a:Addr} (s:Au H H') (h:H' a=none):H a=none:=by
 cases z:H a with
 | none=>rfl
 | some o=>rw [s _ _ z] at h; cases h
section
variable {X:Cx} {pins:List (Addr × Obj)} {σ Ay:St} {H H':Hp} {s2 s':Shared} {scope:Scope} {cl:List (Str × Addr)} {N:List Str} {fp:List Addr} {C D:Addr} {h₁ h':Heap} {t':Nat}
end
theorem BE {A B:Hp} {a:Addr} {o:HO} (s:Au A B) (n:A a=none):Au A (upd B a o):=fun b u e=>by rw [Af (Ah e n)]; exact s _ _ e
theorem MY {J:It} {xs:List V} {S:Hp->Prop} {g:TG} {tt:TT} {tk tv:TE} {H:Hp} {σ0:St} {R:Addr->Hp->Prop} (ov:MH J xs S) (I:Addr->Nat->St->Hp->Prop)
  (h0:∀ D,H D=none->I D 0 σ0 (upd H D (.dT [])))
  (hs:∀ D i σ H',H D=none->I D i σ H'->S H')
  (turn:∀ D i σ H' x (B:St->V->V->Hp->Prop) (N:St->Hp->Prop),H D=none->xs[i]? = some x->I D i σ H'->(∀ Ax y v H6,(∃ kvs k b,y=.ref b/\H6 b=some (.tup (k.map kV))/\H6 D=some (.dT kvs)/\kvs.length < sizeLine/\I D (i + 1) Ax (upd H6 D (.dT (Bj kvs k v))))->B Ax y v H6) ->
   (∀ Ax H4,I D (i + 1) Ax H4->N Ax H4)->g x σ H' fun Ax H3=>tt Ax H3 fun b H4=>if b=true then tk Ax H4 (fun y H5=>tv Ax H5 fun v H6=>B Ax y v H6) else N Ax H4)
  (fin:∀ D σ H',H D=none->I D xs.length σ H'->R D H') :
  ∀ D,H D=none->∃ W:Nat->Nat->St->Hp->Prop,(∃ m,W 0 m σ0 (upd H D (.dT []))) /\
   ∀ i m Ay H',W i m Ay H'->(J.stop i H'/\R D H')\/(J.go i H'/\∀ x H2,J.yld i H' x H2->g x Ay H2 fun Ax H3=>tt Ax H3 fun b H4=>
    if b=true then tk Ax H4 (fun y H5=>tv Ax H5 fun v H6=>∃ kvs k b,y=.ref b/\H6 b=some (.tup (k.map kV))/\H6 D=some (.dT kvs)/\kvs.length < sizeLine/\∃ m',m' < m/\W (i + 1) m' Ax (upd H6 D (.dT (Bj kvs k v)))) else ∃ m',m' < m/\W (i + 1) m' Ax H4):=by
 intro D hD;refine ⟨fun i m σ H'=>m=xs.length - i/\i<=xs.length/\I D i σ H',⟨xs.length,rfl,Y9 _,h0 D hD⟩,?_⟩;rintro i m σ H' ⟨rfl,hi,p⟩;have s1:=hs D i σ H' hD p;by_cases Bu:i < xs.length
 ·refine .inr ⟨ov.go i H' s1 Bu,fun x H2 y=>?_⟩;obtain ⟨rfl,ex⟩:=ov.yld i H' x H2 s1 y;refine turn D i σ H2 x (fun Ax y v H6=>∃ kvs k b,y=.ref b/\H6 b=some (.tup (k.map kV))/\H6 D=some (.dT kvs)/\kvs.length < sizeLine/\∃ m',m' < xs.length - i/\(m'=xs.length - (i + 1)/\i + 1<=xs.length/\I D (i + 1) Ax (upd H6 D (.dT (Bj kvs k v))))) (fun Ax H4=>∃ m',m' < xs.length - i/\(m'=xs.length - (i + 1)/\i + 1<=xs.length/\I D (i + 1) Ax H4)) hD ex p (fun Ax y v H6 ⟨kvs,k,b,a1,a2,a3,a4,a5⟩=>?_) fun Ax H4 p4=>?_
  ·exact ⟨kvs,k,b,a1,a2,a3,a4,xs.length - (i + 1),by lia,rfl,Bu,a5⟩
  ·exact ⟨xs.length - (i + 1),by lia,rfl,Bu,p4⟩
 ·have e:i=xs.length:=by lia
  subst e;exact .inl ⟨ov.stop H' s1,fin D σ H' hD p⟩
theorem Cq {ss:List Str} {x:V} {op:List Str} (h:R0 ss x op) (nd:ss.Nodup):op.Nodup/\(∀ s ∈ op,s ∈ ss)/\(AB ss op).length + op.length<=ss.length:=by
 have on:=h.2.1.nodup nd;refine ⟨on,fun s hs=>h.2.1.subset hs,?_⟩;have:(AB ss op ++ op).Nodup:=YJ.mpr ⟨nd.filter _,on,fun a ha b hb e=>(BG.mp ha).2 (e ▸ hb)⟩;have:=List.Nodup.length_le_of_subset this (fun s hs=>by
  rcases Yt.mp hs with z | z
  ·exact (BG.mp z).1
  ·exact h.2.1.subset z)
 rwa [XZ] at this
theorem OY {ss op:List Str}:(Bv ss op).length=(AB ss op).length + op.length * ((AB ss op).length + 1):=by
 unfold Bv;have:∀ l:List Str,(l.flatMap (DI ss op)).length=l.length * ((AB ss op).length + 1):=fun l=>by
  induction l with
  | nil=>simp
  | cons h l ih=>rw [Z1,XZ,ih,Yz,b7,cF]; unfold DI; rw [Yz,XJ]; lia
 rw [XZ,XJ,this]
theorem E4 {ss op:List Str} {x:V} (h:R0 ss x op) (nd:ss.Nodup) (l:ss.length<=10):(Bv ss op).length < 64:=by
 rw [OY];have:=(Cq h nd).2.2;have h1:∀ a b:Nat,a + b<=10->a + b * (a + 1) < 64:=fun a b hab=>by
  have ha:a<=10:=by lia
  have hb:b<=10 - a:=by lia
  have:b * (a + 1)<=(10 - a) * (a + 1):=Nat.mul_le_mul_right _ hb;have k:a + (10 - a) * (a + 1) < 64:=by
   rcases a with _ | _ | _ | _ | _ | _ | _ | _ | _ | _ | _ | a <;> first | decide | lia
  lia
 exact h1 _ _ (by lia)
theorem DA {ss:List Str} {i:Nat} {x:V} (h:(ss.map V.str)[i]? = some x):∃ y,ss[i]? = some y/\x=.str y:=by
 rw [Yd] at h;cases q:ss[i]? with
 | none=>rw [q] at h; cases h
 | some y=>rw [q] at h; exact ⟨y,rfl,(Yo.inj h).symm⟩
theorem BY.mem_get {H:Hp} {op:List Str} {kvs:List (List A6 × V)} {L:List Br} (h:BY H op kvs L) {i:Nat} {p:List A6 × V} (e:kvs[i]? = some p):∃ x,L[i]? = some x/\p.1=x.1.map Sum.inr:=by
 have l:=h.len;have hi:=(Yb.mp e).1;refine ⟨L[i]'(by lia),XO _,?_⟩;have k:=congrArg (fun l:List (List A6)=>l[i]?) h.1;rw [Yd,Yd,e,XO (by lia)] at k;exact Yo.inj k
theorem F0 {α β:Type} (f:α->β) {l:List α} {i:Nat} {a:α} (e:l[i]? = some a):(l.take (i + 1)).map f=(l.take i).map f ++ [f a]:=by rw [Yx,e,Yi]; rfl
theorem Og {α β:Type} (f:α->List β) {l:List α} {i:Nat} {a:α} (e:l[i]? = some a):(l.take (i + 1)).flatMap f=(l.take i).flatMap f ++ f a:=by
 rw [Yx,e,b8];show _ ++ List.flatMap f [a]=_
 rw [Z1,bO,YN]
theorem M8 {α β:Type} (f:α->List β) {l:List α} {i:Nat} {a:α} (e:l[i]? = some a):l.flatMap f=(l.take i).flatMap f ++ (f a ++ (l.drop (i + 1)).flatMap f):=by
 obtain ⟨hi,rfl⟩:=Yb.mp e;rw [<-Z1,<-b8,aW,bg]
theorem D9 {α:Type} (f:α->Bool) {l:List α} {i:Nat} {a:α} (e:l[i]? = some a):(l.take (i + 1)).filter f=(l.take i).filter f ++ (if f a then [a] else []):=by
 rw [Yx,e,Zj];show _ ++ List.filter f [a]=_
 rw [Zo];cases f a <;> rfl
theorem OF {α:Type} {a b:List α} {x:α} (h:(a ++ x :: b).Nodup):x ∉ a:=fun hx=>(YJ.mp h).2.2 x hx x Ys rfl
theorem K1 {ss op:List Str} {L R:List Br} {e:Br} (sn:ss.Nodup) (on:op.Nodup) (h:Bv ss op=L ++ e :: R):e.1 ∉ L.map (·.1):=by
 have:=E3 sn on;rw [h,Yi,Ym] at this;exact OF this
theorem Fp {α:Type} {l:List α} {i:Nat} {a:α} (e:l[i]? = some a):l=l.take i ++ a :: l.drop (i + 1):=by
 obtain ⟨hi,rfl⟩:=Yb.mp e;rw [aW,bg]
theorem FR {X:Cx}:Bg X (.builtin "sorted") (fun xs H Q=>∃ (t:Addr) (ss:List Str),xs=[.ref t]/\H t=some (.tup (ss.map V.str))/\ss.length < 64/\∀ (l:Addr) (Ck:List Str),H l=none->Ck.Perm ss->sortedS Ck=true->Q (.ref l) (upd H l (.lst (Ck.map V.str)))):=by
 intro pins s σ H xs us Q I r h;obtain ⟨t,ss,rfl,ht,IK,q⟩:=h;obtain ⟨u,rfl,ru⟩:=BR r;cases ru
 obtain ⟨Aq,rv,pl,hz⟩:=I.tuple (AE.of ht);have hl:Aq.length=ss.length:=by rw [<-rv.length,XJ]
 refine KY pl (MQ rv) (by lia) fun h' a out Ck e ha kp he h1 h2 h3=>?_
 exact ⟨.ref a,_,I.laid (o:=.lst (Ck.map V.str)) (t':=s.toks) kp ha ⟨by rw [XJ,h2.length_eq,sizeLine_eq]; lia,out.toList,e,Hm h1,by simpa using he⟩,rfl,q a Ck (I.hok.fresh ha) h2 h3⟩
def Jh (H:Hp) (vs:List V) (ps:List (List Str × V)):Prop:=vs.length=ps.length/\∀ (i:Nat) v p,vs[i]? = some v->ps[i]? = some p->∃ t e,v=.ref t/\H t=some (.tup [.ref e,p.2])/\H e=some (.tup (p.1.map V.str))
theorem Jh.nil {H:Hp}:Jh H [] []:=⟨rfl,fun i v p e=>by cases e⟩
theorem Jh.keep {H H':Hp} {vs:List V} {ps:List (List Str × V)} (h:Jh H vs ps) (s:∀ b xs,H b=some (.tup xs)->H' b=some (.tup xs)):Jh H' vs ps:=
 ⟨h.1,fun i v p e1 e2=>let ⟨t,e,a,b,c⟩:=h.2 i v p e1 e2; ⟨t,e,a,s _ _ b,s _ _ c⟩⟩
theorem Jh.app {H:Hp} {vs us:List V} {ps qs:List (List Str × V)} (h:Jh H vs ps) (g:Jh H us qs):Jh H (vs ++ us) (ps ++ qs):=by
 refine ⟨by rw [XZ,XZ,h.1,g.1],fun i v p e1 e2=>?_⟩;by_cases hi:i < vs.length
 ·rw [Y5 hi] at e1;rw [Y5 (by rw [<-h.1]; exact hi)] at e2;exact h.2 i v p e1 e2
 ·rw [Y4 (by lia)] at e1;rw [Y4 (by rw [<-h.1]; lia),<-h.1] at e2;exact g.2 _ v p e1 e2
theorem Jh.one {H:Hp} {t e:Addr} {p:List Str × V} (a:H t=some (.tup [.ref e,p.2])) (b:H e=some (.tup (p.1.map V.str))):Jh H [.ref t] [p]:=by
 refine ⟨rfl,fun i v q e1 e2=>?_⟩;cases i with
 | zero=>cases e1; cases e2; exact ⟨t,e,rfl,a,b⟩
 | succ i=>simp at e1
theorem MK {α β:Type}:∀ {a:List α} {b:List β},a.length=b.length->(a.zip b).map (·.1)=a
 | [],[],_=>rfl
 | [],_ :: _,h=>by simp at h
 | _ :: _,[],h=>by simp at h
 | x :: a,y :: b,h=>by rw [aj,Ym,MK (by simpa using h)]
theorem JU {α β:Type}:∀ {a:List α} {b:List β},a.length=b.length->(a.zip b).map (·.2)=b
 | [],[],_=>rfl
 | [],_ :: _,h=>by simp at h
 | _ :: _,[],h=>by simp at h
 | x :: a,y :: b,h=>by rw [aj,Ym,JU (by simpa using h)]
def PyV (H:Hp) (y:V):Prop:=(∃ n,y=.int n)\/∃ (l:Addr) (ss:List Str),y=.ref l/\H l=some (.tup (ss.map V.str))
def Mi (vs:List V) (ps:List (List Str × V)):List (V × List Str):=(vs.zip ps).map fun t=>(t.1,t.2.1)
theorem Jh.zip_mem {H:Hp} {vs:List V} {ps:List (List Str × V)} (h:Jh H vs ps) {t:V × (List Str × V)} (m:t ∈ vs.zip ps):∃ a e,t.1=.ref a/\H a=some (.tup [.ref e,t.2.2])/\H e=some (.tup (t.2.1.map V.str))/\t.2 ∈ ps:=by
 obtain ⟨i,hi,e⟩:=Yq m;rw [aA] at e;have l:=h.1;rw [Zt] at hi;have h1:vs[i]? = some t.1:=by rw [XO (by lia),<-e]
 have h2:ps[i]? = some t.2:=by rw [XO (by lia),<-e]
 obtain ⟨a,b,c,d,f⟩:=h.2 i _ _ h1 h2;exact ⟨a,b,c,d,f,XY h2⟩
theorem Jh.sort {H:Hp} {vs:List V} {ps:List (List Str × V)} (h:Jh H vs ps) (hy:∀ p ∈ ps,PyV H p.2):(Mi vs ps).map (·.1)=vs/\(∀ p ∈ Mi vs ps,PxH H p.1 p.2)/\(Mi vs ps).map (·.2)=ps.map (·.1)/\(Mi vs ps).length=ps.length /\
  ∀ zs:List (V × List Str),zs.Perm (Mi vs ps)->∃ qs,Jh H (zs.map (·.1)) qs/\qs.Perm ps/\qs.map (·.1)=zs.map (·.2):=by
 unfold Mi;refine ⟨?_,?_,?_,?_,?_⟩
 ·rw [Y2];exact MK h.1
 ·intro p hp;obtain ⟨t,ht,rfl⟩:=Yc.mp hp;obtain ⟨a,e,h1,h2,h3,h4⟩:=h.zip_mem ht;exact ⟨a,e,t.2.2,h1,h2,h3,hy _ h4⟩
 ·rw [Y2];have:=congrArg (cI (·.1)) (JU h.1);rw [Y2] at this;exact this
 ·rw [XJ,Zt,h.1,cA]
 ·intro zs pz;obtain ⟨m,pm,rfl⟩:=EI pz;refine ⟨m.map (·.2),⟨by rw [XJ,XJ,XJ],fun i v p e1 e2=>?_⟩,?_,by rw [Y2,Y2]; rfl⟩
  ·rw [Y2,Yd] at e1;rw [Yd] at e2;cases q:m[i]? with
   | none=>rw [q] at e1; cases e1
   | some t=>
    rw [q] at e1 e2;cases e1
    cases e2
    obtain ⟨a,e,h1,h2,h3,_⟩:=h.zip_mem (pm.mem_iff.mp (XY q));exact ⟨a,e,h1,h2,h3⟩
  ·have:=pm.map (·.2);rwa [JU h.1] at this
def Mu (p:List Str × Int):List Str × V:=(p.1,.int p.2)
theorem NU.rw {H:Hp} {vs:List V} {ps:List (List Str × Int)}:NU H vs ps ↔ Jh H vs (ps.map Mu):=by
 unfold NU Jh;rw [XJ];constructor
 ·rintro ⟨l,h⟩;refine ⟨l,fun i v p e1 e2=>?_⟩;rw [Yd] at e2;cases q:ps[i]? with
  | none=>rw [q] at e2; cases e2
  | some z=>rw [q] at e2; cases e2; exact h i v z e1 q
 ·rintro ⟨l,h⟩;exact ⟨l,fun i v p e1 e2=>h i v (Mu p) e1 (by rw [Yd,e2]; rfl)⟩
theorem MO {H:Hp}:∀ (vs:List V) (Pz:Nat->List Str->Prop),(∀ (i:Nat) v,vs[i]? = some v->∃ t zs,v=.ref t/\H t=some (.tup (zs.map V.str))/\Pz i zs)->∃ os,Cs H vs os/\∀ (i:Nat) zs,os[i]? = some zs->Pz i zs
 | [],_,_=>⟨[],.nil,fun i zs e=>by cases e⟩
 | v :: vs,Pz,h=>by
  obtain ⟨t,zs,rfl,ht,p⟩:=h 0 v rfl;obtain ⟨os,a,b⟩:=MO vs (fun i=>Pz (i + 1)) fun i v e=>h (i + 1) v e
  refine ⟨zs :: os,.cons ht a,fun i ys e=>?_⟩;cases i with
  | zero=>cases e; exact p
  | succ i=>exact b i ys e
theorem BY.tups {H:Hp} {op:List Str} {kvs:List (List A6 × V)} {L:List Br} (h:BY H op kvs L):∃ os,Cs H (kvs.map (·.2)) os/\os.length=L.length/\∀ (i:Nat) e zs,L[i]? = some e->os[i]? = some zs->Bi op e.2.1 e.2.2 zs:=by
 obtain ⟨os,a,b⟩:=MO (H:=H) (kvs.map (·.2)) (fun i zs=>∀ e,L[i]? = some e->Bi op e.2.1 e.2.2 zs) fun i v e=>by
  rw [Yd] at e;cases q:kvs[i]? with
  | none=>rw [q] at e; cases e
  | some p=>
   rw [q] at e;obtain ⟨x,ex,_⟩:=h.mem_get q;obtain ⟨t,zs,h1,h2,h3⟩:=h.2 i p x q ex;refine ⟨t,zs,(Yo.inj e).symm.trans h1,h2,fun e' FL=>?_⟩;rw [ex] at FL;cases FL
   exact h3
 refine ⟨os,a,?_,fun i e zs e1 e2=>b i zs e2 e e1⟩;rw [<-a.len,XJ,h.len]
theorem HN {ss op:List Str} {x:V} {os:List (List Str)} (sn:ss.Nodup) (on:op.Nodup) (l:os.length=(D5 ss x op).length) (h:∀ (i:Nat) e zs,(D5 ss x op)[i]? = some e->os[i]? = some zs->Bi op e.2.1 e.2.2 zs):os.Nodup:=by
 rw [ZF,YQ];intro i j hi hj hij e;have nd:=C3 (x:=x) sn on;have i1:(D5 ss x op)[i]? = some ((D5 ss x op)[i]'(by lia)):=XO _;have j1:(D5 ss x op)[j]? = some ((D5 ss x op)[j]'(by lia)):=XO _;have a:=h i _ _ i1 (XO hi);have b:=h j _ _ j1 (XO hj);rw [e] at a;have mi:∀ {k:Nat} (hk:k < (D5 ss x op).length),Ft ss op ((D5 ss x op)[k]):=fun hk=>Di (Y3.mp (YT hk)).1
 have:=a.inj b (mi _) (mi _);rw [ZF,YQ] at nd;refine nd i j (by rw [XJ]; lia) (by rw [XJ]; lia) hij ?_;rw [YU,YU,this]
theorem Ro {ss op:List Str} {x:V} {e e':Br} (sn:ss.Nodup) (on:op.Nodup) (h:e ∈ D5 ss x op) (h':e' ∈ D5 ss x op) (k:e.1=e'.1):e=e':=by
 have nd:=C3 (x:=x) sn on;obtain ⟨i,hi,rfl⟩:=Yq h;obtain ⟨j,hj,rfl⟩:=Yq h';rw [ZF,YQ] at nd;rcases bN i j with q | q | q
 ·exact absurd (by rw [YU,YU,k]) (nd i j (by rw [XJ]; exact hi) (by rw [XJ]; exact hj) q)
 ·subst q; rfl
 ·exact absurd (by rw [YU,YU,k]) (nd j i (by rw [XJ]; exact hj) (by rw [XJ]; exact hi) q)
theorem Bi.opn {ss op:List Str} {x:V} {e:Br} {zs:List Str} (h:Bi op e.2.1 e.2.2 zs) (he:e ∈ D5 ss x op) (on:op.Nodup) (os:∀ s ∈ op,s ∈ ss):LQ ss zs:=by
 obtain ⟨m,ok⟩:=Y3.mp he;have i:=Di m;refine ⟨fun z=>?_,h.nodup on i,h.sub os i⟩;have l:=h.1.length_eq;rw [z] at l;unfold Cv at ok;rw [YA,ZH,aO] at ok;exact ok.1 (YK.mp l.symm)
theorem Ly {x:V} {j k:Nat} (h:C2 x k=true) (l:j<=k):C2 x j=true:=by
 unfold C2 at h ⊢;split at h
 ·have:=of_decide_eq_true h;exact decide_eq_true (by lia)
 ·rfl
theorem JB {op:List Str}:AL op none=op:=by
 unfold AL;exact ZA.mpr fun a _=>by simp
theorem okO {x:V} {op:List Str} {s:Str}:Cv x op (Jb s)=C2 x (op.length + 1):=by
 unfold Cv Jb;show (!(AL op none ++ [s]).isEmpty && C2 x (AL op none ++ [s]).length)=_
 rw [JB,XZ,YD];cases op <;> rfl
theorem okS {x:V} {op:List Str} {h:Str} (l:C2 x op.length=true):Cv x op (FZ h) = !(AL op (some h)).isEmpty:=by
 unfold Cv FZ;show (!(AL op (some h) ++ []).isEmpty && C2 x (AL op (some h) ++ []).length)=_
 rw [YN,Ly (j:=(AL op (some h)).length) l (YB _ _),ZI]
theorem okW {x:V} {op:List Str} {h s:Str} (l:C2 x op.length=true) (hm:h ∈ op):Cv x op (G9 h s)=true:=by
 unfold Cv G9;show (!(AL op (some h) ++ [s]).isEmpty && C2 x (AL op (some h) ++ [s]).length)=_
 have lt:(AL op (some h)).length < op.length:=ZW.mpr ⟨h,hm,by simp⟩;rw [XZ,YD,Ly l (by lia),ZI];cases AL op (some h) <;> rfl
theorem G1:∀ (p:Str) (l:List Str),(p :: l).Pairwise (fun a b=>¬ b.cps.toList < a.cps.toList)->risingS p l=true
 | _,[],_=>rfl
 | p,x :: l,h=>by
  obtain ⟨h1,h2⟩:=YY.mp h;rw [FC,YA,ltCps_eq];exact ⟨by simpa using h1 x Ys,G1 x l h2⟩
theorem Eo {l:List Str} (h:l.Pairwise fun a b=>¬ b.cps.toList < a.cps.toList):sortedS l=true:=by
 cases l with
 | nil=>rfl
 | cons p l=>exact G1 p l h
theorem Of {H:Hp} {c m:Addr} {n:Nat} {xs:List Str} {ws:List AF} {rs1 A2:List Cj} {x:V} {d:PyData} {ss:List Str} {t:Int} (cw:Ci H c m n xs ws rs1 A2 x d) (o:LQ (rs1.map (·.1)) ss) (l:ss.length<=10) (tt:Cw ws rs1 A2 ss t):0<=t/\t < 2 ^ 600:=by
 obtain ⟨ds,wd,rfl⟩:=tt;have a:=Pl cw.ok1 (by decide) o.2.2 (by lia);have sx:∀ s ∈ ss,s ∈ xs:=fun s hs=>by
  obtain ⟨r,hr,rfl⟩:=Yc.mp (o.2.2 s hs);exact cw.ok1.sub r hr
 have q:=JY (B:=10 ^ 30 * 2 ^ 300) (by decide) (l:=(A2.zip ds).map fun p=>p.1.2 * p.2) fun t ht=>by
  obtain ⟨p,hp,rfl⟩:=Yc.mp ht;obtain ⟨i,hi,ei⟩:=Yq hp;rw [aA] at ei;rw [Zt] at hi;have er:A2[i]? = some p.1:=by rw [XO (by lia),<-ei]
  have ed:ds[i]? = some p.2:=by rw [XO (by lia),<-ei]
  have rm:=XY er;obtain ⟨⟨s,hs,hd⟩,_⟩:=wd.2 i _ _ er ed;have md:=wd.2 i _ _ er ed;have b:0<=p.2/\p.2 < 2 ^ 300:=by
   obtain ⟨k,w,k0,k1⟩:=cw.map.sums cw.n1 cw.n30 s (sx s hs) p.1.1 (cw.ok2.sub _ rm);exact ⟨hd.pos' fun u hu=>(cw.map.at'.wn u hu).2.2.1,aq (md.2 s hs k w) k1⟩
  have cb:=cw.ok2.lo _ rm;exact ⟨Int.mul_nonneg (by lia) b.1,Int.mul_le_mul (by lia) (by lia) b.1 (by decide)⟩
 have l2:=cw.l2;have zl:(A2.zip ds).length<=30:=by rw [Zt]; lia
 rw [XJ] at q;have:((A2.zip ds).length:Int) * (10 ^ 30 * 2 ^ 300)<=30 * (10 ^ 30 * 2 ^ 300):=Zg (by lia) (by decide);have c:(30:Int) * (10 ^ 30 * 2 ^ 300) < 2 ^ 500:=by decide
 have e:(2:Int) ^ 500 + 2 ^ 500<=2 ^ 600:=by decide +kernel
 unfold Ku;refine ⟨by lia,bK ?_ e⟩;lia
def B0 (p:List Str × Int):PyData:=.tuple [.tuple (p.1.map .str),.int p.2]
theorem NU.dats {H:Hp}:∀ {vs:List V} {ps:List (List Str × Int)},NU H vs ps->Bd H vs (ps.map B0)
 | [],[],_=>.nil
 | [],_ :: _,h=>by have:=h.1; simp at this
 | _ :: _,[],h=>by have:=h.1; simp at this
 | v :: vs,p :: ps,h=>by
  obtain ⟨t,e,rfl,b,c⟩:=h.2 0 v p rfl rfl;exact .cons (.tup b (.cons (.tup c (Cg H _)) (.cons (.int _) .nil))) (NU.dats ⟨by have:=h.1; simpa using this,fun i v p e1 e2=>h.2 (i + 1) v p e1 e2⟩)
theorem Rn {ss op:List Str} {e:Br} (hs:∀ s ∈ ss,AV s=true) (os:∀ s ∈ op,s ∈ ss) (h:e ∈ Bv ss op):(∀ s ∈ e.1,AV s=true)/\e.1.length<=3:=by
 have w:AV "open"=true/\AV "shut"=true/\AV "swap"=true:=by decide +kernel
 rcases EL.mp h with ⟨s,a,rfl⟩ | ⟨h,a,rfl | ⟨s,b,rfl⟩⟩
 ·refine ⟨fun y hy=>?_,by show 2<=3; decide⟩;rcases XX.mp hy with rfl | hy
  ·exact w.1
  ·rw [Yn.mp hy]; exact hs _ (BG.mp a).1
 ·refine ⟨fun y hy=>?_,by show 2<=3; decide⟩;rcases XX.mp hy with rfl | hy
  ·exact w.2.1
  ·rw [Yn.mp hy]; exact hs _ (os _ a)
 ·refine ⟨fun y hy=>?_,by show 3<=3; decide⟩;rcases XX.mp hy with rfl | hy
  ·exact w.2.2
  ·rcases XX.mp hy with rfl | hy
   ·exact hs _ (os _ a)
   ·rw [Yn.mp hy]; exact hs _ (BG.mp b).1
theorem ND {ps:List (List Str × Int)} (l:ps.length < 64) (h:∀ p ∈ ps,(∀ s ∈ p.1,AV s=true)/\p.1.length<=3/\0<=p.2/\p.2 < 2 ^ 600):CG (.list (ps.map B0)) 3 60000:=by
 refine (CG.list (k:=2) (b:=44) fun d hd=>?_).mono (Ya _) (by rw [XJ]; lia);obtain ⟨p,hp,rfl⟩:=Yc.mp hd;obtain ⟨h1,h2,h3,h4⟩:=h p hp;refine (CG.tuple (k:=1) (b:=21) fun e he=>?_).mono (Ya _) (Ya _);rcases XX.mp he with rfl | he
 ·exact (CG.tuple (OX h1)).mono (Ya _) (by rw [XJ]; lia)
 ·rw [Yn.mp he];exact (CG.intB h3 h4).mono (by decide) (by decide)
def UP (ws:List AF) (rs1 A2:List Cj) (x:V) (op zs:List Str):Prop:=∃ e t t0,e ∈ D5 (rs1.map (·.1)) x op/\Bi op e.2.1 e.2.2 zs/\Cw ws rs1 A2 zs t/\Cw ws rs1 A2 op t0/\t < t0 /\
 ∀ e' ∈ D5 (rs1.map (·.1)) x op,∀ R9 t',Bi op e'.2.1 e'.2.2 R9->Cw ws rs1 A2 R9 t'->AA (CT (t',e'.1)) (CT (t,e.1))=false
def UQ (ws:List AF) (rs1 A2:List Cj) (x:V) (op:List Str):Prop:=∀ e ∈ D5 (rs1.map (·.1)) x op,∀ zs t t0,Bi op e.2.1 e.2.2 zs->Cw ws rs1 A2 zs t->Cw ws rs1 A2 op t0->t0<=t
def BetV (H:Hp) (ws:List AF) (rs1 A2:List Cj) (x:V) (op:List Str) (v:V):Prop:=(v=.non/\UQ ws rs1 A2 x op)\/∃ t zs,v=.ref t/\H t=some (.tup (zs.map V.str))/\UP ws rs1 A2 x op zs
theorem UP.not {ws:List AF} {rs1 A2:List Cj} {x:V} {op zs:List Str} (h:UP ws rs1 A2 x op zs) (g:UQ ws rs1 A2 x op):False:=by
 obtain ⟨e,t,t0,h1,h2,h3,h4,h5,h6⟩:=h;have:=g e h1 zs t t0 h2 h3 h4;lia
theorem Bi.ne_op {ss op:List Str} {e:Br} {zs:List Str} (h:Bi op e.2.1 e.2.2 zs) (i:Ft ss op e):zs ≠ op:=fun z=>by
 subst z;rcases i.any with a | a
 ·cases q:e.2.1 with
  | none=>exact a q
  | some b=>
   have bm:=i.out b q;rcases h.mem.mp bm with ⟨_,c⟩ | c
   ·exact c q.symm
   ·exact (i.more b c).2 bm
 ·cases q:e.2.2 with
  | none=>exact a q
  | some s=>exact (i.more s q).2 (h.mem.mpr (.inr q))
theorem Sx {t t':Int} {k k':List Str} (h:t < t'):AA (CT (t',k')) (CT (t,k))=false:=by
 have:AA (CT (t,k)) (CT (t',k'))=true:=by
  show (if Eg.i t=Eg.i t' then AA _ _ else DK (.i t) (.i t'))=true
  rw [if_neg (fun e=>by injection e with e; lia)];exact decide_eq_true h
 cases q:AA (CT (t',k')) (CT (t,k)) with
 | false=>rfl
 | true=>exact absurd (FJ _ _ _ this q) (by rw [DV]; simp)
theorem Bi.ops {ss op:List Str} {x:V} {e:Br} {zs:List Str} (h:Bi op e.2.1 e.2.2 zs) (he:e ∈ D5 ss x op) (sr:B5 ss) (on:op.Nodup) (os:∀ s ∈ op,s ∈ ss):R0 ss x zs:=by
 obtain ⟨m,ok⟩:=Y3.mp he;have i:=Di m;obtain ⟨ys,e1,e2,e3,e4⟩:=(h.isOp (x:=x) sr on os i).mpr ok;have:zs=ys:=Dn e1;subst this;exact ⟨e2,e3,e4⟩
def KU:Sp:=fun vs H Q _=>∃ (c o m:Addr) (n:Nat) (xs:List Str) (ws:List AF) (rs1 A2:List Cj) (x:V) (d:PyData) (op:List Str),vs=[.ref c,.ref o]/\FY H c o m n xs ws rs1 A2 x d op /\
 ∀ (H':Hp) (v:V) (t0:Int),Au H H'->Cw ws rs1 A2 op t0->BetV H' ws rs1 A2 x op v->Q v H'
def Jr:Sp:=fun vs H Q _=>∃ (c o m:Addr) (n:Nat) (xs:List Str) (ws:List AF) (rs1 A2:List Cj) (x:V) (d:PyData) (op:List Str),vs=[.ref c,.ref o]/\FY H c o m n xs ws rs1 A2 x d op /\
 ∀ (H':Hp) (b:Bool),Au H H'->(b=true ↔ UQ ws rs1 A2 x op)->Q (.bl b) H'
theorem o10x {ss:List Str} {x:V} {ys:List Str} (h:R0 ss x ys) (sn:ss.Nodup) (l:ss.length<=10):ys.length<=10:=Yv h.2.1.length_le l
theorem QS {H:Hp} {c m:Addr} {n:Nat} {xs:List Str} {ws:List AF} {rs1 A2:List Cj} {x:V} {d:PyData} {ss:List Str} {y:Str} {k:Int} (cw:Ci H c m n xs ws rs1 A2 x d) (sx:∀ s ∈ ss,s ∈ xs) (hy:y ∈ xs) (h:Md ws ss y k):0<=k/\k < 2 ^ 300:=by
 obtain ⟨⟨s,hs,hd⟩,hm⟩:=h;obtain ⟨k',w,k0,k1⟩:=cw.map.sums cw.n1 cw.n30 s (sx s hs) y hy;exact ⟨hd.pos' fun u hu=>(cw.map.at'.wn u hu).2.2.1,aq (hm s hs k' w) k1⟩
theorem FE {H:Hp} {c m:Addr} {n:Nat} {xs:List Str} {ws:List AF} {rs1 A2:List Cj} {x:V} {d:PyData} {ss:List Str} (cw:Ci H c m n xs ws rs1 A2 x d) (o:LQ (rs1.map (·.1)) ss):LQ xs ss:=o.mono fun s hs=>by
 obtain ⟨r,hr,rfl⟩:=Yc.mp hs;exact cw.ok1.sub r hr
theorem L7 {H:Hp} {c m:Addr} {n:Nat} {xs:List Str} {ws:List AF} {rs1 A2:List Cj} {x:V} {d:PyData} {ss:List Str} (cw:Ci H c m n xs ws rs1 A2 x d) (o:LQ xs ss):∀ gs,EC ws ss A2 gs->∀ g ∈ gs,-(2 ^ 300) < g.2.2/\g.2.2 < 2 ^ 300:=fun gs go g hg=>by
 obtain ⟨i,hi,ei⟩:=Yq hg;have er:A2[i]? = some (A2[i]'(by rw [<-go.1]; exact hi)):=XO _;have h:=(go.2 i _ _ er (by rw [XO hi,ei])).2.md;have:=QS cw o.2.2 (cw.ok2.sub _ (XY er)) h;exact ⟨by lia,this.2⟩
theorem R0.opn {ss:List Str} {x:V} {ys:List Str} (h:R0 ss x ys) (sn:ss.Nodup):LQ ss ys:=⟨h.1,h.2.1.nodup sn,fun s hs=>h.2.1.subset hs⟩
theorem OG {X:Cx} (hu:X.A.units + 64 < cLine):MtM X "list.count" (fun x vs H Q=>∃ (l:Addr) (v:V) (d:PyData) (ds:List PyData),x=.ref l/\vs=[v]/\Ga H (.ref l) (.list ds)/\Ga H v d/\d.canLay0=true/\PyData.canLayAll0 ds=true/\d.depth<=60/\Q (.int ((ds.countP fun e=>PyData.eqv e d:Nat):Int)) H):=by
 intro pins s σ H x vs v us Q I rx rv h;obtain ⟨l,y,d,ds,rfl,rfl,h1,h2,c1,c2,hd,q⟩:=h;obtain ⟨u,rfl,ru⟩:=rv.one;obtain ⟨as,r1⟩:=h1.reads I rx;obtain ⟨bs,r2⟩:=h2.reads I ru;cases rx
 cases r1 with
 | list g1 g2 g3 g4=>
  obtain ⟨⟨cls,dd,data,sl⟩,ho,hc,n,K0⟩:=(show s.heap.IsList _ _ from ⟨_,g1,g2,_,g3⟩)
  simp only at hc K0;subst hc K0;refine call_meets PySem.F.slot_list_count ⟨_,ho,rfl⟩ PySem.F.entry_list_count (PySem.F.args_list_count_2 _ _) (SeqAt.list_countAt _ _ _ _ _ u (fun y=>PyData.eqv (SeqAt.readOf s.heap y) d)) ⟨ho,SeqAt.items_eqAt g4 r2 c2 c1 (by have:=aG (PyData.depthAll ds) d.depth; lia),?_⟩;rw [<-SeqAt.readsAll_map ds _ _ c2 g4,bT] at q;exact ⟨.int _,H,I.tok _,⟨_,rfl⟩,q⟩
def CL:Br->Br
 | (_,none,some s)=>FZ s
 | (_,some h,none)=>Jb h
 | (_,some h,some s)=>G9 s h
 | e=>e
theorem OQ {ss op:List Str} {e:Br} (i:Ft ss op e):(CL e).2.1=e.2.2/\(CL e).2.2=e.2.1:=by
 obtain ⟨a,b,c⟩:=e;cases b with
 | none=>
  cases c with
  | none=>exact absurd i.any (by simp)
  | some s=>exact ⟨rfl,rfl⟩
 | some h=>
  cases c with
  | none=>exact ⟨rfl,rfl⟩
  | some s=>exact ⟨rfl,rfl⟩
theorem Bi.back {ss op:List Str} {e:Br} {zs:List Str} (h:Bi op e.2.1 e.2.2 zs) (i:Ft ss op e) (on:op.Nodup) (so:sortedS op=true):Bi zs e.2.2 e.2.1 op:=by
 have zn:=h.nodup on i;refine ⟨G2 on ?_ fun y=>?_,so⟩
 ·rw [YJ];refine ⟨zn.filter _,by cases e.2.1 <;> simp,fun a ha b hb e'=>?_⟩;subst e';have Ez:e.2.1=some a:=ZG.mp hb;have am:=i.out a Ez;rcases h.mem.mp (Y3.mp ha).1 with ⟨_,q⟩ | q
  ·exact q Ez.symm
  ·exact (i.more a q).2 am
 ·rw [Yt];unfold AL;rw [Y3,decide_eq_true_eq,ZG,h.mem];constructor
  ·intro hy;by_cases q:e.2.1=some y
   ·exact .inr q
   ·refine .inl ⟨.inl ⟨hy,fun z=>q z.symm⟩,fun z=>(i.more y z.symm).2 hy⟩
  ·rintro (⟨⟨a,_⟩ | a,b⟩ | a)
   ·exact a
   ·exact absurd a.symm b
   ·exact i.out y a
theorem S3 {ss op:List Str} {x:V} {e:Br} {zs:List Str} (h:Bi op e.2.1 e.2.2 zs) (he:e ∈ D5 ss x op) (sr:B5 ss) (o:R0 ss x op):CL e ∈ D5 ss x zs/\Bi zs (CL e).2.1 (CL e).2.2 op:=by
 obtain ⟨on,os,_⟩:=Cq o sr.nodup;have i:=Di (Y3.mp he).1;obtain ⟨p1,p2⟩:=OQ i;have bk:Bi zs (CL e).2.1 (CL e).2.2 op:=by
  rw [p1,p2];exact h.back i on (Eo (sr.sub o.2.1).pw)
 have oz:=h.ops he sr on os;obtain ⟨zn,zsub,_⟩:=Cq oz sr.nodup;have ma:CL e ∈ Bv ss zs:=by
  refine EL.mpr ?_;obtain ⟨a,b,c⟩:=e;cases b with
  | none=>
   cases c with
   | none=>exact absurd i.any (by simp)
   | some s=>exact .inr ⟨s,h.mem.mpr (.inr rfl),.inl rfl⟩
  | some g=>
   have gm:=i.out g rfl;have gz:g ∉ zs:=fun hz=>by
    rcases h.mem.mp hz with ⟨_,q⟩ | q
    ·exact q rfl
    ·exact (i.more g q).2 gm
   have go:g ∈ AB ss zs:=BG.mpr ⟨os g gm,gz⟩;cases c with
   | none=>exact .inl ⟨g,go,rfl⟩
   | some s=>exact .inr ⟨s,h.mem.mpr (.inr rfl),.inr ⟨g,go,rfl⟩⟩
 refine ⟨Y3.mpr ⟨ma,(bk.isOp (x:=x) sr zn zsub (Di ma)).mp ⟨op,rfl,o.1,o.2.1,o.2.2⟩⟩,bk⟩
theorem Si {ss op:List Str} {x:V} (o:R0 ss x op) (sn:ss.Nodup):(AB ss op).length + op.length=ss.length:=by
 have a:=(Cq o sn).2.2;have b:ss.length<=(AB ss op ++ op).length:=List.Nodup.length_le_of_subset sn fun s hs=>by
  by_cases h:s ∈ op
  ·exact Yk _ h
  ·exact YS _ (BG.mpr ⟨hs,h⟩)
 rw [XZ] at b;lia
theorem S9 {ss op:List Str} {x:V} (o:R0 ss x op) (sn:ss.Nodup):(D5 ss x op).length=(if C2 x (op.length + 1)=true then (AB ss op).length else 0) + op.length * ((if 1 < op.length then 1 else 0) + (AB ss op).length):=by
 obtain ⟨on,os,_⟩:=Cq o sn;unfold D5 Bv;rw [Zj,XZ];congr 1
 ·by_cases h:C2 x (op.length + 1)=true
  ·rw [if_pos h,ZA.mpr fun e he=>by obtain ⟨s,_,rfl⟩:=Yc.mp he; rw [okO,h],XJ]
  ·rw [if_neg h,List.filter_eq_nil_iff.mpr fun e he=>by obtain ⟨s,_,rfl⟩:=Yc.mp he; rw [okO]; exact h];rfl
 ·have key:∀ l:List Str,(∀ y ∈ l,y ∈ op)->((l.flatMap (DI ss op)).filter (Cv x op)).length=l.length * ((if 1 < op.length then 1 else 0) + (AB ss op).length):=fun l=>by
   induction l with
   | nil=>intro _; simp
   | cons h l ih=>
    intro hl;have hm:=hl h Ys;have kl:(AL op (some h)).length + 1=op.length:=by
     have e1:(AL op (some h) ++ [h]).Perm op:=(aL (YJ.mpr ⟨on.filter _,by simp,fun a ha b hb e=>by
      rw [Yn.mp hb] at e;have:=(Y3.mp ha).2;rw [e] at this;simp at this⟩) on).mpr fun y=>by
      rw [Yt,Y3,Yn];by_cases q:y=h
      ·subst q; simp [hm]
      ·simp [q]
     have:=e1.length_eq;rw [XZ,YD] at this;exact this
    rw [Z1,Zj,XZ,ih fun y hy=>hl y (Yr _ hy),Yz,b7,cF,Nat.add_comm];congr 1;unfold DI;have fw:((AB ss op).map (G9 h)).filter (Cv x op)=(AB ss op).map (G9 h):=ZA.mpr fun e he=>by
     obtain ⟨s,_,rfl⟩:=Yc.mp he;exact okW o.2.2 hm
    rw [show FZ h :: (AB ss op).map (G9 h)=[FZ h] ++ (AB ss op).map (G9 h) from rfl,Zj,XZ,fw,XJ];congr 1;rw [Zo,okS o.2.2];by_cases q:1 < op.length
    ·rw [if_pos q];cases z:AL op (some h) with
     | nil=>rw [z] at kl; simp at kl; lia
     | cons a b=>rfl
    ·rw [if_neg q];have:AL op (some h)=[]:=YK.mp (by lia);rw [this];rfl
  exact key op fun y hy=>hy
theorem NF {p q:List Str × Int} (h:PyData.eqv (B0 p) (B0 q)=true):p=q:=by
 unfold B0 at h;have h':PyData.eqv (.tuple (p.1.map .str)) (.tuple (q.1.map .str))=true/\PyData.eqv (.int p.2) (.int q.2)=true:=by
  rw [PyData.eqv,PyData.eqvAll,PyData.eqvAll,PyData.eqvAll,ZI,YA] at h;exact h
 have a:=Dn ((OZ p.1 _).mp h'.1);have b:p.2=q.2:=by
  have:=h'.2;rw [PyData.eqv] at this;simpa using this
 exact Prod.ext a.symm b
theorem Pk {ps:List (List Str × Int)} {p:List Str × Int} (nd:(ps.map (·.1)).Nodup) (hp:p ∈ ps) (lay:(B0 p).canLay0=true):(ps.map B0).countP (fun e=>PyData.eqv e (B0 p))=1:=by
 rw [bT];induction ps with
 | nil=>cases hp
 | cons q ps ih=>
  rw [Ym,YC] at nd;rw [List.countP_cons];by_cases e:q=p
  ·subst e;have z:ps.countP ((fun e=>PyData.eqv e (B0 q)) ∘ B0)=0:=List.countP_eq_zero.mpr fun r hr hz=>nd.1 (by rw [<-NF hz]; exact Yc.mpr ⟨r,hr,rfl⟩)
   rw [z];show 0 + (if PyData.eqv (B0 q) (B0 q)=true then 1 else 0)=1
   rw [SeqAt.eqv_refl _ lay];rfl
  ·have VC:p ∈ ps:=by
    rcases XX.mp hp with z | z
    ·exact absurd z.symm e
    ·exact z
   rw [ih nd.2 VC];show 1 + (if PyData.eqv (B0 q) (B0 p)=true then 1 else 0)=1
   rw [if_neg fun z=>e (NF z)]
theorem NU.keepX {H H':Hp} {vs:List V} {ps:List (List Str × Int)} (h:NU H vs ps) (s:∀ b xs,H b=some (.tup xs)->H' b=some (.tup xs)):NU H' vs ps:=NU.rw.mpr ((NU.rw.mp h).keep s)
def KW:Sp:=fun vs H Q _=>∃ (o kA:Addr) (ss op:List Str) (e:Br),vs=[.ref o,.ref kA]/\H o=some (.tup (op.map V.str))/\H kA=some (.tup (e.1.map V.str))/\e ∈ Bv ss op/\op.length<=10/\op.Nodup/\sortedS op=true /\
 ∀ (H':Hp) (T t b:Addr) (zs:List Str),Au H H'->H' T=some (.tup [.ref t,.ref b])->H' t=some (.tup (zs.map V.str))->Bi op e.2.1 e.2.2 zs->H' b=some (.tup ((CL e).1.map V.str))->Q (.ref T) H'
def Qg:Sp:=fun vs H Q _=>∃ (c o m:Addr) (n:Nat) (xs:List Str) (ws:List AF) (rs1 A2:List Cj) (x:V) (d:PyData) (op:List Str),vs=[.ref c,.ref o]/\FY H c o m n xs ws rs1 A2 x d op/\∀ H',Au H H'->Q (.int ((D5 (rs1.map (·.1)) x op).length:Int)) H'
def Js:Sp:=fun vs H Q _=>∃ (c o m:Addr) (n:Nat) (xs:List Str) (ws:List AF) (rs1 A2:List Cj) (x:V) (d:PyData) (op:List Str),vs=[.ref c,.ref o]/\FY H c o m n xs ws rs1 A2 x d op/\∀ H',Au H H'->Q (.bl true) H'
section
variable {bb:Bool} {h h':Heap} {a b i l:Addr} {k:Nat} {items:Array Value}
end
section
variable {prog:Program} {w:World} {A:Around} {E:Value->Shared->Prop} {s:Shared}
end
section
variable {prog:Program} {w:World} {A:Around} {E:Value->Shared->Prop} {s:Shared}
end
end L2
namespace K45
open PySem L2
def top (i:Nat):Stmt:=PySem.Challenge.pw_openhouses_k45_whole_there_and_back.main.body.getD i (.Pass ⟨0,0,0,0⟩)
abbrev EF:Stmt:=top 2
theorem Mf:A3 ["thing"] ["thing"] (Am EF):=⟨rfl,rfl,rfl,by decide +kernel,rfl,by decide +kernel,by decide +kernel⟩
abbrev CQ:Stmt:=top 3
theorem Fb:A3 ["things"] ["things"] (Am CQ):=⟨rfl,rfl,rfl,by decide +kernel,rfl,by decide +kernel,by decide +kernel⟩
abbrev CP:Stmt:=top 5
theorem EZ:A3 ["case","thing","sites"] ["case","thing"] (Am CP):=⟨rfl,rfl,rfl,by decide +kernel,rfl,by decide +kernel,by decide +kernel⟩
abbrev C5:Stmt:=top 6
theorem Es:A3 ["case","web","sites","folk","limit"] ["case"] (Am C5):=⟨rfl,rfl,rfl,by decide +kernel,rfl,by decide +kernel,by decide +kernel⟩
abbrev CM:Stmt:=top 8
theorem EU:A3 ["web","places","ways","beside","one","other","length"] ["web"] (Am CM):=⟨rfl,rfl,rfl,by decide +kernel,rfl,by decide +kernel,by decide +kernel⟩
abbrev Kb:Stmt:=top 10
theorem MV:A3 ["web","place","told"] ["web","place"] (Am Kb):=⟨rfl,rfl,rfl,by decide +kernel,rfl,by decide +kernel,by decide +kernel⟩
abbrev Dr:Stmt:=top 11
theorem F4:A3 ["case"] ["case"] (Am Dr):=⟨rfl,rfl,rfl,by decide +kernel,rfl,by decide +kernel,by decide +kernel⟩
abbrev DB:Stmt:=top 12
theorem HA:A3 ["web","starts","beside","reached","settled","so_far","start","here","name","by_here"] ["web","starts"] (Am DB):=⟨rfl,rfl,rfl,by decide +kernel,rfl,by decide +kernel,by decide +kernel⟩
abbrev Dc:Stmt:=top 14
theorem Gz:A3 ["case","chosen","web","sites","folk","limit","charges","aways","costs","houses","ways"] ["case","chosen"] (Am Dc):=⟨rfl,rfl,rfl,by decide +kernel,rfl,by decide +kernel,by decide +kernel⟩
abbrev Du:Stmt:=top 16
theorem F7:A3 ["case","opening","outcomes","costs"] ["case","opening"] (Am Du):=⟨rfl,rfl,rfl,by decide +kernel,rfl,by decide +kernel,by decide +kernel⟩
abbrev CO:Stmt:=top 17
theorem EY:A3 ["case","opening"] ["case","opening"] (Am CO):=⟨rfl,rfl,rfl,by decide +kernel,rfl,by decide +kernel,by decide +kernel⟩
abbrev F9:Stmt:=top 18
theorem Jx:A3 ["case","opening","outcomes","costs","cheaper"] ["case","opening"] (Am F9):=⟨rfl,rfl,rfl,by decide +kernel,rfl,by decide +kernel,by decide +kernel⟩
abbrev BV:Stmt:=top 19
theorem Er:A3 ["case","opening","others","outcomes","house","site"] ["case","opening"] (Am BV):=⟨rfl,rfl,rfl,by decide +kernel,rfl,by decide +kernel,by decide +kernel⟩
abbrev EG:Stmt:=top 20
theorem HB:A3 ["opening","out","more","kept"] ["opening","out","more"] (Am EG):=⟨rfl,rfl,rfl,by decide +kernel,rfl,by decide +kernel,by decide +kernel⟩
abbrev F8:Stmt:=top 22
theorem Jw:A3 ["case","opening","web","sites","folk","limit","houses"] ["case","opening"] (Am F8):=⟨rfl,rfl,rfl,by decide +kernel,rfl,by decide +kernel,by decide +kernel⟩
abbrev C6:Stmt:=top 23
theorem Et:A3 ["case","opening","costs"] ["case","opening"] (Am C6):=⟨rfl,rfl,rfl,by decide +kernel,rfl,by decide +kernel,by decide +kernel⟩
abbrev Dq:Stmt:=top 24
theorem F3:A3 ["case","opening","manys"] ["case","opening"] (Am Dq):=⟨rfl,rfl,rfl,by decide +kernel,rfl,by decide +kernel,by decide +kernel⟩
abbrev Kc:Stmt:=top 25
theorem MW:A3 ["case","opening"] ["case","opening"] (Am Kc):=⟨rfl,rfl,rfl,by decide +kernel,rfl,by decide +kernel,by decide +kernel⟩
abbrev AN:Stmt:=top 27
theorem CC:A3 ["_law_pen","_law_many_here","_law_place","_law_cell","_law_number","_law_digit"] ["_law_pen","_law_many_here"] (Am AN):=⟨rfl,rfl,rfl,by decide +kernel,rfl,by decide +kernel,by decide +kernel⟩
abbrev Dt:Stmt:=top 28
theorem F6:A3 ["_law_pen","_law_many_here","_law_letters","_law_first","_law_base","_law_at","_law_more","_law_found","_law_k","_law_letter"] ["_law_pen","_law_many_here"] (Am Dt):=⟨rfl,rfl,rfl,by decide +kernel,rfl,by decide +kernel,by decide +kernel⟩
abbrev Cn:Stmt:=top 29
theorem EW:A3 ["_law_pen","_law_way"] ["_law_pen"] (Am Cn):=⟨rfl,rfl,rfl,by decide +kernel,rfl,by decide +kernel,by decide +kernel⟩
abbrev Cy:Stmt:=top 30
theorem Fg:A3 ["_law_pen","_law_names_here","_law_shape","_law_ways","_law_k","_law_other","_law_turn","_law_pair"] ["_law_pen","_law_names_here","_law_shape"] (Am Cy):=⟨rfl,rfl,rfl,by decide +kernel,rfl,by decide +kernel,by decide +kernel⟩
abbrev DN:Stmt:=top 31
theorem Gw:A3 ["_law_pen","_law_names_here","_law_many_here","_law_left","_law_found","_law_k"] ["_law_pen","_law_names_here","_law_many_here"] (Am DN):=⟨rfl,rfl,rfl,by decide +kernel,rfl,by decide +kernel,by decide +kernel⟩
abbrev DP:Stmt:=top 32
theorem Gy:A3 ["_law_pen","_law_shape","_law_names_here","_law_plan","_law_way","_law_sites","_law_place","_law_folk","_law_limit"] ["_law_pen","_law_shape"] (Am DP):=⟨rfl,rfl,rfl,by decide +kernel,rfl,by decide +kernel,by decide +kernel⟩
abbrev Cm:Stmt:=top 33
theorem Ei:A3 ["_law_case_here","_law_found","_law_place","_law_amount","_law_most"] ["_law_case_here"] (Am Cm):=⟨rfl,rfl,rfl,by decide +kernel,rfl,by decide +kernel,by decide +kernel⟩
abbrev CN:Stmt:=top 34
theorem EX:A3 ["_law_opening","_law_exchange","_law_word","_law_left"] ["_law_opening","_law_exchange"] (Am CN):=⟨rfl,rfl,rfl,by decide +kernel,rfl,by decide +kernel,by decide +kernel⟩
abbrev DO:Stmt:=top 35
theorem Gx:A3 ["_law_case_here","_law_opening","_law_houses","_law_shut","_law_many_here"] ["_law_case_here","_law_opening"] (Am DO):=⟨rfl,rfl,rfl,by decide +kernel,rfl,by decide +kernel,by decide +kernel⟩
abbrev Ds:Stmt:=top 36
theorem F5:A3 ["_law_case_here","_law_opening","_law_total","_law_told","_law_exchange","_law_number","_law_other","_law_back"] ["_law_case_here","_law_opening"] (Am Ds):=⟨rfl,rfl,rfl,by decide +kernel,rfl,by decide +kernel,by decide +kernel⟩
abbrev Qv:Stmt:=top 37
theorem Qu:A3 ["_law_script","_law_pen","_law_turn","_law_case_here","_law_every","_law_k"] ["_law_script"] (Am Qv):=⟨rfl,rfl,rfl,by decide +kernel,rfl,by decide +kernel,by decide +kernel⟩
def MS (K:XU):Sp:=fun vs H Q _=>∃ (a:Addr) (ns:List Int),vs=[.ref a]/\ME K H a (ns.map V.int)/\ns.length<=63/\∀ H',Q (.bl true) H'
section
variable {P:Program} {w:World} {K:XU} {mg:Str->Option Value} {base:Heap}
theorem Uu (h_len:mg "len"=none) (h_range:mg "range"=none) {fT:Addr} {fdT:FuncData} (XT:Fn K mg "_law_take" AN ["_law_pen","_law_many_here"] fT fdT) (GT:A7 P w K mg base B9 1 fT fdT ["_law_pen","_law_many_here"] (DM K)) {fCA:Addr} {fdCA:FuncData} (XCA:Fn K mg "_law_case" DP ["_law_pen","_law_shape"] fCA fdCA) (GCA:A7 P w K mg base B9 4 fCA fdCA ["_law_pen","_law_shape"] (MT K)) {fOP:Addr} {fdOP:FuncData} (XOP:Fn K mg "_law_openings" Cm ["_law_case_here"] fOP fdOP) (GOP:A7 P w K mg base B9 1 fOP fdOP ["_law_case_here"] Qk) {fRR:Addr} {fdRR:FuncData} (XRR:Fn K mg "_law_right" Ds ["_law_case_here","_law_opening"] fRR fdRR) (GRR:A7 P w K mg base B9 8 fRR fdRR ["_law_case_here","_law_opening"] Js) {f:Addr} {fd:FuncData} (F:Ek K "law" "law" Qv f fd):A7 P w K mg base B9 9 f fd ["_law_script"] (MS K):=by
 refine F.ok Qu (fun vs H Q E h=>?_) (fun cdv A outer s H vs Q E hr h=>?_)
 ·obtain ⟨a,ns,rfl,_⟩:=h;rfl
 ·obtain ⟨a,ns,rfl,hS,hlen,k⟩:=h;have nd:=Qu.nd;have big:100000 < sizeLine:=by decide
  refine ⟨_,(Ae (Ar (i:=1) nd rfl (Or.inl rfl) (BF (Aa (pv 0) (Aa Ag (Aa Ag Ac)))))
  (Ae (Cb PassesOwn.never rfl (CV (by rfl) h_range (Aa Ag Ac)) (Ai (i:=2) nd rfl (Or.inl rfl))
  (Ae (Ar (i:=3) nd rfl (Or.inl rfl) (Aj GCA (hr.mono (by decide)) (by rfl) XCA.mg XCA.F.kp XCA.b .nil As (Aa (pv 1) (Aa (Aj GT (hr.mono (by decide)) (by rfl) XT.mg XT.F.kp XT.b .nil As (Aa (pv 1) (Aa Ag Ac))) Ac))))
  (Ae (Ar (i:=4) nd rfl (Or.inl rfl) (Aj GOP (hr.mono (by decide)) (by rfl) XOP.mg XOP.F.kp XOP.b .nil As (Aa (pv 3) Ac)))
  (Al (Cb PassesOwn.never rfl (CV (by rfl) h_range (Aa Ag Ac)) (Ai (i:=5) nd rfl (Or.inl rfl))
  (Al (Dd (HE (Kg (Aj GRR (hr.mono (by decide)) (by rfl) XRR.mg XRR.F.kp XRR.b .nil As (Aa (pv 3) (Aa (A9 (AX K rfl) (pv 4) (Aj GT (hr.mono (by decide)) (by rfl) XT.mg XT.F.kp XT.b .nil As (Aa (pv 1) (Aa (Ak (Aw K rfl) (by rfl) h_len PySem.boot_len (Aa (pv 4) Ac)) Ac))) (fun _ _=>rfl)) Ac)))))
  (Al (A5 J1))
  Bw)))))))
  (Al (A5 J1)))),?_⟩
  refine ⟨_,rfl,(by show 3<=sizeLine; lia),fun p hp=>?_⟩;have P0:Ec K (upd H p (.lst [.ref a,.int 0,.int 0])) p:=⟨a,ns,0,0,Ab,hS.same (Ad hp),hlen,by decide,by decide⟩
  generalize upd H p (.lst [.ref a,.int 0,.int 0])=H0 at P0;refine ⟨3,rfl,by decide,by decide,CY (n:=3) (fun _ σ H'=>∃ v2 v3 v4 v5,σ=[some (.ref a),some (.ref p),v2,v3,v4,v5]/\Ec K H' p) ⟨_,_,_,_,rfl,P0⟩ ?_ (fun σ H' _=>k H')⟩;rintro j σ H1 hj ⟨v2,v3,v4,v5,rfl,P1⟩;refine ⟨_,rfl,_,rfl,p,4,rfl,P1,by decide,by decide,fun sh H2 P2 k2 Wg sh1=>?_⟩;refine ⟨p,sh,rfl,P2,Wg,sh1,fun H3 c m n xs ws rs1 A2 x d P3 k3 cs=>?_⟩;have l6:=cs.l6;have Vs:=cs.cw.ok1.one;have sn:=cs.cw.ok1.nd;have ri:B5 (rs1.map (·.1)):=Gg (Ce cs.so1) sn;refine ⟨_,rfl,c,rs1.map (·.1),x,d,rfl,cs.cw.sites,by rw [XJ]; exact l6,fun H4 EV us os s4 fE hE tU op ol=>?_⟩;have ul:=tU.len;have one:os ≠ []:=op.ne (fun z=>by have:=congrArg Zh z; rw [XJ] at this; simp at this; rw [this] at Vs; simp at Vs) cs.cw.lim;have P9:=P3.same s4;have nE:EV ≠ p:=fun e=>by
   obtain ⟨_,_,_,_,z,_⟩:=P3;rw [e,z] at fE;cases fE
  refine ⟨3,rfl,by decide,by decide,CY (n:=3) (fun _ σ H'=>∃ v5:Option V,σ=[some (.ref a),some (.ref p),some (.int (0 + (j:Int))),some (.ref c),some (.ref EV),v5]/\Ec K H' p/\AZ p H4 H') ⟨_,rfl,P9,AZ.refl _ _⟩ ?_ ?_⟩
  ·rintro i σ H' hi ⟨WD,rfl,Pa,ka⟩;have hEa:=ka _ _ nE hE;have ulp:0 < us.length:=by
    rw [ul];exact Zd.mpr one
   refine ⟨_,rfl,_,rfl,_,rfl,_,rfl,EV,_,rfl,.inl (AM.of hEa),p,_,rfl,Pa,by lia,by lia,fun e1 Hb Pb kb' e10 e11=>?_⟩;obtain ⟨q,rfl⟩:∃ q:Nat,e1=q:=⟨e1.toNat,by lia⟩
   have hq:q < us.length:=by lia
   have uq:us[q]? = some us[q]:=XO hq;obtain ⟨t,f',et,ef,ht⟩:=tU.get uq;have k9b:AZ p H4 Hb:=ka.trans kb';have tpb:=Gu P9 k9b;refine ⟨EV,_,_,us[q],rfl,rfl,AM.of (kb' _ _ nE hEa),C9 uq,?_⟩;rw [et];refine ⟨c,t,m,n,xs,ws,rs1,A2,x,d,f',rfl,⟨(cs.cw.same s4).keepT tpb,ri,tpb _ _ ht,(op.2.2 f').mp (XY ef)⟩,fun Pp Tn=>⟨_,rfl,?_⟩⟩;refine L3 ?_;exact ⟨_,rfl,Pb.same Tn,k9b.trans (AZ.of_same Tn)⟩
  ·rintro σ H' ⟨WD,rfl,Pa,ka⟩;exact ⟨_,_,_,_,rfl,Pa⟩
end
section
variable {P:Program} {w:World} {K:XU} {mg:Str->Option Value} {base:Heap}
theorem Kr (h_all:mg "all"=none) (h_len:mg "len"=none) {fCT:Addr} {fdCT:FuncData} (XCT:Fn K mg "cost" Kc ["case","opening"] fCT fdCT) (GCT:A7 P w K mg base B9 5 fCT fdCT ["case","opening"] Qj) {fEX:Addr} {fdEX:FuncData} (XEX:Fn K mg "exchanges" Du ["case","opening"] fEX fdEX) (GEX:A7 P w K mg base B9 6 fEX fdEX ["case","opening"] Gv) {fMA:Addr} {fdMA:FuncData} (XMA:Fn K mg "_law_many" DO ["_law_case_here","_law_opening"] fMA fdMA) (GMA:A7 P w K mg base B9 1 fMA fdMA ["_law_case_here","_law_opening"] Qg) {fLB:Addr} {fdLB:FuncData} (XLB:Fn K mg "_law_behind" CN ["_law_opening","_law_exchange"] fLB fdLB) (GLB:A7 P w K mg base B9 1 fLB fdLB ["_law_opening","_law_exchange"] KW) {fSE:Addr} {fdSE:FuncData} (XSE:Fn K mg "is_settled" CO ["case","opening"] fSE fdSE) (GSE:A7 P w K mg base B9 7 fSE fdSE ["case","opening"] Jr) {f:Addr} {fd:FuncData} (F:Ek K "_law_right" "_law_right" Ds f fd):A7 P w K mg base B9 8 f fd ["_law_case_here","_law_opening"] Js:=by
 refine F.ok F5 (fun vs H Q E h=>?_) (fun cdv A outer s H vs Q E hr h=>?_)
 ·obtain ⟨c,o,m,n,xs,ws,rs1,A2,x,d,op,rfl,_⟩:=h;rfl
 ·obtain ⟨c,o,m,n,xs,ws,rs1,A2,x,d,op,rfl,cx,k⟩:=h;have nd:=F5.nd;have IX:=hr.units;have big:100000 < sizeLine:=by decide
  refine ⟨_,(Ae (Ar (i:=2) nd rfl (Or.inr rfl) (Aj GCT (hr.mono (by decide)) (by rfl) XCT.mg XCT.F.kp XCT.b .nil As (Aa (pv 0) (Aa (pv 1) Ac))))
  (Ae (Ar (i:=3) nd rfl (Or.inl rfl) (Aj GEX (hr.mono (by decide)) (by rfl) XEX.mg XEX.F.kp XEX.b .nil As (Aa (pv 0) (Aa (pv 1) Ac))))
  (Ae (Dd (Bm J3 (Ak (Aw K rfl) (by rfl) h_len PySem.boot_len (Aa (pv 3) Ac)) (Aj GMA (hr.mono (by decide)) (by rfl) XMA.mg XMA.F.kp XMA.b .nil As (Aa (pv 0) (Aa (pv 1) Ac))) (Bl _))
  (Al (A5 J1))
  Bw)
  (Ae (Cb PassesOwn.never rfl (Cp K rfl (pv 3)) (Bx K rfl rfl (Ap (Ai (i:=4) nd rfl (Or.inl rfl)) (Ap (Ai (i:=5) nd rfl (Or.inl rfl)) Bs)))
  (Ae (DS (Aj GLB (hr.mono (by decide)) (by rfl) XLB.mg XLB.F.kp XLB.b .nil As (Aa (pv 1) (Aa (pv 4) Ac))) (Bx K rfl rfl (Ap (Ai (i:=6) nd rfl (Or.inl rfl)) (Ap (Ai (i:=7) nd rfl (Or.inl rfl)) Bs))))
  (Al (Dd (Lf (Bm J3 (Aj GCT (hr.mono (by decide)) (by rfl) XCT.mg XCT.F.kp XCT.b .nil As (Aa (pv 0) (Aa (pv 6) Ac))) (pv 5) (Bl _)) (HC (Bm J3 (HK PySem.F.plainAttrs_list PySem.F.slot_list_count PySem.F.type_list_count (OG IX) (Aj GEX (hr.mono (by decide)) (by rfl) XEX.mg XEX.F.kp XEX.b .nil As (Aa (pv 0) (Aa (pv 6) Ac))) (Aa (Ba (Aa (pv 7) (Aa (pv 2) Ac))) Ac)) Ag (Bl _)))).pt
  (Al (A5 J1))
  Bw))))
  (Al (A5 (EJ Ll (Aj GSE (hr.mono (by decide)) (by rfl) XSE.mg XSE.F.kp XSE.b .nil As (Aa (pv 0) (Aa (pv 1) Ac))) (Ak (Dx rfl) (by rfl) h_all PyProof.Rows.boot_all (Aa (By (N:=["_law_exchange","_law_number","_law_total"]) (σ0:=fun σ=>[none,none,some 2].map fun j=>j.bind fun j=>(σ[j]?).join) rfl (A8.caught (by rfl) (by decide +kernel) rfl (by decide +kernel) (by intro y hy; simp only [XX,Yg,or_false] at hy; rcases hy with rfl <;> rfl)
   (by intro y hy e; simp only [XX,Yg,or_false] at hy; rcases hy with rfl | rfl | rfl | rfl <;> first | exact ⟨_,rfl⟩ | cases e)) (fun σ _=>AR.of [none,none,some 2] rfl (by
   intro i j x h1 h2;match i,h1,h2 with
   | 0,_,h2=>cases h2
   | 1,_,h2=>cases h2
   | 2,h1,h2=>cases h1; cases h2; exact ⟨rfl,.inl rfl,.inl rfl⟩
   | n + 3,h1,_=>cases h1)) (Cp K rfl (pv 3))
   (fun s2 H C fp=>⟨(Bx K rfl (n:=2) rfl (Ap (Ai (i:=0) (show (["_law_exchange","_law_number","_law_total"]:List Str).Nodup by decide +kernel) rfl (Or.inl rfl)) (Ap (Ai (i:=1) (show (["_law_exchange","_law_number","_law_total"]:List Str).Nodup by decide +kernel) rfl (Or.inl rfl)) Bs))),AY,(EJ Ts (pv 1) (pv 2) (Bl _))⟩)) Ac)) (Bl _)))))))),?_⟩
  have sn:=cx.cw.ok1.nd;obtain ⟨on,os,oe⟩:=Cq cx.op sn;have sl:(rs1.map (·.1)).length<=10:=by rw [XJ]; exact cx.cw.l1
  have ol:=o10x cx.op sn sl;have so:=Eo (cx.ri.sub cx.op.2.1).pw;have nms:∀ s ∈ rs1.map (·.1),AV s=true:=fun s hs=>by
   obtain ⟨r,N2,rfl⟩:=Yc.mp hs;exact cx.cw.map.at'.nm _ (cx.cw.ok1.sub r N2)
  have fine:∀ {OA ps},R0 (rs1.map (·.1)) x OA->TJ ws rs1 A2 x OA ps->CG (.list (ps.map B0)) 3 60000/\∀ p ∈ ps,(B0 p).canLay0=true:=fun {OA ps} o' h=>by
   obtain ⟨on,os,_⟩:=Cq o' sn;have VW:=E4 o' sn sl;have el:(D5 (rs1.map (·.1)) x OA).length<=(Bv (rs1.map (·.1)) OA).length:=YB _ _;have hl:=h.1.length_eq;rw [XJ,XJ] at hl;have all:∀ p ∈ ps,(∀ s ∈ p.1,AV s=true)/\p.1.length<=3/\0<=p.2/\p.2 < 2 ^ 600:=fun p hp=>by
    obtain ⟨e,zs,a1,a2,a3,a4⟩:=h.2.2 p hp;have nm:=Rn nms os (Y3.mp a1).1;have oz:=a3.opn a1 on os;rw [a2] at nm;exact ⟨nm.1,nm.2,Of cx.cw oz (Yv (List.Nodup.length_le_of_subset oz.2.1 (fun s hs=>oz.2.2 s hs)) sl) a4⟩
   refine ⟨ND (by lia) all,fun p hp=>?_⟩;have f1:=(ND (ps:=[p]) (by show 1 < 64; decide) fun q hq=>by rw [Yn.mp hq]; exact all p hp).lay;rw [PyData.canLay0,Ym,PyData.canLayAll0,YA] at f1;exact f1.1
  have ho:=cx.ho;have opo:=cx.op.opn sn;refine ⟨_,rfl,_,rfl,c,o,m,n,xs,op,ws,rs1,A2,x,d,rfl,cx.cw,ho,FE cx.cw opo,opo,L7 cx.cw (FE cx.cw opo),fun H1 gs s1 go=>?_⟩;have tot:=go.total (rs1:=rs1) cx.cw.ok2.nd;obtain ⟨t0,W3⟩:∃ t0,t0=(op.map (Bc rs1)).sum + Hg A2 gs:=⟨_,rfl⟩
  rw [<-W3] at tot;rw [show (op.map (Bc rs1)).sum + (gs.map fun g=>Bc A2 g.1 * g.2.2).sum=t0 from W3.symm];refine ⟨_,rfl,_,rfl,c,o,m,n,xs,ws,rs1,A2,x,d,op,rfl,cx.keepT (fun b ys z=>s1 _ _ z),fun H2 L vs ps s2 fL hL er due=>?_⟩;have WL:=s1.trans s2;have vl:(vs.length:Int)=((D5 (rs1.map (·.1)) x op).length:Int):=by
   have a:=er.1;have b:=due.1.length_eq;rw [XJ,XJ] at b;lia
  refine ⟨_,rfl,L,_,rfl,.inl (AM.of hL),_,rfl,_,rfl,c,o,m,n,xs,ws,rs1,A2,x,d,op,rfl,cx.keepT (fun b ys z=>WL _ _ z),fun H3 s3=>⟨rfl,_,rfl,?_⟩⟩;rw [vl];refine Bz (fun z=>by simp at z) (fun _=>?_);have s03:=WL.trans s3;have Xx:=s3 _ _ hL;refine ⟨_,rfl,L,rfl,⟨_,AM.of Xx⟩,?_⟩;refine FO (xs:=vs) (fun i σ H'=>∃ (v4 v5 v6 v7:Option V),σ=[some (.ref c),some (.ref o),some (.int t0),some (.ref L),v4,v5,v6,v7]/\Au H3 H') ⟨_,_,_,_,rfl,Au.refl _⟩ (fun i σ H' _ ⟨_,_,_,_,_,sa⟩=>AM.of (sa _ _ Xx)) ?_ ?_
  ·rintro i v σ H' hv ⟨v4,v5,v6,v7,rfl,sa⟩;have hi:i < ps.length:=by rw [<-er.1]; exact (Yb.mp hv).1
   have ep:ps[i]? = some ps[i]:=XO hi;obtain ⟨t,kA,rfl,ht,hk⟩:=er.2 i v _ hv ep;obtain ⟨e,zs0,a1,a2,a3,a4⟩:=due.2.2 _ (XY ep);have WJ:=s3.trans sa;have s0a:=WL.trans WJ;rw [<-a2] at hk;refine ⟨t,_,rfl,AE.of (WJ _ _ ht),rfl,_,_,rfl,_,_,rfl,rfl,?_⟩;refine ⟨_,rfl,_,rfl,o,kA,rs1.map (·.1),op,e,rfl,s0a _ _ ho,WJ _ _ hk,(Y3.mp a1).1,ol,on,so,fun H4 T ta ba zs s4 hT hta oc hba=>?_⟩;have ez:=oc.uniq a3;subst ez;refine ⟨T,_,rfl,AE.of hT,rfl,_,_,rfl,_,_,rfl,rfl,?_⟩;have oz:=oc.ops a1 cx.ri on os;have opz:=oz.opn sn;have Mh:=s03.trans (sa.trans s4);refine ⟨_,rfl,_,rfl,c,ta,m,n,xs,zs,ws,rs1,A2,x,d,rfl,cx.cw.same Mh,hta,FE cx.cw opz,opz,L7 cx.cw (FE cx.cw opz),fun H5 gs5 s5 go5=>?_⟩;have tz:(zs.map (Bc rs1)).sum + (gs5.map fun g=>Bc A2 g.1 * g.2.2).sum=ps[i].2:=(go5.total (rs1:=rs1) cx.cw.ok2.nd).uniq a4;rw [tz];refine ⟨_,rfl,rfl,_,rfl,?_⟩;refine Bz (fun z=>by simp at z) (fun _=>?_);have Wk:=Mh.trans s5;refine ⟨_,rfl,_,rfl,c,ta,m,n,xs,ws,rs1,A2,x,d,zs,rfl,⟨cx.cw.same Wk,cx.ri,s5 _ _ hta,oz⟩,fun H6 L6 vs6 Wm s6 fL6 hL6 er6 SJ=>?_⟩;obtain ⟨bm,bo⟩:=S3 oc a1 cx.ri cx.op;have zn:=(Cq oz sn).1;obtain ⟨X4,Xa⟩:=fine oz SJ;have pm:((CL e).1,t0) ∈ Wm:=by
    have km:(CL e).1 ∈ Wm.map (·.1):=SJ.1.mem_iff.mpr (Yc.mpr ⟨_,bm,rfl⟩);obtain ⟨p,hp,pe⟩:=Yc.mp km;obtain ⟨e',R9,b1,b2,b3,b4⟩:=SJ.2.2 p hp;have ee:e'=CL e:=Ro sn zn b1 bm (b2.trans pe);subst ee;rw [b3.uniq bo] at b4;have:p=((CL e).1,t0):=Prod.ext pe (b4.uniq tot);rw [<-this];exact hp
   have lp:=Xa _ pm;have nd6:(Wm.map (·.1)).Nodup:=SJ.1.nodup_iff.mpr (C3 sn zn);have dp:(B0 ((CL e).1,t0)).depth<=60:=by
    show PyData.depth (.tuple [.tuple ((CL e).1.map .str),.int t0])<=60
    rw [PyData.depth,PyData.depthAll,PyData.depth,DX,PyData.depthAll,PyData.depthAll,PyData.depth];decide
   have lall:=X4.lay;rw [PyData.canLay0] at lall;refine ⟨.inl ⟨rfl,_,AM.of hL6⟩,_,rfl,_,rfl,(by show 2<=sizeLine; lia),fun W hW=>?_⟩;have sW:=Ad (o:=.tup [V.ref ba,V.int t0]) hW;refine ⟨L6,.ref W,B0 ((CL e).1,t0),Wm.map B0,rfl,rfl,.lst (sW _ _ hL6) (NU.dats (er6.keepX fun b ys z=>sW _ _ z)),.tup Ab (.cons (.tup (sW _ _ (s6 _ _ (s5 _ _ hba))) (Cg _ _)) (.cons (.int _) .nil)),lp,lall,dp,rfl,_,rfl,?_⟩;rw [Pk nd6 pm lp];refine Bz (fun z=>by simp at z) (fun _=>?_);exact ⟨_,_,_,_,rfl,sa.trans (s4.trans (s5.trans (s6.trans sW)))⟩
  rintro σ H4 ⟨v4,v5,v6,v7,rfl,s4⟩;have Mh:=s03.trans s4;have hL4:=s4 _ _ Xx;refine ⟨_,rfl,_,rfl,c,o,m,n,xs,ws,rs1,A2,x,d,op,rfl,cx.keepT (fun b ys z=>Mh _ _ z),fun H5 b s5 hb=>?_⟩;have hL5:=s5 _ _ hL4;have Wi:=s3.trans (s4.trans s5);have VW:=E4 cx.op sn sl;have ell:(D5 (rs1.map (·.1)) x op).length<=(Bv (rs1.map (·.1)) op).length:=YB _ _;refine ⟨_,rfl,L,rfl,⟨_,AM.of hL5⟩,?_⟩;refine Bt C0 (xs:=vs) (fun D i σ H' acc=>∃ v0 v1:Option V,σ=[v0,v1,some (.int t0)]/\Au H5 H'/\H' D=some (.lst acc)/\acc=((ps.take i).map fun p=>decide (t0<=p.2)).map V.bl/\acc.length=i)
   (by lia) (fun D hD=>⟨_,_,rfl,Ad hD,Ab,rfl,rfl⟩) (fun D i σ H' acc hD ⟨v0,v1,_,sa,AS,_,al⟩=>⟨AM.of (sa _ _ hL5),AS,al⟩) ?_ ?_
  ·rintro D i σ H' acc v B hD hv ⟨v0,v1,rfl,sa,AS,ea,al⟩ hB;have hi:i < ps.length:=by rw [<-er.1]; exact (Yb.mp hv).1
   have ep:ps[i]? = some ps[i]:=XO hi;obtain ⟨t,kA,rfl,ht,hk⟩:=er.2 i v _ hv ep;refine ⟨t,_,rfl,AE.of (sa _ _ (Wi _ _ ht)),rfl,_,_,rfl,_,_,rfl,rfl,?_⟩;refine ⟨_,rfl,_,rfl,_,_,rfl,rfl,?_⟩;refine hB _ _ _ AS ⟨_,_,rfl,BE sa hD,Ab,?_,by rw [XZ,al]; rfl⟩;rw [ea,F0 (fun p:List Str × Int=>decide (t0<=p.2)) ep,Yi];rfl
  rintro D σ H6 acc hD ⟨v0,v1,rfl,s6,AS,ea,_⟩;rw [er.1,Yu] at ea;refine ⟨D,_,rfl,AM.of (by rw [AS,ea]),rfl,?_⟩;have eb:b=(ps.map fun p=>decide (t0<=p.2)).all id:=by
   rw [YZ,hb,Za];constructor
   ·intro bn q hq;obtain ⟨p,hp,rfl⟩:=Yc.mp hq;obtain ⟨e,zs,a1,a2,a3,a4⟩:=due.2.2 p hp;exact decide_eq_true (bn e a1 zs p.2 t0 a3 a4 tot)
   ·intro h e he zs t t0' oc tt tt0;rw [tt0.uniq tot];have km:e.1 ∈ ps.map (·.1):=due.1.mem_iff.mpr (Yc.mpr ⟨_,he,rfl⟩);obtain ⟨p,hp,pe⟩:=Yc.mp km;obtain ⟨e',R9,b1,b2,b3,b4⟩:=due.2.2 p hp;have ee:e'=e:=Ro sn on b1 he (b2.trans pe);subst ee;rw [b3.uniq oc] at b4;rw [tt.uniq b4];exact of_decide_eq_true (h _ (Yc.mpr ⟨p,hp,rfl⟩))
  show Q (.bl (decide (V.bl b=V.bl ((ps.map fun p=>decide (t0<=p.2)).all id)))) H6
  rw [eb,decide_eq_true rfl];exact k _ (Mh.trans (s5.trans s6))
end
section
variable {P:Program} {w:World} {K:XU} {mg:Str->Option Value} {base:Heap}
theorem Lo (h_int:mg "int"=none) (h_len:mg "len"=none)  {f:Addr} {fd:FuncData} (F:Ek K "_law_many" "_law_many" DO f fd):A7 P w K mg base B9 1 f fd ["_law_case_here","_law_opening"] Qg:=by
 refine F.ok Gx (fun vs H Q E h=>?_) (fun cdv A outer s H vs Q E hr h=>?_)
 ·obtain ⟨c,o,m,n,xs,ws,rs1,A2,x,d,op,rfl,_⟩:=h;rfl
 ·obtain ⟨c,o,m,n,xs,ws,rs1,A2,x,d,op,rfl,cx,k⟩:=h;have nd:=Gx.nd;have big:100000 < sizeLine:=by decide
  refine ⟨_,(Ae (Ar (i:=2) nd rfl (Or.inl rfl) (Ak (Aw K rfl) (by rfl) h_len PySem.boot_len (Aa (pv 1) Ac)))
  (Ae (Ar (i:=3) nd rfl (Or.inl rfl) (Av HP (Ak (Aw K rfl) (by rfl) h_len PySem.boot_len (Aa (A9 (AO K rfl) (pv 0) Ag (fun _ _=>rfl)) Ac)) (pv 2)))
  (Ae (Ar (i:=4) nd rfl (Or.inl rfl) (Av Bh (Av De (pv 2) (pv 3)) (Av De (pv 2) (A0 EM (by rfl) h_int PyProof.Rows.boot_int (Aa (EJ QL (pv 2) Ag (Bl _)) Ac)))))
  (Ae (Dd (Lf (HF (HL (A9 (AO K rfl) (pv 0) Ag (fun _ _=>rfl)))) (HC (Bm J4 (pv 2) (A9 (AO K rfl) (pv 0) Ag (fun _ _=>rfl)) (Bl _)))).pt
  (Al (Ar (i:=4) nd rfl (Or.inl rfl) (Av Bh (pv 4) (pv 3))))
  Bw)
  (Al (A5 (pv 4))))))),?_⟩
  obtain ⟨t1,t2,El,LS,hc,Ho,Ik,IJ,hd2⟩:=cx.cw.ex;have We:=B6 Ik;have l1:=cx.cw.l1;have sn:=cx.cw.ok1.nd;have ho:=cx.ho;have el:=S9 cx.op sn;have oth:=Si cx.op sn;rw [XJ] at oth;obtain ⟨b,eb⟩:∃ b,b=(AB (rs1.map (·.1)) op).length:=⟨_,rfl⟩
  obtain ⟨a,ea⟩:∃ a,a=op.length:=⟨_,rfl⟩
  rw [<-eb,<-ea] at el;rw [<-eb,<-ea] at oth;have sh:(El.length:Int) - (a:Int)=(b:Int):=by lia
  refine ⟨_,rfl,o,_,rfl,.inr (AE.of ho),?_⟩;rw [XJ,<-ea];refine ⟨_,rfl,c,_,_,_,rfl,rfl,AE.of hc,rfl,t1,_,rfl,.inr (AE.of Ho),_,rfl,_,_,rfl,rfl,?_⟩;refine ⟨_,rfl,_,rfl,_,_,rfl,rfl,.inl ⟨by lia,by lia⟩,_,rfl,_,rfl,_,_,rfl,rfl,.inr ⟨_,rfl,_,_,rfl,rfl,.inl ⟨by lia,by lia⟩,_,_,rfl,rfl,?_⟩⟩;refine ⟨_,rfl,c,_,_,_,rfl,rfl,AE.of hc,rfl,_,rfl,?_⟩;have fin:∀ v:Int,v=((D5 (rs1.map (·.1)) x op).length:Int)->Q (.int v) H:=fun v e=>by rw [e]; exact k _ (Au.refl _)
  have num:(a:Int) * (b:Int) + (a:Int) * (if decide ((1:Int) < (a:Int))=true then 1 else 0)=((a * ((if 1 < a then 1 else 0) + b):Nat):Int):=by
   by_cases q:1 < a
   ·rw [if_pos q,if_pos (decide_eq_true (by lia)),bY,aJ,cG,aZ];rfl
   ·rw [if_neg q,if_neg (by simp; lia),bY,aJ,cG,aZ];rfl
  rcases cx.cw.lim with ⟨rfl,_⟩ | ⟨lm,rfl,_,lm1,lm2⟩
  ·refine Bz (fun _=>Ms ?_) (fun z=>by simp at z);refine ⟨_,rfl,_,rfl,_,_,rfl,rfl,?_⟩;refine ⟨_,rfl,fin _ ?_⟩;show (a:Int) * ((El.length:Int) - a) + a * (if decide ((1:Int) < a)=true then 1 else 0) + ((El.length:Int) - a)=_
   rw [sh];rw [num,el,if_pos (show C2 V.non (a + 1)=true from rfl)];lia
  ·refine Bz (fun z=>by simp at z) (fun _=>?_);refine ⟨_,rfl,_,rfl,c,_,_,_,rfl,rfl,AE.of hc,rfl,_,_,rfl,rfl,_,rfl,?_⟩;refine Bz (fun z=>?_) (fun z=>?_)
   ·refine ⟨_,rfl,_,rfl,_,_,rfl,rfl,?_⟩;refine ⟨_,rfl,fin _ ?_⟩;show (a:Int) * ((El.length:Int) - a) + a * (if decide ((1:Int) < a)=true then 1 else 0) + ((El.length:Int) - a)=_
    rw [sh];have z':=of_decide_eq_true z;rw [num,el,if_pos (show C2 (V.int lm) (a + 1)=true from decide_eq_true (by lia))];lia
   ·refine ⟨_,rfl,fin _ ?_⟩;show (a:Int) * ((El.length:Int) - a) + a * (if decide ((1:Int) < a)=true then 1 else 0)=_
    rw [sh];rw [num,el,if_neg (show ¬ C2 (V.int lm) (a + 1)=true from fun q=>z (decide_eq_true (by have:=of_decide_eq_true q; lia)))];lia
end
section
variable {P:Program} {w:World} {K:XU} {mg:Str->Option Value} {base:Heap}
theorem IT (h_sorted:mg "sorted"=none) (h_tuple:mg "tuple"=none)  {f:Addr} {fd:FuncData} (F:Ek K "_law_behind" "_law_behind" CN f fd):A7 P w K mg base B9 1 f fd ["_law_opening","_law_exchange"] KW:=by
 refine F.ok EX (fun vs H Q E h=>?_) (fun cdv A outer s H vs Q E hr h=>?_)
 ·obtain ⟨o,kA,ss,op,e,rfl,_⟩:=h;rfl
 ·obtain ⟨o,kA,ss,op,e,rfl,ho,hk,em,ol,on,so,k⟩:=h;have nd:=EX.nd;have big:100000 < sizeLine:=by decide
  refine ⟨_,(Ae (Ar (i:=2) nd rfl (Or.inl rfl) (A9 (AO K rfl) (pv 1) Ag (fun _ _=>rfl)))
  (Ae (Dd (Bm Ll (pv 2) Cc (Bl _))
  (Al (A5 (Ba (Aa (A0 (AG K rfl) (by rfl) h_tuple PyProof.Rows.boot_tuple (Aa (Ak FR (by rfl) h_sorted PyProof.Rows.boot_sorted (Aa (Av (Lm K rfl) (pv 0) (QC (RV K rfl) (pv 1) (Kh Ag) Ki)) Ac)) Ac)) (Aa (Ba (Aa Cc (Aa (A9 (AO K rfl) (pv 1) Ag (fun _ _=>rfl)) Ac))) Ac)))))
  Bw)
  (Ae (Hk (ix:=3) (N:=["_law_house","_law_exchange"]) (σ0:=fun σ=>[none,some 1].map fun j=>j.bind fun j=>(σ[j]?).join) nd rfl (Or.inl rfl) rfl (A8.caught (by rfl) (by decide +kernel) rfl (by decide +kernel) (by intro y hy; simp only [XX,Yg,or_false] at hy; rcases hy with rfl <;> rfl)
   (by intro y hy e; simp only [XX,Yg,or_false] at hy; rcases hy with rfl | rfl | rfl <;> first | exact ⟨_,rfl⟩ | cases e)) (fun σ _=>AR.of [none,some 1] rfl (by
   intro i j x h1 h2;match i,h1,h2 with
   | 0,_,h2=>cases h2
   | 1,h1,h2=>cases h1; cases h2; exact ⟨rfl,.inl rfl,.inl rfl⟩
   | n + 2,h1,_=>cases h1)) (BO K rfl (pv 0))
   (fun s2 H C fp=>⟨(Ai (i:=0) (show (["_law_house","_law_exchange"]:List Str).Nodup by decide +kernel) rfl (Or.inl rfl)),(EH (Bm J3 (pv 0) (A9 (AO K rfl) (pv 1) Ag (fun _ _=>rfl)) (Bl _))),(pv 0)⟩))
  (Ae (Dd (Bm Ll (pv 2) Cc (Bl _))
  (Al (A5 (Ba (Aa (A0 (AG K rfl) (by rfl) h_tuple PyProof.Rows.boot_tuple (Aa (pv 3) Ac)) (Aa (Ba (Aa Cc (Aa (A9 (AO K rfl) (pv 1) Ag (fun _ _=>rfl)) Ac))) Ac)))))
  Bw)
  (Al (A5 (Ba (Aa (A0 (AG K rfl) (by rfl) h_tuple PyProof.Rows.boot_tuple (Aa (Ak (Dw K rfl) (by rfl) h_sorted PyProof.Rows.boot_sorted (Aa (Av Ko (pv 3) (BF (Aa (A9 (AO K rfl) (pv 1) Ag (fun _ _=>rfl)) Ac))) Ac)) Ac)) (Aa (Ba (Aa Cc (Aa (A9 (AO K rfl) (pv 1) Ag (fun _ _=>rfl)) (Aa (A9 (AO K rfl) (pv 1) Ag (fun _ _=>rfl)) Ac)))) Ac))))))))),?_⟩
  have w1:("shut":Str) ≠ "open"/\("swap":Str) ≠ "open"/\("swap":Str) ≠ "shut":=by decide +kernel
  rcases EL.mp em with ⟨s,a,rfl⟩ | ⟨h,a,rfl | ⟨s,b,rfl⟩⟩
  ·have hk:H kA=some (.tup [V.str "open",V.str s]):=hk;refine ⟨_,rfl,kA,_,_,_,rfl,rfl,AE.of hk,rfl,?_⟩;refine ⟨_,rfl,rfl,_,rfl,?_⟩;refine Bz (fun _=>?_) (fun z=>by simp at z);refine ⟨_,rfl,_,rfl,_,rfl,kA,_,rfl,AE.of hk,(fun z=>absurd z.1 (by show ¬ ((1:Nat)=0); decide)),fun p hp=>?_⟩;have sp:=Ad (o:=.tup (MB [V.str "open",V.str s] (some 1) none)) hp;have hpp:(upd H p (.tup (MB [V.str "open",V.str s] (some 1) none))) p=some (.tup [V.str s]):=Ab;generalize upd H p (.tup (MB [V.str "open",V.str s] (some 1) none))=H1 at sp hpp ⊢;refine catA (K:=K) (sp _ _ ho) hpp (by rw [XJ]; show op.length + 1<=sizeLine; lia) fun T2 H2 s2 N3=>?_
   refine ⟨T2,op ++ [s],rfl,by rw [N3,Yi]; rfl,by rw [XZ,YD]; lia,fun l zs hl pz sz=>⟨l,zs.map V.str,rfl,.inl ⟨AM.of Ab,fun t ht=>?_⟩⟩⟩;have s3:=s2.trans ((Ad (o:=.lst (zs.map V.str)) hl).trans (Ad (o:=.tup (zs.map V.str)) ht));have Wv:=s3 _ _ (sp _ _ hk);refine ⟨_,rfl,kA,_,_,_,rfl,rfl,AE.of Wv,rfl,(by show 2<=sizeLine; lia),fun B hB=>?_⟩;have sB:=Ad (o:=.tup [V.str "shut",V.str s]) hB;refine ⟨(by show 2<=sizeLine; lia),fun T hT=>?_⟩;have sT:=Ad (o:=.tup [V.ref t,V.ref B]) hT;exact k _ T t B zs (sp.trans (s3.trans (sB.trans sT))) Ab (sT _ _ (sB _ _ Ab)) ⟨by show zs.Perm (AL op none ++ [s]); rw [JB]; exact pz,sz⟩ (sT _ _ Ab)
  ·have hk:H kA=some (.tup [V.str "shut",V.str h]):=hk;refine ⟨_,rfl,kA,_,_,_,rfl,rfl,AE.of hk,rfl,?_⟩;refine ⟨_,rfl,rfl,_,rfl,?_⟩;refine Bz (fun z=>by simp [w1.1] at z) (fun _=>?_);refine ⟨_,rfl,o,rfl,⟨_,AE.of ho⟩,?_⟩;refine Cf B7 (xs:=op.map V.str) (fun D i σ H' acc=>∃ v0:Option V,σ=[v0,some (.ref kA)]/\Au H H'/\H' D=some (.lst acc)/\acc=(AL (op.take i) (some h)).map V.str)
    (by rw [XJ]; lia) (fun D hD=>⟨_,rfl,Ad hD,Ab,rfl⟩) (fun D i σ H' acc hD ⟨v0,_,sa,AS,ea⟩=>⟨AE.of (sa _ _ ho),AS,by rw [ea,XJ]; exact Yv (YB _ _) (by rw [Y7]; exact Z7 _ _)⟩) ?_ ?_
   ·rintro D i σ H' acc x' B N hD ex ⟨v0,rfl,sa,AS,rfl⟩ hB hN;obtain ⟨y,ey,rfl⟩:=DA ex;have tk:=D9 (fun h'=>decide (some h' ≠ some h)) ey;refine ⟨_,rfl,_,rfl,kA,_,_,_,rfl,rfl,AE.of (sa _ _ hk),rfl,rfl,_,rfl,?_⟩;rw [show (!decide (V.str y=V.str h))=decide (some y ≠ some h) by simp];refine Bz (fun z=>?_) (fun z=>?_)
    ·rw [if_pos z] at tk;exact ⟨_,rfl,hB _ _ _ AS ⟨_,rfl,BE sa hD,Ab,by unfold AL; rw [tk,Yi]; rfl⟩⟩
    ·rw [if_neg z,YN] at tk;exact hN _ _ ⟨_,rfl,sa,AS,by unfold AL; rw [tk]⟩
   rintro D σ H1 acc hD ⟨v0,rfl,s1,AS,rfl⟩;rw [XJ,Yu] at AS;have kl:(AL op (some h)).length<=op.length:=YB _ _;have Ww:=s1 _ _ hk;refine ⟨_,rfl,rfl,_,rfl,?_⟩;refine Bz (fun _=>?_) (fun z=>by simp at z);refine ⟨_,rfl,D,_,rfl,.inl ⟨AM.of AS,fun t ht=>?_⟩⟩;have s2:=Ad (o:=.tup ((AL op (some h)).map V.str)) ht;refine ⟨_,rfl,kA,_,_,_,rfl,rfl,AE.of (s2 _ _ Ww),rfl,(by show 2<=sizeLine; lia),fun B hB=>?_⟩;have sB:=Ad (o:=.tup [V.str "open",V.str h]) hB;refine ⟨(by show 2<=sizeLine; lia),fun T hT=>?_⟩;have sT:=Ad (o:=.tup [V.ref t,V.ref B]) hT;refine k _ T t B _ (s1.trans (s2.trans (sB.trans sT))) Ab (sT _ _ (sB _ _ Ab)) ⟨?_,Eo ((Ce so).sublist Zs)⟩ (sT _ _ Ab);show (AL op (some h)).Perm (AL op (some h) ++ [])
   rw [YN]
  ·have hk:H kA=some (.tup [V.str "swap",V.str h,V.str s]):=hk;refine ⟨_,rfl,kA,_,_,_,rfl,rfl,AE.of hk,rfl,?_⟩;refine ⟨_,rfl,rfl,_,rfl,?_⟩;refine Bz (fun z=>by simp [w1.2.1] at z) (fun _=>?_);refine ⟨_,rfl,o,rfl,⟨_,AE.of ho⟩,?_⟩;refine Cf B7 (xs:=op.map V.str) (fun D i σ H' acc=>∃ v0:Option V,σ=[v0,some (.ref kA)]/\Au H H'/\H' D=some (.lst acc)/\acc=(AL (op.take i) (some h)).map V.str)
    (by rw [XJ]; lia) (fun D hD=>⟨_,rfl,Ad hD,Ab,rfl⟩) (fun D i σ H' acc hD ⟨v0,_,sa,AS,ea⟩=>⟨AE.of (sa _ _ ho),AS,by rw [ea,XJ]; exact Yv (YB _ _) (by rw [Y7]; exact Z7 _ _)⟩) ?_ ?_
   ·rintro D i σ H' acc x' B N hD ex ⟨v0,rfl,sa,AS,rfl⟩ hB hN;obtain ⟨y,ey,rfl⟩:=DA ex;have tk:=D9 (fun h'=>decide (some h' ≠ some h)) ey;refine ⟨_,rfl,_,rfl,kA,_,_,_,rfl,rfl,AE.of (sa _ _ hk),rfl,rfl,_,rfl,?_⟩;rw [show (!decide (V.str y=V.str h))=decide (some y ≠ some h) by simp];refine Bz (fun z=>?_) (fun z=>?_)
    ·rw [if_pos z] at tk;exact ⟨_,rfl,hB _ _ _ AS ⟨_,rfl,BE sa hD,Ab,by unfold AL; rw [tk,Yi]; rfl⟩⟩
    ·rw [if_neg z,YN] at tk;exact hN _ _ ⟨_,rfl,sa,AS,by unfold AL; rw [tk]⟩
   rintro D σ H1 acc hD ⟨v0,rfl,s1,AS,rfl⟩;rw [XJ,Yu] at AS;have kl:(AL op (some h)).length<=op.length:=YB _ _;have Ww:=s1 _ _ hk;refine ⟨_,rfl,rfl,_,rfl,?_⟩;refine Bz (fun z=>by simp [w1.2.2] at z) (fun _=>?_);refine ⟨_,rfl,_,rfl,kA,_,_,_,rfl,rfl,AE.of Ww,rfl,(by show 1<=sizeLine; lia),fun L1 VR=>?_⟩;have sL1:=Ad (o:=.lst [V.str s]) VR;refine ⟨D,L1,_,_,rfl,rfl,sL1 _ _ AS,Ab,by rw [XJ]; show _ + 1<=sizeLine; lia,fun L2 VQ=>?_⟩;have sL2:=Ad (o:=.lst ((AL op (some h)).map V.str ++ [V.str s])) VQ;refine ⟨L2,AL op (some h) ++ [s],rfl,AM.of (by rw [Yi]; exact Ab),by rw [XZ,YD]; lia,fun l zs hl pz sz=>⟨l,zs.map V.str,rfl,.inl ⟨AM.of Ab,fun t ht=>?_⟩⟩⟩;have s3:=sL1.trans (sL2.trans ((Ad (o:=.lst (zs.map V.str)) hl).trans (Ad (o:=.tup (zs.map V.str)) ht)));have Wv:=s3 _ _ Ww;refine ⟨_,rfl,kA,_,_,_,rfl,rfl,AE.of Wv,rfl,_,rfl,kA,_,_,_,rfl,rfl,AE.of Wv,rfl,(by show 3<=sizeLine; lia),fun B hB=>?_⟩;have sB:=Ad (o:=.tup [V.str "swap",V.str s,V.str h]) hB;refine ⟨(by show 2<=sizeLine; lia),fun T hT=>?_⟩;have sT:=Ad (o:=.tup [V.ref t,V.ref B]) hT;exact k _ T t B zs (s1.trans (s3.trans (sB.trans sT))) Ab (sT _ _ (sB _ _ Ab)) ⟨pz,sz⟩ (sT _ _ Ab)
end
section
variable {P:Program} {w:World} {K:XU} {mg:Str->Option Value} {base:Heap}
theorem IU  {fBE:Addr} {fdBE:FuncData} (XBE:Fn K mg "better" F9 ["case","opening"] fBE fdBE) (GBE:A7 P w K mg base B9 6 fBE fdBE ["case","opening"] KU) {f:Addr} {fd:FuncData} (F:Ek K "is_settled" "is_settled" CO f fd):A7 P w K mg base B9 7 f fd ["case","opening"] Jr:=by
 refine F.ok EY (fun vs H Q E h=>?_) (fun cdv A outer s H vs Q E hr h=>?_)
 ·obtain ⟨c,o,m,n,xs,ws,rs1,A2,x,d,op,rfl,_⟩:=h;rfl
 ·obtain ⟨c,o,m,n,xs,ws,rs1,A2,x,d,op,rfl,cx,k⟩:=h;have nd:=EY.nd;have big:100000 < sizeLine:=by decide
  refine ⟨_,(Al (A5 (Mn (HL (Aj GBE (hr.mono (by decide)) (by rfl) XBE.mg XBE.F.kp XBE.b .nil As (Aa (pv 0) (Aa (pv 1) Ac))))))),?_⟩;refine ⟨_,rfl,_,rfl,c,o,m,n,xs,ws,rs1,A2,x,d,op,rfl,cx,fun H1 v t0 s1 tot bv=>?_⟩;refine k _ _ s1 ?_;rw [decide_eq_true_eq];rcases bv with ⟨rfl,bn⟩ | ⟨t,zs,rfl,_,bs⟩
  ·exact ⟨fun _=>bn,fun _=>rfl⟩
  ·exact ⟨(fun z=>by cases z),fun z=>(bs.not z).elim⟩
end
section
variable {P:Program} {w:World} {K:XU} {mg:Str->Option Value} {base:Heap}
theorem OC (h_list:mg "list"=none) (h_min:mg "min"=none) {fOC:Addr} {fdOC:FuncData} (XOC:Fn K mg "outcomes_of" BV ["case","opening"] fOC fdOC) (GOC:A7 P w K mg base B9 4 fOC fdOC ["case","opening"] JZ) {fCO:Addr} {fdCO:FuncData} (XCO:Fn K mg "costs_of" Dc ["case","chosen"] fCO fdCO) (GCO:A7 P w K mg base B9 5 fCO fdCO ["case","chosen"] Gb) {f:Addr} {fd:FuncData} (F:Ek K "better" "better" F9 f fd):A7 P w K mg base B9 6 f fd ["case","opening"] KU:=by
 refine F.ok Jx (fun vs H Q E h=>?_) (fun cdv A outer s H vs Q E hr h=>?_)
 ·obtain ⟨c,o,m,n,xs,ws,rs1,A2,x,d,op,rfl,_⟩:=h;rfl
 ·obtain ⟨c,o,m,n,xs,ws,rs1,A2,x,d,op,rfl,cx,k⟩:=h;have nd:=Jx.nd;have hu:=DH hr;have IX:=hr.units;have big:100000 < sizeLine:=by decide
  refine ⟨_,(Ae (Ar (i:=2) nd rfl (Or.inr rfl) (Aj GOC (hr.mono (by decide)) (by rfl) XOC.mg XOC.F.kp XOC.b .nil As (Aa (pv 0) (Aa (pv 1) Ac))))
  (Ae (Ar (i:=3) nd rfl (Or.inr rfl) (Aj GCO (hr.mono (by decide)) (by rfl) XCO.mg XCO.F.kp XCO.b .nil As (Aa (pv 0) (Aa (Av Ko (BF (Aa (pv 1) Ac)) (A0 (EA rfl) (by rfl) h_list PyProof.Rows.boot_list (Aa (QG PySem.F.plainAttrs_dict PySem.F.slot_dict_values PySem.F.type_dict_values J6 (pv 2)) Ac))) Ac))))
  (Ae (Hk (ix:=4) (N:=["exchange","opening","outcomes","costs"]) (σ0:=fun σ=>[none,some 1,some 2,some 3].map fun j=>j.bind fun j=>(σ[j]?).join) nd rfl (Or.inl rfl) rfl (A8.caught (by rfl) (by decide +kernel) rfl (by decide +kernel) (by intro y hy; simp only [XX,Yg,or_false] at hy; rcases hy with rfl | rfl | rfl <;> rfl)
   (by intro y hy e; simp only [XX,Yg,or_false] at hy; rcases hy with rfl | rfl | rfl | rfl | rfl <;> first | exact ⟨_,rfl⟩ | cases e)) (fun σ _=>AR.of [none,some 1,some 2,some 3] rfl (by
   intro i j x h1 h2;match i,h1,h2 with
   | 0,_,h2=>cases h2
   | 1,h1,h2=>cases h1; cases h2; exact ⟨rfl,.inl rfl,.inl rfl⟩
   | 2,h1,h2=>cases h1; cases h2; exact ⟨rfl,.inl rfl,.inl rfl⟩
   | 3,h1,h2=>cases h1; cases h2; exact ⟨rfl,.inl rfl,.inl rfl⟩
   | n + 4,h1,_=>cases h1)) (Q9 (pv 2))
   (fun s2 H C fp=>⟨(Ai (i:=0) (show (["exchange","opening","outcomes","costs"]:List Str).Nodup by decide +kernel) rfl (Or.inl rfl)),(EH (Bm J4 (AJ hu (pv 3) (AJ hu (pv 2) (pv 0) (fun _ _=>rfl)) (fun _ _=>rfl)) (AJ hu (pv 3) (pv 1) (fun _ _=>rfl)) (Bl _))),(Ba (Aa (AJ hu (pv 3) (AJ hu (pv 2) (pv 0) (fun _ _=>rfl)) (fun _ _=>rfl)) (Aa (pv 0) Ac)))⟩))
  (Al (A5 (HI (Lg (pv 4) (fun _=>rfl)) (AJ hu (pv 2) (A9 (AO K rfl) (Ak (LL rfl IX) (by rfl) h_min PyProof.Rows.boot_min (Aa (pv 4) Ac)) Ag (fun _ _=>rfl)) (fun _ _=>rfl)) Kl)))))),?_⟩
  have sn:=cx.cw.ok1.nd;obtain ⟨on,os,oe⟩:=Cq cx.op sn;have l1:=cx.cw.l1;have sl:(rs1.map (·.1)).length<=10:=by rw [XJ]; exact l1
  have VW:=E4 cx.op sn sl;have el:(D5 (rs1.map (·.1)) x op).length<=(Bv (rs1.map (·.1)) op).length:=YB _ _;have ho:=cx.ho;refine ⟨_,rfl,_,rfl,c,o,m,n,xs,ws,rs1,A2,x,d,op,rfl,cx,fun H1 D kvs s1 fD hD oc=>?_⟩;have kl:=oc.len;obtain ⟨outs,tu,ol,oo⟩:=oc.tups;refine ⟨_,rfl,_,rfl,(by show 1<=sizeLine; lia),fun L1 VR=>?_⟩;have sL:=Ad (o:=.lst [V.ref o]) VR;refine ⟨_,rfl,.inr (.inr (.inl ⟨rfl,.inr ⟨_,sL _ _ hD⟩⟩)),D,kvs,rfl,rfl,sL _ _ hD,fun r N2=>?_⟩;have sr:=Ad (o:=Fy r D) N2;refine ⟨r,D,kvs,rfl,Ab,sr _ _ (sL _ _ hD),fun l hl=>?_⟩;have sl3:=Ad (o:=.lst (kvs.map (·.2))) hl;refine ⟨L1,l,[V.ref o],kvs.map (·.2),rfl,rfl,sl3 _ _ (sr _ _ Ab),Ab,by rw [XJ]; show 1 + kvs.length<=sizeLine; lia,fun VY VQ=>?_⟩;have s2:=sL.trans (sr.trans (sl3.trans (Ad (o:=.lst ([V.ref o] ++ kvs.map (·.2))) VQ)));have hll:(upd (upd (upd (upd H1 L1 (.lst [V.ref o])) r (Fy r D)) l (.lst (kvs.map (·.2)))) VY (.lst ([V.ref o] ++ kvs.map (·.2)))) VY=some (.lst ([V.ref o] ++ kvs.map (·.2))):=Ab;generalize upd (upd (upd (upd H1 L1 (.lst [V.ref o])) r (Fy r D)) l (.lst (kvs.map (·.2)))) VY (.lst ([V.ref o] ++ kvs.map (·.2)))=H2 at s2 hll ⊢;have und:=HN sn on ol oo;have opn:∀ ys ∈ outs,LQ (rs1.map (·.1)) ys/\ys ≠ op:=fun ys hy=>by
   obtain ⟨i,hi,e⟩:=Yq hy;have ee:(D5 (rs1.map (·.1)) x op)[i]? = some ((D5 (rs1.map (·.1)) x op)[i]'(by lia)):=XO _;have oz:=oo i _ ys ee (by rw [XO hi,e]);exact ⟨oz.opn (XY ee) on os,oz.ne_op (Di (Y3.mp (XY ee)).1)⟩
  refine ⟨c,VY,m,n,xs,ws,rs1,A2,x,d,V.ref o :: kvs.map (·.2),op :: outs,rfl,cx.cw.same (s1.trans s2),(show H2 VY=some (.lst (V.ref o :: kvs.map (·.2))) from hll),.cons (s2 _ _ (s1 _ _ ho)) (tu.keep fun b ys z=>s2 _ _ z),YC.mpr ⟨fun hm=>(opn op hm).2 rfl,und⟩,fun ys hy=>?_,by rw [Yz]; lia,fun H3 C ckv s3 fC hC ck cv=>?_⟩
  ·rcases XX.mp hy with rfl | hy
   ·exact ⟨cx.op.1,on,os⟩
   ·exact (opn ys hy).1
  have Ug:=s2.trans s3;have FN:=Ug _ _ hD;have nDC:C ≠ D:=fun e=>by rw [e,s2 _ _ hD] at fC; cases fC
  have cnd:(ckv.map (·.1)).Nodup:=by
   rw [ck];exact B8 (fun a b e=>Ey e) (YC.mpr ⟨fun hm=>(opn op hm).2 rfl,und⟩)
  have cget:∀ (i:Nat) ys,(op :: outs)[i]? = some ys->∃ nn,ckv[i]? = some (ys.map Sum.inr,.int nn)/\Cw ws rs1 A2 ys nn:=fun i ys e=>by
   have ek:(ckv.map (·.1))[i]? = some (ys.map Sum.inr):=by rw [ck,Yd,e]; rfl
   rw [Yd] at ek;cases q:ckv[i]? with
   | none=>rw [q] at ek; cases ek
   | some cp=>
    rw [q] at ek;obtain ⟨cpk,cpv⟩:=cp;have ek':cpk=ys.map Sum.inr:=Yo.inj ek;subst ek';obtain ⟨nn,rfl,tot⟩:=cv ys cpv (XY q);exact ⟨nn,rfl,tot⟩
  obtain ⟨t0,W3,RO⟩:=cget 0 op rfl;refine ⟨_,rfl,D,kvs,rfl,FN,fun ob ts H4 fz tl tt=>?_⟩;have M3:H4 D=some (.frz ob (.dT kvs)):=by rw [fz.2]; exact Ab
  have s4:∀ b u,b ≠ D->H3 b=some u->H4 b=some u:=fun b u e z=>by rw [fz.2,Af e]; exact z
  have Mh:Au H H4:=fun b u z=>s4 _ _ (Ah z fD) (Ug _ _ (s1 _ _ z))
  have RC:BY H4 op kvs (D5 (rs1.map (·.1)) x op):=oc.keep fun b ys z=>s4 _ _ (fun e=>by rw [e,hD] at z; cases z) (Ug _ _ z)
  have Wz:=s4 _ _ nDC hC;have ho4:=Mh _ _ ho;have dgO:∀ {MJ:Hp},Au H4 MJ->BM MJ C (.ref o) (some (.int t0)):=fun {MJ} s=>.inr ⟨ckv,op.map Sum.inr,o,.inl (s _ _ Wz),rfl,by rw [s _ _ ho4,Y2]; rfl,(Fz cnd W3).symm⟩
  refine Cf Km (xs:=ts.map V.ref) (fun L i σ H' acc=>∃ (v0:Option V) (ks:List (Int × List Str)),σ=[v0,some (.ref o),some (.ref D),some (.ref C)]/\Au H4 H'/\H' L=some (.lst acc)/\acc.length=ks.length/\(∀ (j:Nat) v p,acc[j]? = some v->ks[j]? = some p->SY H' v p)/\(∀ p ∈ ks,∃ e zs,e ∈ D5 (rs1.map (·.1)) x op/\e.1=p.2/\Bi op e.2.1 e.2.2 zs/\Cw ws rs1 A2 zs p.1/\p.1 < t0)/\(∀ e ∈ (D5 (rs1.map (·.1)) x op).take i,∀ zs t,Bi op e.2.1 e.2.2 zs->Cw ws rs1 A2 zs t->t < t0->(t,e.1) ∈ ks)/\acc.length<=i)
   (by rw [XJ]; lia) (fun L hL=>⟨_,[],rfl,Ad hL,Ab,rfl,(fun j v p e=>by cases e),(fun p hp=>nomatch hp),(fun e he=>by rw [bZ] at he; cases he),Ya _⟩) (fun L i σ H' acc hL ⟨v0,ks,_,sa,hLL,_,_,_,_,al⟩=>⟨sa _ _ M3,hLL,al⟩) ?_ ?_
  ·rintro L i σ H' acc x' B N hL ex ⟨v0,ks,rfl,sa,hLL,kle,kk,kd,kc,al⟩ hB hN;obtain ⟨T,eT,rfl⟩:∃ T,ts[i]? = some T/\x'=.ref T:=by
    rw [Yd] at ex;cases q:ts[i]? with
    | none=>rw [q] at ex; cases ex
    | some y=>rw [q] at ex; exact ⟨y,rfl,(Yo.inj ex).symm⟩
   have hi:i < kvs.length:=by rw [<-tl]; exact (Yb.mp eT).1
   have ek:kvs[i]? = some kvs[i]:=XO hi;obtain ⟨e,ee,ke⟩:=RC.mem_get ek;have hT:=tt i T _ eT ek;rw [ke] at hT;have hTs:H4 T=some (.tup (e.1.map V.str)):=by rw [hT,Y2]; rfl
   obtain ⟨t,zs,vv,hz,ocz⟩:=RC.val (C3 sn on) ee;have dgD:BM H' D (.ref T) (some (.ref t)):=.inr ⟨kvs,e.1.map Sum.inr,T,.inr ⟨ob,sa _ _ M3⟩,rfl,sa _ _ hT,vv.symm⟩;have ez:(op :: outs)[i + 1]? = some zs:=by
    rw [Zv];have Pu:i < outs.length:=by lia
    have:=oo i e _ ee (XO Pu);rw [XO Pu,this.uniq ocz]
   obtain ⟨nn,ecp,tot⟩:=cget (i + 1) zs ez;have hzk:H' t=some (.tup ((zs.map (Sum.inr:Str->A6)).map kV)):=by rw [sa _ _ hz,Y2]; rfl
   have dgC:BM H' C (.ref t) (some (.int nn)):=.inr ⟨ckv,zs.map Sum.inr,t,.inl (sa _ _ Wz),rfl,hzk,(Fz cnd ecp).symm⟩;have em:=XY ee;have tk:∀ e',e' ∈ (D5 (rs1.map (·.1)) x op).take (i + 1)->e' ∈ (D5 (rs1.map (·.1)) x op).take i\/e'=e:=fun e' h=>by
    rw [Yx,ee] at h;rcases Yt.mp h with h | h
    ·exact .inl h
    ·exact .inr (Yn.mp h)
   refine ⟨_,rfl,_,rfl,_,rfl,D,.ref t,rfl,dgD,C,.int nn,rfl,dgC,_,rfl,_,rfl,C,.int t0,rfl,dgO sa,_,_,rfl,rfl,_,rfl,?_⟩;refine Bz (fun z=>?_) (fun z=>?_)
   ·have z':nn < t0:=of_decide_eq_true z;refine ⟨_,rfl,_,rfl,_,rfl,D,.ref t,rfl,dgD,C,.int nn,rfl,dgC,_,rfl,(by show 2<=sizeLine; lia),fun W hW=>?_⟩;have sW:=Ad (o:=.tup [V.int nn,V.ref T]) hW;have hLW:=sW _ _ hLL;have tp:∀ b ys,H' b=some (.tup ys)->(upd (upd H' W (.tup [V.int nn,V.ref T])) L (.lst (acc ++ [V.ref W]))) b=some (.tup ys):=fun b ys q=>by
     rw [Af (fun e=>by rw [e,hLL] at q; cases q)];exact sW _ _ q
    refine hB _ _ _ hLW ⟨_,ks ++ [(nn,e.1)],rfl,BE (sa.trans sW) hL,Ab,by rw [XZ,XZ,kle]; rfl,fun j v p e1 e2=>?_,fun p hp=>?_,fun e' FL R9 t' o' PR lt'=>?_,by rw [XZ]; simp; lia⟩
    ·by_cases hj:j < acc.length
     ·rw [Y5 hj] at e1;rw [Y5 (by lia)] at e2;exact (kk j v p e1 e2).same tp
     ·have Xm:=(Yb.mp e1).1;rw [XZ,YD] at Xm;have hje:j=acc.length:=by lia
      subst hje;rw [Y4 (Ya _),Z2] at e1;rw [kle,Y4 (Ya _),Z2] at e2;cases e1
      cases e2
      have nWL:W ≠ L:=fun e=>by rw [e,hLL] at hW; cases hW
      exact ⟨W,T,rfl,by rw [Af nWL]; exact Ab,tp _ _ (sa _ _ hTs)⟩
    ·rcases Yt.mp hp with hp | hp
     ·exact kd p hp
     ·rw [Yn.mp hp];exact ⟨e,zs,em,rfl,ocz,tot,z'⟩
    ·rcases tk e' FL with h | rfl
     ·exact YS _ (kc e' h R9 t' o' PR lt')
     ·rw [o'.uniq ocz] at PR;rw [PR.uniq tot];exact Yk _ Ys
   ·have z':¬ nn < t0:=fun q=>z (decide_eq_true q)
    refine hN _ _ ⟨_,ks,rfl,sa,hLL,kle,kk,kd,fun e' FL R9 t' o' PR lt'=>?_,by lia⟩;rcases tk e' FL with h | rfl
    ·exact kc e' h R9 t' o' PR lt'
    ·rw [o'.uniq ocz] at PR;rw [PR.uniq tot] at lt';exact absurd lt' z'
  ·rintro L σ H5 acc hL ⟨v0,ks,rfl,s5,hLL,kle,kk,kd,kc,al⟩;rw [XJ,tl,kl,Yu] at kc;have Wk:=Mh.trans s5;refine ⟨_,rfl,!acc.isEmpty,.inl ⟨acc,AM.of hLL,rfl⟩,?_⟩;cases ks with
   | nil=>
    have ea:acc=[]:=YK.mp kle;subst ea;refine L3 ?_;refine k _ _ t0 Wk RO (.inl ⟨rfl,fun e he zs t t0' o' PR tz=>?_⟩);rw [tz.uniq RO];by_cases q:t < t0
    ·exact absurd (kc e he zs t o' PR q) (by simp)
    ·lia
   | cons p0 ks=>
    rw [show (!acc.isEmpty)=true from by cases acc with | nil=>simp at kle | cons a b=>rfl];refine Ms ?_;refine ⟨_,rfl,_,rfl,L,acc,p0 :: ks,rfl,hLL,kle,by simp,kk,fun v p hp kn hmin=>?_⟩;obtain ⟨w',lx,rfl,hw,hx⟩:=kn;obtain ⟨e,zs,g1,g2,g3,g4,g5⟩:=kd p hp;obtain ⟨i,hi,ei⟩:=Yq g1;have ee:(D5 (rs1.map (·.1)) x op)[i]? = some e:=by rw [XO hi,ei]
    obtain ⟨t,W9,vv,hz,ocz⟩:=RC.val (C3 sn on) ee;have zz:=ocz.uniq g3;subst zz;refine ⟨w',_,_,_,rfl,rfl,AE.of hw,rfl,D,.ref t,rfl,.inr ⟨kvs,e.1.map Sum.inr,lx,.inr ⟨ob,s5 _ _ M3⟩,rfl,?_,vv.symm⟩,?_⟩
    ·rw [hx,<-g2,Y2];rfl
    ·refine k _ _ t0 Wk RO (.inr ⟨t,W9,rfl,s5 _ _ hz,e,p.1,t0,g1,g3,g4,RO,g5,fun e' FL R9 t' o' PR=>?_⟩);rw [g2];by_cases q:t' < t0
     ·exact hmin _ (kc e' FL R9 t' o' PR q)
     ·refine Sx (by lia)
end
section
variable {P:Program} {w:World} {K:XU} {mg:Str->Option Value} {base:Heap}
theorem Kt (h_list:mg "list"=none) (h_sorted:mg "sorted"=none) {fOC:Addr} {fdOC:FuncData} (XOC:Fn K mg "outcomes_of" BV ["case","opening"] fOC fdOC) (GOC:A7 P w K mg base B9 4 fOC fdOC ["case","opening"] JZ) {fCO:Addr} {fdCO:FuncData} (XCO:Fn K mg "costs_of" Dc ["case","chosen"] fCO fdCO) (GCO:A7 P w K mg base B9 5 fCO fdCO ["case","chosen"] Gb) {f:Addr} {fd:FuncData} (F:Ek K "exchanges" "exchanges" Du f fd):A7 P w K mg base B9 6 f fd ["case","opening"] Gv:=by
 refine F.ok F7 (fun vs H Q E h=>?_) (fun cdv A outer s H vs Q E hr h=>?_)
 ·obtain ⟨c,o,m,n,xs,ws,rs1,A2,x,d,op,rfl,_⟩:=h;rfl
 ·obtain ⟨c,o,m,n,xs,ws,rs1,A2,x,d,op,rfl,cx,k⟩:=h;have nd:=F7.nd;have hu:=DH hr;have IX:=hr.units;have big:100000 < sizeLine:=by decide
  refine ⟨_,(Ae (Ar (i:=2) nd rfl (Or.inr rfl) (Aj GOC (hr.mono (by decide)) (by rfl) XOC.mg XOC.F.kp XOC.b .nil As (Aa (pv 0) (Aa (pv 1) Ac))))
  (Ae (Ar (i:=3) nd rfl (Or.inr rfl) (Aj GCO (hr.mono (by decide)) (by rfl) XCO.mg XCO.F.kp XCO.b .nil As (Aa (pv 0) (Aa (A0 (EA rfl) (by rfl) h_list PyProof.Rows.boot_list (Aa (QG PySem.F.plainAttrs_dict PySem.F.slot_dict_values PySem.F.type_dict_values J6 (pv 2)) Ac)) Ac))))
  (Al (A5 (Ak (IB K rfl IX) (by rfl) h_sorted PyProof.Rows.boot_sorted (Aa (By (N:=["exchange","outcomes","costs"]) (σ0:=fun σ=>[none,some 2,some 3].map fun j=>j.bind fun j=>(σ[j]?).join) rfl (A8.caught (by rfl) (by decide +kernel) rfl (by decide +kernel) (by intro y hy; simp only [XX,Yg,or_false] at hy; rcases hy with rfl | rfl <;> rfl)
   (by intro y hy e; simp only [XX,Yg,or_false] at hy; rcases hy with rfl | rfl | rfl | rfl <;> first | exact ⟨_,rfl⟩ | cases e)) (fun σ _=>AR.of [none,some 2,some 3] rfl (by
   intro i j x h1 h2;match i,h1,h2 with
   | 0,_,h2=>cases h2
   | 1,h1,h2=>cases h1; cases h2; exact ⟨rfl,.inl rfl,.inl rfl⟩
   | 2,h1,h2=>cases h1; cases h2; exact ⟨rfl,.inl rfl,.inl rfl⟩
   | n + 3,h1,_=>cases h1)) (Q9 (pv 2))
   (fun s2 H C fp=>⟨(Ai (i:=0) (show (["exchange","outcomes","costs"]:List Str).Nodup by decide +kernel) rfl (Or.inl rfl)),AY,(Ba (Aa (pv 0) (Aa (AJ hu (pv 2) (AJ hu (pv 1) (pv 0) (fun _ _=>rfl)) (fun _ _=>rfl)) Ac)))⟩)) Ac)))))),?_⟩
  have sn:=cx.cw.ok1.nd;obtain ⟨on,os,oe⟩:=Cq cx.op sn;have l1:=cx.cw.l1;have sl:(rs1.map (·.1)).length<=10:=by rw [XJ]; exact l1
  have VW:=E4 cx.op sn sl;have el:(D5 (rs1.map (·.1)) x op).length<=(Bv (rs1.map (·.1)) op).length:=YB _ _;refine ⟨_,rfl,_,rfl,c,o,m,n,xs,ws,rs1,A2,x,d,op,rfl,cx,fun H1 D kvs s1 fD hD oc=>?_⟩;have kl:=oc.len;obtain ⟨outs,tu,ol,oo⟩:=oc.tups;refine ⟨_,rfl,_,rfl,.inr (.inr (.inl ⟨rfl,.inr ⟨_,hD⟩⟩)),D,kvs,rfl,rfl,hD,fun r N2=>?_⟩;have sr:=Ad (o:=Fy r D) N2;refine ⟨r,D,kvs,rfl,Ab,sr _ _ hD,fun l hl=>?_⟩;have s2:=sr.trans (Ad (o:=.lst (kvs.map (·.2))) hl);have hll:(upd (upd H1 r (Fy r D)) l (.lst (kvs.map (·.2)))) l=some (.lst (kvs.map (·.2))):=Ab;generalize upd (upd H1 r (Fy r D)) l (.lst (kvs.map (·.2)))=H2 at s2 hll ⊢;have und:=HN sn on ol oo;have opn:∀ ys ∈ outs,LQ (rs1.map (·.1)) ys:=fun ys hy=>by
   obtain ⟨i,hi,e⟩:=Yq hy;have ee:(D5 (rs1.map (·.1)) x op)[i]? = some ((D5 (rs1.map (·.1)) x op)[i]'(by lia)):=XO _;exact (oo i _ ys ee (by rw [XO hi,e])).opn (XY ee) on os
  refine ⟨c,l,m,n,xs,ws,rs1,A2,x,d,kvs.map (·.2),outs,rfl,cx.cw.same (s1.trans s2),hll,tu.keep fun b ys z=>s2 _ _ z,und,opn,by lia,fun H3 C ckv s3 fC hC ck cv=>?_⟩;have Ug:=s2.trans s3;have FN:=Ug _ _ hD;have nDC:C ≠ D:=fun e=>by rw [e,s2 _ _ hD] at fC; cases fC
  refine ⟨_,rfl,D,kvs,rfl,FN,fun ob ts H4 fz tl tt=>?_⟩;have M3:H4 D=some (.frz ob (.dT kvs)):=by rw [fz.2]; exact Ab
  have s4:∀ b u,b ≠ D->H3 b=some u->H4 b=some u:=fun b u e z=>by rw [fz.2,Af e]; exact z
  have Mh:Au H H4:=fun b u z=>s4 _ _ (Ah z fD) (Ug _ _ (s1 _ _ z))
  have RC:BY H4 op kvs (D5 (rs1.map (·.1)) x op):=oc.keep fun b ys z=>s4 _ _ (fun e=>by rw [e,hD] at z; cases z) (Ug _ _ z)
  have Wz:=s4 _ _ nDC hC;have cnd:(ckv.map (·.1)).Nodup:=by
   rw [ck];exact B8 (fun a b e=>Ey e) und
  refine Bt Km (xs:=ts.map V.ref) (fun L i σ H' acc=>∃ (v0:Option V) (ps:List (List Str × Int)),σ=[v0,some (.ref D),some (.ref C)]/\Au H4 H'/\H' L=some (.lst acc)/\Jh H' acc (ps.map Mu)/\ps.map (·.1)=((D5 (rs1.map (·.1)) x op).take i).map (·.1)/\(∀ p ∈ ps,∃ e zs,e ∈ D5 (rs1.map (·.1)) x op/\e.1=p.1/\Bi op e.2.1 e.2.2 zs/\Cw ws rs1 A2 zs p.2)/\acc.length=i)
   (by rw [XJ]; lia) (fun L hL=>⟨_,[],rfl,Ad hL,Ab,Jh.nil,rfl,(fun p hp=>nomatch hp),rfl⟩) (fun L i σ H' acc hL ⟨v0,ps,_,sa,hLL,_,_,_,al⟩=>⟨sa _ _ M3,hLL,al⟩) ?_ ?_
  ·rintro L i σ H' acc x' B hL ex ⟨v0,ps,rfl,sa,hLL,rr,pk,pd,al⟩ hB;obtain ⟨T,eT,rfl⟩:∃ T,ts[i]? = some T/\x'=.ref T:=by
    rw [Yd] at ex;cases q:ts[i]? with
    | none=>rw [q] at ex; cases ex
    | some y=>rw [q] at ex; exact ⟨y,rfl,(Yo.inj ex).symm⟩
   have hi:i < kvs.length:=by rw [<-tl]; exact (Yb.mp eT).1
   have ek:kvs[i]? = some kvs[i]:=XO hi;obtain ⟨e,ee,ke⟩:=RC.mem_get ek;have hT:=tt i T _ eT ek;rw [ke] at hT;have hTs:H4 T=some (.tup (e.1.map V.str)):=by rw [hT,Y2]; rfl
   obtain ⟨t,zs,vv,hz,ocz⟩:=RC.val (C3 sn on) ee;have dgD:BM H' D (.ref T) (some (.ref t)):=.inr ⟨kvs,e.1.map Sum.inr,T,.inr ⟨ob,sa _ _ M3⟩,rfl,sa _ _ hT,vv.symm⟩;have ez:outs[i]? = some zs:=by
    have Pu:i < outs.length:=by lia
    have:=oo i e _ ee (XO Pu);rw [XO Pu,this.uniq ocz]
   have ekc:(ckv.map (·.1))[i]? = some (zs.map Sum.inr):=by rw [ck,Yd,ez]; rfl
   rw [Yd] at ekc;obtain ⟨cp,ecp,kcp⟩:∃ cp,ckv[i]? = some cp/\cp.1=zs.map Sum.inr:=by
    cases q:ckv[i]? with
    | none=>rw [q] at ekc; cases ekc
    | some cp=>rw [q] at ekc; exact ⟨cp,rfl,Yo.inj ekc⟩
   obtain ⟨cpk,cpv⟩:=cp;have Xc:cpk=zs.map Sum.inr:=kcp;subst Xc;obtain ⟨nn,rfl,tot⟩:=cv zs cpv (XY ecp);have hzk:H' t=some (.tup ((zs.map (Sum.inr:Str->A6)).map kV)):=by rw [sa _ _ hz,Y2]; rfl
   have dgC:BM H' C (.ref t) (some (.int nn)):=.inr ⟨ckv,zs.map Sum.inr,t,.inl (sa _ _ Wz),rfl,hzk,(Fz cnd ecp).symm⟩;refine ⟨_,rfl,_,rfl,_,rfl,_,rfl,D,.ref t,rfl,dgD,C,.int nn,rfl,dgC,(by show 2<=sizeLine; lia),fun W hW=>?_⟩;have sW:=Ad (o:=.tup [.ref T,.int nn]) hW;have hLW:=sW _ _ hLL;refine hB _ _ _ hLW ⟨_,ps ++ [(e.1,nn)],rfl,BE (sa.trans sW) hL,Ab,?_,?_,?_,by rw [XZ,al]; rfl⟩
   ·rw [Yi];refine ((rr.keep fun b ys z=>sW _ _ z).app (Jh.one (p:=Mu (e.1,nn)) (t:=W) (e:=T) Ab (sW _ _ (sa _ _ hTs)))).keep fun b ys z=>?_
    rw [Af (fun e=>by rw [e,hLW] at z; cases z)];exact z
   ·rw [Yi,pk,F0 (·.1) ee];rfl
   ·intro p hp;rcases Yt.mp hp with hp | hp
    ·exact pd p hp
    ·rw [Yn.mp hp];exact ⟨e,zs,XY ee,rfl,ocz,tot⟩
  ·rintro L σ H' acc hL ⟨v0,ps,rfl,sa,hLL,rr,pk,pd,al⟩;rw [XJ,tl,kl,Yu] at pk;obtain ⟨z1,z2,z3,z4,z5⟩:=rr.sort fun p hp=>by
    obtain ⟨q,_,rfl⟩:=Yc.mp hp;exact .inl ⟨_,rfl⟩
   have mk:(ps.map Mu).map (·.1)=ps.map (·.1):=by rw [Y2]; rfl
   rw [mk,pk] at z3;refine ⟨L,Mi acc (ps.map Mu),rfl,AM.of (by rw [z1]; exact hLL),z2,by rw [z3]; exact C3 sn on,?_,fun l' zs hl' pz pw=>?_⟩
   ·rw [z4,XJ];have:=congrArg Zh pk;rw [XJ,XJ] at this;lia
   ·obtain ⟨qs,q1,q2,q3⟩:=z5 zs pz;obtain ⟨WN,p2,rfl⟩:=EI q2;have Ua:=Ad (o:=.lst (zs.map (·.1))) hl';have mk2:(WN.map Mu).map (·.1)=WN.map (·.1):=by rw [Y2]; rfl
    rw [mk2] at q3;refine k _ l' (zs.map (·.1)) WN (Mh.trans (sa.trans Ua)) ((Mh.trans sa).free0 hl') Ab (NU.rw.mpr (q1.keep fun b ys z=>Ua _ _ z)) ⟨?_,by rw [q3]; exact pw,fun p hp=>pd p (p2.mem_iff.mp hp)⟩;rw [<-pk];exact p2.map _
end
section
variable {P:Program} {w:World} {K:XU} {mg:Str->Option Value} {base:Heap}
theorem Eu  {fCH:Addr} {fdCH:FuncData} (XCH:Fn K mg "changed" EG ["opening","out","more"] fCH fdCH) (GCH:A7 P w K mg base B9 1 fCH fdCH ["opening","out","more"] Jt) {fIO:Addr} {fdIO:FuncData} (XIO:Fn K mg "is_opening" CP ["case","thing"] fIO fdIO) (GIO:A7 P w K mg base B9 3 fIO fdIO ["case","thing"] (Qh K)) {f:Addr} {fd:FuncData} (F:Ek K "outcomes_of" "outcomes_of" BV f fd):A7 P w K mg base B9 4 f fd ["case","opening"] JZ:=by
 refine F.ok Er (fun vs H Q E h=>?_) (fun cdv A outer s H vs Q E hr h=>?_)
 ·obtain ⟨c,o,m,n,xs,ws,rs1,A2,x,d,op,rfl,_⟩:=h;rfl
 ·obtain ⟨c,o,m,n,xs,ws,rs1,A2,x,d,op,rfl,cx,k⟩:=h;have nd:=Er.nd;have hu:=DH hr;have big:100000 < sizeLine:=by decide
  refine ⟨_,(Ae (Hk (ix:=2) (N:=["place","charge","opening"]) (σ0:=fun σ=>[none,none,some 1].map fun j=>j.bind fun j=>(σ[j]?).join) nd rfl (Or.inl rfl) rfl (A8.caught (by rfl) (by decide +kernel) rfl (by decide +kernel) (by intro y hy; simp only [XX,Yg,or_false] at hy; rcases hy with rfl <;> rfl)
   (by intro y hy e; simp only [XX,Yg,or_false] at hy; rcases hy with rfl | rfl | rfl | rfl <;> first | exact ⟨_,rfl⟩ | cases e)) (fun σ _=>AR.of [none,none,some 1] rfl (by
   intro i j x h1 h2;match i,h1,h2 with
   | 0,_,h2=>cases h2
   | 1,_,h2=>cases h2
   | 2,h1,h2=>cases h1; cases h2; exact ⟨rfl,.inl rfl,.inl rfl⟩
   | n + 3,h1,_=>cases h1)) (BO K rfl (A9 (AO K rfl) (pv 0) Ag (fun _ _=>rfl)))
   (fun s2 H C fp=>⟨(Bx K rfl (n:=2) rfl (Ap (Ai (i:=0) (show (["place","charge","opening"]:List Str).Nodup by decide +kernel) rfl (Or.inl rfl)) (Ap (Ai (i:=1) (show (["place","charge","opening"]:List Str).Nodup by decide +kernel) rfl (Or.inl rfl)) Bs))),(EH (Bm (O8 K rfl) (pv 0) (pv 2) (by rfl))),(pv 0)⟩))
  (Ae (Ar (i:=3) nd rfl (Or.inr rfl) (J0 (N:=["site","opening"]) (σ0:=fun σ=>[none,some 1].map fun j=>j.bind fun j=>(σ[j]?).join) rfl hu (A8.caught (by rfl) (by decide +kernel) rfl (by decide +kernel) (by intro y hy; simp only [XX,Yg,or_false] at hy; rcases hy with rfl <;> rfl)
   (by intro y hy e; simp only [XX,Yg,or_false] at hy; rcases hy with rfl | rfl | rfl | rfl <;> first | exact ⟨_,rfl⟩ | cases e)) (fun σ _=>AR.of [none,some 1] rfl (by
   intro i j x h1 h2;match i,h1,h2 with
   | 0,_,h2=>cases h2
   | 1,h1,h2=>cases h1; cases h2; exact ⟨rfl,.inl rfl,.inl rfl⟩
   | n + 2,h1,_=>cases h1)) (Cp K rfl (pv 2))
   (fun s2 H C fp=>⟨(Ai (i:=0) (show (["site","opening"]:List Str).Nodup by decide +kernel) rfl (Or.inl rfl)),AY,(Ba (Aa Cc (Aa (pv 0) Ac))),(Aj GCH (hr.mono (by decide)) (by rfl) XCH.mg XCH.F.kp XCH.b .nil As (Aa (pv 1) (Aa Kl (Aa (pv 0) Ac))))⟩)))
  (Ae (Cb PassesOwn.never rfl (BO K rfl (pv 1)) (Ai (i:=4) nd rfl (Or.inl rfl))
  (Ae (CS hu (pv 3) (Ba (Aa Cc (Aa (pv 4) Ac))) (Aj GCH (hr.mono (by decide)) (by rfl) XCH.mg XCH.F.kp XCH.b .nil As (Aa (pv 1) (Aa (pv 4) (Aa Kl Ac)))) rfl)
  (Al (Cb PassesOwn.never rfl (Cp K rfl (pv 2)) (Ai (i:=5) nd rfl (Or.inl rfl))
  (Al (CS hu (pv 3) (Ba (Aa Cc (Aa (pv 4) (Aa (pv 5) Ac)))) (Aj GCH (hr.mono (by decide)) (by rfl) XCH.mg XCH.F.kp XCH.b .nil As (Aa (pv 1) (Aa (pv 4) (Aa (pv 5) Ac)))) rfl))))))
  (Al (A5 (J0 (N:=["exchange","case","outcomes"]) (σ0:=fun σ=>[none,some 0,some 3].map fun j=>j.bind fun j=>(σ[j]?).join) rfl hu (A8.caught (by rfl) (by decide +kernel) rfl (by decide +kernel) (by intro y hy; simp only [XX,Yg,or_false] at hy; rcases hy with rfl | rfl <;> rfl)
   (by intro y hy e; simp only [XX,Yg,or_false] at hy; rcases hy with rfl | rfl | rfl | rfl | rfl <;> first | exact ⟨_,rfl⟩ | cases e)) (fun σ _=>AR.of [none,some 0,some 3] rfl (by
   intro i j x h1 h2;match i,h1,h2 with
   | 0,_,h2=>cases h2
   | 1,h1,h2=>cases h1; cases h2; exact ⟨rfl,.inl rfl,.inl rfl⟩
   | 2,h1,h2=>cases h1; cases h2; exact ⟨rfl,.inl rfl,.inl rfl⟩
   | n + 3,h1,_=>cases h1)) (Q9 (pv 3))
   (fun s2 H C fp=>⟨(Ai (i:=0) (show (["exchange","case","outcomes"]:List Str).Nodup by decide +kernel) rfl (Or.inl rfl)),(EH (Kg (Aj GIO (hr.mono (by decide)) (by rfl) XIO.mg XIO.F.kp XIO.b .nil As (Aa (pv 1) (Aa (AJ hu (pv 2) (pv 0) (fun _ _=>rfl)) Ac))))),(pv 0),(AJ hu (pv 2) (pv 0) (fun _ _=>rfl))⟩))))))),?_⟩
  obtain ⟨t1,t2,El,LS,hc,Ho,Ik,IJ,hd2⟩:=cx.cw.ex;have We:=B6 Ik;have l1:=cx.cw.l1;have sn:=cx.cw.ok1.nd;obtain ⟨on,os,oe⟩:=Cq cx.op sn;have ho:=cx.ho;have sl:(rs1.map (·.1)).length<=10:=by rw [XJ]; exact l1
  have VW:=E4 cx.op sn sl;have oll:op.length<=10:=by lia
  have otl:(AB (rs1.map (·.1)) op).length<=10:=by lia
  refine ⟨_,rfl,c,_,_,_,rfl,rfl,AE.of hc,rfl,t1,rfl,⟨_,AE.of Ho⟩,?_⟩;refine Cf B7 (xs:=El) (fun D i σ H' acc=>∃ v0 v1:Option V,σ=[v0,v1,some (.ref o)]/\Au H H'/\H' D=some (.lst acc)/\acc=(AB ((rs1.map (·.1)).take i) op).map V.str)
   (by lia) (fun D hD=>⟨_,_,rfl,Ad hD,Ab,rfl⟩) (fun D i σ H' acc hD ⟨v0,v1,_,sa,AS,ea⟩=>⟨AE.of (sa _ _ Ho),AS,by rw [ea,XJ]; exact Yv (YB _ _) (by rw [Y7]; exact Z7 _ _)⟩) ?_ ?_
  ·rintro D i σ H' acc x' B N hD ex ⟨v0,v1,rfl,sa,AS,rfl⟩ hB hN;obtain ⟨u,t,eu,rfl,ht⟩:=Dk Ik ex;have ey:(rs1.map (·.1))[i]? = some u.1:=by rw [Yd,eu]; rfl
   have tk:=D9 (fun s=>decide (s ∉ op)) ey;refine ⟨t,_,rfl,AE.of (sa _ _ ht),rfl,_,_,rfl,_,_,rfl,rfl,?_⟩;refine ⟨_,rfl,_,rfl,o,_,rfl,.inr (AE.of (sa _ _ ho)),rfl,OW _,_,rfl,?_⟩;rw [QY,show (!decide (u.1 ∈ op))=decide (u.1 ∉ op) by simp];refine Bz (fun z=>?_) (fun z=>?_)
   ·rw [if_pos z] at tk;exact ⟨_,rfl,hB _ _ _ AS ⟨_,_,rfl,BE sa hD,Ab,by unfold AB; rw [tk,Yi]; rfl⟩⟩
   ·rw [if_neg z,YN] at tk;exact hN _ _ ⟨_,_,rfl,sa,AS,by unfold AB; rw [tk]⟩
  rintro OT σ H1 acc fOT ⟨v0,v1,rfl,s1,hOT,rfl⟩;rw [We,show rs1.length=(rs1.map (·.1)).length by rw [XJ],Yu] at hOT;obtain ⟨oth,eoth⟩:∃ l,l=AB (rs1.map (·.1)) op:=⟨_,rfl⟩
  obtain ⟨ss,ess⟩:∃ l,l=rs1.map (·.1):=⟨_,rfl⟩
  rw [<-eoth] at hOT otl;have eall:Bv ss op=oth.map Jb ++ op.flatMap (DI ss op):=by rw [eoth,ess]; rfl
  have Vk:ss.Nodup:=ess ▸ sn;refine ⟨_,rfl,OT,rfl,⟨_,AM.of hOT⟩,?_⟩;refine MY C0 (xs:=oth.map V.str) (fun D i σ H'=>∃ (v0:Option V) (kvs:List (List A6 × V)),σ=[v0,some (.ref o)]/\Au H1 H'/\H' D=some (.dT kvs)/\BY H' op kvs ((oth.take i).map Jb))
   (fun D hD=>⟨_,[],rfl,Ad hD,Ab,BY.nil⟩) (fun D i σ H' hD ⟨v0,kvs,_,sa,_,_⟩=>AM.of (sa _ _ hOT)) ?_ ?_
  ·rintro D i σ H' x' B N hD ex ⟨v0,kvs,rfl,sa,AS,oc⟩ hB hN;obtain ⟨y,ey,rfl⟩:=DA ex;refine Ms (B:=N ([v0,some (V.ref o)].set 0 (some (V.str y))) H') ⟨_,rfl,(by show 2<=sizeLine; lia),fun T hT=>?_⟩;have sT:=Ad (o:=.tup [V.str "open",V.str y]) hT;refine ⟨_,rfl,_,rfl,o,op,none,some y,rfl,sT _ _ (sa _ _ (s1 _ _ ho)),by lia,fun H5 t zs s5 ft ht ocz=>?_⟩;have UW:=sa.trans (sT.trans s5);have L5:=s5 _ _ (sT _ _ AS);have QN:BY H5 op kvs ((oth.take i).map Jb):=oc.keep fun b ys z=>s5 _ _ (sT _ _ z)
   have nw:(Jb y).1 ∉ ((oth.take i).map Jb).map (·.1):=by
    refine K1 (ss:=ss) (op:=op) (R:=(oth.drop (i + 1)).map Jb ++ op.flatMap (DI ss op)) Vk on ?_;rw [eall];conv=>lhs; rw [Fp ey,Yi,Ym,YR,Zq]
   have len:=QN.len;rw [XJ,Y7] at len;refine hB _ _ _ _ ⟨kvs,(Jb y).1.map Sum.inr,T,rfl,s5 _ _ Ab,L5,by lia,_,kvs ++ [((Jb y).1.map Sum.inr,.ref t)],rfl,BE UW hD,?_,?_⟩
   ·rw [QN.new nw];exact Ab
   ·rw [F0 Jb ey];refine (QN.snoc ht ocz).keep fun b ys z=>?_
    rw [Af (fun e=>by rw [e,L5] at z; cases z)];exact z
  rintro D σ H2 fD ⟨v0,kvs,rfl,s2,hD,oc⟩;rw [XJ,Yu] at oc;have X5:H D=none:=s1.free0 fD;have nOD:OT ≠ D:=Ah hOT fD;refine ⟨_,rfl,o,rfl,⟨_,AE.of ((s1.trans s2) _ _ ho)⟩,?_⟩;refine Rl (xs:=op.map V.str) (fun i σ H'=>∃ (v4 v5:Option V) (kvs:List (List A6 × V)),σ=[some (.ref c),some (.ref o),some (.ref OT),some (.ref D),v4,v5]/\Au H H'/\H' OT=some (.lst (oth.map V.str))/\H' D=some (.dT kvs)/\BY H' op kvs (oth.map Jb ++ (op.take i).flatMap (DI ss op)))
   ⟨_,_,kvs,rfl,s1.trans s2,s2 _ _ hOT,hD,by rw [bZ,bO,YN]; exact oc⟩ (fun i σ H' _ ⟨_,_,_,_,sa,_⟩=>AE.of (sa _ _ ho)) ?_ ?_
  ·rintro i v σ H' hv ⟨v4,v5,kv,rfl,sa,hO,AS,oc⟩ rt bk NN hN;obtain ⟨h,eh,rfl⟩:=DA hv;have hall:Bv ss op=(oth.map Jb ++ (op.take i).flatMap (DI ss op)) ++ FZ h :: (oth.map (G9 h) ++ (op.drop (i + 1)).flatMap (DI ss op)):=by
    rw [eall,M8 _ eh,show DI ss op h=FZ h :: oth.map (G9 h) by unfold DI; rw [eoth,ess]];simp only [YR,Zq]
   obtain ⟨L0,eL0⟩:∃ l,l=oth.map Jb ++ (op.take i).flatMap (DI ss op):=⟨_,rfl⟩
   rw [<-eL0] at oc hall;have lens:L0.length + 1 + oth.length<=63:=by
    have:=congrArg Zh hall;rw [ess] at this;rw [XZ,Yz,XZ,XJ] at this;lia
   refine ⟨_,rfl,_,rfl,o,op,some h,none,rfl,sa _ _ ho,by lia,fun H5 t zs s5 ft ht ocz=>?_⟩;refine ⟨_,rfl,_,rfl,(by show 2<=sizeLine; lia),fun T hT=>?_⟩;have sT:=Ad (o:=.tup [V.str "shut",V.str h]) hT;have UW:=sa.trans (s5.trans sT);have L5:=sT _ _ (s5 _ _ AS);have hO5:=sT _ _ (s5 _ _ hO);have QN:BY (upd H5 T (.tup [V.str "shut",V.str h])) op kv L0:=oc.keep fun b ys z=>sT _ _ (s5 _ _ z)
   have nw:(FZ h).1 ∉ L0.map (·.1):=K1 Vk on hall;have len:=QN.len;refine ⟨D,_,rfl,ET.t (k:=(FZ h).1.map Sum.inr) L5 Ab (by lia),?_⟩;rw [QN.new nw];have WT:=(QN.snoc (e:=FZ h) (sT _ _ ht) ocz).keep (H':=upd (upd H5 T (.tup [V.str "shut",V.str h])) D (.dT (kv ++ [((FZ h).1.map Sum.inr,.ref t)]))) fun b ys z=>by
    rw [Af (fun e=>by rw [e,L5] at z; cases z)];exact z
   have s6:Au H (upd (upd H5 T (.tup [V.str "shut",V.str h])) D (.dT (kv ++ [((FZ h).1.map Sum.inr,.ref t)]))):=BE UW X5;have X0:(upd (upd H5 T (.tup [V.str "shut",V.str h])) D (.dT (kv ++ [((FZ h).1.map Sum.inr,.ref t)]))) D=some (.dT (kv ++ [((FZ h).1.map Sum.inr,.ref t)])):=Ab;have Xw:(upd (upd H5 T (.tup [V.str "shut",V.str h])) D (.dT (kv ++ [((FZ h).1.map Sum.inr,.ref t)]))) OT=some (.lst (oth.map V.str)):=by rw [Af nOD]; exact hO5
   generalize upd (upd H5 T (.tup [V.str "shut",V.str h])) D (.dT (kv ++ [((FZ h).1.map Sum.inr,.ref t)]))=H6 at WT s6 X0 Xw;generalize kv ++ [((FZ h).1.map Sum.inr,V.ref t)]=kv6 at WT X0;refine ⟨_,rfl,OT,rfl,⟨_,AM.of Xw⟩,?_⟩;refine JG (xs:=oth.map V.str) (fun j σ H'=>∃ (v5:Option V) (kvs:List (List A6 × V)),σ=[some (.ref c),some (.ref o),some (.ref OT),some (.ref D),some (.str h),v5]/\Au H H'/\H' OT=some (.lst (oth.map V.str))/\H' D=some (.dT kvs)/\BY H' op kvs (L0 ++ FZ h :: (oth.take j).map (G9 h)))
    ⟨_,kv6,rfl,s6,Xw,X0,WT⟩ (fun j σ H' _ ⟨_,_,_,_,hO,_⟩=>AM.of hO) ?_ ?_
   ·rintro j v σ H7 hv ⟨v5,Xb,rfl,s7,Xv,Vc,Wo⟩ Vp bk2 NN2 hN2;obtain ⟨y,ey,rfl⟩:=DA hv;refine ⟨_,rfl,_,rfl,_,rfl,o,op,some h,some y,rfl,s7 _ _ ho,by lia,fun H8 t2 W9 s8 ft2 IJ WR=>?_⟩;refine ⟨_,rfl,_,rfl,_,rfl,(by show 3<=sizeLine; lia),fun T2 N3=>?_⟩;have Vn:=Ad (o:=.tup [V.str "swap",V.str h,V.str y]) N3;have Wj:=s7.trans (s8.trans Vn);have Vb:=Vn _ _ (s8 _ _ Vc);have hO8:=Vn _ _ (s8 _ _ Xv);have WS:BY (upd H8 T2 (.tup [V.str "swap",V.str h,V.str y])) op Xb (L0 ++ FZ h :: (oth.take j).map (G9 h)):=Wo.keep fun b ys z=>Vn _ _ (s8 _ _ z)
    have nw2:(G9 h y).1 ∉ (L0 ++ FZ h :: (oth.take j).map (G9 h)).map (·.1):=by
     refine K1 (ss:=ss) (op:=op) (R:=(oth.drop (j + 1)).map (G9 h) ++ (op.drop (i + 1)).flatMap (DI ss op)) Vk on ?_;rw [hall];conv=>lhs; rw [Fp ey]
     rw [Yi,Ym];simp only [YR,Zq]
    have Sy:=WS.len;rw [XZ,Yz,XJ,Y7] at Sy;refine ⟨D,_,rfl,ET.t (k:=(G9 h y).1.map Sum.inr) Vb Ab (by lia),?_⟩;rw [WS.new nw2];refine hN2 _ _ ⟨_,_,rfl,BE Wj X5,by rw [Af nOD]; exact hO8,Ab,?_⟩;rw [F0 (G9 h) ey,<-Zq,<-YR];refine (WS.snoc (e:=G9 h y) (Vn _ _ IJ) WR).keep fun b ys z=>?_
    rw [Af (fun e=>by rw [e,Vb] at z; cases z)];exact z
   ·rintro σ H7 ⟨v5,Xb,rfl,s7,Xv,Vc,Wo⟩;rw [XJ,Yu] at Wo;refine hN _ _ ⟨_,_,Xb,rfl,s7,Xv,Vc,?_⟩;rw [Og _ eh,<-YR,<-eL0];unfold DI;rw [<-ess] at eoth;rw [<-eoth];exact Wo
  rintro σ H3 ⟨v4,v5,kv,rfl,s3,hO3,FN,oc3⟩;rw [XJ,Yu,<-eall] at oc3;refine ⟨_,rfl,D,kv,rfl,FN,fun ob ts H4 fz tl tt=>?_⟩;have M3:H4 D=some (.frz ob (.dT kv)):=by rw [fz.2]; exact Ab
  have s4:∀ b u,b ≠ D->H3 b=some u->H4 b=some u:=fun b u e z=>by rw [fz.2,Af e]; exact z
  have Mh:Au H H4:=fun b u z=>s4 _ _ (Ah z X5) (s3 _ _ z)
  have RC:BY H4 op kv (Bv ss op):=oc3.keep fun b ys z=>s4 _ _ (fun e=>by rw [e,FN] at z; cases z) z
  have kl:=RC.len;have cs:=cx.cw.sites;have nms:∀ s ∈ rs1.map (·.1),AV s=true:=fun s hs=>by
   obtain ⟨r,N2,rfl⟩:=Yc.mp hs;exact cx.cw.map.at'.nm _ (cx.cw.ok1.sub r N2)
  refine MY Km (fun D2 i σ H'=>∃ (v0:Option V) (kvs:List (List A6 × V)),σ=[v0,some (.ref c),some (.ref D)]/\Au H4 H'/\H' D2=some (.dT kvs)/\BY H' op kvs (((Bv ss op).take i).filter (Cv x op)))
   (fun D2 JE=>⟨_,[],rfl,Ad JE,Ab,BY.nil⟩) (fun D2 i σ H' JE ⟨v0,kvs,_,sa,_,_⟩=>sa _ _ M3) ?_ ?_
  ·rintro D2 i σ H' x' B N JE ex ⟨v0,kvs,rfl,sa,AS,oc⟩ hB hN;obtain ⟨T,eT,rfl⟩:∃ T,ts[i]? = some T/\x'=.ref T:=by
    rw [Yd] at ex;cases q:ts[i]? with
    | none=>rw [q] at ex; cases ex
    | some y=>rw [q] at ex; exact ⟨y,rfl,(Yo.inj ex).symm⟩
   have hi:i < kv.length:=by rw [<-tl]; exact (Yb.mp eT).1
   have ek:kv[i]? = some kv[i]:=XO hi;obtain ⟨e,ee,ke⟩:=RC.mem_get ek;have hT:=tt i T _ eT ek;rw [ke] at hT;obtain ⟨t,zs,vv,hz,ocz⟩:=RC.val (E3 Vk on) ee;have em:=XY ee;have ein:=Di em;have dg:∀ {MJ:Hp},Au H4 MJ->BM MJ D (.ref T) (some (.ref t)):=fun {MJ} s=>.inr ⟨kv,e.1.map Sum.inr,T,.inr ⟨ob,s _ _ M3⟩,rfl,s _ _ hT,vv.symm⟩
   have ocr:=ocz.nodup on ein;have zsub:=ocz.sub (fun s hs=>ess ▸ os s hs) ein;have zl:zs.length<=10:=by
    have:=List.Nodup.length_le_of_subset ocr zsub;rw [ess] at this;lia
   refine ⟨_,rfl,_,rfl,_,rfl,D,.ref t,rfl,dg sa,?_⟩;refine ⟨c,rs1.map (·.1),x,d,.ref t,rfl,(cx.cw.same (Mh.trans sa)).sites,cx.ri,nms,.inl ⟨_,NP.strs (sa _ _ hz) (by lia) (fun s hs=>Yv (QO (nms _ (ess ▸ zsub s hs))) (by decide)),fun b H5 s5 hb=>?_⟩⟩
   ·have Ez:b=true ↔ Cv x op e=true:=hb.trans (ocz.isOp cx.ri on os (ess ▸ ein));have tk:=D9 (Cv x op) ee;have Vm:=sa.trans s5;refine ⟨_,rfl,?_⟩;refine Bz (fun z=>?_) (fun z=>?_)
    ·rw [if_pos (Ez.mp z)] at tk;refine ⟨_,rfl,_,rfl,_,rfl,D,.ref t,rfl,dg Vm,?_⟩;have QN:BY H5 op kvs (((Bv ss op).take i).filter (Cv x op)):=oc.keep fun b ys z=>s5 _ _ z
     have L5:=s5 _ _ AS;have nw:e.1 ∉ (((Bv ss op).take i).filter (Cv x op)).map (·.1):=fun hm=>by
      have:=K1 Vk on (Fp ee);obtain ⟨e',FL,q⟩:=Yc.mp hm;exact this (Yc.mpr ⟨e',(Y3.mp FL).1,q⟩)
     have len:=QN.len;have lf:(((Bv ss op).take i).filter (Cv x op)).length<=(Bv ss op).length:=Yv (YB _ _) (by rw [Y7]; exact aG _ _);rw [<-ess] at VW;refine hB _ _ _ _ ⟨kvs,e.1.map Sum.inr,T,rfl,Vm _ _ hT,L5,by lia,_,kvs ++ [(e.1.map Sum.inr,.ref t)],rfl,BE Vm JE,?_,?_⟩
     ·rw [QN.new nw];exact Ab
     ·rw [tk];refine (QN.snoc (Vm _ _ hz) ocz).keep fun b ys z=>?_
      rw [Af (fun e=>by rw [e,L5] at z; cases z)];exact z
    ·rw [if_neg (fun w=>z (Ez.mpr w)),YN] at tk;exact hN _ _ ⟨_,kvs,rfl,Vm,s5 _ _ AS,by rw [tk]; exact oc.keep fun b ys z=>s5 _ _ z⟩
  ·rintro D2 σ H' JE ⟨v0,kvs,rfl,sa,AS,oc⟩;rw [XJ,tl,kl,Yu] at oc;exact k _ D2 kvs (Mh.trans sa) (Mh.free0 JE) AS (by rw [<-ess]; exact oc)
end
section
variable {P:Program} {w:World} {K:XU} {mg:Str->Option Value} {base:Heap}
theorem HU (h_sorted:mg "sorted"=none) (h_tuple:mg "tuple"=none)  {f:Addr} {fd:FuncData} (F:Ek K "changed" "changed" EG f fd):A7 P w K mg base B9 1 f fd ["opening","out","more"] Jt:=by
 refine F.ok HB (fun vs H Q E h=>?_) (fun cdv A outer s H vs Q E hr h=>?_)
 ·obtain ⟨o,op,out,more,rfl,_⟩:=h;rfl
 ·obtain ⟨o,op,out,more,rfl,ho,ol,k⟩:=h;have nd:=HB.nd;have big:100000 < sizeLine:=by decide
  refine ⟨_,(Ae (Hk (ix:=3) (N:=["house","out"]) (σ0:=fun σ=>[none,some 1].map fun j=>j.bind fun j=>(σ[j]?).join) nd rfl (Or.inl rfl) rfl (A8.caught (by rfl) (by decide +kernel) rfl (by decide +kernel) (by intro y hy; simp only [XX,Yg,or_false] at hy; rcases hy with rfl <;> rfl)
   (by intro y hy e; simp only [XX,Yg,or_false] at hy; rcases hy with rfl | rfl | rfl <;> first | exact ⟨_,rfl⟩ | cases e)) (fun σ _=>AR.of [none,some 1] rfl (by
   intro i j x h1 h2;match i,h1,h2 with
   | 0,_,h2=>cases h2
   | 1,h1,h2=>cases h1; cases h2; exact ⟨rfl,.inl rfl,.inl rfl⟩
   | n + 2,h1,_=>cases h1)) (BO K rfl (pv 0))
   (fun s2 H C fp=>⟨(Ai (i:=0) (show (["house","out"]:List Str).Nodup by decide +kernel) rfl (Or.inl rfl)),(EH (Bm J3 (pv 0) (pv 1) (Bl _))),(pv 0)⟩))
  (Al (A5 (A0 (AG K rfl) (by rfl) h_tuple PyProof.Rows.boot_tuple (Aa (Ak (Dw K rfl) (by rfl) h_sorted PyProof.Rows.boot_sorted (Aa (HI (HF (HL (pv 2))) (pv 3) (Av Ko (pv 3) (BF (Aa (pv 2) Ac)))) Ac)) Ac))))),?_⟩
  have sc:∀ (h:Str) (q:Option Str),Uc (.str h) (oS q)=true:=fun h q=>by cases q <;> rfl
  have nq:∀ (h:Str) (q:Option Str),(!decide (V.str h=oS q))=decide (some h ≠ q):=fun h q=>by cases q <;> simp [oS]
  refine ⟨_,rfl,o,rfl,⟨_,AE.of ho⟩,?_⟩;refine Cf B7 (xs:=op.map V.str) (fun D i σ H' acc=>∃ v0:Option V,σ=[v0,some (oS out)]/\Au H H'/\H' D=some (.lst acc)/\acc=(AL (op.take i) out).map V.str)
   (by rw [XJ]; lia) (fun D hD=>⟨_,rfl,Ad hD,Ab,rfl⟩) (fun D i σ H' acc hD ⟨v0,_,sa,AS,ea⟩=>⟨AE.of (sa _ _ ho),AS,by rw [ea,XJ]; exact Yv (YB _ _) (by rw [Y7]; exact Z7 _ _)⟩) ?_ ?_
  ·rintro D i σ H' acc x' B N hD ex ⟨v0,rfl,sa,AS,rfl⟩ hB hN;obtain ⟨y,ey,rfl⟩:=DA ex;have tk:=D9 (fun h=>decide (some h ≠ out)) ey;refine ⟨_,rfl,_,rfl,sc _ _,_,rfl,?_⟩;rw [nq];refine Bz (fun z=>?_) (fun z=>?_)
   ·rw [if_pos z] at tk;exact ⟨_,rfl,hB _ _ _ AS ⟨_,rfl,BE sa hD,Ab,by unfold AL; rw [tk,Yi]; rfl⟩⟩
   ·rw [if_neg z,YN] at tk;exact hN _ _ ⟨_,rfl,sa,AS,by unfold AL; rw [tk]⟩
  ·rintro D σ H' acc hD ⟨v0,rfl,sa,AS,rfl⟩;rw [XJ,Yu] at AS;have kl:(AL op out).length<=op.length:=YB _ _;have Cu:∀ (H2:Hp) (L:Addr) (ys:List Str),Au H H2->H2 L=some (.lst (ys.map V.str))->ys=AL op out ++ more.toList->∃ (a:Addr) (ss:List Str),[V.ref L]=[.ref a]/\AM K H2 a (ss.map V.str)/\ss.length < 64/\∀ (l:Addr) (Ck:List Str),H2 l=none->Ck.Perm ss->PyProof.Rows.sortedS Ck=true->∃ (p:Addr) (ys:List V),[V.ref l]=[.ref p]/\((AM K (upd H2 l (.lst (Ck.map V.str))) p ys/\∀ t,(upd H2 l (.lst (Ck.map V.str))) t=none->Q (.ref t) (upd (upd H2 l (.lst (Ck.map V.str))) t (.tup ys)))\/(AE K (upd H2 l (.lst (Ck.map V.str))) p ys/\Q (.ref p) (upd H2 l (.lst (Ck.map V.str))))):=fun H2 L ys s2 hL ey=>by
    refine ⟨L,ys,rfl,AM.of hL,?_,fun l zs hl pz sz=>⟨l,zs.map V.str,rfl,.inl ⟨AM.of Ab,fun t ht=>?_⟩⟩⟩
    ·rw [ey,XZ];have:more.toList.length<=1:=by cases more <;> simp
     lia
    ·have s3:=s2.trans (Ad (o:=.lst (zs.map V.str)) hl);exact k _ t zs (s3.trans (Ad ht)) (s3.free0 ht) Ab ⟨ey ▸ pz,sz⟩
   refine ⟨_,rfl,_,rfl,?_⟩;cases more with
   | none=>
    refine Bz (fun _=>⟨_,rfl,?_⟩) (fun z=>by simp [oS] at z);exact Cu _ D _ sa AS (by simp)
   | some s=>
    refine Bz (fun z=>by simp [oS] at z) (fun _=>⟨_,rfl,_,rfl,(by show 1<=sizeLine; lia),fun L1 VR=>?_⟩);have s2:=Ad (o:=.lst [V.str s]) VR;refine ⟨D,L1,_,_,rfl,rfl,s2 _ _ AS,Ab,by rw [XJ]; show _ + 1<=sizeLine; lia,fun L2 VQ=>?_⟩;exact Cu _ L2 (AL op out ++ [s]) ((sa.trans s2).trans (Ad VQ)) (by rw [Yi]; exact Ab) rfl
end
section
variable {P:Program} {w:World} {K:XU} {mg:Str->Option Value} {base:Heap}
theorem GO (h_int:mg "int"=none) (h_len:mg "len"=none) (h_sorted:mg "sorted"=none) {f:Addr} {fd:FuncData} (F:Ek K "_law_openings" "_law_openings" Cm f fd):A7 P w K mg base B9 1 f fd ["_law_case_here"] Qk:=by
 refine F.ok Ei (fun vs H Q E h=>?_) (fun cdv A outer s H vs Q E hr h=>?_)
 ·obtain ⟨c,sites,x,d,rfl,_⟩:=h;rfl
 ·obtain ⟨c,sites,x,d,rfl,cs,s6,k⟩:=h;have nd:=Ei.nd;have big:100000 < sizeLine:=by decide
  refine ⟨_,(Ae (Ar (i:=1) nd rfl (Or.inl rfl) (BF (Aa (Ba Ac) Ac)))
  (Ae (Cb PassesOwn.never rfl (BO K rfl (A9 (AO K rfl) (pv 0) Ag (fun _ _=>rfl))) (Bx K rfl rfl (Ap (Ai (i:=2) nd rfl (Or.inr rfl)) (Ap (Ai (i:=3) nd rfl (Or.inl rfl)) Bs)))
  (Al (Ar (i:=1) nd rfl (Or.inl rfl) (Av Ko (pv 1) (By (N:=["_law_one","_law_place"]) (σ0:=fun σ=>[none,some 2].map fun j=>j.bind fun j=>(σ[j]?).join) rfl (A8.caught (by rfl) (by decide +kernel) rfl (by decide +kernel) (by intro y hy; simp only [XX,Yg,or_false] at hy; rcases hy with rfl <;> rfl)
   (by intro y hy e; simp only [XX,Yg,or_false] at hy; rcases hy with rfl | rfl | rfl <;> first | exact ⟨_,rfl⟩ | cases e)) (fun σ _=>AR.of [none,some 2] rfl (by
   intro i j x h1 h2;match i,h1,h2 with
   | 0,_,h2=>cases h2
   | 1,h1,h2=>cases h1; cases h2; exact ⟨rfl,.inl rfl,.inl rfl⟩
   | n + 2,h1,_=>cases h1)) (Hl (pv 1))
   (fun s2 H C fp=>⟨(Ai (i:=0) (show (["_law_one","_law_place"]:List Str).Nodup by decide +kernel) rfl (Or.inl rfl)),AY,(Av (Lm K rfl) (pv 0) (Ba (Aa (pv 1) Ac)))⟩))))))
  (Ae (Ar (i:=4) nd rfl (Or.inr rfl) (A9 Nw (BF (Aa (A9 (AO K rfl) (pv 0) Ag (fun _ _=>rfl)) (Aa (Ak Ea (by rfl) h_len PySem.boot_len (Aa (A9 (AO K rfl) (pv 0) Ag (fun _ _=>rfl)) Ac)) Ac))) (A0 EM (by rfl) h_int PyProof.Rows.boot_int (Aa (Mn (HL (A9 (AO K rfl) (pv 0) Ag (fun _ _=>rfl)))) Ac)) (fun _ _=>rfl)))
  (Al (A5 (Ak (ES K rfl) (by rfl) h_sorted PyProof.Rows.boot_sorted (Aa (By (N:=["_law_one","_law_most"]) (σ0:=fun σ=>[none,some 4].map fun j=>j.bind fun j=>(σ[j]?).join) rfl (A8.caught (by rfl) (by decide +kernel) rfl (by decide +kernel) (by intro y hy; simp only [XX,Yg,or_false] at hy; rcases hy with rfl <;> rfl)
   (by intro y hy e; simp only [XX,Yg,or_false] at hy; rcases hy with rfl | rfl | rfl | rfl <;> first | exact ⟨_,rfl⟩ | cases e)) (fun σ _=>AR.of [none,some 4] rfl (by
   intro i j x h1 h2;match i,h1,h2 with
   | 0,_,h2=>cases h2
   | 1,h1,h2=>cases h1; cases h2; exact ⟨rfl,.inl rfl,.inl rfl⟩
   | n + 2,h1,_=>cases h1)) (Hl (pv 1))
   (fun s2 H C fp=>⟨(Ai (i:=0) (show (["_law_one","_law_most"]:List Str).Nodup by decide +kernel) rfl (Or.inl rfl)),(EH (HG J4 Lk Ag (Ak (Aw K rfl) (by rfl) h_len PySem.boot_len (Aa (pv 0) Ac)) (pv 1))),(pv 0)⟩)) Ac))))))),?_⟩
  obtain ⟨mV,t2V,t1,El,rs1,hc,Ho,Ik,rfl,snd,sl,lim⟩:=cs;have ul:=B6 Ik;rw [XJ] at sl;refine ⟨(by show 0<=sizeLine; lia),fun T0 hT0=>⟨(by show 1<=sizeLine; lia),fun L0 Xy=>?_⟩⟩;have s0:=(Ad (o:=.tup []) hT0).trans (Ad (o:=.lst [.ref T0]) Xy);refine ⟨_,rfl,c,_,_,_,rfl,rfl,AE.of (s0 _ _ hc),rfl,t1,rfl,⟨_,AE.of (s0 _ _ Ho)⟩,?_⟩;refine L9 (xs:=El) (fun i σ H'=>∃ (L:Addr) (us:List V) (fs:List (List Str)) (v2 v3 v4:Option V),σ=[some (.ref c),some (.ref L),v2,v3,v4]/\Au H H'/\H' L=some (.lst us)/\Cs H' us fs/\GD ((rs1.map (·.1)).take i) 100 fs/\fs.length<=2 ^ i)
   ⟨L0,[.ref T0],[[]],_,_,_,rfl,s0,Ab,.cons (by rw [Af (by intro z; subst z; rw [Ab] at Xy; cases Xy)]; exact Ab) .nil,GD.nil (by decide),Ya _⟩
   (fun i σ H' _ ⟨_,_,_,_,_,_,_,sa,_⟩=>AE.of (sa _ _ Ho)) ?_ ?_
  ·rintro i xx σ H' ex ⟨L,us,fs,v2,v3,v4,rfl,sa,hL,tU,sub,fl⟩ rt bk;obtain ⟨u,t,eu,rfl,ht⟩:=Dk Ik ex;have hi:i < rs1.length:=(Yb.mp eu).1;have f512:fs.length<=512:=Yv fl (Yv (ZZ (by decide) (show i<=9 by lia)) (by decide));have hul:=tU.len;have VU:∀ f ∈ fs,f.length<=10:=fun f hf=>by
    have:=((sub.2 f).mp hf).1.length_le;rw [Y7,XJ] at this;lia
   refine ⟨t,_,rfl,AE.of (sa _ _ ht),rfl,_,_,rfl,_,_,rfl,rfl,?_⟩;refine ⟨_,rfl,_,rfl,L,rfl,⟨_,AM.of hL⟩,?_⟩;refine Bt C0 (xs:=us) (fun D j Ay H2 acc=>∃ v0:Option V,Ay=[v0,some (.str u.1)]/\Au H' H2/\H2 D=some (.lst acc)/\Cs H2 acc ((fs.take j).map (· ++ [u.1]))/\acc.length=j)
    (by lia) (fun D hD=>⟨_,rfl,Ad hD,Ab,.nil,rfl⟩) (fun D j Ay H2 acc hD ⟨v0,_,sb,AS,_,al⟩=>⟨AM.of (sb _ _ hL),AS,al⟩) ?_ ?_
   ·rintro D j Ay H2 acc x' B hD ex' ⟨v0,rfl,sb,AS,tp,al⟩ hB;obtain ⟨tf,f,rfl,ef,htf⟩:=tU.get ex';have fm:=VU f (XY ef);refine ⟨_,rfl,_,rfl,(by show 1<=sizeLine; lia),fun T1 VL=>?_⟩;have q1:=Ad (o:=.tup [.str u.1]) VL;have Xr:(upd H2 T1 (.tup [.str u.1])) T1=some (.tup [.str u.1]):=Ab;refine catA (K:=K) (q1 _ _ (sb _ _ htf)) Xr (by rw [XJ]; show f.length + 1<=sizeLine; lia) fun T H5 s5 hT=>?_
    have q5:=q1.trans s5;refine hB _ _ _ (q5 _ _ AS) ⟨_,rfl,fun b o' z=>by rw [Af (Ah z hD)]; exact q5 _ _ (sb _ _ z),Ab,?_,by rw [XZ,al]; rfl⟩;rw [Yx,ef,Yi];have hT':H5 T=some (.tup ((f ++ [u.1]).map V.str)):=by rw [hT,Yi]; rfl
    refine ((tp.keep fun b ys z=>q5 _ _ z).app (.cons hT' .nil)).keep fun b ys z=>?_
    rw [Af (BI z (q5 _ _ AS) (fun q=>by cases q))];exact z
   ·rintro D Ay H2 acc hD ⟨v0,rfl,sb,AS,tp,al⟩;refine ⟨L,D,us,acc,rfl,rfl,sb _ _ hL,AS,by lia,fun p hp=>?_⟩;have sp:=Ad (o:=.lst (us ++ acc)) hp;rw [hul,Yu] at tp;have e0:(rs1.map (·.1))[i]? = some u.1:=by rw [Yd,eu]; rfl
    have e1:(rs1.map (·.1)).take (i + 1)=(rs1.map (·.1)).take i ++ [u.1]:=by rw [Yx,e0]; rfl
    have nin:u.1 ∉ (rs1.map (·.1)).take i:=by
     have:=snd.sublist (bD (i + 1) _);rw [e1] at this;exact fun z=>(YJ.mp this).2.2 _ z _ (by simp) rfl
    have ef:(fs.filter fun f=>decide ((f.length:Int) < 100))=fs:=ZA.mpr fun f hf=>decide_eq_true (by have:=VU f hf; lia)
    refine ⟨p,us ++ acc,fs ++ fs.map (· ++ [u.1]),_,_,_,rfl,(sa.trans sb).trans sp,Ab,((tU.keep fun b ys z=>sb _ _ z).app tp).keep (fun b ys z=>sp _ _ z),?_,?_⟩
    ·rw [e1];have:=GD.step nin sub;rw [ef] at this;exact this
    ·rw [XZ,XJ,Nat.pow_succ];lia
  ·rintro σ H' ⟨L,us,fs,v2,v3,v4,rfl,sa,hL,tU,sub,fl⟩;rw [ul,ZO (by rw [XJ]; exact Ya _)] at sub;rw [ul] at fl;have f64:fs.length<=64:=Yv fl (Yv (ZZ (by decide) (by rw [XJ] at s6; exact s6)) (by decide));have VV:fs.length<=1024:=Yv fl (Yv (ZZ (by decide) sl) (by decide));have hul:=tU.len;have Hq:=sa _ _ hc;have Xi:=sa _ _ Ho;obtain ⟨mo,hmo,mok⟩:∃ mo:Int,K8 [x,V.int (El.length:Int)] (if decide (x=.non)=true then 1 else 0)=some (.int mo)/\∀ f ∈ fs,((f.length:Int)<=mo ↔ C2 x f.length=true):=by
    rcases lim with ⟨rfl,_⟩ | ⟨i,rfl,_,i1,i2⟩
    ·refine ⟨El.length,rfl,fun f hf=>⟨fun _=>rfl,fun _=>?_⟩⟩;have:=((sub.2 f).mp hf).1.length_le;rw [XJ] at this;lia
    ·exact ⟨i,rfl,fun f hf=>⟨fun h=>decide_eq_true h,fun h=>of_decide_eq_true h⟩⟩
   refine ⟨_,rfl,c,_,_,_,rfl,rfl,AE.of Hq,rfl,_,rfl,c,_,_,_,rfl,rfl,AE.of Hq,rfl,t1,_,rfl,.inr (AE.of Xi),(by show 2<=sizeLine; lia),fun M hM=>?_⟩;have sM:=Ad (o:=.lst [x,.int (El.length:Int)]) hM;have hMM:(upd H' M (.lst [x,.int (El.length:Int)])) M=some (.lst [x,.int (El.length:Int)]):=Ab;generalize upd H' M (.lst [x,.int (El.length:Int)])=H1 at sM hMM ⊢;refine ⟨_,rfl,c,_,_,_,rfl,rfl,AE.of (sM _ _ Hq),rfl,.inr ⟨_,rfl,M,_,_,_,rfl,rfl,AM.of hMM,hmo,?_⟩⟩;refine ⟨_,rfl,L,rfl,⟨_,AM.of (sM _ _ hL)⟩,?_⟩;refine Cf C0 (xs:=us) (fun D i Ay H2 acc=>∃ v0:Option V,Ay=[v0,some (.int mo)]/\Au H1 H2/\H2 D=some (.lst acc)/\Cs H2 acc ((fs.take i).filter fun f=>decide (0 < f.length) && C2 x f.length)/\acc.length<=i)
    (by lia) (fun D hD=>⟨_,rfl,Ad hD,Ab,.nil,Ya _⟩) (fun D i Ay H2 acc hD ⟨v0,_,sb,AS,_,al⟩=>⟨AM.of (sb _ _ (sM _ _ hL)),AS,al⟩) ?_ ?_
   ·rintro D i Ay H2 acc x' B N hD ex ⟨v0,rfl,sb,AS,tp,al⟩ hB hN;obtain ⟨tf,f,rfl,ef,htf⟩:=tU.get ex;have V6:=sb _ _ (sM _ _ htf);have mk:=mok f (XY ef);have yes:(decide (0 < f.length) && C2 x f.length)=true->B [some (.ref tf),some (.int mo)] (.ref tf) H2:=fun z=>by
     refine hB _ _ _ AS ⟨_,rfl,fun b o' z=>by rw [Af (Ah z hD)]; exact sb _ _ z,Ab,?_,by rw [XZ]; simp; lia⟩;rw [Yx,ef,Zj];simp only [bU,Zo,z,if_true,bV];refine (tp.app (.cons V6 .nil)).keep fun b ys z=>?_
     rw [Af (BI z AS (fun q=>by cases q))];exact z
    have no:(decide (0 < f.length) && C2 x f.length)=false->N [some (.ref tf),some (.int mo)] H2:=fun z=>by
     refine hN _ _ ⟨_,rfl,sb,AS,?_,by lia⟩;rw [Yx,ef,Zj];simp only [bU,Zo,z,Y1,if_false,bV,YN];exact tp
    refine ⟨_,rfl,tf,_,rfl,.inr (AE.of V6),_,_,rfl,rfl,_,rfl,?_⟩;rw [XJ];refine Bz (fun z1=>?_) (fun z1=>?_)
    ·have Wa:0 < f.length:=by have:=of_decide_eq_true z1; lia
     refine ⟨_,rfl,_,_,rfl,rfl,_,rfl,?_⟩;refine Bz (fun z=>?_) (fun z=>?_)
     ·exact ⟨_,rfl,yes (by rw [decide_eq_true Wa,mk.mp (of_decide_eq_true z)]; rfl)⟩
     ·refine no ?_;rw [decide_eq_true Wa,Bool.true_and];cases hb:C2 x f.length with
      | false=>rfl
      | true=>exact absurd (decide_eq_true (mk.mpr hb)) z
    ·have z0:¬ ((0:Int) < f.length):=by simpa using z1
     have Wa:¬ 0 < f.length:=by lia
     refine ⟨_,rfl,?_⟩;refine L3 ?_;exact no (by rw [decide_eq_false Wa]; rfl)
   ·rintro D Ay H2 acc hD ⟨v0,rfl,sb,AS,tp,al⟩;rw [hul,Yu] at tp;refine ⟨D,acc,fun _=>true,rfl,AM.of AS,tp.kinds (fun f hf=>?_),?_,fun l Jk hl pm=>?_⟩
    ·have:=(Y3.mp hf).2;simp only [YA,decide_eq_true_eq] at this;intro z;rw [z] at this;simp at this
    ·have e1:=tp.len;have e2:=(ZW (p:=fun f:List Str=>decide (0 < f.length) && C2 x f.length) (l:=fs)).mpr ⟨[],(sub.2 []).mpr ⟨ZN _,by decide⟩,by simp⟩;lia
    ·obtain ⟨os,po,to⟩:=Cs.perm pm tp;have Ua:=Ad (o:=.lst Jk) hl;refine k _ l Jk os (((sa.trans sM).trans sb).trans Ua) ?_ Ab (to.keep fun b ys z=>Ua _ _ z) ⟨po.nodup_iff.mpr (sub.1.sublist Zs),?_,fun ss=>?_⟩ (by rw [po.length_eq]; exact Yv (YB _ _) VV)
     ·exact ((sa.trans sM).trans sb).free hl
     ·trivial
     ·rw [po.mem_iff,Y3,sub.2,YA,decide_eq_true_eq];constructor
      ·rintro ⟨⟨h1,_⟩,h2,h3⟩;exact ⟨by intro z; rw [z] at h2; simp at h2,h1,h3⟩
      ·rintro ⟨h1,h2,h3⟩;refine ⟨⟨h2,?_⟩,Zd.mpr h1,h3⟩;have:=h2.length_le;rw [XJ] at this;lia
end
section
variable {P:Program} {w:World} {K:XU} {mg:Str->Option Value} {base:Heap}
theorem HQ {f:Addr} {fd:FuncData} (F:Ek K "neighbours" "neighbours" CM f fd):A7 P w K mg base B9 1 f fd ["web"] (Qc K):=by
 refine F.ok EU (fun vs H Q E h=>?_) (fun cdv A outer s H vs Q E hr h=>?_)
 ·obtain ⟨q,ps,ws,r,rfl,_⟩:=h;rfl
 ·obtain ⟨q,ps,ws,r,rfl,ok,k⟩:=h;obtain ⟨tp,tw,us,hq,htp,htw,hD⟩:=ok.web.ex;have nd:=EU.nd;have hu:=DH hr;have big:1000 < sizeLine:=by decide
  have l30:=ok.l30;have l64:=ok.l64;refine ⟨_,Ae (DS (pv 0) (Bx K rfl rfl (Ap (Ai (i:=1) nd rfl (Or.inl rfl)) (Ap (Ai (i:=2) nd rfl (Or.inl rfl)) Bs))))
   (Ae (Q5 (ix:=3) (N:=["place"]) (σ0:=fun _=>[none]) nd rfl (Or.inl rfl) rfl (A8.plain (by decide +kernel) (by decide +kernel) rfl (by decide +kernel)) (fun σ _=>AR.none _ _ _ ["place"] σ) (BO K rfl (pv 1))
    (fun s2 H C fp=>⟨Ai (i:=0) (show (["place"]:List Str).Nodup by decide +kernel) rfl (Or.inl rfl),AY,pv 0,Lj⟩))
   (Ae (Cb PassesOwn.never rfl (BO K rfl (pv 2)) (Bx K rfl rfl (Ap (Ai (i:=4) nd rfl (Or.inl rfl)) (Ap (Ai (i:=5) nd rfl (Or.inl rfl)) (Ap (Ai (i:=6) nd rfl (Or.inl rfl)) Bs))))
    (Ae (CS hu (AJ hu (pv 3) (pv 4) (fun _ _=>rfl)) (pv 5) (pv 6) rfl) (Al (CS hu (AJ hu (pv 3) (pv 5) (fun _ _=>rfl)) (pv 4) (pv 6) rfl))))
   (Al (A5 (pv 3))))),?_⟩
  refine ⟨_,rfl,q,_,rfl,AE.of hq,rfl,_,_,rfl,_,_,rfl,rfl,?_⟩;refine ⟨_,rfl,tp,rfl,⟨_,AE.of htp⟩,fun C hC=>⟨fun i m Ay H'=>m=ps.length - i/\i<=ps.length/\(∃ v,Ay=[v])/\∃ ds:List Addr,Au H H'/\ds.length=i/\ds.Nodup/\C ∉ ds/\(∀ d ∈ ds,H d=none/\H' d=some (.dK []))/\H' C=some (.dK (sK (Nm (ps.take i) ds))),
   ⟨_,rfl,Y9 _,⟨_,rfl⟩,[],Ad hC,rfl,.nil,by simp,by simp,Ab⟩,?_⟩⟩
  rintro i m Ay H' ⟨rfl,hi,⟨v,rfl⟩,ds,s1,dl,dn,dC,dH,NA⟩;have Mz:=s1 _ _ htp;by_cases Bu:i < ps.length
  ·refine .inr ⟨⟨_,V.str ps[i],AE.of Mz,by rw [Yd,XO Bu]; rfl⟩,?_⟩;rintro x H6 ⟨rfl,hx⟩;have My:=hx _ (AE.of Mz);rw [Yd,XO Bu] at My;cases My
   have tl:(ps.take i).length=i:=by rw [Y7]; lia
   have np:ps[i] ∉ (Nm (ps.take i) ds).map (·.1):=by
    rw [HW (by lia)];intro hm;obtain ⟨j,hj,e⟩:=Yq hm;rw [Z0] at e;have:=FG ok.nd (XO (show j < ps.length by lia)) (by rw [XO Bu,e]);lia
   refine ⟨_,rfl,fun d hd=>⟨_,Sum.inr ps[i],rfl,Ad hd _ _ NA,?_,_,by lia,rfl,Bu,⟨_,rfl⟩,ds ++ [d],fun b o z=>?_,by simp [dl],?_,?_,fun c hc=>?_,?_⟩⟩
   ·rw [CJ];unfold Nm;rw [XJ,Zt];lia
   ·rw [Af (Ah z hC)];exact Ad hd _ _ (s1 _ _ z)
   ·refine YJ.mpr ⟨dn,YC.mpr ⟨by simp,.nil⟩,fun a ha b hb=>?_⟩;have e:b=d:=by simpa using hb
    subst e;rintro rfl;rw [(dH _ ha).2] at hd;cases hd
   ·rw [Yt,not_or];refine ⟨dC,fun hm=>?_⟩;have e:C=d:=by simpa using hm
    rw [<-e,NA] at hd;cases hd
   ·rcases Yt.mp hc with hc | hc
    ·refine ⟨(dH c hc).1,?_⟩;rw [Af (fun z=>dC (by rw [<-z]; exact hc))];exact Ad hd _ _ (dH c hc).2
    ·have e:c=d:=by simpa using hc
     subst e;refine ⟨s1.free hd,?_⟩;rw [Af (fun z=>by rw [z,NA] at hd; cases hd)];exact Ab
   ·rw [Ab,Dy np];have e1:ps.take (i + 1)=ps.take i ++ [ps[i]]:=by rw [Yx,XO Bu]; rfl
    have e2:Nm (ps.take (i + 1)) (ds ++ [d])=Nm (ps.take i) ds ++ [(ps[i],.ref d)]:=by
     unfold Nm;rw [e1,List.zip_append (by lia),Yi];rfl
    rw [e2]
  ·have e0:i=ps.length:=by lia
   subst e0;rw [Yu] at NA;refine .inl ⟨⟨_,AE.of Mz,by rw [XJ]; exact Ya _⟩,?_⟩;have NB0:NB H' C ps ds (K9 (ws.take 0)) 0:=⟨NA,dl,dn,dC,fun j p d e1 e2=>⟨[],(dH d (XY e2)).2,Ya _,fun y=>⟨fun z=>absurd z Yg,fun ⟨u,hu,_⟩=>absurd hu Yg⟩⟩⟩
   have XI:RF H' ps ds (Ct (ws.take 0)):=fun j p d nv e1 e2 hr y v hy=>by
    have:nv=[]:=Rd.inj hr (.inl (dH d (XY e2)).2);subst this;cases hy
   have hwl:us.length=ws.length:=by rw [LG hD,XJ]
   refine ⟨_,rfl,tw,rfl,⟨_,AE.of (s1 _ _ htw)⟩,L9 (xs:=us) (fun i σ H2=>(∃ v4 v5 v6,σ=[some (.ref q),some (.ref tp),some (.ref tw),some (.ref C),v4,v5,v6])/\Au H H2/\NB H2 C ps ds (K9 (ws.take i)) (2 * i)/\RF H2 ps ds (Ct (ws.take i))) ⟨⟨_,_,_,rfl⟩,s1,NB0,XI⟩ (fun i σ H2 _ hP=>AE.of (hP.2.1 _ _ htw)) (fun i x σ H2 hx hP rt bk=>?_) (fun σ H2 hP=>?_)⟩
   ·obtain ⟨⟨v4,v5,v6,rfl⟩,s2,nb,nbv⟩:=hP;obtain ⟨u,t,gu,rfl,ht⟩:=Iz hD hx;have U7:i < ws.length:=(Yb.mp gu).1;have hu2:=ok.ends u (XY gu);refine ⟨t,_,rfl,AE.of (s2 _ _ ht),rfl,_,_,rfl,_,_,rfl,_,_,rfl,rfl,?_⟩;obtain ⟨j,d,nv,a1,a2,a3,a4,a5,a6⟩:=nb.get ok.nd hu2.1;obtain ⟨DC,b1,b2,b3⟩:=Mg nv u.2.1 (.int u.2.2);have dH1:∀ c ∈ ds,H c=none:=fun c hc=>(dH c hc).1
    refine ⟨_,rfl,_,rfl,_,rfl,C,_,rfl,?_,_,rfl,d,_,rfl,ET.k (k:=Sum.inr u.2.1) a4 (by rw [CJ]; lia),?_⟩
    ·have:=BM.k (k:=Sum.inr u.1) nb.top;rw [a3] at this;exact this
    rw [b1];have Tt:=nb.put ok.nd a1 a2 a4 b2 b3 a6 a5;have Vv:=nbv.put ok.nd nb.nd a1 a2 a4 b1 (fun _ _ _=>Pf) (LC gu);have s3:Au H (upd H2 d (.dK (sK DC))):=fun b o z=>by
     rw [Af (Ah z (dH1 d (XY a2)))];exact s2 _ _ z
    generalize upd H2 d (.dK (sK DC))=H3 at Tt Vv s3 ⊢;obtain ⟨j',d',mv,c1,c2,c3,c4,c5,c6⟩:=Tt.get ok.nd hu2.2;obtain ⟨mv',e1,e2,e3⟩:=Mg mv u.1 (.int u.2.2);refine ⟨_,rfl,_,rfl,_,rfl,C,_,rfl,?_,_,rfl,d',_,rfl,ET.k (k:=Sum.inr u.1) c4 (by rw [CJ]; lia),?_⟩
    ·have:=BM.k (k:=Sum.inr u.2.1) Tt.top;rw [c3] at this;exact this
    rw [e1];have nb3:=Tt.put ok.nd c1 c2 c4 e2 e3 c6 c5;have WV:=Vv.put (Ed':=Ct (ws.take (i + 1))) ok.nd Tt.nd c1 c2 c4 e1 (fun _ _ _ h=>h) (LC gu).symm;refine ⟨⟨_,_,_,rfl⟩,fun b o z=>?_,nb3.mono (fun a b=>(Rx gu a b).symm) (by lia),WV⟩;rw [Af (Ah z (dH1 d' (XY c2)))];exact s3 _ _ z
   ·obtain ⟨⟨v4,v5,v6,rfl⟩,s2,nb,nbv⟩:=hP;rw [hwl,Yu] at nb nbv;exact ⟨_,rfl,k H2 C ds s2 (nb.mono (fun _ _=>Iff.rfl) (by lia)) nbv hC fun d hd=>(dH d hd).1⟩
end
section
variable {P:Program} {w:World} {K:XU} {mg:Str->Option Value} {base:Heap}
structure NbF (K:XU) (mg:Str->Option Value) (f:Addr) (fd:FuncData):Prop where
 F:Ek K "neighbours" "neighbours" CM f fd
 mg:mg "neighbours"=some (.ref f)
 b:GI K fd ["web"] []
theorem HR {f fN:Addr} {fd fdN:FuncData} (NK:NbF K mg fN fdN) (hmi:mg "min"=none) (F:Ek K "nearest" "nearest" DB f fd):A7 P w K mg base B9 2 f fd ["web","starts"] (Mb K):=by
 have GN:A7 P w K mg base B9 1 fN fdN ["web"] (Qc K):=HQ NK.F;refine F.ok HA (fun vs H Q E h=>?_) (fun cdv A outer s H vs Q E hr h=>?_)
 ·obtain ⟨q,st,ps,ss,ws,r,rfl,_⟩:=h;rfl
 ·obtain ⟨q,st,ps,ss,ws,r,rfl,ok,pos,uniq,hst,ssne,ssn,sssub,k⟩:=h;have nd:=HA.nd;have hu:=DH hr;have IX:=hr.units;have big:1000 < sizeLine:=by decide
  have l30:=ok.l30;have ssl:ss.length<=30:=by
   have:=BX ssn sssub;lia
  refine ⟨_,Ae (Ar (i:=2) nd rfl (Or.inl rfl) (Aj GN hr (by rfl) NK.mg NK.F.kp NK.b .nil As (Aa (pv 0) Ac)))
   (Ae (Ar (i:=3) nd rfl (Or.inr rfl) (HJ (N:=["start"]) (σ0:=fun _=>[none]) rfl (A8.plain (by decide +kernel) (by decide +kernel) rfl (by decide +kernel)) (fun σ _=>AR.none _ _ _ ["start"] σ) (PI.or (Cp K rfl (pv 1)) (BO K rfl (pv 1)))
    (fun s2 H C fp=>⟨Ai (i:=0) (show (["start"]:List Str).Nodup by decide +kernel) rfl (Or.inl rfl),AY,pv 0,Ba (Aa Ag (Aa (pv 0) Ac))⟩)))
   (Ae (Ar (i:=4) nd rfl (Or.inl rfl) Lj)
   (Ae (Q4 PassesOwn.never (Lg (pv 3) (fun _=>rfl))
    (Ae (DS (Sg (Ak (IC rfl IX) (by rfl) hmi PyProof.Rows.boot_min (Aa
      (By (N:=["name","reached"]) (σ0:=fun σ=>[none,some 3].map fun j=>j.bind fun j=>(σ[j]?).join) rfl
       (A8.caught (by rfl) (by decide +kernel) rfl (by decide +kernel) (by intro y hy; simp only [XX,Yg,or_false] at hy; rcases hy with rfl <;> rfl)
        (by intro y hy e; simp only [XX,Yg,or_false] at hy; rcases hy with rfl | rfl | rfl <;> first | exact ⟨_,rfl⟩ | cases e))
       (fun σ _=>AR.of [none,some 3] rfl (by
        intro i j x h1 h2;match i,h1,h2 with
        | 0,_,h2=>cases h2
        | 1,h1,h2=>cases h1; cases h2; exact ⟨rfl,.inl rfl,.inl rfl⟩
        | n + 2,h1,_=>cases h1)) (Nd (pv 3))
       (fun s2 H C fp=>⟨Ai (i:=0) (show (["name","reached"]:List Str).Nodup by decide +kernel) rfl (Or.inl rfl),AY,Ba (Aa (AJ hu (pv 1) (pv 0) (fun _ _=>rfl)) (Aa (pv 0) Ac))⟩)) Ac)))
      (Bx K rfl rfl (Ap (Bx K rfl rfl (Ap (Ai (i:=5) nd rfl (Or.inl rfl)) (Ap (Ai (i:=6) nd rfl (Or.inl rfl)) Bs))) (Ap (Ai (i:=7) nd rfl (Or.inl rfl)) Bs))))
    (Ae (Sf (pv 3) (pv 7))
    (Ae (CS hu (pv 4) (pv 7) (Ba (Aa (pv 5) (Aa (pv 6) Ac))) rfl)
    (Al (Cb PassesOwn.never rfl (Nd (AJ hu (pv 2) (pv 7) (fun _ _=>rfl))) (Ai (i:=8) nd rfl (Or.inl rfl))
     (Al (Dd (HF (J2 hu (pv 8) (pv 4)))
      (Ae (Ar (i:=9) nd rfl (Or.inl rfl) (Ba (Aa (Av Bh (pv 5) (AJ hu (AJ hu (pv 2) (pv 7) (fun _ _=>rfl)) (pv 8) (fun _ _=>rfl))) (Aa (pv 6) Ac))))
      (Al (CS hu (pv 3) (pv 8) (Ak (Je rfl IX) (by rfl) hmi PyProof.Rows.boot_min (Aa (pv 9) (Aa (QE hu (pv 3) (pv 8) (pv 9) ⟨rfl,rfl,rfl,rfl⟩) Ac))) rfl))) Bw))))))))
   (Al (A5 (pv 4)))))),?_⟩
  refine ⟨_,rfl,q,ps,ws,r,rfl,ok,fun H1 B ds s1 nb nbv hB hds=>?_⟩;have nbAt:∀ a,a ∈ ds->∃ u,H1 a=some u:=fun a hm=>by
   obtain ⟨i,hi,e⟩:=Yq hm;have U7:i < ps.length:=by rw [<-nb.len]; exact hi
   obtain ⟨nv,a1,_⟩:=nb.inner i ps[i] a (XO U7) (by rw [XO hi,e]);exact ⟨_,a1⟩
  have Vd:=nb.top;rcases hst with hst | hst
  case' inl=>
   refine .inl ⟨_,rfl,st,rfl,⟨_,AM.of (s1 _ _ hst)⟩,fun RA hRA=>?_⟩
  case' inr=>
   refine .inr ⟨_,rfl,st,rfl,⟨_,AE.of (s1 _ _ hst)⟩,fun RA hRA=>?_⟩
  all_goals
   refine ⟨fun i m Ay H'=>m=ss.length - i/\i<=ss.length/\(∃ v,Ay=[v])/\∃ nv:List (Str × V),Au H1 H'/\H' RA=some (.dK (sK nv))/\nv.map (·.1)=ss.take i/\∀ y v,(y,v) ∈ nv->JR H' v (0,y),
    ⟨_,rfl,Y9 _,⟨_,rfl⟩,[],Ad hRA,Ab,rfl,fun y v hy=>absurd hy Yg⟩,?_⟩
   rintro i m Ay H' ⟨rfl,hi,⟨v,rfl⟩,nv,s2,NA,nk,np⟩;have M0:=s2 _ _ (s1 _ _ hst);by_cases Bu:i < ss.length
   ·refine .inr ⟨⟨_,V.str ss[i],by first | exact AM.of M0 | exact AE.of M0,by rw [Yd,XO Bu]; rfl⟩,?_⟩;rintro x H6 ⟨rfl,hx⟩;have My:=hx _ (by first | exact AM.of M0 | exact AE.of M0);rw [Yd,XO Bu] at My;cases My
    have nn:ss[i] ∉ nv.map (·.1):=by
     rw [nk];intro hm;obtain ⟨j,hj,e⟩:=Yq hm;rw [Y7] at hj;rw [Z0] at e;have:=FG ssn (XO (show j < ss.length by lia)) (by rw [XO Bu,e]);lia
    have nl:nv.length=i:=by
     have:=congrArg Zh nk;rw [XJ,Y7] at this;lia
    refine ⟨_,rfl,_,rfl,(by show 2<=sizeLine; lia),fun t ht=>⟨_,Sum.inr ss[i],rfl,Ad ht _ _ NA,by rw [CJ]; lia,_,by lia,rfl,Bu,⟨_,rfl⟩,nv ++ [(ss[i],.ref t)],fun b o z=>?_,by rw [Ab,Dy nn],?_,fun y v hy=>?_⟩⟩
    ·rw [Af (Ah z hRA)];exact Ad ht _ _ (s2 _ _ z)
    ·rw [Yi,nk,Yx,XO Bu]; rfl
    ·have tk:∀ b xs,(upd H6 t (.tup [.int 0,.str ss[i]])) b=some (.tup xs)->(upd (upd H6 t (.tup [.int 0,.str ss[i]])) RA (.dK (Bj (sK nv) (Sum.inr ss[i]:A6) (.ref t)))) b=some (.tup xs):=fun b xs z=>by
      rw [Af (BI z (Ad ht _ _ NA) (by intro z; cases z))]; exact z
     rcases Yt.mp hy with hy | hy
     ·exact (np y v hy).same fun b xs z=>tk b xs (Ad ht _ _ z)
     ·simp only [Yn,Prod.mk.injEq] at hy;obtain ⟨rfl,rfl⟩:=hy;exact ⟨t,rfl,tk _ _ Ab⟩
   ·have e0:i=ss.length:=by lia
    subst e0;rw [Yu] at nk;refine .inl ⟨⟨_,by first | exact AM.of M0 | exact AE.of M0,by rw [XJ]; exact Ya _⟩,fun SA hSA=>?_⟩;have sS:=Ad (o:=.dK []) hSA;have aR:RA ∉ ds/\RA ≠ B/\RA ≠ SA/\H RA=none:=⟨(fun hm=>by obtain ⟨u,e⟩:=nbAt RA hm; rw [hRA] at e; cases e),(fun z=>by rw [z,Vd] at hRA; cases hRA),(fun z=>by rw [<-z,NA] at hSA; cases hSA),s1.free hRA⟩
    have aS:SA ∉ ds/\SA ≠ B/\SA ≠ RA/\H SA=none:=⟨(fun hm=>by obtain ⟨u,e⟩:=nbAt SA hm; rw [s2 _ _ e] at hSA; cases hSA),(fun z=>by rw [z,s2 _ _ Vd] at hSA; cases hSA),(fun z=>aR.2.2.1 z.symm),(s1.trans s2).free hSA⟩
    have s3:Au H1 (upd H' SA (.dK [])):=s2.trans sS;have N0:NI H (upd H' SA (.dK [])) ps ws B RA SA ds nv [] (fun _ _=>False) (fun y p=>y ∈ ss/\p=(0,y)):=by
     refine ⟨s1.trans s3,nb.r.same s3,nbv.of nb.r (fun d _ nv z=>by rcases z with a | ⟨o,a⟩; exact .inl (s3 _ _ a); exact .inr ⟨o,s3 _ _ a⟩),sS _ _ NA,Ab,⟨by rw [nk]; exact ssn,fun y v hy=>⟨(0,y),(np y v hy).same fun b xs z=>sS _ _ z,by rw [<-nk]; exact Yc.mpr ⟨_,hy,rfl⟩,rfl⟩,fun y p hp=>?_⟩,⟨.nil,fun y v hy=>absurd hy Yg,fun y p hp=>hp.elim⟩,fun y hy=>sssub y (by rw [<-nk]; exact hy),fun y hy=>absurd hy Yg⟩;obtain ⟨hy,rfl⟩:=hp;rw [<-nk] at hy;obtain ⟨⟨z,v⟩,a,b⟩:=Yc.mp hy;have b':z=y:=b;subst b';exact ⟨v,a,(np z v a).same fun b xs z=>sS _ _ z⟩
    have D0:Td ws ss (fun _ _=>False) (fun y p=>y ∈ ss/\p=(0,y)):=⟨fun _ _ h=>h.elim,fun y p ⟨h1,h2⟩=>by subst h2; exact ⟨h1,.nil y⟩,fun _ _ _ _ h=>h.elim,fun s hs=>.inr ⟨(0,s),⟨hs,rfl⟩,Dv.refl _⟩⟩
    clear NA M0 np;generalize upd H' SA (.dK [])=H5 at N0 ⊢;refine ⟨fun m σ H2=>∃ nvR nvS S R v5 v6 v7 v8 v9,m=ps.length - nvS.length/\σ=[some (.ref q),some (.ref st),some (.ref B),some (.ref RA),some (.ref SA),v5,v6,v7,v8,v9]/\NI H H2 ps ws B RA SA ds nvR nvS S R/\Td ws ss S R/\∀ y p,R y p->∀ q,¬ S y q,
     ⟨_,nv,[],_,_,_,_,_,_,_,rfl,rfl,N0,D0,fun _ _ _ _ h=>h⟩,?_⟩
    clear N0 D0 hSA sS s3 s2 nk;rintro m σ H2 ⟨nvR,nvS,S,R,v5,v6,v7,v8,v9,rfl,rfl,N,Dj,dis⟩;refine ⟨_,rfl,_,.inr (.inr ⟨_,N.dR,rfl⟩),?_⟩;by_cases hne:nvR=[]
    ·subst hne;refine L3 ?_;have all:∀ x ∈ ps,∃ q,S x q:=Dj.done (fun y p h=>by obtain ⟨v,a,_⟩:=N.pR.2.2 y p h; cases a) ssne ok.con (fun T x hx tx cl=>ok.con (fun z=>T z->T r) (fun h=>h) (fun a b hab h tb=>h (cl b a hab.symm tb)) x hx tx) sssub;refine ⟨_,rfl,k H2 SA nvS N.same aS.2.2.2 N.dS N.pS.1 (fun x=>⟨N.subS x,fun hx=>N.inS.mpr (all x hx)⟩) fun y v hy=>?_⟩;obtain ⟨p,h1,h2⟩:=N.pS.2.1 y v hy;exact ⟨p,h1,Dj.near y p h2⟩
    ·have Xk:(!(sK nvR).isEmpty)=true:=by cases nvR with
      | nil=>exact absurd rfl hne
      | cons=>rfl
     rw [Xk];refine Ms ?_;obtain ⟨NN,hNN⟩:∃ NN:St->Hp->Prop,NN=fun Ay H'=>∃ m',m' < ps.length - nvS.length/\∃ nvR nvS S R v5 v6 v7 v8 v9,m'=ps.length - nvS.length/\Ay=[some (.ref q),some (.ref st),some (.ref B),some (.ref RA),some (.ref SA),v5,v6,v7,v8,v9]/\NI H H' ps ws B RA SA ds nvR nvS S R/\Td ws ss S R/\∀ y p,R y p->∀ q,¬ S y q:=⟨_,rfl⟩
     refine ⟨NN,fun Ay H' z=>by rw [hNN] at z; exact z,?_⟩;have lR:=N.lenR;have lS:=N.lenS;refine ⟨_,rfl,RA,_,rfl,.inl N.dR,fun o H3 fz C hC=>?_⟩;have fz':H3=upd H2 RA (.frz o (.dK (sK nvR))):=by
      rcases fz with ⟨_,e⟩ | ⟨e,_⟩
      ·exact e
      ·rw [N.dR] at e; cases e
     have hR3:=fz.at;have WG:∀ b xs,H2 b=some (.tup xs)->H3 b=some (.tup xs):=fun b xs z=>by
      rw [fz.ne (BI z N.dR (by intro z; cases z))]; exact z
     refine ⟨fun i m Ay H'=>m=nvR.length - i/\i<=nvR.length/\(∃ v,Ay=[v,some (.ref RA)])/\∃ (acc:List V) (ks:List ((Int × Str) × Str)),Au H3 H'/\H' C=some (.lst acc)/\acc.length=i/\ks.length=i/\(∀ (j:Nat) v k,acc[j]? = some v->ks[j]? = some k->TF H' v k)/\(∀ (j:Nat) y v,j < i->nvR[j]? = some (y,v)->∃ p,JR H3 v p/\ks[j]? = some (p,y)),
      ⟨_,rfl,Y9 _,⟨_,rfl⟩,[],[],Ad hC,Ab,rfl,rfl,fun j v k h=>(by simp at h),fun j y v hj=>absurd hj (cc _)⟩,?_⟩
     rintro i m Ay H' ⟨rfl,hi,⟨v,rfl⟩,acc,ks,s4,NA,al,kl,hky,hks⟩;have VM:=s4 _ _ hR3;have nCR:RA ≠ C:=Ah hR3 hC;by_cases Bu:i < nvR.length
     ·refine .inr ⟨⟨VM,by rw [CJ]; exact Bu⟩,?_⟩;rintro z H6 ⟨rfl,key,v2,ek,rfl⟩;obtain ⟨y,ey,rfl⟩:=Ti ek;have hm:=XY ey;obtain ⟨p,hp,hRp⟩:=N.pR.2.1 y v2 hm;have hp3:=hp.same WG;refine ⟨_,rfl,_,rfl,RA,v2,rfl,.inl ⟨_,Sum.inr y,.inr ⟨o,VM⟩,rfl,(C7 N.pR.1 hm).symm⟩,_,rfl,(by show 2<=sizeLine; lia),fun t ht=>?_⟩;have st:=Ad (o:=.tup [v2,.str y]) ht;have hC2:=st _ _ NA;have tC:∀ b xs,(upd H6 t (.tup [v2,.str y])) b=some (.tup xs)->(upd (upd H6 t (.tup [v2,.str y])) C (.lst (acc ++ [.ref t]))) b=some (.tup xs):=fun b xs z=>by
       rw [Af (BI z hC2 (by intro z; cases z))]; exact z
      refine ⟨acc,hC2,by lia,_,by lia,rfl,Bu,⟨_,rfl⟩,acc ++ [.ref t],ks ++ [(p,y)],fun b u z=>?_,Ab,by simp [al],by simp [kl],fun j v k h1 h2=>?_,fun j y' v' hj h=>?_⟩
      ·rw [Af (Ah z hC)];exact st _ _ (s4 _ _ z)
      ·by_cases hj:j < acc.length
       ·rw [Y5 hj] at h1;rw [Y5 (by lia)] at h2;exact (hky j v k h1 h2).same fun b xs z=>tC b xs (st _ _ z)
       ·rw [Y4 (by lia)] at h1;rw [Y4 (by lia)] at h2;have j0:j - acc.length=0:=by
         have:=(Yb.mp h1).1;simp at this;lia
        have j1:j - ks.length=0:=by lia
        rw [j0] at h1;rw [j1] at h2;cases h1
        cases h2
        obtain ⟨t2,e2,g2⟩:=hp3;subst e2;exact ⟨t,t2,rfl,tC _ _ Ab,t2,rfl,tC _ _ (st _ _ (s4 _ _ g2))⟩
      ·by_cases ej:j=i
       ·subst ej;rw [ey] at h;cases h
        exact ⟨p,hp3,by rw [Y4 (by lia),kl,Z2]; rfl⟩
       ·obtain ⟨p',a1,a2⟩:=hks j y' v' (by lia) h;exact ⟨p',a1,by rw [Y5 (by lia)]; exact a2⟩
     ·have e0:i=nvR.length:=by lia
      subst e0;have ksne:ks ≠ []:=by
       intro z;rw [z] at kl;exact hne (YK.mp kl.symm)
      refine .inl ⟨⟨VM,by rw [CJ]; exact Ya _⟩,C,acc,ks,rfl,NA,by lia,ksne,hky,fun v kk hk hKy hmin=>?_⟩;refine ⟨RA,o,sK nvR,VM,fun ob w z=>?_,?_⟩
      ·have z':H RA=some (.frz ob w):=z;rw [aR.2.2.2] at z';cases z'
      obtain ⟨⟨d0,Hv⟩,here⟩:=kk;obtain ⟨t,t2,rfl,ht,t2',e2,IJ⟩:=hKy;cases e2
      have t45:∀ b xs,H' b=some (.tup xs)->(upd H' RA (.dK (sK nvR))) b=some (.tup xs):=fun b xs z=>by
       rw [Af (BI z VM (by intro z; cases z))]; exact z
      have Wi:Au H2 (upd H' RA (.dK (sK nvR))):=fun b u z=>by
       by_cases eb:b=RA
       ·subst eb;rw [N.dR] at z;cases z
        exact Ab
       ·rw [Af eb];refine s4 _ _ ?_;rw [fz.ne eb]; exact z
      have N5:=N.grow Wi;have ht5:=t45 _ _ ht;have V9:=t45 _ _ IJ;have inR:∀ j y p,ks[j]? = some (p,y)->R y p:=fun j y p h=>by
       have hj:j < nvR.length:=by
        have:=(Yb.mp h).1;lia
       obtain ⟨p',a1,a2⟩:=hks j nvR[j].1 nvR[j].2 hj (XO hj);rw [h] at a2;cases a2
       obtain ⟨p'',b1,b2⟩:=N.pR.2.1 _ _ (YT hj);rw [a1.fn (b1.same WG)];exact b2
      have hRh:R here (d0,Hv):=by
       obtain ⟨j,hj,ej⟩:=Yq hk;exact inR j here (d0,Hv) (by rw [XO hj,ej])
      have least:∀ z p,R z p->Dv (d0,Hv) p:=fun z p hz=>by
       obtain ⟨v,a,b⟩:=N.pR.2.2 z p hz;obtain ⟨j,hj,ej⟩:=Yq a;obtain ⟨p',a1,a2⟩:=hks j z v hj (by rw [XO hj,ej]);have:=a1.fn (b.same WG);subst this;exact hmin _ (XY a2)
      have nSh:∀ q,¬ S here q:=dis here _ hRh;have nearH:IH ws ss here (d0,Hv):=Dj.pick pos hRh nSh least;refine ⟨t,_,rfl,AE.of ht5,rfl,_,_,rfl,t2,_,rfl,AE.of V9,rfl,_,_,rfl,_,_,rfl,rfl,_,_,rfl,rfl,?_⟩;generalize upd H' RA (.dK (sK nvR))=H5 at N5 ht5 V9 Wi ⊢;have hin:here ∈ nvR.map (·.1):=N5.inR.mpr ⟨_,hRh⟩;have hps:here ∈ ps:=N5.subR here hin;refine ⟨_,rfl,_,rfl,RA,_,Sum.inr here,rfl,N5.dR,rfl,by rw [G0,decide_eq_true hin],?_⟩;rw [RY];have N6:=N5.setR aR (N5.pR.drop here) (fun y hy=>by
       obtain ⟨e,he,ee⟩:=Yc.mp hy;exact N5.subR y (Yc.mpr ⟨e,(Y3.mp he).1,ee⟩))
      generalize upd H5 RA (.dK (sK (nvR.filter fun q=>decide (q.1 ≠ here))))=H6 at N6 ⊢;have nhS:here ∉ nvS.map (·.1):=fun h=>by
       obtain ⟨q,hq⟩:=N6.inS.mp h;exact nSh q hq
      refine ⟨_,rfl,_,rfl,(by show 2<=sizeLine; lia),fun t3 ht3=>?_⟩;have N7:=N6.grow (Ad (o:=.tup [.int d0,.str Hv]) ht3);have V8:(upd H6 t3 (.tup [.int d0,.str Hv])) t3=some (.tup [.int d0,.str Hv]):=Ab;generalize upd H6 t3 (.tup [.int d0,.str Hv])=H7 at N7 V8 ⊢;refine ⟨_,rfl,_,rfl,SA,_,rfl,ET.k (k:=Sum.inr here) N7.dS (by rw [CJ]; have:=N7.lenS; lia),?_⟩;rw [Dy nhS];have N8:=N7.setS aS (N7.pS.put (Dy nhS) (p:=(d0,Hv)) ⟨t3,rfl,V8⟩) (fun y hy=>by
       rw [Yi] at hy;rcases Yt.mp hy with hy | hy
       ·exact N7.subS y hy
       ·have:y=here:=by simpa using hy
        rw [this]; exact hps)
      generalize upd H7 SA (.dK (sK (nvS ++ [(here,.ref t3)])))=H8 at N8 ⊢;obtain ⟨S',N4⟩:∃ S':Str->Int × Str->Prop,S'=fun z q=>(z=here/\q=(d0,Hv))\/(z ≠ here/\S z q):=⟨_,rfl⟩
      obtain ⟨OE,hnvS⟩:∃ OE:List (Str × V),OE=nvS ++ [(here,.ref t3)]:=⟨_,rfl⟩
      rw [<-N4,<-hnvS] at N8;have nSl:OE.length=nvS.length + 1:=by rw [hnvS]; simp
      have nearS:∀ y q,S' y q->IH ws ss y q:=fun y q h=>by
       rw [N4] at h;rcases h with ⟨rfl,rfl⟩ | ⟨_,h⟩
       ·exact nearH
       ·exact Dj.near y q h
      have hSh:S' here (d0,Hv):=by rw [N4]; exact .inl ⟨rfl,rfl⟩
      have toS:∀ y q,S y q->∃ q',S' y q':=fun y q h=>by
       by_cases e:y=here
       ·rw [e]; exact ⟨_,hSh⟩
       ·exact ⟨q,by rw [N4]; exact .inr ⟨e,h⟩⟩
      obtain ⟨i0,d,Sq,a1,a2,a3,a4,a5⟩:=N8.nr.get ok.nd hps;have dm:=XY a2;refine ⟨_,rfl,_,rfl,B,.ref d,rfl,?_,d,sK Sq,rfl,a4,fun o9 H9 fz9=>?_⟩
      ·have:=BM.k (k:=Sum.inr here) N8.nr.top;rw [a3] at this;exact this
      have N9:=N8.frz aR.1 aS.1 hds a1 a2 fz9 a5;obtain ⟨Pv,hPv⟩:∃ Pv:Nat->St->Hp->Prop,Pv=fun i σ H'=>∃ GP R' v8 v9,σ=[some (.ref q),some (.ref st),some (.ref B),some (.ref RA),some (.ref SA),some (.int d0),some (.str Hv),some (.str here),v8,v9]/\NI H H' ps ws B RA SA ds GP OE S' R'/\H' d=some (.frz o9 (.dK (sK Sq))) /\
        (∀ y p,R' y p->p.2 ∈ ss/\B4 ws p.2 y p.1)/\(∀ s ∈ ss,(∃ q,S' s q)\/∃ q,R' s q/\Dv q (0,s)) /\
        (∀ x q y l,S' x q->Ct ws x y l->(∃ q',S' y q')\/(∃ q',R' y q'/\Dv q' (q.1 + l,q.2))\/(x=here/\∀ (j:Nat) (v:V),j < i->Sq[j]? ≠ some (y,v)))/\(∀ y p,R' y p->∀ q,¬ S' y q):=⟨_,rfl⟩
      refine OV (a:=d) (o:=o9) (kvs:=sK Sq) Pv ?_ (fun i σ H' _ hP=>by rw [hPv] at hP; obtain ⟨_,_,_,_,_,_,z,_⟩:=hP; exact z) (fun i key v σ H' hx hP rt bk=>?_) (fun σ H' hP=>?_)
      ·rw [hPv];refine ⟨_,_,_,_,rfl,N9,fz9.at,fun y p h=>Dj.reach y p h.2,fun s hs=>?_,fun x qq y l hx he=>?_,fun y p h qq hq=>?_⟩
       ·rcases Dj.start s hs with ⟨qq,h⟩ | ⟨qq,h,le⟩
        ·exact .inl (toS s qq h)
        ·by_cases e:s=here
         ·rw [e]; exact .inl ⟨_,hSh⟩
         ·exact .inr ⟨qq,⟨e,h⟩,le⟩
       ·by_cases ex:x=here
        ·exact .inr (.inr ⟨ex,fun j v hj=>absurd hj (cc _)⟩)
        ·rw [N4] at hx;rcases hx with ⟨h,_⟩ | ⟨_,hx⟩
         ·exact absurd h ex
         ·rcases Dj.relax x qq y l hx he with ⟨q',h⟩ | ⟨q',h,le⟩
          ·exact .inl (toS y q' h)
          ·by_cases e:y=here
           ·rw [e]; exact .inl ⟨_,hSh⟩
           ·exact .inr (.inl ⟨q',⟨e,h⟩,le⟩)
       ·rw [N4] at hq;rcases hq with ⟨h2,_⟩ | ⟨_,h2⟩
        ·exact h.1 h2
        ·exact dis y p h.2 qq h2
      ·rw [hPv] at hP;obtain ⟨GP,R',v8,v9,rfl,RG,hf,rch,sta,rel,SK⟩:=hP;obtain ⟨y,e1,rfl⟩:=Ti hx;have hym:=XY e1;obtain ⟨w0,hw0⟩:∃ w0,Bq (sK Sq) (Sum.inr y:A6)=some w0:=by
        have:(Bq (sK Sq) (Sum.inr y:A6)).isSome=true:=by rw [G0,decide_eq_true (Yc.mpr ⟨_,hym,rfl⟩)]
        exact aK.mp this
       obtain ⟨l,rfl,ed⟩:=RG.nbv i0 here d Sq a1 a2 (.inr ⟨o9,hf⟩) y w0 (Jy hw0);have hyp:y ∈ ps:=by
        obtain ⟨u,hu,e⟩:=ed.adj;obtain ⟨q1,q2⟩:=ok.ends u hu;rcases e with ⟨_,e⟩ | ⟨e,_⟩
        ·rw [<-e]; exact q2
        ·rw [<-e]; exact q1
       refine ⟨_,rfl,_,rfl,SA,_,rfl,BM.k (k:=Sum.inr y) RG.dS,_,rfl,?_⟩;rw [G0];have step:∀ {z:Str},(∀ (j:Nat) (v:V),j < i->Sq[j]? ≠ some (z,v))->z ≠ y->∀ (j:Nat) (v:V),j < i + 1->Sq[j]? ≠ some (z,v):=fun h2 hz j v hj e=>by
        by_cases ej:j=i
        ·subst ej;rw [e1] at e;cases e
         exact hz rfl
        ·exact h2 j v (by lia) e
       by_cases hy:y ∈ OE.map (·.1)
       ·rw [decide_eq_true hy];refine L3 ?_;show Pv (i + 1) _ _
        rw [hPv];refine ⟨GP,R',_,_,rfl,RG,hf,rch,sta,fun x qq z l' My he=>?_,SK⟩;rcases rel x qq z l' My he with h | h | ⟨h1,h2⟩
        ·exact .inl h
        ·exact .inr (.inl h)
        ·by_cases ez:z=y
         ·rw [ez]; exact .inl (RG.inS.mp hy)
         ·exact .inr (.inr ⟨h1,step h2 ez⟩)
       ·rw [decide_eq_false hy];refine Ms ?_;have nSy:∀ qq,¬ S' y qq:=fun qq h=>hy (RG.inS.mpr ⟨qq,h⟩)
        have dgT:BM H' B (.str here) (some (.ref d)):=by
         have:=BM.k (k:=Sum.inr here) RG.nr.top;rw [a3] at this;exact this
        refine ⟨_,rfl,_,rfl,_,rfl,B,.ref d,rfl,dgT,_,rfl,d,.int l,rfl,.inl ⟨_,Sum.inr y,.inr ⟨o9,hf⟩,rfl,hw0.symm⟩,_,_,rfl,rfl,_,rfl,(by show 2<=sizeLine; lia),fun t4 ht4=>?_⟩;have s4':=Ad (o:=.tup [.int (d0 + l),.str Hv]) ht4;have Px:=RG.grow s4';have VG:=s4' _ _ hf;have V7:(upd H' t4 (.tup [.int (d0 + l),.str Hv])) t4=some (.tup [.int (d0 + l),.str Hv]):=Ab;generalize upd H' t4 (.tup [.int (d0 + l),.str Hv])=Ta at Px VG V7 ⊢;have cand:JR Ta (.ref t4) (d0 + l,Hv):=⟨t4,rfl,V7⟩
        have candW:Hv ∈ ss/\B4 ws Hv y (d0 + l):=⟨nearH.1.1,nearH.1.2.snoc ed⟩
        have lR':=Px.lenR;have fin:∀ (x:V) (pn:Int × Str),JR Ta x pn->Dv pn (d0 + l,Hv)->(∀ old,R' y old->Dv pn old)->(pn.2 ∈ ss/\B4 ws pn.2 y pn.1) ->
          Pv (i + 1) [some (.ref q),some (.ref st),some (.ref B),some (.ref RA),some (.ref SA),some (.int d0),some (.str Hv),some (.str here),some (.str y),some (.ref t4)] (upd Ta RA (.dK (Bj (sK GP) (Sum.inr y:A6) x))):=by
         intro x pn hx1 hle hold hW;obtain ⟨nv2,p1,p2,p3⟩:=Mg GP y x;rw [p1,hPv];have N12:=Px.setR aR (Px.pR.put p1 hx1) (fun z hz=>by
          rcases (p3 z).mp hz with hz | rfl
          ·exact Px.subR z hz
          ·exact hyp)
         refine ⟨nv2,_,_,_,rfl,N12,?_,fun z p hz=>?_,fun s hs=>?_,fun x' qq z l' My he=>?_,fun z p hz qq hq=>?_⟩
         ·rw [Af (fun z=>aR.1 (by rw [<-z]; exact dm))]; exact VG
         ·rcases hz with ⟨rfl,rfl⟩ | ⟨_,hz⟩
          ·exact hW
          ·exact rch z p hz
         ·rcases sta s hs with h | ⟨qq,h,le⟩
          ·exact .inl h
          ·by_cases e:s=y
           ·subst e;exact .inr ⟨pn,.inl ⟨rfl,rfl⟩,(hold qq h).trans le⟩
           ·exact .inr ⟨qq,.inr ⟨e,h⟩,le⟩
         ·rcases rel x' qq z l' My he with h | ⟨q',h,le⟩ | ⟨h1,h2⟩
          ·exact .inl h
          ·by_cases e:z=y
           ·subst e;exact .inr (.inl ⟨pn,.inl ⟨rfl,rfl⟩,(hold q' h).trans le⟩)
           ·exact .inr (.inl ⟨q',.inr ⟨e,h⟩,le⟩)
          ·by_cases e:z=y
           ·subst e;subst h1;have e2:=uniq _ _ _ _ he ed;subst e2;have e3:=Px.pS.fn My hSh;subst e3;exact .inr (.inl ⟨pn,.inl ⟨rfl,rfl⟩,hle⟩)
           ·exact .inr (.inr ⟨h1,step h2 e⟩)
         ·rcases hz with ⟨rfl,rfl⟩ | ⟨_,hz⟩
          ·exact nSy qq hq
          ·exact SK z p hz qq hq
        have put:∀ {x:V},ET Ta RA (.str y) x (upd Ta RA (.dK (Bj (sK GP) (Sum.inr y:A6) x))):=fun {x}=>ET.k (k:=Sum.inr y) Px.dR (by rw [CJ]; lia)
        obtain ⟨w1,pq,ew,hw1,hold,hWq⟩:∃ w1 pq,(Bq (sK GP) (Sum.inr y:A6)).getD (.ref t4)=w1/\JR Ta w1 pq/\(∀ old,R' y old->Dv pq old)/\(pq.2 ∈ ss/\B4 ws pq.2 y pq.1):=by
         cases hv:Bq (sK GP) (Sum.inr y:A6) with
         | none=>
          refine ⟨_,_,rfl,cand,fun old h=>?_,candW⟩;have h1:y ∈ GP.map (·.1):=Px.inR.mpr ⟨old,h⟩;have h2:(Bq (sK GP) (Sum.inr y:A6)).isSome=true:=by rw [G0,decide_eq_true h1]
          rw [hv] at h2;cases h2
         | some w1=>
          obtain ⟨pq,h1,h2⟩:=Px.pR.2.1 y w1 (Jy hv);exact ⟨w1,pq,rfl,h1,fun old h=>by rw [Px.pR.fn h2 h]; exact Dv.refl _,rch y pq h2⟩
        refine ⟨_,rfl,_,rfl,RA,rfl,.inl ⟨_,.inl Px.dR⟩,_,rfl,_,rfl,_,BM.k (k:=Sum.inr y) Px.dR,_,_,(d0 + l,Hv),pq,rfl,cand,(by rw [ew]; exact hw1),fun le=>⟨_,rfl,_,rfl,RA,_,rfl,put,?_⟩,fun le=>⟨_,rfl,_,rfl,RA,_,rfl,put,?_⟩⟩
        ·rw [ew];exact fin w1 pq hw1 le hold hWq
        ·exact fin (.ref t4) _ cand (Dv.refl _) (fun old h=>le.trans (hold old h)) candW
      ·rw [hPv] at hP;obtain ⟨GP,R',v8,v9,rfl,RG,hf,rch,sta,rel,SK⟩:=hP;show NN _ _
       rw [hNN];refine ⟨_,?_,GP,OE,S',R',_,_,_,_,_,rfl,rfl,RG,⟨nearS,rch,fun x qq y l hx he=>?_,sta⟩,SK⟩
       ·have:=RG.lenS;lia
       ·rcases rel x qq y l hx he with h | h | ⟨rfl,h2⟩
        ·exact .inl h
        ·exact .inr h
        ·exfalso
         obtain ⟨⟨z,v⟩,Pr,e⟩:=Yc.mp ((a5 y).mpr he.adj);have e':z=y:=e;subst e';obtain ⟨j,hj,e2⟩:=Yq Pr;exact h2 j v (by rw [CJ]; exact hj) (by rw [XO hj,e2])
end
section
variable {P:Program} {w:World} {K:XU} {mg:Str->Option Value} {base:Heap}
theorem OB {fN:Addr} {fdN:FuncData} (XN:Fn K mg "nearest" DB ["web","starts"] fN fdN) (GN:A7 P w K mg base B9 2 fN fdN ["web","starts"] (Mb K)) {f:Addr} {fd:FuncData} (F:Ek K "goings" "goings" F8 f fd):A7 P w K mg base B9 3 f fd ["case","opening"] KS:=by
 refine F.ok Jw (fun vs H Q E h=>?_) (fun cdv A outer s H vs Q E hr h=>?_)
 ·obtain ⟨c,o,m,n,xs,ss,ws,rs1,A2,x,d,rfl,_⟩:=h;rfl
 ·obtain ⟨c,o,m,n,xs,ss,ws,rs1,A2,x,d,rfl,cw,ho,⟨sne,snd,ssub⟩,k⟩:=h;have nd:=Jw.nd;have hu:=DH hr;have big:100000 < sizeLine:=by decide
  refine ⟨_,(Ae (DS (pv 0) (QA rfl (Ap (Ai (i:=2) nd rfl (Or.inl rfl)) (Ap (Ai (i:=3) nd rfl (Or.inl rfl)) (Ap (Ai (i:=4) nd rfl (Or.inl rfl)) (Ap (Ai (i:=5) nd rfl (Or.inl rfl)) Bs))))))
  (Ae (Ar (i:=6) nd rfl (Or.inr rfl) (Aj GN (hr.mono (by decide)) (by rfl) XN.mg XN.F.kp XN.b .nil As (Aa (pv 2) (Aa (pv 1) Ac))))
  (Al (A5 (By (N:=["place","many","houses"]) (σ0:=fun σ=>[none,none,some 6].map fun j=>j.bind fun j=>(σ[j]?).join) rfl (A8.caught (by rfl) (by decide +kernel) rfl (by decide +kernel) (by intro y hy; simp only [XX,Yg,or_false] at hy; rcases hy with rfl <;> rfl)
   (by intro y hy e; simp only [XX,Yg,or_false] at hy; rcases hy with rfl | rfl | rfl | rfl <;> first | exact ⟨_,rfl⟩ | cases e)) (fun σ _=>AR.of [none,none,some 6] rfl (by
   intro i j x h1 h2;match i,h1,h2 with
   | 0,_,h2=>cases h2
   | 1,_,h2=>cases h2
   | 2,h1,h2=>cases h1; cases h2; exact ⟨rfl,.inl rfl,.inl rfl⟩
   | n + 3,h1,_=>cases h1)) (Kk (pv 4))
   (fun s2 H C fp=>⟨(Bx K rfl (n:=2) rfl (Ap (Ai (i:=0) (show (["place","many","houses"]:List Str).Nodup by decide +kernel) rfl (Or.inl rfl)) (Ap (Ai (i:=1) (show (["place","many","houses"]:List Str).Nodup by decide +kernel) rfl (Or.inl rfl)) Bs))),AY,(Ba (Aa (pv 0) (Aa (A9 (AO K rfl) (AJ hu (pv 2) (pv 0) (fun _ _=>rfl)) Ag (fun _ _=>rfl)) (Aa (A9 (AO K rfl) (AJ hu (pv 2) (pv 0) (fun _ _=>rfl)) Ag (fun _ _=>rfl)) Ac))))⟩)))))),?_⟩
  obtain ⟨t1,t2,El,LS,hc,Ho,Ik,IJ,hd2⟩:=cw.ex;obtain ⟨r,okw,pos,uni⟩:=cw.map.web cw.n1 cw.n30;refine ⟨_,rfl,c,_,rfl,AE.of hc,rfl,_,_,rfl,_,_,rfl,_,_,rfl,_,_,rfl,rfl,?_⟩;refine ⟨_,rfl,_,rfl,m,o,xs,ss,ws,r,rfl,okw,pos,uni,.inr ho,sne,snd,ssub,fun H1 B nv s1 fB hB knd kif kn=>?_⟩;have ul:=B6 hd2;have l2:=cw.l2;have Xn:Bd H1 LS (A2.map Gf):=BW hd2 fun b ys z=>s1 _ _ z
  refine ⟨_,rfl,t2,rfl,⟨_,AE.of (s1 _ _ IJ)⟩,?_⟩;refine Bt B7 (xs:=LS) (fun D i σ H' acc=>∃ (v0 v1:Option V) (gs:List AF),σ=[v0,v1,some (.ref B)]/\Au H1 H'/\H' D=some (.lst acc)/\Bd H' acc (gs.map JV)/\acc.length=i/\gs.length=i/\∀ (j:Nat) r g,A2[j]? = some r->gs[j]? = some g->g.1=r.1/\IH ws ss r.1 (g.2.2,g.2.1))
   (by lia) (fun D hD=>⟨_,_,[],rfl,Ad hD,Ab,.nil,rfl,rfl,fun j r g _ e=>by simp at e⟩)
   (fun D i σ H' acc hD ⟨v0,v1,gs,_,sa,AS,_,al,_⟩=>⟨AE.of (sa _ _ (s1 _ _ IJ)),AS,al⟩) ?_ ?_
  ·rintro D i σ H' acc x' Bk hD ex ⟨v0,v1,gs,rfl,sa,AS,dd,al,gl,gok⟩ hBk;obtain ⟨u,t,eu,rfl,ht⟩:=Dk Xn ex;have ux:u.1 ∈ xs:=cw.ok2.sub u (XY eu);obtain ⟨⟨y,v⟩,hm,rfl⟩:=Yc.mp ((kif u.1).mpr ux);obtain ⟨p,⟨tp,rfl,htp⟩,near⟩:=kn _ _ hm;have VS:=sa _ _ hB;have V5:=sa _ _ htp;have dg:BM H' B (.str u.1) (some (.ref tp)):=.inl ⟨_,Sum.inr u.1,.inl VS,rfl,(C7 knd hm).symm⟩;refine ⟨t,_,rfl,AE.of (sa _ _ ht),rfl,_,_,rfl,_,_,rfl,rfl,?_⟩;refine ⟨_,rfl,_,rfl,_,rfl,B,.ref tp,rfl,dg,tp,_,1,.str p.2,rfl,rfl,AE.of V5,C9 (j:=1) rfl,_,rfl,_,rfl,B,.ref tp,rfl,dg,tp,_,0,.int p.1,rfl,rfl,AE.of V5,C9 (j:=0) rfl,(by show 3<=sizeLine; lia),fun T hT=>?_⟩;have sT:=Ad (o:=.tup [.str u.1,.str p.2,.int p.1]) hT;have nT:T ≠ D:=by intro z; subst z; rw [AS] at hT; cases hT
   refine hBk _ _ _ (sT _ _ AS) ⟨_,_,gs ++ [(u.1,p.2,p.1)],rfl,fun b o' z=>by rw [Af (Ah z hD)]; exact sT _ _ (sa _ _ z),Ab,?_,by rw [XZ,al]; rfl,by rw [XZ,gl]; rfl,fun j r' g er eg=>?_⟩
   ·rw [Yi];refine FP (En dd fun b ys z=>?_) (.cons (.tup (vs:=[.str u.1,.str p.2,.int p.1]) (by rw [Af nT]; exact Ab) (.cons (.str _) (.cons (.str _) (.cons (.int _) .nil)))) .nil);rw [Af (BI z AS (fun y=>by cases y))];exact sT _ _ z
   ·by_cases hj:j < gs.length
    ·rw [Y5 hj] at eg;exact gok j r' g er eg
    ·have Xm:=(Yb.mp eg).1;rw [XZ,YD] at Xm;have hji:j=i:=by lia
     subst hji;rw [Y4 (by lia),gl,Z2,YO] at eg;cases eg
     rw [eu] at er;cases er
     exact ⟨rfl,near⟩
  ·rintro D σ H' acc hD ⟨v0,v1,gs,rfl,sa,AS,dd,al,gl,gok⟩;have fD:H D=none:=by
    cases z:H D with
    | none=>rfl
    | some o'=>rw [s1 _ _ z] at hD; cases hD
   exact k H' D acc gs (s1.trans sa) fD AS dd ⟨by rw [gl,ul],gok⟩
theorem HS (h_dict:mg "dict"=none) (h_sum:mg "sum"=none) {f:Addr} {fd:FuncData} (F:Ek K "houses_cost" "houses_cost" C6 f fd):A7 P w K mg base B9 2 f fd ["case","opening"] F2:=by
 refine F.ok Et (fun vs H Q E h=>?_) (fun cdv A outer s H vs Q E hr h=>?_)
 ·obtain ⟨c,o,m,n,xs,ss,ws,rs1,A2,x,d,rfl,_⟩:=h;rfl
 ·obtain ⟨c,o,m,n,xs,ss,ws,rs1,A2,x,d,rfl,cw,ho,⟨sne,snd,ssub⟩,k⟩:=h;have nd:=Et.nd;have hu:=DH hr;have big:100000 < sizeLine:=by decide
  refine ⟨_,(Ae (Ar (i:=2) nd rfl (Or.inr rfl) (A0 (BQ rfl) (by rfl) h_dict PyProof.Rows.boot_dict (Aa (A9 Kx (pv 0) Ag (fun _ _=>rfl)) Ac)))
  (Al (A5 (Ak (C8 rfl) (by rfl) h_sum PyProof.Rows.boot_sum (Aa (By (N:=["house","costs"]) (σ0:=fun σ=>[none,some 2].map fun j=>j.bind fun j=>(σ[j]?).join) rfl (A8.caught (by rfl) (by decide +kernel) rfl (by decide +kernel) (by intro y hy; simp only [XX,Yg,or_false] at hy; rcases hy with rfl <;> rfl)
   (by intro y hy e; simp only [XX,Yg,or_false] at hy; rcases hy with rfl | rfl | rfl <;> first | exact ⟨_,rfl⟩ | cases e)) (fun σ _=>AR.of [none,some 2] rfl (by
   intro i j x h1 h2;match i,h1,h2 with
   | 0,_,h2=>cases h2
   | 1,h1,h2=>cases h1; cases h2; exact ⟨rfl,.inl rfl,.inl rfl⟩
   | n + 2,h1,_=>cases h1)) (Kk (pv 1))
   (fun s2 H C fp=>⟨(Ai (i:=0) (show (["house","costs"]:List Str).Nodup by decide +kernel) rfl (Or.inl rfl)),AY,(AJ hu (pv 1) (pv 0) (fun _ _=>rfl))⟩)) Ac))))),?_⟩
  obtain ⟨t1,t2,El,LS,hc,Ho,Ik,IJ,hd2⟩:=cw.ex;have ul:=B6 Ik;have l1:=cw.l1;have sl:ss.length<=rs1.length:=by
   have:=List.Nodup.length_le_of_subset snd (fun s hs=>ssub s hs);rw [XJ] at this;exact this
  refine ⟨_,rfl,c,_,_,_,rfl,rfl,AE.of hc,rfl,t1,El,BD rs1,rfl,Ho,by unfold BD; rw [XJ]; exact ul,Hi Ik,by rw [Cz]; exact cw.ok1.nd,by unfold BD; rw [XJ]; lia,fun B hB=>?_⟩;have s1:=Ad (o:=.dK (sK (BD rs1))) hB;have M4:(upd H B (.dK (sK (BD rs1)))) B=some (.dK (sK (BD rs1))):=Ab;generalize upd H B (.dK (sK (BD rs1)))=H1 at s1 M4;refine ⟨_,rfl,o,rfl,⟨_,AE.of (s1 _ _ ho)⟩,?_⟩;refine Bt B7 (xs:=ss.map V.str) (fun D i σ H' acc=>∃ v0:Option V,σ=[v0,some (.ref B)]/\Au H1 H'/\H' D=some (.lst acc)/\acc=((ss.take i).map (Bc rs1)).map V.int/\acc.length=i)
   (by rw [XJ]; lia) (fun D hD=>⟨_,rfl,Ad hD,Ab,rfl,rfl⟩)
   (fun D i σ H' acc hD ⟨v0,_,sa,AS,_,al⟩=>⟨AE.of (sa _ _ (s1 _ _ ho)),AS,al⟩) ?_ ?_
  ·rintro D i σ H' acc x' Bk hD ex ⟨v0,rfl,sa,AS,ea,al⟩ hBk;obtain ⟨y,ey,rfl⟩:∃ y,ss[i]? = some y/\x'=.str y:=by
    rw [Yd] at ex;cases z:ss[i]? with
    | none=>rw [z] at ex; cases ex
    | some y=>rw [z] at ex; exact ⟨y,rfl,(Yo.inj ex).symm⟩
   refine ⟨_,rfl,_,rfl,B,_,rfl,Lb (sa _ _ M4) cw.ok1.nd (ssub y (XY ey)),?_⟩;refine hBk _ _ _ AS ⟨_,rfl,fun b o' z=>by rw [Af (Ah z hD)]; exact sa _ _ z,Ab,?_,by rw [XZ,al]; rfl⟩;rw [ea,Yx,ey,Yi,Yi];rfl
  ·rintro D σ H' acc hD ⟨v0,rfl,sa,AS,ea,al⟩;rw [XJ,Yu] at ea;exact ⟨D,ss.map (Bc rs1),rfl,AM.of (by rw [AS,ea]),k H' (s1.trans sa)⟩
theorem Kq (h_dict:mg "dict"=none) (h_sum:mg "sum"=none) {fG:Addr} {fdG:FuncData} (XG:Fn K mg "goings" F8 ["case","opening"] fG fdG) (GG:A7 P w K mg base B9 3 fG fdG ["case","opening"] KS) {f:Addr} {fd:FuncData} (F:Ek K "ways_cost" "ways_cost" Dq f fd):A7 P w K mg base B9 4 f fd ["case","opening"] Hw:=by
 refine F.ok F3 (fun vs H Q E h=>?_) (fun cdv A outer s H vs Q E hr h=>?_)
 ·obtain ⟨c,o,m,n,xs,ss,ws,rs1,A2,x,d,rfl,_⟩:=h;rfl
 ·obtain ⟨c,o,m,n,xs,ss,ws,rs1,A2,x,d,rfl,cw,ho,op,bd,k⟩:=h;have nd:=F3.nd;have hu:=DH hr;have big:100000 < sizeLine:=by decide
  refine ⟨_,(Ae (Ar (i:=2) nd rfl (Or.inr rfl) (A0 (BQ rfl) (by rfl) h_dict PyProof.Rows.boot_dict (Aa (A9 Kx (pv 0) Ag (fun _ _=>rfl)) Ac)))
  (Al (A5 (Ak (C8 rfl) (by rfl) h_sum PyProof.Rows.boot_sum (Aa (By (N:=["place","house","length","manys"]) (σ0:=fun σ=>[none,none,none,some 2].map fun j=>j.bind fun j=>(σ[j]?).join) rfl (A8.caught (by rfl) (by decide +kernel) rfl (by decide +kernel) (by intro y hy; simp only [XX,Yg,or_false] at hy; rcases hy with rfl <;> rfl)
   (by intro y hy e; simp only [XX,Yg,or_false] at hy; rcases hy with rfl | rfl | rfl | rfl | rfl <;> first | exact ⟨_,rfl⟩ | cases e)) (fun σ _=>AR.of [none,none,none,some 2] rfl (by
   intro i j x h1 h2;match i,h1,h2 with
   | 0,_,h2=>cases h2
   | 1,_,h2=>cases h2
   | 2,_,h2=>cases h2
   | 3,h1,h2=>cases h1; cases h2; exact ⟨rfl,.inl rfl,.inl rfl⟩
   | n + 4,h1,_=>cases h1)) (Hl (Aj GG (hr.mono (by decide)) (by rfl) XG.mg XG.F.kp XG.b .nil As (Aa (pv 0) (Aa (pv 1) Ac))))
   (fun s2 H C fp=>⟨(Bx K rfl (n:=3) rfl (Ap (Ai (i:=0) (show (["place","house","length","manys"]:List Str).Nodup by decide +kernel) rfl (Or.inl rfl)) (Ap (Ai (i:=1) (show (["place","house","length","manys"]:List Str).Nodup by decide +kernel) rfl (Or.inl rfl)) (Ap (Ai (i:=2) (show (["place","house","length","manys"]:List Str).Nodup by decide +kernel) rfl (Or.inl rfl)) Bs)))),AY,(Av Ng (AJ hu (pv 3) (pv 0) (fun _ _=>rfl)) (pv 2))⟩)) Ac))))),?_⟩
  obtain ⟨t1,t2,El,LS,hc,Ho,Ik,IJ,hd2⟩:=cw.ex;have ul:=B6 hd2;have l2:=cw.l2;refine ⟨_,rfl,c,_,_,_,rfl,rfl,AE.of hc,rfl,t2,LS,BD A2,rfl,IJ,by unfold BD; rw [XJ]; exact ul,Hi hd2,by rw [Cz]; exact cw.ok2.nd,by unfold BD; rw [XJ]; lia,fun B hB=>?_⟩;have s1:=Ad (o:=.dK (sK (BD A2))) hB;have M4:(upd H B (.dK (sK (BD A2)))) B=some (.dK (sK (BD A2))):=Ab;generalize upd H B (.dK (sK (BD A2)))=H1 at s1 M4;refine ⟨_,rfl,_,rfl,c,o,m,n,xs,ss,ws,rs1,A2,x,d,rfl,cw.same s1,s1 _ _ ho,op,fun H2 G us gs s2 fG hG dG go=>?_⟩;have gl:=go.1;have usl:us.length=gs.length:=KD dG;refine ⟨G,rfl,⟨_,AM.of hG⟩,?_⟩;refine Bt C0 (xs:=us) (fun D i σ H' acc=>∃ v0 v1 v2:Option V,σ=[v0,v1,v2,some (.ref B)]/\Au H2 H'/\H' D=some (.lst acc)/\acc=((gs.take i).map fun g=>Bc A2 g.1 * g.2.2).map V.int/\acc.length=i)
   (by lia) (fun D hD=>⟨_,_,_,rfl,Ad hD,Ab,rfl,rfl⟩)
   (fun D i σ H' acc hD ⟨v0,v1,v2,_,sa,AS,_,al⟩=>⟨AM.of (sa _ _ hG),AS,al⟩) ?_ ?_
  ·rintro D i σ H' acc x' Bk hD ex ⟨v0,v1,v2,rfl,sa,AS,ea,al⟩ hBk;obtain ⟨g,t,eg,rfl,ht⟩:=Iz dG ex;have hi:i < gs.length:=(Yb.mp eg).1;have er:A2[i]? = some (A2[i]'(by lia)):=XO _;have gm:=XY eg;have e1:=(go.2 i _ _ er eg).1;have rm:=XY er;have gp:g.1 ∈ A2.map (·.1):=by rw [e1]; exact Yc.mpr ⟨_,rm,rfl⟩
   have cb:1<=Bc A2 g.1/\Bc A2 g.1 < 10 ^ 30:=by rw [e1,Dl cw.ok2.nd rm]; exact cw.ok2.lo _ rm
   refine ⟨t,_,rfl,AE.of (sa _ _ ht),rfl,_,_,rfl,_,_,rfl,_,_,rfl,rfl,?_⟩;refine ⟨_,rfl,_,rfl,B,_,rfl,Lb (sa _ _ (s2 _ _ M4)) cw.ok2.nd gp,_,rfl,_,_,rfl,rfl,⟨⟨by lia,by lia⟩,bd gs go g gm⟩,?_⟩;refine hBk _ _ _ AS ⟨_,_,_,rfl,fun b o' z=>by rw [Af (Ah z hD)]; exact sa _ _ z,Ab,?_,by rw [XZ,al]; rfl⟩;rw [ea,Yx,eg,Yi,Yi];rfl
  ·rintro D σ H' acc hD ⟨v0,v1,v2,rfl,sa,AS,ea,al⟩;rw [usl,Yu] at ea;exact ⟨D,_,rfl,AM.of (by rw [AS,ea]),k H' gs ((s1.trans s2).trans sa) go⟩
theorem Sn {fH fW:Addr} {fdH fdW:FuncData} (XH:Fn K mg "houses_cost" C6 ["case","opening"] fH fdH) (GH:A7 P w K mg base B9 2 fH fdH ["case","opening"] F2) (XW:Fn K mg "ways_cost" Dq ["case","opening"] fW fdW) (GW:A7 P w K mg base B9 4 fW fdW ["case","opening"] Hw) {f:Addr} {fd:FuncData} (F:Ek K "cost" "cost" Kc f fd):A7 P w K mg base B9 5 f fd ["case","opening"] Qj:=by
 refine F.ok MW (fun vs H Q E h=>?_) (fun cdv A outer s H vs Q E hr h=>?_)
 ·obtain ⟨c,o,m,n,xs,ss,ws,rs1,A2,x,d,rfl,_⟩:=h;rfl
 ·obtain ⟨c,o,m,n,xs,ss,ws,rs1,A2,x,d,rfl,cw,ho,op,op1,bd,k⟩:=h;have nd:=MW.nd;have big:100000 < sizeLine:=by decide
  refine ⟨_,(Al (A5 (Av Bh (Aj GH (hr.mono (by decide)) (by rfl) XH.mg XH.F.kp XH.b .nil As (Aa (pv 0) (Aa (pv 1) Ac))) (Aj GW (hr.mono (by decide)) (by rfl) XW.mg XW.F.kp XW.b .nil As (Aa (pv 0) (Aa (pv 1) Ac)))))),?_⟩;refine ⟨_,rfl,_,rfl,c,o,m,n,xs,ss,ws,rs1,A2,x,d,rfl,cw,ho,op1,fun H1 s1=>?_⟩;refine ⟨_,rfl,_,rfl,c,o,m,n,xs,ss,ws,rs1,A2,x,d,rfl,cw.same s1,s1 _ _ ho,op,bd,fun H2 gs s2 go=>⟨_,_,rfl,rfl,k H2 gs (s1.trans s2) go⟩⟩
end
section
variable {P:Program} {w:World} {K:XU} {mg:Str->Option Value} {base:Heap}
structure NeF (K:XU) (mg:Str->Option Value) (fN:Addr) (fdN:FuncData) (f:Addr) (fd:FuncData):Prop where
 N:NbF K mg fN fdN
 mi:mg "min"=none
 F:Ek K "nearest" "nearest" DB f fd
 mg:mg "nearest"=some (.ref f)
 b:GI K fd ["web","starts"] []
theorem Nj {f fN fE:Addr} {fd fdN fdE:FuncData} (EK:NeF K mg fN fdN fE fdE) (F:Ek K "fars" "fars" Kb f fd):A7 P w K mg base B9 3 f fd ["web","place"] (Qi K):=by
 have GE:A7 P w K mg base B9 2 fE fdE ["web","starts"] (Mb K):=HR EK.N EK.mi EK.F;refine F.ok MV (fun vs H Q E h=>?_) (fun cdv A outer s H vs Q E hr h=>?_)
 ·obtain ⟨q,ps,ws,r,x,rfl,_⟩:=h;rfl
 ·obtain ⟨q,ps,ws,r,x,rfl,ok,pos,uniq,hx,k⟩:=h;have hu:=DH hr;have nd:=MV.nd;have big:1000 < sizeLine:=by decide
  have l30:=ok.l30;refine ⟨_,Ae (Ar (i:=2) nd rfl (Or.inr rfl) (Aj GE hr (by rfl) EK.mg EK.F.kp EK.b .nil As (Aa (pv 0) (Aa (BF (Aa (pv 1) Ac)) Ac))))
   (Al (A5 (HJ (N:=["name","told"]) (σ0:=fun σ=>[none,some 2].map fun j=>j.bind fun j=>(σ[j]?).join) rfl
      (A8.caught (by rfl) (by decide +kernel) rfl (by decide +kernel) (by intro y hy; simp only [XX,Yg,or_false] at hy; rcases hy with rfl <;> rfl)
       (by intro y hy e; simp only [XX,Yg,or_false] at hy; rcases hy with rfl | rfl | rfl <;> first | exact ⟨_,rfl⟩ | cases e))
      (fun σ _=>AR.of [none,some 2] rfl (by
       intro i j x h1 h2;match i,h1,h2 with
       | 0,_,h2=>cases h2
       | 1,h1,h2=>cases h1; cases h2; exact ⟨rfl,.inl rfl,.inl rfl⟩
       | n + 2,h1,_=>cases h1)) (BO K rfl (A9 (AO K rfl) (pv 0) Ag (fun _ _=>rfl)))
      (fun s2 H C fp=>⟨Ai (i:=0) (show (["name","told"]:List Str).Nodup by decide +kernel) rfl (Or.inl rfl),AY,pv 0,A9 (AO K rfl) (AJ hu (pv 1) (pv 0) (fun _ _=>rfl)) Ag (fun _ _=>rfl)⟩)))),?_⟩
  refine ⟨_,rfl,_,rfl,(by show 1<=sizeLine; lia),fun st hst=>?_⟩;have s0:=Ad (o:=.lst [.str x]) hst;refine ⟨q,st,ps,[x],ws,r,rfl,ok.same s0,pos,uniq,.inl Ab,by simp,YC.mpr ⟨by simp,.nil⟩,by simpa using hx,fun H1 B nv s1 hB Vd nn nk nr=>?_⟩;have Vo:=s0.trans s1;obtain ⟨tp,tw,us,hq,htp,htw,hD⟩:=ok.web.ex;refine ⟨_,rfl,q,_,0,.ref tp,rfl,rfl,AE.of (Vo _ _ hq),C9 (j:=0) rfl,tp,rfl,⟨_,AE.of (Vo _ _ htp)⟩,fun C hC=>?_⟩;refine ⟨fun i m Ay H2=>m=ps.length - i/\i<=ps.length/\(∃ v,Ay=[v,some (.ref B)])/\∃ nc:List (Str × V),H2=upd H1 C (.dK (sK nc))/\nc.map (·.1)=ps.take i/\∀ y v,(y,v) ∈ nc->∃ n,v=.int n/\Vg ws x y n,⟨_,rfl,Y9 _,⟨_,rfl⟩,[],rfl,rfl,fun y v hy=>absurd hy Yg⟩,?_⟩;rintro i m Ay H2 ⟨rfl,hi,⟨v,rfl⟩,nc,rfl,ncK,ncV⟩;have sC:=Ad (o:=.dK (sK nc)) hC;have Mz:=sC _ _ (Vo _ _ htp);by_cases Bu:i < ps.length
  ·refine .inr ⟨⟨_,V.str ps[i],AE.of Mz,by rw [Yd,XO Bu]; rfl⟩,?_⟩;rintro z H6 ⟨rfl,hz⟩;have Tx:=hz _ (AE.of Mz);rw [Yd,XO Bu] at Tx;cases Tx
   obtain ⟨⟨y,v2⟩,hm,e⟩:=Yc.mp ((nk ps[i]).mpr (YT Bu));have e':y=ps[i]:=e;subst e';obtain ⟨p,⟨t,e2,ht⟩,hnr⟩:=nr ps[i] v2 hm;subst e2;have VS:=sC _ _ Vd;have IJ:=sC _ _ ht;have nn':ps[i] ∉ nc.map (·.1):=by
    rw [ncK];intro Pr;obtain ⟨j,hj,e⟩:=Yq Pr;rw [Y7] at hj;rw [Z0] at e;have:=FG ok.nd (XO (show j < ps.length by lia)) (by rw [XO Bu,e]);lia
   have ncl:nc.length=i:=by
    have:=congrArg Zh ncK;rw [XJ,Y7] at this;lia
   refine ⟨_,rfl,_,rfl,_,rfl,B,.ref t,rfl,.inl ⟨_,Sum.inr ps[i],.inl VS,rfl,(C7 nn hm).symm⟩,t,_,0,.int p.1,rfl,rfl,AE.of IJ,C9 (j:=0) rfl,_,Sum.inr ps[i],rfl,Ab,by rw [CJ]; lia,_,by lia,rfl,Bu,⟨_,rfl⟩,nc ++ [(ps[i],.int p.1)],by rw [JX,Dy nn'],?_,fun y v hy=>?_⟩
   ·rw [Yi,ncK,Yx,XO Bu]; rfl
   ·rcases Yt.mp hy with hy | hy
    ·exact ncV y v hy
    ·simp only [Yn,Prod.mk.injEq] at hy;obtain ⟨rfl,rfl⟩:=hy;exact ⟨p.1,rfl,hnr.dst.2⟩
  ·have e0:i=ps.length:=by lia
   subst e0;rw [Yu] at ncK;exact .inl ⟨⟨_,AE.of Mz,by rw [XJ]; exact Ya _⟩,k _ C nc (Vo.trans sC) (Vo.free hC) Ab ncK ncV⟩
end
structure TxtN (K:XU) (mg:Str->Option Value):Prop where
 len:mg "len"=none
 isin:mg "isinstance"=none
 str:mg "str"=none
 all:mg "all"=none
 most:∃ t,mg "MOST_LETTERS"=some (.int 6 t)
section
variable {P:Program} {w:World} {K:XU} {mg:Str->Option Value} {base:Heap}
theorem Ni {f:Addr} {fd:FuncData} (T:TxtN K mg) (F:Ek K "is_name" "is_name" EF f fd):A7 P w K mg base B9 1 f fd ["thing"] (Qd K):=by
 refine F.ok Mf (fun vs H Q E h=>?_) (fun cdv A outer s H vs Q E hr h=>?_)
 ·obtain ⟨x,rfl,_⟩:=h;rfl
 ·obtain ⟨x,rfl,h⟩:=h;obtain ⟨tk,hmost⟩:=T.most;refine ⟨_,Ae (Dd (Lf (HE (Kg (Ak GA (by rfl) T.isin PyProof.Rows.boot_isinstance (Aa (pv 0) (Aa (Nf (v:=.ty "str") (by rfl) T.str PyProof.Rows.boot_str rfl) Ac)))))
    (HC (HE (HG Lk Lk Ag (Ak FU (by rfl) T.len PySem.boot_len (Aa (pv 0) Ac)) (Sh (v:=.int 6) (by rfl) hmost ⟨_,rfl⟩))))).pt
    (Al (A5 J1)) Bw)
   (Al (A5 (Ak (Dx rfl) (by rfl) T.all PyProof.Rows.boot_all (Aa
    (By (N:=["letter"]) (σ0:=fun _=>[none]) rfl (A8.plain (by decide +kernel) (by decide +kernel) rfl (by decide +kernel)) (fun σ _=>AR.none _ _ _ ["letter"] σ) (Uo (pv 0))
     (fun s2 H C fp=>⟨Ai (i:=0) (show (["letter"]:List Str).Nodup by decide +kernel) rfl (Or.inl rfl),AY,QF J5 J5 Cc (pv 0) Cc⟩)) Ac)))),?_⟩
  rcases h with ⟨t,rfl,ht,k⟩ | ⟨⟨ty,h1,h2⟩,k⟩
  ·refine ⟨_,rfl,_,"str",_,_,rfl,EB.str t,rfl,_,rfl,?_⟩;refine L3 ?_;refine ⟨_,rfl,t,rfl,Yv ht (by decide),_,_,rfl,rfl,_,rfl,?_⟩;have last:∀ (h1:1<=t.length) (h2:t.length<=6),MP (iStr (RP 0)) (JF 0) KI (Ma (fun x y H Q=>∃ i j,x=.str i/\y=.str j/\Q (.bl (!(decide (j.cps.toList < i.cps.toList)))) H) (fun x y H Q=>∃ i j,x=.str i/\y=.str j/\Q (.bl (!(decide (j.cps.toList < i.cps.toList)))) H) (tC (.str "a")) (RP 0) (tC (.str "z"))) (fun _=>[none]) [some (V.str t)] H
     (fun x H1=>∃ (p:Addr) (bs:List Bool),[x]=[V.ref p]/\AM K H1 p (bs.map V.bl)/\Q (.bl (bs.all id)) H1):=by
    intro h1 h2;refine ⟨_,rfl,t,rfl,fun D hD=>⟨fun i m Ay H'=>m=t.cps.size - i/\i<=t.cps.size/\(∃ v,Ay=[v])/\H'=upd H D (.lst ((t.cps.toList.take i).map fun c=>V.bl (FI c))),⟨_,rfl,Y9 _,⟨_,rfl⟩,rfl⟩,?_⟩⟩;rintro i m Ay H' ⟨rfl,hi,⟨v,rfl⟩,rfl⟩;by_cases Bu:i < t.cps.size
    ·refine .inr ⟨Bu,?_⟩;rintro x H2 ⟨rfl,c,hc,rfl⟩;have Hq:t.cps.toList[i]? = some c:=by simpa using hc
     have step:∀ b,b=FI c->∃ acc,(upd H D (.lst ((t.cps.toList.take i).map fun c=>V.bl (FI c)))) D=some (.lst acc)/\acc.length < sizeLine/\∃ m',m' < t.cps.size - i/\(m'=t.cps.size - (i + 1)/\i + 1<=t.cps.size/\(∃ v,[some (V.str ⟨#[c]⟩)]=[v]) /\
       upd (upd H D (.lst ((t.cps.toList.take i).map fun c=>V.bl (FI c)))) D (.lst (acc ++ [V.bl b]))=upd H D (.lst ((t.cps.toList.take (i + 1)).map fun c=>V.bl (FI c)))):=by
      rintro b rfl;refine ⟨_,Ab,?_,_,?_,rfl,Bu,⟨_,rfl⟩,?_⟩
      ·rw [XJ,Y7];have:t.length=t.cps.size:=rfl;have:1000 < sizeLine:=by decide
       lia
      ·lia
      ·rw [JX,IQ _ _ _ _ Hq]
     refine ⟨_,rfl,_,_,rfl,rfl,_,rfl,?_⟩;rw [leA];refine Bz (fun ha=>?_) (fun ha=>?_)
     ·refine ⟨_,_,rfl,rfl,?_⟩;rw [leZ];exact step _ (by unfold FI; rw [ha]; rfl)
     ·exact step _ (by unfold FI; rw [Bool.not_eq_true] at ha; rw [ha]; rfl)
    ·have e:i=t.cps.size:=by lia
     subst e;refine .inl ⟨Ya _,D,t.cps.toList.map FI,rfl,.inl (.inl ?_),?_⟩
     ·rw [Ab,ZO (by simp),Y2];rfl
     ·have e2:(t.cps.toList.map FI).all id=AV t:=by
       unfold AV;rw [ar,decide_eq_true h1,decide_eq_true h2];rfl
      rw [e2];exact k _ (Ad hD)
   refine Bz (fun h1=>?_) (fun h1=>?_)
   ·refine ⟨_,_,rfl,rfl,_,rfl,?_⟩;rw [decide_eq_true_eq] at h1;refine Bz (fun h2=>?_) (fun h2=>?_)
    ·have e:AV t=false:=by
      unfold AV;have:¬ t.length<=6:=by
       intro z;rw [decide_eq_true (show ((t.length:Nat):Int)<=6 by lia)] at h2;cases h2
      rw [decide_eq_false this,Bool.and_false,ZX]
     rw [<-e];exact k _ (Au.refl _)
    ·refine last (by lia) ?_;by_cases z:t.length<=6
     ·exact z
     ·rw [decide_eq_false (show ¬ ((t.length:Nat):Int)<=6 by lia)] at h2;exact absurd rfl h2
   ·refine ⟨_,rfl,?_⟩;refine Ms ?_;have e:AV t=false:=by
     unfold AV;rw [decide_eq_true_eq] at h1;rw [decide_eq_false (show ¬ 1<=t.length by lia),ZX,ZX]
    show Q (.bl false) H
    rw [<-e];exact k _ (Au.refl _)
  ·refine ⟨_,rfl,_,"str",_,_,rfl,h1,h2,_,rfl,?_⟩;exact k
end
section
variable {P:Program} {w:World} {K:XU} {mg:Str->Option Value} {base:Heap}
theorem Fe (h_all:mg "all"=none) (h_list:mg "list"=none) (h_sorted:mg "sorted"=none) (h_set:mg "set"=none) {fN:Addr} {fdN:FuncData} (XN:Fn K mg "is_name" EF ["thing"] fN fdN) (GN:A7 P w K mg base B9 1 fN fdN ["thing"] (Qd K)) {f:Addr} {fd:FuncData} (F:Ek K "are_rising" "are_rising" CQ f fd):A7 P w K mg base B9 2 f fd ["things"] (KQ K):=by
 refine F.ok Fb (fun vs H Q E h=>?_) (fun cdv A outer s H vs Q E hr h=>?_)
 ·obtain ⟨t,xs,ds,rfl,_⟩:=h;rfl
 ·obtain ⟨t,xs,ds,rfl,ht,dx,short,few,k⟩:=h;have nd:=Fb.nd;have IX:=hr.units;have big:100000 < sizeLine:=by decide
  refine ⟨_,(Al (A5 (QH (Ak (Dx rfl) (by rfl) h_all PyProof.Rows.boot_all (Aa (By (N:=["thing"]) (σ0:=fun _=>[none]) rfl (A8.plain (by decide +kernel) (by decide +kernel) rfl (by decide +kernel)) (fun σ _=>AR.none _ _ _ ["thing"] σ) (Up (pv 0))
   (fun s2 H C fp=>⟨Ai (i:=0) (show (["thing"]:List Str).Nodup by decide +kernel) rfl (Or.inl rfl),AY,(Aj GN (hr.mono (by decide)) (by rfl) XN.mg XN.F.kp XN.b .nil As (Aa (pv 0) Ac))⟩)) Ac))
   (QD (EJ (O9 IX) (A0 FT (by rfl) h_list PyProof.Rows.boot_list (Aa (pv 0) Ac)) (Ak (GV rfl) (by rfl) h_sorted PyProof.Rows.boot_sorted (Aa (A0 (LK K rfl rfl) (by rfl) h_set PyProof.Rows.boot_set (Aa (pv 0) Ac)) Ac)) (Bl _)))))),?_⟩
  have seq:∀ H',Au H H'->AM K H' t xs\/AE K H' t xs:=fun H' sa=>ht.imp (fun z=>AM.of (sa _ _ z)) (fun z=>AE.of (sa _ _ z))
  have dl:=dx.len;refine ⟨_,rfl,t,rfl,?_⟩;rcases ht with ht | ht
  ·refine .inl ⟨⟨_,AM.of ht⟩,Bt C0 (xs:=xs) (fun D i σ H' acc=>∃ v0:Option V,σ=[v0]/\Au H H'/\H' D=some (.lst acc)/\acc=((ds.take i).map G5).map V.bl/\acc.length=i)
    (by lia) (fun D hD=>⟨_,rfl,Ad hD,Ab,rfl,rfl⟩) (fun D i σ H' acc hD ⟨v0,_,sa,AS,_,al⟩=>⟨AM.of (sa _ _ ht),AS,al⟩) ?_ ?_⟩
   ·rintro D i σ H' acc x B hD ex ⟨v0,rfl,sa,AS,rfl,al⟩ hB;obtain ⟨d,ed,hd⟩:=dx.at ex;have K0:=hd.same sa;have step:∀ H5,Au H' H5->B [some x] (.bl (G5 d)) H5:=fun H5 s5=>by
     refine hB _ _ _ (s5 _ _ AS) ⟨_,rfl,fun b o e=>?_,Ab,?_,by rw [XZ,al]; rfl⟩
     ·rw [Af (Ah e hD)];exact s5 _ _ (sa _ _ e)
     ·rw [Yx,ed,Yi,Yi];rfl
    refine ⟨_,rfl,x,rfl,?_⟩;cases d with
    | str y=>
     cases hd
     exact .inl ⟨y,rfl,short y (XY ed),step⟩
    | _=>exact .inr ⟨K0.notStr (fun s=>by intro z; cases z),step _ (Au.refl _)⟩
   ·rintro D σ H' acc hD ⟨v0,rfl,sa,AS,rfl,al⟩;rw [dl,Yu] at AS;refine ⟨D,ds.map G5,rfl,AM.of AS,_,rfl,?_⟩;refine Bz (fun z=>?_) (fun z=>?_)
    ·obtain ⟨ss,rfl,hn⟩:=Gi z;obtain rfl:=dx.txt;rw [XJ] at few;refine ⟨_,rfl,t,_,rfl,seq _ sa,fun l hl=>?_⟩;have s1:=Ad (o:=.lst (ss.map V.str)) hl;refine ⟨_,rfl,t,ss,rfl,seq _ (sa.trans s1),by lia,fun D2 JE=>⟨D2,ss,rfl,Ab,by lia,fun l2 Ck Pt Vu Kv srt=>?_⟩⟩;have s2:=Ad (o:=setS P w D2 ss) JE;have s3:=Ad (o:=.lst (Ck.map V.str)) Pt;refine ⟨_,_,.lst (s3 _ _ (s2 _ _ Ab)) (Cg _ ss),.lst Ab (Cg _ Ck),by simp only [PyData.canLay0]; exact DF hn,by simp only [PyData.canLay0]; exact DF (fun s hs=>hn s ((Kv s).mp hs)),?_,?_⟩
     ·simp only [PyData.depth,DX];decide
     ·refine k _ _ (sa.trans (s1.trans (s2.trans s3))) ?_;rw [LA];refine ⟨fun e=>⟨ss,rfl,hn,(DR Vu Kv srt).mp (Dn e)⟩,?_⟩;rintro ⟨s5,e5,_,r5⟩;obtain rfl:=Dn e5;rw [(DR Vu Kv srt).mpr r5]
    ·refine k _ _ sa ⟨fun q=>absurd q (by decide),fun ⟨ss,e,hn,_⟩=>?_⟩;rw [e] at z;exact absurd (JP hn) z
  ·refine .inr ⟨⟨_,AE.of ht⟩,Bt B7 (xs:=xs) (fun D i σ H' acc=>∃ v0:Option V,σ=[v0]/\Au H H'/\H' D=some (.lst acc)/\acc=((ds.take i).map G5).map V.bl/\acc.length=i)
    (by lia) (fun D hD=>⟨_,rfl,Ad hD,Ab,rfl,rfl⟩) (fun D i σ H' acc hD ⟨v0,_,sa,AS,_,al⟩=>⟨AE.of (sa _ _ ht),AS,al⟩) ?_ ?_⟩
   ·rintro D i σ H' acc x B hD ex ⟨v0,rfl,sa,AS,rfl,al⟩ hB;obtain ⟨d,ed,hd⟩:=dx.at ex;have K0:=hd.same sa;have step:∀ H5,Au H' H5->B [some x] (.bl (G5 d)) H5:=fun H5 s5=>by
     refine hB _ _ _ (s5 _ _ AS) ⟨_,rfl,fun b o e=>?_,Ab,?_,by rw [XZ,al]; rfl⟩
     ·rw [Af (Ah e hD)];exact s5 _ _ (sa _ _ e)
     ·rw [Yx,ed,Yi,Yi];rfl
    refine ⟨_,rfl,x,rfl,?_⟩;cases d with
    | str y=>
     cases hd
     exact .inl ⟨y,rfl,short y (XY ed),step⟩
    | _=>exact .inr ⟨K0.notStr (fun s=>by intro z; cases z),step _ (Au.refl _)⟩
   ·rintro D σ H' acc hD ⟨v0,rfl,sa,AS,rfl,al⟩;rw [dl,Yu] at AS;refine ⟨D,ds.map G5,rfl,AM.of AS,_,rfl,?_⟩;refine Bz (fun z=>?_) (fun z=>?_)
    ·obtain ⟨ss,rfl,hn⟩:=Gi z;obtain rfl:=dx.txt;rw [XJ] at few;refine ⟨_,rfl,t,_,rfl,seq _ sa,fun l hl=>?_⟩;have s1:=Ad (o:=.lst (ss.map V.str)) hl;refine ⟨_,rfl,t,ss,rfl,seq _ (sa.trans s1),by lia,fun D2 JE=>⟨D2,ss,rfl,Ab,by lia,fun l2 Ck Pt Vu Kv srt=>?_⟩⟩;have s2:=Ad (o:=setS P w D2 ss) JE;have s3:=Ad (o:=.lst (Ck.map V.str)) Pt;refine ⟨_,_,.lst (s3 _ _ (s2 _ _ Ab)) (Cg _ ss),.lst Ab (Cg _ Ck),by simp only [PyData.canLay0]; exact DF hn,by simp only [PyData.canLay0]; exact DF (fun s hs=>hn s ((Kv s).mp hs)),?_,?_⟩
     ·simp only [PyData.depth,DX];decide
     ·refine k _ _ (sa.trans (s1.trans (s2.trans s3))) ?_;rw [LA];refine ⟨fun e=>⟨ss,rfl,hn,(DR Vu Kv srt).mp (Dn e)⟩,?_⟩;rintro ⟨s5,e5,_,r5⟩;obtain rfl:=Dn e5;rw [(DR Vu Kv srt).mpr r5]
    ·refine k _ _ sa ⟨fun q=>absurd q (by decide),fun ⟨ss,e,hn,_⟩=>?_⟩;rw [e] at z;exact absurd (JP hn) z
end
section
variable {P:Program} {w:World} {K:XU} {mg:Str->Option Value} {base:Heap}
theorem Fd (h_all:mg "all"=none) (h_dict:mg "dict"=none) (h_isinstance:mg "isinstance"=none) (h_len:mg "len"=none) (h_tuple:mg "tuple"=none) {fM fR:Addr} {fdM fdR:FuncData} (XM:Fn K mg "most_houses" C5 ["case"] fM fdM) (GM:A7 P w K mg base B9 1 fM fdM ["case"] Qe) (XR:Fn K mg "are_rising" CQ ["things"] fR fdR) (GR:A7 P w K mg base B9 2 fR fdR ["things"] (KQ K)) {f:Addr} {fd:FuncData} (F:Ek K "is_opening" "is_opening" CP f fd):A7 P w K mg base B9 3 f fd ["case","thing"] (Qh K):=by
 refine F.ok EZ (fun vs H Q E h=>?_) (fun cdv A outer s H vs Q E hr h=>?_)
 ·obtain ⟨c,sites,x,d,v,rfl,_⟩:=h;rfl
 ·obtain ⟨c,sites,x,d,v,rfl,cs,rise,names,k⟩:=h;have nd:=EZ.nd;have hu:=DH hr;have big:1000 < sizeLine:=by decide
  refine ⟨_,(Ae (Dd (Lf (HE (Kg (Ak GA (by rfl) h_isinstance PyProof.Rows.boot_isinstance (Aa (pv 1) (Aa (Nf (v:=.ty "tuple") (by rfl) h_tuple PyProof.Rows.boot_tuple rfl) Ac))))) (HC (HE (HG Lk Lk Ag (Ak Ea (by rfl) h_len PySem.boot_len (Aa (pv 1) Ac)) (Aj GM (hr.mono (by decide)) (by rfl) XM.mg XM.F.kp XM.b .nil As (Aa (pv 0) Ac)))))).pt
  (Al (A5 J1))
  Bw)
  (Ae (Ar (i:=2) nd rfl (Or.inr rfl) (A0 (BQ rfl) (by rfl) h_dict PyProof.Rows.boot_dict (Aa (A9 Kx (pv 0) Ag (fun _ _=>rfl)) Ac)))
  (Al (A5 (QH (Aj GR (hr.mono (by decide)) (by rfl) XR.mg XR.F.kp XR.b .nil As (Aa (pv 1) Ac)) (QD (Ak (Dx rfl) (by rfl) h_all PyProof.Rows.boot_all (Aa (By (N:=["place","sites"]) (σ0:=fun σ=>[none,some 2].map fun j=>j.bind fun j=>(σ[j]?).join) rfl (A8.caught (by rfl) (by decide +kernel) rfl (by decide +kernel) (by intro y hy; simp only [XX,Yg,or_false] at hy; rcases hy with rfl <;> rfl)
   (by intro y hy e; simp only [XX,Yg,or_false] at hy; rcases hy with rfl | rfl | rfl <;> first | exact ⟨_,rfl⟩ | cases e)) (fun σ _=>AR.of [none,some 2] rfl (by
   intro i j x h1 h2;match i,h1,h2 with
   | 0,_,h2=>cases h2
   | 1,h1,h2=>cases h1; cases h2; exact ⟨rfl,.inl rfl,.inl rfl⟩
   | n + 2,h1,_=>cases h1)) (Kk (pv 1))
   (fun s2 H C fp=>⟨(Ai (i:=0) (show (["place","sites"]:List Str).Nodup by decide +kernel) rfl (Or.inl rfl)),AY,(Mn (Ur hu (pv 0) (pv 1)))⟩)) Ac)))))))),?_⟩
  rcases k with ⟨ds,⟨t,xs,rfl,ht,dx,short,few⟩,k⟩ | ⟨⟨ty,t1,t2⟩,k⟩
  ·refine ⟨_,rfl,_,"tuple",_,_,rfl,.tup ht,rfl,_,rfl,?_⟩;refine L3 ?_;refine ⟨_,rfl,t,_,rfl,.inr (AE.of ht),_,_,rfl,rfl,_,rfl,?_⟩;have dl:=dx.len;refine Bz (fun z1=>?_) (fun z1=>?_)
   ·refine ⟨_,rfl,c,sites,x,d,rfl,cs,fun mo mo0 mok=>?_⟩;obtain ⟨mV,t2V,t1,El,rs1,hc,Ho,Ik,rfl,snd,sl,lim⟩:=cs;have ul:=B6 Ik;rw [XJ] at sl mok;refine ⟨_,_,rfl,rfl,_,rfl,?_⟩;refine Bz (fun z2=>?_) (fun z2=>?_)
    ·refine k _ _ (Au.refl _) ⟨fun q=>absurd q (by decide),fun ⟨ss,e,_,sub,lb⟩=>?_⟩;have l1:=sub.length_le;rw [XJ] at l1;have:=(mok _ l1).mpr lb;rw [dl,e,XJ] at z2;simp [this] at z2
    ·have z3:(xs.length:Int)<=mo:=by simpa using z2
     refine ⟨_,rfl,c,_,_,_,rfl,rfl,AE.of hc,rfl,t1,El,BD rs1,rfl,Ho,by unfold BD; rw [XJ]; exact ul,Hi Ik,by rw [Cz]; exact snd,by unfold BD; rw [XJ]; lia,fun B hB=>?_⟩;have s1:=Ad (o:=.dK (sK (BD rs1))) hB;have M4:(upd H B (.dK (sK (BD rs1)))) B=some (.dK (sK (BD rs1))):=Ab;generalize upd H B (.dK (sK (BD rs1)))=H1 at s1 M4;refine ⟨_,rfl,t,xs,ds,rfl,.inr (s1 _ _ ht),dx.mono (fun a o e _=>s1 a o e),short,few,fun b H2 s2 hb=>⟨_,rfl,?_⟩⟩;refine Bz (fun z=>?_) (fun z=>?_)
     ·obtain ⟨ss,rfl,hn,ri⟩:=hb.mp z;obtain rfl:=dx.txt;rw [XJ] at few z1 z3;have ne:ss ≠ []:=fun e=>by subst e; simp at z1
      have VS:=s2 _ _ M4;have IJ:=s2 _ _ (s1 _ _ ht);refine ⟨_,rfl,t,rfl,⟨_,AE.of IJ⟩,?_⟩;refine Bt B7 (xs:=ss.map V.str) (fun D i σ H' acc=>∃ v0:Option V,σ=[v0,some (.ref B)]/\Au H2 H'/\H' D=some (.lst acc)/\acc=((ss.take i).map fun y=>decide (y ∈ rs1.map (·.1))).map V.bl/\acc.length=i)
       (by rw [XJ]; lia) (fun D hD=>⟨_,rfl,Ad hD,Ab,rfl,rfl⟩) (fun D i σ H' acc hD ⟨v0,_,sa,AS,_,al⟩=>⟨AE.of (sa _ _ IJ),AS,al⟩) ?_ ?_
      ·rintro D i σ H' acc x' Bk hD ex ⟨v0,rfl,sa,AS,rfl,al⟩ hBk;obtain ⟨y,ey,rfl⟩:∃ y,ss[i]? = some y/\x'=.str y:=by
        rw [Yd] at ex;cases q:ss[i]? with
        | none=>rw [q] at ex; cases ex
        | some y=>rw [q] at ex; exact ⟨y,rfl,(Yo.inj ex).symm⟩
       refine ⟨_,rfl,_,rfl,B,_,rfl,BM.k (k:=Sum.inr y) (sa _ _ VS),?_⟩;rw [G0,Cz];refine hBk _ _ _ AS ⟨_,rfl,fun b o e=>?_,Ab,?_,by rw [XZ,al]; rfl⟩
       ·rw [Af (Ah e hD)];exact sa _ _ e
       ·rw [Yx,ey,Yi,Yi];rfl
      ·rintro D σ H' acc hD ⟨v0,rfl,sa,AS,rfl,al⟩;rw [XJ,Yu] at AS;refine ⟨D,_,rfl,AM.of AS,?_⟩;refine k _ _ (s1.trans (s2.trans sa)) ?_;rw [ar,Za];constructor
       ·intro h;have sub:=DQ ri rise fun y hy=>by simpa using h y hy
        have l1:=sub.length_le;rw [XJ] at l1;exact ⟨ss,rfl,ne,sub,(mok _ l1).mp z3⟩
       ·rintro ⟨s5,e5,_,sub,_⟩ y hy;rw [Dn e5] at hy;simpa using sub.subset hy
     ·refine k _ _ (s1.trans s2) ⟨fun q=>absurd q (by decide),fun ⟨ss,e,_,sub,_⟩=>absurd (hb.mpr ⟨ss,e,fun y hy=>names y (sub.subset hy),rise.sub sub⟩) z⟩
   ·refine ⟨_,rfl,?_⟩;refine Ms ?_;refine k _ _ (Au.refl _) ⟨fun q=>absurd q (by decide),fun ⟨ss,e,ne,_⟩=>?_⟩;rw [dl,e,XJ,decide_eq_true_eq] at z1;exact absurd (YK.mp (by lia)) ne
  ·refine ⟨_,rfl,_,"tuple",_,_,rfl,t1,t2,_,rfl,?_⟩;exact k _ (Au.refl _)
end
section
variable {P:Program} {w:World} {K:XU} {mg:Str->Option Value} {base:Heap}
theorem FF {fF:Addr} {fdF:FuncData} (XF:Fn K mg "fars" Kb ["web","place"] fF fdF) (GF:A7 P w K mg base B9 3 fF fdF ["web","place"] (Qi K)) {f:Addr} {fd:FuncData} (F:Ek K "site_fars" "site_fars" Dr f fd):A7 P w K mg base B9 4 f fd ["case"] Hx:=by
 refine F.ok F4 (fun vs H Q E h=>?_) (fun cdv A outer s H vs Q E hr h=>?_)
 ·obtain ⟨c,m,n,xs,ws,rs1,A2,x,d,rfl,_⟩:=h;rfl
 ·obtain ⟨c,m,n,xs,ws,rs1,A2,x,d,rfl,cw,k⟩:=h;have nd:=F4.nd;have big:100000 < sizeLine:=by decide
  refine ⟨_,(Al (A5 (HJ (N:=["place","price","case"]) (σ0:=fun σ=>[none,none,some 0].map fun j=>j.bind fun j=>(σ[j]?).join) rfl (A8.caught (by rfl) (by decide +kernel) rfl (by decide +kernel) (by intro y hy; simp only [XX,Yg,or_false] at hy; rcases hy with rfl <;> rfl)
   (by intro y hy e; simp only [XX,Yg,or_false] at hy; rcases hy with rfl | rfl | rfl | rfl | rfl <;> first | exact ⟨_,rfl⟩ | cases e)) (fun σ _=>AR.of [none,none,some 0] rfl (by
   intro i j x h1 h2;match i,h1,h2 with
   | 0,_,h2=>cases h2
   | 1,_,h2=>cases h2
   | 2,h1,h2=>cases h1; cases h2; exact ⟨rfl,.inl rfl,.inl rfl⟩
   | n + 3,h1,_=>cases h1)) (BO K rfl (A9 (AO K rfl) (pv 0) Ag (fun _ _=>rfl)))
   (fun s2 H C fp=>⟨(Bx K rfl (n:=2) rfl (Ap (Ai (i:=0) (show (["place","price","case"]:List Str).Nodup by decide +kernel) rfl (Or.inl rfl)) (Ap (Ai (i:=1) (show (["place","price","case"]:List Str).Nodup by decide +kernel) rfl (Or.inl rfl)) Bs))),AY,(pv 0),(Aj GF (hr.mono (by decide)) (by rfl) XF.mg XF.F.kp XF.b .nil As (Aa (A9 (AO K rfl) (pv 2) Ag (fun _ _=>rfl)) (Aa (pv 0) Ac)))⟩)))),?_⟩
  obtain ⟨t1,t2,El,LS,hc,Ho,Ik,IJ,hd2⟩:=cw.ex;obtain ⟨r,okw,pos,uni⟩:=cw.map.web cw.n1 cw.n30;have ul:=B6 Ik;have l1:=cw.l1;refine ⟨_,rfl,c,_,_,_,rfl,rfl,AE.of hc,rfl,t1,rfl,⟨_,AE.of Ho⟩,?_⟩;refine Ox B7 (xs:=El) (rs1.map (·.1)) (by rw [XJ,ul]) cw.ok1.nd (fun D i σ H' nv=>∃ (v0 v1:Option V),σ=[v0,v1,some (.ref c)]/\Au H H'/\H' D=some (.dK (sK nv))/\nv.map (·.1)=(rs1.map (·.1)).take i/\∀ s v,(s,v) ∈ nv->R7 H' v xs ws s)
   (by lia) (fun D hD=>⟨_,_,rfl,Ad hD,Ab,rfl,fun s v hm=>nomatch hm⟩) (fun D i σ H' nv hD ⟨v0,v1,_,sa,AS,nk,_⟩=>⟨AE.of (sa _ _ Ho),AS,nk⟩) ?_ ?_
  ·rintro D i σ H' nv x' kk B hD ex ek ⟨v0,v1,rfl,sa,AS,nk,nf⟩ hB;obtain ⟨u,t,eu,rfl,ht⟩:=Dk Ik ex;have e:kk=u.1:=by
    rw [Yd,eu] at ek;exact (Yo.inj ek).symm
   subst e;refine ⟨t,_,rfl,AE.of (sa _ _ ht),rfl,_,_,rfl,_,_,rfl,rfl,?_⟩;refine ⟨_,rfl,_,rfl,c,_,_,_,rfl,rfl,AE.of (sa _ _ hc),rfl,_,rfl,m,xs,ws,r,u.1,rfl,okw.same sa,pos,uni,cw.ok1.sub u (XY eu),fun H1 B1 nb s1 fB Vd nbK nbV=>?_⟩;have Tz:=s1 _ _ AS;refine hB _ _ _ Tz ⟨_,_,rfl,fun b o' z=>by rw [Af (Ah z hD)]; exact s1 _ _ (sa _ _ z),Ab,?_,fun s v hm=>?_⟩
   ·rw [Yi,nk,Yx,ek];rfl
   ·have nB:∀ {b:Addr} {kv:List (A6 × V)},b ≠ D->H1 b=some (.dK kv)->(upd H1 D (.dK (sK (nv ++ [(u.1,.ref B1)])))) b=some (.dK kv):=fun nb z=>by rw [Af nb]; exact z
    rcases Yt.mp hm with hm | hm
    ·obtain ⟨B2,Tt,rfl,z1,z2,z3⟩:=nf s v hm;by_cases e:B2=D
     ·subst e;rw [AS] at z1;have e:=HO.dK.inj (Yo.inj z1);have Wu:((Sum.inr s:A6),V.ref B2) ∈ sK Tt:=by rw [<-e]; exact Yc.mpr ⟨_,hm,rfl⟩
      obtain ⟨⟨y,u'⟩,h1,h2⟩:=Yc.mp Wu;cases h2
      obtain ⟨n',e',_⟩:=z3 _ _ h1;cases e'
     ·exact ⟨B2,Tt,rfl,nB e (s1 _ _ z1),z2,z3⟩
    ·simp only [Yn,Prod.mk.injEq] at hm;obtain ⟨rfl,rfl⟩:=hm;exact ⟨B1,nb,rfl,nB (fun z=>by rw [z,AS] at fB; cases fB) Vd,nbK,nbV⟩
  ·rintro D σ H' nv hD ⟨v0,v1,rfl,sa,AS,nk,nf⟩;rw [ul,show rs1.length=(rs1.map (·.1)).length by rw [XJ],Yu] at nk;exact k H' D nv sa hD AS nk nf
end
section
variable {P:Program} {w:World} {K:XU} {mg:Str->Option Value} {base:Heap}
theorem Ew (h_len:mg "len"=none) (h_min:mg "min"=none) {f:Addr} {fd:FuncData} (F:Ek K "most_houses" "most_houses" C5 f fd):A7 P w K mg base B9 1 f fd ["case"] Qe:=by
 refine F.ok Es (fun vs H Q E h=>?_) (fun cdv A outer s H vs Q E hr h=>?_)
 ·obtain ⟨c,sites,x,d,rfl,_⟩:=h;rfl
 ·obtain ⟨c,sites,x,d,rfl,cs,k⟩:=h;have nd:=Es.nd;have big:100000 < sizeLine:=by decide
  refine ⟨_,(Ae (DS (pv 0) (Bx K rfl rfl (Ap (Ai (i:=1) nd rfl (Or.inl rfl)) (Ap (Ai (i:=2) nd rfl (Or.inl rfl)) (Ap (Ai (i:=3) nd rfl (Or.inl rfl)) (Ap (Ai (i:=4) nd rfl (Or.inl rfl)) Bs))))))
  (Al (A5 (HI (HF (HL (pv 4))) (Ak (Aw K rfl) (by rfl) h_len PySem.boot_len (Aa (pv 2) Ac)) (Ak (Gp rfl) (by rfl) h_min PyProof.Rows.boot_min (Aa (pv 4) (Aa (Ak (Aw K rfl) (by rfl) h_len PySem.boot_len (Aa (pv 2) Ac)) Ac))))))),?_⟩
  obtain ⟨mV,t2V,t1,El,rs1,hc,Ho,Ik,rfl,snd,sl,lim⟩:=cs;have ul:=B6 Ik;refine ⟨_,rfl,c,_,rfl,AE.of hc,rfl,_,_,rfl,_,_,rfl,_,_,rfl,_,_,rfl,rfl,?_⟩;refine ⟨_,rfl,_,rfl,?_⟩;rcases lim with ⟨rfl,_⟩ | ⟨lm,rfl,_,lm1,lm2⟩
  ·refine Bz (fun _=>?_) (fun z=>by simp at z);refine ⟨_,rfl,t1,_,rfl,.inr (AE.of Ho),?_⟩;refine k _ (by lia) fun j hj=>?_
   rw [XJ] at hj;simp only [C2,iff_true];lia
  ·refine Bz (fun z=>by simp at z) (fun _=>?_);refine ⟨_,rfl,_,rfl,t1,_,rfl,.inr (AE.of Ho),_,_,rfl,?_⟩;refine k _ (by split <;> lia) fun j hj=>?_
   rw [XJ] at hj;simp only [C2,decide_eq_true_eq];split <;> lia
end
section
variable {P:Program} {w:World} {K:XU} {mg:Str->Option Value} {base:Heap}
theorem G4 (h_dict:mg "dict"=none) (h_min:mg "min"=none) (h_sum:mg "sum"=none) {fS:Addr} {fdS:FuncData} (XS:Fn K mg "site_fars" Dr ["case"] fS fdS) (GS:A7 P w K mg base B9 4 fS fdS ["case"] Hx) {f:Addr} {fd:FuncData} (F:Ek K "costs_of" "costs_of" Dc f fd):A7 P w K mg base B9 5 f fd ["case","chosen"] Gb:=by
 refine F.ok Gz (fun vs H Q E h=>?_) (fun cdv A outer s H vs Q E hr h=>?_)
 ·obtain ⟨c,e,m,n,xs,ws,rs1,A2,x,d,us,os,rfl,_⟩:=h;rfl
 ·obtain ⟨c,e,m,n,xs,ws,rs1,A2,x,d,us,os,rfl,cw,he,tU,ond,opn,ol,k⟩:=h;have nd:=Gz.nd;have hu:=DH hr;have big:100000 < sizeLine:=by decide
  refine ⟨_,(Ae (DS (pv 0) (Bx K rfl rfl (Ap (Ai (i:=2) nd rfl (Or.inl rfl)) (Ap (Ai (i:=3) nd rfl (Or.inl rfl)) (Ap (Ai (i:=4) nd rfl (Or.inl rfl)) (Ap (Ai (i:=5) nd rfl (Or.inl rfl)) Bs))))))
  (Ae (Ar (i:=6) nd rfl (Or.inr rfl) (A0 (BQ rfl) (by rfl) h_dict PyProof.Rows.boot_dict (Aa (pv 3) Ac)))
  (Ae (Ar (i:=7) nd rfl (Or.inr rfl) (Aj GS (hr.mono (by decide)) (by rfl) XS.mg XS.F.kp XS.b .nil As (Aa (pv 0) Ac)))
  (Ae (Ar (i:=8) nd rfl (Or.inl rfl) Li)
  (Ae (Cb PassesOwn.never rfl (Cp K rfl (pv 1)) (Ai (i:=9) nd rfl (Or.inr rfl))
  (Ae (Q6 (fun x=>decide (x=("place":Str))) (ix:=10) (N:=["place","many","aways","houses"]) (σ0:=fun σ=>[none,none,some 7,some 9].map fun j=>j.bind fun j=>(σ[j]?).join) nd rfl (Or.inl rfl) rfl (FX.caught (by rfl) rfl (by decide +kernel) (by intro y hy; simp only [XX,Yg,or_false] at hy; rcases hy with rfl | rfl <;> rfl) (by refine List.Pairwise.cons (fun y hy=>?_) (Zu _ _); rw [Yn.mp hy]; show @Ne Nat _ _; lia)
   (by intro y hy e; simp only [XX,Yg,or_false] at hy; rcases hy with rfl | rfl | rfl | rfl | rfl | rfl <;> first | exact ⟨_,Ys⟩ | exact ⟨_,Yr _ Ys⟩ | cases e)) (by intro x h; have h':=of_decide_eq_true h; subst h'; decide +kernel) (fun σ _=>AR.of [none,none,some 7,some 9] rfl (by
   intro i j x h1 h2;match i,h1,h2 with
   | 0,_,h2=>cases h2
   | 1,_,h2=>cases h2
   | 2,h1,h2=>cases h1; cases h2; exact ⟨rfl,.inl rfl,.inl rfl⟩
   | 3,h1,h2=>cases h1; cases h2; exact ⟨rfl,.inl rfl,.inl rfl⟩
   | n + 4,h1,_=>cases h1)) (by
   intro σ i x v h1 h2;match i,h1,h2 with
   | 0,_,h2=>cases h2
   | 1,_,h2=>cases h2
   | 2,h1,h2=>cases h1; decide +kernel
   | 3,h1,h2=>cases h1; decide +kernel
   | n + 4,h1,_=>cases h1) (BO K rfl (pv 4))
   (fun s2 H C fp=>⟨(Bx K rfl (n:=2) rfl (Ap (Ai (i:=0) (show (["place","many","aways","houses"]:List Str).Nodup by decide +kernel) rfl (Or.inr rfl) (.inl (by dsimp only; exact decide_eq_true rfl))) (Ap (Ai (i:=1) (show (["place","many","aways","houses"]:List Str).Nodup by decide +kernel) rfl (Or.inl rfl)) Bs))),AY,(Av Ng (pv 1) (Ak (Jf rfl) (by rfl) h_min PyProof.Rows.boot_min (Aa (By (N:=["house","place","aways"]) (σ0:=fun σ=>[none,some 0,some 2].map fun j=>j.bind fun j=>(σ[j]?).join) rfl (A8.caught (by rfl) (by decide +kernel) rfl (by decide +kernel) (by intro y hy; simp only [XX,Yg,or_false] at hy; rcases hy with rfl | rfl <;> rfl)
   (by intro y hy e; simp only [XX,Yg,or_false] at hy; rcases hy with rfl | rfl | rfl | rfl <;> first | exact ⟨_,rfl⟩ | cases e)) (fun σ _=>AR.of [none,some 0,some 2] rfl (by
   intro i j x h1 h2;match i,h1,h2 with
   | 0,_,h2=>cases h2
   | 1,h1,h2=>cases h1; cases h2; exact ⟨rfl,.inl rfl,.inl rfl⟩
   | 2,h1,h2=>cases h1; cases h2; exact ⟨rfl,.inl rfl,.inl rfl⟩
   | n + 3,h1,_=>cases h1)) (BO K rfl (pv 3))
   (fun s2 H C fp=>⟨(Ai (i:=0) (show (["house","place","aways"]:List Str).Nodup by decide +kernel) rfl (Or.inl rfl)),AY,(AJ hu (AJ hu (pv 2) (pv 0) (fun _ _=>rfl)) (pv 1) (fun _ _=>rfl))⟩)) Ac)))⟩))
  (Al (CS hu (pv 8) (pv 9) (Av Bh (Ak (C8 rfl) (by rfl) h_sum PyProof.Rows.boot_sum (Aa (By (N:=["house","charges"]) (σ0:=fun σ=>[none,some 6].map fun j=>j.bind fun j=>(σ[j]?).join) rfl (A8.caught (by rfl) (by decide +kernel) rfl (by decide +kernel) (by intro y hy; simp only [XX,Yg,or_false] at hy; rcases hy with rfl <;> rfl)
   (by intro y hy e; simp only [XX,Yg,or_false] at hy; rcases hy with rfl | rfl | rfl <;> first | exact ⟨_,rfl⟩ | cases e)) (fun σ _=>AR.of [none,some 6] rfl (by
   intro i j x h1 h2;match i,h1,h2 with
   | 0,_,h2=>cases h2
   | 1,h1,h2=>cases h1; cases h2; exact ⟨rfl,.inl rfl,.inl rfl⟩
   | n + 2,h1,_=>cases h1)) (BO K rfl (pv 9))
   (fun s2 H C fp=>⟨(Ai (i:=0) (show (["house","charges"]:List Str).Nodup by decide +kernel) rfl (Or.inl rfl)),AY,(AJ hu (pv 1) (pv 0) (fun _ _=>rfl))⟩)) Ac)) (Ak (C8 rfl) (by rfl) h_sum PyProof.Rows.boot_sum (Aa (pv 10) Ac))) rfl))))
  (Al (A5 (pv 8)))))))),?_⟩
  obtain ⟨t1,t2,El,LS,hc,Ho,Ik,IJ,hd2⟩:=cw.ex;have We:=B6 Ik;have ul2:=B6 hd2;have l1:=cw.l1;have l2:=cw.l2;have hul:=tU.len;refine ⟨_,rfl,c,_,rfl,AE.of hc,rfl,_,_,rfl,_,_,rfl,_,_,rfl,_,_,rfl,rfl,?_⟩;refine ⟨_,rfl,t1,El,BD rs1,rfl,Ho,by unfold BD; rw [XJ]; exact We,Hi Ik,by rw [Cz]; exact cw.ok1.nd,by unfold BD; rw [XJ]; lia,fun CH hCH=>?_⟩;have s1:=Ad (o:=.dK (sK (BD rs1))) hCH;have hCC:(upd H CH (.dK (sK (BD rs1)))) CH=some (.dK (sK (BD rs1))):=Ab;generalize upd H CH (.dK (sK (BD rs1)))=H1 at s1 hCC;refine ⟨_,rfl,c,m,n,xs,ws,rs1,A2,x,d,rfl,cw.same s1,fun H2 AW nv s2 fA hA nk nf=>?_⟩;have Tj:=s1.trans s2;intro D hD;have s3:=Ad (o:=.dT []) hD;have fD:H D=none:=by
   cases z:H D with
   | none=>rfl
   | some o'=>rw [Tj _ _ z] at hD; cases hD
  refine ⟨_,rfl,e,rfl,⟨_,AM.of (s3 _ _ (Tj _ _ he))⟩,?_⟩;refine JG (xs:=us) (fun i σ H'=>∃ (v9 v10:Option V) (kvs:List (List A6 × V)),σ=[some (.ref c),some (.ref e),some (.ref m),some (.ref t1),some (.ref t2),some x,some (.ref CH),some (.ref AW),some (.ref D),v9,v10]/\Au H2 H'/\H' D=some (.dT kvs)/\kvs.map (·.1)=(os.take i).map (fun ss=>ss.map Sum.inr)/\(∀ ss v,(ss.map Sum.inr,v) ∈ kvs->∃ t,v=.int t/\Cw ws rs1 A2 ss t))
   ⟨_,_,[],rfl,s3,Ab,rfl,fun ss v hm=>nomatch hm⟩ (fun i σ H' _ ⟨_,_,_,_,sa,_⟩=>AM.of (sa _ _ (Tj _ _ he))) ?_ ?_
  ·rintro i v σ H' hv ⟨v9,v10,kvs,rfl,sa,AS,kk,kt⟩ rt bk NN hN;obtain ⟨o,ss,rfl,es,ho⟩:=tU.get hv;have hsm:=XY es;have hi:i < os.length:=(Yb.mp es).1;obtain ⟨sne,snd,ssub⟩:=opn ss hsm;have sl:ss.length<=rs1.length:=by
    have:=List.Nodup.length_le_of_subset snd (fun s hs=>ssub s hs);rw [XJ] at this;exact this
   have VD:=Tj _ _ ho;have sx:∀ s ∈ ss,s ∈ xs:=fun s hs=>by
    obtain ⟨r,N2,rfl⟩:=Yc.mp (ssub s hs);exact cw.ok1.sub r N2
   have nnd:(nv.map (·.1)).Nodup:=by rw [nk]; exact cw.ok1.nd
   refine ⟨_,rfl,t2,rfl,⟨_,AE.of (sa _ _ (Tj _ _ IJ))⟩,?_⟩;refine Bt B7 (xs:=LS) (fun D2 j Ay H3 acc=>∃ (v0 v1:Option V) (ds:List Int),Ay=[v0,v1,some (.ref AW),some (.ref o)]/\Au H' H3/\H3 D2=some (.lst acc)/\acc=((A2.zip ds).map fun p=>p.1.2 * p.2).map V.int/\ds.length=j/\acc.length=j/\∀ (q:Nat) r d,A2[q]? = some r->ds[q]? = some d->Md ws ss r.1 d)
    (by lia) (fun D2 JE=>⟨_,_,[],rfl,Ad JE,Ab,by rw [List.zip_nil_right]; rfl,rfl,rfl,fun q r d _ e=>by simp at e⟩)
    (fun D2 j Ay H3 acc JE ⟨v0,v1,ds,_,sb,Ri,_,_,al,_⟩=>⟨AE.of (sb _ _ (sa _ _ (Tj _ _ IJ))),Ri,al⟩) ?_ ?_
   ·rintro D2 j Ay H3 acc x' B JE ex ⟨v0,v1,ds,rfl,sb,Ri,ea,dl,al,dm⟩ hB;obtain ⟨u,t,eu,rfl,ht⟩:=Dk hd2 ex;have um:=XY eu;have ux:u.1 ∈ xs:=cw.ok2.sub u um;have ub:=cw.ok2.lo u um;have sab:=sa.trans sb;have hA3:=sab _ _ hA;refine ⟨t,_,rfl,AE.of (sab _ _ (Tj _ _ ht)),rfl,_,_,rfl,_,_,rfl,rfl,?_⟩;refine ⟨_,rfl,_,rfl,o,rfl,⟨_,AE.of (sab _ _ VD)⟩,?_⟩;refine Bt B7 (xs:=ss.map V.str) (fun D3 q JT H4 Gq=>∃ (w0:Option V) (ns:List Int),JT=[w0,some (.str u.1),some (.ref AW)]/\Au H3 H4/\H4 D3=some (.lst Gq)/\Gq=ns.map V.int/\ns.length=q/\Gq.length=q/\∀ (a:Nat) n' s,ns[a]? = some n'->ss[a]? = some s->Vg ws s u.1 n')
     (by rw [XJ]; lia) (fun D3 FN=>⟨_,[],rfl,Ad FN,Ab,rfl,rfl,rfl,fun a n' s e=>by simp at e⟩)
     (fun D3 q JT H4 Gq FN ⟨w0,ns,_,sc,Im,_,_,SU,_⟩=>⟨AE.of (sc _ _ (sab _ _ VD)),Im,SU⟩) ?_ ?_
    ·rintro D3 q JT H4 Gq x3 B3 FN Rp ⟨w0,ns,rfl,sc,Im,T5,nl,SU,nm⟩ X2;obtain ⟨s,ey,rfl⟩:∃ s,ss[q]? = some s/\x3=.str s:=by
      rw [Yd] at Rp;cases z:ss[q]? with
      | none=>rw [z] at Rp; cases Rp
      | some y=>rw [z] at Rp; exact ⟨y,rfl,(Yo.inj Rp).symm⟩
     have hs:=XY ey;obtain ⟨⟨s',vB⟩,hm,SD⟩:=Yc.mp (show s ∈ nv.map (·.1) by rw [nk]; exact ssub s hs);have SD:s'=s:=SD;subst SD;obtain ⟨Bf,nb,rfl,hBf,nbk,nbv⟩:=nf _ _ hm;obtain ⟨⟨y',vy⟩,hmy,X6⟩:=Yc.mp (show u.1 ∈ nb.map (·.1) by rw [nbk]; exact ux);have X6:y'=u.1:=X6;subst X6;obtain ⟨nn,rfl,dst⟩:=nbv _ _ hmy;have nbnd:(nb.map (·.1)).Nodup:=by rw [nbk]; exact cw.map.at'.nd
     have dg1:BM H4 AW (.str s') (some (.ref Bf)):=.inl ⟨_,Sum.inr s',.inl (sc _ _ hA3),rfl,(C7 nnd hm).symm⟩;have dg2:BM H4 Bf (.str u.1) (some (.int nn)):=.inl ⟨_,Sum.inr u.1,.inl (sc _ _ (sab _ _ hBf)),rfl,(C7 nbnd hmy).symm⟩;refine ⟨_,rfl,_,rfl,AW,.ref Bf,rfl,dg1,_,rfl,Bf,.int nn,rfl,dg2,?_⟩;refine X2 _ _ _ Im ⟨_,ns ++ [nn],rfl,fun b o' z=>by rw [Af (Ah z FN)]; exact sc _ _ z,Ab,by rw [T5,Yi]; rfl,by rw [XZ,nl]; rfl,by rw [XZ,SU]; rfl,fun a n' s e1 e2=>?_⟩;by_cases ha:a < ns.length
     ·rw [Y5 ha] at e1;exact nm a n' s e1 e2
     ·have Xp:=(Yb.mp e1).1;rw [XZ,YD] at Xp;have hqa:a=q:=by lia
      subst hqa;rw [Y4 (by lia),show a - ns.length=0 by lia,YO] at e1;cases e1
      rw [ey] at e2;cases e2
      exact dst
    ·rintro D3 JT H4 Gq FN ⟨w0,ns,rfl,sc,Im,T5,nl,SU,nm⟩;rw [XJ] at nl;have nne:ns ≠ []:=fun z=>by rw [z] at nl; exact sne (YK.mp nl.symm)
     refine ⟨D3,ns,rfl,by rw [Im,T5],nne,fun mn hmn hle=>?_⟩;have md:Md ws ss u.1 mn:=by
      obtain ⟨a,ha⟩:=Zc hmn;have ha':=(Yb.mp ha).1;have K7:ss[a]? = some (ss[a]'(by lia)):=XO _;refine ⟨⟨_,XY K7,(nm a _ _ ha K7).1⟩,fun s hs mm g=>?_⟩;obtain ⟨b,hb⟩:=Zc hs;have Ez:=(Yb.mp hb).1;have en:ns[b]? = some (ns[b]'(by lia)):=XO _;have z1:=hle _ (XY en);have z2:=(nm b _ _ en hb).2 mm g;lia
     have bd:0<=mn/\mn < 2 ^ 300:=by
      obtain ⟨a,ha⟩:=Zc hmn;have ha':=(Yb.mp ha).1;have K7:ss[a]? = some (ss[a]'(by lia)):=XO _;exact cw.map.bound cw.n1 cw.n30 (sx _ (XY K7)) ux (nm a _ _ ha K7)
     refine ⟨_,_,rfl,rfl,⟨⟨by lia,by lia⟩,⟨by lia,by lia⟩⟩,?_⟩;have X1:=sc _ _ Ri;refine hB _ _ _ X1 ⟨_,_,ds ++ [mn],rfl,fun b o' z=>by rw [Af (Ah z JE)]; exact sc _ _ (sb _ _ z),Ab,?_,by rw [XZ,dl]; rfl,by rw [XZ,al]; rfl,fun q r d e1 e2=>?_⟩
     ·rw [KA (a:=u) (by rw [dl]; exact eu),Yi,Yi,ea];rfl
     ·by_cases ha:q < ds.length
      ·rw [Y5 ha] at e2;exact dm q r d e1 e2
      ·have Xp:=(Yb.mp e2).1;rw [XZ,YD] at Xp;have hqa:q=j:=by lia
       subst hqa;rw [Y4 (by lia),show q - ds.length=0 by lia,YO] at e2;cases e2
       rw [eu] at e1;cases e1
       exact md
   ·rintro D2 Ay H3 acc JE ⟨v0,v1,ds,rfl,sb,Ri,ea,dl,al,dm⟩;have sab:=sa.trans sb;have wd:JQ ws ss A2 ds:=⟨by lia,dm⟩
    refine ⟨_,rfl,o,rfl,⟨_,AE.of (sab _ _ VD)⟩,?_⟩;refine Bt B7 (xs:=ss.map V.str) (fun D3 q JT H4 Gq=>∃ w0:Option V,JT=[w0,some (.ref CH)]/\Au H3 H4/\H4 D3=some (.lst Gq)/\Gq=((ss.take q).map (Bc rs1)).map V.int/\Gq.length=q)
     (by rw [XJ]; lia) (fun D3 FN=>⟨_,rfl,Ad FN,Ab,rfl,rfl⟩)
     (fun D3 q JT H4 Gq FN ⟨w0,_,sc,Im,_,SU⟩=>⟨AE.of (sc _ _ (sab _ _ VD)),Im,SU⟩) ?_ ?_
    ·rintro D3 q JT H4 Gq x3 B3 FN Rp ⟨w0,rfl,sc,Im,T5,SU⟩ X2;obtain ⟨s,ey,rfl⟩:∃ s,ss[q]? = some s/\x3=.str s:=by
      rw [Yd] at Rp;cases z:ss[q]? with
      | none=>rw [z] at Rp; cases Rp
      | some y=>rw [z] at Rp; exact ⟨y,rfl,(Yo.inj Rp).symm⟩
     obtain ⟨r,N2,rfl⟩:=Yc.mp (ssub s (XY ey));have hm:(r.1,V.int r.2) ∈ BD rs1:=by unfold BD; exact Yc.mpr ⟨r,N2,rfl⟩
     have dg:BM H4 CH (.str r.1) (some (.int r.2)):=.inl ⟨_,Sum.inr r.1,.inl (sc _ _ (sab _ _ (s2 _ _ hCC))),rfl,(C7 (by rw [Cz]; exact cw.ok1.nd) hm).symm⟩;refine ⟨_,rfl,_,rfl,CH,.int r.2,rfl,dg,?_⟩;refine X2 _ _ _ Im ⟨_,rfl,fun b o' z=>by rw [Af (Ah z FN)]; exact sc _ _ z,Ab,?_,by rw [XZ,SU]; rfl⟩;rw [T5,Yx,ey,Yi,Yi];simp [Dl cw.ok1.nd N2]
    ·rintro D3 JT H4 Gq FN ⟨w0,rfl,sc,Im,T5,SU⟩;rw [XJ,Yu] at T5;have Xz:=sc _ _ (sb _ _ AS);have sall:=sab.trans sc;refine ⟨D3,_,rfl,AM.of (by rw [Im,T5]),_,rfl,D2,_,rfl,AM.of (by rw [sc _ _ Ri,ea]),_,_,rfl,rfl,_,rfl,_,rfl,D,_,rfl,ET.t (k:=ss.map Sum.inr) Xz (by rw [RU]; exact sall _ _ VD) ?_,?_⟩
     ·have:=congrArg Zh kk;rw [XJ,XJ,Y7] at this;lia
     have nin:ss.map Sum.inr ∉ kvs.map (·.1):=by
      rw [kk];intro hm;obtain ⟨s2,VA,e2⟩:=Yc.mp hm;have e2:=N1 e2;subst e2;obtain ⟨b,hb,eb⟩:=Yq VA;rw [Y7] at hb;rw [Z0] at eb;have Ez:b < os.length:=by lia
      have e5:os[b]=os[i]:=eb.trans (Yo.inj ((XO hi).symm.trans es)).symm;have:=(az (i:=b) (j:=i) (h₀:=Ez) (h₁:=hi) ond).mp e5;lia
     rw [HD _ (KG nin)];refine hN _ _ ⟨_,_,kvs ++ [(ss.map Sum.inr,_)],rfl,fun b o' z=>by rw [Af (Ah z hD)]; exact sall _ _ z,Ab,?_,fun s2 v2 hm=>?_⟩
     ·rw [Yi,kk,Yx,es,Yi];rfl
     ·rcases Yt.mp hm with hm | hm
      ·exact kt s2 v2 hm
      ·simp only [Yn,Prod.mk.injEq] at hm;obtain ⟨e1,rfl⟩:=hm;have e1:=N1 e1;subst e1;exact ⟨_,rfl,ds,wd,rfl⟩
  ·rintro σ H' ⟨v9,v10,kvs,rfl,sa,AS,kk,kt⟩;rw [hul,Yu] at kk;exact ⟨_,rfl,k H' D kvs (Tj.trans sa) fD AS kk kt⟩
end
section
variable {P:Program} {w:World} {K:XU} {mg:Str->Option Value} {base:Heap}
theorem Lp (h_int:mg "int"=none) (h_len:mg "len"=none) (h_min:mg "min"=none) (h_tuple:mg "tuple"=none) {fT:Addr} {fdT:FuncData} (XT:Fn K mg "_law_take" AN ["_law_pen","_law_many_here"] fT fdT) (GT:A7 P w K mg base B9 1 fT fdT ["_law_pen","_law_many_here"] (DM K)) {fN:Addr} {fdN:FuncData} (XN:Fn K mg "_law_names" Dt ["_law_pen","_law_many_here"] fN fdN) (GN:A7 P w K mg base B9 2 fN fdN ["_law_pen","_law_many_here"] (KR K)) {fL:Addr} {fdL:FuncData} (XL:Fn K mg "_law_length" Cn ["_law_pen"] fL fdL) (GL:A7 P w K mg base B9 2 fL fdL ["_law_pen"] (Mc K)) {fS:Addr} {fdS:FuncData} (XS:Fn K mg "_law_some" DN ["_law_pen","_law_names_here","_law_many_here"] fS fdS) (GS:A7 P w K mg base B9 2 fS fdS ["_law_pen","_law_names_here","_law_many_here"] (MR K)) {fM:Addr} {fdM:FuncData} (XM:Fn K mg "_law_map" Cy ["_law_pen","_law_names_here","_law_shape"] fM fdM) (GM:A7 P w K mg base B9 3 fM fdM ["_law_pen","_law_names_here","_law_shape"] (Qf K)) {f:Addr} {fd:FuncData} (F:Ek K "_law_case" "_law_case" DP f fd):A7 P w K mg base B9 4 f fd ["_law_pen","_law_shape"] (MT K):=by
 refine F.ok Gy (fun vs H Q E h=>?_) (fun cdv A outer s H vs Q E hr h=>?_)
 ·obtain ⟨p,sh,rfl,_⟩:=h;rfl
 ·obtain ⟨p,sh,rfl,hP,Wg,sh4,k⟩:=h;have nd:=Gy.nd;have big:100000 < sizeLine:=by decide
  refine ⟨_,(Ae (Ar (i:=2) nd rfl (Or.inl rfl) (Aj GN (hr.mono (by decide)) (by rfl) XN.mg XN.F.kp XN.b .nil As (Aa (pv 0) (Aa (Av Bh Ag (Aj GT (hr.mono (by decide)) (by rfl) XT.mg XT.F.kp XT.b .nil As (Aa (pv 0) (Aa Ag Ac)))) Ac))))
  (Ae (Ar (i:=3) nd rfl (Or.inl rfl) (Aj GM (hr.mono (by decide)) (by rfl) XM.mg XM.F.kp XM.b .nil As (Aa (pv 0) (Aa (pv 2) (Aa (pv 1) Ac)))))
  (Ae (Ar (i:=4) nd rfl (Or.inl rfl) (Aj GT (hr.mono (by decide)) (by rfl) XT.mg XT.F.kp XT.b .nil As (Aa (pv 0) (Aa Ag Ac))))
  (Ae (Ar (i:=5) nd rfl (Or.inl rfl) (BF Ac))
  (Ae (Cb PassesOwn.never rfl (Cp K rfl (Aj GS (hr.mono (by decide)) (by rfl) XS.mg XS.F.kp XS.b .nil As (Aa (pv 0) (Aa (pv 2) (Aa (Av Bh Ag (Aj GT (hr.mono (by decide)) (by rfl) XT.mg XT.F.kp XT.b .nil As (Aa (pv 0) (Aa (Ak (Gp rfl) (by rfl) h_min PyProof.Rows.boot_min (Aa Ag (Aa (Ak (Aw K rfl) (by rfl) h_len PySem.boot_len (Aa (pv 2) Ac)) Ac))) Ac)))) Ac))))) (Ai (i:=6) nd rfl (Or.inl rfl))
  (Al (Hj (HK PySem.F.plainAttrs_list PySem.F.slot_list_append PySem.F.type_list_append C1 (pv 5) (Aa (Ba (Aa (pv 6) (Aa (A9 (AX K rfl) (BF (Aa Ag (Aa (Aj GT (hr.mono (by decide)) (by rfl) XT.mg XT.F.kp XT.b .nil As (Aa (pv 0) (Aa Ag Ac))) (Aa (Aj GT (hr.mono (by decide)) (by rfl) XT.mg XT.F.kp XT.b .nil As (Aa (pv 0) (Aa Ag Ac))) (Aa (Av HP (Aj GL (hr.mono (by decide)) (by rfl) XL.mg XL.F.kp XL.b .nil As (Aa (pv 0) Ac)) Ag) Ac))))) (pv 4) (fun _ _=>rfl)) Ac))) Ac)))))
  (Ae (Ar (i:=7) nd rfl (Or.inl rfl) (BF Ac))
  (Ae (Cb PassesOwn.never rfl (Cp K rfl (Aj GS (hr.mono (by decide)) (by rfl) XS.mg XS.F.kp XS.b .nil As (Aa (pv 0) (Aa (pv 2) (Aa (Av Bh Ag (Aj GT (hr.mono (by decide)) (by rfl) XT.mg XT.F.kp XT.b .nil As (Aa (pv 0) (Aa (Ak (Gp rfl) (by rfl) h_min PyProof.Rows.boot_min (Aa Ag (Aa (Ak (Aw K rfl) (by rfl) h_len PySem.boot_len (Aa (pv 2) Ac)) Ac))) Ac)))) Ac))))) (Ai (i:=6) nd rfl (Or.inl rfl))
  (Al (Hj (HK PySem.F.plainAttrs_list PySem.F.slot_list_append PySem.F.type_list_append C1 (pv 7) (Aa (Ba (Aa (pv 6) (Aa (A9 (AX K rfl) (BF (Aa (Av Bh Ag (Aj GT (hr.mono (by decide)) (by rfl) XT.mg XT.F.kp XT.b .nil As (Aa (pv 0) (Aa Ag Ac)))) (Aa (Aj GL (hr.mono (by decide)) (by rfl) XL.mg XL.F.kp XL.b .nil As (Aa (pv 0) Ac)) Ac))) (A0 EM (by rfl) h_int PyProof.Rows.boot_int (Aa (EJ Ll (Aj GT (hr.mono (by decide)) (by rfl) XT.mg XT.F.kp XT.b .nil As (Aa (pv 0) (Aa Ag Ac))) Ag (Bl _)) Ac)) (fun _ _=>rfl)) Ac))) Ac)))))
  (Ae (Ar (i:=8) nd rfl (Or.inl rfl) (A9 (AX K rfl) (BF (Aa Kl (Aa (Av Bh Ag (Aj GT (hr.mono (by decide)) (by rfl) XT.mg XT.F.kp XT.b .nil As (Aa (pv 0) (Aa (Ak (Aw K rfl) (by rfl) h_len PySem.boot_len (Aa (pv 5) Ac)) Ac)))) (Aa (Av Bh Ag (Aj GT (hr.mono (by decide)) (by rfl) XT.mg XT.F.kp XT.b .nil As (Aa (pv 0) (Aa Ag Ac)))) Ac)))) (Aj GT (hr.mono (by decide)) (by rfl) XT.mg XT.F.kp XT.b .nil As (Aa (pv 0) (Aa Ag Ac))) (fun _ _=>rfl)))
  (Al (A5 (Ba (Aa (pv 3) (Aa (A0 (AG K rfl) (by rfl) h_tuple PyProof.Rows.boot_tuple (Aa (pv 5) Ac)) (Aa (A0 (AG K rfl) (by rfl) h_tuple PyProof.Rows.boot_tuple (Aa (pv 7) Ac)) (Aa (pv 8) Ac))))))))))))))),?_⟩
  have t30:(100:Int) < 10 ^ 30:=by decide
  refine ⟨_,rfl,_,rfl,p,9,rfl,hP,by decide,by decide,fun d1 H1 P1 k1 d10 d11=>⟨_,_,rfl,rfl,?_⟩⟩;obtain ⟨n1,rfl⟩:∃ n:Nat,d1=n:=⟨d1.toNat,by lia⟩
  refine ⟨p,1 + n1,rfl,P1,by lia,fun H2 D xs P2 k2 fD hD xl xnd xnm=>?_⟩;have nD:D ≠ p:=P1.ne fD;refine ⟨_,rfl,_,rfl,_,rfl,p,D,xs,sh,rfl,P2,hD,nD,xnd,xnm,by lia,by lia,Wg,sh4,fun H3 m ps ws P3 k3 pp mw=>?_⟩;have FN:=k3 _ _ nD hD;have q3:=(k1.trans k2).trans k3;refine ⟨_,rfl,p,4,rfl,P3,by decide,by decide,fun wy H4 P4 k4 wy0 wy4=>?_⟩;have q4:=q3.trans k4;have mw4:=mw.keepT (Gu P3 k4);have M3:=k4 _ _ nD FN;clear mw FN hD k1 k2 k3 k4 q3 P1 P2 P3 fD;refine ⟨(by show 0<=sizeLine; lia),fun R hR=>?_⟩;have nR:R ≠ p:=P4.ne hR;have nRD:R ≠ D:=fun z=>by rw [z,M3] at hR; cases hR
  have s5:=Ad (o:=.lst []) hR;have P5:=P4.same s5;have WX:=mw4.keepT (fun b ys z=>s5 _ _ z);have L5:=s5 _ _ M3;have Wx:(upd H4 R (.lst [])) R=some (.lst []):=Ab;have q5:AZ p H (upd H4 R (.lst [])):=q4.trans (AZ.of_same s5);have frR:H R=none:=by
   cases z:H R with
   | none=>rfl
   | some o=>rw [q4 _ _ nR z] at hR; cases hR
  generalize upd H4 R (.lst [])=H5 at P5 WX L5 Wx q5;clear mw4 M3 hR s5 P4 q4;have lx:((xs.map V.str).length:Int)=1 + (n1:Int):=by rw [XJ,xl]; lia
  refine ⟨_,rfl,_,rfl,_,rfl,_,rfl,D,_,rfl,.inl (AM.of L5),_,_,rfl,p,_,rfl,P5,by rw [lx]; split <;> lia,by rw [lx]; split <;> lia,fun d2 H6 P6 k6 d20 W7=>⟨_,_,rfl,rfl,?_⟩⟩;rw [lx] at W7;obtain ⟨n2,rfl⟩:∃ n:Nat,d2=n:=⟨d2.toNat,by lia⟩
  have n2b:1 + n2<=xs.length/\n2 < 6:=by
   rw [xl];split at W7 <;> lia
  refine ⟨p,D,xs,1 + n2,rfl,P6,k6 _ _ nD L5,nD,by lia,n2b.1,fun H7 D1 ys zs P7 k7 W2 Tz pm yl so=>⟨D1,rfl,⟨_,AM.of Tz⟩,?_⟩⟩;have V2:=k6.trans k7;have mw7:=WX.keepT (Gu P5 V2);have Vc:=V2 _ _ nD L5;have Xu:=V2 _ _ nR Wx;have q7:=q5.trans V2;have nD1:D1 ≠ p:=P6.ne W2;have nDR:D1 ≠ R:=fun z=>by rw [z,k6 _ _ nR Wx] at W2; cases W2
  clear WX L5 Wx q5 k6 k7 V2 P5 P6 W2;refine FO (xs:=ys.map V.str) (fun i σ H'=>∃ (v6:Option V) (rs:List Cj) (vs:List V),σ=[some (.ref p),some (.int sh),some (.ref D),some (.ref m),some (.int wy),some (.ref R),v6,none,none]/\R5 K H7 H' p R rs vs/\rs.map (·.1)=ys.take i/\vs.length=i/\∀ r ∈ rs,0<=r.2/\r.2 < 10 ^ 30)
   ⟨_,[],[],rfl,⟨P7,fun b o _ _ z=>z,Xu,.nil,nR⟩,rfl,rfl,fun r hr=>nomatch hr⟩ (fun i σ H' _ ⟨_,_,_,_,r5,_⟩=>AM.of (r5.kp _ _ nD1 nDR Tz)) ?_ ?_
  ·rintro i v σ H' hv ⟨v6,rs,vs,rfl,r5,rt,vl,rl⟩;obtain ⟨y,ey,rfl⟩:∃ y,ys[i]? = some y/\v=.str y:=by
    rw [Yd] at hv;cases ex:ys[i]? with
    | none=>rw [ex] at hv; cases hv
    | some x=>rw [ex] at hv; exact ⟨x,rfl,(Yo.inj hv).symm⟩
   have ii:=(Yb.mp ey).1;refine ⟨_,rfl,.inl ⟨rfl,_,AM.of r5.hR⟩,_,rfl,_,rfl,p,5,rfl,r5.pn,by decide,by decide,fun e1 Ha Pa ka e10 e11=>?_⟩;refine ⟨_,rfl,p,40,rfl,Pa,by decide,by decide,fun e2 Hb Pb kb e20 e21=>?_⟩;refine ⟨_,rfl,p,rfl,Pb,fun le Hc Pc kc le1 V0=>⟨_,_,rfl,rfl,(by show 4<=sizeLine; lia),fun T hT=>?_⟩⟩;have rc:=r5.step Pc ((ka.trans kb).trans kc);obtain ⟨a,ha,a0,XC⟩:∃ a:Int,K8 [V.int 0,V.int e1,V.int e2,V.int (le - 1)] wy=some (.int a)/\0<=a/\a < 10 ^ 30:=by
    have c:wy=0\/wy=1\/wy=2\/wy=3:=by lia
    rcases c with rfl | rfl | rfl | rfl
    ·exact ⟨0,rfl,by lia,by lia⟩
    ·exact ⟨e1,rfl,by lia,by lia⟩
    ·exact ⟨e2,rfl,by lia,by lia⟩
    ·exact ⟨le - 1,rfl,by lia,by lia⟩
   have rd:=rc.add hT (.lst [.int 0,.int e1,.int e2,.int (le - 1)]);refine ⟨_,rfl,T,_,_,_,rfl,rfl,AM.of Ab,ha,(by show 2<=sizeLine; lia),fun T2 N3=>?_⟩;have re:=rd.add N3 (.tup [.str y,.int a]);refine ⟨R,_,_,rfl,rfl,re.hR,by lia,?_⟩;refine ⟨_,rs ++ [(y,a)],_,rfl,re.app Ab,by rw [Yi,rt,Yx,ey]; rfl,by rw [XZ,vl]; rfl,fun r hr=>?_⟩;rcases Yt.mp hr with hr | hr
   ·exact rl r hr
   ·rw [Yn.mp hr]; exact ⟨a0,XC⟩
  rintro σ H8 ⟨v6,rs1,WC,rfl,r8,Wl,vl1,rl1⟩;rw [XJ,Yu] at Wl;rw [XJ] at vl1;have rs1l:rs1.length=ys.length:=by rw [<-Wl,XJ]
  have tp8:∀ b xs,H7 b=some (.tup xs)->H8 b=some (.tup xs):=fun b xs z=>r8.kp b _ (by obtain ⟨_,_,_,_,y,_⟩:=P7; exact BI z y (fun q=>by cases q)) (BI z Xu (fun q=>by cases q)) z
  have mw8:=mw7.keepT tp8;have Vb:=r8.kp _ _ nD nRD.symm Vc;have q8:AZ p H H8:=fun b o hb z=>r8.kp b o hb (Ah z frR) (q7 b o hb z)
  have P8:=r8.pn;have Xt:=r8.hR;have dd8:=r8.dd;have ok1:Gr ps 0 rs1:=FA pm xnd Wl rl1 (by lia) pp;clear r8 mw7 Vc Xu tp8 Tz nDR nD1 q7 P7;refine ⟨(by show 0<=sizeLine; lia),fun R2 S7=>?_⟩;have Vw:R2 ≠ p:=P8.ne S7;have nR2D:R2 ≠ D:=fun z=>by rw [z,Vb] at S7; cases S7
  have nRR:R ≠ R2:=fun z=>by rw [<-z,Xt] at S7; cases S7
  have s9:=Ad (o:=.lst []) S7;have P9:=P8.same s9;have WW:=mw8.keepT (fun b ys z=>s9 _ _ z);have Wy:=s9 _ _ Vb;have Xs:=s9 _ _ Xt;have X9:=BW dd8 (fun b ys z=>s9 _ _ z);have S6:(upd H8 R2 (.lst [])) R2=some (.lst []):=Ab;have q9:AZ p H (upd H8 R2 (.lst [])):=q8.trans (AZ.of_same s9);have X3:H R2=none:=by
   cases z:H R2 with
   | none=>rfl
   | some o=>rw [q8 _ _ Vw z] at S7; cases S7
  generalize upd H8 R2 (.lst [])=H9 at P9 WW Wy Xs X9 S6 q9;clear mw8 Vb Xt dd8 q8 P8 s9 S7;refine ⟨_,rfl,_,rfl,_,rfl,_,rfl,D,_,rfl,.inl (AM.of Wy),_,_,rfl,p,_,rfl,P9,by rw [lx]; split <;> lia,by rw [lx]; split <;> lia,fun d3 Pp XE k10 d30 d31=>⟨_,_,rfl,rfl,?_⟩⟩;rw [lx] at d31;obtain ⟨n3,rfl⟩:∃ n:Nat,d3=n:=⟨d3.toNat,by lia⟩
  have n3b:1 + n3<=xs.length/\n3 < 8:=by
   rw [xl];split at d31 <;> lia
  refine ⟨p,D,xs,1 + n3,rfl,XE,k10 _ _ nD Wy,nD,by lia,n3b.1,fun Ta D2 Vh W9 XD k11 W0 JE Wn yl2 so2=>⟨D2,rfl,⟨_,AM.of JE⟩,?_⟩⟩;have OM:=k10.trans k11;have Vy:=WW.keepT (Gu P9 OM);have VP:=OM _ _ nR Xs;have VX:=BW X9 (Gu P9 OM);have Rh:=OM _ _ Vw S6;have q11:=q9.trans OM;have nD2:D2 ≠ p:=XE.ne W0;have Vx:D2 ≠ R2:=fun z=>by rw [z,k10 _ _ Vw S6] at W0; cases W0
  clear WW Wy Xs X9 S6 q9 P9 XE k10 k11 OM W0;refine FO (xs:=Vh.map V.str) (fun i σ H'=>∃ (v6:Option V) (rs:List Cj) (vs:List V),σ=[some (.ref p),some (.int sh),some (.ref D),some (.ref m),some (.int wy),some (.ref R),v6,some (.ref R2),none]/\R5 K Ta H' p R2 rs vs/\rs.map (·.1)=Vh.take i/\vs.length=i/\∀ r ∈ rs,1<=r.2/\r.2 < 10 ^ 30)
   ⟨_,[],[],rfl,⟨XD,fun b o _ _ z=>z,Rh,.nil,Vw⟩,rfl,rfl,fun r hr=>nomatch hr⟩ (fun i σ H' _ ⟨_,_,_,_,r5,_⟩=>AM.of (r5.kp _ _ nD2 Vx JE)) ?_ ?_
  ·rintro i v σ H' hv ⟨v6,rs,vs,rfl,r5,rt,vl,rl⟩;obtain ⟨y,ey,rfl⟩:∃ y,Vh[i]? = some y/\v=.str y:=by
    rw [Yd] at hv;cases ex:Vh[i]? with
    | none=>rw [ex] at hv; cases hv
    | some x=>rw [ex] at hv; exact ⟨x,rfl,(Yo.inj hv).symm⟩
   have ii:=(Yb.mp ey).1;refine ⟨_,rfl,.inl ⟨rfl,_,AM.of r5.hR⟩,_,rfl,_,rfl,p,4,rfl,r5.pn,by decide,by decide,fun e1 Ha Pa ka e10 e11=>⟨_,_,rfl,rfl,?_⟩⟩;refine ⟨_,rfl,p,rfl,Pa,fun le Hc Pc kc le1 V0=>⟨(by show 2<=sizeLine; lia),fun T hT=>?_⟩⟩;have rd:=(r5.step Pc (ka.trans kc)).add hT (.lst [.int (1 + e1),.int le]);have nT:T ≠ p:=Pc.ne hT;have Pw:(upd Hc T (.lst [.int (1 + e1),.int le])) T=some (.lst [.int (1 + e1),.int le]):=Ab;generalize upd Hc T (.lst [.int (1 + e1),.int le])=Hd at rd Pw;refine ⟨_,rfl,p,5,rfl,rd.pn,by decide,by decide,fun e3 He Pe ke e30 e31=>⟨rfl,.inr ⟨_,rfl,?_⟩⟩⟩;have re:=rd.step Pe ke;have hTe:=ke _ _ nT Pw;obtain ⟨a,ha,a0,XC⟩:∃ a:Int,K8 [V.int (1 + e1),V.int le] (if decide (V.int e3=V.int 0)=true then 1 else 0)=some (.int a)/\1<=a/\a < 10 ^ 30:=by
    split
    ·exact ⟨le,rfl,le1,V0⟩
    ·exact ⟨1 + e1,rfl,by lia,by lia⟩
   refine ⟨T,_,_,_,rfl,rfl,AM.of hTe,ha,(by show 2<=sizeLine; lia),fun T2 N3=>?_⟩;have rf:=re.add N3 (.tup [.str y,.int a]);refine ⟨R2,_,_,rfl,rfl,rf.hR,by lia,?_⟩;refine ⟨_,rs ++ [(y,a)],_,rfl,rf.app Ab,by rw [Yi,rt,Yx,ey]; rfl,by rw [XZ,vl]; rfl,fun r hr=>?_⟩;rcases Yt.mp hr with hr | hr
   ·exact rl r hr
   ·rw [Yn.mp hr]; exact ⟨a0,XC⟩
  rintro σ H12 ⟨v6',A2,Wd,rfl,Uk,Vp,vl2,rl2⟩;rw [XJ,Yu] at Vp;rw [XJ] at vl2;have rs2l:A2.length=Vh.length:=by rw [<-Vp,XJ]
  have TN:∀ b xs,Ta b=some (.tup xs)->H12 b=some (.tup xs):=fun b xs z=>Uk.kp b _ (by obtain ⟨_,_,_,_,y,_⟩:=XD; exact BI z y (fun q=>by cases q)) (BI z Rh (fun q=>by cases q)) z
  have WY:=Vy.keepT TN;have VO:=Uk.kp _ _ nR nRR VP;have XA:=BW VX TN;have q12:AZ p H H12:=fun b o hb z=>Uk.kp b o hb (Ah z X3) (q11 b o hb z)
  have P12:=Uk.pn;have VN:=Uk.hR;have X8:=Uk.dd;have ok2:Gr ps 1 A2:=FA Wn xnd Vp rl2 (by lia) pp;clear Uk Vy VP VX Rh q11 XD TN JE nD2 Vx;refine ⟨_,rfl,_,rfl,R,_,rfl,.inl (AM.of VO),p,_,rfl,P12,by lia,by lia,fun f1 H13 P13 k13 f10 f11=>⟨_,_,rfl,rfl,?_⟩⟩;refine ⟨_,rfl,p,12,rfl,P13,by decide,by decide,fun f2 H14 P14 k14 f20 f21=>⟨_,_,rfl,rfl,(by show 3<=sizeLine; lia),fun T hT=>?_⟩⟩;have UW:=Ad (o:=.lst [.non,.int (1 + f1),.int (1 + f2)]) hT;have P15:=P14.same UW;have nT:T ≠ p:=P14.ne hT;have Pw:(upd H14 T (.lst [.non,.int (1 + f1),.int (1 + f2)])) T=some (.lst [.non,.int (1 + f1),.int (1 + f2)]):=Ab;have k15:=(k13.trans k14).trans (AZ.of_same UW);generalize upd H14 T (.lst [.non,.int (1 + f1),.int (1 + f2)])=H15 at P15 Pw k15;refine ⟨_,rfl,p,3,rfl,P15,by decide,by decide,fun f3 H16 P16 k16 f30 f31=>?_⟩;obtain ⟨x,d,hx,lim⟩:∃ (x:V) (d:PyData),K8 [V.non,V.int (1 + f1),V.int (1 + f2)] f3=some x/\Lim x d:=by
   have c:f3=0\/f3=1\/f3=2:=by lia
   rcases c with rfl | rfl | rfl
   ·exact ⟨_,_,rfl,.inl ⟨rfl,rfl⟩⟩
   ·exact ⟨_,_,rfl,.inr ⟨1 + f1,rfl,rfl,by lia,by lia⟩⟩
   ·exact ⟨_,_,rfl,.inr ⟨1 + f2,rfl,rfl,by lia,by lia⟩⟩
  refine ⟨T,_,_,x,rfl,rfl,AM.of (k16 _ _ nT Pw),hx,?_⟩;have kk:=k15.trans k16;have tt:=Gu P12 kk;have q16:=q12.trans kk;refine ⟨_,rfl,_,rfl,R,_,rfl,.inl ⟨AM.of (kk _ _ nR VO),fun t1 Ho=>?_⟩⟩;have s17:=Ad (o:=.tup WC) Ho;refine ⟨_,rfl,R2,_,rfl,.inl ⟨AM.of (s17 _ _ (kk _ _ Vw VN)),fun t2 IJ=>?_⟩⟩;have Wj:=Ad (o:=.tup Wd) IJ;refine ⟨_,rfl,(by show 4<=sizeLine; lia),fun c hc=>?_⟩;have WK:=Ad (o:=.tup [.ref m,.ref t1,.ref t2,x]) hc;have sa:=s17.trans (Wj.trans WK);refine k _ c m (1 + n1) ps ws rs1 A2 x d (P16.same sa) (q16.trans (AZ.of_same sa)) ⟨⟨⟨t1,t2,WC,Wd,Ab,WK _ _ (Wj _ _ Ab),BW XA fun b ys z=>sa _ _ (tt _ _ z),WK _ _ Ab,BW X8 fun b ys z=>sa _ _ (tt _ _ z)⟩,by rw [<-xl]; exact WY.keepT fun b ys z=>sa _ _ (tt _ _ z),by lia,by lia,ok1,ok2,by lia,by lia,lim⟩,by lia,by lia,by lia,by rw [Wl]; exact so,by rw [Vp]; exact so2⟩
end
end K45
namespace L2
open PySem PySem.Spec PyProof.Rows
theorem GX {X:Cx} (hc:X.calm=true):Bg X (.builtin "sorted") (fun xs H Q=>∃ (d:Addr) (kvs:List (List A6 × V)) (kd:Nat->Bool),xs=[.ref d]/\H d=some (.dT kvs)/\(∀ p ∈ kvs,p.1 ≠ []/\∀ (i:Nat) k,p.1[i]? = some k->LR (kd i) (kV k))/\kvs.length < 64 /\
  ∀ (l:Addr) (ts:List Addr) (ks:List (List A6)),H l=none->ks.Perm (kvs.map (·.1))->ts.length=ks.length->(∀ (i:Nat) t k,ts[i]? = some t->ks[i]? = some k->H t=some (.tup (k.map kV)))->Q (.ref l) (upd H l (.lst (ts.map V.ref)))):=by
 intro pins s σ H xs us Q I r h;obtain ⟨d,kvs,kd,rfl,hd,hk,IK,q⟩:=h;obtain ⟨u,rfl,ru⟩:=BR r;cases ru
 obtain ⟨z,y,xs,rel,o,es,ep,h1,h2,h3,h4,h5⟩:=(show A4 X.prog X.w H s.heap d (.dT kvs) from I.hok d _ hd)
 have rl:=Paired.length rel;have hlen:es.size=kvs.length:=by
  rw [<-Y0,h4,XJ];exact rl.symm
 have sm:∀ {l:List (List A6 × V)} {m:List (List A6 × Addr × Value)},Paired (fun (p:List A6 × V) (q:List A6 × Addr × Value)=>p.1=q.1/\H q.2.1=some (.tup (p.1.map kV))/\A1 p.2 q.2.2) l m->l.map (·.1)=m.map (·.1)/\∀ q ∈ m,H q.2.1=some (.tup (q.1.map kV)):=by
  intro l m r;induction r with
  | nil=>exact ⟨rfl,fun q hq=>nomatch hq⟩
  | cons a b ih=>
   refine ⟨by rw [Ym,Ym,a.1,ih.1],fun q hq=>?_⟩;rcases XX.mp hq with rfl | hq
   ·rw [<-a.1]; exact a.2.1
   ·exact ih.2 q hq
 obtain ⟨keq,kat⟩:=sm rel;have vals:∀ l:List (List A6 × Addr × Value),Az ((l.map (·.2.1)).map V.ref) (l.map fun q=>Value.ref q.2.1):=by
  intro l;induction l with
  | nil=>exact .nil
  | cons q l ih=>exact .cons rfl ih
 have tk:∀ v ∈ (xs.map (·.2.1)).map V.ref,MD H kd v:=fun v hv=>by
  obtain ⟨t,ht,rfl⟩:=Yc.mp hv;obtain ⟨q,hq,rfl⟩:=Yc.mp ht;have hm:q.1 ∈ kvs.map (·.1):=by rw [keq]; exact Z9 hq
  obtain ⟨p,hp,e⟩:=Yc.mp hm;obtain ⟨n1,n2⟩:=hk p hp;rw [e] at n1 n2;refine ⟨_,_,rfl,kat q hq,fun z=>n1 (List.map_eq_nil_iff.mp z),fun i y e=>?_⟩;rw [Yd] at e;cases w:q.1[i]? with
  | none=>rw [w] at e; cases e
  | some k=>rw [w] at e; rw [<-Yo.inj e]; exact n2 i k w
 have tu:=MN I (vals xs) tk;refine Calls.call_function_entry kind_sorted plain_sorted entry_sorted (args_sorted1 _) ?_;unfold Builtin.«sorted»;refine wpAny_bind (m:=checkCount "sorted" 1 1 _) (wpAny_pure ?_);refine wpAny_bind (PySem.W.kdu_collect (RZ (es:=es) (ep:=ep) y) (I.ok.hd hc) ⟨o,h1,h2,h3⟩ (by rw [hlen]; exact z) fun h' tk acc M1 hacc=>?_);have key:∀ (i:Nat) v,acc.toList[i]? = some v->∃ q,xs[i]? = some q/\v=.ref q.2.1:=fun i v e=>by
  have e2:=hacc.2 i v (by rw [<-YW]; exact e);dsimp only at e2;rw [<-YW,h4,Yd] at e2;cases z:xs[i]? with
  | none=>rw [z] at e2; cases e2
  | some q=>
   rw [z] at e2;exact ⟨q,rfl,(Yo.inj e2).symm⟩
 have al:acc.toList.length=xs.length:=by
  rw [Y0,hacc.1,<-Y0,h4,XJ]
 have av:acc.toList=xs.map fun q=>Value.ref q.2.1:=by
  refine Ze (by rw [al,XJ]) fun i i1 i2=>?_
  obtain ⟨q,e1,e2⟩:=key i _ (XO i1);rw [YU];rw [XO (by rw [<-al]; exact i1)] at e1;rw [e2,Yo.inj e1]
 have big:100000 < sizeLine:=by decide
 refine wpAny_bind (wpAny_newList ?_ (by rw [al]; lia));have hoL:(h'.push (seqObj "list" acc.toList.toArray 0)).get? h'.objs.size=some (seqObj "list" acc.toList.toArray 0):=Yf _ rfl;have keep:∀ b o,s.heap.get? b=some o->(h'.push (seqObj "list" acc.toList.toArray 0)).get? b=some o:=fun b o q=>XQ _ (M1 b o q)
 show wpAny _ _ _ _ _ { s with heap:=h'.push (seqObj "list" acc.toList.toArray 0),toks:=tk }
 refine wpAny_bind (wpAny_holding (wpAny_call_entry slot_list_sort ⟨_,hoL,rfl⟩ entry_list_sort (Fj (sw:=Kw (CK s.heap)) (s:={ s with heap:=h'.push (seqObj "list" acc.toList.toArray 0),toks:=tk }) hoL (by rw [al]; lia) (by rw [al]; lia) ?_ fun out o1 _=>⟨_,rfl,wpAny_pure ⟨_,rfl,?_⟩⟩) (args_list_sort _)))
 ·intro z2 h'' kp;exact Jq (s:={ s with toks:=tk }) (by rw [av]; exact tu) z2 _ h'' fun b o e=>kp b o (Yh (Ye (M1 b o e))) (keep b o e)
 ·rw [av] at o1;obtain ⟨PD,px,rfl⟩:=G3 _ o1.symm xs rfl;obtain ⟨e,he⟩:=sortedHeap_at (out:=(PD.map fun q=>Value.ref q.2.1).toArray) hoL;have gone:s.heap.get? h'.objs.size=none:=by
   cases z:s.heap.get? h'.objs.size with
   | none=>rfl
   | some o=>exact absurd (Ye (M1 _ _ z)) (YI _)
  have fl:H h'.objs.size=none:=by
   cases z:H h'.objs.size with
   | none=>rfl
   | some u=>
    obtain ⟨ob,e⟩:=A4.there (I.hok _ u z);rw [gone] at e;cases e
  obtain ⟨m,hlm⟩:=id I.loc;obtain ⟨oL,esL,epL,VE,rL⟩:=id hlm.1;have old:∀ b o,s.heap.get? b=some o->(sortedHeap (h'.push (seqObj "list" acc.toList.toArray 0)) h'.objs.size acc.toList (PD.map fun q=>Value.ref q.2.1).toArray).get? b=some o:=fun b o q=>by
   have q':=M1 b o q;have lt:=Ye q';rw [sortedHeap_old (Yh lt) (by rw [size_push']; exact Yy lt)];exact XQ _ q'
  have pl:=px.length_eq;have I2:=I.laidF (D:=h'.objs.size) (o:=.lst ((PD.map (·.2.1)).map V.ref)) hlm ⟨oL,esL,epL,old _ _ VE,rL⟩ (fun b ob _ q=>old b ob q) gone (fun z=>by rw [z,VE] at gone; cases gone)
   ⟨by rw [XJ,XJ,pl,<-rl]; exact z,_,e,vals PD,he⟩
  refine ⟨.ref h'.objs.size,_,I2.kept (t':=tk) fun b u q=>q,rfl,q h'.objs.size (PD.map (·.2.1)) (PD.map (·.1)) fl ?_ (by rw [XJ,XJ]) fun i t k e1 e2=>?_⟩
  ·rw [keq]; exact px.map _
  ·rw [Yd] at e1 e2;cases w:PD[i]? with
   | none=>rw [w] at e1; cases e1
   | some q=>
    rw [w] at e1 e2;rw [<-Yo.inj e1,<-Yo.inj e2];exact kat q (px.mem_iff.mp (XY w))
end L2
namespace K45
open PySem L2
section
variable {P:Program} {w:World} {K:XU} {mg:Str->Option Value} {base:Heap}
theorem Ux (h_sorted:mg "sorted"=none) (h_tuple:mg "tuple"=none) {f:Addr} {cdv:Value} {A:Around} {outer:List Env} {s:Shared} {H:Hp} {E:XK} (hr:Eb 2 (A.deeper (PyProof.Rows.envOfC "_law_map" (Am Cy) s.heap.objs.size f cdv))) :
  ∃ tl,LP (Jc B9 P w K mg base ["_law_pen","_law_names_here","_law_shape","_law_ways","_law_k","_law_other","_law_turn","_law_pair"] "_law_map" (Am Cy) f cdv A outer s H E).nox ((Ca Cy).drop 3) tl /\
   ∀ (W:ED) (H0 H1:Hp) (p e D:Addr) (xs:List Str) (us:List AF) (v2 v4 v5 v6 v7:Option V),M5 K H0 H1 p e D xs us->Ff xs us->us.length<=31->(∀ u ∈ us,u.2.2 < 10 ^ 30)->xs.Nodup->(∀ x ∈ xs,AV x=true)->xs.length<=26 ->
    (∀ (H':Hp) (m:Addr) (ps:List Str) (ws:List AF),Ec K H' p->AZ p H0 H'->ps.Perm xs->Hf H' m xs.length ps ws->W.rt (.ref m) H')->tl W [some (.ref p),some (.ref e),v2,some (.ref D),v4,v5,v6,v7] H1:=by
 have nd:=Fg.nd;have hu:=DH hr;have big:100000 < sizeLine:=by decide
 refine ⟨_,(Al (A5 (Ba (Aa (A0 (AG K rfl) (by rfl) h_tuple PyProof.Rows.boot_tuple (Aa (Ak BP (by rfl) h_sorted PyProof.Rows.boot_sorted (Aa (pv 1) Ac)) Ac)) (Aa (A0 (AG K rfl) (by rfl) h_tuple PyProof.Rows.boot_tuple (Aa (By (N:=["_law_pair","_law_ways"]) (σ0:=fun σ=>[none,some 3].map fun j=>j.bind fun j=>(σ[j]?).join) rfl (A8.caught (by rfl) (by decide +kernel) rfl (by decide +kernel) (by intro y hy; simp only [XX,Yg,or_false] at hy; rcases hy with rfl <;> rfl)
   (by intro y hy e; simp only [XX,Yg,or_false] at hy; rcases hy with rfl | rfl | rfl <;> first | exact ⟨_,rfl⟩ | cases e)) (fun σ _=>AR.of [none,some 3] rfl (by
   intro i j x h1 h2;match i,h1,h2 with
   | 0,_,h2=>cases h2
   | 1,h1,h2=>cases h1; cases h2; exact ⟨rfl,.inl rfl,.inl rfl⟩
   | n + 2,h1,_=>cases h1)) (Cp K rfl (Ak (GX rfl) (by rfl) h_sorted PyProof.Rows.boot_sorted (Aa (pv 3) Ac)))
   (fun s2 H C fp=>⟨(Ai (i:=0) (show (["_law_pair","_law_ways"]:List Str).Nodup by decide +kernel) rfl (Or.inl rfl)),AY,(Av (QM K rfl) (pv 0) (Ba (Aa (AJ hu (pv 1) (pv 0) (fun _ _=>rfl)) Ac)))⟩)) Ac)) Ac))))),?_⟩
 intro W H0 H1 p e D xs us v2 v4 v5 v6 v7 mi wc ul RB xnd xnm x26 k;refine ⟨_,rfl,e,xs,rfl,AM.of mi.he,by lia,fun l ps hl pm so=>⟨l,_,rfl,.inl ⟨AM.of Ab,fun T1 VL=>?_⟩⟩⟩;have m1:=(mi.add hl (.lst (ps.map V.str))).add VL (.tup (ps.map V.str));have VJ:(upd (upd H1 l (.lst (ps.map V.str))) T1 (.tup (ps.map V.str))) T1=some (.tup (ps.map V.str)):=Ab;generalize upd (upd H1 l (.lst (ps.map V.str))) T1 (.tup (ps.map V.str))=H2 at m1 VJ;refine ⟨_,rfl,D,_,fun _=>true,rfl,m1.hw,fun q hq=>?_,by rw [XJ]; lia,fun l2 ts ks Pt pk tl tt=>⟨l2,rfl,⟨_,AM.of Ab⟩,?_⟩⟩
 ·obtain ⟨u,_,rfl⟩:=Yc.mp hq;refine ⟨(fun z=>by cases z),fun i y ey=>?_⟩;have hm:=XY ey;have Wu:y ∈ [Sum.inr (BJ u.1 u.2.1),Sum.inr (BK u.1 u.2.1)]:=hm;simp only [XX,Yg,or_false] at Wu;rcases Wu with rfl | rfl
  ·exact ⟨_,rfl⟩
  ·exact ⟨_,rfl⟩
 have m2:=m1.add Pt (.lst (ts.map V.ref));have VF:(upd H2 l2 (.lst (ts.map V.ref))) l2=some (.lst (ts.map V.ref)):=Ab;have s2:=Ad (o:=.lst (ts.map V.ref)) Pt;have VI:=s2 _ _ VJ;generalize upd H2 l2 (.lst (ts.map V.ref))=H3 at m2 VF s2 VI;rw [Y2] at pk;obtain ⟨JW,pu,rfl⟩:=G3 _ pk.symm us rfl;have ulen:=pu.length_eq;rw [XJ] at tl;refine Bt C0 (xs:=ts.map V.ref) (fun B i σ H' acc=>∃ v0:Option V,σ=[v0,some (.ref D)]/\Au H3 H'/\H' B=some (.lst acc)/\acc.length=i/\Bd H' acc (((JW.take i).map Ex).map JV))
  (by rw [XJ]; lia) (fun B hB=>⟨_,rfl,Ad hB,Ab,rfl,.nil⟩) (fun B i σ H' acc hB ⟨v0,_,kp,M4,al,_⟩=>⟨AM.of (kp _ _ VF),M4,al⟩) ?_ ?_
 ·rintro B i σ H' acc x' Y hB ex ⟨v0,rfl,kp,M4,al,dd⟩ hY;obtain ⟨t,et,rfl⟩:∃ t,ts[i]? = some t/\x'=.ref t:=by
   rw [Yd] at ex;cases z:ts[i]? with
   | none=>rw [z] at ex; cases ex
   | some t=>rw [z] at ex; exact ⟨t,rfl,(Yo.inj ex).symm⟩
  have hi:i < JW.length:=by rw [<-tl]; exact (Yb.mp et).1
  obtain ⟨u,eu⟩:∃ u,JW[i]? = some u:=⟨_,XO hi⟩
  have ht:H2 t=some (.tup [.str (BJ u.1 u.2.1),.str (BK u.1 u.2.1)]):=tt i t (DG u) et (by rw [Yd,eu]; rfl);have ht':=kp _ _ (s2 _ _ ht);have um:u ∈ us:=pu.mem_iff.mp (XY eu);have dg:BM H' D (.ref t) (some (.int u.2.2)):=by
   rw [<-valW wc.2.1 um];exact BM.t (k:=DG u) (kp _ _ m2.hw) ht'
  refine ⟨_,rfl,_,rfl,_,rfl,D,_,rfl,dg,(by show 1<=sizeLine; lia),fun T2 N3=>?_⟩;refine ⟨t,T2,_,_,rfl,rfl,AE.of (Ad N3 _ _ ht'),AE.of Ab,by simp,by show 2 + 1<=sizeLine; lia,(fun z=>by cases z),fun _ T hT=>?_⟩;have s4:=(Ad (o:=.tup [.int u.2.2]) N3).trans (Ad (o:=.tup [.str (BJ u.1 u.2.1),.str (BK u.1 u.2.1),.int u.2.2]) hT);have Pw:(upd (upd H' T2 (.tup [.int u.2.2])) T (.tup [.str (BJ u.1 u.2.1),.str (BK u.1 u.2.1),.int u.2.2])) T=some (.tup [.str (BJ u.1 u.2.1),.str (BK u.1 u.2.1),.int u.2.2]):=Ab;show Y _ _ (upd (upd H' T2 (.tup [.int u.2.2])) T (.tup [.str (BJ u.1 u.2.1),.str (BK u.1 u.2.1),.int u.2.2]))
  generalize upd (upd H' T2 (.tup [.int u.2.2])) T (.tup [.str (BJ u.1 u.2.1),.str (BK u.1 u.2.1),.int u.2.2])=H5 at s4 Pw;have hB5:=s4 _ _ M4;have nT:T ≠ B:=BI Pw hB5 (fun z=>by cases z);refine hY _ _ _ hB5 ⟨_,rfl,fun b o z=>by rw [Af (Ah z hB)]; exact s4 _ _ (kp _ _ z),Ab,by rw [XZ,al]; rfl,?_⟩;rw [Yx,eu,Option.toList_some,Yi,Yi];refine FP (En dd fun b ys z=>?_) (.cons (.tup (vs:=[.str (BJ u.1 u.2.1),.str (BK u.1 u.2.1),.int u.2.2]) (by rw [Af nT]; exact Pw) ?_) .nil)
  ·rw [Af (BI z M4 (fun y=>by cases y))];exact s4 _ _ z
  ·exact .cons (.str _) (.cons (.str _) (.cons (.int _) .nil))
 ·rintro B σ H' acc hB ⟨v0,rfl,kp,M4,al,dd⟩;rw [XJ,tl,Yu] at dd;refine ⟨B,_,rfl,.inl ⟨AM.of M4,fun T hT=>⟨(by show 2<=sizeLine; lia),fun m hm=>?_⟩⟩⟩;have s5:=(Ad (o:=.tup acc) hT).trans (Ad (o:=.tup [.ref T1,.ref T]) hm);have s6:=kp.trans s5;have m6:=m2.step (m2.pn.same s6) (AZ.of_same s6);have pw:(JW.map Ex).Perm (us.map Ex):=pu.map _;refine k _ m ps (JW.map Ex) m6.pn m6.kp pm ⟨⟨⟨T1,T,acc,Ab,s6 _ _ VI,Ad hm _ _ Ab,En dd fun b ys z=>s5 _ _ z⟩,pm.length_eq,pm.nodup_iff.mpr xnd,fun x hx=>xnm x (pm.mem_iff.mp hx),by rw [XJ]; lia,fun w hw=>?_⟩,⟨xs,us,pm,pw,wc⟩,so,by rw [XJ]; lia⟩;have hn:=JH pw (fun u hu=>⟨(wc.1 u hu).1,(wc.1 u hu).2.1⟩) w hw;obtain ⟨u,Xh,rfl⟩:=Yc.mp hw;have um:=pu.mem_iff.mp Xh;exact ⟨xnm _ hn.1,xnm _ hn.2,(wc.1 u um).2.2.2,RB u um⟩
theorem Mo (h_int:mg "int"=none) (h_len:mg "len"=none) (h_max:mg "max"=none) (h_range:mg "range"=none) (h_sorted:mg "sorted"=none) (h_tuple:mg "tuple"=none) {fT:Addr} {fdT:FuncData} (XT:Fn K mg "_law_take" AN ["_law_pen","_law_many_here"] fT fdT) (GT:A7 P w K mg base B9 1 fT fdT ["_law_pen","_law_many_here"] (DM K)) {fL:Addr} {fdL:FuncData} (XL:Fn K mg "_law_length" Cn ["_law_pen"] fL fdL) (GL:A7 P w K mg base B9 2 fL fdL ["_law_pen"] (Mc K)) {f:Addr} {fd:FuncData} (F:Ek K "_law_map" "_law_map" Cy f fd):A7 P w K mg base B9 3 f fd ["_law_pen","_law_names_here","_law_shape"] (Qf K):=by
 refine F.ok Fg (fun vs H Q E h=>?_) (fun cdv A outer s H vs Q E hr h=>?_)
 ·obtain ⟨p,e,xs,sh,rfl,_⟩:=h;rfl
 ·obtain ⟨p,e,xs,sh,rfl,P0,he,nep,xnd,xnm,x1,x26,Wg,sh4,k⟩:=h;have nd:=Fg.nd;have hu:=DH hr;have big:100000 < sizeLine:=by decide
  obtain ⟨tE,hE,kE⟩:=Ux (P:=P) (w:=w) (K:=K) (mg:=mg) (base:=base) h_sorted h_tuple (f:=f) (cdv:=cdv) (A:=A) (outer:=outer) (s:=s) (H:=H) (E:=E) hr;refine ⟨_,(Ae (Ar (i:=3) nd rfl (Or.inr rfl) Li)
  (Ae (Cb PassesOwn.never rfl (O4 (by rfl) h_range (Aa Ag (Aa (Ak (Aw K rfl) (by rfl) h_len PySem.boot_len (Aa (pv 1) Ac)) Ac))) (Ai (i:=4) nd rfl (Or.inl rfl))
  (Ae (Ar (i:=5) nd rfl (Or.inl rfl) (A9 (AX K rfl) (BF (Aa (Av HP (pv 4) Ag) (Aa (Aj GT (hr.mono (by decide)) (by rfl) XT.mg XT.F.kp XT.b .nil As (Aa (pv 0) (Aa (pv 4) Ac))) (Aa (Ak (Pn rfl) (by rfl) h_max PyProof.Rows.boot_max (Aa Ag (Aa (Av HP (Av HP (pv 4) Ag) (Aj GT (hr.mono (by decide)) (by rfl) XT.mg XT.F.kp XT.b .nil As (Aa (pv 0) (Aa Ag Ac)))) Ac))) (Aa Ag Ac))))) (pv 2) (fun _ _=>rfl)))
  (Al (CS hu (pv 3) (A0 (AG K rfl) (by rfl) h_tuple PyProof.Rows.boot_tuple (Aa (Ak DJ (by rfl) h_sorted PyProof.Rows.boot_sorted (Aa (BF (Aa (A9 (AX K rfl) (pv 1) (pv 4) (fun _ _=>rfl)) (Aa (A9 (AX K rfl) (pv 1) (pv 5) (fun _ _=>rfl)) Ac))) Ac)) Ac)) (Aj GL (hr.mono (by decide)) (by rfl) XL.mg XL.F.kp XL.b .nil As (Aa (pv 0) Ac)) rfl))))
  (Ae (Cb PassesOwn.never rfl (CV (by rfl) h_range (Aa (Av De (Aj GT (hr.mono (by decide)) (by rfl) XT.mg XT.F.kp XT.b .nil As (Aa (pv 0) (Aa Ag Ac))) (A0 EM (by rfl) h_int PyProof.Rows.boot_int (Aa (EJ QL (pv 2) Ag (Bl _)) Ac))) Ac)) (Ai (i:=6) nd rfl (Or.inl rfl))
  (Ae (Ar (i:=7) nd rfl (Or.inl rfl) (A0 (AG K rfl) (by rfl) h_tuple PyProof.Rows.boot_tuple (Aa (Ak DJ (by rfl) h_sorted PyProof.Rows.boot_sorted (Aa (BF (Aa (A9 (AX K rfl) (pv 1) (Aj GT (hr.mono (by decide)) (by rfl) XT.mg XT.F.kp XT.b .nil As (Aa (pv 0) (Aa (Ak (Aw K rfl) (by rfl) h_len PySem.boot_len (Aa (pv 1) Ac)) Ac))) (fun _ _=>rfl)) (Aa (A9 (AX K rfl) (pv 1) (Aj GT (hr.mono (by decide)) (by rfl) XT.mg XT.F.kp XT.b .nil As (Aa (pv 0) (Aa (Ak (Aw K rfl) (by rfl) h_len PySem.boot_len (Aa (pv 1) Ac)) Ac))) (fun _ _=>rfl)) Ac))) Ac)) Ac)))
  (Al (Dd (Um (Bm J3 (A9 (AO K rfl) (pv 7) Ag (fun _ _=>rfl)) (A9 (AO K rfl) (pv 7) Ag (fun _ _=>rfl)) (Bl _)) (Se (HF (J2 hu (pv 7) (pv 3))))).pt
  (Al (CS hu (pv 3) (pv 7) (Aj GL (hr.mono (by decide)) (by rfl) XL.mg XL.F.kp XL.b .nil As (Aa (pv 0) Ac)) rfl))
  Bw))))
  hE))),?_⟩
  intro D hD;have m0:M5 K H (upd H D (.dT [])) p e D xs []:=⟨P0.same (Ad hD),Ad hD _ _ he,Ab,AZ.of_same (Ad hD),nep,P0.ne hD,hD⟩
  generalize upd H D (.dT [])=H1 at m0;refine ⟨_,rfl,e,_,rfl,.inl (AM.of m0.he),_,_,rfl,⟨by lia,by lia,by rw [XJ]; lia,by rw [XJ]; lia⟩,?_⟩;refine CY (lo:=1) (fun j σ H'=>∃ (v4 v5 v6 v7:Option V) (us:List AF),σ=[some (.ref p),some (.ref e),some (.int sh),some (.ref D),v4,v5,v6,v7]/\M5 K H H' p e D xs us/\us.length=j/\GZ xs (j + 1) us/\∀ u ∈ us,u.2.2 < 10 ^ 30)
   ⟨_,_,_,_,[],rfl,m0,rfl,GZ.nil xs,fun u hu=>nomatch hu⟩ ?_ ?_
  ·rintro j σ H' hj ⟨v4,v5,v6,v7,us,rfl,mi,ul,tr,RB⟩;rw [XJ] at hj;have IZ:j + 1 < xs.length:=by lia
   refine ⟨_,rfl,_,_,rfl,rfl,_,rfl,_,rfl,p,_,rfl,mi.pn,by lia,by lia,fun d H2 P2 k2 d0 d1=>?_⟩;refine ⟨_,rfl,_,_,rfl,rfl,_,rfl,p,2,rfl,P2,by decide,by decide,fun d' H3 P3 k3 d'0 d'1=>⟨_,_,rfl,rfl,_,_,rfl,?_⟩⟩;have UZ:=mi.step P3 (k2.trans k3);clear mi P2 k2 k3;refine ⟨(by show 4<=sizeLine; lia),fun T hT=>?_⟩;have UY:=UZ.add hT (.lst [.int (1 + (j:Int) - 1),.int d,.int (if 1 + (j:Int) - 1 - d' > 0 then 1 + (j:Int) - 1 - d' else 0),.int 0]);have Pw:(upd H3 T (.lst [.int (1 + (j:Int) - 1),.int d,.int (if 1 + (j:Int) - 1 - d' > 0 then 1 + (j:Int) - 1 - d' else 0),.int 0])) T=some (.lst [.int (1 + (j:Int) - 1),.int d,.int (if 1 + (j:Int) - 1 - d' > 0 then 1 + (j:Int) - 1 - d' else 0),.int 0]):=Ab;obtain ⟨o,hv,o0⟩:∃ o:Nat,K8 [V.int (1 + (j:Int) - 1),V.int d,V.int (if 1 + (j:Int) - 1 - d' > 0 then 1 + (j:Int) - 1 - d' else 0),V.int 0] sh=some (.int (o:Int))/\o < j + 1:=by
    have c:sh=0\/sh=1\/sh=2\/sh=3:=by lia
    rcases c with rfl | rfl | rfl | rfl
    ·exact ⟨j,by show some (V.int _)=_; rw [show 1 + (j:Int) - 1=(j:Int) by lia],by lia⟩
    ·exact ⟨d.toNat,by show some (V.int _)=_; rw [bB d0],by lia⟩
    ·refine ⟨(if 1 + (j:Int) - 1 - d' > 0 then 1 + (j:Int) - 1 - d' else 0).toNat,?_,?_⟩
     ·show some (V.int _)=_
      rw [bB (by split <;> lia)]
     ·split <;> lia
    ·exact ⟨0,rfl,by lia⟩
   generalize upd H3 T (.lst [.int (1 + (j:Int) - 1),.int d,.int (if 1 + (j:Int) - 1 - d' > 0 then 1 + (j:Int) - 1 - d' else 0),.int 0])=H4 at UY Pw;refine ⟨_,rfl,T,_,_,_,rfl,rfl,AM.of Pw,hv,?_⟩;refine ⟨_,rfl,p,rfl,UY.pn,fun le H5 P5 k5 l1 l30=>?_⟩;have WZ:=UY.step P5 k5;have ea:(xs.map V.str)[j + 1]? = some (.str xs[j + 1]):=by rw [Yd,XO IZ]; rfl
   have eo:(xs.map V.str)[o]? = some (.str (xs[o]'(by lia))):=by rw [Yd,XO (by lia)]; rfl
   have e1j:(1 + (j:Int))=((j + 1:Nat):Int):=by lia
   have xo:xs[o]? = some (xs[o]'(by lia)):=XO _;have xj:xs[j + 1]? = some xs[j + 1]:=XO _;generalize (xs[o]'(by lia))=x at eo xo;generalize xs[j + 1]=y at ea xj;refine ⟨_,rfl,_,rfl,_,rfl,e,_,_,_,rfl,rfl,AM.of WZ.he,(by rw [e1j]; exact C9 ea),_,rfl,_,rfl,e,_,_,_,rfl,rfl,AM.of WZ.he,C9 eo,(by show 2<=sizeLine; lia),fun T2 N3=>⟨T2,y,x,rfl,Ab,fun l hl=>⟨l,_,rfl,.inl ⟨AM.of Ab,fun T3 Xq=>?_⟩⟩⟩⟩;have RD:=((WZ.add N3 (.lst [.str y,.str x])).add hl (.lst [.str (BJ y x),.str (BK y x)])).add Xq (.tup [.str (BJ y x),.str (BK y x)]);have pn:=Na (Uv tr xnd (x:=x) (n:=le) xj);have hk:(upd (upd (upd H5 T2 (.lst [.str y,.str x])) l (.lst [.str (BJ y x),.str (BK y x)])) T3 (.tup [.str (BJ y x),.str (BK y x)])) T3=some (.tup ((DG (x,y,le)).map kV)):=by
    rw [J7 y x,J8 y x];exact Ab
   generalize upd (upd (upd H5 T2 (.lst [.str y,.str x])) l (.lst [.str (BJ y x),.str (BK y x)])) T3 (.tup [.str (BJ y x),.str (BK y x)])=H6 at RD hk;refine ⟨D,_,rfl,ET.t RD.hw hk (by rw [XJ]; lia),?_⟩;rw [show V.int le=V.int (x,y,le).2.2 from rfl,pn];refine ⟨_,_,_,_,us ++ [(x,y,le)],rfl,RD.put _,by rw [XZ,ul]; rfl,PU tr xnd o0 xo xj l1,fun u hu=>?_⟩;rcases Yt.mp hu with hu | hu
   ·exact RB u hu
   ·rw [Yn.mp hu]; exact l30
  ·rintro σ H' ⟨v4,v5,v6,v7,us,rfl,mi,ul,tr,RB⟩;rw [XJ] at ul tr;rw [show ((xs.length:Int) - 1).toNat + 1=xs.length by lia] at tr;have wc:=(tr.ways xnd).c;refine ⟨_,rfl,p,6,rfl,mi.pn,by decide,by decide,fun d H2 P2 k2 d0 d1=>?_⟩;have mi2:=mi.step P2 k2;clear mi P2 k2;refine ⟨_,rfl,_,_,rfl,rfl,.inr ⟨_,rfl,?_⟩⟩;have i01:∀ b:Bool,(if b=true then (1:Int) else 0)=0\/(if b=true then (1:Int) else 0)=1:=fun b=>by cases b <;> simp
   have i1:=i01 (decide (1 < sh));generalize (if decide (1 < sh)=true then (1:Int) else 0)=i at i1;have mb:0<=d * i/\d * i<=5:=by rcases i1 with rfl | rfl <;> lia
   refine ⟨_,_,rfl,rfl,.inl ⟨by lia,by lia⟩,_,rfl,by lia,by lia,?_⟩;generalize d * i=m at mb;refine CY (lo:=0) (fun j σ H'=>∃ (v4 v5 v6 v7:Option V) (us:List AF),σ=[some (.ref p),some (.ref e),some (.int sh),some (.ref D),v4,v5,v6,v7]/\M5 K H H' p e D xs us/\us.length<=26 + j/\Ff xs us/\∀ u ∈ us,u.2.2 < 10 ^ 30)
    ⟨_,_,_,_,us,rfl,mi2,by lia,wc,RB⟩ ?_ ?_
   ·rintro j σ H' hj ⟨v4,v5,v6,v7,us,rfl,mi,ul,wc,RB⟩;have xl0:(0:Int) < ((xs.map V.str).length:Int):=by rw [XJ]; lia
    have xlB:((xs.map V.str).length:Int) < 1073741824:=by rw [XJ]; lia
    refine ⟨_,rfl,_,rfl,_,rfl,e,_,rfl,.inl (AM.of mi.he),p,_,rfl,mi.pn,xl0,xlB,fun g H3 P3 k3 g0 g1=>?_⟩;rw [XJ] at g1;have UZ:=mi.step P3 k3;obtain ⟨gn,rfl⟩:∃ n:Nat,g=n:=⟨g.toNat,by lia⟩
    have hgn:gn < xs.length:=by lia
    have eg:(xs.map V.str)[gn]? = some (.str xs[gn]):=by rw [Yd,XO hgn]; rfl
    refine ⟨e,_,_,_,rfl,rfl,AM.of UZ.he,C9 eg,?_⟩;refine ⟨_,rfl,_,rfl,_,rfl,e,_,rfl,.inl (AM.of UZ.he),p,_,rfl,UZ.pn,xl0,xlB,fun h H4 P4 k4 h0 h1=>?_⟩;rw [XJ] at h1;have UY:=UZ.step P4 k4;obtain ⟨hn,rfl⟩:∃ n:Nat,h=n:=⟨h.toNat,by lia⟩
    have hhn:hn < xs.length:=by lia
    have eh:(xs.map V.str)[hn]? = some (.str xs[hn]):=by rw [Yd,XO hhn]; rfl
    refine ⟨e,_,_,_,rfl,rfl,AM.of UY.he,C9 eh,(by show 2<=sizeLine; lia),fun T2 N3=>?_⟩;have mx:xs[gn] ∈ xs:=YT hgn;have my:xs[hn] ∈ xs:=YT hhn;generalize xs[gn]=x at mx;generalize xs[hn]=y at my;refine ⟨T2,x,y,rfl,Ab,fun l hl=>⟨l,_,rfl,.inl ⟨AM.of Ab,fun T3 Xq=>?_⟩⟩⟩;have RD:=((UY.add N3 (.lst [.str x,.str y])).add hl (.lst [.str (BJ x y),.str (BK x y)])).add Xq (.tup [.str (BJ x y),.str (BK x y)]);have hk:(upd (upd (upd H4 T2 (.lst [.str x,.str y])) l (.lst [.str (BJ x y),.str (BK x y)])) T3 (.tup [.str (BJ x y),.str (BK x y)])) T3=some (.tup [.str (BJ x y),.str (BK x y)]):=Ab;generalize upd (upd (upd H4 T2 (.lst [.str x,.str y])) l (.lst [.str (BJ x y),.str (BK x y)])) T3 (.tup [.str (BJ x y),.str (BK x y)])=H6 at RD hk;refine ⟨_,rfl,T3,_,_,_,rfl,rfl,AE.of hk,rfl,_,rfl,T3,_,_,_,rfl,rfl,AE.of hk,rfl,rfl,_,rfl,?_⟩;have stay:∀ v4 v5 v6 v7:Option V,∃ (v4' WD v6' v7':Option V) (us:List AF),[some (.ref p),some (.ref e),some (.int sh),some (.ref D),v4,v5,v6,v7]=[some (.ref p),some (.ref e),some (.int sh),some (.ref D),v4',WD,v6',v7']/\M5 K H H6 p e D xs us/\us.length<=26 + (j + 1)/\Ff xs us/\∀ u ∈ us,u.2.2 < 10 ^ 30:=fun v4 v5 v6 v7=>⟨_,_,_,_,us,rfl,RD,by lia,wc,RB⟩
    refine Bz (fun z1=>?_) (fun _=>L3 (stay _ _ _ _));have ne:x ≠ y:=by
     intro z;subst z;simp [BJ,BK] at z1
    refine ⟨_,rfl,_,rfl,D,_,rfl,BM.t (k:=DG (x,y,1)) RD.hw hk,_,rfl,?_⟩;refine Bz (fun z2=>?_) (fun _=>stay _ _ _ _);refine ⟨_,rfl,p,rfl,RD.pn,fun le H7 P7 k7 l1 l30=>?_⟩;have mi7:=RD.step P7 k7;have hk7:=Gu RD.pn k7 _ _ hk;have no:∀ u ∈ us,¬ DL u (x,y,le):=fun u Xh al=>RK (x:=(x,y,1)) (by simpa using z2) u Xh al
    have pn:=Na no;refine ⟨_,rfl,_,rfl,D,_,rfl,ET.t (k:=DG (x,y,le)) mi7.hw hk7 (by rw [XJ]; lia),?_⟩;rw [show V.int le=V.int (x,y,le).2.2 from rfl,pn];refine ⟨_,_,_,_,us ++ [(x,y,le)],rfl,mi7.put _,by rw [XZ]; simp; lia,NW wc mx my ne l1 no,fun u hu=>?_⟩;rcases Yt.mp hu with hu | hu
    ·exact RB u hu
    ·rw [Yn.mp hu]; exact l30
   ·rintro σ H' ⟨v4,v5,v6,v7,us,rfl,mi,ul,wc,RB⟩;exact kE _ H H' p e D xs us _ _ _ _ _ mi wc (by lia) RB xnd xnm x26 fun H' m ps ws a b c d=>k H' m ps ws a b c d
end
section
variable {P:Program} {w:World} {K:XU} {mg:Str->Option Value} {base:Heap}
theorem Ks (h_len:mg "len"=none) (h_range:mg "range"=none) {fT:Addr} {fdT:FuncData} (XT:Fn K mg "_law_take" AN ["_law_pen","_law_many_here"] fT fdT) (GT:A7 P w K mg base B9 1 fT fdT ["_law_pen","_law_many_here"] (DM K)) {f:Addr} {fd:FuncData} (F:Ek K "_law_names" "_law_names" Dt f fd):A7 P w K mg base B9 2 f fd ["_law_pen","_law_many_here"] (KR K):=by
 refine F.ok F6 (fun vs H Q E h=>?_) (fun cdv A outer s H vs Q E hr h=>?_)
 ·obtain ⟨p,n,rfl,_⟩:=h;rfl
 ·obtain ⟨p,n,rfl,hP,hn,k⟩:=h;have nd:=F6.nd;have big:100000 < sizeLine:=by decide
  refine ⟨_,(Ae (Ar (i:=2) nd rfl (Or.inr rfl) Cc)
  (Ae (Ar (i:=3) nd rfl (Or.inl rfl) (Aj GT (hr.mono (by decide)) (by rfl) XT.mg XT.F.kp XT.b .nil As (Aa (pv 0) (Aa Ag Ac))))
  (Ae (Ar (i:=4) nd rfl (Or.inl rfl) (HK PySem.F.plainAttrs_str PySem.F.slot_str_join PySem.F.type_str_join Sr Cc (Aa (By (N:=["_law_k","_law_pen","_law_letters"]) (σ0:=fun σ=>[none,some 0,some 2].map fun j=>j.bind fun j=>(σ[j]?).join) rfl (A8.caught (by rfl) (by decide +kernel) rfl (by decide +kernel) (by intro y hy; simp only [XX,Yg,or_false] at hy; rcases hy with rfl | rfl <;> rfl)
   (by intro y hy e; simp only [XX,Yg,or_false] at hy; rcases hy with rfl | rfl | rfl | rfl | rfl <;> first | exact ⟨_,rfl⟩ | cases e)) (fun σ _=>AR.of [none,some 0,some 2] rfl (by
   intro i j x h1 h2;match i,h1,h2 with
   | 0,_,h2=>cases h2
   | 1,h1,h2=>cases h1; cases h2; exact ⟨rfl,.inl rfl,.inl rfl⟩
   | 2,h1,h2=>cases h1; cases h2; exact ⟨rfl,.inl rfl,.inl rfl⟩
   | n + 3,h1,_=>cases h1)) (CV (by rfl) h_range (Aa (Aj GT (hr.mono (by decide)) (by rfl) XT.mg XT.F.kp XT.b .nil As (Aa (pv 0) (Aa Ag Ac))) Ac))
   (fun s2 H C fp=>⟨(Ai (i:=0) (show (["_law_k","_law_pen","_law_letters"]:List Str).Nodup by decide +kernel) rfl (Or.inl rfl)),AY,(A9 QX (pv 2) (Aj GT (hr.mono (by decide)) (by rfl) XT.mg XT.F.kp XT.b .nil As (Aa (pv 1) (Aa Ag Ac))) (fun _ _=>rfl))⟩)) Ac)))
  (Ae (Ar (i:=5) nd rfl (Or.inl rfl) (Aj GT (hr.mono (by decide)) (by rfl) XT.mg XT.F.kp XT.b .nil As (Aa (pv 0) (Aa (Av Bh (Ak FU (by rfl) h_len PySem.boot_len (Aa (pv 4) Ac)) Ag) Ac))))
  (Ae (Ar (i:=6) nd rfl (Or.inl rfl) (Aj GT (hr.mono (by decide)) (by rfl) XT.mg XT.F.kp XT.b .nil As (Aa (pv 0) (Aa Ag Ac))))
  (Ae (Ar (i:=7) nd rfl (Or.inl rfl) (BF Ac))
  (Ae (Cb PassesOwn.never rfl (CV (by rfl) h_range (Aa (pv 1) Ac)) (Ai (i:=8) nd rfl (Or.inl rfl))
  (Ae (Ar (i:=9) nd rfl (Or.inl rfl) (A9 QX (pv 2) (Av DT (Av Bh (pv 3) (Av De Ag (pv 8))) Ag) (fun _ _=>rfl)))
  (Al (Hj (HK PySem.F.plainAttrs_list PySem.F.slot_list_append PySem.F.type_list_append C1 (pv 7) (Aa (Av DU (Av DU (Av DU (FD (pv 4) Ki (Kh (pv 5))) (pv 9)) (FD (pv 4) (Kh (pv 5)) Ki)) (Av QK Cc (Av De (pv 6) (Av DT (pv 8) Ag)))) Ac))))))
  (Al (A5 (pv 7)))))))))),?_⟩
  refine ⟨_,rfl,p,26,rfl,hP,by decide,by decide,fun st H0 P0 k0 Hv st1=>?_⟩;refine ⟨rfl,_,rfl,p,5,rfl,P0,by decide,by decide,fun d H1 P1 k1 da db=>⟨_,rfl,by lia,by lia,?_⟩⟩;have q1:=k0.trans k1;refine Qx (n:=d.toNat) (fun D i σ H' acc=>∃ (v0:Option V) (ss:List Str),σ=[v0,some (.ref p),some (.str FK)]/\Ec K H' p/\AZ p H1 H'/\H' D=some (.lst acc)/\acc=ss.map V.str/\acc.length=i/\∀ s ∈ ss,s.length=1/\SX s)
   (by lia) (fun D hD=>⟨_,[],rfl,P1.same (Ad hD),AZ.of_same (Ad hD),Ab,rfl,rfl,fun s hs=>nomatch hs⟩) (fun D i σ H' acc hD ⟨v0,ss,_,_,_,AS,_,al,_⟩=>⟨AS,al⟩) ?_ ?_
  ·rintro D i σ H' acc B hD hi ⟨v0,ss,rfl,P2,q2,AS,ea,al,lo⟩ hB;have nD:=P1.ne hD;refine ⟨_,rfl,_,rfl,p,26,rfl,P2,by decide,by decide,fun e H3 P3 k3 X7 W5=>?_⟩;have lc:=G7 _ (Rw (DW X7 W5));have FN:=k3 _ _ nD AS;refine ⟨_,_,_,rfl,rfl,by decide,DW X7 W5,?_⟩;refine hB _ _ _ FN ⟨_,ss ++ [⟨#[97 + e.toNat]⟩],rfl,P3.other FN nD,fun b' o hb z=>?_,Ab,by rw [ea,Yi]; rfl,by rw [XZ,al]; rfl,fun s hs=>?_⟩
   ·rw [Af (Ah z hD)];exact k3 _ _ hb (q2 b' o hb z)
   ·rcases Yt.mp hs with hs | hs
    ·exact lo s hs
    ·rw [Yn] at hs;subst hs;refine ⟨rfl,fun c hc=>?_⟩;have:c=97 + e.toNat:=by simpa using hc
     subst this;exact lc
  rintro D0 σ0 H2 acc hD0 ⟨v0,ss,rfl,P2,q2,AS,ea,al,lo⟩;obtain ⟨j1,j2,j3⟩:=QW lo;have sl:ss.length=d.toNat:=by rw [<-al,ea,XJ]
  refine ⟨_,D0,ss,rfl,rfl,by rw [AS,ea],by decide,by lia,?_⟩;generalize Txt.join (Str.ofString "") ss=bs at j1 j2;have bl:bs.length<=4:=by lia
  refine ⟨_,rfl,_,rfl,bs,rfl,by lia,_,_,rfl,rfl,p,_,rfl,P2,by lia,by lia,fun at' H3 P3 k3 at0 W8=>?_⟩;refine ⟨_,rfl,p,2,rfl,P3,by decide,by decide,fun mo H5 P5 k5 mo0 mo1=>?_⟩;have q5:AZ p H H5:=((q1.trans q2).trans k3).trans k5;refine ⟨(by show 0<=sizeLine; lia),fun D hD=>?_⟩;have nD:D ≠ p:=P5.ne hD;have fD:H D=none:=by
   cases z:H D with
   | none=>rfl
   | some o=>rw [q5 _ _ nD z] at hD; cases hD
  have spm:(7:Int) ∈ ([1,3,5,7,9,11,15,17]:List Int):=by simp
  refine ⟨_,rfl,n,rfl,by lia,by lia,?_⟩;refine CY (n:=n) (lo:=0) (fun j σ H'=>∃ (xs:List Str) (v9 v10:Option V),σ=[some (.ref p),some (.int n),some (.str FK),some (.int st),some (.str bs),some (.int at'),some (.int mo),some (.ref D),v9,v10]/\H'=upd H5 D (.lst (xs.map V.str))/\xs.length=j/\(∀ x ∈ xs,AV x=true)/\∀ (i:Nat) x,xs[i]? = some x->∃ tl,x.cps.toList=(Txt.slice bs none (some at')).cps.toList ++ (O6 n st 7 i ++ tl))
   ⟨[],_,_,rfl,rfl,rfl,(fun x hx=>nomatch hx),(fun i x e=>by simp at e)⟩ ?_ ?_
  ·rintro j σ H' hj ⟨xs,v9,v10,rfl,rfl,xl,nm,sh⟩;have r0:0<=(st + 7 * (0 + (j:Int))) % 26:=Zb _ (by decide);have r1:(st + 7 * (0 + (j:Int))) % 26 < 26:=Zk _ (by decide);refine ⟨_,rfl,_,rfl,_,rfl,_,_,rfl,rfl,.inl ⟨by decide,by decide⟩,_,_,rfl,rfl,_,_,rfl,rfl,(by show (0:Int) < 26; decide),_,_,_,rfl,rfl,by decide,DW r0 r1,?_⟩;have lc:=G7 _ (Rw (DW r0 r1));have s1:=Qn (z:=bs) at0 (by lia);have s2:=Me (z:=bs) at0 (by lia);have w1:=Ju (z:=bs) none (some at') j1;have w2:=Ju (z:=bs) (some at') none j1;have dD:(upd H5 D (.lst (xs.map V.str))) D=some (.lst (xs.map V.str)):=Ab;have m01:mo * ((0 + (j:Int)) % 2)=0\/mo * ((0 + (j:Int)) % 2)=1:=by
    have e1:mo=0\/mo=1:=by lia
    have e2:(0 + (j:Int)) % 2=0\/(0 + (j:Int)) % 2=1:=by lia
    rcases e1 with rfl | rfl <;> rcases e2 with e2 | e2 <;> rw [e2] <;> simp
   have hz:∀ z:Str,z=(if mo * ((0 + (j:Int)) % 2)=1 then Str.ofString "z" else Str.empty)->z.length<=1/\SX z:=fun z e=>by
    subst e;split
    ·refine ⟨by decide,fun c hc=>?_⟩;have e:(Str.ofString "z").cps.toList=[122]:=by decide +kernel
     rw [e,Yn] at hc;subst hc;decide
    ·exact ⟨by decide,fun c hc=>by cases hc⟩
   obtain ⟨zz,ezz⟩:∃ zz,zz=(if mo * ((0 + (j:Int)) % 2)=1 then Str.ofString "z" else Str.empty):=⟨_,rfl⟩
   obtain ⟨z1,z2⟩:=hz zz ezz;have fin:∀ (x:Str),x=Txt.slice bs none (some at') ++ ⟨#[97 + ((st + 7 * (0 + (j:Int))) % 26).toNat]⟩ ++ Txt.slice bs (some at') none ++ zz->AV x=true/\∃ tl,x.cps.toList=(Txt.slice bs none (some at')).cps.toList ++ (O6 n st 7 j ++ tl):=fun x e=>by
    have ec:x.cps.toList=(Txt.slice bs none (some at')).cps.toList ++ ([97 + ((st + 7 * (0 + (j:Int))) % 26).toNat] ++ ((Txt.slice bs (some at') none).cps.toList ++ zz.cps.toList)):=by
     rw [e,Str.cps_append,Str.cps_append,Str.cps_append,aa,aa,aa,YR,YR]
    have el:x.length=(Txt.slice bs none (some at')).length + 1 + (Txt.slice bs (some at') none).length + zz.length:=by
     rw [e,Str.length_append,Str.length_append,Str.length_append];rfl
    refine ⟨QP (by lia) (by lia) fun c hc=>?_,?_⟩
    ·rw [ec,Yt,Yt,Yt,Yn] at hc;rcases hc with hc | hc | hc | hc
     ·exact w1 c hc
     ·rw [hc]; exact lc
     ·exact w2 c hc
     ·exact z2 c hc
    ·refine ⟨(Txt.slice bs (some at') none).cps.toList ++ zz.cps.toList,?_⟩;rw [ec];unfold O6;rw [if_neg (by lia),ay]
   refine ⟨_,rfl,.inl ⟨rfl,_,AM.of dD⟩,_,rfl,_,rfl,_,rfl,bs,rfl,by lia,_,rfl,_,_,rfl,rfl,?_,_,rfl,_,rfl,_,rfl,bs,rfl,by lia,_,_,rfl,rfl,?_,_,rfl,_,rfl,_,_,rfl,rfl,(by show (0:Int) < 2; decide),_,_,rfl,rfl,.inl ⟨by lia,by lia⟩,_,_,rfl,rfl,m01,_,_,rfl,rfl,?_,D,_,_,rfl,rfl,dD,(by rw [XJ]; lia),?_⟩
   ·show (Txt.slice bs none (some at')).length + 1<=sizeLine
    lia
   ·rw [Str.length_append];show (Txt.slice bs none (some at')).length + 1 + _<=sizeLine
    lia
   ·rw [<-ezz,Str.length_append,Str.length_append];show (Txt.slice bs none (some at')).length + 1 + _ + _<=sizeLine
    lia
   rw [<-ezz];obtain ⟨f1,f2⟩:=fin _ rfl;refine ⟨xs ++ [_],_,_,rfl,by rw [JX,Yi]; rfl,by rw [XZ,xl]; rfl,fun x hx=>?_,fun i x e=>?_⟩
   ·rcases Yt.mp hx with hx | hx
    ·exact nm x hx
    ·rw [Yn.mp hx];exact f1
   ·by_cases hi:i < xs.length
    ·rw [Y5 hi] at e;exact sh i x e
    ·have U7:i=j:=by
      have:=(Yb.mp e).1;rw [XZ,YD] at this;lia
     subst U7;rw [Y4 (by lia),xl,Z2,YO] at e;rw [<-Yo.inj e];exact f2
  ·rintro σ H' ⟨xs,v9,v10,rfl,rfl,xl,nm,sh⟩;exact ⟨_,rfl,k _ D xs (P5.same (Ad hD)) (fun b' o hb z=>by rw [Af (Ah z fD)]; exact q5 _ _ hb z) fD Ab xl (Lr sh fun i j hij hj tl TQ=>Us (by lia) spm hij (by lia) tl TQ) nm⟩
end
section
variable {P:Program} {w:World} {K:XU} {mg:Str->Option Value} {base:Heap}
theorem Fc (h_int:mg "int"=none) {fT:Addr} {fdT:FuncData} (XT:Fn K mg "_law_take" AN ["_law_pen","_law_many_here"] fT fdT) (GT:A7 P w K mg base B9 1 fT fdT ["_law_pen","_law_many_here"] (DM K)) {f:Addr} {fd:FuncData} (F:Ek K "_law_length" "_law_length" Cn f fd):A7 P w K mg base B9 2 f fd ["_law_pen"] (Mc K):=by
 refine F.ok EW (fun vs H Q E h=>?_) (fun cdv A outer s H vs Q E hr h=>?_)
 ·obtain ⟨p,rfl,_⟩:=h;rfl
 ·obtain ⟨p,rfl,hP,k⟩:=h;have nd:=EW.nd;have big:100000 < sizeLine:=by decide
  refine ⟨_,(Ae (Ar (i:=1) nd rfl (Or.inl rfl) (Aj GT (hr.mono (by decide)) (by rfl) XT.mg XT.F.kp XT.b .nil As (Aa (pv 0) (Aa Ag Ac))))
  (Ae (Dd (Bm J4 (pv 1) Ag (Bl _))
  (Al (A5 (Av Bh Ag (Aj GT (hr.mono (by decide)) (by rfl) XT.mg XT.F.kp XT.b .nil As (Aa (pv 0) (Aa Ag Ac))))))
  Bw)
  (Ae (Dd (Bm J4 (pv 1) Ag (Bl _))
  (Al (A5 (Av Bh Ag (Aj GT (hr.mono (by decide)) (by rfl) XT.mg XT.F.kp XT.b .nil As (Aa (pv 0) (Aa Ag Ac))))))
  Bw)
  (Al (A5 (Av Bh (A0 Jg (by rfl) h_int PyProof.Rows.boot_int (Aa (Av DU Cc (Av Sj Cc (Aj GT (hr.mono (by decide)) (by rfl) XT.mg XT.F.kp XT.b .nil As (Aa (pv 0) (Aa Ag Ac))))) Ac)) (Aj GT (hr.mono (by decide)) (by rfl) XT.mg XT.F.kp XT.b .nil As (Aa (pv 0) (Aa Ag Ac))))))))),?_⟩
  have ten:(100:Int) < 10 ^ 30:=by decide
  refine ⟨_,rfl,p,12,rfl,hP,by decide,by decide,fun d H1 P1 k1 d0 d1=>?_⟩;refine ⟨_,rfl,_,_,rfl,rfl,_,rfl,?_⟩;refine Bz (fun _=>?_) (fun _=>?_)
  ·exact ⟨_,rfl,p,3,rfl,P1,by decide,by decide,fun e H2 P2 k2 e0 e1=>⟨_,_,rfl,rfl,k _ H2 P2 (k1.trans k2) (by lia) (by lia)⟩⟩
  refine ⟨_,rfl,_,_,rfl,rfl,_,rfl,?_⟩;refine Bz (fun _=>?_) (fun _=>?_)
  ·exact ⟨_,rfl,p,30,rfl,P1,by decide,by decide,fun e H2 P2 k2 e0 e1=>⟨_,_,rfl,rfl,k _ H2 P2 (k1.trans k2) (by lia) (by lia)⟩⟩
  refine ⟨_,rfl,p,30,rfl,P1,by decide,by decide,fun e H2 P2 k2 e0 e1=>?_⟩;obtain ⟨n,rfl⟩:∃ n:Nat,e=(n:Int):=⟨e.toNat,by lia⟩
  have hn:n < 30:=by lia
  have it:=Nz ⟨n,hn⟩;have l1:(Str.ofString "1").length=1:=by decide +kernel
  have zl:(Ji n).length=n:=it.2;refine ⟨n,rfl,rfl,hn,_,_,rfl,rfl,(by lia),_,_,rfl,it.1,(by rw [Str.length_append,l1,zl]; lia),_,rfl,p,10,rfl,P2,by decide,by decide,fun e2 H3 P3 k3 e20 e21=>⟨_,_,rfl,rfl,k _ H3 P3 (k1.trans (k2.trans k3)) ?_ ?_⟩⟩
  ·have:(1:Int)<=10 ^ n:=(PV ⟨n,hn⟩).1;show 1<=(10:Int) ^ n + e2
   lia
  ·have h1:(10:Int) ^ n + 10<=10 ^ 30:=(PV ⟨n,hn⟩).2;show (10:Int) ^ n + e2 < 10 ^ 30
   lia
theorem Ln (h_len:mg "len"=none) (h_list:mg "list"=none) (h_range:mg "range"=none) (h_sorted:mg "sorted"=none) {fT:Addr} {fdT:FuncData} (XT:Fn K mg "_law_take" AN ["_law_pen","_law_many_here"] fT fdT) (GT:A7 P w K mg base B9 1 fT fdT ["_law_pen","_law_many_here"] (DM K)) {f:Addr} {fd:FuncData} (F:Ek K "_law_some" "_law_some" DN f fd):A7 P w K mg base B9 2 f fd ["_law_pen","_law_names_here","_law_many_here"] (MR K):=by
 refine F.ok Gw (fun vs H Q E h=>?_) (fun cdv A outer s H vs Q E hr h=>?_)
 ·obtain ⟨p,e,xs,m,rfl,_⟩:=h;rfl
 ·obtain ⟨p,e,xs,m,rfl,P0,he,nep,x30,mx,k⟩:=h;have nd:=Gw.nd;have big:100000 < sizeLine:=by decide
  refine ⟨_,(Ae (Ar (i:=3) nd rfl (Or.inl rfl) (A0 FT (by rfl) h_list PyProof.Rows.boot_list (Aa (pv 1) Ac)))
  (Ae (Ar (i:=4) nd rfl (Or.inl rfl) (BF Ac))
  (Ae (Cb PassesOwn.never rfl (CV (by rfl) h_range (Aa (pv 2) Ac)) (Ai (i:=5) nd rfl (Or.inl rfl))
  (Al (Hj (HK PySem.F.plainAttrs_list PySem.F.slot_list_append PySem.F.type_list_append C1 (pv 4) (Aa (HK PySem.F.plainAttrs_list PySem.F.slot_list_pop PySem.F.type_list_pop QQ (pv 3) (Aa (Aj GT (hr.mono (by decide)) (by rfl) XT.mg XT.F.kp XT.b .nil As (Aa (pv 0) (Aa (Ak (Aw K rfl) (by rfl) h_len PySem.boot_len (Aa (pv 3) Ac)) Ac))) Ac)) Ac)))))
  (Al (A5 (Ak BP (by rfl) h_sorted PyProof.Rows.boot_sorted (Aa (pv 4) Ac))))))),?_⟩
  refine ⟨_,rfl,e,_,rfl,.inl (AM.of he),fun PL hPL=>?_⟩;have s0:=Ad (o:=.lst (xs.map V.str)) hPL;have nPL:PL ≠ p:=P0.ne hPL;have P1:=P0.same s0;have hPP:(upd H PL (.lst (xs.map V.str))) PL=some (.lst (xs.map V.str)):=Ab;generalize upd H PL (.lst (xs.map V.str))=H1 at s0 P1 hPP ⊢;refine ⟨(by show 0<=sizeLine; lia),fun D hD=>?_⟩;have s1:=Ad (o:=.lst []) hD;have AS:(upd H1 D (.lst [])) D=some (.lst []):=Ab;have nD:D ≠ p:=P1.ne hD;have nDP:D ≠ PL:=fun z=>by rw [z,hPP] at hD; cases hD
  have P2:=P1.same s1;have frD:H D=none:=s0.free hD;generalize upd H1 D (.lst [])=H2 at s1 AS P2 ⊢;refine ⟨_,rfl,m,rfl,by lia,by lia,CY (n:=m) (fun i σ H'=>∃ (v5:Option V) (ys left:List Str),σ=[some (.ref p),some (.ref e),some (.int (m:Int)),some (.ref PL),some (.ref D),v5]/\Ec K H' p/\(∀ b o,b ≠ p->H b=some o->H' b=some o)/\H' PL=some (.lst (left.map V.str))/\H' D=some (.lst (ys.map V.str))/\ys.length=i/\(ys ++ left).Perm xs)
   ⟨_,[],xs,rfl,P2,fun b o _ z=>s1 _ _ (s0 _ _ z),s1 _ _ hPP,AS,rfl,List.Perm.refl _⟩ ?_ (fun σ H' hP=>?_)⟩
  ·rintro i σ H3 hi ⟨v5,ys,left,rfl,P3,k3,h3,FN,yl,pm⟩;have ll:ys.length + left.length=xs.length:=by rw [<-XZ]; exact pm.length_eq
   refine ⟨_,rfl,.inl ⟨rfl,_,AM.of FN⟩,_,rfl,.inl ⟨rfl,_,AM.of h3⟩,_,rfl,_,rfl,PL,_,rfl,.inl (AM.of h3),p,_,rfl,P3,?_,?_,fun e' H4 P4 k4 X7 W5=>?_⟩
   ·rw [XJ]; lia
   ·rw [XJ]; lia
   rw [XJ] at W5;obtain ⟨q,rfl⟩:∃ q:Nat,e'=(q:Int):=⟨e'.toNat,by lia⟩
   have hq:q < left.length:=by lia
   have hget:left[q]? = some left[q]:=XO hq;have h4:=k4 _ _ nPL h3;have M3:=k4 _ _ nD FN;refine ⟨PL,_,_,q,.str left[q],rfl,rfl,h4,by lia,by lia,?_,by rw [Yd,hget]; rfl,?_⟩
   ·rw [XJ];exact (Ky (by show S2 left.length (q:Int)=some q; unfold S2; rw [if_pos (by lia),if_pos (by lia)]; rfl)).1
   rw [J9];have P5:=P4.other (zs:=(left.eraseIdx q).map V.str) h4 nPL;have L5:(upd H4 PL (.lst ((left.eraseIdx q).map V.str))) D=some (.lst (ys.map V.str)):=by rw [Af nDP]; exact M3
   refine ⟨D,_,_,rfl,rfl,L5,by rw [XJ]; lia,?_⟩;refine ⟨_,ys ++ [left[q]],left.eraseIdx q,rfl,P5.other L5 nD,fun b' o hb z=>?_,?_,by rw [Ab,Yi]; rfl,by rw [XZ,yl]; rfl,?_⟩
   ·rw [Af (Ah z frD),Af (Ah z hPL)];exact k4 _ _ hb (k3 b' o hb z)
   ·rw [Af nDP.symm];exact Ab
   ·refine List.Perm.trans ?_ pm;rw [YR];exact List.Perm.append_left _ (Ej hget)
  ·obtain ⟨v5,ys,left,rfl,P3,k3,h3,FN,yl,pm⟩:=hP;have ll:ys.length + left.length=xs.length:=by rw [<-XZ]; exact pm.length_eq
   refine ⟨_,rfl,D,ys,rfl,AM.of FN,by lia,fun l ss hl Wn srt=>?_⟩;have sl:=Ad (o:=.lst (ss.map V.str)) hl;exact k _ l ss left (P3.same sl) (fun b o hb z=>sl _ _ (k3 b o hb z)) (by
    cases z:H l with
    | none=>rfl
    | some o=>
     by_cases hb:l=p
     ·subst hb;obtain ⟨_,_,_,_,q,_⟩:=P3;rw [q] at hl;cases hl
     ·rw [k3 l o hb z] at hl;cases hl) Ab ((Wn.append_right left).trans pm) (by rw [Wn.length_eq]; exact yl) srt
end
section
variable {P:Program} {w:World} {K:XU} {mg:Str->Option Value} {base:Heap}
theorem takeB {f:Addr} {cdv:Value} {A:Around} {outer:List Env} {s:Shared} {H:Hp} {E:XK} :
  ∃ tl,LP (Jc B9 P w K mg base ["_law_pen","_law_many_here","_law_place","_law_cell","_law_number","_law_digit"] "_law_take" (Am AN) f cdv A outer s H E).nox ((Ca AN).drop 1) tl /\
   ∀ (W:ED) (H6:Hp) (p a:Addr) (ns:List Int) (i l m:Int) (v2 v3 v4 v5:Option V),H6 p=some (.lst (Kj a i l))->ME K H6 a (ns.map V.int)->ns.length<=63->0<=i->0<=l->0 < m->m < 1073741824->(∀ (d:Int) (H':Hp),Ec K H' p->AZ p H6 H'->0<=d->d < m->W.rt (.int d) H')->tl W [some (.ref p),some (.int m),v2,v3,v4,v5] H6:=by
 have nd:=CC.nd;refine ⟨_,(Ae (Ar (i:=5) nd rfl (Or.inl rfl) (Av DT (A9 (AX K rfl) (pv 0) Ag (fun _ _=>rfl)) (pv 1)))
  (Ae (DS (Av Nh (A9 (AX K rfl) (pv 0) Ag (fun _ _=>rfl)) (pv 1)) (Mm (pv 0) Ag Hz))
  (Al (A5 (pv 5))))),?_⟩
 intro W H6 p a ns i l m v2 v3 v4 v5 hp sc ln i0 l0 hm Pr k;have sq:∀ {H':Hp} {a:Addr} {i l:Int},H' p=some (.lst (Kj a i l))->AM K H' p (Kj a i l):=fun h=>.inl (.inl h)
 refine ⟨_,rfl,p,_,_,_,rfl,rfl,sq hp,Q7 _ _ _,_,rfl,_,_,rfl,rfl,hm,?_⟩;refine ⟨_,rfl,p,_,_,_,rfl,rfl,sq hp,Q7 _ _ _,_,rfl,_,_,rfl,rfl,⟨hm,Pr⟩,_,rfl,p,_,_,2,rfl,rfl,hp,rfl,_,rfl,?_⟩;exact k _ _ (Ec.put hp sc ln i0 (Int.ediv_nonneg l0 (by lia))) AZ.upd (Zb _ (by lia)) (Zk _ hm)
theorem takeD {f:Addr} {cdv:Value} {A:Around} {outer:List Env} {s:Shared} {H:Hp} {E:XK} :
  ∃ tl,LP (Jc B9 P w K mg base ["_law_pen","_law_many_here","_law_place","_law_cell","_law_number","_law_digit"] "_law_take" (Am AN) f cdv A outer s H E).nox (Mv ((Mv ((Ca AN).getD 0 (.Pass ⟨0,0,0,0⟩))).getD 4 (.Pass ⟨0,0,0,0⟩))) tl /\
   ∀ (W:ED) (H6:Hp) (p:Addr) (m i c:Int) (v4 v5:Option V),0 < m->0<=i->(∀ d:Int,0<=d->d < m->W.rt (.int d) H6)->tl W [some (.ref p),some (.int m),some (.int i),some (.int c),v4,v5] H6:=by
 have nd:=CC.nd;refine ⟨_,(Ae (Ar (i:=4) nd rfl (Or.inl rfl) (Av DT (Av De (Av Bh (Av Bh (Av DT (pv 3) Ag) (Av De Ag (pv 2))) Ag) Ag) Ag))
  (Ae (Ar (i:=4) nd rfl (Or.inl rfl) (Av DT (Av Bh (Av Bh (Av De (pv 4) (pv 4)) (Av De Ag (pv 4))) (pv 2)) Ag))
  (Al (A5 (Av DT (Av Nh (Av DT (Av Bh (Av Bh (Av De (pv 4) (pv 4)) (Av De Ag (pv 4))) Ag) Ag) Ag) (pv 1)))))),?_⟩
 intro W H6 p m i c v4 v5 hm i0 k;refine ⟨_,rfl,_,_,rfl,rfl,(by show (0:Int) < 2147483629; decide),_,rfl,_,_,rfl,rfl,.inl ⟨by decide,by decide⟩,_,_,rfl,rfl,_,_,rfl,rfl,_,_,rfl,rfl,.inr ⟨by decide,by decide⟩,_,_,rfl,rfl,(by show (0:Int) < 2147483647; decide),?_⟩;have h0:0<=(c % 2147483629 + 40503 * i + 977) * 48271 % 2147483647:=Zb _ (by decide);have h1:(c % 2147483629 + 40503 * i + 977) * 48271 % 2147483647 < 2147483647:=Zk _ (by decide);have big:∀ z:Int,0<=z->z < 2147483647->-(2 ^ 64) < z/\z < 2 ^ 64:=fun z a b=>⟨bK (b:=0) (by decide) a,cB b (by decide)⟩
 refine ⟨_,rfl,_,rfl,_,_,rfl,rfl,.inl (big _ h0 h1),_,rfl,_,_,rfl,rfl,.inl ⟨by decide,by decide⟩,_,_,rfl,rfl,_,rfl,_,_,rfl,rfl,_,_,rfl,rfl,(by show (0:Int) < 2147483587; decide),?_⟩;obtain ⟨u,eu,u0,u1⟩:∃ u:Int,((c % 2147483629 + 40503 * i + 977) * 48271 % 2147483647 * ((c % 2147483629 + 40503 * i + 977) * 48271 % 2147483647) + 69621 * ((c % 2147483629 + 40503 * i + 977) * 48271 % 2147483647) + i) % 2147483587=u/\0<=u/\u < 2147483647:=⟨_,rfl,Zb _ (by decide),cB (Zk _ (by decide)) (by decide)⟩
 refine ⟨_,rfl,_,rfl,_,_,rfl,rfl,.inl (big _ (by rw [eu]; exact u0) (by rw [eu]; exact u1)),_,rfl,_,_,rfl,rfl,.inl ⟨by decide,by decide⟩,_,_,rfl,rfl,_,_,rfl,rfl,_,_,rfl,rfl,(by show (0:Int) < 2147483563; decide),_,_,rfl,rfl,⟨by decide,by decide⟩,_,rfl,_,_,rfl,rfl,hm,?_⟩;exact k _ (Zb _ (by lia)) (Zk _ hm)
theorem takeC (h_len:mg "len"=none) {f:Addr} {cdv:Value} {A:Around} {outer:List Env} {s:Shared} {H:Hp} {E:XK} :
  ∃ tl,LP (Jc B9 P w K mg base ["_law_pen","_law_many_here","_law_place","_law_cell","_law_number","_law_digit"] "_law_take" (Am AN) f cdv A outer s H E).nox ((Mv ((Ca AN).getD 0 (.Pass ⟨0,0,0,0⟩))).drop 4) tl /\
   ∀ (W:ED) (H6:Hp) (p a:Addr) (ns:List Int) (i l m c:Int) (v4 v5:Option V),H6 p=some (.lst (Kj a (i + 1) l))->ME K H6 a (ns.map V.int)->ns.length<=63->0<=i->0<=l->0 < m->m < 1073741824->0<=c->(∀ d:Int,0<=d->d < m->W.rt (.int d) H6)->(∀ (c':Int) (v4:Option V),0<=c'->W.nx [some (.ref p),some (.int m),some (.int i),some (.int c),v4,v5] (upd H6 p (.lst (Kj a (i + 1) c'))))->tl W [some (.ref p),some (.int m),some (.int i),some (.int c),v4,v5] H6:=by
 have nd:=CC.nd;obtain ⟨tlD,htD,rdD⟩:=takeD (P:=P) (w:=w) (K:=K) (mg:=mg) (base:=base) (f:=f) (cdv:=cdv) (A:=A) (outer:=outer) (s:=s) (H:=H) (E:=E);refine ⟨_,(Ae (Dd (Lf (Bm Ts (pv 2) (Ak (Aw K rfl) (by rfl) h_len PySem.boot_len (Aa (A9 (AX K rfl) (pv 0) Ag (fun _ _=>rfl)) Ac)) (Bl _)) (HC (Bm J4 (pv 3) (Av Ut Ag Ag) (Bl _)))).pt
  htD
  Bw)
  (Al (DS (pv 3) (Mm (pv 0) Ag Hz)))),?_⟩
 intro W H6 p a ns i l m c v4 v5 hp sc ln i0 l0 hm Pr c0 kr kn;have sq:∀ {H':Hp} {a:Addr} {i l:Int},H' p=some (.lst (Kj a i l))->AM K H' p (Kj a i l):=fun h=>.inl (.inl h)
 refine ⟨_,rfl,_,rfl,p,_,_,_,rfl,rfl,sq hp,Nb _ _ _,a,_,rfl,.inl sc.sq,_,_,rfl,rfl,_,rfl,?_⟩;refine Bz (fun _=>rdD _ H6 p m i c v4 v5 hm i0 kr) (fun _=>?_);refine ⟨_,rfl,_,_,rfl,rfl,⟨by decide,by decide,by decide⟩,_,_,rfl,rfl,_,rfl,?_⟩;refine Bz (fun _=>rdD _ H6 p m i c v4 v5 hm i0 kr) (fun _=>?_);refine ⟨_,rfl,_,rfl,p,_,_,2,rfl,rfl,hp,rfl,?_⟩;exact kn c _ c0
theorem BH (h_abs:mg "abs"=none) (h_len:mg "len"=none) {f:Addr} {fd:FuncData} (F:Ek K "_law_take" "_law_take" AN f fd):A7 P w K mg base B9 1 f fd ["_law_pen","_law_many_here"] (DM K):=by
 refine F.ok CC (fun vs H Q E h=>?_) (fun cdv A outer s H vs Q E hr h=>?_)
 ·obtain ⟨p,m,rfl,_⟩:=h;rfl
 ·obtain ⟨p,m,rfl,⟨a,ns,i,l,hp,sc,ln,i0,l0⟩,hm,Pr,k⟩:=h;have nd:=CC.nd;have big:100000 < sizeLine:=by decide
  obtain ⟨tlC,htC,rdC⟩:=takeC (P:=P) (w:=w) (K:=K) (mg:=mg) (base:=base) h_len (f:=f) (cdv:=cdv) (A:=A) (outer:=outer) (s:=s) (H:=H) (E:=E);obtain ⟨tlB,htB,rdB⟩:=takeB (P:=P) (w:=w) (K:=K) (mg:=mg) (base:=base) (f:=f) (cdv:=cdv) (A:=A) (outer:=outer) (s:=s) (H:=H) (E:=E);refine ⟨_,(Ae (Dd (Bm Ll (A9 (AX K rfl) (pv 0) Ag (fun _ _=>rfl)) Ag (Bl _))
  (Ae (Ar (i:=2) nd rfl (Or.inl rfl) (A9 (AX K rfl) (pv 0) Ag (fun _ _=>rfl)))
  (Ae (DS (Av Bh (pv 2) Ag) (Mm (pv 0) Ag Hz))
  (Ae (Ar (i:=3) nd rfl (Or.inl rfl) Ag)
  (Ae (Dd (Bm QL (Ak (Aw K rfl) (by rfl) h_len PySem.boot_len (Aa (A9 (AX K rfl) (pv 0) Ag (fun _ _=>rfl)) Ac)) Ag (Bl _))
  (Al (Ar (i:=3) nd rfl (Or.inl rfl) (Ak Rv (by rfl) h_abs PyProof.Rows.boot_abs (Aa (A9 (AX K rfl) (A9 (AX K rfl) (pv 0) Ag (fun _ _=>rfl)) (Av DT (pv 2) (Ak (Aw K rfl) (by rfl) h_len PySem.boot_len (Aa (A9 (AX K rfl) (pv 0) Ag (fun _ _=>rfl)) Ac))) (fun _ _=>rfl)) Ac))))
  Bw)
  htC))))
  Bw)
  htB),?_⟩
  have sq:∀ {H':Hp} {a:Addr} {i l:Int},H' p=some (.lst (Kj a i l))->AM K H' p (Kj a i l):=fun h=>.inl (.inl h)
  refine ⟨_,rfl,p,_,_,_,rfl,rfl,sq hp,Q7 _ _ _,rfl,_,rfl,?_⟩;refine Bz (fun z0=>?_) (fun _=>rdB _ H p a ns i l m _ _ _ _ hp sc ln i0 l0 hm Pr k);refine ⟨_,rfl,p,_,_,_,rfl,rfl,sq hp,pn5_1 _ _ _,?_⟩;refine ⟨_,rfl,_,_,rfl,rfl,_,rfl,p,_,_,1,rfl,rfl,hp,rfl,?_⟩;have VB:(upd H p (.lst (Kj a (i + 1) l))) p=some (.lst (Kj a (i + 1) l)):=Ab;have Vl:ME K (upd H p (.lst (Kj a (i + 1) l))) a (ns.map V.int):=sc.keep hp AZ.upd;have fin:∀ (c:Int),0<=c->tlC ⟨fun σ H'=>tlB ⟨fun _ H'=>Q .non H',Q,fun _ _=>False,fun _ _=>False⟩ σ H',Q,fun _ _=>False,fun _ _=>False⟩ [some (.ref p),some (.int m),some (.int i),some (.int c),none,none] (upd H p (.lst (Kj a (i + 1) l))):=fun c c0=>by
   refine rdC _ _ p a ns i l m c _ _ VB Vl ln i0 l0 hm Pr c0 (fun d d0 d1=>?_) fun c' v4 c0'=>?_
   ·exact k d _ (Ec.put hp sc ln (by lia) l0) AZ.upd d0 d1
   ·refine rdB _ _ p a ns (i + 1) c' m _ _ _ _ Ab (Vl.keep VB AZ.upd) ln (by lia) c0' hm Pr fun d H' P' k' d0 d1=>k d H' P' ((AZ.upd.trans AZ.upd).trans k') d0 d1
  refine ⟨_,rfl,p,_,_,_,rfl,rfl,sq VB,Nb _ _ _,a,_,rfl,.inl Vl.sq,_,_,rfl,rfl,_,rfl,?_⟩;refine Bz (fun zl=>?_) (fun _=>fin 0 (Z6 _));have zl':0 < ns.length:=by have:=of_decide_eq_true zl; rw [XJ] at this; lia
  have j0:0<=i % ((ns.map V.int).length:Int):=Zb _ (by rw [XJ]; lia);have j1:i % ((ns.map V.int).length:Int) < (ns.map V.int).length:=Zk _ (by rw [XJ]; lia);obtain ⟨j,ej⟩:∃ j:Nat,i % ((ns.map V.int).length:Int)=(j:Int):=⟨(i % ((ns.map V.int).length:Int)).toNat,by lia⟩
  have jl:j < ns.length:=by rw [ej,XJ] at j1; lia
  refine ⟨_,rfl,p,_,_,_,rfl,rfl,sq VB,Nb _ _ _,_,rfl,_,rfl,p,_,_,_,rfl,rfl,sq VB,Nb _ _ _,a,_,rfl,.inl Vl.sq,_,_,rfl,rfl,(by show (0:Int) < ((ns.map V.int).length:Int); rw [XJ]; lia),a,_,_,.int ns[j],rfl,rfl,Vl.sq,(by rw [ej]; exact C9 (by rw [Yd,XO jl]; rfl)),?_⟩;refine ⟨_,rfl,?_⟩;exact fin _ (by first | exact Int.natCast_nonneg _ | exact Int.ofNat_nonneg _ | (split <;> lia))
end
end K45
namespace L2
open PySem PySem.Spec PyProof.Rows
def At (K:XU) (n:Str) (st:Stmt) (f:Addr) (fd:FuncData):Prop:=YM K mainGlobals n=some (some (.ref f))/\Ek K n n st f fd
section
variable {K:XU} {h:Heap} {mg:Str->Option Value} {n p q r t u:Str} {st:Stmt} {f:Addr} {fd:FuncData}
theorem at_mk {oc:Value} {od an:Option Addr} {osl:Array (Option Value)} {kV doc pm cdv ct:Value} (a:YM K mainGlobals n=some (some (.ref f))) (l:K.lookup f=some ⟨oc,od,.func (Zf n n (DY st) (Ca st) (Am st) .none kV doc pm an cdv ct),osl⟩)
  (c:ZT K cdv n=true) (k:ZS K (.ref f)=true):At K n st f (Zf n n (DY st) (Ca st) (Am st) .none kV doc pm an cdv ct):=⟨a,U8 l c k⟩
abbrev BA (n:Str) (st:Stmt) (us:List Value) (ps:List (Str × Value)):Prop:=∀ (kV doc pm:Value) (an:Option Addr) (cdv ct:Value),bindArgs (Zf n n (DY st) (Ca st) (Am st) .none kV doc pm an cdv ct) ⟨us,[]⟩=pure ps
theorem UB (X:K.In h) (G:h.Ns mainGlobals mg) (A:At K n st f fd) (hb:∀ x,BA n st [x] [(p,x)]):Fn K mg n st [p] f fd:=⟨A.2,Z3 X G A.1,A.2.binds fun _ _ _ _ _ _ us hl=>by obtain ⟨x,rfl⟩:=len1 hl; exact hb ..⟩
theorem K6 (X:K.In h) (G:h.Ns mainGlobals mg) (A:At K n st f fd) (hb:∀ x y,BA n st [x,y] [(p,x),(q,y)]):Fn K mg n st [p,q] f fd:=⟨A.2,Z3 X G A.1,A.2.binds fun _ _ _ _ _ _ us hl=>by obtain ⟨x,y,rfl⟩:=Sy hl; exact hb ..⟩
theorem fa3 (X:K.In h) (G:h.Ns mainGlobals mg) (A:At K n st f fd) (hb:∀ x y z,BA n st [x,y,z] [(p,x),(q,y),(r,z)]):Fn K mg n st [p,q,r] f fd:=⟨A.2,Z3 X G A.1,A.2.binds fun _ _ _ _ _ _ us hl=>by obtain ⟨x,y,z,rfl⟩:=len3 hl; exact hb ..⟩
end
end L2
namespace K45
open PySem L2
theorem all_mk {l:aw} {w:World} {K:XU} {h:Heap} {mg:Str->Option Value} {fa f1 f2 f3 f4 f5 f6 f7 f8 f9 f10 f11 f12 f13 f14 f15 f16 f17 f18 f19 f20 f21 f22 f23 f24 f25 f26 f27 f28 f29:Addr} {d1 d2 d3 d4 d5 d6 d7 d8 d9 d10 d11 d12 d13 d14 d15 d16 d17 d18 d19 d20 W7 d22 d23 d24 d25 d26 d27 d28 d29:FuncData} (X:K.In h) (G:h.Ns mainGlobals mg) (hfa:mg "law"=some (.ref fa))
  (a1:At K "is_name" EF f1 d1) (a2:At K "are_rising" CQ f2 d2) (a3:At K "is_opening" CP f3 d3) (a4:At K "most_houses" C5 f4 d4) (a5:At K "neighbours" CM f5 d5) (a6:At K "fars" Kb f6 d6) (a7:At K "site_fars" Dr f7 d7) (a8:At K "nearest" DB f8 d8) (a9:At K "costs_of" Dc f9 d9) (a10:At K "exchanges" Du f10 d10) (a11:At K "is_settled" CO f11 d11) (a12:At K "better" F9 f12 d12) (a13:At K "outcomes_of" BV f13 d13) (a14:At K "changed" EG f14 d14) (a15:At K "goings" F8 f15 d15) (a16:At K "houses_cost" C6 f16 d16) (a17:At K "ways_cost" Dq f17 d17) (a18:At K "cost" Kc f18 d18) (a19:At K "_law_take" AN f19 d19) (a20:At K "_law_names" Dt f20 d20) (a21:At K "_law_length" Cn f21 W7) (a22:At K "_law_map" Cy f22 d22) (a23:At K "_law_some" DN f23 d23) (a24:At K "_law_case" DP f24 d24) (a25:At K "_law_openings" Cm f25 d25) (a26:At K "_law_behind" CN f26 d26) (a27:At K "_law_many" DO f27 d27) (a28:At K "_law_right" Ds f28 d28) (a29:At K "law" Qv f29 d29)
  (z1:YM K mainGlobals "len"=some none) (z2:YM K mainGlobals "range"=some none) (z3:YM K mainGlobals "abs"=some none) (z4:YM K mainGlobals "int"=some none) (z5:YM K mainGlobals "min"=some none) (z6:YM K mainGlobals "tuple"=some none) (z7:YM K mainGlobals "list"=some none) (z8:YM K mainGlobals "sorted"=some none) (z9:YM K mainGlobals "max"=some none) (z10:YM K mainGlobals "all"=some none) (z11:YM K mainGlobals "dict"=some none) (z12:YM K mainGlobals "sum"=some none) (z13:YM K mainGlobals "isinstance"=some none) (z14:YM K mainGlobals "set"=some none) (z15:YM K mainGlobals "str"=some none) {tc1:Tok} (w1:YM K mainGlobals "MOST_LETTERS"=some (some (.int 6 tc1))) :
  ∃ fd:FuncData,(∀ (s:Shared) (v:Value),BindsTo s fd ⟨[v],[]⟩ [("_law_script",v)])/\∀ base:Heap,K.In base->base.Ns mainGlobals mg->A7 l.prog w K mg base B9 9 fa fd ["_law_script"] (MS K):=by
 cases hfa.symm.trans (Z3 X G a29.1)
 have y1:=YF X G z1;have y2:=YF X G z2;have y3:=YF X G z3;have y4:=YF X G z4;have y5:=YF X G z5;have y6:=YF X G z6;have y7:=YF X G z7;have y8:=YF X G z8;have y9:=YF X G z9;have TK:=YF X G z10;have US:=YF X G z11;have Wc:=YF X G z12;have Wb:=YF X G z13;have y14:=YF X G z14;have y15:=YF X G z15;have n1:=UB X G a1 (p:="thing") fun _ _ _ _ _ _ _=>rfl
 have n2:=UB X G a2 (p:="things") fun _ _ _ _ _ _ _=>rfl
 have n3:=K6 X G a3 (p:="case") (q:="thing") fun _ _ _ _ _ _ _ _=>rfl
 have n4:=UB X G a4 (p:="case") fun _ _ _ _ _ _ _=>rfl
 have n5:=UB X G a5 (p:="web") fun _ _ _ _ _ _ _=>rfl
 have n6:=K6 X G a6 (p:="web") (q:="place") fun _ _ _ _ _ _ _ _=>rfl
 have n7:=UB X G a7 (p:="case") fun _ _ _ _ _ _ _=>rfl
 have n8:=K6 X G a8 (p:="web") (q:="starts") fun _ _ _ _ _ _ _ _=>rfl
 have n9:=K6 X G a9 (p:="case") (q:="chosen") fun _ _ _ _ _ _ _ _=>rfl
 have n10:=K6 X G a10 (p:="case") (q:="opening") fun _ _ _ _ _ _ _ _=>rfl
 have n11:=K6 X G a11 (p:="case") (q:="opening") fun _ _ _ _ _ _ _ _=>rfl
 have n12:=K6 X G a12 (p:="case") (q:="opening") fun _ _ _ _ _ _ _ _=>rfl
 have n13:=K6 X G a13 (p:="case") (q:="opening") fun _ _ _ _ _ _ _ _=>rfl
 have n14:=fa3 X G a14 (p:="opening") (q:="out") (r:="more") fun _ _ _ _ _ _ _ _ _=>rfl
 have n15:=K6 X G a15 (p:="case") (q:="opening") fun _ _ _ _ _ _ _ _=>rfl
 have n16:=K6 X G a16 (p:="case") (q:="opening") fun _ _ _ _ _ _ _ _=>rfl
 have n17:=K6 X G a17 (p:="case") (q:="opening") fun _ _ _ _ _ _ _ _=>rfl
 have n18:=K6 X G a18 (p:="case") (q:="opening") fun _ _ _ _ _ _ _ _=>rfl
 have Uw:=K6 X G a19 (p:="_law_pen") (q:="_law_many_here") fun _ _ _ _ _ _ _ _=>rfl
 have n20:=K6 X G a20 (p:="_law_pen") (q:="_law_many_here") fun _ _ _ _ _ _ _ _=>rfl
 have n21:=UB X G a21 (p:="_law_pen") fun _ _ _ _ _ _ _=>rfl
 have n22:=fa3 X G a22 (p:="_law_pen") (q:="_law_names_here") (r:="_law_shape") fun _ _ _ _ _ _ _ _ _=>rfl
 have n23:=fa3 X G a23 (p:="_law_pen") (q:="_law_names_here") (r:="_law_many_here") fun _ _ _ _ _ _ _ _ _=>rfl
 have n24:=K6 X G a24 (p:="_law_pen") (q:="_law_shape") fun _ _ _ _ _ _ _ _=>rfl
 have n25:=UB X G a25 (p:="_law_case_here") fun _ _ _ _ _ _ _=>rfl
 have n26:=K6 X G a26 (p:="_law_opening") (q:="_law_exchange") fun _ _ _ _ _ _ _ _=>rfl
 have n27:=K6 X G a27 (p:="_law_case_here") (q:="_law_opening") fun _ _ _ _ _ _ _ _=>rfl
 have n28:=K6 X G a28 (p:="_law_case_here") (q:="_law_opening") fun _ _ _ _ _ _ _ _=>rfl
 obtain ⟨oc,od,kV,doc,pm,an,cdv,ct,osl,e,lk,hcd⟩:=a29.2.ex;exact ⟨d29,fun s v=>by subst e; exact .of_eq rfl,fun base _ _=>Uu y1 y2 Uw (BH y3 y1 a19.2) n24 (Lp y4 y1 y5 y6 Uw (BH y3 y1 a19.2) n20 (Ks y1 y2 Uw (BH y3 y1 a19.2) a20.2) n21 (Fc y4 Uw (BH y3 y1 a19.2) a21.2) n23 (Ln y1 y7 y2 y8 Uw (BH y3 y1 a19.2) a23.2) n22 (Mo y4 y1 y9 y2 y8 y6 Uw (BH y3 y1 a19.2) n21 (Fc y4 Uw (BH y3 y1 a19.2) a21.2) a22.2) a24.2) n25 (GO y4 y1 y8 a25.2) n28 (Kr TK y1 n18 (Sn n16 (HS US Wc a16.2) n17 (Kq US Wc n15 (OB n8 (HR ⟨n5.F,n5.mg,n5.b⟩ y5 a8.2) a15.2) a17.2) a18.2) n10 (Kt y7 y8 n13 (Eu n14 (HU y8 y6 a14.2) n3 (Fd TK US Wb y1 y6 n4 (Ew y1 y5 a4.2) n2 (Fe TK y7 y8 y14 n1 (Ni ⟨y1,Wb,y15,TK,⟨_,Z3 X G w1⟩⟩ a1.2) a2.2) a3.2) a13.2) n9 (G4 US y5 Wc n7 (FF n6 (Nj ⟨⟨n5.F,n5.mg,n5.b⟩,y5,n8.F,n8.mg,n8.b⟩ a6.2) a7.2) a9.2) a10.2) n27 (Lo y4 y1 a27.2) n26 (IT y8 y6 a26.2) n11 (IU n12 (OC y7 y5 n13 (Eu n14 (HU y8 y6 a14.2) n3 (Fd TK US Wb y1 y6 n4 (Ew y1 y5 a4.2) n2 (Fe TK y7 y8 y14 n1 (Ni ⟨y1,Wb,y15,TK,⟨_,Z3 X G w1⟩⟩ a1.2) a2.2) a3.2) a13.2) n9 (G4 US y5 Wc n7 (FF n6 (Nj ⟨⟨n5.F,n5.mg,n5.b⟩,y5,n8.F,n8.mg,n8.b⟩ a6.2) a7.2) a9.2) a12.2) a11.2) a28.2) a29.2⟩
theorem Ub {K:XU} {H:Hp} {a:Addr} {xs:List V} (o:SW H) (h:AM K H a xs):ME K H a xs:=by
 rcases h with (h | ⟨ob,h⟩) | h
 ·rcases o a with z | ⟨ob,ys,z⟩ <;> (rw [h] at z; cases z)
 ·exact .inl ⟨ob,h⟩
 ·exact .inr h
theorem walk {l:aw} {q:Program} {loose:List Str} {XP:(Str->Option Value)->Heap->Prop} {YP:World->Heap->Prop} {d:DefRec} {K:Params->XU} (hn:l.most=some 63) (hdf:d.params.defaults=[])
  (hY:∀ (w:World) (h:Heap),YP w h->(K w.params).In h)
  (F:∀ (w:World) (mg:Str->Option Value) (fa:Addr) (h:Heap),(K w.params).In h->h.Ns mainGlobals mg->mg d.name=some (.ref fa) ->
   ∃ fd:FuncData,(∀ (s:Shared) (u:Value),BindsTo s fd ⟨[u],[]⟩ [("_law_script",u)])/\∀ base:Heap,(K w.params).In base->base.Ns mainGlobals mg->A7 l.prog w (K w.params) mg base B9 9 fa fd ["_law_script"] (MS (K w.params))) :
  bM q loose XP YP l.row.toRowW d [] (fun f vs=>PySem.call f vs):=
 L2.walk_of (n:=63) (k:=9) (x:="_law_script") (CX:=fun _=>B9) (sp:=fun w=>MS (K w.params)) hn (by decide) hdf ⟨rfl,by decide,by decide,rfl⟩ hY F (fun _ _ a ns hl ho hS=>⟨a,ns,rfl,Ub ho hS,hl,fun _=>rfl⟩) fun _ _ _ _ _ z=>z
end K45
structure PySem.W.Fast:Prop where
  (tw17815595666985099047 tw9465794193318459522 tw18441943716504095215 tw11949892495722107359 tw15772340569668943576 tw9575337684135596774 tw13504537051825390530 tw7420452879924704486 tw4505990819948591754 tw2401262300305899046 tw14271473677557410961 tw8240280692196519063 tw5059385635216703537 tw15463936563638292797 tw14900783979216523110 tw3989805457974468265 tw18122178349817021765 tw10419242204702319354 tw187786100218383519 tw12618875113236410892 tw5900349658443913802 tw7819342529697408331 tw16264668396140719137 tw16983093273353415156 tw1689291575491492715 tw4866300999293751379 tw11645496478341922354 tw2725054557670265994 tw13639451617575258468 tw11926157633821808160 tw7548238306692123854 tw13374808245319162388 tw8143909383358377812 tw3380461640476907398 tw11979319880129660252 tw15799650978371130897 tw11397271228378138509 tw14321389949397586213 tw12099735241868988055 tw16541896364530879669 tw7323849842348204275 tw3296738772218619100 tw15299460179259524305 tw14719311308127328456 tw4456950803606973073 tw2746150025978651320 tw16586444385671792039 tw669113543934379462 tw11588501768732194858 tw14798083107164009601 tw5850540159557073471 tw15514434902210203084 tw8654937181891795451 tw6361324703265569404 tw17128473766026825932 tw2994864420808985248 tw3376449339151008058 tw9189783857377935853 tw12676837384347502257 tw7689830985875297778 tw8341132967294501332 tw2904505608465597290 tw2012444442732113500 tw11707489212342254755 tw2209857526024490806 tw6581711314965001235 tw12521837878735474010 tw8618690514080581667 tw5815323707354916368 tw5965482465350022501 tw5347180502721767711 tw14907017424589588320 tw12412767765073911875 tw15188604142086741122 tw17558683230872684524 tw12824924823169969961 tw6635516681617301781 tw9057696935190386234 tw8217024387979474820 tw14705958394922868879 tw11967198394932719436 tw10786659017637747504 tw13307363587678481117:True)
open PySem PySem.W PyProof.Rows
set_option maxRecDepth 100000 in
set_option maxHeartbeats 0 in
theorem PySem.Challenge.cw_openhouses_k45_whole_there_and_back_holds : PySem.Challenge.rw_openhouses_k45_whole_there_and_back.Holds := by
 w_on; o_law; k_head; (case hw=>w_witness2)
 k_fill
 refine K45.walk (l:=PySem.Challenge.rw_openhouses_k45_whole_there_and_back) rfl rfl (fun w h Y=>PySem.W.kIn_of Y) ?F
 case F=>
  intro w mg fa h KX G hmg;refine' K45.all_mk KX G hmg (L2.at_mk ?a1 ?l1 ?c1 ?k1) (L2.at_mk ?a2 ?l2 ?c2 ?k2) (L2.at_mk ?a3 ?l3 ?c3 ?k3) (L2.at_mk ?a4 ?l4 ?c4 ?k4) (L2.at_mk ?a5 ?l5 ?c5 ?k5) (L2.at_mk ?a6 ?l6 ?c6 ?k6) (L2.at_mk ?a7 ?l7 ?c7 ?k7) (L2.at_mk ?a8 ?l8 ?c8 ?k8) (L2.at_mk ?a9 ?l9 ?c9 ?k9) (L2.at_mk ?a10 ?l10 ?c10 ?k10) (L2.at_mk ?a11 ?l11 ?c11 ?k11) (L2.at_mk ?a12 ?l12 ?c12 ?k12) (L2.at_mk ?a13 ?l13 ?c13 ?k13) (L2.at_mk ?a14 ?l14 ?c14 ?k14) (L2.at_mk ?a15 ?l15 ?c15 ?k15) (L2.at_mk ?a16 ?l16 ?c16 ?k16) (L2.at_mk ?a17 ?l17 ?c17 ?k17) (L2.at_mk ?a18 ?l18 ?c18 ?k18) (L2.at_mk ?a19 ?l19 ?c19 ?k19) (L2.at_mk ?a20 ?l20 ?c20 ?k20) (L2.at_mk ?a21 ?l21 ?c21 ?k21) (L2.at_mk ?a22 ?l22 ?c22 ?k22) (L2.at_mk ?a23 ?l23 ?c23 ?k23) (L2.at_mk ?a24 ?l24 ?c24 ?k24) (L2.at_mk ?a25 ?l25 ?c25 ?k25) (L2.at_mk ?a26 ?l26 ?c26 ?k26) (L2.at_mk ?a27 ?l27 ?c27 ?k27) (L2.at_mk ?a28 ?l28 ?c28 ?k28) (L2.at_mk ?a29 ?l29 ?c29 ?k29) ?z1 ?z2 ?z3 ?z4 ?z5 ?z6 ?z7 ?z8 ?z9 ?z10 ?z11 ?z12 ?z13 ?z14 ?z15 ?w1;any_goals k_is
