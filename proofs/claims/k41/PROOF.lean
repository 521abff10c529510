import PyProof.Rows.All
import Wide.All
import OpenK.AllK
import Wide.FinOn
import Lean
import PyProof.EqAt
import PyProof.EqKinds
import PyProof.TupleCall
import PyProof.P3Eq
import PyProof.NeData
import PyProof.P3In
import PyProof.StrLawsChain
import KE.KIntText
import KE.IntTextLaws
import PyProof.Rows.StrJoinMade
import PyProof.Rows.FStr
import PyProof.ListMulRoad
import PySem.Challenge.RW_openhouses_k41_exchanges_told
open List renaming length_map→Y0,getElem?_eq_getElem→Y1,mem_cons→Y4,mem_of_getElem?→Y5,length_append→Y6,getElem?_eq_some_iff→Y8,getElem?_map→Y9,mem_map→YA,not_mem_nil→YB,map_append→YE,mem_append_right→YH,mem_singleton→YJ,map_cons→YK,take_length→YL,size_toArray→YN,mem_cons_self→YO,getElem_of_mem→YQ,mem_append→YR,take_add_one→YS,mem_cons_of_mem→YT,getD_eq_getElem?_getD→YW,length_cons→YX,map_map→Zb,length_filter_le→Zc,length_take→Zf,getElem?_append_right→Zg,mem_filter→Zh,getElem?_append_left→Zi,nodup_cons→Zl,append_nil→Zq,nodup_append→Zr,pairwise_cons→Zs,length_singleton→Zt,getElem_mem→Zv,append_assoc→Zw,pairwise_iff_getElem→Zy,getElem?_cons_zero→Zz,length_eq_zero_iff→Z0,mem_append_left→Z1,length→Z5,all_eq_true→Z8,getElem_map→Z9,filter_append→ZA,getElem?_of_mem→ZD,lt_trans→ZE,length_pos_iff→ZF,filter_sublist→ZG,cons_append→ZH,filter_cons→ZI,ext_getElem→ZJ,find?_cons→ZN,pairwise_map→ZO,range→ZP,any_eq_true→ZQ,map_congr_left→ZS,pairwise_singleton→ZW,not_lt→ZX,nodup_nil→ZZ,length_range→aa,getElem_take→ab,cons→af,any_cons→ag,length_zip→ai,mem_map_of_mem→aj,filter_eq_self→ak,mem_range→ar,nodup_iff_pairwise_ne→au,flatMap_cons→aA,lt_asymm→aB,sum_cons→aE,lookup_cons→aG,getElem?_cons_succ→aH,nil_sublist→aI,take_of_length_le→aJ,getElem?_eq_none→aT,length_filter_lt_length_iff_exists→aU,lt_irrefl→aW,filterMap_cons→aZ,map_eq_nil_iff→bc,all_cons→bh,mem_filterMap→bo,zip_cons_cons→bq,all_map→bz,getElem_inj→b9,sublist_nil→bA,mem_flatMap→bC,flatMap_nil→bD,of_mem_zip→bG,take_zero→bH,getElem?_eq_none_iff→bJ,isEmpty_eq_false_iff→bK,length_filterMap_le→bL,getElem?_set_self→bO,length_pos_of_mem→bP,getElem_cons_drop→bQ,take_append_drop→bU,getElem?_set_ne→bW,mem_erase_of_ne→cg,pairwise_append→cj,getElem_toArray→cq,length_eraseIdx→cu,flatMap_append→cA,map_inj_right→cB,take_sublist→cG,flatten_cons→cI,ext_getElem?→cM,getElem_zip→cP,length_nil→cQ,nil_append→cR,foldl_cons→cS,zip_append→cT,filter_nil→cV,replicate→cW,filterMap→cY,map→cZ,le_trans→de,map_nil→dh
open PySem.Heap renaming get?_push_of_some→Y2,lt_size→YC,get?_push_size→YD,size_push→Zk,get?_update_other→Zm,get?_update_self→Zo,get?_update_ne→ba,size_update→bB
open PySem.W renaming Frag→Y3,mg_none_of→Zj,nsIn→Zu,kia_one→Z4,fnOf→ZK,mg_of→ax,kitOne→aM,keepIn→aN,codeIn→aO,methodObj→bg,instObj→b0,OpenLaw→b5,lookIn→bE,cellsFrom_some→bI,kitx_list→bX,kitx_dict→bY,plainGet→cy,findIn→cF,KdlSrc→cJ,WalkO→cN
open Nat renaming le_refl→Y7,ne_of_lt→YF,lt_of_lt_of_le→YG,le_trans→YU,lt_succ_of_lt→YV,lt_succ_self→YZ,zero_le→Zd,le_succ→Ze,lt_irrefl→Zp,ne_of_gt→Zx,zero_add→ZR,min_le_left→ZU,not_lt_zero→ZV,mul_le_mul_right→ah,le_succ_of_le→aD,lt_or_ge→aK,le_of_lt→aL,not_lt→aP,sub_self→aQ,pow_le_pow_right→aX,add_sub_cancel→cH,eq_zero_or_pos→cK,lt_trichotomy→cO,succ_mul→dj,add_mul→dt,log2_lt→du,mod_lt→dw
open Bool renaming false_ne_true→YI,false_eq_true→Za,and_eq_true→Zn,eq_iff_iff→Z7,not_eq_true'→az,false_and→aV,and_true→bj,and_false→cX,or_false→dc,not_true→df
open Option renaming some→YM,map_some→ZT,none→ae,isSome_iff_exists→ay,isSome_map→bp,isSome_some→bZ,mem_toList→cz,toList→cU
open Array renaming length_toList→YY,getElem?_eq_getElem→Z2,getElem?_toList→Z3,getElem?_eq_none→ZY,perm_iff_toList_perm→aq,toList_append→aY,toList→bx,toList_inj→b6,getD_eq_getD_getElem?→bF,ext→bM,mem_of_getElem?→bN,mem_toList_iff→bR,toArray_toList→bT,toList_push→cD,getD→di
open Int renaming le_refl→Z6,emod_nonneg→ZC,mul_le_mul_of_nonneg_right→ZL,emod_lt_of_pos→ZM,lt_of_lt_of_le→aw,toNat_natCast→aF,add_assoc→br,zero_add→b7,add_zero→b8,lt_trans→bV,natAbs_dvd_natAbs→cn,toNat_of_nonneg→cE,lt_of_le_of_lt→cL,le_trans→dk,ediv_one→dq,add_mul→dv
set_option Elab.async false
set_option linter.all false
set_option maxRecDepth 100000
set_option maxHeartbeats 4000000
namespace L2
open PySem PySem.W PyProof.Rows
structure NM (lt:Keyed->Keyed->Bool):Prop where
 irr:∀ a,lt a a=false
 tra:∀ a b c,lt a b=true->lt b c=true->lt a c=true
 neg:∀ a b c,lt a c=true->lt a b=true\/lt b c=true
def Nl (lt:Keyed->Keyed->Bool) (a b:Keyed):Prop:=lt b a=false
section
variable {lt:Keyed->Keyed->Bool}
theorem NM.rfl' (h:NM lt) (a:Keyed):Nl lt a a:=h.irr a
theorem NM.of_lt (h:NM lt) {a b:Keyed} (e:lt a b=true):Nl lt a b:=by
 unfold Nl;cases z:lt b a
 ·rfl
 ·have:=h.tra _ _ _ e z;rw [h.irr] at this;cases this
theorem NM.trans (h:NM lt) {a b c:Keyed} (x:Nl lt a b) (y:Nl lt b c):Nl lt a c:=by
 unfold Nl at *;cases z:lt c a
 ·rfl
 ·rcases h.neg _ b _ z with q | q
  ·rw [y] at q; cases q
  ·rw [x] at q; cases q
end
def Cf (xs:Array Keyed) (i:Nat):Keyed:=xs.getD i (Value.none,Value.none)
theorem Ny {xs:Array Keyed} {i:Nat} (h:i < xs.size):xs[i]? = some (Cf xs i):=by
 unfold Cf;simp [di,h]
theorem Ia {xs ys:Array Keyed} {i j:Nat} (h:xs[i]? = ys[j]?):Cf xs i=Cf ys j:=by
 unfold Cf;rw [bF,bF,h]
theorem Nx {xs:Array Keyed} {i:Nat} (h:i < xs.size):Cf xs i ∈ xs:=bN (Ny h)
def Th (prog:Program) (w:World) (A:Around) (s:Shared) (κ:SortKind) (lt:Keyed->Keyed->Bool) (a0:Array Keyed):Prop:=
 ∀ x y,x ∈ a0->y ∈ a0->∀ (Q:Bool->Shared->Prop) (E:Value->Shared->Prop),Q (lt x y) s->wpAny (model prog w) A (keyLt' κ x.1 y.1) Q E s
section
variable {prog:Program} {w:World} {A:Around} {E:Value->Shared->Prop} {s:Shared} {κ:SortKind} {lt:Keyed->Keyed->Bool} {a0:Array Keyed}
theorem Jg {xs:Array Keyed} {i:Nat} {Q:Keyed->SortSt->Prop} {st:SortSt} (hi:i < xs.size) (h:Q (Cf xs i) st):wpS (model prog w) A E s (elem' xs i) Q st:=by
 rw [elem'_eq,Ny hi];exact wpS_pure h
theorem RH {x y:Keyed} {Q:Option Bool->SortSt->Prop} {st:SortSt} (an:Th prog w A s κ lt a0) (hk:kindOf st=κ) (hx:x ∈ a0) (hy:y ∈ a0) (h:Q (some (lt x y)) st) :
  wpS (model prog w) A E s (lt' x y) Q st:=by
 rw [lt'_eq];refine wpS_bind (wpS_get ?_);rw [hk];refine wpS_bind (wpS_lift (wpAny_attempt (an x y hx hy _ _ ⟨rfl,?_⟩)));exact wpS_pure h
theorem CS {i j:Nat} {Q:Option Bool->SortSt->Prop} {st:SortSt} (an:Th prog w A s κ lt a0) (hk:kindOf st=κ) (hp:(arrOf st).Perm a0) (hi:i < a0.size) (hj:j < a0.size)
  (h:Q (some (lt (Cf (arrOf st) i) (Cf (arrOf st) j))) st):wpS (model prog w) A E s (ltAt' i j) Q st:=by
 rw [ltAt'_eq];refine wpS_bind (wpS_get ?_);have e:=hp.size_eq;refine wpS_bind (Jg (by lia) (wpS_bind (Jg (by lia) ?_)));exact RH an hk ((Array.Perm.mem_iff hp).mp (Nx (by lia))) ((Array.Perm.mem_iff hp).mp (Nx (by lia))) h
theorem K5 {ρ:Type} {body:Nat->Option ρ × Nat × Nat->StateT SortSt Sem (ForInStep (Option ρ × Nat × Nat))} {f:Nat->Bool} {n lo hi:Nat} {st:SortSt}
  (hs:∀ x l (R:ForInStep (Option ρ × Nat × Nat)->SortSt->Prop),R (.done (none,l,l)) st->wpS (model prog w) A E s (body x (none,l,l)) R st)
  (hg:∀ x l r (R:ForInStep (Option ρ × Nat × Nat)->SortSt->Prop),l < r->r<=n ->
   (f (l + (r - l) / 2)=true->R (.yield (none,l + (r - l) / 2 + 1,r)) st)->(f (l + (r - l) / 2)=false->R (.yield (none,l,l + (r - l) / 2)) st)->wpS (model prog w) A E s (body x (none,l,r)) R st)
  (hl:lo<=hi) (hn:hi<=n) (mono:∀ i j,i<=j->j < n->f j=true->f i=true)
  (h1:∀ i,i < lo->f i=true) (h2:∀ i,hi<=i->i < n->f i=false) :
  wpS (model prog w) A E s (forIn [0:n] (none,lo,hi) body) (fun c AM=>AM=st/\∃ r,c=(none,r,r)/\r<=n/\(∀ i,i < r->f i=true)/\(∀ i,r<=i->i < n->f i=false)) st:=by
 refine wpS_forRange (I:=fun x c AM=>AM=st/\∃ l r,c=(none,l,r)/\l<=r/\r<=n/\r - l<=n - x/\(∀ i,i < l->f i=true)/\(∀ i,r<=i->i < n->f i=false)) ?_ ?_ ⟨rfl,lo,hi,rfl,hl,hn,by lia,h1,h2⟩
 ·rintro x c AM _ hx ⟨rfl,l,r,rfl,q1,q2,q3,q4,q5⟩;by_cases hlr:l < r
  ·have hm:l + (r - l) / 2 < r:=by lia
   refine hg _ _ _ _ hlr q2 (fun e=>?_) (fun e=>?_)
   ·exact ⟨rfl,_,r,rfl,by lia,by lia,by lia,fun i i1=>mono _ _ (by lia) (by lia) e,q5⟩
   ·refine ⟨rfl,l,_,rfl,by lia,by lia,by lia,q4,fun i i1 i2=>?_⟩;cases z:f i
    ·rfl
    ·rw [mono _ _ i1 i2 z] at e; cases e
  ·have:l=r:=by lia
   subst this;exact hs _ _ _ ⟨rfl,l,rfl,q2,q4,q5⟩
 ·rintro c AM ⟨rfl,l,r,rfl,q1,q2,q3,q4,q5⟩;have:l=r:=by lia
  subst this;exact ⟨rfl,l,rfl,q2,q4,q5⟩
end
section lists
variable {lt:Keyed->Keyed->Bool}
theorem HZ {xs:Array Keyed} {i:Nat} (h:i < xs.toList.length):xs.toList[i]=Cf xs i:=by
 have h':i < xs.size:=by simpa using h
 unfold Cf;simp [di,h']
theorem T9 {xs:Array Keyed} (h:∀ i j,i < j->j < xs.size->Nl lt (Cf xs i) (Cf xs j)):xs.toList.Pairwise (Nl lt):=by
 rw [Zy];intro i j hi hj hij;rw [HZ,HZ];exact h i j hij (by simpa using hj)
end lists
section
variable {prog:Program} {w:World} {A:Around} {E:Value->Shared->Prop} {s:Shared} {κ:SortKind} {lt:Keyed->Keyed->Bool} {a0:Array Keyed}
end
section
variable {prog:Program} {w:World} {A:Around} {E:Value->Shared->Prop} {s:Shared} {κ:SortKind} {lt:Keyed->Keyed->Bool} {a0:Array Keyed}
end
section segs
variable {lt:Keyed->Keyed->Bool}
def SS (lt:Keyed->Keyed->Bool) (xs:Array Keyed) (lo hi:Nat):Prop:=∀ i j,lo<=i->i<=j->j < hi->Nl lt (Cf xs i) (Cf xs j)
def NS (lt:Keyed->Keyed->Bool) (xs:Array Keyed) (lo hi:Nat):Prop:=∀ i j,lo<=i->i<=j->j < hi->Nl lt (Cf xs j) (Cf xs i)
theorem De {xs:Array Keyed} {i j:Nat} (hj:j<=xs.size) (k:Nat):Cf (mirror xs i j ((j - i) / 2)) k=if i<=k/\k < j then Cf xs (i + j - 1 - k) else Cf xs k:=by
 have e:=getElem?_mirror_all (i:=i) hj k;split at e
 ·rw [if_pos ‹_›]; exact Ia e
 ·rw [if_neg ‹_›]; exact Ia e
theorem Fp {xs:Array Keyed} {src d:Nat} (hs:src < xs.size) (hd:d<=src) (k:Nat) :
  Cf (bubble xs src d) k=if k=src - d then Cf xs src else if src - d < k/\k<=src then Cf xs (k - 1) else Cf xs k:=by
 have e:=getElem?_bubble hs d hd k;by_cases h1:k=src - d
 ·rw [if_pos h1] at e ⊢; exact Ia e
 ·by_cases h2:src - d < k/\k<=src
  ·rw [if_neg h1,if_pos h2] at e ⊢; exact Ia e
  ·rw [if_neg h1,if_neg h2] at e ⊢; exact Ia e
theorem NS.mirror {xs:Array Keyed} {lo hi:Nat} (h:NS lt xs lo hi) (hs:hi<=xs.size):SS lt (mirror xs lo hi ((hi - lo) / 2)) lo hi:=by
 intro i j h1 h2 h3;rw [De hs,De hs,if_pos ⟨h1,by lia⟩,if_pos ⟨by lia,h3⟩];exact h _ _ (by lia) (by lia) (by lia)
theorem NS.even {xs:Array Keyed} {lo p hi:Nat} (h:NS lt xs lo hi) (hs:hi<=xs.size) (hp:lo<=p) (e:∀ i j,p<=i->i < hi->p<=j->j < hi->Nl lt (Cf xs i) (Cf xs j)) {top:Nat} (ht:hi<=top) (h':NS lt xs lo top) :
  NS lt (PyProof.Rows.mirror xs p hi ((hi - p) / 2)) lo top:=by
 intro i j h1 h2 h3;rw [De hs,De hs];by_cases c1:p<=j/\j < hi
 ·rw [if_pos c1];by_cases c2:p<=i/\i < hi
  ·rw [if_pos c2];exact e _ _ (by lia) (by lia) (by lia) (by lia)
  ·rw [if_neg c2];exact h' _ _ h1 (by lia) (by lia)
 ·rw [if_neg c1];by_cases c2:p<=i/\i < hi
  ·rw [if_pos c2];exact h' _ _ (by lia) (by lia) h3
  ·rw [if_neg c2];exact h' _ _ h1 h2 h3
def Kp (xs ys:Array Keyed) (lo:Nat):Prop:=ys.Perm xs/\∀ k,k < lo->Cf ys k=Cf xs k
theorem Kp.refl (xs:Array Keyed) (lo:Nat):Kp xs xs lo:=⟨Array.Perm.refl _,fun _ _=>rfl⟩
theorem Kp.size {xs ys:Array Keyed} {lo:Nat} (h:Kp xs ys lo):ys.size=xs.size:=h.1.size_eq
theorem Kp.mirror {xs ys:Array Keyed} {lo i j:Nat} (h:Kp xs ys lo) (hj:j<=xs.size) (hi:lo<=i):Kp xs (PyProof.Rows.mirror ys i j ((j - i) / 2)) lo:=by
 refine ⟨(mirror_perm _ _ _ _).trans h.1,fun k hk=>?_⟩;rw [De (by rw [h.size]; exact hj),if_neg (by lia)];exact h.2 k hk
theorem Kp.bubble {xs ys:Array Keyed} {lo src d:Nat} (h:Kp xs ys lo) (hs:src < xs.size) (hd:lo + d<=src):Kp xs (PyProof.Rows.bubble ys src d) lo:=by
 refine ⟨(bubble_perm _ _ _).trans h.1,fun k hk=>?_⟩;rw [Fp (by rw [h.size]; exact hs) (by lia),if_neg (by lia),if_neg (by lia)];exact h.2 k hk
end segs
section
variable {prog:Program} {w:World} {A:Around} {E:Value->Shared->Prop} {s:Shared} {κ:SortKind} {lt:Keyed->Keyed->Bool} {a0:Array Keyed}
theorem F4 {i j:Nat} {Q:Unit->SortSt->Prop} {st:SortSt} (h:Q () (setArr st (mirror (arrOf st) i j ((j - i) / 2)))):wpS (model prog w) A E s (reverseSlice' i j) Q st:=by
 rw [reverseSlice'_eq];exact wpS_modify h
theorem MA {body:Nat->Option (Option Nat) × Nat->StateT SortSt Sem (ForInStep (Option (Option Nat) × Nat))} {f:Nat->Bool} {a nrem:Nat} {st:SortSt} (ha:a<=nrem)
  (hb:∀ x n (R:ForInStep (Option (Option Nat) × Nat)->SortSt->Prop),a<=n->n < nrem->(f n=true->R (.done (none,n)) st)->(f n=false->R (.yield (none,n + 1)) st)->wpS (model prog w) A E s (body x (none,n)) R st) :
  wpS (model prog w) A E s (forIn [a:nrem] (none,a) body) (fun c AM=>AM=st/\∃ n,c=(none,n)/\a<=n/\n<=nrem/\(∀ i,a<=i->i < n->f i=false)/\(n=nrem\/f n=true)) st:=by
 refine wpS_forRange (I:=fun x c AM=>AM=st/\c=(none,x)/\(∀ i,a<=i->i < x->f i=false)) ?_ ?_ ⟨rfl,rfl,fun i h1 h2=>by lia⟩
 ·rintro x c AM h1 h2 ⟨rfl,rfl,q⟩;refine hb _ _ _ h1 h2 (fun e=>⟨rfl,x,rfl,h1,by lia,q,.inr e⟩) (fun e=>⟨rfl,rfl,fun i i1 i2=>?_⟩);by_cases z:i=x
  ·rw [z]; exact e
  ·exact q i i1 (by lia)
 ·rintro c AM ⟨rfl,rfl,q⟩;rw [Nat.max_eq_right ha] at q ⊢;exact ⟨rfl,nrem,rfl,ha,Y7 _,q,.inl rfl⟩
theorem Tn {xs:Array Keyed} (sw:NM lt) {lo a n:Nat} (h:SS lt xs lo (lo + a)) (ha:1<=a) (q:∀ i,a<=i->i < n->lt (Cf xs (lo + i)) (Cf xs (lo + i - 1))=false):SS lt xs lo (lo + n):=by
 have step:∀ d,a + d<=n->SS lt xs lo (lo + (a + d)):=by
  intro d;induction d with
  | zero=>intro _; exact h
  | succ d ih=>
   intro hd i j h1 h2 h3;by_cases hj:j < lo + (a + d)
   ·exact ih (by lia) i j h1 h2 hj
   ·have ej:j=lo + (a + d):=by lia
    by_cases hi:i=j
    ·rw [hi]; exact sw.rfl' _
    ·have q1:=q (a + d) (by lia) (by lia);rw [<-ej] at q1;exact sw.trans (ih (by lia) i (j - 1) h1 (by lia) (by lia)) q1
 rcases aK n a with B0 | hge
 ·exact fun i j h1 h2 h3=>h i j h1 h2 (by lia)
 ·have:=step (n - a) (by lia);rw [show a + (n - a)=n by lia] at this;exact this
theorem IM {lo nrem:Nat} {Q:Option Nat->SortSt->Prop} {st:SortSt} (sw:NM lt) (an:Th prog w A s κ lt a0) (hk:kindOf st=κ) (hp:(arrOf st).Perm a0) (hn:lo + nrem<=a0.size) (h1:1<=nrem)
  (h:∀ m ys,Kp (arrOf st) ys lo->1<=m->m<=nrem->SS lt ys lo (lo + m)->Q (some m) (setArr st ys)):wpS (model prog w) A E s (countRun' lo nrem) Q st:=by
 have hz:=hp.size_eq;refine wpS_bind (wpS_mono (MA (f:=fun n=>lt (Cf (arrOf st) (lo + n)) (Cf (arrOf st) (lo + n - 1))) h1 ?_) ?_)
 ·intro x n R n1 n2 y1 y2;dsimp only;refine wpS_bind (CS an hk hp (by lia) (by lia) ?_);dsimp only;cases e:lt (Cf (arrOf st) (lo + n)) (Cf (arrOf st) (lo + n - 1))
  ·exact wpS_pure (y2 e)
  ·exact wpS_pure (y1 e)
 rintro c AM ⟨rfl,n,rfl,n1,n2,q,hor⟩;dsimp only;have s0:SS lt (arrOf AM) lo (lo + 1):=fun i j a1 a2 a3=>by
  have:i=j:=by lia
  rw [this];exact sw.rfl' _
 have sn:SS lt (arrOf AM) lo (lo + n):=Tn sw s0 (Y7 _) q;by_cases hnn:n=nrem
 ·rw [if_pos (by simpa using hnn)];exact wpS_pure (h n _ (Kp.refl _ _) n1 n2 sn)
 rw [if_neg (by simpa using hnn)];have B0:lt (Cf (arrOf AM) (lo + n)) (Cf (arrOf AM) (lo + n - 1))=true:=hor.resolve_left hnn;by_cases hgt:n > 1
 case' pos=>
  rw [if_pos hgt];refine wpS_bind (CS an hk hp (by lia) (by lia) ?_);dsimp only;cases hrose:lt (Cf (arrOf AM) lo) (Cf (arrOf AM) (lo + n - 1))
  case' true=>
   simp only [if_true];exact wpS_pure (h n _ (Kp.refl _ _) n1 n2 sn)
  case' false=>
   simp only [Za,if_false];refine wpS_bind (F4 ?_);have even:∀ i j,lo<=i->i < lo + n->lo<=j->j < lo + n->Nl lt (Cf (arrOf AM) i) (Cf (arrOf AM) j):=by
    intro i j a1 a2 a3 a4;have b1:=sn lo j (Y7 _) a3 a4;have b2:=sn i (lo + n - 1) a1 (by lia) (by lia);exact sw.trans (sw.trans b2 hrose) b1
   have ns0:NS lt (arrOf AM) lo (lo + n):=fun i j a1 a2 a3=>even j i (by lia) a3 a1 (by lia)
   have ns1:NS lt (arrOf AM) lo (lo + (n + 1)):=by
    intro i j a1 a2 a3;by_cases hj:j < lo + n
    ·exact ns0 i j a1 a2 hj
    ·have ej:j=lo + n:=by lia
     by_cases hi:i=j
     ·rw [hi]; exact sw.rfl' _
     ·rw [ej];exact sw.trans (sw.of_lt B0) (even _ _ (by lia) (by lia) a1 (by lia))
   have kp:Kp (arrOf AM) (mirror (arrOf AM) lo (lo + n) ((lo + n - lo) / 2)) lo:=(Kp.refl _ _).mirror (by lia) (Y7 _);have ns:NS lt (mirror (arrOf AM) lo (lo + n) ((lo + n - lo) / 2)) lo (lo + (n + 1)):=ns0.even (by lia) (Y7 _) even (by lia) ns1;obtain ⟨ys,ey⟩:∃ ys,ys=mirror (arrOf AM) lo (lo + n) ((lo + n - lo) / 2):=⟨_,rfl⟩
   rw [<-ey] at kp ns;show wpS (model prog w) A E s _ Q (setArr AM (mirror (arrOf AM) lo (lo + n) ((lo + n - lo) / 2)))
   rw [<-ey]
 case' neg=>
  rw [if_neg hgt];have en:n=1:=by lia
  have kp:Kp (arrOf AM) (arrOf AM) lo:=Kp.refl _ _;have ns:NS lt (arrOf AM) lo (lo + (n + 1)):=by
   intro i j a1 a2 a3;by_cases hi:i=j
   ·rw [hi]; exact sw.rfl' _
   ·have e1:j=lo + n:=by lia
    have e2:i=lo + n - 1:=by lia
    rw [e1,e2];exact sw.of_lt B0
  obtain ⟨ys,ey⟩:∃ ys,ys=arrOf AM:=⟨_,rfl⟩
  rw [<-ey] at ns;have kp:Kp (arrOf AM) ys lo:=by rw [ey]; exact Kp.refl _ _
  show wpS (model prog w) A E s _ Q (setArr AM (arrOf AM))
  rw [<-ey]
 all_goals
  refine wpS_bind (wpS_lift (wpAny_rule ⟨rfl,?_⟩));refine wpS_bind (wpS_mono (wpS_forRange (I:=fun x c GO=>∃ neq ys,c=(none,x,neq)/\GO=setArr AM ys/\Kp (arrOf AM) ys lo/\NS lt ys lo (lo + x)/\neq + 1<=x /\
    (∀ i j,lo + x - (neq + 1)<=i->i < lo + x->lo + x - (neq + 1)<=j->j < lo + x->Nl lt (Cf ys i) (Cf ys j)))
   (Q:=fun c GO=>∃ m neq ys,c=(none,m,neq)/\GO=setArr AM ys/\Kp (arrOf AM) ys lo/\n + 1<=m/\m<=nrem/\NS lt ys lo (lo + m)/\neq + 1<=m /\
    (∀ i j,lo + m - (neq + 1)<=i->i < lo + m->lo + m - (neq + 1)<=j->j < lo + m->Nl lt (Cf ys i) (Cf ys j))) ?dstep ?dfin ?dinit) ?dpost)
  case dinit=>
   refine ⟨0,ys,rfl,rfl,kp,ns,by lia,fun i j a1 a2 a3 a4=>?_⟩;have:i=j:=by lia
   rw [this];exact sw.rfl' _
  case dfin=>
   rintro c GO ⟨neq,ys,rfl,rfl,kp,ns,a1,a2⟩;have e:max (n + 1) nrem=nrem:=by lia
   rw [e] at ns a1 a2 ⊢;exact ⟨nrem,neq,ys,rfl,rfl,kp,by lia,Y7 _,ns,a1,a2⟩
  case dstep=>
   rintro x c GO x1 x2 ⟨neq,ys,rfl,rfl,kp,ns,a1,a2⟩;dsimp only;have hzy:=kp.size;have hpy:(arrOf (setArr AM ys)).Perm a0:=kp.1.trans hp;refine wpS_bind (CS (st:=setArr AM ys) an hk hpy (by lia) (by lia) ?_);dsimp only;cases hless:lt (Cf ys (lo + x)) (Cf ys (lo + x - 1))
   ·simp only [Za,if_false];refine wpS_bind (CS (st:=setArr AM ys) an hk hpy (by lia) (by lia) ?_);dsimp only;cases hlarger:lt (Cf ys (lo + x - 1)) (Cf ys (lo + x))
    ·simp only [Za,if_false];refine wpS_pure ⟨neq + 1,ys,rfl,rfl,kp,?_,by lia,?_⟩
     ·intro i j b1 b2 b3;by_cases hj:j < lo + x
      ·exact ns i j b1 b2 hj
      ·have ej:j=lo + x:=by lia
       by_cases hi:i=j
       ·rw [hi]; exact sw.rfl' _
       ·rw [ej];exact sw.trans hlarger (ns _ _ b1 (by lia) (by lia))
     ·have pin:∀ i,lo + (x + 1) - (neq + 1 + 1)<=i->i < lo + (x + 1)->Nl lt (Cf ys i) (Cf ys (lo + x - 1))/\Nl lt (Cf ys (lo + x - 1)) (Cf ys i):=by
       intro i b1 b2;by_cases hi:i=lo + x
       ·rw [hi];exact ⟨hlarger,hless⟩
       ·exact ⟨a2 _ _ (by lia) (by lia) (by lia) (by lia),a2 _ _ (by lia) (by lia) (by lia) (by lia)⟩
      intro i j b1 b2 b3 b4;exact sw.trans (pin i b1 b2).1 (pin j b3 b4).2
    ·simp only [if_true];exact wpS_pure ⟨x,neq,ys,rfl,rfl,kp,x1,by lia,ns,a1,a2⟩
   ·simp only [if_true];have ns':NS lt ys lo (lo + (x + 1)):=by
     intro i j b1 b2 b3;by_cases hj:j < lo + x
     ·exact ns i j b1 b2 hj
     ·have ej:j=lo + x:=by lia
      by_cases hi:i=j
      ·rw [hi]; exact sw.rfl' _
      ·rw [ej];exact sw.trans (sw.of_lt hless) (ns _ _ b1 (by lia) (by lia))
    have one:∀ (zs:Array Keyed) i j,lo + (x + 1) - (0 + 1)<=i->i < lo + (x + 1)->lo + (x + 1) - (0 + 1)<=j->j < lo + (x + 1)->Nl lt (Cf zs i) (Cf zs j):=by
     intro zs i j b1 b2 b3 b4;have:i=j:=by lia
     rw [this];exact sw.rfl' _
    by_cases hq:neq > 0
    ·rw [if_pos hq];refine wpS_bind (F4 (wpS_pure ⟨0,_,rfl,rfl,kp.mirror (by lia) (by lia),?_,by lia,one _⟩));exact ns.even (by show _<=ys.size; lia) (by lia) a2 (by lia) ns'
    ·rw [if_neg hq];exact wpS_pure ⟨0,ys,rfl,rfl,kp,ns',by lia,one _⟩
  case dpost=>
   rintro c GO ⟨m,neq,zs,rfl,rfl,kz,m1,m2,nz,a1,a2⟩;dsimp only;have hzz:=kz.size;by_cases hq:neq > 0
   case' pos=>
    rw [if_pos hq];refine wpS_bind (F4 ?_);have W2:Kp (arrOf AM) (mirror zs (lo + m - (neq + 1)) (lo + m) ((lo + m - (lo + m - (neq + 1))) / 2)) lo:=kz.mirror (by lia) (by lia);have Xl:NS lt (mirror zs (lo + m - (neq + 1)) (lo + m) ((lo + m - (lo + m - (neq + 1))) / 2)) lo (lo + m):=nz.even (by lia) (by lia) a2 (Y7 _) nz;obtain ⟨us,eu⟩:∃ us,us=mirror zs (lo + m - (neq + 1)) (lo + m) ((lo + m - (lo + m - (neq + 1))) / 2):=⟨_,rfl⟩
    rw [<-eu] at W2 Xl;show wpS (model prog w) A E s _ Q (setArr AM (mirror zs (lo + m - (neq + 1)) (lo + m) ((lo + m - (lo + m - (neq + 1))) / 2)))
    rw [<-eu]
   case' neg=>
    rw [if_neg hq];obtain ⟨us,eu⟩:∃ us,us=zs:=⟨_,rfl⟩
    have W2:Kp (arrOf AM) us lo:=by rw [eu]; exact kz
    have Xl:NS lt us lo (lo + m):=by rw [eu]; exact nz
    rw [<-eu]
   all_goals
    have hzu:=W2.size;refine wpS_bind (F4 ?_);show wpS (model prog w) A E s _ Q (setArr AM (mirror us lo (lo + m) ((lo + m - lo) / 2)))
    have kv:Kp (arrOf AM) (mirror us lo (lo + m) ((lo + m - lo) / 2)) lo:=W2.mirror (by lia) (Y7 _);have sv:SS lt (mirror us lo (lo + m) ((lo + m - lo) / 2)) lo (lo + m):=Xl.mirror (by lia);obtain ⟨vs,ev⟩:∃ vs,vs=mirror us lo (lo + m) ((lo + m - lo) / 2):=⟨_,rfl⟩
    rw [<-ev] at kv sv;rw [<-ev];have hzv:=kv.size;refine wpS_bind (wpS_mono (MA (f:=fun n=>lt (Cf vs (lo + n)) (Cf vs (lo + n - 1))) m2 ?_) ?_)
    ·intro x n R n1 n2 y1 y2;dsimp only;refine wpS_bind (CS (st:=setArr AM vs) an hk (kv.1.trans hp) (by lia) (by lia) ?_);dsimp only;cases e:lt (Cf vs (lo + n)) (Cf vs (lo + n - 1))
     ·exact wpS_pure (y2 e)
     ·exact wpS_pure (y1 e)
    rintro c WV ⟨rfl,n',rfl,b1,b2,b3,_⟩;exact wpS_pure (h n' vs kv (by lia) b2 (Tn sw sv (by lia) b3))
theorem GK {lo n ok:Nat} {Q:Bool->SortSt->Prop} {st:SortSt} (sw:NM lt) (an:Th prog w A s κ lt a0) (hk:kindOf st=κ) (hp:(arrOf st).Perm a0) (hn:lo + n<=a0.size) (h1:1<=ok) (hok:ok<=n)
  (hs:SS lt (arrOf st) lo (lo + ok)) (h:∀ ys,Kp (arrOf st) ys lo->SS lt ys lo (lo + n)->Q true (setArr st ys)):wpS (model prog w) A E s (binarySort' lo n ok) Q st:=by
 have hz:=hp.size_eq;refine wpS_bind (wpS_mono (wpS_forRange (I:=fun k c AM=>c=(none,())/\∃ ys,AM=setArr st ys/\Kp (arrOf st) ys lo/\SS lt ys lo (lo + k))
  (Q:=fun c AM=>c=(none,())/\∃ ys,AM=setArr st ys/\Kp (arrOf st) ys lo/\SS lt ys lo (lo + n)) ?step ?fin ?init) ?post)
 case init=>
  rw [Nat.max_eq_left h1];exact ⟨rfl,arrOf st,rfl,Kp.refl _ _,hs⟩
 case fin=>
  rintro c AM ⟨rfl,ys,rfl,kp,ss⟩;rw [show max (max ok 1) n=n by lia] at ss;exact ⟨rfl,ys,rfl,kp,ss⟩
 case post=>
  rintro c AM ⟨rfl,ys,rfl,kp,ss⟩;exact wpS_pure (h ys kp ss)
 case step=>
  rintro k c AM k1 k2 ⟨rfl,ys,rfl,kp,ss⟩;dsimp only;have hzy:=kp.size;have hpy:(arrOf (setArr st ys)).Perm a0:=kp.1.trans hp;refine wpS_bind (wpS_mono (K5 (f:=fun m=>!(lt (Cf ys (lo + k)) (Cf ys (lo + m)))) (n:=k) ?_ ?_ (Zd _) (Y7 _) ?_ ?_ ?_) ?_)
  ·intro x l R hR;dsimp only;rw [if_pos (Y7 _)];exact wpS_pure hR
  ·intro x l r R hlr hrk y1 y2;dsimp only;rw [if_neg (by lia),show (l + r) / 2=l + (r - l) / 2 by lia];refine wpS_bind (CS (st:=setArr st ys) an hk hpy (by lia) (by lia) ?_);dsimp only;cases e:lt (Cf ys (lo + k)) (Cf ys (lo + (l + (r - l) / 2)))
   ·exact wpS_pure (y1 (by rw [e]; rfl))
   ·exact wpS_pure (y2 (by rw [e]; rfl))
  ·intro i j hij hj e;simp only [az] at e ⊢;exact sw.trans (ss _ _ (by lia) (by lia) (by lia)) e
  ·intro i hi;lia
  ·intro i hi1 UG;lia
  ·rintro c ET ⟨rfl,r,rfl,r1,r2,r3⟩;refine wpS_bind ?_;rw [show (sortPriv% PySem.Builtin.moveDown)=moveDown' from rfl,moveDown'_eq];refine wpS_modify (wpS_pure ⟨rfl,bubble ys (lo + k) (lo + k - (lo + r)),rfl,kp.bubble (by lia) (by lia),?_⟩);intro i j a1 a2 a3;rw [Fp (by lia) (by lia),Fp (by lia) (by lia)];have g1:∀ m,lo<=m->m < lo + r->Nl lt (Cf ys m) (Cf ys (lo + k)):=fun m b1 b2=>by
    have q:=r2 (m - lo) (by lia);simp only [az] at q;rw [show lo + (m - lo)=m by lia] at q;exact q
   have g2:∀ m,lo + r<=m->m < lo + k->Nl lt (Cf ys (lo + k)) (Cf ys m):=fun m b1 b2=>by
    have q:=r3 (m - lo) (by lia) (by lia);simp only [Bool.not_eq_false'] at q;rw [show lo + (m - lo)=m by lia] at q;exact sw.of_lt q
   repeat' split
   all_goals first
    | exact sw.rfl' _
    | exact g1 _ (by lia) (by lia)
    | exact g2 _ (by lia) (by lia)
    | exact ss _ _ (by lia) (by lia) (by lia)
    | (exfalso; lia)
end
section
variable {lt:Keyed->Keyed->Bool}
end
section
variable {prog:Program} {w:World} {A:Around} {E:Value->Shared->Prop} {s:Shared} {κ:SortKind} {lt:Keyed->Keyed->Bool} {a0:Array Keyed}
end
section
variable {prog:Program} {w:World} {A:Around} {E:Value->Shared->Prop} {s:Shared} {κ:SortKind} {lt:Keyed->Keyed->Bool} {a0:Array Keyed}
end
end L2
namespace L2
open PySem PySem.Spec PyProof.Rows
abbrev A6:=Sum Int Str
def HX:A6->Value->Bool
 | .inl k,v=>Value.isInt k v
 | .inr x,v=>Value.isStrOf x v
def keyH (w:World):A6->Int
 | .inl k=>hashInt k
 | .inr x=>hashStr w x
theorem Bo:∀ {k:A6} {v:Value},HX k v=true->(∃ i t,k=Sum.inl i/\v=Value.int i t)\/(∃ x t,k=Sum.inr x/\v=Value.str x t)
 | .inl i,v,h=>by
  obtain ⟨t,e⟩:=Value.isInt_shape (k:=i) (v:=v) h;exact .inl ⟨i,t,rfl,e⟩
 | .inr x,v,h=>by
  obtain ⟨t,e⟩:=Value.isStrOf_shape (x:=x) (v:=v) h;exact .inr ⟨x,t,rfl,e⟩
theorem OI (i:Int) (t:Tok):HX (.inl i) (.int i t)=true:=by simp [HX,Value.isInt]
theorem OH (x:Str) (t:Tok):HX (.inr x) (.str x t)=true:=by simp [HX,Value.isStrOf]
theorem U6 (a b:Int):decide ((Sum.inl a:A6)=Sum.inl b)=(a == b):=by
 by_cases e:a=b
 ·subst e; simp
 ·have h:¬ (Sum.inl a:A6)=Sum.inl b:=fun q=>e (Sum.inl.inj q)
  rw [decide_eq_false h];exact (beq_eq_false_iff_ne.mpr e).symm
theorem U3 (a b:Str):decide ((Sum.inr a:A6)=Sum.inr b)=decide (a=b):=by
 by_cases e:a=b
 ·subst e; simp
 ·have h:¬ (Sum.inr a:A6)=Sum.inr b:=fun q=>e (Sum.inr.inj q)
  rw [decide_eq_false h,decide_eq_false e]
theorem U5 (a:Int) (b:Str):decide ((Sum.inl a:A6)=Sum.inr b)=false:=decide_eq_false (fun q=>nomatch q)
theorem U4 (a:Str) (b:Int):decide ((Sum.inr a:A6)=Sum.inl b)=false:=decide_eq_false (fun q=>nomatch q)
def AO (prog:Program) (w:World):PySem.KeyKind prog w A6 where
 is:=HX
 hash:=keyH w
 inj:=fun v a b ha hb=>by
  rcases Bo ha with ⟨i,t,rfl,rfl⟩ | ⟨x,t,rfl,rfl⟩
  ·rcases Bo hb with ⟨j,u,rfl,e⟩ | ⟨y,u,rfl,e⟩
   ·injection e with e1 _; rw [e1]
   ·exact nomatch e
  ·rcases Bo hb with ⟨j,u,rfl,e⟩ | ⟨y,u,rfl,e⟩
   ·exact nomatch e
   ·injection e with e1 _; rw [e1]
 byValue:=fun k v h=>by
  rcases Bo h with ⟨i,t,rfl,rfl⟩ | ⟨x,t,rfl,rfl⟩ <;> rfl
 pyHash:=fun hv h=>by
  rcases Bo hv with ⟨i,t,rfl,rfl⟩ | ⟨x,t,rfl,rfl⟩
  ·exact wpAny_pyHash_int h
  ·exact wpAny_pyHash_str h
 eqBool:=fun hu hv h=>by
  rcases Bo hu with ⟨i,t,rfl,rfl⟩ | ⟨x,t,rfl,rfl⟩
  ·rcases Bo hv with ⟨j,u,rfl,rfl⟩ | ⟨y,u,rfl,rfl⟩
   ·rw [U6] at h; exact wpAny_eqBool_int h
   ·rw [U5] at h; exact SeqAt.EqAt.int_str i t y u _ _ _ _ h
  ·rcases Bo hv with ⟨j,u,rfl,rfl⟩ | ⟨y,u,rfl,rfl⟩
   ·rw [U4] at h; exact SeqAt.EqAt.str_int x t j u _ _ _ _ h
   ·rw [U3] at h; exact wpAny_eqBool_str h
 «strs»:=fun k x t v h=>by
  rcases Bo h with ⟨i,u,rfl,e⟩ | ⟨y,u,rfl,e⟩
  ·exact nomatch e
  ·injection e with e1 _;subst e1;cases v <;> rfl
theorem Ll (prog:Program) (w:World) (i:Int) (t:Tok):(AO prog w).is (.inl i) (.int i t)=true:=OI i t
theorem G8 (prog:Program) (w:World) (x:Str) (t:Tok):(AO prog w).is (.inr x) (.str x t)=true:=OH x t
inductive V where
 | non | bl (b:Bool) | int (i:Int) | str (x:Str) | byt (b:Array UInt8) | flt (b:UInt64) | ref (a:Addr) | ty (n:String)
 deriving DecidableEq
def A3:V->Value->Prop
 | .non,u=>u=Value.none
 | .bl b,u=>u=Value.bool b
 | .int i,u=>∃ t,u=Value.int i t
 | .str x,u=>∃ t,u=Value.str x t
 | .byt b,u=>∃ t,u=Value.bytes b t
 | .flt b,u=>∃ t,u=Value.float b t
 | .ref a,u=>u=Value.ref a
 | .ty n,u=>u=Value.type n
abbrev A4:List V->List Value->Prop:=Paired A3
theorem A4.length {xs:List V} {us:List Value} (r:A4 xs us):xs.length=us.length:=Paired.length r
theorem A4.get:∀ {xs:List V} {us:List Value} {i:Nat} {x:V},A4 xs us->xs[i]? = some x->∃ u,us[i]? = some u/\A3 x u
 | _,_,_,_,.nil,e=>by simp at e
 | _,_,0,_,.cons r _,e=>by simp at e; subst e; exact ⟨_,rfl,r⟩
 | _,_,i + 1,x,.cons _ t,e=>by
  obtain ⟨u,h1,h2⟩:=A4.get (i:=i) (x:=x) t (by simpa using e);exact ⟨u,by simpa using h1,h2⟩
theorem A4.set {x:V} {u:Value} (r:A3 x u):∀ {xs:List V} {us:List Value} (i:Nat),A4 xs us->A4 (xs.set i x) (us.set i u)
 | _,_,_,.nil=>.nil
 | _,_,0,.cons _ t=>.cons r t
 | _,_,i + 1,.cons q t=>.cons q (A4.set r i t)
theorem A4.append:∀ {xs ys:List V} {us ws:List Value},A4 xs us->A4 ys ws->A4 (xs ++ ys) (us ++ ws)
 | _,_,_,_,.nil,s=>s
 | _,_,_,_,.cons r t,s=>.cons r (A4.append t s)
def Gu:Option V->Option Value->Prop
 | some v,some u=>A3 v u
 | none,none=>True
 | _,_=>False
def KV {κ:Type}:List (κ × V)->List (κ × Value)->Prop:=Paired fun (p:κ × V) (q:κ × Value)=>p.1=q.1/\A3 p.2 q.2
def kV:A6->V
 | .inl i=>.int i
 | .inr x=>.str x
inductive HO where
 /-- a list -/
 | lst (xs:List V)
 /-- a tuple (never changes) -/
 | tup (xs:List V)
 /-- a dict whose keys are ints and texts; one whose keys are tuples of ints and texts (the empty one is both) -/
 | dK (kvs:List (A6 × V)) | dT (kvs:List (List A6 × V))
 /-- a set of ints: Ap members,Ap size -/
 | set (S:Int->Bool) (n:Nat)
 /-- an instance of the class at C,Ap dict at dx,Ap attributes -/
 | ins (C dx:Addr) (fs:List (Str × V))
 /-- the dict of the instance at x -/
 | own (x:Addr)
 /-- the dict of an exception -/
 | xd (fs:List (Str × V))
 /-- a bound method,f of x -/
 | met (f x:Addr)
 /-- a range object lo,lo + 1,.. below hi -/
 | rng (lo hi:Int)
 /-- a thing that is known to the object (the script; a dict while a loop walks it): read,never written while it is so -/
 | frz (o:Obj) (u:HO)
 /-- a code V6 table -/
 | tbl (ps:Array Value)
 /-- any other thing,by what is true of Ap one object (a def of one's own: SetO a S n:=HO.ext fun h=>..) -/
 | ext (φ:Heap->Prop)
abbrev Hp:=Addr->Option HO
def upd (H:Hp) (a:Addr) (o:HO):Hp:=fun b=>if b=a then some o else H b
theorem Ab {H:Hp} {a:Addr} {o:HO}:upd H a o a=some o:=by unfold upd; rw [if_pos rfl]
theorem Af {H:Hp} {a b:Addr} {o:HO} (h:b ≠ a):upd H a o b=H b:=by unfold upd; rw [if_neg h]
theorem JW {H:Hp} {a:Addr} {o u:HO}:upd (upd H a o) a u=upd H a u:=by
 funext b; unfold upd; split <;> rfl
theorem BE {H:Hp} {a b:Addr} {o u:HO} (h:H a=some o) (h':H b=some u) (d:o ≠ u):a ≠ b:=by
 intro e; subst e; rw [h] at h'; exact d (YM.inj h')
theorem Ah {H:Hp} {a b:Addr} {o:HO} (h:H a=some o) (h':H b=none):a ≠ b:=by
 intro e; subst e; rw [h] at h'; cases h'
def Mz (h:Heap) (a:Addr):Prop:=∀ o,h.get? a=some o->o.dict=none
theorem Mz.new {h:Heap} {o:Obj} (hd:o.dict=none) (hf:o.isFreed=false):Mz (h.push o) h.objs.size:=fun o' e=>by
 rw [YD _ hf] at e;cases e
 exact hd
section
variable (P:Program) (w:World)
def A5 (H:Hp) (h:Heap) (a:Addr):HO->Prop
 | .lst xs=>xs.length<=sizeLine/\∃ (Ap:List Value) (n:Nat),A4 xs Ap/\h.get? a=some { cls:=.type "list",data:=.seq Ap.toArray n }
 | .tup xs=>xs.length<=sizeLine/\∃ Ap:List Value,A4 xs Ap/\IsTup h a Ap.toArray/\Mz h a
 | .dK kvs=>kvs.length<=sizeLine/\(a == sysModules)=false/\∃ vs,KV kvs vs/\h.DictOf (AO P w) a vs
 | .dT kvs=>kvs.length<=sizeLine/\(a == sysModules)=false/\∃ xs:List (List A6 × Addr × Value),
   Paired (fun (p:List A6 × V) (q:List A6 × Addr × Value)=>p.1=q.1/\H q.2.1=some (.tup (p.1.map kV))/\A3 p.2 q.2.2) kvs xs /\
   ∃ o es ep,h.get? a=some o/\o.ExactDict/\o.data=.dict es ep/\es.toList=xs.map (entryOfKey (tupleKind (AO P w)))/\(xs.map (·.1)).Nodup
 | .set S n=>h.SetOf (intKind P w) a S n
 | .ins C dx fs=>H dx=some (.own a)/\fs.length<=1000/\dx ≠ a/\h.get? a=some (b0 C dx) /\
   ∃ mA,h.Ns1 dx mA/\(∀ f,Gu (fs.lookup f) (mA f))/\PySem.Within mA (fs.map (·.1))
 | .own _=>∃ o,h.get? a=some o
 | .xd fs=>∃ mA,h.Ns1 a mA/\∀ f,Gu (fs.lookup f) (mA f)
 | .rng lo hi=>∃ t u v,h.get? a=some { cls:=.type "range",data:=.fields #[.int lo t,.int hi u,.int 1 v] }
 | .frz o u=>h.get? a=some o/\A5 H h a u
 | .tbl ps=>h.get? a=some { cls:=.none,data:=.fields ps }
 | .met f x=>h.get? a=some (bg (.ref f) (.ref x))
 | .ext φ=>φ h/\(∃ o,h.get? a=some o)/\∀ h1 h2:Heap,φ h1->(∀ o,h1.get? a=some o->h2.get? a=some o)->φ h2
def F1 (H:Hp) (h:Heap):Prop:=∀ a o,H a=some o->A5 P w H h a o
end
section
variable {P:Program} {w:World} {H H':Hp} {h h':Heap} {a:Addr} {o:HO}
theorem A5.lt (x:A5 P w H h a o):a < h.objs.size:=by
 cases o with
 | lst xs=>obtain ⟨_,_,_,_,e⟩:=x; exact YC e
 | tup xs=>obtain ⟨_,_,_,p,_⟩:=x; exact p.lt
 | dK kvs=>obtain ⟨_,_,_,_,o,_,_,e,_⟩:=x; exact YC e
 | dT kvs=>obtain ⟨_,_,_,_,o,_,_,e,_⟩:=x; exact YC e
 | set S n=>obtain ⟨o,_,_,_,e,_⟩:=x; exact YC e
 | ins C dx fs=>obtain ⟨_,_,_,e,_⟩:=x; exact YC e
 | own y=>obtain ⟨_,e⟩:=x; exact YC e
 | xd fs=>obtain ⟨_,⟨_,_,_,e,_⟩,_⟩:=x; exact YC e
 | rng lo hi=>obtain ⟨_,_,_,e⟩:=x; exact YC e
 | frz ob u=>obtain ⟨e,_⟩:=x; exact YC e
 | tbl ps=>exact YC (show h.get? a=some _ from x)
 | met f y=>exact YC (show h.get? a=some _ from x)
 | ext φ=>obtain ⟨_,⟨_,e⟩,_⟩:=x; exact YC e
theorem Paired.mapP {α β:Type} {F G:α->β->Prop}:∀ {Lq:List α} {Lp:List β},Paired F Lq Lp->(∀ a b,F a b->G a b)->Paired G Lq Lp
 | _,_,.nil,_=>.nil
 | _,_,.cons r t,f=>.cons (f _ _ r) (Paired.mapP t f)
theorem A5.stay (x:A5 P w H h a o) (k:∀ b u,(b=a\/H b=some (.own a))->h.get? b=some u->h'.get? b=some u)
  (ho:∀ b,H b=some (.own a)->H' b=some (.own a)) (ht:∀ b xs,H b=some (.tup xs)->H' b=some (.tup xs)):A5 P w H' h' a o:=by
 induction o with
 | lst xs=>obtain ⟨z,Ap,n,r,e⟩:=x; exact ⟨z,Ap,n,r,k _ _ (.inl rfl) e⟩
 | tup xs=>
  obtain ⟨z,Ap,r,⟨ob,e,c⟩,dn⟩:=x;have e':=k _ _ (.inl rfl) e;exact ⟨z,Ap,r,⟨ob,e',c⟩,fun o q=>by rw [e'] at q; cases q; exact dn _ e⟩
 | dK kvs=>obtain ⟨z,y,vs,r,ob,es,ep,e,c⟩:=x; exact ⟨z,y,vs,r,ob,es,ep,k _ _ (.inl rfl) e,c⟩
 | dT kvs=>
  obtain ⟨z,y,xs,r,ob,es,ep,e,c⟩:=x;exact ⟨z,y,xs,Paired.mapP r fun p q z=>⟨z.1,ht _ _ z.2.1,z.2.2⟩,ob,es,ep,k _ _ (.inl rfl) e,c⟩
 | set S n=>obtain ⟨ob,es,ep,t,e,c⟩:=x; exact ⟨ob,es,ep,t,k _ _ (.inl rfl) e,c⟩
 | ins C dx fs=>
  obtain ⟨d,z,ne,e,mA,⟨od,es,ep,e2,c⟩,r⟩:=x;exact ⟨ho _ d,z,ne,k _ _ (.inl rfl) e,mA,⟨od,es,ep,k _ _ (.inr d) e2,c⟩,r⟩
 | own y=>obtain ⟨ob,e⟩:=x; exact ⟨ob,k _ _ (.inl rfl) e⟩
 | xd fs=>obtain ⟨mA,⟨od,es,ep,e,c⟩,r⟩:=x; exact ⟨mA,⟨od,es,ep,k _ _ (.inl rfl) e,c⟩,r⟩
 | rng lo hi=>obtain ⟨t,u,v,e⟩:=x; exact ⟨t,u,v,k _ _ (.inl rfl) e⟩
 | frz ob u ih=>obtain ⟨e,q⟩:=x; exact ⟨k _ _ (.inl rfl) e,ih q⟩
 | tbl ps=>
  have e:h.get? a=some { cls:=.none,data:=.fields ps }:=x;show h'.get? a=some { cls:=.none,data:=.fields ps }
  exact k a _ (.inl rfl) e
 | met f y=>
  have e:h.get? a=some (bg (.ref f) (.ref y)):=x;show h'.get? a=some (bg (.ref f) (.ref y))
  exact k a _ (.inl rfl) e
 | ext φ=>obtain ⟨p,⟨o,e⟩,st⟩:=x; exact ⟨st _ _ p fun o q=>k _ _ (.inl rfl) q,⟨o,k _ _ (.inl rfl) e⟩,st⟩
theorem F1.lt (x:F1 P w H h) (e:H a=some o):a < h.objs.size:=(x a o e).lt
theorem F1.fresh (x:F1 P w H h) (e:h.objs.size<=a):H a=none:=by
 cases q:H a with
 | none=>rfl
 | some u=>exact absurd (YG (x.lt q) e) (Zp _)
theorem F1.kept (x:F1 P w H h) (k:∀ b u,h.get? b=some u->h'.get? b=some u):F1 P w H h':=fun a o e=>
 (x a o e).stay (fun b u _ q=>k b u q) (fun _ q=>q) fun _ _ q=>q
theorem F1.laid (x:F1 P w H h) (k:∀ b u,h.get? b=some u->h'.get? b=some u) (hp:h.objs.size<=a) (new:A5 P w (upd H a o) h' a o):F1 P w (upd H a o) h':=fun b u e=>by
 have hn:=x.fresh hp;by_cases hb:b=a
 ·subst hb; rw [Ab] at e; cases e; exact new
 ·rw [Af hb] at e;exact (x b u e).stay (fun c v _ q=>k c v q) (fun c q=>by rw [Af (Ah q hn)]; exact q) fun c xs q=>by rw [Af (Ah q hn)]; exact q
end
def Rd (H:Hp) (a:Addr) (u:HO):Prop:=H a=some u\/∃ o,H a=some (.frz o u)
theorem Rd.ok {P:Program} {w:World} {H:Hp} {h:Heap} {a:Addr} {u:HO} (r:Rd H a u) (x:F1 P w H h):A5 P w H h a u:=by
 rcases r with r | ⟨o,r⟩
 ·exact x a u r
 ·obtain ⟨_,q⟩:=x a _ r;exact q
def Mut:Option HO->Prop
 | some (.lst _)=>True
 | some (.dK _)=>True
 | some (.dT _)=>True
 | some (.set _ _)=>True
 | some (.ins _ _ _)=>True
 | some (.ext _)=>True
 | _=>False
section
variable {P:Program} {w:World} {H:Hp} {h h':Heap} {x e:Addr} {o':HO}
theorem F1.write (ok:F1 P w H h) (mu:Mut (H x)) (he:e=x\/H e=some (.own x)) (k:∀ b u,b ≠ e->h.get? b=some u->h'.get? b=some u) (heo:∃ u,h'.get? e=some u)
  (new:A5 P w (upd H x o') h' x o'):F1 P w (upd H x o') h':=fun b u q=>by
 have nown:∀ c y,H c=some (.own y)->c ≠ x:=fun c y r z=>by subst z; rw [r] at mu; exact mu
 have ntup:∀ c xs,H c=some (.tup xs)->c ≠ x:=fun c xs r z=>by subst z; rw [r] at mu; exact mu
 by_cases hb:b=x
 ·subst hb; rw [Ab] at q; cases q; exact new
 ·rw [Af hb] at q;by_cases hbe:b=e
  ·have q':H b=some (.own x):=by
    rcases he with z | z
    ·exact absurd (hbe.trans z) hb
    ·rw [hbe]; exact z
   rw [q] at q'; cases q';obtain ⟨v,hv⟩:=heo;exact ⟨v,by rw [hbe]; exact hv⟩
  ·refine (ok b u q).stay (fun c v hc r=>k c v ?_ r) (fun c r=>by rw [Af (nown c b r)]; exact r) fun c xs r=>by rw [Af (ntup c xs r)]; exact r
   rcases hc with rfl | hc
   ·exact hbe
   ·rintro rfl;rcases he with z | z
    ·exact nown c b hc z
    ·rw [hc] at z; cases z; exact hb rfl
end
structure Un (fs ex:List Addr) (H H':Hp) (h h':Heap):Prop where
 keep:∀ b o,h.get? b=some o->H b=none->b ∉ fs->b ∉ ex->h'.get? b=some o
 slot:∀ b o,h.get? b=some o->H b=none->b ∈ fs->b ∉ ex->∃ sl,h'.get? b=some { o with slots:=sl }
 free:∀ b o,h.get? b=some o->H b=none->b ∉ ex->H' b=none
 there:∀ b o,h.get? b=some o->b ∉ ex->∃ o',h'.get? b=some o'
 tups:∀ b xs,H b=some (.tup xs)->H' b=some (.tup xs)
 frzs:∀ b o u,H b=some (.frz o u)->H' b=some (.frz o u)
 tbls:∀ b ps,H b=some (.tbl ps)->∃ more,H' b=some (.tbl (ps ++ more))
section
variable {fs Vo ex T6:List Addr} {H H1 H2:Hp} {h h1 h2 h':Heap} {a x e:Addr} {o:HO}
theorem Un.any (u:Un fs ex H H1 h h1) {b:Addr} {ob:Obj} (q:h.get? b=some ob) (n:H b=none) (hx:b ∉ ex):∃ sl,h1.get? b=some { ob with slots:=sl }:=by
 by_cases hb:b ∈ fs
 ·exact u.slot b ob q n hb hx
 ·exact ⟨ob.slots,u.keep b ob q n hb hx⟩
theorem Un.kept (k:∀ b u,h.get? b=some u->h'.get? b=some u):Un fs ex H H h h':=
 ⟨fun b ob q _ _ _=>k b ob q,fun b ob q _ _ _=>⟨ob.slots,k b ob q⟩,fun _ _ _ n _=>n,fun b ob q _=>⟨ob,k b ob q⟩,fun _ _ q=>q,fun _ _ _ q=>q,fun _ ps q=>⟨#[],by rw [q]; simp⟩⟩
theorem Un.refl:Un fs ex H H h h:=Un.kept fun _ _ q=>q
theorem Un.laid (k:∀ b u,h.get? b=some u->h'.get? b=some u) (hp:h.objs.size<=a) (hn:H a=none):Un fs ex H (upd H a o) h h' where
 keep:=fun b u q _ _ _=>k b u q
 slot:=fun b u q _ _ _=>⟨u.slots,k b u q⟩
 free:=fun b u q n _=>by rw [Af (YF (YG (YC q) hp))]; exact n
 there:=fun b u q _=>⟨u,k b u q⟩
 tups:=fun b xs q=>by rw [Af (Ah q hn)]; exact q
 frzs:=fun b u xs q=>by rw [Af (Ah q hn)]; exact q
 tbls:=fun b ps q=>⟨#[],by rw [Af (Ah q hn),q]; simp⟩
theorem Un.write (mu:Mut (H x)) (he:e=x\/H e=some (.own x)) (k:∀ b u,b ≠ e->h.get? b=some u->h'.get? b=some u) (heo:∃ u,h'.get? e=some u):Un fs ex H (upd H x o) h h':=by
 have hx:∀ b,H b=none->b ≠ x:=fun b n z=>by subst z; rw [n] at mu; exact mu
 have hb:∀ b,H b=none->b ≠ e:=fun b n z=>by
  subst z;rcases he with r | r
  ·exact hx b n r
  ·rw [n] at r; cases r
 have hm:∀ b u,H b=some u->¬ Mut (some u)->b ≠ x:=fun b u q nm z=>by subst z; rw [q] at mu; exact nm mu
 refine ⟨fun b u q n _ _=>k b u (hb b n) q,fun b u q n _ _=>⟨u.slots,k b u (hb b n) q⟩,fun b u q n _=>by rw [Af (hx b n)]; exact n,fun b u q _=>?_,
  fun b xs q=>by rw [Af (hm b _ q fun z=>z)]; exact q,fun b u xs q=>by rw [Af (hm b _ q fun z=>z)]; exact q,fun b ps q=>⟨#[],by rw [Af (hm b _ q fun z=>z),q]; simp⟩⟩
 by_cases hbe:b=e
 ·subst hbe; exact heo
 ·exact ⟨u,k b u hbe q⟩
end
def trk (h:Heap) (H:Hp):List Addr:=(ZP h.objs.size).filter fun a=>(H a).isSome
def Kx (h:Heap) (H:Hp):Heap:=PySem.W.hideAll h (trk h H)
theorem OP (h:Heap) (H:Hp):(Kx h H).objs.size=h.objs.size:=PySem.W.hideAll_size _ _
theorem QZ {h:Heap} {H:Hp} {b:Addr} {o:Obj} (e:h.get? b=some o) (n:H b=none):(Kx h H).get? b=some o:=
 PySem.W.hideAll_get _ e fun hm=>by
  have q:(H b).isSome=true:=(Zh.mp hm).2;rw [n] at q; simp at q
theorem Sm {h:Heap} {H:Hp} {b:Addr} {o:Obj} (e:(Kx h H).get? b=some o):h.get? b=some o/\H b=none:=by
 have e':h.get? b=some o:=PySem.W.of_hideAll (trk h H) e;refine ⟨e',?_⟩;cases q:H b with
 | none=>rfl
 | some x=>
  have hm:b ∈ trk h H:=Zh.mpr ⟨ar.mpr (YC e'),by simp [q]⟩;have z:(Kx h H).get? b=none:=PySem.W.hideAll_none (trk h H) hm;rw [z] at e; cases e
def SW (g h:Heap) (L:Addr):List (Addr × Obj):=(ZP h.objs.size).filterMap fun a=>if a=L\/(g.get? a).isSome=true then none else (h.get? a).map fun o=>(a,o)
def Co (g h:Heap) (L d:Addr):List (Addr × Obj):=(SW g h L).filter fun p=>decide (p.1 ≠ d)
structure Mod (K:Y3) (mg:Str->Option Value) (base:Heap):Prop where
 kin:K.In base
 glob:base.Ns mainGlobals mg
 blt:∃ mb,base.Ns builtinsNs mb/\∀ x:Str,x ≠ "__name__"->mb x=bootBuiltins x
 nolimit:base.NoLimit
structure Cx where
 prog:Program
 w:World
 K:Y3
 mg:Str->Option Value
 base:Heap
 A:Around
 N:List Str
 s₀:Shared
 H₀:Hp
 env:Env
 outer:List Env
 stack:List Env
 ex:List Addr
 fn:Str->Bool
 calm:Bool
 pn:List (Addr × Obj)
 xe:Value->Shared->Prop
def Rc (l:List Env):List Addr:=l.filterMap (·.frame)
abbrev Cx.fs (X:Cx):List Addr:=Rc X.outer
def Vis (sc:Scope) (x:Str):Prop:=sc.names.lookup x=some .local\/sc.names.lookup x=some .cell\/sc.names.lookup x=some .free
def UZ (sc:Scope) (x:Str):Prop:=sc.names.lookup x=some .local\/sc.names.lookup x=some .cell
def Look (env:Env) (h:Heap) (m:Str->Option Value) (x:Str) (u:Value):Prop:=
 (env.kindOf x=some .local/\m x=some u)\/((env.kindOf x=some .cell\/env.kindOf x=some .free)/\∃ c,env.cells.lookup x=some c/\h.IsCell c (some u))
structure Cx.Ok (X:Cx):Prop where
 mod:Mod X.K X.mg X.base
 kind:X.env.scope.kind=.function
 glob:X.env.globals=mainGlobals
 blt:X.env.builtins=builtinsNs
 above:X.s₀.heap.objs.size<=X.env.locals
 inj:∀ x y c,X.env.cells.lookup x=some c->X.env.cells.lookup y=some c->x=y
 has:∀ x,(X.env.kindOf x=some .cell\/X.env.kindOf x=some .free)->∃ c,X.env.cells.lookup x=some c
 cab:∀ x c,X.fn x=true->X.env.cells.lookup x=some c->X.s₀.heap.objs.size<=c
 hd:X.calm=true->X.A.handled=none
 frames:X.A.frames=some X.stack
 stk:X.stack=X.outer\/(X.stack=X.env :: X.outer/\X.env.frame=some X.env.locals)
 exf:∀ b ∈ X.ex,b ≠ X.env.locals/\∀ x c,X.env.cells.lookup x=some c->c ≠ b
 bs:∀ b o,X.base.get? b=some o->X.s₀.heap.get? b=some o/\X.H₀ b=none
 bsz:X.base.objs.size<=X.s₀.heap.objs.size
 noex:∀ b o,X.base.get? b=some o->b ∉ X.ex
 exfs:∀ b ∈ X.ex,b ∉ X.fs
 funs:X.s₀.heap.FunFrames X.base X.outer
 frf:∀ b ∈ X.fs,X.H₀ b=none
structure An (X:Cx) (pins:List (Addr × Obj)) (σ:List (Option V)) (H:Hp) (s:Shared):Prop where
 ok:X.Ok
 os:s.os=X.s₀.os
 bare:AllBare s.gens
 base:Un X.fs X.ex X.H₀ H X.s₀.heap s.heap
 loc:∃ m,s.heap.Ns X.env.locals m/\∀ (i:Nat) (x:Str) (v:V),X.N[i]? = some x->σ[i]? = some (some v)->Vis X.env.scope x->∃ u,A3 v u/\Look X.env s.heap m x u
 cell:∀ x c,X.env.cells.lookup x=some c->∃ v,s.heap.IsCell c v
 free:H X.env.locals=none
 freeC:∀ x c,X.env.cells.lookup x=some c->H c=none
 pin:∀ p ∈ X.pn ++ pins,s.heap.get? p.1=some p.2/\H p.1=none/\p.1 ≠ X.env.locals/\p.1 ∉ X.fs/\∀ v,p.2.data ≠ .cell v
 hok:F1 X.prog X.w H s.heap
 len:σ.length=X.N.length
section
variable {X:Cx} {pins:List (Addr × Obj)} {σ:List (Option V)} {H H':Hp} {s:Shared} {h':Heap}
theorem Cx.Ok.nofr (ok:X.Ok) {b:Addr} {o:Obj} (e:X.base.get? b=some o):b ∉ X.fs:=fun hb=>by
 have:=(ok.funs.mem hb).1;rw [e] at this; cases this
theorem An.bs (I:An X pins σ H s):∀ b o,X.base.get? b=some o->s.heap.get? b=some o/\H b=none:=fun b o e=>
 ⟨I.base.keep b o (I.ok.bs b o e).1 (I.ok.bs b o e).2 (I.ok.nofr e) (I.ok.noex b o e),I.base.free b o (I.ok.bs b o e).1 (I.ok.bs b o e).2 (I.ok.noex b o e)⟩
theorem An.bk (I:An X pins σ H s):∀ b o,X.base.get? b=some o->s.heap.get? b=some o:=fun b o e=>(I.bs b o e).1
theorem An.mod (I:An X pins σ H s):Mod X.K X.mg X.base:=I.ok.mod
theorem An.kIn (I:An X pins σ H s):X.K.In s.heap:=I.ok.mod.kin.keeps I.bk
theorem An.lt (I:An X pins σ H s):X.env.locals < s.heap.objs.size:=let ⟨_,hn,_⟩:=I.loc; hn.lt
theorem An.sz (I:An X pins σ H s):X.s₀.heap.objs.size<=s.heap.objs.size:=YU I.ok.above (aL I.lt)
theorem An.nofs (I:An X pins σ H s) {a:Addr} (h:s.heap.objs.size<=a):a ∉ X.fs:=fun hb=>by
 obtain ⟨_,o,ho,_⟩:=I.ok.funs.mem hb;exact absurd (YG (YC ho) (YU I.sz h)) (Zp _)
theorem An.cne (I:An X pins σ H s):∀ x c,X.env.cells.lookup x=some c->c ≠ X.env.locals:=fun x c e z=>by
 obtain ⟨v,o,ho,hd⟩:=I.cell x c e;obtain ⟨m,⟨o',es,ep,IY,LI,_⟩,_⟩:=I.loc;rw [z,IY] at ho; cases ho; rw [LI] at hd; cases hd
theorem An.funs (I:An X pins σ H s):s.heap.FunFrames X.base X.outer:=by
 have all:∀ (l:List Env),(∀ b ∈ Rc l,b ∈ X.fs)->X.s₀.heap.FunFrames X.base l->s.heap.FunFrames X.base l:=by
  intro l;induction l with
  | nil=>intro _ _; trivial
  | cons env r ih=>
   intro hs hl;obtain ⟨hk,⟨L,o,hf,hn,ho,hd⟩,hr⟩:=hl;have hL:L ∈ X.fs:=hs L (by unfold Rc; rw [aZ,hf]; exact YO);obtain ⟨sl,e⟩:=I.base.slot L o ho (I.ok.frf L hL) hL fun z=>I.ok.exfs L z hL
   exact ⟨hk,⟨L,_,hf,hn,e,hd⟩,ih (fun b hb=>hs b (by unfold Rc; rw [aZ,hf]; exact YT _ hb)) hr⟩
 exact all X.outer (fun _ hb=>hb) I.ok.funs
theorem An.stack (I:An X pins σ H s):s.heap.FunFrames X.base X.stack:=by
 rcases I.ok.stk with e | ⟨e,hf⟩
 ·rw [e]; exact I.funs
 ·rw [e];obtain ⟨m,hn,_⟩:=I.loc;refine .cons (by rw [I.ok.kind]; decide) hf hn ?_ I.funs;exact Heap.get?_none_of_le (YU I.ok.bsz I.ok.above)
theorem An.stkSub (I:An X pins σ H s):∀ b ∈ Rc X.stack,b ∈ X.env.locals :: X.fs:=fun b hb=>by
 rcases I.ok.stk with e | ⟨e,hf⟩
 ·rw [e] at hb; exact YT _ hb
 ·rw [e] at hb;unfold Rc at hb;rw [aZ,hf] at hb;exact hb
theorem An.stkFree (I:An X pins σ H s):∀ b ∈ Rc X.stack,H b=none:=fun b hb=>by
 rcases Y4.mp (I.stkSub b hb) with e | hb
 ·rw [e]; exact I.free
 ·obtain ⟨_,o,ho,_⟩:=I.ok.funs.mem hb;exact I.base.free b o ho (I.ok.frf b hb) fun z=>I.ok.exfs b z hb
theorem An.step {g':Array GenState} {t':Nat} {d':Drawn} {ch:List Addr} (I:An X pins σ H s)
  (hch:∀ b ∈ ch,(b ∈ X.ex\/X.s₀.heap.objs.size<=b)/\b ≠ X.env.locals/\(∀ x c,X.env.cells.lookup x=some c->c ≠ b)/\∀ p ∈ X.pn ++ pins,p.1 ≠ b)
  (keep:∀ b o,b ≠ X.env.locals->b ∉ X.fs->b ∉ ch->s.heap.get? b=some o->H b=none->h'.get? b=some o)
  (slot:∀ b o,b ≠ X.env.locals->b ∈ X.fs->b ∉ ch->s.heap.get? b=some o->H b=none->∃ sl,h'.get? b=some { o with slots:=sl }) (free:∀ b o,b ∉ ch->s.heap.get? b=some o->H b=none->H' b=none)
  (there:∀ b o,b ∉ ch->s.heap.get? b=some o->∃ o',h'.get? b=some o')
  (tups:∀ b xs,H b=some (.tup xs)->H' b=some (.tup xs)) (frzs:∀ b o u,H b=some (.frz o u)->H' b=some (.frz o u)) (tbls:∀ b ps,H b=some (.tbl ps)->∃ more,H' b=some (.tbl (ps ++ more)))
  (ns:∀ m,s.heap.Ns X.env.locals m->h'.Ns X.env.locals m) (hok:F1 X.prog X.w H' h') (hg:AllBare g') :
  An X pins σ H' { s with heap:=h',gens:=g',drawn:=d',toks:=t' }:=by
 have neL:∀ b o,X.s₀.heap.get? b=some o->b ≠ X.env.locals:=fun b o e=>YF (YG (YC e) I.ok.above)
 have neC:∀ b o,X.s₀.heap.get? b=some o->b ∉ X.ex->b ∉ ch:=fun b o e hx hb=>by
  rcases (hch b hb).1 with z | z
  ·exact hx z
  ·exact absurd (YG (YC e) z) (Zp _)
 have cellK:∀ x c,X.env.cells.lookup x=some c->∀ v,s.heap.IsCell c v->h'.IsCell c v:=fun x c e v ⟨o,ho,hd⟩=>by
  have nch:c ∉ ch:=fun z=>(hch c z).2.2.1 x c e rfl
  by_cases hc:c ∈ X.fs
  ·obtain ⟨sl,q⟩:=slot c o (I.cne x c e) hc nch ho (I.freeC x c e);exact ⟨_,q,hd⟩
  ·exact ⟨o,keep c o (I.cne x c e) hc nch ho (I.freeC x c e),hd⟩
 refine ⟨I.ok,I.os,hg,⟨fun b o e n hb hx=>?_,fun b o e n hb hx=>?_,fun b o e n hx=>?_,fun b o e hx=>?_,fun b xs e=>tups b xs (I.base.tups b xs e),fun b o xs e=>frzs b o xs (I.base.frzs b o xs e),fun b ps e=>?_⟩,?_,fun x c e=>?_,?_,fun x c e=>?_,fun p hp=>?_,hok,I.len⟩
 ·exact keep b o (neL b o e) hb (neC b o e hx) (I.base.keep b o e n hb hx) (I.base.free b o e n hx)
 ·obtain ⟨sl,e1⟩:=I.base.slot b o e n hb hx;obtain ⟨Ql,e2⟩:=slot b _ (neL b o e) hb (neC b o e hx) e1 (I.base.free b o e n hx);exact ⟨Ql,e2⟩
 ·obtain ⟨o',e1⟩:=I.base.there b o e hx;exact free b o' (neC b o e hx) e1 (I.base.free b o e n hx)
 ·obtain ⟨o',e1⟩:=I.base.there b o e hx;exact there b o' (neC b o e hx) e1
 ·obtain ⟨m1,e1⟩:=I.base.tbls b ps e;obtain ⟨m2,e2⟩:=tbls b _ e1;exact ⟨m1 ++ m2,by rw [e2,Array.append_assoc]⟩
 ·obtain ⟨m,hn,hl⟩:=I.loc;refine ⟨m,ns m hn,fun i x v e1 e2 e3=>?_⟩;obtain ⟨u,r,l⟩:=hl i x v e1 e2 e3;refine ⟨u,r,?_⟩;rcases l with l | ⟨k,c,e,z⟩
  ·exact .inl l
  ·exact .inr ⟨k,c,e,cellK x c e _ z⟩
 ·obtain ⟨v,z⟩:=I.cell x c e;exact ⟨v,cellK x c e v z⟩
 ·obtain ⟨m,⟨o,_,_,ho,_⟩,_⟩:=I.loc;exact free _ o (fun z=>(hch _ z).2.1 rfl) ho I.free
 ·obtain ⟨v,o,ho,hd⟩:=I.cell x c e;exact free c o (fun z=>(hch c z).2.2.1 x c e rfl) ho (I.freeC x c e)
 ·obtain ⟨e,n,ne,nf,d⟩:=I.pin p hp;have nch:p.1 ∉ ch:=fun z=>(hch p.1 z).2.2.2 p hp rfl
  exact ⟨keep p.1 p.2 ne nf nch e n,free p.1 p.2 nch e n,ne,nf,d⟩
theorem An.un {t':Nat} (I:An X pins σ H s) (u:Un X.fs [] H H' s.heap h') (hok:F1 X.prog X.w H' h'):An X pins σ H' { s with heap:=h',toks:=t' }:=by
 obtain ⟨m,⟨o,es,ep,ho,r⟩,_⟩:=id I.loc;obtain ⟨sl,hL⟩:=u.any ho I.free (by simp);exact I.step (g':=s.gens) (d':=s.drawn) (ch:=[]) (fun _ z=>nomatch z) (fun b o _ hb _ e n=>u.keep b o e n hb (by simp)) (fun b o _ hb _ e n=>u.slot b o e n hb (by simp)) (fun b o _ e n=>u.free b o e n (by simp)) (fun b o _ e=>u.there b o e (by simp)) u.tups u.frzs u.tbls (fun m' hm=>by
  obtain ⟨o',SI,SM,IY,r'⟩:=hm;rw [ho] at IY; cases IY;exact ⟨_,SI,SM,hL,r'⟩) hok I.bare
theorem An.call {g':Array GenState} {t':Nat} {d':Drawn} {ch:List Addr} (I:An X pins σ H s) (u:Un (Rc X.stack) ch H H' s.heap h') (hok:F1 X.prog X.w H' h') (hg:AllBare g')
  (hch:∀ b ∈ ch,(b ∈ X.ex\/X.s₀.heap.objs.size<=b)/\b ≠ X.env.locals/\(∀ x c,X.env.cells.lookup x=some c->c ≠ b)/\∀ p ∈ X.pn ++ pins,p.1 ≠ b) :
  An X pins σ H' { s with heap:=h',gens:=g',drawn:=d',toks:=t' }:=by
 obtain ⟨m,⟨o,es,ep,ho,r⟩,_⟩:=id I.loc;obtain ⟨sl,hL⟩:=u.any ho I.free fun z=>(hch _ z).2.1 rfl
 exact I.step (ch:=ch) hch (fun b o hL hb hc e n=>u.keep b o e n (fun z=>(Y4.mp (I.stkSub b z)).elim hL hb) hc) (fun b o _ _ hc e n=>u.any e n hc) (fun b o hc e n=>u.free b o e n hc) (fun b o hc e=>u.there b o e hc) u.tups u.frzs u.tbls (fun m' hm=>by
  obtain ⟨o',SI,SM,IY,r'⟩:=hm;rw [ho] at IY; cases IY;exact ⟨_,SI,SM,hL,r'⟩) hok hg
theorem An.turned {t':Nat} {it:Addr} (I:An X pins σ H s) (k:∀ b o,b ≠ it->s.heap.get? b=some o->h'.get? b=some o) (hn:H it=none) (hL:it ≠ X.env.locals)
  (h1:it ∈ X.ex\/X.s₀.heap.objs.size<=it) (h2:∀ x c,X.env.cells.lookup x=some c->c ≠ it) (h3:∀ p ∈ X.pn ++ pins,p.1 ≠ it):An X pins σ H { s with heap:=h',toks:=t' }:=by
 have nit:∀ b u,H b=some u->b ≠ it:=fun b u e z=>by rw [z,hn] at e; cases e
 refine I.step (g':=s.gens) (d':=s.drawn) (ch:=[it]) (fun b hb=>?_) (fun b o _ _ hc e _=>k b o (fun z=>hc (by simp [z])) e) (fun b o _ _ hc e _=>⟨o.slots,k b o (fun z=>hc (by simp [z])) e⟩) (fun _ _ _ _ n=>n)
  (fun b o hc e=>⟨o,k b o (fun z=>hc (by simp [z])) e⟩) (fun _ _ e=>e) (fun _ _ _ e=>e) (fun b ps e=>⟨#[],by rw [e]; simp⟩) (fun m hm=>?_) (fun b u e=>?_) I.bare
 ·have e:b=it:=by simpa using hb
  subst e;exact ⟨h1,hL,h2,h3⟩
 ·obtain ⟨o,es,ep,ho,r⟩:=hm;exact ⟨o,es,ep,k _ o (Ne.symm hL) ho,r⟩
 ·refine (I.hok b u e).stay (fun c v hc q=>k c v ?_ q) (fun _ q=>q) fun _ _ q=>q
  rcases hc with z | z
  ·rw [z]; exact nit b u e
  ·exact nit c _ z
theorem An.tok (I:An X pins σ H s) (t:Nat):An X pins σ H { s with toks:=t }:=I.un (h':=s.heap) (t':=t) Un.refl I.hok
theorem An.kept {t':Nat} (I:An X pins σ H s) (k:∀ b u,s.heap.get? b=some u->h'.get? b=some u):An X pins σ H { s with heap:=h',toks:=t' }:=I.un (Un.kept k) (I.hok.kept k)
theorem An.laid {a:Addr} {o:HO} {t':Nat} (I:An X pins σ H s) (k:∀ b u,s.heap.get? b=some u->h'.get? b=some u) (hp:s.heap.objs.size<=a) (new:A5 X.prog X.w (upd H a o) h' a o) :
  An X pins σ (upd H a o) { s with heap:=h',toks:=t' }:=I.un (Un.laid k hp (I.hok.fresh hp)) (I.hok.laid k hp new)
theorem An.write {x e:Addr} {o:HO} {t':Nat} (I:An X pins σ H s) (mu:Mut (H x)) (he:e=x\/H e=some (.own x)) (k:∀ b u,b ≠ e->s.heap.get? b=some u->h'.get? b=some u) (heo:∃ u,h'.get? e=some u)
  (new:A5 X.prog X.w (upd H x o) h' x o):An X pins σ (upd H x o) { s with heap:=h',toks:=t' }:=I.un (Un.write mu he k heo) (I.hok.write mu he k heo new)
theorem An.pins_of {Ts:List (Addr × Obj)} (I:An X pins σ H s) (h:∀ p ∈ Ts,s.heap.get? p.1=some p.2/\H p.1=none/\p.1 ≠ X.env.locals/\p.1 ∉ X.fs/\∀ v,p.2.data ≠ .cell v):An X Ts σ H s:=
 ⟨I.ok,I.os,I.bare,I.base,I.loc,I.cell,I.free,I.freeC,fun p hp=>(YR.mp hp).elim (fun z=>I.pin p (Z1 _ z)) (h p),I.hok,I.len⟩
theorem HP {N:List Str} (hN:N.Nodup) {i j:Nat} {x:Str} (a:N[i]? = some x) (b:N[j]? = some x):i=j:=by
 obtain ⟨h1,e1⟩:=Y8.mp a;obtain ⟨h2,e2⟩:=Y8.mp b;exact (b9 hN).mp (e1.trans e2.symm)
theorem EF {M:Model} {A:Around} {E:Value->Shared->Prop} {i:Nat} {x:Str} {v:V} {u:Value} {Q:Unit->Shared->Prop} (I:An X pins σ H s) (hN:X.N.Nodup) (hi:X.N[i]? = some x) (hx:UZ X.env.scope x) (r:A3 v u)
  (h:∀ s',An X pins (σ.set i (some v)) H s'->(∃ a,Heap.SameBut a s.heap s'.heap/\(a=X.env.locals\/X.env.cells.lookup x=some a))->Q () s') (hf:X.fn x=true\/X.env.scope.names.lookup x=some .local:=by first | exact .inl rfl | exact .inr rfl | assumption):wpAny M A (storeName X.env x u) Q E s:=by
 obtain ⟨m,hn,hl⟩:=id I.loc;have hcls:(X.env.scope.kind == .class || (X.env.scope.kind == .module && X.env.locals != X.env.globals))=false:=by rw [I.ok.kind]; rfl
 have hiσ:i < σ.length:=by rw [I.len]; exact (Y8.mp hi).1
 have cne:=I.cne;have tracked:∀ {a:Addr} {h':Heap},(∃ o,s.heap.get? a=some o/\H a=none)->Heap.SameBut a s.heap h'->F1 X.prog X.w H h':=fun {a h'} ha hs b ob e=>by
  obtain ⟨_,_,hfree⟩:=ha;refine (I.hok b ob e).stay (fun c w' hc q=>(hs.2 c ?_).trans q) (fun _ q=>q) fun _ _ q=>q
  rintro rfl;rcases hc with rfl | hc
  ·rw [hfree] at e; cases e
  ·rw [hfree] at hc; cases hc
 rcases hx with hk | hk
 ·refine wpAny_storeName_local hk hn (fun h' W4 hs=>?_) hcls;obtain ⟨oL,_,_,hoL,_⟩:=id hn;refine h _ ⟨I.ok,I.os,I.bare,⟨fun b o e n hb hx=>?_,fun b o e n hb hx=>?_,I.base.free,fun b o e hx=>?_,I.base.tups,I.base.frzs,I.base.tbls⟩,⟨_,W4,fun j y v' e1 e2 e3=>?_⟩,fun y c e=>?_,I.free,I.freeC,fun p hp=>?_,tracked ⟨oL,hoL,I.free⟩ hs,by simpa using I.len⟩ ⟨_,hs,.inl rfl⟩
  ·exact (hs.2 b (YF (YG (YC e) I.ok.above))).trans (I.base.keep b o e n hb hx)
  ·obtain ⟨sl,e1⟩:=I.base.slot b o e n hb hx;exact ⟨sl,(hs.2 b (YF (YG (YC e) I.ok.above))).trans e1⟩
  ·obtain ⟨o',e1⟩:=I.base.there b o e hx;exact ⟨o',(hs.2 b (YF (YG (YC e) I.ok.above))).trans e1⟩
  ·by_cases hj:j=i
   ·subst hj;rw [hi] at e1; cases e1;rw [bO hiσ] at e2;cases e2
    exact ⟨u,r,.inl ⟨hk,by simp⟩⟩
   ·rw [bW (Ne.symm hj)] at e2;obtain ⟨u',r',q⟩:=hl j y v' e1 e2 e3;refine ⟨u',r',?_⟩;rcases q with ⟨k,e⟩ | ⟨k,c,e,z⟩
    ·refine .inl ⟨k,?_⟩;have:y ≠ x:=fun e=>hj (HP hN e1 (e ▸ hi))
     simp [this,e]
    ·exact .inr ⟨k,c,e,z.sameBut hs (cne y c e)⟩
  ·obtain ⟨w',z⟩:=I.cell y c e;exact ⟨w',z.sameBut hs (cne y c e)⟩
  ·obtain ⟨e,n,ne,nf,d⟩:=I.pin p hp;exact ⟨(hs.2 p.1 ne).trans e,n,ne,nf,d⟩
 ·have hfn:X.fn x=true:=by
   rcases hf with z | z
   ·exact z
   ·rw [z] at hk; cases hk
  obtain ⟨c,hc⟩:=I.ok.has x (.inl hk);obtain ⟨w',z⟩:=I.cell x c hc;refine wpAny_storeName_cell I.ok.kind hk hc z (fun h' Hn hs=>?_);obtain ⟨oc,hoc,hocd⟩:=id z;refine h { s with heap:=h' } ⟨I.ok,I.os,I.bare,⟨fun b o e n hb hx=>?_,fun b o e n hb hx=>?_,I.base.free,fun b o e hx=>?_,I.base.tups,I.base.frzs,I.base.tbls⟩,⟨m,hn.sameBut hs (Ne.symm (cne x c hc)),fun j y v' e1 e2 e3=>?_⟩,fun y c' e=>?_,I.free,I.freeC,fun p hp=>?_,tracked ⟨oc,hoc,I.freeC x c hc⟩ hs,by simpa using I.len⟩ ⟨c,hs,.inr hc⟩
  ·exact (hs.2 b (YF (YG (YC e) (I.ok.cab x c hfn hc)))).trans (I.base.keep b o e n hb hx)
  ·obtain ⟨sl,e1⟩:=I.base.slot b o e n hb hx;exact ⟨sl,(hs.2 b (YF (YG (YC e) (I.ok.cab x c hfn hc)))).trans e1⟩
  ·obtain ⟨o',e1⟩:=I.base.there b o e hx;exact ⟨o',(hs.2 b (YF (YG (YC e) (I.ok.cab x c hfn hc)))).trans e1⟩
  ·by_cases hj:j=i
   ·subst hj;rw [hi] at e1; cases e1;rw [bO hiσ] at e2;cases e2
    exact ⟨u,r,.inr ⟨.inl hk,c,hc,Hn⟩⟩
   ·rw [bW (Ne.symm hj)] at e2;obtain ⟨u',r',q⟩:=hl j y v' e1 e2 e3;refine ⟨u',r',?_⟩;rcases q with q | ⟨k,c',e,z'⟩
    ·exact .inl q
    ·refine .inr ⟨k,c',e,z'.sameBut hs ?_⟩;rintro rfl;exact hj (HP hN e1 (I.ok.inj _ _ _ e hc ▸ hi))
  ·by_cases hcc:c'=c
   ·subst hcc; exact ⟨_,Hn⟩
   ·obtain ⟨w2,z2⟩:=I.cell y c' e;exact ⟨w2,z2.sameBut hs hcc⟩
  ·obtain ⟨e,n,ne,nf,d⟩:=I.pin p hp;refine ⟨(hs.2 p.1 ?_).trans e,n,ne,nf,d⟩;intro q;rw [q,hoc] at e;have q':oc=p.2:=YM.inj e;exact d w' (by rw [<-q']; exact hocd)
theorem KG {M:Model} {A:Around} {E:Value->Shared->Prop} {i:Nat} {x:Str} {v:V} {u:Value} {Q:Unit->Shared->Prop} (I:An X pins σ H s) (hN:X.N.Nodup) (hi:X.N[i]? = some x) (hx:UZ X.env.scope x) (r:A3 v u)
  (h:∀ s',An X pins (σ.set i (some v)) H s'->Q () s') (hf:X.fn x=true\/X.env.scope.names.lookup x=some .local:=by first | exact .inl rfl | exact .inr rfl | assumption):wpAny M A (storeName X.env x u) Q E s:=
 EF I hN hi hx r (fun s' I' _=>h s' I') hf
theorem An.call' {s':Shared} {ch:List Addr} (I:An X pins σ H s) (ho:s'.os=s.os) (u:Un (Rc X.stack) ch H H' s.heap s'.heap) (hok:F1 X.prog X.w H' s'.heap) (hg:AllBare s'.gens)
  (hch:∀ b ∈ ch,(b ∈ X.ex\/X.s₀.heap.objs.size<=b)/\b ≠ X.env.locals/\(∀ x c,X.env.cells.lookup x=some c->c ≠ b)/\∀ p ∈ X.pn ++ pins,p.1 ≠ b):An X pins σ H' s':=by
 obtain ⟨h',g',d',t',o'⟩:=s';have e:o'=s.os:=ho;subst e;exact I.call (g':=g') (t':=t') (d':=d') u hok hg hch
end
abbrev XK:=Value->Option Addr->Hp->Prop
abbrev St:=List (Option V)
abbrev VK:=V->Hp->Prop
abbrev TE:=St->Hp->VK->Prop
abbrev TT:=St->Hp->(Bool->Hp->Prop)->Prop
abbrev TA:=St->Hp->(List V->Hp->Prop)->Prop
structure ED where
 nx:St->Hp->Prop
 rt:VK
 bk:St->Hp->Prop:=fun _ _=>False
 ct:St->Hp->Prop:=fun _ _=>False
abbrev TS:=ED->St->Hp->Prop
def EP (X:Cx) (pins:List (Addr × Obj)) (σ:St) (Q:VK) (u:Value) (s':Shared):Prop:=∃ v H',An X pins σ H' s'/\A3 v u/\Q v H'
def TP (X:Cx) (pins:List (Addr × Obj)) (σ:St) (Q:Bool->Hp->Prop) (b:Bool) (s':Shared):Prop:=∃ H',An X pins σ H' s'/\Q b H'
def AP (X:Cx) (pins:List (Addr × Obj)) (σ:St) (Q:List V->Hp->Prop) (us:List Value) (s':Shared):Prop:=∃ vs H',An X pins σ H' s'/\A4 vs us/\Q vs H'
def SP (X:Cx) (pins:List (Addr × Obj)) (D:ED) (f:Flow) (s':Shared):Prop:=
 match f with
 | .next=>∃ Av H',An X pins Av H' s'/\D.nx Av H'
 | .brk=>∃ Av H',An X pins Av H' s'/\D.bk Av H'
 | .cont=>∃ Av H',An X pins Av H' s'/\D.ct Av H'
 | .ret u=>∃ v Av H',An X pins Av H' s'/\A3 v u/\D.rt v H'
def PE (X:Cx) (e:Expr) (t:TE):Prop:=
 ∀ ⦃pins:List (Addr × Obj)⦄ (s:Shared) (σ:St) (H:Hp) (Q:VK),An X pins σ H s->t σ H Q->wpAny (model X.prog X.w) X.A (eval e X.env) (EP X pins σ Q) X.xe s
def PT (X:Cx) (e:Expr) (t:TT):Prop:=
 ∀ ⦃pins:List (Addr × Obj)⦄ (s:Shared) (σ:St) (H:Hp) (Q:Bool->Hp->Prop),An X pins σ H s->t σ H Q->wpAny (model X.prog X.w) X.A (isTrue e X.env (eval e X.env)) (TP X pins σ Q) X.xe s
def PW (X:Cx) (e:Expr) (t:TT):Prop:=
 ∀ ⦃whole:Sem Value⦄ (pins:List (Addr × Obj)) (s:Shared) (σ:St) (H:Hp) (Q:Bool->Hp->Prop),An X pins σ H s->t σ H Q->wpAny (model X.prog X.w) X.A (isTrue e X.env whole) (TP X pins σ Q) X.xe s
theorem PW.pt {X:Cx} {e:Expr} {t:TT} (h:PW X e t):PT X e t:=@h _
def PA (X:Cx) (es:List Expr) (t:TA):Prop:=
 ∀ ⦃pos:Pos⦄ (pins:List (Addr × Obj)) (s:Shared) (σ:St) (H:Hp) (Q:List V->Hp->Prop),An X pins σ H s->t σ H Q->wpAny (model X.prog X.w) X.A (spliced (backTo pos (starEach es X.env))) (AP X pins σ Q) X.xe s
def PS (X:Cx) (st:Stmt) (t:TS):Prop:=
 ∀ ⦃pins:List (Addr × Obj)⦄ (s:Shared) (σ:St) (H:Hp) (D:ED),An X pins σ H s->t D σ H->wpAny (model X.prog X.w) X.A (exec st X.env) (SP X pins D) X.xe s
def LC (X:Cx) (st:List Stmt) (t:TS):Prop:=
 ∀ ⦃pins:List (Addr × Obj)⦄ (s:Shared) (σ:St) (H:Hp) (D:ED),An X pins σ H s->t D σ H->wpAny (model X.prog X.w) X.A (execs st X.env) (SP X pins D) X.xe s
theorem B5 {α:Type} {t:Sem α} {Q Q':α->Shared->Prop} {M:Model} {A:Around} {E:Value->Shared->Prop} {s:Shared} (h:wpAny M A t Q E s) (hQ:∀ a s,Q a s->Q' a s):wpAny M A t Q' E s:=wpAny_mono h hQ fun _ _ x=>x
section
variable {X:Cx}
def RN (i:Nat):TE:=fun σ H Q=>∃ v,σ[i]? = some (some v)/\Q v H
def tC (v:V):TE:=fun _ H Q=>Q v H
theorem Ur {i:Nat} {x:Str} {pos:Pos} (hN:X.N[i]? = some x) (hv:Vis X.env.scope x) (hd:(x == ("__debug__":Str))=false:=by decide) (hcd:(x == ("__classdict__":Str))=false:=by decide):PE X (.Name x pos) (RN i):=by
 intro pins s σ H Q I h;obtain ⟨v,e,h⟩:=h;obtain ⟨m,hn,hl⟩:=I.loc;obtain ⟨u,r,l⟩:=hl i x v hN e hv;have fin:EP X pins σ Q u s:=⟨v,H,I,r,h⟩
 rcases l with ⟨hk,hm⟩ | ⟨hk,c,hc,hcell⟩
 ·exact wpAny_Name (wpAny_loadName_local I.ok.kind hk hn hm fin) hd
 ·rcases hk with hk | hk
  ·exact wpAny_Name (wpAny_loadName_cell I.ok.kind hk hc hcell fin) hd
  ·exact wpAny_Name (wpAny_loadName_free I.ok.kind hk hc hcell fin hcd) hd
theorem Ag {i j pos}:PE X (.Constant (.int i) j pos) (tC (.int i)):=fun _ _ _ H _ I h=>wpAny_Constant_int ⟨.int i,H,I.tok _,⟨_,rfl⟩,h⟩
theorem Ld {b j pos}:PE X (.Constant (.bool b) j pos) (tC (.bl b)):=fun _ _ _ H _ I h=>Constant_bool ⟨.bl b,H,I,rfl,h⟩
theorem Gf {j pos}:PE X (.Constant .none j pos) (tC .non):=fun _ _ _ H _ I h=>Constant_none ⟨.non,H,I,rfl,h⟩
theorem C5 {x j pos}:PE X (.Constant (.str x) j pos) (tC (.str x)):=fun _ _ _ H _ I h=>Calls.Constant_str ⟨.str x,H,I.tok _,⟨_,rfl⟩,h⟩
def Gl (X:Cx) (x:Str):Prop:=X.env.kindOf x=some .globalImplicit
theorem Nv {E:Value->Shared->Prop} {pins:List (Addr × Obj)} {s:Shared} {σ:St} {H:Hp} {x:Str} {u:Value} {pos:Pos} {Q:Value->Shared->Prop} (I:An X pins σ H s) (hg:Gl X x) (hm:X.mg x=some u) (h:Q u s)
  (hd:(x == ("__debug__":Str))=false:=by decide):wpAny (model X.prog X.w) X.A (eval (.Name x pos) X.env) Q E s:=
 Calls.Name_function_global I.ok.kind hg (Calls.loadGlobal_global (by rw [I.ok.glob]; exact I.mod.glob.keeps I.bk) hm h) hd
theorem HV {E:Value->Shared->Prop} {pins:List (Addr × Obj)} {s:Shared} {σ:St} {H:Hp} {x:Str} {u:Value} {pos:Pos} {Q:Value->Shared->Prop} (I:An X pins σ H s) (hg:Gl X x) (hm:X.mg x=none) (hv:bootBuiltins x=some u) (h:Q u s)
  (hn:x ≠ "__name__":=by decide) (hd:(x == ("__debug__":Str))=false:=by decide):wpAny (model X.prog X.w) X.A (eval (.Name x pos) X.env) Q E s:=by
 obtain ⟨mb,h1,h2⟩:=I.mod.blt;exact Calls.Name_function_global I.ok.kind hg (Calls.loadGlobal_builtin (by rw [I.ok.glob]; exact I.mod.glob.keeps I.bk) hm (by rw [I.ok.blt]; exact h1.keeps I.bk) ((h2 x hn).trans hv) h) hd
theorem Sf {x:Str} {v:V} {u:Value} {pos:Pos} (hg:Gl X x) (hm:X.mg x=some u) (r:A3 v u) (hd:(x == ("__debug__":Str))=false:=by decide):PE X (.Name x pos) (tC v):=
 fun _ _ _ H _ I h=>Nv I hg hm ⟨v,H,I,r,h⟩ hd
theorem Nf {x:Str} {v:V} {u:Value} {pos:Pos} (hg:Gl X x) (hm:X.mg x=none) (hv:bootBuiltins x=some u) (r:A3 v u) (hn:x ≠ "__name__":=by decide) (hd:(x == ("__debug__":Str))=false:=by decide):PE X (.Name x pos) (tC v):=
 fun _ _ _ H _ I h=>HV I hg hm hv ⟨v,H,I,r,h⟩ hn hd
variable {a b:Expr} {ta tb:TE} {pos:Pos}
def PC (X:Cx) (op:CmpOp) (a b:Expr) (t:TE):Prop:=
 ∀ ⦃pins:List (Addr × Obj)⦄ (s:Shared) (σ:St) (H:Hp) (Q:VK),An X pins σ H s->t σ H Q ->
  wpAny (model X.prog X.w) X.A (eval a X.env) (fun v AN=>wpAny (model X.prog X.w) X.A (eval b X.env) (fun u El=>wpAny (model X.prog X.w) X.A (compareOp op v u) (EP X pins σ Q) X.xe El) X.xe AN) X.xe s
theorem Li (b:Expr) {op:CmpOp} (h:op ≠ .In) (h2:op ≠ .NotIn):behindInMarks op b=false:=by
 have e1:(op == CmpOp.In)=false:=by cases op <;> first | rfl | exact absurd rfl h
 have e2:(op == CmpOp.NotIn)=false:=by cases op <;> first | rfl | exact absurd rfl h2
 cases b <;> simp [behindInMarks,e1,e2]
def tIsN (ta:TE):TE:=fun σ H Q=>ta σ H fun x H1=>Q (.bl (decide (x=.non))) H1
def tNotN (ta:TE):TE:=fun σ H Q=>ta σ H fun x H1=>Q (.bl (!decide (x=.non))) H1
theorem A3.none_iff {x:V} {v:Value} (r:A3 x v):(v == Value.none)=decide (x=.non):=by
 cases x with
 | non=>cases r; rfl
 | bl _=>cases r; rfl
 | int _=>obtain ⟨t,rfl⟩:=r; rfl
 | str _=>obtain ⟨t,rfl⟩:=r; rfl
 | byt _=>obtain ⟨t,rfl⟩:=r; rfl
 | flt _=>obtain ⟨t,rfl⟩:=r; rfl
 | ref _=>cases r; rfl
 | ty _=>cases r; rfl
theorem HF {j pos'} (ha:PE X a ta):PC X .Is a (.Constant .none j pos') (tIsN ta):=by
 intro pins s σ H Q I h;refine B5 (ha (pins:=pins) s σ H _ I h) fun v s1 ⟨x,H1,I1,r1,q1⟩=>?_
 exact Constant_none (is_none_gen ⟨.bl _,H1,I1,by rw [r1.none_iff]; rfl,q1⟩)
theorem Ng {j pos'} (ha:PE X a ta):PC X .IsNot a (.Constant .none j pos') (tNotN ta):=by
 intro pins s σ H Q I h;refine B5 (ha (pins:=pins) s σ H _ I h) fun v s1 ⟨x,H1,I1,r1,q1⟩=>?_
 exact Constant_none (isnot_none_gen ⟨.bl _,H1,I1,by rw [r1.none_iff]; rfl,q1⟩)
def tB (t:TE):TT:=fun σ H Q=>t σ H fun x H1=>∃ c,x=.bl c/\Q c H1
theorem QA {op:CmpOp} {t:TE} (h:PC X op a b t) (h1:behindInMarks op b=false:=by first | exact Li _ (by decide) (by decide) | rfl):PE X (.Compare a [op] [b] pos) t:=fun pins s σ H Q I hw=>wpAny_Compare1 (h (pins:=pins) s σ H Q I hw) h1
theorem Et {op:CmpOp} {t:TE} (h:PC X op a b t) (h1:behindInMarks op b=false:=by first | exact Li _ (by decide) (by decide) | rfl):PT X (.Compare a [op] [b] pos) (tB t):=by
 intro pins s σ H Q I hw;refine wpAny_isTrue_Compare1 (B5 (h (pins:=pins) s σ H _ I hw) fun v s1 h1=>B5 h1 fun u s2 h2=>B5 h2 fun c s3 ⟨x,H1,I1,r1,q1⟩=>?_) h1;obtain ⟨d,rfl,q⟩:=q1;cases r1
 exact wpAny_truthy_bool ⟨H1,I1,q⟩
theorem Kf {e:Expr} {t:TE} (h:PE X e t) (he:∀ whole,isTrue e X.env whole=(do let v <- whole; standAt e.pos; holding [v] (truthy v)):=by intro _; rfl):PT X e (tB t):=by
 intro pins s σ H Q I hw;refine isTrue_plain (B5 (h (pins:=pins) s σ H _ I hw) fun v s1 ⟨x,H1,I1,r1,q1⟩=>?_) (he _);obtain ⟨d,rfl,q⟩:=q1;cases r1
 exact wpAny_truthy_bool ⟨H1,I1,q⟩
variable {tA Wq:TT} {Co:List Expr}
def tAnd (t u:TT):TT:=fun σ H Q=>t σ H fun c H1=>if c=true then u σ H1 Q else Q false H1
def tOr (t u:TT):TT:=fun σ H Q=>t σ H fun c H1=>if c=true then Q true H1 else u σ H1 Q
def tNot (t:TT):TT:=fun σ H Q=>t σ H fun c H1=>Q (!c) H1
theorem MX (ha:PT X a tA):PW X (.BoolOp .And [a] pos) tA:=by
 intro wh pins s σ H Q I h;refine isTrue_and (B5 (ha (pins:=pins) s σ H Q I h) fun c s1 e=>?_);cases c with
 | true=>exact isTrue_and_nil e
 | false=>exact e
theorem Hz (ha:PT X a tA):PW X (.BoolOp .Or [a] pos) tA:=by
 intro wh pins s σ H Q I h;refine isTrue_or (B5 (ha (pins:=pins) s σ H Q I h) fun c s1 e=>?_);cases c with
 | false=>exact isTrue_or_nil e
 | true=>exact e
theorem Mb (ha:PT X a tA) (hb:PW X (.BoolOp .And (b :: Co) pos) Wq):PW X (.BoolOp .And (a :: b :: Co) pos) (tAnd tA Wq):=by
 intro wh pins s σ H Q I h;refine isTrue_and (B5 (ha (pins:=pins) s σ H _ I h) fun c s1 ⟨H1,I1,q1⟩=>?_);cases c with
 | true=>exact hb (whole:=wh) (pins:=pins) s1 σ H1 Q I1 q1
 | false=>exact ⟨H1,I1,q1⟩
theorem KZ (ha:PT X a tA) (hb:PW X (.BoolOp .Or (b :: Co) pos) Wq):PW X (.BoolOp .Or (a :: b :: Co) pos) (tOr tA Wq):=by
 intro wh pins s σ H Q I h;refine isTrue_or (B5 (ha (pins:=pins) s σ H _ I h) fun c s1 ⟨H1,I1,q1⟩=>?_);cases c with
 | true=>exact ⟨H1,I1,q1⟩
 | false=>exact hb (whole:=wh) (pins:=pins) s1 σ H1 Q I1 q1
theorem HB (ha:PT X a tA):PT X (.UnaryOp .Not a pos) (tNot tA):=by
 intro pins s σ H Q I h;exact isTrue_not (ha (pins:=pins) s σ H (fun c H1=>Q (!c) H1) I h)
def tAndV (ta tb:TE):TE:=fun σ H Q=>ta σ H fun x H1=>∃ c,x=.bl c/\if c=true then tb σ H1 Q else Q (.bl false) H1
theorem Q8 {op} {t:TE} (h:PE X a t):PE X (.BoolOp op [a] pos) t:=fun pins s σ H Q I hw=>BoolOp_one (h (pins:=pins) s σ H Q I hw)
theorem QC (ha:PE X a ta) (hb:PE X (.BoolOp .And (b :: Co) pos) tb):PE X (.BoolOp .And (a :: b :: Co) pos) (tAndV ta tb):=by
 intro pins s σ H Q I h;refine BoolOp_and (B5 (ha (pins:=pins) s σ H _ I h) fun v s1 ⟨x,H1,I1,r1,q1⟩=>?_);obtain ⟨c,rfl,q1⟩:=q1;cases r1
 refine wpAny_truthy_bool ?_;cases c with
 | true=>exact hb (pins:=pins) s1 σ H1 Q I1 q1
 | false=>exact ⟨.bl false,H1,I1,rfl,q1⟩
def tIf (t:TT) (ta tb:TE):TE:=fun σ H Q=>t σ H fun c H1=>if c=true then ta σ H1 Q else tb σ H1 Q
theorem Lb {c:Expr} (hc:PT X c tA) (ha:PE X a ta) (hb:PE X b tb):PE X (.IfExp c a b pos) (tIf tA ta tb):=by
 intro pins s σ H Q I h;refine wpAny_IfExp (B5 (hc (pins:=pins) s σ H _ I h) fun d s1 ⟨H1,I1,q1⟩=>?_);cases d with
 | true=>exact ha (pins:=pins) s1 σ H1 Q I1 q1
 | false=>exact hb (pins:=pins) s1 σ H1 Q I1 q1
end
def AB (K:Y3) (H:Hp) (a:Addr) (xs:List V):Prop:=
 Rd H a (.lst xs) \/
  ∃ (o:Obj) (Ap:Array Value) (n:Nat),K.lookup a=some o/\o.cls=.type "list"/\o.dict=none/\o.data=.seq Ap n/\Ap.size<=sizeLine/\A4 xs Ap.toList
def A7 (K:Y3) (H:Hp) (a:Addr) (xs:List V):Prop:=
 Rd H a (.tup xs) \/
  ∃ (o:Obj) (Ap:Array Value) (n:Nat),K.lookup a=some o/\o.cls=.type "tuple"/\o.data=.seq Ap n/\Ap.size<=sizeLine/\A4 xs Ap.toList
def absV:Value->Option V
 | .none=>some .non
 | .bool b=>some (.bl b)
 | .int i _=>some (.int i)
 | .str x _=>some (.str x)
 | .bytes b _=>some (.byt b)
 | .float b _=>some (.flt b)
 | .ref a=>some (.ref a)
 | .type n=>some (.ty n)
 | _=>none
theorem A3.abs {x:V} {u:Value} (r:A3 x u):absV u=some x:=by
 cases x with
 | non=>cases r; rfl
 | bl _=>cases r; rfl
 | int _=>obtain ⟨t,rfl⟩:=r; rfl
 | str _=>obtain ⟨t,rfl⟩:=r; rfl
 | byt _=>obtain ⟨t,rfl⟩:=r; rfl
 | flt _=>obtain ⟨t,rfl⟩:=r; rfl
 | ref _=>cases r; rfl
 | ty _=>cases r; rfl
theorem A3.inj {x y:V} {u:Value} (r:A3 x u) (q:A3 y u):x=y:=YM.inj (r.abs.symm.trans q.abs)
theorem A4.inj:∀ {xs ys:List V} {us:List Value},A4 xs us->A4 ys us->xs=ys
 | _,_,_,.nil,.nil=>rfl
 | _,_,_,.cons r t,.cons r' t'=>by rw [r.inj r',A4.inj t t']
section
variable {X:Cx} {pins:List (Addr × Obj)} {σ:St} {H:Hp} {s:Shared} {a:Addr} {xs ys:List V}
theorem AB.of {K:Y3} (h:H a=some (.lst xs)):AB K H a xs:=.inl (.inl h)
theorem A7.of {K:Y3} (h:H a=some (.tup xs)):A7 K H a xs:=.inl (.inl h)
theorem An.list (I:An X pins σ H s) (h:AB X.K H a xs):∃ Ap:List Value,A4 xs Ap/\PlainL s.heap a Ap.toArray/\xs.length<=sizeLine:=by
 rcases h with h | ⟨o,Ap,n,hk,hc,hd,hs,hz,r⟩
 ·obtain ⟨z,Ap,n,r,e⟩:=h.ok I.hok;exact ⟨Ap,r,⟨_,n,e,rfl,rfl,rfl⟩,z⟩
 ·refine ⟨Ap.toList,r,⟨o,n,I.kIn a o hk,hc,hd,by simpa using hs⟩,?_⟩;have e:=r.length;simp only [YY] at e;lia
theorem An.tuple (I:An X pins σ H s) (h:A7 X.K H a xs):∃ Ap:List Value,A4 xs Ap/\IsTup s.heap a Ap.toArray/\xs.length<=sizeLine:=by
 rcases h with h | ⟨o,Ap,n,hk,hc,hs,hz,r⟩
 ·obtain ⟨z,Ap,r,p,_⟩:=h.ok I.hok;exact ⟨Ap,r,p,z⟩
 ·refine ⟨Ap.toList,r,⟨o,I.kIn a o hk,hc,n,by simpa using hs⟩,?_⟩;have e:=r.length;simp only [YY] at e;lia
theorem An.list_inj (I:An X pins σ H s) (h:AB X.K H a xs) (h':AB X.K H a ys):xs=ys:=by
 obtain ⟨Ap,r,⟨o,n,e,_,_,d⟩,_⟩:=I.list h;obtain ⟨its',r',⟨o',n',e',_,_,d'⟩,_⟩:=I.list h';rw [e] at e'; cases e';rw [d] at d';injection d' with d1 _;have:Ap=its':=by simpa using congrArg bx d1
 subst this;exact r.inj r'
theorem An.tuple_inj (I:An X pins σ H s) (h:A7 X.K H a xs) (h':A7 X.K H a ys):xs=ys:=by
 obtain ⟨Ap,r,⟨o,e,_,n,d⟩,_⟩:=I.tuple h;obtain ⟨its',r',⟨o',e',_,n',d'⟩,_⟩:=I.tuple h';rw [e] at e'; cases e';rw [d] at d';injection d' with d1 _;have:Ap=its':=by simpa using congrArg bx d1
 subst this;exact r.inj r'
end
abbrev Cx.wish (X:Cx) (E:Value->Shared->Prop):Cx:={ X with xe:=E }
abbrev Cx.nox (X:Cx):Cx:=X.wish fun _ _=>False
theorem Cx.Ok.wish {X:Cx} (ok:X.Ok) (E:Value->Shared->Prop):(X.wish E).Ok:=
 ⟨ok.mod,ok.kind,ok.glob,ok.blt,ok.above,ok.inj,ok.has,ok.cab,ok.hd,ok.frames,ok.stk,ok.exf,ok.bs,ok.bsz,ok.noex,ok.exfs,ok.funs,ok.frf⟩
theorem Cx.Ok.unwish {X:Cx} {E:Value->Shared->Prop} (ok:(X.wish E).Ok):X.Ok:=
 ⟨ok.mod,ok.kind,ok.glob,ok.blt,ok.above,ok.inj,ok.has,ok.cab,ok.hd,ok.frames,ok.stk,ok.exf,ok.bs,ok.bsz,ok.noex,ok.exfs,ok.funs,ok.frf⟩
section
variable {X:Cx} {pins:List (Addr × Obj)} {σ:St} {H:Hp} {s:Shared} {E:Value->Shared->Prop}
theorem An.wish (I:An X pins σ H s) (E:Value->Shared->Prop):An (X.wish E) pins σ H s:=⟨I.ok.wish E,I.os,I.bare,I.base,I.loc,I.cell,I.free,I.freeC,I.pin,I.hok,I.len⟩
theorem An.unwish (I:An (X.wish E) pins σ H s):An X pins σ H s:=⟨I.ok.unwish,I.os,I.bare,I.base,I.loc,I.cell,I.free,I.freeC,I.pin,I.hok,I.len⟩
theorem SP.unwish {D:ED} {f:Flow} {s':Shared} (h:SP (X.wish E) pins D f s'):SP X pins D f s':=by
 cases f with
 | next=>obtain ⟨Av,H',I,q⟩:=h; exact ⟨Av,H',I.unwish,q⟩
 | brk=>obtain ⟨Av,H',I,q⟩:=h; exact ⟨Av,H',I.unwish,q⟩
 | cont=>obtain ⟨Av,H',I,q⟩:=h; exact ⟨Av,H',I.unwish,q⟩
 | ret u=>obtain ⟨v,Av,H',I,r,q⟩:=h; exact ⟨v,Av,H',I.unwish,r,q⟩
theorem LC.nox {st:List Stmt} {t:TS} (h:LC X.nox st t):LC X st t:=fun pins s σ H D I hw=>
 wpAny_mono (h (pins:=pins) s σ H D (I.wish _) hw) (fun _ _ q=>q.unwish) fun _ _ z=>False.elim z
end
section
variable {X:Cx} {st:Stmt} {Co:List Stmt} {t u:TS} {e:Expr} {te:TE} {pos:Pos}
def tNext:TS:=fun D σ H=>D.nx σ H
def tSeq (t u:TS):TS:=fun D σ H=>t { D with nx:=u D } σ H
theorem BK:LC X [] tNext:=fun _ _ σ H _ I h=>wpAny_execs_nil ⟨σ,H,I,h⟩
theorem Ae (h1:PS X st t) (h2:LC X Co u):LC X (st :: Co) (tSeq t u):=by
 intro pins s σ H D I h;refine wpAny_execs_cons (B5 (h1 (pins:=pins) s σ H { D with nx:=u D } I h) fun f s1 q=>?_);cases f with
 | next=>
  obtain ⟨Av,H',I',q⟩:=q;exact h2 (pins:=pins) s1 Av H' D I' q
 | ret v=>exact q
 | brk=>exact q
 | cont=>exact q
theorem Al (h1:PS X st t):LC X [st] t:=by
 intro pins s σ H D I h;refine wpAny_execs_cons (B5 (h1 (pins:=pins) s σ H D I h) fun f s1 q=>?_);cases f with
 | next=>exact wpAny_execs_nil q
 | ret v=>exact q
 | brk=>exact q
 | cont=>exact q
theorem An.quiet {pins:List (Addr × Obj)} {σ:St} {H:Hp} {s:Shared} (I:An X pins σ H s):interactive X.env=false:=by simp [interactive,I.ok.kind]
def tDrop (te:TE):TS:=fun D σ H=>te σ H fun _ H1=>D.nx σ H1
theorem DR (he:PE X e te) (hs:swapsWith e none pos.line X.env=pure false:=by rfl):PS X (.Expr e pos) (tDrop te):=by
 intro pins s σ H D I h;exact wpAny_Expr_any (B5 (he (pins:=pins) s σ H _ I h) fun v s1 ⟨x,H1,I1,r1,q1⟩=>⟨σ,H1,I1,q1⟩) I.quiet hs
def tRet (te:TE):TS:=fun D σ H=>te σ H D.rt
theorem AK (he:PE X e te):PS X (.Return (some e) pos) (tRet te):=by
 intro pins s σ H D I h;exact wpAny_Return_some (B5 (he (pins:=pins) s σ H _ I h) fun v s1 ⟨x,H1,I1,r1,q1⟩=>⟨x,σ,H1,I1,r1,q1⟩)
def tIfS (c:TT) (t u:TS):TS:=fun D σ H=>c σ H fun b H1=>if b=true then t D σ H1 else u D σ H1
theorem Dq {c:Expr} {a b:List Stmt} {tc:TT} (hc:PT X c tc) (ha:LC X a t) (hb:LC X b u):PS X (.If c a b pos) (tIfS tc t u):=by
 intro pins s σ H D I h;refine wpAny_If (B5 (hc (pins:=pins) s σ H _ I h) fun d s1 ⟨H1,I1,q1⟩=>?_);cases d with
 | true=>exact ha (pins:=pins) s1 σ H1 D I1 q1
 | false=>exact hb (pins:=pins) s1 σ H1 D I1 q1
end
abbrev TG:=V->St->Hp->(St->Hp->Prop)->Prop
abbrev TC:=List V->St->Hp->(St->Hp->Prop)->Prop
def PG (X:Cx) (target:Expr) (t:TG):Prop:=
 ∀ ⦃pins:List (Addr × Obj)⦄ (s:Shared) (σ:St) (H:Hp) (v:V) (u:Value) (Q:St->Hp->Prop),An X pins σ H s->A3 v u->t v σ H Q ->
  wpAny (model X.prog X.w) X.A (assign target X.env u) (fun _ s'=>∃ Av H',An X pins Av H' s'/\Q Av H') X.xe s
def PGs (X:Cx) (ts:List Expr) (t:TC):Prop:=
 ∀ ⦃pins:List (Addr × Obj)⦄ (s:Shared) (σ:St) (H:Hp) (vs:List V) (us:List Value) (Q:St->Hp->Prop),An X pins σ H s->A4 vs us->t vs σ H Q ->
  wpAny (model X.prog X.w) X.A (assignInOrder ((assignEach ts X.env).map (·.2)) us) (fun _ s'=>∃ Av H',An X pins Av H' s'/\Q Av H') X.xe s
abbrev UX:=V->V->V->Hp->(Hp->Prop)->Prop
def PSet (X:Cx) (t:UX):Prop:=
 ∀ ⦃pins:List (Addr × Obj)⦄ (s:Shared) (σ:St) (H:Hp) (o i v:V) (ov iv u:Value) (Q:Hp->Prop),An X pins σ H s->A3 o ov->A3 i iv->A3 v u->t o i v H Q ->
  wpAny (model X.prog X.w) X.A (setItem ov iv u) (fun _ s'=>∃ H',An X pins σ H' s'/\Q H') X.xe s
section
variable {X:Cx} {pos:Pos}
def JB (i:Nat):TG:=fun v σ H Q=>Q (σ.set i (some v)) H
theorem Ai {i:Nat} {x:Str} (hN:X.N.Nodup) (hi:X.N[i]? = some x) (hx:UZ X.env.scope x) (hf:X.fn x=true\/X.env.scope.names.lookup x=some .local:=by first | exact .inl rfl | exact .inr rfl | assumption):PG X (.Name x pos) (JB i):=by
 intro pins s σ H v u Q I r h;exact wpAny_assign_Name (KG I hN hi hx r (fun s' I'=>⟨_,H,I',h⟩) hf)
def gNil:TC:=fun vs σ H Q=>vs=[]/\Q σ H
def gCons (t:TG) (u:TC):TC:=fun vs σ H Q=>∃ v r,vs=v :: r/\t v σ H fun Av H'=>u r Av H' Q
theorem B6:PGs X [] gNil:=by
 intro pins s σ H vs us Q I r h;obtain ⟨e,h⟩:=h;subst e;cases r
 exact assignInOrder_nil ⟨σ,H,I,h⟩
theorem As {e:Expr} {es:List Expr} {t:TG} {u:TC} (h1:PG X e t) (h2:PGs X es u)
  (hs:(assignEach (e :: es) X.env).map (·.2)=assign e X.env :: (assignEach es X.env).map (·.2):=by rfl):PGs X (e :: es) (gCons t u):=by
 intro pins s σ H vs us Q I r h;obtain ⟨v,vr,e1,h⟩:=h;subst e1;cases r with
 | cons r rr=>
  rw [hs];refine assignInOrder_cons (B5 (h1 (pins:=pins) s σ H _ _ _ I r h) fun _ s1 ⟨Vc,H1,I1,q1⟩=>?_);exact h2 (pins:=pins) s1 Vc H1 _ _ Q I1 rr q1
def gTup (K:Y3) (n:Nat) (t:TC):TG:=fun v σ H Q=>∃ a xs,v=.ref a/\A7 K H a xs/\xs.length=n/\t xs σ H Q
theorem Uq {es:List Expr} {k:Nat} {t:TC} {n:Nat} (hc:X.calm=true) (h:PGs X es t)
  (hn:(assignEach es X.env).length=n:=by rfl) (hst:(assignEach es X.env).findIdx? (·.1)=none:=by rfl):PG X (.Tuple es k pos) (gTup X.K n t):=by
 intro pins s σ H v u Q I r hw;obtain ⟨a,xs,e1,hq,hl,hw⟩:=hw;subst e1;cases r
 obtain ⟨Ap,rv,ht,hz⟩:=I.tuple hq;refine assign_Tuple_tuple (I.ok.hd hc) ht (by simp [hn,<-hl,rv.length]) hst fun h' hx=>?_
 have I1:An X pins σ H { s with heap:=h' }:=I.kept (t':=s.toks) fun b o e=>hx b o (YF (YC e)) e
 exact h (pins:=pins) _ σ H xs _ Q I1 (by simpa using rv) hw
def gSub (to ti:TE) (t:UX):TG:=fun v σ H Q=>to σ H fun o H1=>ti σ H1 fun i H2=>t o i v H2 fun H3=>Q σ H3
theorem Mc {o i:Expr} {to ti:TE} {t:UX} (ho:PE X o to) (hi:PE X i ti) (hs:PSet X t)
  (ha:∀ v,assign (.Subscript o i pos) X.env v=(do
   let ov <- holding [v] (eval o X.env)
   let iv <- holding [v,ov] (eval i X.env)
   standAt pos
   holding [v,ov,iv] (setItem ov iv v)
   release [v,ov,iv] []):=by intro _; rfl):PG X (.Subscript o i pos) (gSub to ti t):=by
 intro pins s σ H v u Q I r h;rw [ha];refine wpAny_bind (wpAny_holding (B5 (ho (pins:=pins) s σ H _ I h) fun ov s1 ⟨x,H1,I1,r1,q1⟩=>?_));refine wpAny_bind (wpAny_holding (B5 (hi (pins:=pins) s1 σ H1 _ I1 q1) fun iv s2 ⟨y,H2,I2,r2,q2⟩=>?_));refine wpAny_bind (wpAny_standAt (wpAny_bind (wpAny_holding (B5 (hs (pins:=pins) s2 σ H2 x y v ov iv u _ I2 r1 r2 r q2) fun _ s3 ⟨H3,I3,q3⟩=>?_))));exact wpAny_release ⟨σ,H3,I3,q3⟩
def PV (te:TE) (g:TG):TS:=fun D σ H=>te σ H fun x H1=>g x σ H1 D.nx
theorem Eu {tg e:Expr} {te:TE} {g:TG} (he:PE X e te) (hg:PG X tg g) (hs:swapsWithSole [tg] e pos.line X.env=pure false:=by rfl) (hw:swappedStores [tg] e X.env=pure none:=by rfl)
  (h1:(assignEach [tg] X.env).map (·.2)=[assign tg X.env]:=by rfl):PS X (.Assign [tg] e pos) (PV te g):=by
 intro pins s σ H D I h;refine wpAny_Assign_stores (B5 (he (pins:=pins) s σ H _ I h) fun v s1 ⟨x,H1,I1,r1,q1⟩=>?_) hs hw;rw [h1];exact B5 (hg (pins:=pins) s1 σ H1 x v _ I1 r1 q1) fun _ s2 q=>q
theorem Aq {i:Nat} {x:Str} {e:Expr} {te:TE} {pos':Pos} (hN:X.N.Nodup) (hi:X.N[i]? = some x) (hx:UZ X.env.scope x) (he:PE X e te) (hs:swapsWith e (some (.Name x pos')) pos.line X.env=pure false:=by rfl) (hf:X.fn x=true\/X.env.scope.names.lookup x=some .local:=by first | exact .inl rfl | exact .inr rfl | assumption) :
  PS X (.Assign [.Name x pos'] e pos) (PV te (JB i)):=by
 intro pins s σ H D I h;refine wpAny_Assign_Name (B5 (he (pins:=pins) s σ H _ I h) fun v s1 ⟨y,H1,I1,r1,q1⟩=>?_) hs;exact KG I1 hN hi hx r1 (fun s2 I2=>⟨_,H1,I2,q1⟩) hf
end
section
variable {X:Cx} {pos:Pos}
def TY (c:TT) (tb:TS):TS:=fun D σ H=>∃ W:Nat->St->Hp->Prop,(∃ m,W m σ H)/\∀ m σ H,W m σ H ->
 c σ H fun b H1=>if b=true then ∃ N:St->Hp->Prop,(∀ Av H',N Av H'->∃ m',m' < m/\W m' Av H')/\tb { D with nx:=N,ct:=N,bk:=D.nx } σ H1 else D.nx σ H1
theorem Q2 {c:Expr} {body:List Stmt} {tc:TT} {tb:TS} (hp:PassesOwn (model X.prog X.w) X.A X.env X.xe) (hc:PT X c tc) (hb:LC X body tb):PS X (.While c body [] pos) (TY tc tb):=by
 intro pins s σ H D I h;obtain ⟨W,⟨m0,w0⟩,turn⟩:=h;refine wpAny_While (codeAny_whileLoop (fun n s'=>∃ Av H',An X pins Av H' s'/\W n Av H') ?_ m0 ⟨σ,H,I,w0⟩);rintro n s1 ⟨Vc,H1,I1,w1⟩;refine wpAny_passesOwn hp (B5 (hc (pins:=pins) s1 Vc H1 _ I1 (turn n Vc H1 w1)) fun b s2 ⟨H2,I2,q2⟩=>?_);cases b with
 | true=>
  obtain ⟨N,hN,q2⟩:=q2;rw [if_pos rfl];refine wpAny_passesOwn hp (B5 (hb (pins:=pins) s2 Vc H2 _ I2 q2) fun f s3 q3=>?_);cases f with
  | next=>
   obtain ⟨Pu,H3,I3,n3⟩:=q3;obtain ⟨m',hm,w3⟩:=hN Pu H3 n3;exact ⟨m',hm,Pu,H3,I3,w3⟩
  | cont=>
   obtain ⟨Pu,H3,I3,n3⟩:=q3;obtain ⟨m',hm,w3⟩:=hN Pu H3 n3;exact ⟨m',hm,Pu,H3,I3,w3⟩
  | brk=>exact q3
  | ret v=>exact q3
 | false=>
  rw [if_neg YI];exact wpAny_execs_nil ⟨Vc,H2,I2,q2⟩
end
structure It where
 go:Nat->Hp->Prop
 yld:Nat->Hp->V->Hp->Prop
 stop:Nat->Hp->Prop
def Eg (X:Cx) (pins:List (Addr × Obj)) (H:Hp) (b:Addr):Prop:=
 H b=none/\b ≠ X.env.locals/\b ∉ X.fs/\(b ∈ X.ex\/X.s₀.heap.objs.size<=b)/\(∀ x c,X.env.cells.lookup x=some c->c ≠ b)/\∀ p ∈ X.pn ++ pins,p.1 ≠ b
theorem An.fpOk {X:Cx} {pins:List (Addr × Obj)} {σ:St} {H H':Hp} {s:Shared} {b:Addr} (I:An X pins σ H s) (hb:s.heap.objs.size<=b) (hn:H' b=none):Eg X pins H' b:=by
 refine ⟨hn,Zx (YG I.lt hb),I.nofs hb,.inr (YU I.sz hb),fun x c e z=>?_,fun p hp z=>?_⟩
 ·obtain ⟨v,q⟩:=I.cell x c e;exact absurd (YG q.lt (by rw [z]; exact hb)) (Zp _)
 ·exact absurd (YG (YC (I.pin p hp).1) (by rw [z]; exact hb)) (Zp _)
structure LA (P:Program) (w:World) (K:Y3) (tg:Expr) (J:It) (fp:List Addr) (it:Addr) (tn:Nat->Heap->Prop):Prop where
 mem:it ∈ fp
 obj:∀ i h,tn i h->∀ b ∈ fp,∃ o,h.get? b=some o/\∀ v,o.data ≠ .cell v
 keep:∀ i h h',tn i h->(∀ b ∈ fp,∀ o,h.get? b=some o->h'.get? b=some o)->tn i h'
 item:∀ (X:Cx),X.prog=P->X.w=w->X.K=K->X.calm=true->∀ (i:Nat) (pins:List (Addr × Obj)) (s:Shared) (σ:St) (H:Hp) (E:Value->Shared->Prop),An X pins σ H s->(∀ b ∈ fp,Eg X pins H b)->tn i s.heap->J.go i H ->
  wpAny (model P w) X.A (pyNext (.ref it)) (fun r s1=>∃ u,r=some u /\
   wpAny (model P w) X.A (letOwnedTupleGo tg (.ref it) u) (fun _ s2=>∃ x H',An X pins σ H' s2/\A3 x u/\J.yld i H x H'/\tn (i + 1) s2.heap/\∀ b ∈ fp,H' b=none) E s1) E s
 done:∀ (X:Cx),X.prog=P->X.w=w->X.K=K->X.calm=true->∀ (i:Nat) (pins:List (Addr × Obj)) (s:Shared) (σ:St) (H:Hp) (E:Value->Shared->Prop),An X pins σ H s->(∀ b ∈ fp,Eg X pins H b)->tn i s.heap->J.stop i H ->
  wpAny (model P w) X.A (pyNext (.ref it)) (fun r s1=>r=none/\An X pins σ H s1) E s
 self:∀ (A:Around) (i:Nat) (s:Shared) (Q:Value->Shared->Prop) (E:Value->Shared->Prop),tn i s.heap->Q (.ref it) s->wpAny (model P w) A (pyIter (.ref it)) Q E s
abbrev TI:=St->Hp->(It->Hp->Prop)->Prop
def PIE (X:Cx) (pins:List (Addr × Obj)) (σ:St) (tg:Expr) (R:It->Hp->Prop) (itv:Value) (s2:Shared):Prop:=
 ∃ (it:Addr) (fp:List Addr) (tn:Nat->Heap->Prop) (J:It) (H':Hp),itv=.ref it/\An X pins σ H' s2/\LA X.prog X.w X.K tg J fp it tn/\tn 0 s2.heap/\(∀ b ∈ fp,Eg X pins H' b)/\R J H'
def PI (X:Cx) (tg iter:Expr) (wi:TI):Prop:=
 ∀ ⦃pins:List (Addr × Obj)⦄ (s:Shared) (σ:St) (H:Hp) (R:It->Hp->Prop),An X pins σ H s->wi σ H R ->
  wpAny (model X.prog X.w) X.A (eval iter X.env) (fun v s1=>wpAny (model X.prog X.w) X.A (pyIter v) (PIE X pins σ tg R) X.xe s1) X.xe s
theorem Ik {M:Model} {A:Around} {E:Value->Shared->Prop} {s:Shared} {tg:Expr} {it:Addr} {u:Value} {o:Obj} {n:String} {vs:Array Value} {Q:Unit->Shared->Prop} (ho:s.heap.get? it=some o) (hc:o.cls=.type n) (hd:o.data=.fields vs)
  (hn:["enumerate","zip","dict_itemiterator","dict_reverseitemiterator","odict_iterator","itertools.zip_longest","itertools.pairwise"].contains n=false) (hQ:Q () s):wpAny M A (letOwnedTupleGo tg (.ref it) u) Q E s:=by
 unfold letOwnedTupleGo;cases tg <;> first
  | exact wpAny_pure hQ
  | (cases u <;> first
    | exact wpAny_pure hQ
    | (refine wpAny_bind (wpAny_load ho ?_)
       rw [hc,hd];show wpAny M A (if (["enumerate","zip","dict_itemiterator","dict_reverseitemiterator","odict_iterator","itertools.zip_longest","itertools.pairwise"].contains n && vs[0]? == some (rawInt _))=true then _ else _) Q E s
       rw [if_neg (by intro h; rw [hn,aV] at h; cases h)];exact wpAny_pure hQ))
def RG (K:Y3) (a:Addr):It:=
 ⟨fun i H=>∃ xs x,AB K H a xs/\xs[i]? = some x,fun i H x H'=>H'=H/\∀ xs,AB K H a xs->xs[i]? = some x,fun i H=>∃ xs,AB K H a xs/\xs.length<=i⟩
def Pl (K:Y3) (a:Addr):It:=
 ⟨fun i H=>∃ xs x,A7 K H a xs/\xs[i]? = some x,fun i H x H'=>H'=H/\∀ xs,A7 K H a xs->xs[i]? = some x,fun i H=>∃ xs,A7 K H a xs/\xs.length<=i⟩
def RF (lo:Int) (n:Nat):It:=⟨fun i _=>i < n,fun i H x H'=>H'=H/\x=.int (lo + i),fun i _=>n<=i⟩
theorem Jo {P:Program} {w:World} {K:Y3} {tg:Expr} (a it:Addr):LA P w K tg (RG K a) [it] it (fun i h=>h.IsListIter it a i) where
 mem:=by simp
 obj:=fun i h st b hb=>by
  have e:b=it:=by simpa using hb
  subst e;obtain ⟨o,e,c,d⟩:=st;exact ⟨o,e,fun v z=>by rw [d] at z; cases z⟩
 keep:=fun i h h' st k=>st.at fun o e=>k it (by simp) o e
 item:=by
  intro X hP hw hK hc i pins s σ H E I hf st hg;subst hP hw hK;obtain ⟨xs,x,hq,hx⟩:=hg;obtain ⟨Ap,rv,p,hz⟩:=I.list hq;obtain ⟨u,hu,ru⟩:=rv.get hx;obtain ⟨f0,f1,f2,f3,f4,f5⟩:=hf it (by simp);refine wpAny_pyNext_list_item st p.isList (x:=u) (by simpa using hu) fun h' AM sb=>?_
  have I1:An X pins σ H { s with heap:=h' }:=I.turned (t':=s.toks) (fun b o hb e=>(sb.2 b hb).trans e) f0 f1 f3 f4 f5;obtain ⟨o,e,c,d⟩:=id AM;exact ⟨u,rfl,Ik (s:={ s with heap:=h' }) e c d (by decide) ⟨x,H,I1,ru,⟨rfl,fun ys hy=>by rw [I.list_inj hy hq]; exact hx⟩,AM,fun b hb=>(hf b hb).1⟩⟩
 done:=by
  intro X hP hw hK hc i pins s σ H E I hf st hg;subst hP hw hK;obtain ⟨xs,hq,hx⟩:=hg;obtain ⟨Ap,rv,p,hz⟩:=I.list hq;obtain ⟨f0,f1,f2,f3,f4,f5⟩:=hf it (by simp);have hl:=rv.length;exact wpAny_pyNext_list_end (I.ok.hd hc) st p.isList (by simp; lia) fun h' eb=>⟨rfl,I.turned (t':=s.toks) (fun b o hb e=>eb b o hb e) f0 f1 f3 f4 f5⟩
 self:=fun _ _ _ _ _ st h=>wpAny_pyIter_listiter st h
theorem Hr {P:Program} {w:World} {K:Y3} {tg:Expr} (a it:Addr):LA P w K tg (Pl K a) [it] it (fun i h=>h.IsTupleIter it a i) where
 mem:=by simp
 obj:=fun i h st b hb=>by
  have e:b=it:=by simpa using hb
  subst e;obtain ⟨o,e,c,d⟩:=st;exact ⟨o,e,fun v z=>by rw [d] at z; cases z⟩
 keep:=fun i h h' st k=>st.at fun o e=>k it (by simp) o e
 item:=by
  intro X hP hw hK hc i pins s σ H E I hf st hg;subst hP hw hK;obtain ⟨xs,x,hq,hx⟩:=hg;obtain ⟨Ap,rv,p,hz⟩:=I.tuple hq;obtain ⟨u,hu,ru⟩:=rv.get hx;obtain ⟨f0,f1,f2,f3,f4,f5⟩:=hf it (by simp);refine wpAny_pyNext_tuple_item st (show s.heap.IsTuple a Ap.toArray from p) (x:=u) (by simpa using hu) fun h' AM sb=>?_
  have I1:An X pins σ H { s with heap:=h' }:=I.turned (t':=s.toks) (fun b o hb e=>(sb.2 b hb).trans e) f0 f1 f3 f4 f5;obtain ⟨o,e,c,d⟩:=id AM;exact ⟨u,rfl,Ik (s:={ s with heap:=h' }) e c d (by decide) ⟨x,H,I1,ru,⟨rfl,fun ys hy=>by rw [I.tuple_inj hy hq]; exact hx⟩,AM,fun b hb=>(hf b hb).1⟩⟩
 done:=by
  intro X hP hw hK hc i pins s σ H E I hf st hg;subst hP hw hK;obtain ⟨xs,hq,hx⟩:=hg;obtain ⟨Ap,rv,p,hz⟩:=I.tuple hq;obtain ⟨f0,f1,f2,f3,f4,f5⟩:=hf it (by simp);have hl:=rv.length;exact wpAny_pyNext_tuple_end (I.ok.hd hc) st (show s.heap.IsTuple a Ap.toArray from p) (by simp; lia) fun h' eb=>⟨rfl,I.turned (t':=s.toks) (fun b o hb e=>eb b o hb e) f0 f1 f3 f4 f5⟩
 self:=fun _ _ _ _ _ st h=>wpAny_pyIter_tupleiter st h
theorem LO {P:Program} {w:World} {K:Y3} {tg:Expr} (it:Addr) (lo:Int) (n:Nat):LA P w K tg (RF lo n) [it] it (fun i h=>IsRangeIter h it (lo + (i:Nat) * 1) ((n:Int) - (i:Nat)) 1) where
 mem:=by simp
 obj:=fun i h st b hb=>by
  have e:b=it:=by simpa using hb
  subst e;exact ⟨_,st,fun v z=>by
   have z':Data.fields _=Data.cell v:=z;cases z'⟩
 keep:=fun i h h' st k=>k it (by simp) _ st
 item:=by
  intro X hP hw hK hc i pins s σ H E I hf st hg;subst hP hw hK;obtain ⟨f0,f1,f2,f3,f4,f5⟩:=hf it (by simp);have W:=Walks.range (prog:=X.prog) (w:=X.w) (I.ok.hd hc) it lo 1 n;refine W.item i s _ _ hg st fun v h' tk hv AM kk=>?_
  obtain ⟨t,rfl⟩:=hv;have I1:An X pins σ H { s with heap:=h',toks:=tk }:=I.turned (fun b o hb e=>kk b o (by simpa using hb) e) f0 f1 f3 f4 f5;refine ⟨_,rfl,Ik (s:={ s with heap:=h',toks:=tk }) (n:="range_iterator") AM rfl rfl (by decide) ⟨.int (lo + i),H,I1,⟨t,?_⟩,⟨rfl,rfl⟩,AM,fun b hb=>(hf b hb).1⟩⟩;rw [Int.mul_one]
 done:=by
  intro X hP hw hK hc i pins s σ H E I hf st hg;subst hP hw hK;obtain ⟨f0,f1,f2,f3,f4,f5⟩:=hf it (by simp);exact wpAny_pyNext_range_end (I.ok.hd hc) st (by have:n<=i:=hg; lia) fun h' eb=>⟨rfl,I.turned (t':=s.toks) (fun b o hb e=>eb b o hb e) f0 f1 f3 f4 f5⟩
 self:=fun _ _ _ _ _ st h=>wpAny_pyIter_rangeiter st h
section
variable {X:Cx} {tg:Expr}
def Tz (K:Y3) (tl:TE):TI:=fun σ H R=>tl σ H fun x H1=>∃ a,x=.ref a/\(∃ xs,AB K H1 a xs)/\R (RG K a) H1
def iTup (K:Y3) (tl:TE):TI:=fun σ H R=>tl σ H fun x H1=>∃ a,x=.ref a/\(∃ xs,A7 K H1 a xs)/\R (Pl K a) H1
theorem Kh {l:Expr} {tl:TE} (hl:PE X l tl):PI X tg l (Tz X.K tl):=by
 intro pins s σ H R I h;refine B5 (hl (pins:=pins) s σ H _ I h) fun v s1 ⟨x,H1,I1,r1,q1⟩=>?_
 obtain ⟨a,e,⟨xs,hq⟩,q⟩:=q1;subst e;cases r1
 obtain ⟨Ap,rv,p,hz⟩:=I1.list hq;refine wpAny_pyIter_list p.isList ?_;refine ⟨s1.heap.objs.size,[s1.heap.objs.size],_,_,H1,rfl,I1.kept (t':=s1.toks) fun b o e=>Y2 _ e,Jo a _,⟨_,YD _ rfl,rfl,rfl⟩,fun b hb=>?_,q⟩;have e:b=s1.heap.objs.size:=by simpa using hb
 subst e;exact I1.fpOk (Y7 _) (I1.hok.fresh (Y7 _))
theorem Q6 {l:Expr} {tl:TE} (hl:PE X l tl):PI X tg l (iTup X.K tl):=by
 intro pins s σ H R I h;refine B5 (hl (pins:=pins) s σ H _ I h) fun v s1 ⟨x,H1,I1,r1,q1⟩=>?_
 obtain ⟨a,e,⟨xs,hq⟩,q⟩:=q1;subst e;cases r1
 obtain ⟨Ap,rv,p,hz⟩:=I1.tuple hq;refine wpAny_pyIter_tuple (show s1.heap.IsTuple a Ap.toArray from p) ?_;refine ⟨s1.heap.objs.size,[s1.heap.objs.size],_,_,H1,rfl,I1.kept (t':=s1.toks) fun b o e=>Y2 _ e,Hr a _,⟨_,YD _ rfl,rfl,rfl⟩,fun b hb=>?_,q⟩;have e:b=s1.heap.objs.size:=by simpa using hb
 subst e;exact I1.fpOk (Y7 _) (I1.hok.fresh (Y7 _))
theorem KY {pins:List (Addr × Obj)} {σ:St} {H:Hp} {s:Shared} {R:It->Hp->Prop} {E:Value->Shared->Prop} {lo hi:Int} {t u v:Tok} {tk:Nat} (I:An X pins σ H s) (h1:-(2 ^ 62)<=lo) (h2:lo < 2 ^ 62) (h3:-(2 ^ 62)<=hi) (h4:hi < 2 ^ 62)
  (q:R (RF lo (hi - lo).toNat) H):wpAny (model X.prog X.w) X.A (pyIter (.ref s.heap.objs.size)) (PIE X pins σ tg R) E { s with heap:=s.heap.push { cls:=.type "range",data:=.fields #[.int lo t,.int hi u,.int 1 v] },toks:=tk }:=by
 refine wpAny_pyIter_range (IsRange.new ..) (small_one h1 h2 h3 h4) ?_;have I1:An X pins σ H { s with heap:=s.heap.push { cls:=.type "range",data:=.fields #[.int lo t,.int hi u,.int 1 v] },toks:=tk }:=I.kept fun b o e=>Y2 _ e
 refine ⟨(s.heap.push { cls:=.type "range",data:=.fields #[.int lo t,.int hi u,.int 1 v] }).objs.size,[(s.heap.push { cls:=.type "range",data:=.fields #[.int lo t,.int hi u,.int 1 v] }).objs.size],_,_,H,rfl,
  I1.kept (t':=tk) fun b o e=>Y2 _ e,LO _ lo (hi - lo).toNat,?_,fun b hb=>?_,q⟩
 ·have e1:lo + ((0:Nat):Int) * 1=lo:=by simp
  have e2:(((hi - lo).toNat:Nat):Int) - ((0:Nat):Int)=Builtin.Range.rangeSize lo hi 1:=by rw [rangeSize_one]; split <;> lia
  show IsRangeIter _ _ (lo + ((0:Nat):Int) * 1) ((((hi - lo).toNat:Nat):Int) - ((0:Nat):Int)) 1
  rw [e1,e2];exact YD _ rfl
 ·have e:b=(s.heap.push { cls:=.type "range",data:=.fields #[.int lo t,.int hi u,.int 1 v] }).objs.size:=by simpa using hb
  subst e;exact I1.fpOk (Y7 _) (I1.hok.fresh (Y7 _))
def iRng1 (ta:TA):TI:=fun σ H R=>ta σ H fun vs H1=>∃ j:Int,vs=[.int j]/\-(2 ^ 62)<=j/\j < 2 ^ 62/\R (RF 0 j.toNat) H1
def iRng2 (ta:TA):TI:=fun σ H R=>ta σ H fun vs H1=>∃ i j:Int,vs=[.int i,.int j]/\(-(2 ^ 62)<=i/\i < 2 ^ 62/\-(2 ^ 62)<=j/\j < 2 ^ 62)/\R (RF i (j - i).toNat) H1
theorem C4 {a:Expr} {ta:TA} {p pos:Pos} (hg:Gl X "range") (hm:X.mg "range"=none) (ha:PA X [a] ta) (hs:starEach [a] X.env=[(false,eval a X.env)]:=by rfl):PI X tg (.Call (.Name "range" p) [a] [] pos) (iRng1 ta):=by
 intro pins s σ H R I h;refine Call_ (HV I hg hm boot_range (PyProof.Rows.callWith_type1 (B5 (ha (pos:=pos) (pins:=pins) s σ H _ I h) fun us s1 ⟨vs,H1,I1,r1,q1⟩=>?_) hs rfl));obtain ⟨j,e,q1,q2,q⟩:=q1;subst e;cases r1 with
 | cons r rr=>
  cases rr
  obtain ⟨t,rfl⟩:=r;exact call_range_1 (KY I1 (by lia) (by lia) q1 q2 (by simpa using q))
theorem O2 {a b:Expr} {ta:TA} {p pos:Pos} (hg:Gl X "range") (hm:X.mg "range"=none) (ha:PA X [a,b] ta) (hs:starEach [a,b] X.env=[(false,eval a X.env),(false,eval b X.env)]:=by rfl) (VN:starEach [b] X.env=[(false,eval b X.env)]:=by rfl) :
  PI X tg (.Call (.Name "range" p) [a,b] [] pos) (iRng2 ta):=by
 intro pins s σ H R I h;refine Call_ (HV I hg hm boot_range (PyProof.Rows.callWith_type1 (B5 (ha (pos:=pos) (pins:=pins) s σ H _ I h) fun us s1 ⟨vs,H1,I1,r1,q1⟩=>?_) (by rw [hs,VN]) (by rw [VN]; rfl)));obtain ⟨i,j,e,⟨q1,q2,q3,q4⟩,q⟩:=q1;subst e;cases r1 with
 | cons r rr=>
  cases rr with
  | cons r' rr=>
   cases rr
   obtain ⟨t,rfl⟩:=r;obtain ⟨t',rfl⟩:=r';exact call_range_2 (KY I1 q1 q2 q3 q4 q)
def tFor (wi:TI) (g:TG) (tb:TS):TS:=fun D σ H=>wi σ H fun J H1=>∃ W:Nat->Nat->St->Hp->Prop,(∃ m,W 0 m σ H1)/\∀ i m σ H,W i m σ H ->
 (J.stop i H/\D.nx σ H)\/(J.go i H/\∃ N:St->Hp->Prop,(∀ Av H',N Av H'->∃ m',m' < m/\W (i + 1) m' Av H')/\∀ x H',J.yld i H x H'->g x σ H' fun Ay H2=>tb { D with nx:=N,ct:=N,bk:=D.nx } Ay H2)
def Dw (fp:List Addr) (h:Heap):List (Addr × Obj):=fp.filterMap fun b=>(h.get? b).map fun o=>(b,o)
theorem AZ {fp:List Addr} {h:Heap} {b:Addr} {o:Obj} (hb:b ∈ fp) (e:h.get? b=some o):(b,o) ∈ Dw fp h:=bo.mpr ⟨b,hb,by rw [e]; rfl⟩
theorem O9 {fp:List Addr} {h:Heap} {p:Addr × Obj} (hp:p ∈ Dw fp h):p.1 ∈ fp/\h.get? p.1=some p.2:=by
 obtain ⟨b,hb,e⟩:=bo.mp hp;cases q:h.get? b with
 | none=>rw [q] at e; cases e
 | some o=>
  rw [q] at e;have e':(b,o)=p:=YM.inj e;subst e';exact ⟨hb,q⟩
theorem An.pinned {pins:List (Addr × Obj)} {σ:St} {H:Hp} {s:Shared} {fp:List Addr} (I:An X pins σ H s) (hf:∀ b ∈ fp,Eg X pins H b) (ho:∀ b ∈ fp,∃ o,s.heap.get? b=some o/\∀ v,o.data ≠ .cell v):An X (pins ++ Dw fp s.heap) σ H s:=
 I.pins_of fun p hp=>(YR.mp hp).elim (fun z=>I.pin p (YH _ z)) fun z=>by
  obtain ⟨hb,e⟩:=O9 z;obtain ⟨f0,f1,f2,_⟩:=hf p.1 hb;obtain ⟨o,e',d⟩:=ho p.1 hb;rw [e] at e'; cases e';exact ⟨e,f0,f1,f2,d⟩
theorem An.unpinned {pins pl:List (Addr × Obj)} {σ:St} {H:Hp} {s:Shared} (I:An X (pins ++ pl) σ H s):An X pins σ H s:=I.pins_of fun p hp=>I.pin p (YH _ (Z1 _ hp))
theorem Bs {iter:Expr} {body:List Stmt} {wi:TI} {g:TG} {tb:TS} {pos:Pos} (hp:PassesOwn (model X.prog X.w) X.A X.env X.xe) (hc:X.calm=true) (hi:PI X tg iter wi) (hg:PG X tg g) (hb:LC X body tb)
  (hs:∀ x,foldedSetIterable iter X.env x=pure x:=by intro _; rfl):PS X (.For tg iter body [] pos) (tFor wi g tb):=by
 intro pins s σ H D I h;refine wpAny_For (B5 (hi (pins:=pins) s σ H _ I h) fun v s1 h1=>B5 h1 fun itv s2 h2=>?_) hs;obtain ⟨it,fp,tn,J,H2,e,I2,T,ET,f2,W,⟨m0,w0⟩,turn⟩:=h2;subst e;have stat:∀ {H':Hp},(∀ b ∈ fp,H' b=none)->∀ b ∈ fp,Eg X pins H' b:=fun hn b hb=>⟨hn b hb,(f2 b hb).2⟩
 refine codeAny_forLoop_any (fun n s'=>∃ i Av H',An X pins Av H' s'/\tn i s'.heap/\(∀ b ∈ fp,H' b=none)/\W i n Av H') ?_ m0 ⟨0,σ,H2,I2,ET,fun b hb=>(f2 b hb).1,w0⟩;rintro n s3 ⟨i,Pu,H3,I3,WV,fr3,w3⟩;rcases turn i n Pu H3 w3 with ⟨stop,qn⟩ | ⟨go,N,hN,step⟩
 ·refine wpAny_passesOwn hp (B5 (T.done X rfl rfl rfl hc i (pins:=pins) s3 Pu H3 X.xe I3 (stat fr3) WV stop) fun r s4 ⟨hr,I4⟩=>?_);subst hr;exact wpAny_execs_nil ⟨Pu,H3,I4,qn⟩
 ·refine wpAny_passesOwn hp (B5 (T.item X rfl rfl rfl hc i (pins:=pins) s3 Pu H3 X.xe I3 (stat fr3) WV go) fun r s4 ⟨u,hr,h4⟩=>?_);subst hr;refine wpAny_passesOwn hp (B5 h4 fun _ s5 ⟨x,H5,I5,r5,y5,WU,fr5⟩=>?_);have I5':=I5.pinned (stat fr5) (T.obj _ _ WU);refine wpAny_passesOwn hp (B5 (hg s5 Pu H5 x u _ I5' r5 (step x H5 y5)) fun _ s6 ⟨σ6,H6,I6,q6⟩=>?_);refine wpAny_passesOwn hp (B5 (hb s6 σ6 H6 _ I6 q6) fun f s7 q7=>?_);have again:∀ {Eh:St} {H7:Hp},An X (pins ++ Dw fp s5.heap) Eh H7 s7->N Eh H7->∃ m,m < n/\∃ i Av H',An X pins Av H' s7/\tn i s7.heap/\(∀ b ∈ fp,H' b=none)/\W i m Av H':=fun {Eh H7} I7 n7=>by
   obtain ⟨m',hm,w7⟩:=hN Eh H7 n7;refine ⟨m',hm,i + 1,Eh,H7,I7.unpinned,T.keep _ _ _ WU fun b hb o e=>(I7.pin (b,o) (YH _ (YH _ (AZ hb e)))).1,fun b hb=>?_,w7⟩;obtain ⟨o,e,d⟩:=T.obj _ _ WU b hb;exact (I7.pin (b,o) (YH _ (YH _ (AZ hb e)))).2.1
  cases f with
  | next=>obtain ⟨Eh,H7,I7,n7⟩:=q7; exact again I7 n7
  | cont=>obtain ⟨Eh,H7,I7,n7⟩:=q7; exact again I7 n7
  | brk=>obtain ⟨Eh,H7,I7,q7⟩:=q7; exact ⟨Eh,H7,I7.unpinned,q7⟩
  | ret v=>obtain ⟨x7,Eh,H7,I7,r7,q7⟩:=q7; exact ⟨x7,Eh,H7,I7.unpinned,r7,q7⟩
end
theorem FO {K:Y3} {a:Addr} {xs:List V} {g:TG} {tb:TS} {D:ED} {σ:St} {H:Hp} (Pv:Nat->St->Hp->Prop) (h0:Pv 0 σ H) (hl:∀ i σ H,i<=xs.length->Pv i σ H->AB K H a xs)
  (hs:∀ i x σ H,xs[i]? = some x->Pv i σ H->g x σ H fun Ay H2=>tb { D with nx:=Pv (i + 1),ct:=Pv (i + 1),bk:=D.nx } Ay H2) (hd:∀ σ H,Pv xs.length σ H->D.nx σ H) :
  ∃ W:Nat->Nat->St->Hp->Prop,(∃ m,W 0 m σ H)/\∀ i m σ H,W i m σ H ->
   ((RG K a).stop i H/\D.nx σ H)\/((RG K a).go i H/\∃ N:St->Hp->Prop,(∀ Av H',N Av H'->∃ m',m' < m/\W (i + 1) m' Av H')/\∀ x H',(RG K a).yld i H x H'->g x σ H' fun Ay H2=>tb { D with nx:=N,ct:=N,bk:=D.nx } Ay H2):=by
 refine ⟨fun i m σ H=>m=xs.length - i/\i<=xs.length/\Pv i σ H,⟨xs.length,by simp,Zd _,h0⟩,?_⟩;rintro i m σ H ⟨rfl,hi,p⟩;have q:=hl i σ H hi p;by_cases B0:i < xs.length
 ·refine .inr ⟨⟨xs,xs[i],q,by simp [B0]⟩,Pv (i + 1),fun Av H' p'=>⟨xs.length - (i + 1),by lia,rfl,B0,p'⟩,fun x H' y=>?_⟩;obtain ⟨e,y⟩:=y;subst e;exact hs i x σ _ (y xs q) p
 ·have e:i=xs.length:=by lia
  subst e;exact .inl ⟨⟨xs,q,Y7 _⟩,hd σ H p⟩
theorem NA {K:Y3} {a:Addr} {xs:List V} {g:TG} {tb:TS} {D:ED} {σ:St} {H:Hp} (Pv:Nat->St->Hp->Prop) (h0:Pv 0 σ H) (hl:∀ i σ H,i<=xs.length->Pv i σ H->A7 K H a xs)
  (hs:∀ i x σ H,xs[i]? = some x->Pv i σ H->g x σ H fun Ay H2=>tb { D with nx:=Pv (i + 1),ct:=Pv (i + 1),bk:=D.nx } Ay H2) (hd:∀ σ H,Pv xs.length σ H->D.nx σ H) :
  ∃ W:Nat->Nat->St->Hp->Prop,(∃ m,W 0 m σ H)/\∀ i m σ H,W i m σ H ->
   ((Pl K a).stop i H/\D.nx σ H)\/((Pl K a).go i H/\∃ N:St->Hp->Prop,(∀ Av H',N Av H'->∃ m',m' < m/\W (i + 1) m' Av H')/\∀ x H',(Pl K a).yld i H x H'->g x σ H' fun Ay H2=>tb { D with nx:=N,ct:=N,bk:=D.nx } Ay H2):=by
 refine ⟨fun i m σ H=>m=xs.length - i/\i<=xs.length/\Pv i σ H,⟨xs.length,by simp,Zd _,h0⟩,?_⟩;rintro i m σ H ⟨rfl,hi,p⟩;have q:=hl i σ H hi p;by_cases B0:i < xs.length
 ·refine .inr ⟨⟨xs,xs[i],q,by simp [B0]⟩,Pv (i + 1),fun Av H' p'=>⟨xs.length - (i + 1),by lia,rfl,B0,p'⟩,fun x H' y=>?_⟩;obtain ⟨e,y⟩:=y;subst e;exact hs i x σ _ (y xs q) p
 ·have e:i=xs.length:=by lia
  subst e;exact .inl ⟨⟨xs,q,Y7 _⟩,hd σ H p⟩
theorem CV {lo:Int} {n:Nat} {g:TG} {tb:TS} {D:ED} {σ:St} {H:Hp} (Pv:Nat->St->Hp->Prop) (h0:Pv 0 σ H)
  (hs:∀ i σ H,i < n->Pv i σ H->g (.int (lo + i)) σ H fun Ay H2=>tb { D with nx:=Pv (i + 1),ct:=Pv (i + 1),bk:=D.nx } Ay H2) (hd:∀ σ H,Pv n σ H->D.nx σ H) :
  ∃ W:Nat->Nat->St->Hp->Prop,(∃ m,W 0 m σ H)/\∀ i m σ H,W i m σ H ->
   ((RF lo n).stop i H/\D.nx σ H)\/((RF lo n).go i H/\∃ N:St->Hp->Prop,(∀ Av H',N Av H'->∃ m',m' < m/\W (i + 1) m' Av H')/\∀ x H',(RF lo n).yld i H x H'->g x σ H' fun Ay H2=>tb { D with nx:=N,ct:=N,bk:=D.nx } Ay H2):=by
 refine ⟨fun i m σ H=>m=n - i/\i<=n/\Pv i σ H,⟨n,by simp,Zd _,h0⟩,?_⟩;rintro i m σ H ⟨rfl,hi,p⟩;by_cases B0:i < n
 ·refine .inr ⟨B0,Pv (i + 1),fun Av H' p'=>⟨n - (i + 1),by lia,rfl,B0,p'⟩,fun x H' y=>?_⟩;obtain ⟨e,y⟩:=y;subst e y;exact hs i σ _ B0 p
 ·have e:i=n:=by lia
  subst e;exact .inl ⟨Y7 _,hd σ H p⟩
abbrev R2:=V->V->Hp->VK->Prop
def En (X:Cx) (f:Value->Value->Sem Value) (r:R2):Prop:=
 ∀ ⦃pins:List (Addr × Obj)⦄ (s:Shared) (σ:St) (H:Hp) (x y:V) (v u:Value) (Q:VK),An X pins σ H s->A3 x v->A3 y u->r x y H Q ->
  wpAny (model X.prog X.w) X.A (f v u) (EP X pins σ Q) X.xe s
def Bl (X:Cx) (f:Value) (r:List V->Hp->VK->Prop):Prop:=
 ∀ ⦃pins:List (Addr × Obj)⦄ (s:Shared) (σ:St) (H:Hp) (xs:List V) (us:List Value) (Q:VK),An X pins σ H s->A4 xs us->r xs H Q ->
  wpAny (model X.prog X.w) X.A (call f us) (EP X pins σ Q) X.xe s
def TruR (X:Cx) (r:V->Hp->(Bool->Hp->Prop)->Prop):Prop:=
 ∀ ⦃pins:List (Addr × Obj)⦄ (s:Shared) (σ:St) (H:Hp) (x:V) (v:Value) (Q:Bool->Hp->Prop),An X pins σ H s->A3 x v->r x H Q ->
  wpAny (model X.prog X.w) X.A (truthy v) (TP X pins σ Q) X.xe s
def tOp (r:R2) (ta tb:TE):TE:=fun σ H Q=>ta σ H fun x H1=>tb σ H1 fun y H2=>r x y H2 Q
def rI (C:Int->Int->Prop) (g:Int->Int->V):R2:=fun x y H Q=>∃ i j,x=.int i/\y=.int j/\C i j/\Q (g i j) H
def Tq (g:Int->Int->V):R2:=fun x y H Q=>∃ i j,x=.int i/\y=.int j/\Q (g i j) H
section
variable {X:Cx} {a b c:Expr} {ta tb tc:TE} {pos:Pos}
theorem UT (ha:PE X a ta) (hb:PE X b tb) {pins:List (Addr × Obj)} {s:Shared} {σ:St} {H:Hp} {R:V->V->Hp->Prop} (I:An X pins σ H s)
  (h:ta σ H fun x H1=>tb σ H1 fun y H2=>R x y H2) {Q:Value->Shared->Prop} {f:Value->Value->Sem Value}
  (hf:∀ v u s2 x y H2,An X pins σ H2 s2->A3 x v->A3 y u->R x y H2->wpAny (model X.prog X.w) X.A (f v u) Q X.xe s2) :
  wpAny (model X.prog X.w) X.A (eval a X.env) (fun v AN=>wpAny (model X.prog X.w) X.A (eval b X.env) (fun u El=>wpAny (model X.prog X.w) X.A (f v u) Q X.xe El) X.xe AN) X.xe s:=by
 refine B5 (ha (pins:=pins) s σ H _ I h) fun v s1 ⟨x,H1,I1,r1,q1⟩=>?_
 refine B5 (hb (pins:=pins) s1 σ H1 _ I1 q1) fun u s2 ⟨y,H2,I2,r2,q2⟩=>?_
 exact hf v u s2 x y H2 I2 r1 r2 q2
theorem Aw {op:Operator} {r:R2} (ho:En X (binaryOp op) r) (ha:PE X a ta) (hb:PE X b tb):PE X (.BinOp a op b pos) (tOp r ta tb):=by
 intro pins s σ H Q I h;exact wpAny_BinOp (UT ha hb I h fun v u s2 x y H2 I2 rx ry q=>ho (pins:=pins) s2 σ H2 x y v u Q I2 rx ry q)
theorem opI {f:Value->Value->Sem Value} {C:Int->Int->Prop} {g:Int->Int->Int}
  (rule:∀ (i j:Int) (t u:Tok) (s:Shared) (Q:Value->Shared->Prop) (E:Value->Shared->Prop),C i j->Q (.int (g i j) s.toks) { s with toks:=s.toks + 1 }->wpAny (model X.prog X.w) X.A (f (.int i t) (.int j u)) Q E s) :
  En X f (rI C fun i j=>.int (g i j)):=by
 intro pins s σ H x y v u Q I rx ry h;obtain ⟨i,j,rfl,rfl,hc,q⟩:=h;obtain ⟨t,rfl⟩:=rx;obtain ⟨t',rfl⟩:=ry;exact rule i j t t' s _ _ hc ⟨.int (g i j),H,I.tok _,⟨_,rfl⟩,q⟩
theorem opI0 {f:Value->Value->Sem Value} {g:Int->Int->Int}
  (rule:∀ (i j:Int) (t u:Tok) (s:Shared) (Q:Value->Shared->Prop) (E:Value->Shared->Prop),Q (.int (g i j) s.toks) { s with toks:=s.toks + 1 }->wpAny (model X.prog X.w) X.A (f (.int i t) (.int j u)) Q E s) :
  En X f (Tq fun i j=>.int (g i j)):=by
 intro pins s σ H x y v u Q I rx ry h;obtain ⟨i,j,rfl,rfl,q⟩:=h;obtain ⟨t,rfl⟩:=rx;obtain ⟨t',rfl⟩:=ry;exact rule i j t t' s _ _ ⟨.int (g i j),H,I.tok _,⟨_,rfl⟩,q⟩
theorem Si {f:Value->Value->Sem Value} {g:Int->Int->Bool}
  (rule:∀ (i j:Int) (t u:Tok) (s:Shared) (Q:Value->Shared->Prop) (E:Value->Shared->Prop),Q (.bool (g i j)) s->wpAny (model X.prog X.w) X.A (f (.int i t) (.int j u)) Q E s) :
  En X f (Tq fun i j=>.bl (g i j)):=by
 intro pins s σ H x y v u Q I rx ry h;obtain ⟨i,j,rfl,rfl,q⟩:=h;obtain ⟨t,rfl⟩:=rx;obtain ⟨t',rfl⟩:=ry;exact rule i j t t' s _ _ ⟨.bl (g i j),H,I,rfl,q⟩
def CDiv (i j:Int):Prop:=0 < j/\j < 1073741824
def CPow (i j:Int):Prop:=0<=j/\j<=1000000/\i.natAbs < 2 ^ 64
def Vb (i j:Int):Prop:=(-(2 ^ 64) < i/\i < 2 ^ 64)\/(-(2 ^ 64) < j/\j < 2 ^ 64)
theorem Vb.ok {i j:Int} (h:Vb i j):IntMulOk i j:=by
 rcases h with ⟨h1,h2⟩ | ⟨h1,h2⟩
 ·exact .of_left (intBits_le_64 h1 h2)
 ·exact .of_right (intBits_le_64 h1 h2)
theorem Bi:En X (binaryOp .Add) (Tq fun i j=>.int (i + j)):=opI0 fun _ _ _ _ _ _ _ q=>add_int q
theorem Ki:En X (binaryOp .Sub) (Tq fun i j=>.int (i - j)):=opI0 fun _ _ _ _ _ _ _ q=>sub_int q
theorem DT:En X (binaryOp .Mult) (rI Vb fun i j=>.int (i * j)):=opI fun _ _ _ _ _ _ _ hc q=>mul_int q hc.ok
theorem Nk:En X (binaryOp .FloorDiv) (rI CDiv fun i j=>.int (i / j)):=opI fun i j _ _ _ _ _ hc q=>by
 have h1:(0:Int) < j:=hc.1;have h2:j < 1073741824:=hc.2;exact floordiv_int (by lia) (by rw [Int.fdiv_eq_ediv_of_nonneg i (by lia)]; exact q) (.inl (PyProof.noPylong_small (by lia)))
theorem DV:En X (binaryOp .Mod) (rI (fun _ j=>0 < j) fun i j=>.int (i % j)):=opI fun i j _ _ _ _ _ hc q=>by
 have h1:(0:Int) < j:=hc;exact mod_int' (by lia) (by rw [Int.fmod_eq_emod_of_nonneg i (by lia)]; exact q)
theorem Uv:En X (binaryOp .Pow) (rI CPow fun i j=>.int (i ^ j.toNat)):=opI fun _ _ _ _ _ _ _ hc q=>pow_int_small hc.1 hc.2.1 hc.2.2 q
end
def Ue:V->V->Bool
 | .non,.non=>true | .non,.int _=>true | .int _,.non=>true | .non,.bl _=>true | .bl _,.non=>true | .non,.str _=>true | .str _,.non=>true
 | .int _,.int _=>true | .bl _,.bl _=>true | .str _,.str _=>true | .byt _,.byt _=>true
 | .int _,.str _=>true | .str _,.int _=>true | .bl _,.str _=>true | .str _,.bl _=>true
 | _,_=>false
def rEq:R2:=fun x y H Q=>Ue x y=true/\Q (.bl (decide (x=y))) H
def rNe:R2:=fun x y H Q=>Ue x y=true/\Q (.bl (!decide (x=y))) H
theorem NF {i j:Int}:decide (V.int i=V.int j)=(i == j):=by
 rw [Z7];simp
theorem Rm {i j:Bool}:decide (V.bl i=V.bl j)=(i == j):=by
 rw [Z7];simp
theorem ND {i j:Str}:decide (V.str i=V.str j)=(i == j):=by
 rw [Z7];simp
theorem NG {i j:Array UInt8}:decide (V.byt i=V.byt j)=(i.toList == j.toList):=by
 rw [Z7];cases i
 cases j
 simp
section
variable {X:Cx} {a b c:Expr} {ta tb tc:TE} {pos:Pos}
theorem AU {pins:List (Addr × Obj)} {σ:St} {H:Hp} {s:Shared} {Q:VK} {k k':Bool} (I:An X pins σ H s) (q:Q (.bl k) H) (e:k=k'):EP X pins σ Q (.bool k') s:=by
 subst e;exact ⟨.bl k,H,I,rfl,q⟩
theorem Nm:En X (compareOp .Eq) rEq:=by
 intro pins s σ H x y v u Q I rx ry h;obtain ⟨hs,q⟩:=h;cases x with
 | non=>
  cases rx
  cases y with
  | non=>cases ry; exact PySem.EqNone.eq_none_none (AU I q (by simp))
  | bl j=>cases ry; exact PySem.EqNone.eq_none_bool (AU I q (by simp))
  | int j=>obtain ⟨t',rfl⟩:=ry; exact PySem.EqNone.eq_none_int (AU I q (by simp))
  | str j=>obtain ⟨t',rfl⟩:=ry; exact PySem.EqNone.eq_none_str (AU I q (by simp))
  | _=>exact absurd (show false=true from hs) YI
 | bl i=>
  cases rx
  cases y with
  | non=>cases ry; exact PySem.EqNone.eq_bool_none (AU I q (by simp))
  | bl j=>cases ry; exact eq_bool (AU I q Rm)
  | str j=>obtain ⟨t',rfl⟩:=ry; exact PySem.EqMixed.eq_bool_str (AU I q (by simp))
  | _=>exact absurd (show false=true from hs) YI
 | int i=>
  obtain ⟨t,rfl⟩:=rx;cases y with
  | non=>cases ry; exact PySem.EqNone.eq_int_none (AU I q (by simp))
  | int j=>obtain ⟨t',rfl⟩:=ry; exact eq_int (AU I q NF)
  | str j=>obtain ⟨t',rfl⟩:=ry; exact PySem.EqMixed.eq_int_str (AU I q (by simp))
  | _=>exact absurd (show false=true from hs) YI
 | str i=>
  obtain ⟨t,rfl⟩:=rx;cases y with
  | non=>cases ry; exact PySem.EqNone.eq_str_none (AU I q (by simp))
  | bl j=>cases ry; exact PySem.EqMixed.eq_str_bool (AU I q (by simp))
  | int j=>obtain ⟨t',rfl⟩:=ry; exact PySem.EqMixed.eq_str_int (AU I q (by simp))
  | str j=>obtain ⟨t',rfl⟩:=ry; exact eq_str (AU I q ND)
  | _=>exact absurd (show false=true from hs) YI
 | byt i=>
  obtain ⟨t,rfl⟩:=rx;cases y with
  | byt j=>obtain ⟨t',rfl⟩:=ry; exact PySem.W.eq_bytes (AU I q NG)
  | _=>exact absurd (show false=true from hs) YI
 | _=>cases y <;> exact absurd (show false=true from hs) YI
theorem Ni:En X (compareOp .NotEq) rNe:=by
 intro pins s σ H x y v u Q I rx ry h;obtain ⟨hs,q⟩:=h;cases x with
 | non=>
  cases rx
  cases y with
  | non=>cases ry; exact PySem.EqNone.ne_none_none (AU I q (by simp))
  | bl j=>cases ry; exact PySem.EqNone.ne_none_bool (AU I q (by simp))
  | int j=>obtain ⟨t',rfl⟩:=ry; exact PySem.EqNone.ne_none_int (AU I q (by simp))
  | str j=>obtain ⟨t',rfl⟩:=ry; exact PySem.EqNone.ne_none_str (AU I q (by simp))
  | _=>exact absurd (show false=true from hs) YI
 | bl i=>
  cases rx
  cases y with
  | non=>cases ry; exact PySem.EqNone.ne_bool_none (AU I q (by simp))
  | bl j=>cases ry; exact ne_bool (AU I q (congrArg not Rm))
  | str j=>obtain ⟨t',rfl⟩:=ry; exact PySem.EqMixed.ne_bool_str (AU I q (by simp))
  | _=>exact absurd (show false=true from hs) YI
 | int i=>
  obtain ⟨t,rfl⟩:=rx;cases y with
  | non=>cases ry; exact PySem.EqNone.ne_int_none (AU I q (by simp))
  | int j=>obtain ⟨t',rfl⟩:=ry; exact ne_int (AU I q (congrArg not NF))
  | str j=>obtain ⟨t',rfl⟩:=ry; exact PySem.EqMixed.ne_int_str (AU I q (by simp))
  | _=>exact absurd (show false=true from hs) YI
 | str i=>
  obtain ⟨t,rfl⟩:=rx;cases y with
  | non=>cases ry; exact PySem.EqNone.ne_str_none (AU I q (by simp))
  | bl j=>cases ry; exact PySem.EqMixed.ne_str_bool (AU I q (by simp))
  | int j=>obtain ⟨t',rfl⟩:=ry; exact PySem.EqMixed.ne_str_int (AU I q (by simp))
  | str j=>obtain ⟨t',rfl⟩:=ry; exact ne_str (AU I q (congrArg not ND))
  | _=>exact absurd (show false=true from hs) YI
 | byt i=>
  obtain ⟨t,rfl⟩:=rx;cases y with
  | byt j=>obtain ⟨t',rfl⟩:=ry; exact PySem.W.ne_bytes (AU I q (congrArg not NG))
  | _=>exact absurd (show false=true from hs) YI
 | _=>cases y <;> exact absurd (show false=true from hs) YI
theorem J1:En X (compareOp .Lt) (Tq fun i j=>.bl (decide (i < j))):=Si fun _ _ _ _ _ _ _ q=>lt_int q
theorem Le:En X (compareOp .LtE) (Tq fun i j=>.bl (decide (i<=j))):=Si fun _ _ _ _ _ _ _ q=>le_int q
theorem Tu:En X (compareOp .Gt) (Tq fun i j=>.bl (decide (j < i))):=Si fun _ _ _ _ _ _ _ q=>gt_int q
theorem op_ge:En X (compareOp .GtE) (Tq fun i j=>.bl (decide (j<=i))):=Si fun _ _ _ _ _ _ _ q=>ge_int q
theorem BF (b:Expr) {op:CmpOp} (h:op ≠ .In:=by decide) (h2:op ≠ .NotIn:=by decide):behindInMarks op b=false:=by
 have e1:(op == CmpOp.In)=false:=by cases op <;> first | rfl | exact absurd rfl h
 have e2:(op == CmpOp.NotIn)=false:=by cases op <;> first | rfl | exact absurd rfl h2
 cases b <;> simp [behindInMarks,e1,e2]
theorem Hl {op:CmpOp} {r:R2} (ho:En X (compareOp op) r) (ha:PE X a ta) (hb:PE X b tb) (hm:behindInMarks op b=false):PE X (.Compare a [op] [b] pos) (tOp r ta tb):=by
 intro pins s σ H Q I h;exact wpAny_Compare1 (UT ha hb I h fun v u s2 x y H2 I2 rx ry q=>ho (pins:=pins) s2 σ H2 x y v u Q I2 rx ry q) hm
def Tj (t:TE):TT:=fun σ H Q=>t σ H fun x H'=>∃ k,x=.bl k/\Q k H'
theorem By {op:CmpOp} {r:R2} (ho:En X (compareOp op) r) (ha:PE X a ta) (hb:PE X b tb) (hm:behindInMarks op b=false):PT X (.Compare a [op] [b] pos) (Tj (tOp r ta tb)):=by
 intro pins s σ H Q I h;refine wpAny_isTrue_Compare1 (B5 (ha (pins:=pins) s σ H _ I h) fun v s1 ⟨x,H1,I1,r1,q1⟩=>B5 (hb (pins:=pins) s1 σ H1 _ I1 q1) fun u s2 ⟨y,H2,I2,r2,q2⟩=>
  B5 (ho (pins:=pins) s2 σ H2 x y v u _ I2 r1 r2 q2) fun c s3 ⟨z,H3,I3,r3,k,e,q3⟩=>?_) hm
 subst e;cases r3
 exact wpAny_truthy_bool ⟨H3,I3,q3⟩
def LP (r r':R2) (ta tb tc:TE):TE:=fun σ H Q=>ta σ H fun x H1=>tb σ H1 fun y H2=>r x y H2 fun z H3=>∃ k,z=.bl k /\
 (if k=true then tc σ H3 fun w' H4=>r' y w' H4 Q else Q (.bl false) H3)
theorem QB {op Ux:CmpOp} {r r':R2} (ho:En X (compareOp op) r) (IY:En X (compareOp Ux) r') (ha:PE X a ta) (hb:PE X b tb) (hc:PE X c tc)
  (hm:lastMarks [op,Ux] [b,c]=false:=by with_unfolding_all rfl):PE X (.Compare a [op,Ux] [b,c] pos) (LP r r' ta tb tc):=by
 intro pins s σ H Q I h;refine Compare_chain (B5 (ha (pins:=pins) s σ H _ I h) fun v s1 ⟨x,H1,I1,r1,q1⟩=>chain_link (B5 (hb (pins:=pins) s1 σ H1 _ I1 q1) fun u s2 ⟨y,H2,I2,r2,q2⟩=>
  B5 (ho (pins:=pins) s2 σ H2 x y v u _ I2 r1 r2 q2) fun d s3 ⟨z,H3,I3,r3,k,e,q3⟩=>?_)) hm
 subst e;cases r3
 refine wpAny_truthy_bool ?_;cases k with
 | false=>exact ite_ff ⟨.bl false,H3,I3,rfl,q3⟩
 | true=>exact ite_tt (chain_last (B5 (hc (pins:=pins) s3 σ H3 _ I3 q3) fun w' s4 ⟨z',H4,I4,r4,q4⟩=>IY (pins:=pins) s4 σ H4 y z' u w' Q I4 r2 r4 q4))
theorem HC {op Ux:CmpOp} {r r':R2} (ho:En X (compareOp op) r) (IY:En X (compareOp Ux) r') (ha:PE X a ta) (hb:PE X b tb) (hc:PE X c tc)
  (hm:lastMarks [op,Ux] [b,c]=false:=by with_unfolding_all rfl):PT X (.Compare a [op,Ux] [b,c] pos) (Tj (LP r r' ta tb tc)):=by
 intro pins s σ H Q I h;refine isTrue_chain (B5 (ha (pins:=pins) s σ H _ I h) fun v s1 ⟨x,H1,I1,r1,q1⟩=>test_link (B5 (hb (pins:=pins) s1 σ H1 _ I1 q1) fun u s2 ⟨y,H2,I2,r2,q2⟩=>
  B5 (ho (pins:=pins) s2 σ H2 x y v u _ I2 r1 r2 q2) fun d s3 ⟨z,H3,I3,r3,k,e,q3⟩=>?_)) hm
 subst e;cases r3
 refine wpAny_truthy_bool ?_;cases k with
 | false=>
  obtain ⟨k',e',q'⟩:=q3;cases e'
  exact ite_ff ⟨H3,I3,q'⟩
 | true=>
  refine ite_tt (test_last (B5 (hc (pins:=pins) s3 σ H3 _ I3 q3) fun w' s4 ⟨z',H4,I4,r4,q4⟩=>B5 (IY (pins:=pins) s4 σ H4 y z' u w' _ I4 r2 r4 q4) fun d' s5 ⟨z2,H5,I5,r5,k2,e2,q5⟩=>?_));subst e2;cases r5
  exact wpAny_truthy_bool ⟨H5,I5,q5⟩
def TruV (K:Y3) (x:V) (H:Hp) (k:Bool):Prop:=
 match x with
 | .non=>k=false
 | .bl b=>k=b
 | .int i=>k=(i != 0)
 | .str y=>y.length<=sizeLine/\k=((y.length:Int) != 0)
 | .byt y=>y.size<=sizeLine/\k=((y.size:Int) != 0)
 | .ref p=>(∃ xs,AB K H p xs/\k = !xs.isEmpty)\/(∃ xs,A7 K H p xs/\k = !xs.isEmpty)\/∃ kvs,H p=some (.dK kvs)/\k = !kvs.isEmpty
 | _=>False
theorem Ml {κ:Type} {kvs:List (κ × V)} {vs:List (κ × Value)} (r:KV kvs vs):(!vs.isEmpty) = !kvs.isEmpty:=by
 cases r <;> rfl
theorem Ib {xs:List V} {Ap:List Value} (r:A4 xs Ap):(!Ap.toArray.isEmpty) = !xs.isEmpty:=by
 cases r <;> simp
theorem Fm:(sizeLine:Nat) < 2 ^ 63:=by rw [sizeLine_eq]; decide
theorem TR:TruR X (fun x H Q=>∃ k,TruV X.K x H k/\Q k H):=by
 intro pins s σ H x v Q I rx h;obtain ⟨k,e,q⟩:=h;have hl:=Fm;have hs:sizeLine=16777216:=sizeLine_eq;cases x with
 | non=>
  cases rx
  have e':k=false:=e;subst e';exact truthy_none ⟨H,I,q⟩
 | bl b=>
  cases rx
  have e':k=b:=e;subst e';exact wpAny_truthy_bool ⟨H,I,q⟩
 | int i=>
  obtain ⟨t,rfl⟩:=rx;have e':k=(i != 0):=e;subst e';exact PySem.P.truthy_int ⟨H,I,q⟩
 | str y=>
  obtain ⟨t,rfl⟩:=rx;obtain ⟨hy,e'⟩:y.length<=sizeLine/\k=((y.length:Int) != 0):=e;subst e';exact PySem.P.truthy_str (by lia) ⟨H,I.tok _,q⟩
 | byt y=>
  obtain ⟨t,rfl⟩:=rx;obtain ⟨hy,e'⟩:y.size<=sizeLine/\k=((y.size:Int) != 0):=e;subst e';exact PySem.W.truthy_bytes (by lia) ⟨H,I.tok _,q⟩
 | ref p=>
  cases rx
  have e':(∃ xs,AB X.K H p xs/\k = !xs.isEmpty)\/(∃ xs,A7 X.K H p xs/\k = !xs.isEmpty)\/∃ kvs,H p=some (.dK kvs)/\k = !kvs.isEmpty:=e;rcases e' with ⟨xs,hx,e'⟩ | ⟨xs,hx,e'⟩ | ⟨kvs,hx,e'⟩
  ·subst e';obtain ⟨Ap,r,pl,hz⟩:=I.list hx;have hlen:=r.length;exact wpAny_truthy_list pl.isList (by simp only [YN]; lia) ⟨H,I.tok _,by rw [Ib r]; exact q⟩
  ·subst e';obtain ⟨Ap,r,pl,hz⟩:=I.tuple hx;have hlen:=r.length;exact truthy_tuple pl (by simp only [YN]; lia) ⟨H,I.tok _,by rw [Ib r]; exact q⟩
  ·subst e';obtain ⟨hz,hS,vs,r,m⟩:kvs.length<=sizeLine/\(p == sysModules)=false/\∃ vs,KV kvs vs/\s.heap.DictOf (AO X.prog X.w) p vs:=I.hok p _ hx;have hlen:kvs.length=vs.length:=Paired.length r;exact wpAny_truthy_dict hS m (by lia) ⟨H,I.tok _,by rw [Ml r]; exact q⟩
 | _=>exact (show False from e).elim
theorem Q0 (ha:PE X a ta) (he:∀ whole,isTrue a X.env whole=(do let v <- whole; standAt a.pos; holding [v] (truthy v))) :
  PT X a (fun σ H Q=>ta σ H fun x H'=>∃ k,TruV X.K x H' k/\Q k H'):=by
 intro pins s σ H Q I h;exact isTrue_plain (B5 (ha (pins:=pins) s σ H _ I h) fun v s1 ⟨x,H1,I1,r1,q1⟩=>TR (pins:=pins) s1 σ H1 x v Q I1 r1 q1) (he _)
theorem DW:En X (binaryOp .Add) (fun x y H Q=>∃ i j,x=.str i/\y=.str j/\i.length + j.length<=sizeLine/\Q (.str (i ++ j)) H):=by
 intro pins s σ H x y v u Q I rx ry h;obtain ⟨i,j,rfl,rfl,hz,q⟩:=h;obtain ⟨t,rfl⟩:=rx;obtain ⟨t',rfl⟩:=ry;exact add_str (fun t' tk=>⟨.str (i ++ j),H,I.tok _,⟨_,rfl⟩,q⟩) hz
theorem BO {x:V} {us:List Value} (r:A4 [x] us):∃ u,us=[u]/\A3 x u:=by
 cases r with
 | cons r1 r2=>cases r2; exact ⟨_,rfl,r1⟩
theorem MB {x y:V} {us:List Value} (r:A4 [x,y] us):∃ u w',us=[u,w']/\A3 x u/\A3 y w':=by
 cases r with
 | cons r1 r2=>
  cases r2 with
  | cons r3 r4=>cases r4; exact ⟨_,_,rfl,r1,r3⟩
theorem Ro:Bl X (.builtin "abs") (fun xs H Q=>∃ i,xs=[.int i]/\Q (.int (if i < 0 then -i else i)) H):=by
 intro pins s σ H xs us Q I r h;obtain ⟨i,rfl,q⟩:=h;obtain ⟨u,rfl,t,rfl⟩:=BO r;exact call_abs_int fun u tk=>⟨.int (if i < 0 then -i else i),H,I.tok _,⟨_,rfl⟩,q⟩
theorem Pk (hc:X.calm=true):Bl X (.builtin "max") (fun xs H Q=>∃ i j,xs=[.int i,.int j]/\Q (.int (if j > i then j else i)) H):=by
 intro pins s σ H xs us Q I r h;obtain ⟨i,j,rfl,q⟩:=h;obtain ⟨u,w',rfl,⟨t,rfl⟩,⟨t',rfl⟩⟩:=MB r;refine max_two_ints (I.ok.hd hc) fun h' tk k=>⟨_,H,I.kept k,?_,q⟩
 by_cases hj:j > i
 ·rw [if_pos hj,if_pos hj]; exact ⟨_,rfl⟩
 ·rw [if_neg hj,if_neg hj]; exact ⟨_,rfl⟩
theorem Gq (hc:X.calm=true):Bl X (.builtin "min") (fun xs H Q=>∃ i j,xs=[.int i,.int j]/\Q (.int (if j < i then j else i)) H):=by
 intro pins s σ H xs us Q I r h;obtain ⟨i,j,rfl,q⟩:=h;obtain ⟨u,w',rfl,⟨t,rfl⟩,⟨t',rfl⟩⟩:=MB r;refine min_two_ints (I.ok.hd hc) fun h' tk k=>⟨_,H,I.kept k,?_,q⟩
 by_cases hj:j < i
 ·rw [if_pos hj,if_pos hj]; exact ⟨_,rfl⟩
 ·rw [if_neg hj,if_neg hj]; exact ⟨_,rfl⟩
theorem EN:Bl X (.type "int") (fun xs H Q=>(∃ i,xs=[.int i]/\Q (.int i) H)\/∃ k,xs=[.bl k]/\Q (.int (if k then 1 else 0)) H):=by
 intro pins s σ H xs us Q I r h;rcases h with ⟨i,rfl,q⟩ | ⟨k,rfl,q⟩
 ·obtain ⟨u,rfl,t,rfl⟩:=BO r;exact call_int_int ⟨.int i,H,I,⟨_,rfl⟩,q⟩
 ·obtain ⟨u,rfl,r1⟩:=BO r;cases r1
  exact call_int_bool ⟨.int (if k then 1 else 0),H,I.tok _,⟨_,rfl⟩,q⟩
end
structure UY (h:Heap) (x dx C:Addr) (mA:Str->Option Value):Prop where
 obj:h.get? x=some (b0 C dx)
 ns:h.Ns1 dx mA
 ne:dx ≠ x
theorem OF {h:Heap} {dx:Addr} {mA:Str->Option Value} (n:h.Ns1 dx mA):∃ od,h.get? dx=some od/\∀ name,bE name od=some (mA name):=by
 obtain ⟨o,es,ep,ho,hd,hk,_,hm⟩:=n;refine ⟨o,ho,fun name=>?_⟩;have e:=hm name;unfold nsFind findBy at e;rw [<-Array.find?_toList] at e;unfold bE;rw [hd];dsimp only;split
 ·rename_i y q
  rw [q] at e;exact congrArg some e
 ·rename_i q
  rw [q] at e;have a:es.toList.any (·.refKey)=false:=by
   rw [List.any_eq_false];intro y hy;obtain ⟨z,t,hkey⟩:=hk y (bR.mp hy);simp [DictEntry.refKey,hkey]
  have a':¬ es.toList.any (·.refKey)=true:=by rw [a]; exact YI
  rw [if_neg a'];exact congrArg some e
theorem UY.look {h:Heap} {x dx C:Addr} {mA:Str->Option Value} (I:UY h x dx C mA):∃ od,PySem.W.InstAt h x (b0 C dx) C (some od)/\∀ name,bE name od=some (mA name):=
 let ⟨od,ho,hl⟩:=OF I.ns
 ⟨od,⟨I.obj,rfl,rfl,ho⟩,hl⟩
section
variable {prog:Program} {w:World} {A:Around} {E:Value->Shared->Prop} {s:Shared} {K:Y3} {x dx C f:Addr} {mA:Str->Option Value} {name:Str} {v:Value}
end
theorem Gu.some_of {v:V} {o:Option Value} (r:Gu (some v) o):∃ u,o=some u/\A3 v u:=by
 cases o with
 | none=>exact (show False from r).elim
 | some u=>exact ⟨u,rfl,r⟩
section
variable {P:Program} {w:World} {H H':Hp} {h h':Heap} {a C dx:Addr} {fs Vo:List (Str × V)}
theorem S3 (hok:F1 P w H h) (e:H a=some (.ins C dx fs)):∃ mA,UY h a dx C mA/\(∀ f,Gu (fs.lookup f) (mA f))/\PySem.Within mA (fs.map (·.1))/\fs.length<=1000/\H dx=some (.own a):=by
 obtain ⟨d,z,ne,ob,mA,n,r,q⟩:=(show A5 P w H h a (.ins C dx fs) from hok a _ e)
 exact ⟨mA,⟨ob,n,ne⟩,r,q,z,d⟩
end
structure Cls (K:Y3) (C:Addr):Prop where
 pg:cy K C Str.empty=true
 hd:PySem.W.hasDictIn K C=true
 po:PySem.W.plainOver K C=true
 sa:cF K (.ref C) "__setattr__"=some (some (.builtin "object.__setattr__"))
theorem Cls.get {K:Y3} {C:Addr} (c:Cls K C) (f:Str):cy K C f=true:=c.pg
section
variable {X:Cx} {pins:List (Addr × Obj)} {σ:St} {H:Hp} {s:Shared} {a C dx:Addr} {fs:List (Str × V)} {f:Str} {v:V} {A:Around} {E:Value->Shared->Prop}
end
section
variable {X:Cx} {o e value:Expr} {f:Str} {pos pos' tpos:Pos} {ta tv:TE}
end
section
variable {X:Cx} {pins:List (Addr × Obj)} {σ:St} {H:Hp} {s:Shared} {A:Around} {E:Value->Shared->Prop} {Q:Value->Shared->Prop} {c:Value} {b:Bool}
inductive EB (K:Y3) (H:Hp):V->Value->Prop where
 | non:EB K H .non (.type "NoneType")
 | bl (x:Bool):EB K H (.bl x) (.type "bool")
 | int (i:Int):EB K H (.int i) (.type "int")
 | str (x:Str):EB K H (.str x) (.type "str")
 | flt (x:UInt64):EB K H (.flt x) (.type "float")
 | lst {a:Addr} {xs:List V} (e:H a=some (.lst xs)):EB K H (.ref a) (.type "list")
 | frz {a:Addr} {o:Obj} {xs:List V} (e:H a=some (.frz o (.lst xs))):EB K H (.ref a) (.type "list")
 | tup {a:Addr} {xs:List V} (e:H a=some (.tup xs)):EB K H (.ref a) (.type "tuple")
 | dK {a:Addr} {kvs:List (A6 × V)} (e:H a=some (.dK kvs)):EB K H (.ref a) (.type "dict")
 | dT {a:Addr} {kvs:List (List A6 × V)} (e:H a=some (.dT kvs)):EB K H (.ref a) (.type "dict")
 | ins {a C dx:Addr} {fs:List (Str × V)} (e:H a=some (.ins C dx fs)) (cl:Cls K C) (ha:cF K (.ref C) "__class__"=some (some (.builtin "object.__class__")))
   (hn:PySem.W.specialIn K (.builtin "object.__class__") "__get__"=some (some (.builtin "getset_descriptor.__get__"))) (htk:PySem.W.takesIn K (.builtin "object.__class__")=some true)
   (hm:PySem.W.mroIn K C (.type "object")=some true):EB K H (.ref a) (.ref C)
theorem OK {x:V} {u t:Value} (I:An X pins σ H s) (rx:A3 x u) (ty:EB X.K H x t) (e:aM X.K t c=some b) (h:∀ tk,Q (.bool b) { s with toks:=tk }) :
  wpAny (model X.prog X.w) A (call (.builtin "isinstance") [u,c]) Q E s:=by
 cases ty with
 | non=>cases (show u=Value.none from rx); exact Z4 PySem.W.kitx_none I.kIn True.intro e (fun z=>nomatch z) h
 | bl y=>cases (show u=Value.bool y from rx); exact Z4 PySem.W.kitx_bool I.kIn True.intro e (fun z=>nomatch z) h
 | int i=>obtain ⟨t,q⟩:=(show ∃ t,u=Value.int i t from rx); cases q; exact Z4 PySem.W.kitx_int I.kIn True.intro e (fun z=>nomatch z) h
 | str y=>obtain ⟨t,q⟩:=(show ∃ t,u=Value.str y t from rx); cases q; exact Z4 PySem.W.kitx_str I.kIn True.intro e (fun z=>nomatch z) h
 | flt y=>obtain ⟨t,q⟩:=(show ∃ t,u=Value.float y t from rx); cases q; exact Z4 PySem.W.kitx_float I.kIn True.intro e (fun z=>nomatch z) h
 | @lst a xs ea=>
  cases (show u=Value.ref a from rx)
  obtain ⟨_,_,n,_,h1⟩:=(show A5 X.prog X.w H s.heap a (.lst xs) from I.hok a _ ea)
  exact Z4 bX I.kIn ⟨_,h1,rfl⟩ e (fun z=>nomatch z) h
 | @frz a ob xs ea=>
  cases (show u=Value.ref a from rx)
  obtain ⟨_,_,_,n,_,h1⟩:=(show A5 X.prog X.w H s.heap a (.frz ob (.lst xs)) from I.hok a _ ea)
  exact Z4 bX I.kIn ⟨_,h1,rfl⟩ e (fun z=>nomatch z) h
 | @tup a xs ea=>
  cases (show u=Value.ref a from rx)
  obtain ⟨_,_,_,p,_⟩:=(show A5 X.prog X.w H s.heap a (.tup xs) from I.hok a _ ea)
  obtain ⟨o,h1,h2,_⟩:=p;exact Z4 PySem.W.kitx_tuple I.kIn ⟨o,h1,h2⟩ e (fun z=>nomatch z) h
 | @dK a kvs ea=>
  cases (show u=Value.ref a from rx)
  obtain ⟨_,_,vs,_,p⟩:=(show A5 X.prog X.w H s.heap a (.dK kvs) from I.hok a _ ea)
  obtain ⟨o,es,ep,h1,h2,_⟩:=p;exact Z4 bY I.kIn ⟨o,h1,h2.1⟩ e (fun z=>nomatch z) h
 | @dT a kvs ea=>
  cases (show u=Value.ref a from rx)
  obtain ⟨_,_,xs,_,o,es,ep,h1,h2,_⟩:=(show A5 X.prog X.w H s.heap a (.dT kvs) from I.hok a _ ea)
  exact Z4 bY I.kIn ⟨o,h1,h2.1⟩ e (fun z=>nomatch z) h
 | @ins a C dx fs ea cl ha hn htk hm=>
  cases (show u=Value.ref a from rx)
  obtain ⟨mA,O,_⟩:=S3 I.hok ea;obtain ⟨od,J,_⟩:=O.look;exact Z4 (PySem.W.kitx_own (cl.get _) cl.hd ha hn htk hm) I.kIn J e (fun z=>nomatch z) h
end
structure Ee (k:Nat) (A:Around):Prop where
 hd:A.handled=none
 dp:A.depth + 3 * k + 5 < recursionLimit
 un:A.units + 16 * k + 200 < cLine
 gd:A.guards=some []:=by rfl
theorem Ee.mono {j k:Nat} {A:Around} (r:Ee k A) (h:j<=k):Ee j A:=⟨r.hd,by have:=r.dp; lia,by have:=r.un; lia,r.gd⟩
theorem Ee.deeper {k:Nat} {A:Around} (r:Ee (k + 1) A) (env:Env):Ee k (A.deeper env):=
 ⟨r.hd,by have:=r.dp; show A.depth + 1 + 3 * k + 5 < _; lia,by have:=r.un; show A.units + 3 + 16 * k + 200 < _; lia,r.gd⟩
theorem Ee.depth {k:Nat} {A:Around} (r:Ee k A):A.depth < recursionLimit:=by have:=r.dp; lia
theorem Ee.units {k:Nat} {A:Around} (r:Ee k A):A.units + 64 < cLine:=by have:=r.un; lia
def tNil:TA:=fun _ H Q=>Q [] H
def tCons (ta:TE) (tr:TA):TA:=fun σ H Q=>ta σ H fun x H1=>tr σ H1 fun xs H2=>Q (x :: xs) H2
section
variable {X:Cx} {e:Expr} {es:List Expr} {te:TE} {t:TA} {pos:Pos}
theorem Ac:PA X [] tNil:=fun _ _ _ _ H Q I h=>Calls.spliced_nil ⟨[],H,I,.nil,h⟩
theorem Aa (ha:PE X e te) (hr:PA X es t) (hs:starEach (e :: es) X.env=(false,eval e X.env) :: starEach es X.env:=by rfl):PA X (e :: es) (tCons te t):=by
 intro pos pins s σ H Q I h;rw [hs];show wpAny _ _ (spliced ((false,eval e X.env) :: backTo pos (starEach es X.env))) _ _ s
 refine Calls.spliced_cons (B5 (ha (pins:=pins) s σ H _ I h) fun u s1 ⟨x,H1,I1,r1,q1⟩=>?_);exact B5 (hr (pos:=pos) (pins:=pins) s1 σ H1 _ I1 q1) fun us s2 ⟨xs,H2,I2,r2,q2⟩=>⟨x :: xs,H2,I2,.cons r1 r2,q2⟩
def tTup (t:TA):TE:=fun σ H Q=>t σ H fun xs H1=>xs.length<=sizeLine/\∀ p,H1 p=none->Q (.ref p) (upd H1 p (.tup xs))
def tLst (t:TA):TE:=fun σ H Q=>t σ H fun xs H1=>xs.length<=sizeLine/\∀ p,H1 p=none->Q (.ref p) (upd H1 p (.lst xs))
theorem A9 {x1} (h:PA X es t):PE X (.Tuple es x1 pos) (tTup t):=by
 intro pins s σ H Q I hq;refine wpAny_Tuple_spliced (B5 (h (pos:=pos) (pins:=pins) s σ H _ I hq) fun us s1 ⟨xs,H1,I1,r,z,q⟩=>⟨by rw [<-r.length]; exact z,?_⟩);have hf:H1 s1.heap.objs.size=none:=I1.hok.fresh (Y7 _);refine ⟨.ref s1.heap.objs.size,upd H1 s1.heap.objs.size (.tup xs),I1.laid (t':=s1.toks) (fun b u e=>Y2 _ e) (Y7 _) ?_,rfl,q _ hf⟩;exact ⟨z,us,r,⟨_,YD _ rfl,rfl,_,rfl⟩,Mz.new rfl rfl⟩
theorem B9 (h:PA X es t):PE X (.List es pos) (tLst t):=by
 intro pins s σ H Q I hq;refine wpAny_List_spliced (B5 (h (pos:=pos) (pins:=pins) s σ H _ I hq) fun us s1 ⟨xs,H1,I1,r,z,q⟩=>⟨by rw [<-r.length]; exact z,?_⟩);have hf:H1 s1.heap.objs.size=none:=I1.hok.fresh (Y7 _);refine ⟨.ref s1.heap.objs.size,upd H1 s1.heap.objs.size (.lst xs),I1.laid (t':=s1.toks) (fun b u e=>Y2 _ e) (Y7 _) ?_,rfl,q _ hf⟩;exact ⟨z,us,0,r,YD _ rfl⟩
end
abbrev Sp:=List V->Hp->VK->XK->Prop
abbrev R4:=List Env->Hp->Shared->XK->Value->Shared->Prop
structure Te (P:Program) (w:World) (K:Y3) (mg:Str->Option Value) (base:Heap) (A:Around) (outer:List Env) (s:Shared) (H:Hp):Prop where
 frames:A.frames=some outer
 mod:Mod K mg base
 bs:∀ b o,base.get? b=some o->s.heap.get? b=some o/\H b=none
 bsz:base.objs.size<=s.heap.objs.size
 funs:s.heap.FunFrames base outer
 frf:∀ b ∈ Rc outer,H b=none
 hok:F1 P w H s.heap
 bare:AllBare s.gens
def CE (outer:List Env) (P:Program) (w:World) (H:Hp) (s:Shared) (Q:VK) (u:Value) (s':Shared):Prop:=
 ∃ v H',s'.os=s.os/\AllBare s'.gens/\Un (Rc outer) [] H H' s.heap s'.heap/\F1 P w H' s'.heap/\A3 v u/\Q v H'
def CR (CX:R4) (outer:List Env) (P:Program) (w:World) (H:Hp) (s:Shared) (Q:VK) (E:XK) (r:Result) (s':Shared):Prop:=
 match r with
 | .ok (.ret u)=>CE outer P w H s Q u s'
 | .ok _=>False
 | .error e=>CX outer H s E e s'
structure AJ (P:Program) (w:World) (K:Y3) (mg:Str->Option Value) (base:Heap) (CX:R4) (k:Nat) (f:Addr) (fd:FuncData) (ps:List Str) (sp:Sp):Prop where
 len:∀ vs H Q E,sp vs H Q E->vs.length=ps.length
 run:∀ (A:Around) (outer:List Env) (s:Shared) (H:Hp) (args:Args) (us:List Value) (vs:List V) (Q:VK) (E:XK),Ee k A->Te P w K mg base A outer s H->BindsTo s fd args (ps.zip us)->A4 vs us->sp vs H Q E ->
  codeAny (model P w) A (.call (.ref f) args) (CR CX outer P w H s Q E) s
section
variable {X:Cx} {pins:List (Addr × Obj)} {σ:St} {H:Hp} {s s':Shared}
theorem An.env0 (I:An X pins σ H s):Te X.prog X.w X.K X.mg X.base X.A X.stack s H:=
 ⟨I.ok.frames,I.ok.mod,I.bs,YU I.ok.bsz I.sz,I.stack,I.stkFree,I.hok,I.bare⟩
theorem An.after {Q:VK} {u:Value} (I:An X pins σ H s) (h:CE X.stack X.prog X.w H s Q u s'):EP X pins σ Q u s':=by
 obtain ⟨v,H',os,bare,un,hok,r,q⟩:=h;obtain ⟨hh,g,d,t,Xh⟩:=s';obtain rfl:Xh=s.os:=os;exact ⟨v,H',I.call (h':=hh) (g':=g) (d':=d) (t':=t) (ch:=[]) un hok bare (fun b z=>absurd z (by simp)),r,q⟩
end
def tCall (sp:Sp) (dvs:List V) (E:XK) (t:TA):TE:=fun σ H Q=>t σ H fun vs H1=>sp (vs ++ dvs) H1 Q E
def GJ (K:Y3) (fd:FuncData) (ps:List Str) (ds:List Value):Prop:=
 ∀ (s:Shared) (us:List Value),K.In s.heap->(us ++ ds).length=ps.length->BindsTo s fd ⟨us,[]⟩ (ps.zip (us ++ ds))
theorem GJ.all {K:Y3} {fd:FuncData} {ps:List Str} (h:∀ us:List Value,us.length=ps.length->bindArgs fd ⟨us,[]⟩=pure (ps.zip us)):GJ K fd ps []:=fun s us _ hl=>by
 rw [Zq] at hl ⊢;exact .of_eq (h us hl)
def M6 (CX:R4) (X:Cx) (E:XK):Prop:=∀ (pins:List (Addr × Obj)) (σ:St) (H:Hp) (s:Shared) (e:Value) (s':Shared),An X pins σ H s->CX X.stack H s E e s'->X.xe e s'
section
variable {X:Cx} {CX:R4} {k:Nat} {f C:Addr} {fd:FuncData} {ps:List Str} {sp:Sp} {dvs:List V} {ds:List Value} {E:XK} {x m:Str} {p pos apos:Pos} {e o:Expr} {es:List Expr} {ta:TE} {t:TA}
theorem Uj {pins:List (Addr × Obj)} {σ:St} {H:Hp} {s:Shared} {Q:VK} {us:List Value} {vs:List V} (F:AJ X.prog X.w X.K X.mg X.base CX k f fd ps sp) (hr:Ee k X.A) (hb:GJ X.K fd ps ds) (hd:A4 dvs ds) (hx:M6 CX X E)
  (I:An X pins σ H s) (r:A4 vs us) (h:sp (vs ++ dvs) H Q E):wpAny (model X.prog X.w) X.A (call (.ref f) us) (EP X pins σ Q) X.xe s:=by
 have r2:A4 (vs ++ dvs) (us ++ ds):=r.append hd;have hl:(us ++ ds).length=ps.length:=by rw [<-r2.length]; exact F.len _ _ _ _ h
 refine wpAny_call (codeAny_mono (F.run X.A X.stack s H ⟨us,[]⟩ (us ++ ds) (vs ++ dvs) Q E hr I.env0 (hb s us I.kIn hl) r2 h) fun r s' hq=>?_);cases r with
 | error e=>exact hx pins σ H s e s' I hq
 | ok fl=>
  cases fl with
  | ret u=>exact I.after hq
  | next=>exact False.elim hq
  | brk=>exact False.elim hq
  | cont=>exact False.elim hq
theorem Aj (F:AJ X.prog X.w X.K X.mg X.base CX k f fd ps sp) (hr:Ee k X.A) (hg:Gl X x) (hm:X.mg x=some (.ref f)) (hk:aN X.K (.ref f)=true) (hb:GJ X.K fd ps ds) (hd:A4 dvs ds) (hx:M6 CX X E)
  (ha:PA X (e :: es) t) (hdb:(x == ("__debug__":Str))=false:=by decide) (he:starEach (e :: es) X.env=(false,eval e X.env) :: starEach es X.env:=by rfl) (hpl:(backTo pos (starEach es X.env)).any (·.1)=false:=by rfl) :
  PE X (.Call (.Name x p) (e :: es) [] pos) (tCall sp dvs E t):=by
 intro pins s σ H Q I h;refine wpAny_Call_Name_kw (Nv I hg hm ?_ hdb);refine PySem.W.callWith_K (h₀:=X.base) I.ok.mod.kin hk (B5 (ha (pos:=pos) (pins:=pins) s σ H _ I h) fun us s1 ⟨vs,H1,I1,r,q⟩=>⟨I1.kIn,?_⟩) he hpl;exact Uj F hr hb hd hx I1 r q
end
section
variable {X:Cx} {CX:R4} {k:Nat} {f C:Addr} {fd:FuncData} {ps ks:List Str} {sp:Sp} {E:XK} {x m:Str} {p pos apos kpos:Pos} {e o:Expr} {es:List Expr} {kws:List Keyword} {te ta:TE} {t tk:TA} {nm:Option Str}
variable {g:List Value->List Value->List Value} {gV:List V->List V->List V}
end
structure AD (N P:List Str) (sc:Scope):Prop where
 kind:sc.kind=.function
 co:sc.isCoroutine=false
 gen:sc.isGenerator=false
 nd:N.Nodup
 pre:N.take P.length=P
 par:∀ x ∈ P,sc.names.lookup x=some .local\/sc.names.lookup x=some .cell
 nofree:∀ y ∈ sc.names,y.2 ≠ .free
theorem JJ {kindOf:Str->Option NameKind} {x:Str}:∀ {binds:List (Str × Value)} {m:Str->Option Value},(∀ v,(x,v) ∉ binds)->bindL kindOf binds m x=m x
 | [],_,_=>rfl
 | (n,v) :: r,m,h=>by
  unfold bindL;rw [JJ fun w hw=>h w (YT _ hw)];split
  ·have:x ≠ n:=by rintro rfl; exact h v YO
   simp [this]
  ·rfl
theorem JL {kindOf:Str->Option NameKind} {x:Str}:∀ {binds:List (Str × Value)} {m:Str->Option Value},(∀ v,(x,v) ∉ binds)->bindC kindOf binds m x=m x
 | [],_,_=>rfl
 | (n,v) :: r,m,h=>by
  unfold bindC;rw [JL fun w hw=>h w (YT _ hw)];split
  ·rfl
  ·have:x ≠ n:=by rintro rfl; exact h v YO
   simp [this]
theorem JK {kindOf:Str->Option NameKind} {x:Str} {v:Value}:∀ {P:List Str} {vs:List Value} {i:Nat} {m:Str->Option Value},P.Nodup->P[i]? = some x->vs[i]? = some v->kindOf x=some .local ->
  bindL kindOf (P.zip vs) m x=some v
 | [],_,_,_,_,h,_,_=>by simp at h
 | _ :: _,[],_,_,_,_,h,_=>by simp at h
 | p :: P,w :: vs,0,m,nd,h1,h2,hk=>by
  simp at h1 h2; subst h1; subst h2;show bindL kindOf ((p,w) :: P.zip vs) m p=_
  unfold bindL;rw [JJ fun v hv=>(Zl.mp nd).1 (bG hv).1,if_pos hk];simp
 | p :: P,w :: vs,i + 1,m,nd,h1,h2,hk=>by
  show bindL kindOf ((p,w) :: P.zip vs) m x=_
  unfold bindL;exact JK (i:=i) (Zl.mp nd).2 (by simpa using h1) (by simpa using h2) hk
theorem JM {kindOf:Str->Option NameKind} {x:Str} {v:Value}:∀ {P:List Str} {vs:List Value} {i:Nat} {m:Str->Option Value},P.Nodup->P[i]? = some x->vs[i]? = some v->kindOf x ≠ some .local ->
  bindC kindOf (P.zip vs) m x=some v
 | [],_,_,_,_,h,_,_=>by simp at h
 | _ :: _,[],_,_,_,_,h,_=>by simp at h
 | p :: P,w :: vs,0,m,nd,h1,h2,hk=>by
  simp at h1 h2; subst h1; subst h2;show bindC kindOf ((p,w) :: P.zip vs) m p=_
  unfold bindC;rw [JL fun v hv=>(Zl.mp nd).1 (bG hv).1,if_neg hk];simp
 | p :: P,w :: vs,i + 1,m,nd,h1,h2,hk=>by
  show bindC kindOf ((p,w) :: P.zip vs) m x=_
  unfold bindC;exact JM (i:=i) (Zl.mp nd).2 (by simpa using h1) (by simpa using h2) hk
def start (N:List Str) (vs:List V):St:=vs.map some ++ cW (N.length - vs.length) none
def Jb (CX:R4) (P:Program) (w:World) (K:Y3) (mg:Str->Option Value) (base:Heap) (N:List Str) (qual:Str) (scope:Scope) (f:Addr) (cd:Value) (A:Around) (outer:List Env) (s:Shared) (H:Hp) (E:XK):Cx where
 prog:=P
 w:=w
 K:=K
 mg:=mg
 base:=base
 A:=A.deeper (envOfC qual scope s.heap.objs.size f cd)
 N:=N
 s₀:=s
 H₀:=H
 env:=envOfC qual scope s.heap.objs.size f cd
 outer:=outer
 stack:=envOfC qual scope s.heap.objs.size f cd :: outer
 ex:=[]
 calm:=true
 fn:=fun _=>true
 pn:=[]
 xe:=fun e s'=>wpAny (model P w) (A.deeper (envOfC qual scope s.heap.objs.size f cd)) (leaving (envOfC qual scope s.heap.objs.size f cd) e) (fun _ Ui=>CX outer H s E e Ui) (fun e' Ui=>CX outer H s E e' Ui) s'
theorem L7 {sc:Scope} {n:Nat} {x:Str} (h:sc.names.lookup x=some .cell):∃ c,(cellsFrom n sc.names []).lookup x=some c:=by
 have q:=bI sc.names n [] (.inl h);exact ay.mp q
theorem OL {CX:R4} {P:Program} {w:World} {K:Y3} {mg:Str->Option Value} {base:Heap} {N ps:List Str} {qual:Str} {scope:Scope} {f:Addr} {cd:Value} {A:Around} {outer:List Env} {s s1:Shared} {H:Hp} {E:XK} {us:List Value} {vs:List V}
  (S:AD N ps scope) (hd:A.handled=none) (e0:Te P w K mg base A outer s H) (hl:vs.length=ps.length) (r:A4 vs us)
  (x:InCallC s s.heap.objs.size (bindL (envOfC qual scope s.heap.objs.size f cd).kindOf (ps.zip us) fun _=>none) (cellsFrom (s.heap.objs.size + 1) scope.names []) (bindC (envOfC qual scope s.heap.objs.size f cd).kindOf (ps.zip us) fun _=>none) s1) :
  An (Jb CX P w K mg base N qual scope f cd A outer s H E) [] (start N vs) H s1:=by
 have hpl:ps.length<=N.length:=by have:=congrArg Z5 S.pre; rw [Zf] at this; lia
 obtain ⟨h1,tk,rfl,hk⟩:=x.done;have noA:∀ b:Addr,b ∉ (Jb CX P w K mg base N qual scope f cd A outer s H E).ex:=fun b z=>absurd (show b ∈ ([]:List Addr) from z) (by simp)
 refine ⟨⟨e0.mod,S.kind,rfl,rfl,Y7 _,fun y z c h1 h2=>?_,fun y hy=>?_,fun y c _ h=>?_,fun _=>hd,Around.frames_deeper e0.frames,.inr ⟨rfl,rfl⟩,fun b z=>absurd z (noA b),e0.bs,e0.bsz,fun b _ _=>noA b,fun b z=>absurd z (noA b),e0.funs,e0.frf⟩,
  rfl,e0.bare,Un.kept hk,⟨_,x.toInCall.ns,fun i y v h1 h2 h3=>?_⟩,fun y c h=>⟨_,x.cell y c h⟩,e0.hok.fresh (Y7 _),fun y c h=>?_,fun p hp=>absurd (show p ∈ ([]:List (Addr × Obj)) from hp) (by simp),e0.hok.kept hk,?_⟩
 ·exact name_of_addr x.apart (PySem.mem_of_lookup h1) (PySem.mem_of_lookup h2)
 ·have hy:scope.names.lookup y=some .cell\/scope.names.lookup y=some .free:=hy;rcases hy with hy | hy
  ·exact L7 hy
  ·exact absurd rfl (S.nofree _ (PySem.mem_of_lookup hy))
 ·exact aL (x.above y c (PySem.mem_of_lookup h))
 ·have hi:i < vs.length:=by
   unfold start at h2;by_cases hi:i < vs.length
   ·exact hi
   ·rw [Zg (by simpa using hi)] at h2;rw [List.getElem?_replicate] at h2;split at h2 <;> cases h2
  have ha:vs[i]? = some v:=by
   unfold start at h2;rw [Zi (by simpa using hi),Y9] at h2;cases e:vs[i]? with
   | none=>rw [e] at h2; cases h2
   | some a=>rw [e] at h2; cases h2; rfl
  obtain ⟨u,hu,rv⟩:=r.get ha;have hp:ps[i]? = some y:=by
   rw [<-S.pre,List.getElem?_take_of_lt (by lia)]; exact h1
  have ndP:ps.Nodup:=by rw [<-S.pre]; exact S.nd.sublist (cG _ _)
  refine ⟨u,rv,?_⟩;rcases S.par y (Y5 hp) with k | k
  ·exact .inl ⟨k,JK ndP hp hu k⟩
  ·obtain ⟨c,e⟩:=L7 (n:=s.heap.objs.size + 1) k;refine .inr ⟨.inl k,c,e,?_⟩;have q:=x.cell y c e;rw [JM ndP hp hu (by show scope.names.lookup y ≠ _; rw [k]; decide)] at q;exact q
 ·exact e0.hok.fresh (aL (x.above y c (PySem.mem_of_lookup h)))
 ·unfold start;show _=N.length
  rw [Y6,Y0,List.length_replicate];lia
theorem fn_of {CX:R4} {P:Program} {w:World} {K:Y3} {mg:Str->Option Value} {base:Heap} {k:Nat} {f:Addr} {name qual:Str} {params:Arguments} {body:List Stmt} {scope:Scope} {dV kV doc pm cdv ct oc:Value} {an od:Option Addr}
  {osl:Array (Option Value)} {N ps:List Str} {sp:Sp} (lk:K.lookup f=some ⟨oc,od,.func (ZK name qual params body scope dV kV doc pm an cdv ct),osl⟩) (hcd:aO K cdv qual=true) (S:AD N ps scope)
  (len:∀ vs H Q E,sp vs H Q E->vs.length=ps.length)
  (hbody:∀ (A:Around) (outer:List Env) (s:Shared) (H:Hp) (vs:List V) (Q:VK) (E:XK),Ee k (A.deeper (envOfC qual scope s.heap.objs.size f cdv))->sp vs H Q E ->
   ∃ t,LC (Jb CX P w K mg base N qual scope f cdv A outer s H E) body t/\t { nx:=fun _ H'=>Q .non H',rt:=Q } (start N vs) H) :
  AJ P w K mg base CX (k + 1) f (ZK name qual params body scope dV kV doc pm an cdv ct) ps sp:=by
 refine ⟨len,fun A outer s H args us vs Q E hr e0 hb r hsp=>?_⟩;have hl:=len _ _ _ _ hsp;have KX:K.In s.heap:=e0.mod.kin.keeps fun b o e=>(e0.bs b o e).1
 have lim:s.heap.NoLimit:=e0.mod.nolimit.keeps fun b o e=>(e0.bs b o e).1
 have hkind:∀ y ∈ ps.zip us,scope.names.lookup y.1=some .local\/(scope.names.lookup y.1=some .cell/\((cellsFrom (s.heap.objs.size + 1) scope.names []).lookup y.1).isSome=true):=fun ⟨n,v⟩ hy=>by
  rcases S.par n (bG hy).1 with q | q
  ·exact .inl q
  ·exact .inr ⟨q,bI _ _ _ (.inl q)⟩
 refine codeAny_call_function hr.depth (KX _ _ lk) rfl S.co S.gen rfl (PySem.W.codeRec_of KX hcd) (hb _ _ _ _ ?_);refine wpAny_newFunctionEnv_cells S.kind hkind fun env he s1 x=>?_
 subst he;refine ⟨lim.keeps x.toInCall.keep,codeAny_func ?_⟩;obtain ⟨t,ht,hq⟩:=hbody A outer s H vs Q E (hr.deeper _) hsp;have I:An (Jb CX P w K mg base N qual scope f cdv A outer s H E) [] (start N vs) H s1:=OL S hr.hd e0 hl r x;refine wpAny_mono (ht s1 (start N vs) H _ I hq) (fun fl s' hs=>?_) fun e s' hs=>hs
 have fin:∀ {Av:St} {H':Hp} {v:V} {u:Value},An (Jb CX P w K mg base N qual scope f cdv A outer s H E) [] Av H' s'->A3 v u->Q v H'->CE outer P w H s Q u s':=
  fun {Av H' v u} J rv q=>⟨v,H',J.os,J.bare,J.base,J.hok,rv,q⟩
 cases fl with
 | ret u=>
  obtain ⟨v,Av,H',J,rv,q⟩:=hs;exact fin J rv q
 | next=>
  obtain ⟨Av,H',J,q⟩:=hs;exact fin (v:=V.non) (u:=Value.none) J rfl q
 | brk=>
  obtain ⟨_,_,_,q⟩:=hs;exact False.elim q
 | cont=>
  obtain ⟨_,_,_,q⟩:=hs;exact False.elim q
section
variable {X:Cx} {x:Str} {p pos:Pos} {e:Expr} {es:List Expr} {t:TA} {id T:String} {r:List V->Hp->VK->Prop}
def tCB (r:List V->Hp->VK->Prop) (t:TA):TE:=fun σ H Q=>t σ H fun vs H1=>r vs H1 Q
theorem Ak (hc:Bl X (.builtin id) r) (hg:Gl X x) (hm:X.mg x=none) (hv:bootBuiltins x=some (.builtin id)) (ha:PA X (e :: es) t) (hn:x ≠ "__name__":=by decide) (hdb:(x == ("__debug__":Str))=false:=by decide)
  (he:starEach (e :: es) X.env=(false,eval e X.env) :: starEach es X.env:=by rfl) (hpl:(backTo pos (starEach es X.env)).any (·.1)=false:=by rfl):PE X (.Call (.Name x p) (e :: es) [] pos) (tCB r t):=by
 intro pins s σ H Q I h;refine wpAny_Call_Name_kw (HV I hg hm hv ?_ hn hdb);exact PyProof.Rows.callWith_builtin1 (B5 (ha (pos:=pos) (pins:=pins) s σ H _ I h) fun us s1 ⟨vs,H1,I1,r1,q1⟩=>hc (pins:=pins) s1 σ H1 vs us Q I1 r1 q1) he hpl
theorem A1 (hc:Bl X (.type T) r) (hg:Gl X x) (hm:X.mg x=none) (hv:bootBuiltins x=some (.type T)) (ha:PA X (e :: es) t) (hn:x ≠ "__name__":=by decide) (hdb:(x == ("__debug__":Str))=false:=by decide)
  (he:starEach (e :: es) X.env=(false,eval e X.env) :: starEach es X.env:=by rfl) (hpl:(backTo pos (starEach es X.env)).any (·.1)=false:=by rfl):PE X (.Call (.Name x p) (e :: es) [] pos) (tCB r t):=by
 intro pins s σ H Q I h;refine wpAny_Call_Name_kw (HV I hg hm hv ?_ hn hdb);exact PyProof.Rows.callWith_type1 (B5 (ha (pos:=pos) (pins:=pins) s σ H _ I h) fun us s1 ⟨vs,H1,I1,r1,q1⟩=>hc (pins:=pins) s1 σ H1 vs us Q I1 r1 q1) he hpl
end
end L2
namespace HT
open PySem PyProof.Rows
section
open PySem.SeqAt
open PySem.AutoSeq1 (wpAny_loadPart')
open PySem.MeetsSeq PySem.MeetsSeq2 PySem.MeetsSeq3
end
section
variable {prog:Program} {w:World} {A:Around} {E:Value->Shared->Prop} {s:Shared}
theorem cat_tup {t b:Addr} {vs ws:List Value} {Q:Value->Shared->Prop} (ht:IsTup s.heap t vs.toArray) (hb:IsTup s.heap b ws.toArray) (hv:vs ≠ [])
  (h1:ws=[]->Q (.ref t) s) (h2:ws ≠ []->Q (.ref s.heap.objs.size) { s with heap:=s.heap.push { cls:=.type "tuple",data:=.seq (vs ++ ws).toArray } })
  (hsz:vs.length + ws.length<=sizeLine):wpAny (model prog w) A (binaryOp .Add (.ref t) (.ref b)) Q E s:=by
 obtain ⟨⟨cls,dd,data,sl⟩,ho,hc,n,hd⟩:=id ht;obtain ⟨⟨US,NH,data2,Pn⟩,OM,OQ,n2,hd2⟩:=id hb;simp only at hc hd OQ hd2;subst hc hd OQ hd2;have e:vs.toArray ++ ws.toArray=(vs ++ ws).toArray:=by simp
 by_cases hw:ws=[]
 ·exact concat_meets ⟨_,ho,rfl⟩ ⟨_,OM,rfl⟩ noFill_tuple_add seq_tuple_add PySem.F.slot_tuple_add PySem.F.entry_tuple_add (PySem.F.args_tuple_add_2 _ _)
   (tuple_addW1 t b vs.toArray ws.toArray n n2 dd NH sl Pn (by simpa using hv) (by simp [hw])) ⟨ho,OM,h1 hw⟩
 ·refine concat_meets ⟨_,ho,rfl⟩ ⟨_,OM,rfl⟩ noFill_tuple_add seq_tuple_add PySem.F.slot_tuple_add PySem.F.entry_tuple_add (PySem.F.args_tuple_add_2 _ _)
   (tuple_addW2 t b vs.toArray ws.toArray n n2 dd NH sl Pn (by simpa using hv) (by simpa using hw) (by rw [YN,YN]; exact hsz)) ⟨ho,OM,?_⟩
  rw [e];exact h2 hw
end
end HT
namespace L2
open PySem PySem.Spec PyProof.Rows
abbrev TO:=St->Hp->(Option Int->Hp->Prop)->Prop
def PO (X:Cx) (e:Option Expr) (t:TO):Prop:=
 ∀ ⦃pins:List (Addr × Obj)⦄ (s:Shared) (σ:St) (H:Hp) (Q:Option Int->Hp->Prop),An X pins σ H s->t σ H Q ->
  wpAny (model X.prog X.w) X.A (evalPart e X.env) (fun u s'=>∃ o H',An X pins σ H' s'/\IsPart u o/\Q o H') X.xe s
def RO:TO:=fun _ H Q=>Q none H
def tPart (t:TE):TO:=fun σ H Q=>t σ H fun x H1=>∃ i,x=.int i/\Q (some i) H1
section
variable {X:Cx} {e:Expr} {te:TE} {lo hi:Option Expr} {tl th:TO} {pos p2:Pos}
theorem Na:PO X none RO:=by
 intro pins s σ H Q I h;rw [evalPart_none];exact wpAny_pure ⟨none,H,I,.none,h⟩
theorem MZ (h:PE X e te):PO X (some e) (tPart te):=by
 intro pins s σ H Q I hw;rw [evalPart_some];refine B5 (h (pins:=pins) s σ H _ I hw) fun u s1 ⟨x,H1,I1,r1,q1⟩=>?_
 obtain ⟨i,rfl,q⟩:=q1;obtain ⟨t,rfl⟩:=r1;exact ⟨some i,H1,I1,.int i t,q⟩
def Tr (K:Y3):R2:=fun x y H Q=>∃ a b xs ys,x=.ref a/\y=.ref b/\A7 K H a xs/\A7 K H b ys/\xs ≠ []/\xs.length + ys.length<=sizeLine /\
 (ys=[]->Q (.ref a) H)/\(ys ≠ []->∀ p,H p=none->Q (.ref p) (upd H p (.tup (xs ++ ys))))
theorem A4.nil_iff {xs:List V} {us:List Value} (r:A4 xs us):us=[] ↔ xs=[]:=by
 cases r with
 | nil=>simp
 | cons _ _=>simp
theorem Sh:En X (binaryOp .Add) (Tr X.K):=by
 intro pins s σ H x y v u Q I rx ry h;obtain ⟨a,b,xs,ys,rfl,rfl,ha,hb,hx,hz,q1,q2⟩:=h;cases rx
 cases ry
 obtain ⟨Ap,r1,p1,_⟩:=I.tuple ha;obtain ⟨HY,r2,p2,_⟩:=I.tuple hb;refine HT.cat_tup p1 p2 (fun z=>hx (r1.nil_iff.mp z)) (fun z=>⟨.ref a,H,I,rfl,q1 (r2.nil_iff.mp z)⟩) (fun z=>?_) (by rw [<-r1.length,<-r2.length]; exact hz);refine ⟨.ref s.heap.objs.size,_,I.laid (t':=s.toks) (o:=.tup (xs ++ ys)) (fun b ob q=>Y2 _ q) (Y7 _) ?_,rfl,q2 (fun w=>z (r2.nil_iff.mpr w)) _ (I.hok.fresh (Y7 _))⟩;exact ⟨by rw [Y6]; exact hz,_,r1.append r2,IsTup.new _ _,Mz.new rfl rfl⟩
end
def S2 (n:Nat) (i:Int):Option Nat:=if 0<=i then (if i < n then some i.toNat else none) else if -(n:Int)<=i then some (i + n).toNat else none
def JN {α:Type} (xs:List α) (i:Int):Option α:=(S2 xs.length i).bind fun j=>xs[j]?
theorem Ku {n:Nat} {i:Int} {j:Nat} (h:S2 n i=some j):seqIndex? i n=some j/\j < n/\-(n:Int)<=i/\i < n:=by
 unfold S2 at h;by_cases h0:0<=i
 ·rw [if_pos h0] at h;by_cases h1:i < n
  ·rw [if_pos h1] at h;have e:i.toNat=j:=YM.inj h;exact ⟨by rw [seqIndex_of h0 h1,e],by lia,by lia,h1⟩
  ·rw [if_neg h1] at h; cases h
 ·rw [if_neg h0] at h;by_cases h1:-(n:Int)<=i
  ·rw [if_pos h1] at h;have e:(i + n).toNat=j:=YM.inj h;exact ⟨by rw [seqIndex_neg (by lia) h1,e],by lia,h1,by lia⟩
  ·rw [if_neg h1] at h; cases h
theorem Ho {α:Type} {xs:List α} {i:Int} {v:α} (h:JN xs i=some v):∃ j,seqIndex? i xs.length=some j/\xs[j]? = some v/\j < xs.length/\-(xs.length:Int)<=i/\i < xs.length:=by
 unfold JN at h;cases e:S2 xs.length i with
 | none=>rw [e] at h; cases h
 | some j=>
  rw [e] at h;obtain ⟨h1,h2,h3,h4⟩:=Ku e;exact ⟨j,h1,h,h2,h3,h4⟩
theorem CP {α:Type} {xs:List α} {j:Nat} {v:α} (h:xs[j]? = some v):JN xs (j:Int)=some v:=by
 have hj:j < xs.length:=(Y8.mp h).1;have e:S2 xs.length (j:Int)=some j:=by
  unfold S2;rw [if_pos (by lia),if_pos (by lia)]; simp
 unfold JN; rw [e]; exact h
def SY (b:Expr):Prop:=∀ o i,subscripted b false o i=operate [o,i] (getItem o i)
def Vt (X:Cx) (r:R2):Prop:=
 ∀ (value slice:Expr) (pins:List (Addr × Obj)) (s:Shared) (σ:St) (H:Hp) (x y:V) (v u:Value) (Q:VK),An X pins σ H s->A3 x v->A3 y u->r x y H Q ->
  subscripted slice false v u=operate [v,u] (getItem v u)->wpAny (model X.prog X.w) X.A (subscriptTail value slice v u) (EP X pins σ Q) X.xe s
def MtR (X:Cx) (id:String) (r:V->List V->Hp->VK->Prop):Prop:=
 ∀ ⦃pins:List (Addr × Obj)⦄ (s:Shared) (σ:St) (H:Hp) (x:V) (xs:List V) (v:Value) (us:List Value) (Q:VK),An X pins σ H s->A3 x v->A4 xs us->r x xs H Q ->
  wpAny (model X.prog X.w) X.A (call (.builtin id) (v :: us)) (EP X pins σ Q) X.xe s
section
variable {X:Cx} {a b:Expr} {ta tb:TE} {pos:Pos}
theorem AA {r:R2} (hr:Vt X r) (ha:PE X a ta) (hb:PE X b tb) (hs:SY b):PE X (.Subscript a b pos) (tOp r ta tb):=by
 intro pins s σ H Q I h;exact Subscript_ (UT ha hb I h fun v u s2 x y H2 I2 rx ry q=>hr a b (pins:=pins) s2 σ H2 x y v u Q I2 rx ry q (hs _ _))
def rIxL (K:Y3):R2:=fun x y H Q=>∃ p xs i v,x=.ref p/\y=.int i/\AB K H p xs/\JN xs i=some v/\Q v H
def rIxT (K:Y3):R2:=fun x y H Q=>∃ p xs i v,x=.ref p/\y=.int i/\A7 K H p xs/\JN xs i=some v/\Q v H
def rIxS:R2:=fun x y H Q=>∃ z i c,x=.str z/\y=.int i/\z.length<=sizeLine/\JN z.cps.toList i=some c/\Q (.str ⟨#[c]⟩) H
theorem Nw:Vt X (rIxL X.K):=by
 intro value slice pins s σ H x y v u Q I rx ry h hs;obtain ⟨p,xs,i,z,rfl,rfl,hq,he,q⟩:=h;cases rx
 obtain ⟨t,rfl⟩:=ry;obtain ⟨Ap,r,pl,hz⟩:=I.list hq;obtain ⟨j,h1,h2,h3,h4,h5⟩:=Ho he;obtain ⟨w,ew,Oq⟩:=r.get h2;have hl:=r.length;have hn:=Fm;have fin:EP X pins σ Q w s:=⟨z,H,I,Oq,q⟩
 by_cases h0:0<=i
 ·have hj:i.toNat=j:=by
   rw [seqIndex_of h0 h5] at h1;exact YM.inj h1
  exact item_listR pl.isList h0 (by lia) (by rw [hj]; simpa using ew) fin hs
 ·have hj:(i + (Ap.toArray.size:Int)).toNat=j:=by
   rw [seqIndex_neg (by lia) h4] at h1;rw [YN,<-hl];exact YM.inj h1
  exact subscriptTail_builtinR (x:=w) pl.isList.typeIs slot_list_getitem.lookup
   (wpAny_getItem_list_neg (Q:=fun r s'=>r=w/\EP X pins σ Q r s') pl.isList (by lia) (by rw [YN] <;> lia) (by lia) (by rw [hj]; simpa using ew) ⟨rfl,fin⟩) hs
theorem QS:Vt X (rIxT X.K):=by
 intro value slice pins s σ H x y v u Q I rx ry h hs;obtain ⟨p,xs,i,z,rfl,rfl,hq,he,q⟩:=h;cases rx
 obtain ⟨t,rfl⟩:=ry;obtain ⟨Ap,r,pl,hz⟩:=I.tuple hq;obtain ⟨j,h1,h2,h3,h4,h5⟩:=Ho he;obtain ⟨w,ew,Oq⟩:=r.get h2;have hl:=r.length;have hn:=Fm;have fin:EP X pins σ Q w s:=⟨z,H,I,Oq,q⟩
 exact subscriptTail_builtinR (x:=w) pl.typeIs slot_tuple_getitem.lookup
  (getItem_tuple (j:=j) (Q:=fun r s'=>r=w/\EP X pins σ Q r s') pl (by lia) (by lia) (by rw [YN,<-hl]; exact h1) (by simpa using ew) ⟨rfl,fin⟩) hs
theorem QT:Vt X rIxS:=by
 intro value slice pins s σ H x y v u Q I rx ry h hs;obtain ⟨z,i,c,rfl,rfl,hz,he,q⟩:=h;obtain ⟨t,rfl⟩:=rx;obtain ⟨t',rfl⟩:=ry;obtain ⟨j,h1,h2,h3,h4,h5⟩:=Ho he;have hl:z.cps.toList.length=z.length:=by simp [Str.length]
 rw [hl] at h1 h4 h5;have hn:=Fm;exact tail_any (typeIs_str s z t) slot_str_getitem.lookup (getItem_str (c:=c) (by
  have e1:decide (i < -(2 ^ 63:Int))=false:=decide_eq_false (by lia);have e2:decide (i >= 2 ^ 63)=false:=decide_eq_false (by lia);rw [e1,e2,dc]) (by rw [h1]; simpa using h2) ⟨.str ⟨#[c]⟩,H,I.tok _,⟨_,rfl⟩,q⟩) hs
theorem Mi (Ap:List Value) (n j:Nat) (u:Value):Obj.mapSeq (·.setIfInBounds j u) { cls:=.type "list",data:=.seq Ap.toArray n } = { cls:=.type "list",data:=.seq (Ap.set j u).toArray n }:=by
 simp [Obj.mapSeq]
theorem An.lst {pins:List (Addr × Obj)} {σ:St} {H:Hp} {s:Shared} {p:Addr} {xs:List V} (I:An X pins σ H s) (h:H p=some (.lst xs)) :
  ∃ (Ap:List Value) (n:Nat),A4 xs Ap/\s.heap.get? p=some { cls:=.type "list",data:=.seq Ap.toArray n }/\xs.length<=sizeLine:=by
 obtain ⟨z,Ap,n,r,e⟩:=I.hok p _ h;exact ⟨Ap,n,r,e,z⟩
theorem An.lstUpd {pins:List (Addr × Obj)} {σ:St} {H:Hp} {s:Shared} {p:Addr} {xs ys:List V} {Ap its':List Value} {n n':Nat} {f:Obj->Obj} (I:An X pins σ H s) (h:H p=some (.lst xs))
  (ho:s.heap.get? p=some { cls:=.type "list",data:=.seq Ap.toArray n }) (hf:f { cls:=.type "list",data:=.seq Ap.toArray n } = { cls:=.type "list",data:=.seq its'.toArray n' }) (r:A4 ys its') (hz:ys.length<=sizeLine) (t:Nat) :
  An X pins σ (upd H p (.lst ys)) { s with heap:=s.heap.update p f,toks:=t }:=by
 have e:(s.heap.update p f).get? p=some { cls:=.type "list",data:=.seq its'.toArray n' }:=by
  rw [Zo f ho (by rw [hf] <;> rfl),hf]
 refine I.write (x:=p) (e:=p) (by rw [h]; trivial) (.inl rfl) (fun b u hb q=>(Zm _ _ (Ne.symm hb)).trans q) ⟨_,e⟩ ?_;exact ⟨hz,its',n',r,e⟩
def rSetL:V->V->V->Hp->(Hp->Prop)->Prop:=fun o i v H Q=>∃ p xs k j,o=.ref p/\i=.int k/\H p=some (.lst xs)/\S2 xs.length k=some j/\Q (upd H p (.lst (xs.set j v)))
theorem Hw:PSet X rSetL:=by
 intro pins s σ H o i v ov iv u Q I ro ri rv h;obtain ⟨p,xs,k,j,rfl,rfl,hp,hj,q⟩:=h;cases ro
 obtain ⟨t,rfl⟩:=ri;obtain ⟨Ap,n,r,ho,hz⟩:=I.lst hp;obtain ⟨h1,h2,h3,h4⟩:=Ku hj;have hl:=r.length;have hn:=Fm;have I':An X pins σ (upd H p (.lst (xs.set j v))) { s with heap:=s.heap.update p (Obj.mapSeq (·.setIfInBounds j u)) }:=
  I.lstUpd hp ho (Mi Ap n j u) (r.set rv j) (by rw [List.length_set]; exact hz) s.toks
 by_cases h0:0<=k
 ·have hk:k.toNat=j:=by
   rw [seqIndex_of h0 h4] at h1;exact YM.inj h1
  exact PySem.W.ki_setAt ho h0 (by lia) (by rw [YN,<-hl]; exact h4) (by rw [hk]; exact ⟨_,I',q⟩)
 ·have hk:(k + (Ap.toArray.size:Int)).toNat=j:=by
   rw [seqIndex_neg (by lia) h3] at h1;rw [YN,<-hl];exact YM.inj h1
  exact PySem.W.ki_setBack ho (by lia) (by rw [YN,<-hl]; exact h3) (by lia) (by rw [hk]; exact ⟨_,I',q⟩)
def Ez:V->Bool
 | .non=>true
 | .bl _=>true
 | .int _=>true
 | .str _=>true
 | _=>false
def SK:V->V->Bool
 | .non,.non=>true
 | .bl a,.bl b=>a == b
 | .bl a,.int b=>(if a then 1 else 0) == b
 | .int a,.bl b=>a == (if b then 1 else 0)
 | .int a,.int b=>a == b
 | .str a,.str b=>a == b
 | _,_=>false
theorem UP {A:Around} {s:Shared} {y x:V} {u v:Value} (ry:A3 y u) (rx:A3 x v) (fy:Ez y=true) (fx:Ez x=true):SeqAt.EqAt A s u v (SK y x):=by
 cases y with
 | non=>
  cases ry
  cases x with
  | non=>cases rx; exact SeqAt.EqAt.same _
  | bl b=>cases rx; exact SeqAt.EqAt.none_bool b
  | int b=>obtain ⟨t,rfl⟩:=rx; exact SeqAt.EqAt.none_int b t
  | str b=>obtain ⟨t,rfl⟩:=rx; exact SeqAt.EqAt.none_str b t
  | _=>exact absurd (show false=true from fx) YI
 | bl a=>
  cases ry
  cases x with
  | non=>cases rx; exact SeqAt.EqAt.bool_none a
  | bl b=>cases rx; exact SeqAt.EqAt.bool_bool a b
  | int b=>obtain ⟨t,rfl⟩:=rx; exact SeqAt.EqAt.bool_int a b t
  | str b=>obtain ⟨t,rfl⟩:=rx; exact SeqAt.EqAt.bool_str a b t
  | _=>exact absurd (show false=true from fx) YI
 | int a=>
  obtain ⟨t',rfl⟩:=ry;cases x with
  | non=>cases rx; exact SeqAt.EqAt.int_none a t'
  | bl b=>cases rx; exact SeqAt.EqAt.int_bool a t' b
  | int b=>obtain ⟨t,rfl⟩:=rx; exact SeqAt.EqAt.int_int a t' b t
  | str b=>obtain ⟨t,rfl⟩:=rx; exact SeqAt.EqAt.int_str a t' b t
  | _=>exact absurd (show false=true from fx) YI
 | str a=>
  obtain ⟨t',rfl⟩:=ry;cases x with
  | non=>cases rx; exact SeqAt.EqAt.str_none a t'
  | bl b=>cases rx; exact SeqAt.EqAt.str_bool a t' b
  | int b=>obtain ⟨t,rfl⟩:=rx; exact SeqAt.EqAt.str_int a t' b t
  | str b=>obtain ⟨t,rfl⟩:=rx; exact SeqAt.EqAt.str_str a t' b t
  | _=>exact absurd (show false=true from fx) YI
 | _=>exact absurd (show false=true from fy) YI
def Mv (x:V) (u:Value):Bool:=match u with
 | .none=>SK .non x
 | .bool b=>SK (.bl b) x
 | .int i _=>SK (.int i) x
 | .str z _=>SK (.str z) x
 | _=>false
theorem Rj {x y:V} {u:Value} (r:A3 y u) (f:Ez y=true):Mv x u=SK y x:=by
 cases y with
 | non=>cases r; rfl
 | bl b=>cases r; rfl
 | int i=>obtain ⟨t,rfl⟩:=r; rfl
 | str z=>obtain ⟨t,rfl⟩:=r; rfl
 | _=>exact absurd (show false=true from f) YI
theorem FV {x:V}:∀ {xs:List V} {us:List Value},A4 xs us->xs.all Ez=true->us.any (Mv x)=xs.any fun y=>SK y x
 | _,_,.nil,_=>rfl
 | y :: xs,u :: us,.cons r t,f=>by
  rw [bh,Zn] at f;rw [ag,ag,Rj r f.1,FV t f.2]
theorem Ex {A:Around} {s:Shared} {x:V} {v:Value} (rx:A3 x v) (fx:Ez x=true):∀ {xs:List V} {us:List Value},A4 xs us->xs.all Ez=true->∀ u ∈ us,SeqAt.EqAt A s u v (Mv x u)
 | _,_,.nil,_=>fun u hu=>by cases hu
 | y :: xs,u :: us,.cons r t,f=>fun u' hu=>by
  rw [bh,Zn] at f;rcases Y4.mp hu with rfl | hu
  ·rw [Rj r f.1]; exact UP r rx f.1 fx
  ·exact Ex rx fx t f.2 u' hu
def inV (x:V) (xs:List V):Bool:=xs.any fun y=>SK y x
def rIn (K:Y3) (neg:Bool):R2:=fun x y H Q=>∃ p xs,y=.ref p/\(AB K H p xs\/A7 K H p xs)/\Ez x=true/\xs.all Ez=true/\Q (.bl (if neg then !inV x xs else inV x xs)) H
theorem O7:En X (compareOp .In) (rIn X.K false):=by
 intro pins s σ H x y v u Q I rx ry h;obtain ⟨p,xs,rfl,hq,fx,fs,q⟩:=h;cases ry
 rcases hq with hq | hq
 ·obtain ⟨Ap,r,pl,hz⟩:=I.list hq;refine SeqAt.in_listAt (Mv x) pl.isList (fun w hw=>Ex rx fx r fs w (by simpa using hw)) ⟨.bl _,H,I,rfl,?_⟩;rw [show Ap.toArray.any (Mv x)=Ap.any (Mv x) by simp,FV r fs];exact q
 ·obtain ⟨Ap,r,pl,hz⟩:=I.tuple hq;refine SeqAt.in_tupleAt (Mv x) pl (fun w hw=>Ex rx fx r fs w (by simpa using hw)) ⟨.bl _,H,I,rfl,?_⟩;rw [show Ap.toArray.any (Mv x)=Ap.any (Mv x) by simp,FV r fs];exact q
theorem Kj:En X (compareOp .NotIn) (rIn X.K true):=by
 intro pins s σ H x y v u Q I rx ry h;obtain ⟨p,xs,rfl,hq,fx,fs,q⟩:=h;cases ry
 rcases hq with hq | hq
 ·obtain ⟨Ap,r,pl,hz⟩:=I.list hq;refine SeqAt.notIn_listAt (Mv x) pl.isList (fun w hw=>Ex rx fx r fs w (by simpa using hw)) ⟨.bl _,H,I,rfl,?_⟩;rw [show Ap.toArray.any (Mv x)=Ap.any (Mv x) by simp,FV r fs];exact q
 ·obtain ⟨Ap,r,pl,hz⟩:=I.tuple hq;refine SeqAt.notIn_tupleAt (Mv x) pl (fun w hw=>Ex rx fx r fs w (by simpa using hw)) ⟨.bl _,H,I,rfl,?_⟩;rw [show Ap.toArray.any (Mv x)=Ap.any (Mv x) by simp,FV r fs];exact q
theorem Ec:Bl X (.builtin "len") (fun xs H Q=>∃ p ys,xs=[.ref p]/\(AB X.K H p ys\/A7 X.K H p ys)/\Q (.int ys.length) H):=by
 intro pins s σ H xs us Q I r h;obtain ⟨p,ys,rfl,hq,q⟩:=h;obtain ⟨u,rfl,rx⟩:=BO r;cases rx
 have hn:=Fm;rcases hq with hq | hq
 ·obtain ⟨Ap,r',pl,hz⟩:=I.list hq;have hlen:=r'.length;exact Calls.call_len_list pl.isList (by simp only [YN] <;> lia) ⟨.int ys.length,H,I.tok _,⟨s.toks + 1,by rw [YN,hlen]⟩,q⟩
 ·obtain ⟨Ap,r',pl,hz⟩:=I.tuple hq;have hlen:=r'.length;exact len_tuple pl (by simp only [YN] <;> lia) ⟨.int ys.length,H,I.tok _,⟨s.toks + 1,by rw [YN,hlen]⟩,q⟩
theorem FU:Bl X (.builtin "len") (fun xs H Q=>∃ z,xs=[.str z]/\z.length<=sizeLine/\Q (.int z.length) H):=by
 intro pins s σ H xs us Q I r h;obtain ⟨z,rfl,hz,q⟩:=h;obtain ⟨u,rfl,t,rfl⟩:=BO r;have hn:=Fm;exact len_str (by lia) ⟨.int z.length,H,I.tok _,⟨_,rfl⟩,q⟩
theorem FT:Bl X (.type "list") (fun xs H Q=>∃ p ys,xs=[.ref p]/\(AB X.K H p ys\/A7 X.K H p ys)/\∀ l,H l=none->Q (.ref l) (upd H l (.lst ys))):=by
 intro pins s σ H xs us Q I r h;obtain ⟨p,ys,rfl,hq,q⟩:=h;obtain ⟨u,rfl,rx⟩:=BO r;cases rx
 have fin:∀ (Ap:List Value),A4 ys Ap->ys.length<=sizeLine->∀ (h':Heap) (c':Nat),(∀ b o',s.heap.get? b=some o'->h'.get? b=some o') ->
   h'.get? s.heap.objs.size=some { cls:=.type "list",dict:=none,data:=.seq Ap.toArray c',slots:=#[] }->EP X pins σ Q (.ref s.heap.objs.size) { s with heap:=h' }:=fun Ap r' hz h' c' kp e=>
  ⟨.ref s.heap.objs.size,_,I.laid (t':=s.toks) kp (Y7 _) (show A5 X.prog X.w _ h' _ (.lst ys) from ⟨hz,Ap,c',r',e⟩),rfl,q _ (I.hok.fresh (Y7 _))⟩
 rcases hq with hq | hq
 ·obtain ⟨Ap,r',pl,hz⟩:=I.list hq;have hlen:=r'.length;obtain ⟨o,ho,hc,n,hd⟩:=pl.isList;exact call_list_seq p (.inl rfl) ho hc hd (fun h' c' kp e=>fin Ap r' hz h' c' kp e) (by simp only [YN] <;> lia)
 ·obtain ⟨Ap,r',pl,hz⟩:=I.tuple hq;have hlen:=r'.length;obtain ⟨o,ho,hc,n,hd⟩:=pl;exact call_list_seq p (.inr rfl) ho hc hd (fun h' c' kp e=>fin Ap r' hz h' c' kp e) (by simp only [YN] <;> lia)
theorem Fc:Bl X (.type "tuple") (fun xs H Q=>∃ p ys,xs=[.ref p]/\((AB X.K H p ys/\∀ l,H l=none->Q (.ref l) (upd H l (.tup ys)))\/(A7 X.K H p ys/\Q (.ref p) H))):=by
 intro pins s σ H xs us Q I r h;obtain ⟨p,ys,rfl,h⟩:=h;obtain ⟨u,rfl,rx⟩:=BO r;cases rx
 rcases h with ⟨hq,q⟩ | ⟨hq,q⟩
 ·obtain ⟨Ap,r',pl,hz⟩:=I.list hq;have hlen:=r'.length;refine call_tuple_list pl.isList (fun h' kp=>?_) (by simp only [YN] <;> lia);have I1:An X pins σ H { s with heap:=h' }:=I.kept (t':=s.toks) kp;have I2:An X pins σ (upd H h'.objs.size (.tup ys)) { s with heap:=h'.push { cls:=.type "tuple",data:=.seq Ap.toArray } }:=
   I1.laid (t':=s.toks) (fun b o e=>Y2 _ e) (Y7 _) (show A5 X.prog X.w _ _ _ (.tup ys) from ⟨hz,Ap,r',IsTup.new _ _,Mz.new rfl rfl⟩)
  exact ⟨.ref h'.objs.size,_,I2,rfl,q _ (I1.hok.fresh (Y7 _))⟩
 ·obtain ⟨Ap,r',pl,hz⟩:=I.tuple hq;exact call_tuple_same pl ⟨.ref p,H,I,rfl,q⟩
def tyV (K:Y3) (T:String) (x:V) (H:Hp):Prop:=match x with
 | .str _=>T="str"
 | .int _=>T="int"
 | .ref p=>(T="list"/\∃ xs,AB K H p xs)\/(T="tuple"/\∃ o,K.lookup p=some o/\o.cls=.type "tuple"/\o.dict=none) \/
   (T="dict"/\((∃ kvs,H p=some (.dK kvs))\/∃ kvs,H p=some (.dT kvs)))\/(T="set"/\∃ S n,H p=some (.set S n))
 | _=>False
theorem PK {pins:List (Addr × Obj)} {σ:St} {H:Hp} {s:Shared} {T:String} {x:V} {v:Value} (I:An X pins σ H s) (r:A3 x v) (ty:tyV X.K T x H) :
  s.TypeIs v T/\∀ a,v=.ref a->∃ ob,s.heap.get? a=some ob/\ob.dict=none:=by
 cases x with
 | str z=>
  obtain ⟨t,rfl⟩:=r;cases (show T="str" from ty)
  exact ⟨typeIs_str s z t,fun _ e=>nomatch e⟩
 | int i=>
  obtain ⟨t,rfl⟩:=r;cases (show T="int" from ty)
  exact ⟨typeIs_int s i t,fun _ e=>nomatch e⟩
 | ref p=>
  cases r
  rcases ty with ⟨rfl,xs,hq⟩ | ⟨rfl,o,hk,hc,hd⟩ | ⟨rfl,hk⟩ | ⟨rfl,S,n,hk⟩
  ·obtain ⟨Ap,_,pl,_⟩:=I.list hq;refine ⟨pl.isList.typeIs,fun a e=>?_⟩;cases e
   obtain ⟨o,n,e,c,hd,_⟩:=pl;exact ⟨o,e,hd⟩
  ·refine ⟨⟨o,I.kIn p o hk,hc⟩,fun a e=>?_⟩;cases e
   exact ⟨o,I.kIn _ o hk,hd⟩
  ·have z:∃ o,s.heap.get? p=some o/\o.ExactDict:=by
    rcases hk with ⟨kvs,hk⟩ | ⟨kvs,hk⟩
    ·obtain ⟨_,_,_,_,o,_,_,e,ex,_⟩:=I.hok p _ hk;exact ⟨o,e,ex⟩
    ·obtain ⟨_,_,_,_,o,_,_,e,ex,_⟩:=I.hok p _ hk;exact ⟨o,e,ex⟩
   obtain ⟨o,e,ex⟩:=z;refine ⟨⟨o,e,ex.1⟩,fun a e2=>?_⟩;cases e2
   exact ⟨o,e,ex.2.1⟩
  ·obtain ⟨o,_,_,_,e,ex,_⟩:=I.hok p _ hk;refine ⟨⟨o,e,ex.1⟩,fun a e2=>?_⟩;cases e2
   exact ⟨o,e,ex.2.1⟩
 | _=>exact False.elim ty
def tBM0 (K:Y3) (T:String) (r:V->List V->Hp->VK->Prop) (to:TE):TE:=fun σ H Q=>to σ H fun x H1=>tyV K T x H1/\r x [] H1 Q
def tBM (K:Y3) (T:String) (r:V->List V->Hp->VK->Prop) (to:TE) (t:TA):TE:=fun σ H Q=>to σ H fun x H1=>tyV K T x H1/\t σ H1 fun xs H2=>r x xs H2 Q
variable {o e:Expr} {es:List Expr} {to:TE} {t:TA} {name:Str} {apos E5:Pos} {T id:String} {r:V->List V->Hp->VK->Prop}
theorem Us (pa:PlainAttrs T) (slot:Slot T name id) (hty:typeOf (.builtin id)=pure (.type "method_descriptor")) (hm:MtR X id r) (ho:PE X o to)
  (hbase:attributeBase o name X.env (eval o X.env)=eval o X.env:=by rfl) (hline:(apos.endLine == E5.line)=true:=by rfl):PE X (.Call (.Attribute o name apos) [] [] E5) (tBM0 X.K T r to):=by
 intro pins s σ H Q I h;refine wpAny_Call_method0_late hbase hline (B5 (ho (pins:=pins) s σ H _ I h) fun v s1 ⟨x,H1,I1,r1,ty,q1⟩=>?_);obtain ⟨h1,h2⟩:=PK I1 r1 ty;exact ⟨T,id,pa,slot,hty,h1,h2,Calls.callWith_builtin rfl (PySem.evalArgs_none (hm (pins:=pins) s1 σ H1 x [] v [] Q I1 r1 .nil q1))⟩
theorem FF (pa:PlainAttrs T) (slot:Slot T name id) (hty:typeOf (.builtin id)=pure (.type "method_descriptor")) (hm:MtR X id r) (ho:PE X o to) (ha:PA X (e :: es) t)
  (hbase:attributeBase o name X.env (eval o X.env)=eval o X.env:=by rfl)
  (hfew:((backTo E5 (starEach (e :: es) X.env)).all (fun x=>!x.1) && (backToKw E5 (keywordEach [] X.env)).all (fun x=>x.1.isSome)
   && decide ((e :: es).length + ([]:List Keyword).length + (if ([]:List Keyword).isEmpty then 0 else 1) < 30))=true:=by rfl)
  (hline:(apos.endLine == E5.line)=true:=by rfl) (hs:starEach (e :: es) X.env=(false,eval e X.env) :: starEach es X.env:=by rfl) (hplain:(backTo E5 (starEach es X.env)).any (·.1)=false:=by rfl) :
  PE X (.Call (.Attribute o name apos) (e :: es) [] E5) (tBM X.K T r to t):=by
 intro pins s σ H Q I h;refine wpAny_Call_method_late hbase hfew hline rfl (B5 (ho (pins:=pins) s σ H _ I h) fun v s1 ⟨x,H1,I1,r1,ty,q1⟩=>?_);obtain ⟨h1,h2⟩:=PK I1 r1 ty;refine ⟨T,id,pa,slot,hty,h1,h2,?_⟩;have hA:=ha (pos:=E5) (pins:=pins) s1 σ H1 _ I1 q1;rw [hs] at hA ⊢;refine Calls.callWith_builtin (by show (false || (backTo E5 (starEach es X.env)).any (·.1))=false; rw [hplain] <;> rfl) (Calls.evalArgs_plain ?_);exact B5 hA fun us s2 ⟨vs,H2,I2,r2,q2⟩=>hm (pins:=pins) s2 σ H2 x vs v us Q I2 r1 r2 q2
end
def MtM (X:Cx) (id:String) (r:V->List V->Hp->VK->Prop):Prop:=
 ∀ ⦃pins:List (Addr × Obj)⦄ (s:Shared) (σ:St) (H:Hp) (x:V) (xs:List V) (v:Value) (us:List Value) (Q:VK),An X pins σ H s->A3 x v->A4 xs us->r x xs H Q ->
  wpAny (model X.prog X.w) X.A (call (.builtin id) (v :: us)) (EP X pins σ Q) X.xe s
theorem A4.one:∀ {x:V} {us:List Value},A4 [x] us->∃ u,us=[u]/\A3 x u
 | _,_,.cons r .nil=>⟨_,rfl,r⟩
theorem A4.eraseIdx:∀ {xs:List V} {us:List Value} (i:Nat),A4 xs us->A4 (xs.eraseIdx i) (us.eraseIdx i)
 | _,_,_,.nil=>.nil
 | _,_,0,.cons _ t=>t
 | _,_,i + 1,.cons r t=>.cons r (A4.eraseIdx i t)
theorem J7 {α:Type}:∀ (l:List α) (i:Nat),(l.eraseIdx i).length<=l.length
 | [],_=>Y7 _
 | _ :: _,0=>Ze _
 | _ :: r,i + 1=>Nat.succ_le_succ (J7 r i)
section
variable {X:Cx} {pins:List (Addr × Obj)} {σ:St} {H:Hp} {s:Shared} {l b:Addr} {xs ys zs:List V}
theorem An.lset {Ap its':List Value} {n:Nat} {f:Array Value->Array Value} {t':Nat} (I:An X pins σ H s) (hH:H l=some (.lst xs))
  (e:s.heap.get? l=some { cls:=.type "list",data:=.seq Ap.toArray n }) (hf:f Ap.toArray=its'.toArray) (hv:A4 ys its') (hz:ys.length<=sizeLine) :
  An X pins σ (upd H l (.lst ys)) { s with heap:=s.heap.update l (Obj.mapSeq f),toks:=t' }:=by
 have q:=PySem.IsL.update e f;rw [hf] at q;refine I.write (x:=l) (e:=l) (by rw [hH]; exact trivial) (.inl rfl) (fun b' u hb hu=>(Zm s.heap (Obj.mapSeq f) (Ne.symm hb)).trans hu) ⟨_,q⟩ ?_;exact ⟨hz,its',_,hv,q⟩
theorem An.lnew {Ap:List Value} {t':Nat} (I:An X pins σ H s) (hv:A4 ys Ap) (hz:ys.length<=sizeLine) :
  An X pins σ (upd H s.heap.objs.size (.lst ys)) { s with heap:=s.heap.push { cls:=.type "list",data:=.seq Ap.toArray },toks:=t' }:=
 I.laid (fun _ _ q=>Y2 _ q) (Y7 _) ⟨hz,Ap,0,hv,YD _ rfl⟩
theorem An.fresh (I:An X pins σ H s):H s.heap.objs.size=none:=I.hok.fresh (Y7 _)
theorem An.lstM (I:An X pins σ H s) (hH:H l=some (.lst xs)):xs.length<=sizeLine/\∃ (Ap:List Value) (n:Nat),A4 xs Ap/\xs.length=Ap.length/\s.heap.get? l=some { cls:=.type "list",data:=.seq Ap.toArray n }:=by
 obtain ⟨z,Ap,n,r,e⟩:=I.hok l _ hH;exact ⟨z,Ap,n,r,r.length,e⟩
theorem QI {n:Nat} (h:n<=sizeLine):Builtin.List.listTooLong n=false:=by
 unfold Builtin.List.listTooLong;exact decide_eq_false (by lia)
end
section
variable {X:Cx}
def RZ:V->List V->Hp->VK->Prop:=fun x vs H Q=>∃ l xs y,x=.ref l/\vs=[y]/\H l=some (.lst xs)/\xs.length < sizeLine/\Q .non (upd H l (.lst (xs ++ [y])))
theorem BZ:MtM X "list.append" RZ:=by
 intro pins s σ H x vs v us Q I rx rv h;obtain ⟨l,xs,y,rfl,rfl,hH,hz,q⟩:=h;cases rx
 obtain ⟨u,rfl,ru⟩:=rv.one;obtain ⟨z,Ap,n,r,hl,e⟩:=I.lstM hH;refine call_meets F.slot_list_append ⟨_,e,rfl⟩ F.entry_list_append (F.args_list_append_2 _ _) (PySem.list_append l Ap.toArray n u (by rw [YN]; lia)) ⟨e,?_⟩;refine ⟨.non,_,I.lset (its':=Ap ++ [u]) hH e (by simp) (r.append (.cons ru .nil)) ?_,rfl,q⟩;rw [Y6,Zt];lia
def RY:V->List V->Hp->VK->Prop:=fun x vs H Q=>∃ l b xs zs,x=.ref l/\vs=[.ref b]/\H l=some (.lst xs)/\H b=some (.lst zs)/\xs.length + zs.length<=sizeLine/\Q .non (upd H l (.lst (xs ++ zs)))
theorem OD:MtM X "list.extend" RY:=by
 intro pins s σ H x vs v us Q I rx rv h;obtain ⟨l,b,xs,zs,rfl,rfl,hH,hB,hz,q⟩:=h;cases rx
 obtain ⟨u,rfl,ru⟩:=rv.one;cases ru
 obtain ⟨z,Ap,n,r,hl,e⟩:=I.lstM hH;obtain ⟨z2,HY,n2,r2,ON,e2⟩:=I.lstM hB;have hsz:Ap.toArray.size + HY.toArray.size<=sizeLine:=by rw [YN,YN]; lia
 have hlong:¬ (!Ap.toArray.isEmpty && Builtin.List.listTooLong (Ap.toArray.size + HY.toArray.size))=true:=by
  rw [QI hsz,cX];exact YI
 refine call_meets F.slot_list_extend ⟨_,e,rfl⟩ F.entry_list_extend (F.args_list_extend_2 _ _)
  (AutoSeq1.list_extend_list_list_0 l Ap.toArray n b HY.toArray n2 hlong (by rw [YN]; lia) (by lia)) ⟨e,e2,?_⟩
 refine ⟨.non,_,I.lset (its':=Ap ++ HY) hH e (by simp) (r.append r2) ?_,rfl,q⟩;rw [Y6];lia
def Uk:V->List V->Hp->VK->Prop:=fun x vs H Q=>∃ l xs i k y,x=.ref l/\vs=[.int i]/\H l=some (.lst xs)/\-(2 ^ 63)<=i/\i < 2 ^ 63/\seqIndex? i xs.length=some k/\xs[k]? = some y/\Q y (upd H l (.lst (xs.eraseIdx k)))
theorem QL:MtM X "list.pop" Uk:=by
 intro pins s σ H x vs v us Q I rx rv h;obtain ⟨l,xs,i,k,y,rfl,rfl,hH,h1,h2,hk,hy,q⟩:=h;cases rx
 obtain ⟨u,rfl,ru⟩:=rv.one;obtain ⟨t,rfl⟩:=ru;obtain ⟨z,Ap,n,r,hl,e⟩:=I.lstM hH;obtain ⟨w,hw,Oq⟩:=r.get hy;refine call_meets F.slot_list_pop ⟨_,e,rfl⟩ F.entry_list_pop (F.args_list_pop_2 _ _)
  (MeetsSeq.list_pop_at l Ap.toArray n i t k w (fitsIndex_both h1 h2) (by rw [YN,<-hl]; exact hk) (by rw [<-Z3]; exact hw) (by rw [YN]; lia)) ⟨e,?_⟩
 refine ⟨y,_,I.lset (its':=Ap.eraseIdx k) hH e ?_ (r.eraseIdx k) ?_,Oq,q⟩
 ·show Ap.toArray.eraseIdxIfInBounds k=(Ap.eraseIdx k).toArray
  rw [List.eraseIdxIfInBounds_toArray]
 ·have:=J7 xs k;lia
def rCat:R2:=fun x y H Q=>∃ l b xs zs,x=.ref l/\y=.ref b/\H l=some (.lst xs)/\H b=some (.lst zs)/\xs.length + zs.length<=sizeLine/\∀ p,H p=none->Q (.ref p) (upd H p (.lst (xs ++ zs)))
theorem Mf:En X (binaryOp .Add) rCat:=by
 intro pins s σ H x y v u Q I rx ry h;obtain ⟨l,b,xs,zs,rfl,rfl,hH,hB,hz,q⟩:=h;cases rx
 cases ry
 obtain ⟨z,Ap,n,r,hl,e⟩:=I.lstM hH;obtain ⟨z2,HY,n2,r2,ON,e2⟩:=I.lstM hB;refine PySem.P.add_list e e2 ?_ (by rw [YN,YN]; lia);have ea:Ap.toArray ++ HY.toArray=(Ap ++ HY).toArray:=by simp
 rw [ea];exact ⟨.ref _,_,I.lnew (t':=s.toks) (r.append r2) (by rw [Y6]; lia),rfl,q _ I.fresh⟩
end
section
variable {prog:Program} {w:World} {A:Around} {E:Value->Shared->Prop} {s:Shared}
set_option maxRecDepth 100000 in
end
section
variable {X:Cx}
end
section
variable {κ:Type} [DecidableEq κ]
def Bc (kvs:List (κ × V)) (k:κ):Option V:=(kvs.find? fun kv=>decide (kv.1=k)).map (·.2)
def Br (kvs:List (κ × V)) (k:κ) (v:V):List (κ × V):=
 if (kvs.any fun kv=>decide (kv.1=k))=true then kvs.map (fun kv=>if kv.1=k then (kv.1,v) else kv) else kvs ++ [(k,v)]
def Iu (kvs:List (κ × V)) (k:κ):List (κ × V):=kvs.filter fun kv=>decide (kv.1 ≠ k)
theorem Bx {p:κ × V} {r:List (κ × V)} {k:κ} (e:p.1=k):Bc (p :: r) k=some p.2:=by simp [Bc,ZN,e]
theorem Bq {p:κ × V} {r:List (κ × V)} {k:κ} (e:¬ p.1=k):Bc (p :: r) k=Bc r k:=by simp [Bc,ZN,e]
theorem Cg (k:κ):∀ kvs:List (κ × V),(kvs.any fun kv=>decide (kv.1=k))=(Bc kvs k).isSome
 | []=>rfl
 | p :: r=>by
  rw [ag];by_cases e:p.1=k
  ·simp only [Bx e,decide_eq_true e,Bool.true_or,bZ]
  ·rw [Bq e,decide_eq_false e,Bool.false_or]; exact Cg k r
theorem K8 (k j:κ) (y:V):∀ kvs:List (κ × V),Bc (kvs.map fun kv=>if kv.1=k then (kv.1,y) else kv) j=(Bc kvs j).map fun x=>if j=k then y else x
 | []=>rfl
 | p :: r=>by
  have ih:=K8 k j y r;rw [YK];by_cases h:p.1=k
  ·rw [if_pos h];by_cases e:p.1=j
   ·rw [Bx (p:=(p.1,y)) e,Bx e,ZT,if_pos (e.symm.trans h)]
   ·rw [Bq (p:=(p.1,y)) e,Bq e,ih]
  ·rw [if_neg h];by_cases e:p.1=j
   ·rw [Bx (p:=p) e,Bx e,ZT,if_neg (fun z=>h (e.trans z))]
   ·rw [Bq (p:=p) e,Bq e,ih]
theorem Jn (k j:κ) (y:V):∀ kvs:List (κ × V),Bc kvs k=none->Bc (kvs ++ [(k,y)]) j=if j=k then some y else Bc kvs j
 | [],_=>by
  by_cases e:k=j
  ·rw [if_pos e.symm]; exact Bx (p:=(k,y)) e
  ·rw [if_neg (fun z=>e z.symm)]; exact Bq (p:=(k,y)) e
 | p :: r,hn=>by
  rw [ZH];have hk:¬ p.1=k:=fun z=>by rw [Bx z] at hn; cases hn
  rw [Bq hk] at hn;have ih:=Jn k j y r hn;by_cases e:p.1=j
  ·rw [Bx e,Bx e,if_neg (fun z=>hk (e.trans z))]
  ·rw [Bq e,Bq e,ih]
theorem PH (kvs:List (κ × V)) (k j:κ) (y:V):Bc (Br kvs k y) j=if j=k then some y else Bc kvs j:=by
 unfold Br;by_cases a:(kvs.any fun kv=>decide (kv.1=k))=true
 ·rw [if_pos a,K8];rw [Cg] at a;by_cases e:j=k
  ·obtain ⟨x,hx⟩:=ay.mp a;rw [if_pos e,e,hx,ZT,if_pos rfl]
  ·rw [if_neg e];cases Bc kvs j with
   | none=>rfl
   | some x=>rw [ZT,if_neg e]
 ·rw [if_neg a];refine Jn k j y kvs ?_;rw [Cg] at a;cases q:Bc kvs k with
  | none=>rfl
  | some x=>rw [q] at a; exact (a rfl).elim
theorem Cr (kvs:List (κ × V)) (k:κ) (v:V):(Br kvs k v).length<=kvs.length + 1:=by
 unfold Br;split
 ·rw [Y0]; lia
 ·rw [Y6,YX,cQ]; lia
theorem HA {kvs:List (κ × V)} {k:κ} (v:V) (h:Bc kvs k=none):Br kvs k v=kvs ++ [(k,v)]:=by
 unfold Br;rw [Cg,h];exact if_neg (by decide)
theorem Gu.isSome_eq {o:Option V} {u:Option Value} (r:Gu o u):o.isSome=u.isSome:=by
 cases o with
 | none=>cases u with
  | none=>rfl
  | some _=>exact (show False from r).elim
 | some _=>cases u with
  | none=>exact (show False from r).elim
  | some _=>rfl
theorem Gu.getD {o:Option V} {u:Option Value} {d:V} {d':Value} (r:Gu o u) (rd:A3 d d'):A3 (o.getD d) (u.getD d'):=by
 cases o with
 | none=>cases u with
  | none=>exact rd
  | some _=>exact (show False from r).elim
 | some _=>cases u with
  | none=>exact (show False from r).elim
  | some _=>exact r
theorem KV.val {kvs:List (κ × V)} {vs:List (κ × Value)} (r:KV kvs vs) (k:κ):Gu (Bc kvs k) (valueAt vs k):=by
 unfold KV at r;induction r with
 | nil=>exact True.intro
 | @cons p q ps qs h t ih=>
  obtain ⟨h1,h2⟩:=h;by_cases e:p.1=k
  ·have e':q.1=k:=h1.symm.trans e;have b:valueAt (q :: qs) k=some q.2:=by simp [valueAt,ZN,e']
   rw [Bx e,b]; exact h2
  ·have e':¬ q.1=k:=fun z=>e (h1.trans z)
   have b:valueAt (q :: qs) k=valueAt qs k:=by simp [valueAt,ZN,e']
   rw [Bq e,b]; exact ih
theorem KV.any {kvs:List (κ × V)} {vs:List (κ × Value)} (r:KV kvs vs) (k:κ):(kvs.any fun kv=>decide (kv.1=k))=vs.any fun kv=>decide (kv.1=k):=by
 unfold KV at r;induction r with
 | nil=>rfl
 | cons h t ih=>rw [ag,ag,ih,h.1]
theorem KV.repl {kvs:List (κ × V)} {vs:List (κ × Value)} (r:KV kvs vs) (k:κ) {y:V} {u:Value} (ry:A3 y u) :
  KV (kvs.map fun kv=>if kv.1=k then (kv.1,y) else kv) (vs.map fun kv=>if kv.1=k then (kv.1,u) else kv):=by
 unfold KV at r ⊢;induction r with
 | nil=>exact .nil
 | @cons p q ps qs h t ih=>
  rw [YK,YK];refine .cons ?_ ih;obtain ⟨h1,h2⟩:=h;by_cases e:p.1=k
  ·rw [if_pos e,if_pos (h1.symm.trans e)]; exact ⟨h1,ry⟩
  ·rw [if_neg e,if_neg (fun z=>e (h1.trans z))]; exact ⟨h1,h2⟩
theorem KV.put {kvs:List (κ × V)} {vs:List (κ × Value)} (r:KV kvs vs) (k:κ) {y:V} {u:Value} (ry:A3 y u):KV (Br kvs k y) (stored vs k u):=by
 unfold Br stored;rw [r.any k];by_cases e:(vs.any fun kv=>decide (kv.1=k))=true
 ·rw [if_pos e,if_pos e]; exact r.repl k ry
 ·rw [if_neg e,if_neg e]; exact Paired.snoc r ⟨rfl,ry⟩
theorem KV.drop {kvs:List (κ × V)} {vs:List (κ × Value)} (r:KV kvs vs) (k:κ):KV (Iu kvs k) (without vs k):=by
 unfold KV at r ⊢;unfold Iu without;induction r with
 | nil=>exact .nil
 | @cons p q ps qs h t ih=>
  obtain ⟨h1,h2⟩:=h;rw [ZI,ZI];by_cases e:p.1=k
  ·have a:¬ decide (p.1 ≠ k)=true:=by simp [e]
   have b:¬ decide (q.1 ≠ k)=true:=by simp [h1.symm.trans e]
   rw [if_neg a,if_neg b]; exact ih
  ·have e':¬ q.1=k:=fun z=>e (h1.trans z)
   have a:decide (p.1 ≠ k)=true:=by simp [e]
   have b:decide (q.1 ≠ k)=true:=by simp [e']
   rw [if_pos a,if_pos b]; exact .cons ⟨h1,h2⟩ ih
theorem KV.length {kvs:List (κ × V)} {vs:List (κ × Value)} (r:KV kvs vs):kvs.length=vs.length:=Paired.length r
theorem Rk (kvs:List (κ × V)) (k:κ):(Iu kvs k).length<=kvs.length:=Zc _ _
end
theorem GA {P:Program} {w:World} {k:A6} {u:Value} (r:A3 (kV k) u):(AO P w).is k u=true:=by
 cases k with
 | inl i=>obtain ⟨t,e⟩:=(show ∃ t,u=Value.int i t from r); subst e; exact Ll P w i t
 | inr x=>obtain ⟨t,e⟩:=(show ∃ t,u=Value.str x t from r); subst e; exact G8 P w x t
theorem J9 {P:Program} {w:World}:∀ {ks:List A6} {us:List Value},A4 (ks.map kV) us->ItemsAre (AO P w) ks us
 | [],_,r=>by rw [dh] at r; cases r; exact .nil
 | k :: ks,_,r=>by
  rw [YK] at r;cases r with
  | cons h t=>exact .cons (GA h) (J9 t)
abbrev KT (H:Hp):List (List A6 × V)->List (List A6 × Addr × Value)->Prop:=Paired fun p q=>p.1=q.1/\H q.2.1=some (.tup (p.1.map kV))/\A3 p.2 q.2.2
theorem KT.val {H:Hp} {kvs:List (List A6 × V)} {xs:List (List A6 × Addr × Value)} (r:KT H kvs xs) (k:List A6):Gu (Bc kvs k) ((atKey xs k).map (·.2)):=by
 induction r with
 | nil=>exact True.intro
 | @cons p q ps qs h t ih=>
  obtain ⟨h1,_,h2⟩:=h;by_cases e:p.1=k
  ·have e':q.1=k:=h1.symm.trans e;have b:atKey (q :: qs) k=some q.2:=by simp [atKey,ZN,e']
   rw [Bx e,b]; exact h2
  ·have e':¬ q.1=k:=fun z=>e (h1.trans z)
   have b:atKey (q :: qs) k=atKey qs k:=by simp [atKey,ZN,e']
   rw [Bq e,b]; exact ih
theorem KT.repl {H:Hp} {kvs:List (List A6 × V)} {xs:List (List A6 × Addr × Value)} (r:KT H kvs xs) (k:List A6) {y:V} {u:Value} (ry:A3 y u) :
  KT H (kvs.map fun kv=>if kv.1=k then (kv.1,y) else kv) (xs.map (putAt k u)):=by
 induction r with
 | nil=>exact .nil
 | @cons p q ps qs h t ih=>
  rw [YK,YK];refine .cons ?_ ih;obtain ⟨h1,h2,h3⟩:=h;unfold putAt;by_cases e:p.1=k
  ·rw [if_pos e,if_pos (h1.symm.trans e)]; exact ⟨h1,h2,ry⟩
  ·rw [if_neg e,if_neg (fun z=>e (h1.trans z))]; exact ⟨h1,h2,h3⟩
theorem KT.put {H:Hp} {kvs:List (List A6 × V)} {xs:List (List A6 × Addr × Value)} (r:KT H kvs xs) (k:List A6) {b:Addr} {y:V} {u:Value} (hb:H b=some (.tup (k.map kV))) (ry:A3 y u) :
  KT H (Br kvs k y) (storedH xs k b u):=by
 have e:(kvs.any fun kv=>decide (kv.1=k))=(atKey xs k).isSome:=by
  rw [Cg,(r.val k).isSome_eq,bp]
 unfold Br storedH;rw [e];by_cases q:(atKey xs k).isSome=true
 ·rw [if_pos q,if_pos q]; exact r.repl k ry
 ·rw [if_neg q,if_neg q]; exact Paired.snoc r ⟨rfl,hb,ry⟩
theorem KT.keeps {H H':Hp} {kvs:List (List A6 × V)} {xs:List (List A6 × Addr × Value)} (r:KT H kvs xs) (ht:∀ b ys,H b=some (.tup ys)->H' b=some (.tup ys)):KT H' kvs xs:=
 Paired.mapP r fun _ _ z=>⟨z.1,ht _ _ z.2.1,z.2.2⟩
section
variable {P:Program} {w:World} {H:Hp} {h:Heap} {a:Addr}
theorem Tp {u:HO} (ok:F1 P w H h) (e:Rd H a u):A5 P w H h a u:=e.ok ok
theorem Iv {kvs:List (A6 × V)} (ok:F1 P w H h) (e:Rd H a (.dK kvs)):kvs.length<=sizeLine/\(a == sysModules)=false/\∃ vs,KV kvs vs/\h.DictOf (AO P w) a vs:=
 show A5 P w H h a (.dK kvs) from Tp ok e
theorem Rl {kvs:List (A6 × V)} (ok:F1 P w H h) (e:H a=some (.dK kvs)):kvs.length<=sizeLine/\(a == sysModules)=false/\∃ vs,KV kvs vs/\h.DictOf (AO P w) a vs:=Iv ok (.inl e)
theorem Fo {ks:List A6} (ok:F1 P w H h) (e:H a=some (.tup (ks.map kV))):(tupleKind (AO P w)).is h ks a:=by
 obtain ⟨_,Ap,r,⟨o,h1,h2,n,h3⟩,_⟩:=(show A5 P w H h a (.tup (ks.map kV)) from ok a _ e)
 exact ⟨o,Ap.toArray,n,h1,h2,h3,by simpa using J9 r⟩
theorem Ir {kvs:List (List A6 × V)} (ok:F1 P w H h) (e:Rd H a (.dT kvs)):kvs.length<=sizeLine/\(a == sysModules)=false /\
  ∃ xs,KT H kvs xs/\h.DictOfH (tupleKind (AO P w)) a xs:=by
 obtain ⟨z,y,xs,r,o,es,ep,h1,h2,h3,h4,h5⟩:=(show A5 P w H h a (.dT kvs) from Tp ok e)
 refine ⟨z,y,xs,r,o,es,ep,h1,h2,h3,h4,fun x hx=>?_,h5⟩;have all:∀ {l:List (List A6 × V)} {m:List (List A6 × Addr × Value)},KT H l m->∀ x ∈ m,(tupleKind (AO P w)).is h x.1 x.2.1:=by
  intro l m q;induction q with
  | nil=>intro x hx; exact nomatch hx
  | @cons p q ps qs hq t ih=>
   intro x hx;rcases Y4.mp hx with e | hx
   ·subst e;exact Fo ok (by rw [<-hq.1]; exact hq.2.1)
   ·exact ih x hx
 exact all r x hx
theorem T8 {kvs:List (List A6 × V)} (ok:F1 P w H h) (e:H a=some (.dT kvs)):kvs.length<=sizeLine/\(a == sysModules)=false /\
  ∃ xs,KT H kvs xs/\h.DictOfH (tupleKind (AO P w)) a xs:=Ir ok (.inl e)
end
def BN (H:Hp) (a:Addr) (y:V) (r:Option V):Prop:=
 (∃ kvs k,Rd H a (.dK kvs)/\y=kV k/\r=Bc kvs k)\/∃ kvs k b,Rd H a (.dT kvs)/\y=.ref b/\H b=some (.tup (k.map kV))/\r=Bc kvs k
def DL (H:Hp) (a:Addr) (y v:V) (H':Hp):Prop:=
 (∃ kvs k,H a=some (.dK kvs)/\y=kV k/\kvs.length < sizeLine/\H'=upd H a (.dK (Br kvs k v))) \/
 ∃ kvs k b,H a=some (.dT kvs)/\y=.ref b/\H b=some (.tup (k.map kV))/\kvs.length < sizeLine/\H'=upd H a (.dT (Br kvs k v))
theorem BN.k {H:Hp} {a:Addr} {kvs:List (A6 × V)} {k:A6} (e:H a=some (.dK kvs)):BN H a (kV k) (Bc kvs k):=.inl ⟨kvs,k,.inl e,rfl,rfl⟩
theorem BN.t {H:Hp} {a b:Addr} {kvs:List (List A6 × V)} {k:List A6} (e:H a=some (.dT kvs)) (eb:H b=some (.tup (k.map kV))):BN H a (.ref b) (Bc kvs k):=.inr ⟨kvs,k,b,.inl e,rfl,eb,rfl⟩
theorem DL.k {H:Hp} {a:Addr} {kvs:List (A6 × V)} {k:A6} {v:V} (e:H a=some (.dK kvs)) (hl:kvs.length < sizeLine):DL H a (kV k) v (upd H a (.dK (Br kvs k v))):=.inl ⟨kvs,k,e,rfl,hl,rfl⟩
theorem DL.t {H:Hp} {a b:Addr} {kvs:List (List A6 × V)} {k:List A6} {v:V} (e:H a=some (.dT kvs)) (eb:H b=some (.tup (k.map kV))) (hl:kvs.length < sizeLine) :
  DL H a (.ref b) v (upd H a (.dT (Br kvs k v))):=.inr ⟨kvs,k,b,e,rfl,eb,hl,rfl⟩
section
variable {X:Cx} {pins:List (Addr × Obj)} {σ:St} {H:Hp} {s:Shared} {a:Addr} {y v:V} {u r:Value} {o:Option V} {A:Around} {E:Value->Shared->Prop}
theorem An.big (I:An X pins σ H s):sysModules < s.heap.objs.size:=by
 have h:mainGlobals < s.heap.objs.size:=(I.mod.glob.keeps I.bk).lt;exact Nat.lt_trans (by decide) h
theorem Pf {Q:Value->Shared->Prop} (hu:A.units + 1 < cLine) (I:An X pins σ H s) (g:BN H a y (some v)) (ry:A3 y u) (h:∀ w' s',An X pins σ H s'->A3 v w'->Q w' s') :
  wpAny (model X.prog X.w) A (getItem (.ref a) u) Q E s:=by
 rcases g with ⟨kvs,k,e,ey,l⟩ | ⟨kvs,k,b,e,ey,eb,l⟩
 ·subst ey;obtain ⟨z,hd,vs,rel,dd⟩:=Iv I.hok e;obtain ⟨w',hw,Oq⟩:=Gu.some_of (v:=v) (o:=valueAt vs k) (by rw [l]; exact rel.val k);exact wpAny_getItem_of (GA ry) dd.mapOf hw (h w' _ (I.tok _) Oq)
 ·subst ey;cases (show u=Value.ref b from ry)
  obtain ⟨z,hd,xs,rel,dd⟩:=Ir I.hok e;obtain ⟨w',hw,Oq⟩:=Gu.some_of (v:=v) (o:=(atKey xs k).map (·.2)) (by rw [l]; exact rel.val k);obtain ⟨p,hp,hp2⟩:=Option.map_eq_some_iff.mp hw;refine wpAny_getItem_heap (tupleKind_room_in1 hu) (Fo I.hok eb) dd hp ?_;rw [hp2];exact h w' _ (I.tok _) Oq
theorem d_in {Q:Value->Shared->Prop} (hu:A.units + 1 < cLine) (I:An X pins σ H s) (g:BN H a y o) (ry:A3 y u) (h:∀ s',An X pins σ H s'->Q (.bool o.isSome) s') :
  wpAny (model X.prog X.w) A (compareOp .In u (.ref a)) Q E s:=by
 rcases g with ⟨kvs,k,e,ey,l⟩ | ⟨kvs,k,b,e,ey,eb,l⟩
 ·subst ey;obtain ⟨z,hd,vs,rel,dd⟩:=Iv I.hok e;refine wpAny_in_of (GA ry) hd dd.mapOf ?_;rw [<-(rel.val k).isSome_eq,<-l];exact h _ (I.tok _)
 ·subst ey;cases (show u=Value.ref b from ry)
  obtain ⟨z,hd,xs,rel,dd⟩:=Ir I.hok e;refine wpAny_in_heap (tupleKind_room_in1 hu) (Fo I.hok eb) hd dd ?_;have q:=(rel.val k).isSome_eq;rw [bp] at q;rw [<-q,<-l];exact h _ (I.tok _)
theorem SQ {Q:Value->Shared->Prop} (hu:A.units + 1 < cLine) (I:An X pins σ H s) (g:BN H a y o) (ry:A3 y u) (h:∀ s',An X pins σ H s'->Q (.bool (!o.isSome)) s') :
  wpAny (model X.prog X.w) A (compareOp .NotIn u (.ref a)) Q E s:=by
 rcases g with ⟨kvs,k,e,ey,l⟩ | ⟨kvs,k,b,e,ey,eb,l⟩
 ·subst ey;obtain ⟨z,hd,vs,rel,dd⟩:=Iv I.hok e;refine wpAny_notIn_of (GA ry) hd dd.mapOf ?_;rw [<-(rel.val k).isSome_eq,<-l];exact h _ (I.tok _)
 ·subst ey;cases (show u=Value.ref b from ry)
  obtain ⟨z,hd,xs,rel,dd⟩:=Ir I.hok e;refine wpAny_notIn_heap (tupleKind_room_in1 hu) (Fo I.hok eb) hd dd ?_;have q:=(rel.val k).isSome_eq;rw [bp] at q;rw [<-q,<-l];exact h _ (I.tok _)
theorem FQ {h':Heap} {t':Nat} {ob:HO} (I:An X pins σ H s) (mu:Mut (H a)) (hs:Heap.SameBut a s.heap h') (he:∃ q,h'.get? a=some q) (new:A5 X.prog X.w (upd H a ob) h' a ob) :
  An X pins σ (upd H a ob) { s with heap:=h',toks:=t' }:=
 I.write (x:=a) (e:=a) mu (.inl rfl) (fun b q hb z=>(hs.2 b hb).trans z) he new
theorem Kz {P:Program} {w:World} {H':Hp} {h':Heap} {kvs:List (A6 × V)} {vs:List (A6 × Value)} (z:kvs.length<=sizeLine) (hd:(a == sysModules)=false) (rel:KV kvs vs) (dd:h'.DictOf (AO P w) a vs) :
  A5 P w H' h' a (.dK kvs):=⟨z,hd,vs,rel,dd⟩
theorem Pd {H':Hp} {Q:Unit->Shared->Prop} (hu:A.units + 1 < cLine) (I:An X pins σ H s) (g:DL H a y v H') (ry:A3 y u) (rv:A3 v r) (h:∀ s',An X pins σ H' s'->Q () s') :
  wpAny (model X.prog X.w) A (setItem (.ref a) u r) Q E s:=by
 rcases g with ⟨kvs,k,e,ey,l,eH⟩ | ⟨kvs,k,b,e,ey,eb,l,eH⟩
 ·subst ey eH;obtain ⟨z,hd,vs,rel,dd⟩:=Rl I.hok e;have hz:vs.length<=sizeLine:=by rw [<-rel.length]; exact z
  have hl:(Br kvs k v).length<=sizeLine:=by have:=Cr kvs k v; lia
  refine wpAny_setItem_pairs (hsz:=hz) (GA ry) dd fun h' LJ hs=>h _ ?_
  have he:∃ q,h'.get? a=some q:=let ⟨q,_,_,hq,_⟩:=LJ; ⟨q,hq⟩;exact FQ I (by rw [e]; exact True.intro) hs he (Kz hl hd (rel.put k rv) LJ)
 ·subst ey eH;cases (show u=Value.ref b from ry)
  obtain ⟨z,hd,xs,rel,dd⟩:=T8 I.hok e;have hz:xs.length<=sizeLine:=by rw [<-Paired.length rel]; exact z
  have hl:(Br kvs k v).length<=sizeLine:=by have:=Cr kvs k v; lia
  refine wpAny_setItem_heap (hsz:=hz) (tupleKind_room_in1 hu) (Fo I.hok eb) dd fun h' LJ hs=>h _ ?_
  obtain ⟨q,es,ep,hq,h2,h3,h4,_,h5⟩:=LJ;refine FQ I (by rw [e]; exact True.intro) hs ⟨q,hq⟩ ⟨hl,hd,_,(rel.put k eb rv).keeps fun c ys ec=>?_,q,es,ep,hq,h2,h3,h4,h5⟩;rw [Af (BE ec e (fun z=>nomatch z))];exact ec
end
section
variable {X:Cx} {pins:List (Addr × Obj)} {σ:St} {H:Hp} {s:Shared} {a:Addr} {kvs:List (A6 × V)} {k:A6} {u:Value} {A:Around} {E:Value->Shared->Prop}
theorem Pg {Q:Unit->Shared->Prop} (I:An X pins σ H s) (e:H a=some (.dK kvs)) (ry:A3 (kV k) u) (l:(Bc kvs k).isSome=true) (h:∀ s',An X pins σ (upd H a (.dK (Iu kvs k))) s'->Q () s') :
  wpAny (model X.prog X.w) A (delItem (.ref a) u) Q E s:=by
 obtain ⟨z,hd,vs,rel,dd⟩:=Rl I.hok e;refine wpAny_delItem_slot dd.typeIs (by decide) PySem.F.slot_dict_delitem
  (call_meetsIn PySem.F.slot_dict_delitem dd.typeIs PySem.F.entry_dict_delitem (PySem.F.args_dict_delitem_2 _ _) (meets_dict_delitem_pairs (AO X.prog X.w) a (GA ry)) ⟨vs,dd,by rw [<-rel.length]; exact z,by rw [<-(rel.val k).isSome_eq]; exact l,fun h' LJ hs=>h _ ?_⟩)
 have he:∃ q,h'.get? a=some q:=let ⟨q,_,_,hq,_⟩:=LJ; ⟨q,hq⟩;exact FQ I (by rw [e]; exact True.intro) hs he (Kz (YU (Rk kvs k) z) hd (rel.drop k) LJ)
end
def NoSl (i:Expr):Prop:=∀ ov iv,subscripted i false ov iv=operate [ov,iv] (getItem ov iv)
theorem RR {prog:Program} {w:World} {A:Around} {E:Value->Shared->Prop} {s:Shared} {env:Env} {value slice:Expr} {pos:Pos} {T id:String} {Q:Value->Shared->Prop}
  (hl:typeLookup (.type T) "__getitem__"=pure (some (.builtin id))) (hs:NoSl slice)
  (h:wpAny (model prog w) A (eval value env) (fun o AN=>wpAny (model prog w) A (eval slice env) (fun i El=>El.TypeIs o T/\wpAny (model prog w) A (getItem o i) Q E El) E AN) E s) :
  wpAny (model prog w) A (eval (.Subscript value slice pos) env) Q E s:=by
 refine Subscript_ (wpAny_mono h (fun o AN h₁=>wpAny_mono h₁ (fun i El Mo=>?_) fun _ _ x=>x) fun _ _ x=>x);obtain ⟨hT,Mo⟩:=Mo;unfold subscriptTail;refine wpAny_bind ?_;rw [getitemInPython_of_ne hT.not_modules];refine wpAny_bind (wpAny_specialOf hT hl ?_);have fin:wpAny (model prog w) A (subscripted slice false o i) (fun r BW=>wpAny (model prog w) A (letTemporaryGo value o r >>= fun _=>pure r) Q E BW) E El:=by
  rw [hs o i];exact wpAny_operating (wpAny_mono Mo (fun r BW Mn=>wpAny_bind (wpAny_letTemporaryGo (wpAny_pure Mn))) fun _ _ x=>x)
 first
  | exact wpAny_pure (wpAny_bind fin)
  | exact wpAny_bind (wpAny_pure (wpAny_bind fin))
  | exact wpAny_bind fin
theorem L5 {X:Cx} {pins:List (Addr × Obj)} {σ:St} {H:Hp} {s:Shared} {a:Addr} {y:V} {o:Option V} (I:An X pins σ H s) (g:BN H a y o):s.TypeIs (.ref a) "dict":=by
 rcases g with ⟨kvs,k,e,_,_⟩ | ⟨kvs,k,b,e,_,_,_⟩
 ·obtain ⟨_,_,vs,_,dd⟩:=Iv I.hok e;exact dd.typeIs
 ·obtain ⟨_,_,xs,_,dd⟩:=Ir I.hok e;exact dd.typeIs
def tDGet (td ty:TE):TE:=fun σ H Q=>td σ H fun x H1=>ty σ H1 fun y H2=>∃ a v,x=.ref a/\BN H2 a y (some v)/\Q v H2
def tDIn (ty td:TE):TE:=fun σ H Q=>ty σ H fun y H1=>td σ H1 fun x H2=>∃ a o,x=.ref a/\BN H2 a y o/\Q (.bl o.isSome) H2
def RP (ty td:TE):TE:=fun σ H Q=>ty σ H fun y H1=>td σ H1 fun x H2=>∃ a o,x=.ref a/\BN H2 a y o/\Q (.bl (!o.isSome)) H2
def sDPut (td ty tv:TE):TS:=fun D σ H=>tv σ H fun v H1=>td σ H1 fun x H2=>ty σ H2 fun y H3=>∃ a H4,x=.ref a/\DL H3 a y v H4/\D.nx σ H4
def sDDel (td ty:TE):TS:=fun D σ H=>td σ H fun x H1=>ty σ H1 fun y H2=>∃ a kvs k,x=.ref a/\H2 a=some (.dK kvs)/\y=kV k/\(Bc kvs k).isSome=true/\D.nx σ (upd H2 a (.dK (Iu kvs k)))
section
variable {X:Cx} {o i e value:Expr} {pos pos' tpos:Pos} {td ty tv:TE}
theorem Bm (hu:X.A.units + 1 < cLine) (ho:PE X o td) (hi:PE X i ty) (hs:NoSl i):PE X (.Subscript o i pos) (tDGet td ty):=by
 intro pins s σ H Q I h;refine RR PySem.F.slot_dict_getitem.lookup hs (B5 (ho (pins:=pins) s σ H _ I h) fun u s1 ⟨x,H1,I1,rx,q1⟩=>B5 (hi (pins:=pins) s1 σ H1 _ I1 q1) fun iv s2 ⟨y,H2,I2,ry,a,v,ex,g,q2⟩=>?_);subst ex;obtain rfl:u=Value.ref a:=rx;exact ⟨L5 I2 g,Pf hu I2 g ry fun w' s3 I3 Oq=>⟨v,H2,I3,Oq,q2⟩⟩
theorem Ut (hu:X.A.units + 1 < cLine) (hi:PE X i ty) (ho:PE X o td):PC X .In i o (tDIn ty td):=by
 intro pins s σ H Q I h;refine B5 (hi (pins:=pins) s σ H _ I h) fun iv s1 ⟨y,H1,I1,ry,q1⟩=>B5 (ho (pins:=pins) s1 σ H1 _ I1 q1) fun u s2 ⟨x,H2,I2,rx,a,ov,ex,g,q2⟩=>?_
 subst ex;obtain rfl:u=Value.ref a:=rx;exact d_in hu I2 g ry fun s3 I3=>⟨.bl ov.isSome,H2,I3,rfl,q2⟩
theorem Jz (hu:X.A.units + 1 < cLine) (hi:PE X i ty) (ho:PE X o td):PC X .NotIn i o (RP ty td):=by
 intro pins s σ H Q I h;refine B5 (hi (pins:=pins) s σ H _ I h) fun iv s1 ⟨y,H1,I1,ry,q1⟩=>B5 (ho (pins:=pins) s1 σ H1 _ I1 q1) fun u s2 ⟨x,H2,I2,rx,a,ov,ex,g,q2⟩=>?_
 subst ex;obtain rfl:u=Value.ref a:=rx;exact SQ hu I2 g ry fun s3 I3=>⟨.bl (!ov.isSome),H2,I3,rfl,q2⟩
theorem BY (hu:X.A.units + 1 < cLine) (ho:PE X o td) (hi:PE X i ty) (hv:PE X value tv) (hs:swapsWith value (some (.Subscript o i pos')) pos.line X.env=pure false) :
  PS X (.Assign [.Subscript o i pos'] value pos) (sDPut td ty tv):=by
 intro pins s σ H D I h;refine wpAny_Assign_Subscript (B5 (hv (pins:=pins) s σ H _ I h) fun r s1 ⟨v,H1,I1,rv,q1⟩=>B5 (ho (pins:=pins) s1 σ H1 _ I1 q1) fun u s2 ⟨x,H2,I2,rx,q2⟩=>B5 (hi (pins:=pins) s2 σ H2 _ I2 q2) fun iv s3 ⟨y,H3,I3,ry,a,H4,ex,g,q3⟩=>?_) hs;subst ex;obtain rfl:u=Value.ref a:=rx;exact Pd hu I3 g ry rv fun s4 I4=>⟨σ,H4,I4,q3⟩
theorem Sd (ho:PE X o td) (hi:PE X i ty):PS X (.Delete [.Subscript o i tpos] pos) (sDDel td ty):=by
 intro pins s σ H D I h;refine wpAny_Delete (wpAny_deleteEach_cons (wpAny_delete_Subscript (B5 (ho (pins:=pins) s σ H _ I h) fun u s1 ⟨x,H1,I1,rx,q1⟩=>B5 (hi (pins:=pins) s1 σ H1 _ I1 q1) fun iv s2 ⟨y,H2,I2,ry,a,kvs,k,ex,e,ey,l,q2⟩=>?_)));subst ex ey;obtain rfl:u=Value.ref a:=rx;exact Pg I2 e ry l fun s3 I3=>wpAny_deleteEach_nil ⟨σ,_,I3,q2⟩
end
theorem Iw {P:Program} {w:World} {H:Hp} (h:Heap) (hb:sysModules < h.objs.size):A5 P w H (h.push { cls:=.type "dict",data:=.dict #[] }) h.objs.size (.dK []):=
 ⟨Zd _,beq_eq_false_iff_ne.mpr (Ne.symm (YF hb)),[],.nil,Heap.DictOf.new h⟩
theorem L4 {P:Program} {w:World} {H:Hp} (h:Heap) (hb:sysModules < h.objs.size):A5 P w H (h.push { cls:=.type "dict",data:=.dict #[] }) h.objs.size (.dT []):=
 ⟨Zd _,beq_eq_false_iff_ne.mpr (Ne.symm (YF hb)),[],.nil,_,#[],0,YD _ rfl,⟨rfl,rfl,rfl⟩,rfl,rfl,ZZ⟩
def Ua:TE:=fun _ H Q=>∀ p,H p=none->Q (.ref p) (upd H p (.dK []))
def TZ:TE:=fun _ H Q=>∀ p,H p=none->Q (.ref p) (upd H p (.dT []))
section
variable {X:Cx} {pos:Pos}
theorem Lc:PE X (.Dict [] [] pos) Ua:=fun pins s σ H Q I h=>
 wpAny_Dict_empty ⟨.ref s.heap.objs.size,_,I.laid (a:=s.heap.objs.size) (o:=.dK []) (t':=s.toks) (fun _ _ q=>Y2 _ q) (Y7 _) (Iw s.heap I.big),rfl,h _ (I.hok.fresh (Y7 _))⟩
theorem HD:PE X (.Dict [] [] pos) TZ:=fun pins s σ H Q I h=>
 wpAny_Dict_empty ⟨.ref s.heap.objs.size,_,I.laid (a:=s.heap.objs.size) (o:=.dT []) (t':=s.toks) (fun _ _ q=>Y2 _ q) (Y7 _) (L4 s.heap I.big),rfl,h _ (I.hok.fresh (Y7 _))⟩
end
def HU (kvs more:List (A6 × V)):List (A6 × V):=more.foldl (fun acc kv=>Br acc kv.1 kv.2) kvs
structure M2 (X:Cx) (o:Expr) (m:Str) (apos:Pos) (e f:Expr) (E5:Pos):Prop where
 base:attributeBase o m X.env (eval o X.env)=eval o X.env
 few:((backTo E5 (starEach [e,f] X.env)).all (fun x=>!x.1) && (backToKw E5 (keywordEach [] X.env)).all (fun x=>x.1.isSome)
  && decide (([e,f]:List Expr).length + ([]:List Keyword).length + (if ([]:List Keyword).isEmpty then 0 else 1) < 30))=true
 line:(apos.endLine == E5.line)=true
 trees:backTo E5 (starEach [e,f] X.env)=[(false,eval e X.env),(false,eval f X.env)]
def IsD (H:Hp) (a:Addr):Prop:=(∃ kvs,Rd H a (.dK kvs))\/∃ kvs,Rd H a (.dT kvs)
theorem U9 {X:Cx} {pins:List (Addr × Obj)} {σ:St} {H:Hp} {s:Shared} {a:Addr} (I:An X pins σ H s) (d:IsD H a) :
  s.TypeIs (.ref a) "dict"/\(∀ b,Value.ref a=.ref b->∃ ob,s.heap.get? b=some ob/\ob.dict=none)/\(a == sysModules)=false:=by
 rcases d with ⟨kvs,e⟩ | ⟨kvs,e⟩
 ·obtain ⟨_,hd,vs,_,dd⟩:=Iv I.hok e;refine ⟨dd.typeIs,fun b q=>?_,hd⟩;cases q
  obtain ⟨ob,_,_,h1,h2,_⟩:=dd;exact ⟨ob,h1,h2.2.1⟩
 ·obtain ⟨_,hd,xs,_,dd⟩:=Ir I.hok e;refine ⟨dd.typeIs,fun b q=>?_,hd⟩;cases q
  obtain ⟨ob,_,_,h1,h2,_⟩:=dd;exact ⟨ob,h1,h2.2.1⟩
section
variable {X:Cx} {pins:List (Addr × Obj)} {σ:St} {H:Hp} {s:Shared} {a:Addr} {y d:V} {u r:Value} {o:Option V} {A:Around} {E:Value->Shared->Prop}
theorem UR {Q:Value->Shared->Prop} (hu:A.units + 1 < cLine) (I:An X pins σ H s) (g:BN H a y o) (ry:A3 y u) (rd:A3 d r) (h:∀ w' s',An X pins σ H s'->A3 (o.getD d) w'->Q w' s') :
  wpAny (model X.prog X.w) A (call (.builtin "dict.get") [.ref a,u,r]) Q E s:=by
 rcases g with ⟨kvs,k,e,ey,l⟩ | ⟨kvs,k,b,e,ey,eb,l⟩
 ·subst ey;obtain ⟨z,hd,vs,rel,dd⟩:=Iv I.hok e;refine call_meetsIn PySem.F.slot_dict_get dd.typeIs PySem.F.entry_dict_get (PySem.F.args_dict_get_3 _ _ _) (meets_dict_get_default (AO X.prog X.w) a (GA ry) hd r) ⟨_,dd.mapOf,h _ _ (I.tok _) ?_⟩;rw [l];exact (rel.val k).getD rd
 ·subst ey;cases (show u=Value.ref b from ry)
  obtain ⟨z,hd,xs,rel,dd⟩:=Ir I.hok e;refine call_meetsIn PySem.F.slot_dict_get dd.typeIs PySem.F.entry_dict_get (PySem.F.args_dict_get_3 _ _ _) (meetsH_dict_get_default (tupleKind (AO X.prog X.w)) a b hd r) ⟨tupleKind_room_in1 hu,k,xs,Fo I.hok eb,dd,h _ _ (I.tok _) ?_⟩;rw [l];exact (rel.val k).getD rd
end
def Ub (td ty tx:TE):TE:=fun σ H Q=>td σ H fun x H1=>∃ a,x=.ref a/\IsD H1 a/\ty σ H1 fun y H2=>tx σ H2 fun z H3=>∃ o,BN H3 a y o/\Q (o.getD z) H3
section
variable {X:Cx} {o e f:Expr} {apos E5:Pos} {td ty tx:TE}
theorem Q9 (hu:X.A.units + 1 < cLine) (ho:PE X o td) (he:PE X e ty) (hf:PE X f tx) (m:M2 X o "get" apos e f E5):PE X (.Call (.Attribute o "get" apos) [e,f] [] E5) (Ub td ty tx):=by
 intro pins s σ H Q I h;refine wpAny_Call_method m.base m.few m.line PySem.F.plainAttrs_dict PySem.F.slot_dict_get PySem.F.type_dict_get (B5 (ho (pins:=pins) s σ H _ I h) fun u s1 ⟨x,H1,I1,rx,a,ex,d,q1⟩=>?_);subst ex;obtain rfl:u=Value.ref a:=rx;obtain ⟨t1,t2,_⟩:=U9 I1 d;refine ⟨t1,t2,?_⟩;rw [m.trees];refine Calls.callWith_builtin rfl (Calls.evalArgs_plain (Calls.spliced_cons (B5 (he (pins:=pins) s1 σ H1 _ I1 q1) fun iv s2 ⟨y,H2,I2,ry,q2⟩=>
  Calls.spliced_cons (B5 (hf (pins:=pins) s2 σ H2 _ I2 q2) fun fv s3 ⟨z,H3,I3,rz,ov,g,q3⟩=>Calls.spliced_nil ?_))))
 exact UR hu I3 g ry rz fun w' s4 I4 Oq=>⟨_,H3,I4,Oq,q3⟩
end
section
variable {X:Cx} {pins:List (Addr × Obj)} {σ:St} {H:Hp} {s:Shared} {a:Addr} {kvs:List (A6 × V)} {A:Around} {E:Value->Shared->Prop}
end
section
variable {X:Cx} {pins:List (Addr × Obj)} {σ:St} {H:Hp} {s:Shared} {a:Addr} {y:V} {u:Value} {A:Around} {E:Value->Shared->Prop}
end
end L2
namespace Att
open PySem PySem.W PySem.Calls PyProof.Rows
theorem GW {P:Params} {h:Heap}:∀ (ns:List Int) (vs:List Value),WellAll P h vs (ns.map WData.int)->IntsAre vs ns:=by
 intro ns;induction ns with
 | nil=>
  intro vs w;rw [dh] at w;cases w
  exact .nil
 | cons n ns ih=>
  intro vs w;rw [YK] at w;cases w with
  | cons a b=>
   cases a
   exact .cons _ _ (ih _ b)
theorem Oo {l:OpenLaw} {n:Nat} (hn:l.most=some n) {P:Params} {h:Heap} {args:List WData} {vals:List Value}
  (hpre:l.row.toRowW.claim.pre args=true) (hwl:WellAll P h vals args) :
  ∃ a vs ns,vals=[Value.ref a]/\args=[WData.list (ns.map WData.int)]/\h.get? a=some { cls:=.type "list",data:=.seq vs.toArray }/\IntsAre vs ns/\ns.length<=n:=by
 have hsh:WShape.hasAll [] args [.list .int]=true:=(pre_splitW hpre).1;have hc:l.pre.holds [] { args:=args } = true:=(pre_splitW hpre).2;obtain ⟨d,r,rfl,h1,h2⟩:=hasAllW_cons hsh;obtain rfl:=hasAllW_nil h2;obtain ⟨xs,rfl,h3⟩:=hasW_list h1;obtain ⟨ns,rfl⟩:=items_int h3;have hlen:ns.length<=n:=by
  unfold OpenLaw.pre at hc;have h4:(WTm.not (.lt (.lit (.int (n:Int))) (.len (.arg 0)))).holds [] { args:=[.list (ns.map .int)] } = true:=by
   have h4:=(holds_andW hc).1;rw [hn] at h4;exact h4
  have h5:=condW_of h4 (w_not (w_lt w_lit (w_len_list (w_arg rfl))));rw [Y0] at h5;refine Nat.le_of_not_lt fun q=>?_
  have q':(n:Int) < ((ns.length:Nat):Int):=by lia
  first
   | (rw [decide_eq_true q'] at h5; exact absurd h5 (by decide))
   | (simp at h5; lia)
 cases hwl with
 | cons w1 w2=>
  cases w2
  cases w1 with
  | list ho hall=>exact ⟨_,_,ns,rfl,rfl,ho,GW ns _ hall,hlen⟩
theorem O0 (l:OpenLaw) (args:List WData):l.row.toRowW.claim.post args (.bool true) args=true:=
 postW_of (r:=l.row.toRowW) (X:=(true == true))
  (show WShape.has [] (.bool true) .bool=true by first | rfl | decide | simp [WShape.has,WShape.arms,WShape.armsAll])
  (show (WTm.eq .res (.lit (.bool true))).value [] { args:=args,res:=some (.bool true),after:=args } = some (.bool (true == true)) from w_eq_bool (w_res rfl) w_lit) rfl
theorem attach_call {l:OpenLaw} {n:Nat} {q:Program} {loose:List Str} {XP:(Str->Option Value)->Heap->Prop} {YP:World->Heap->Prop} {d:DefRec}
  (hn:l.most=some n) (hdf:d.params.defaults=[])
  (call:∀ (w:World) (s₀ AN:Shared) (mg mb:Str->Option Value) (fa:Addr) (o:Obj) (pm cd doc:Value) (a:Addr) (vs:List Value) (ns:List Int),
   Ground q loose [] XP w s₀ mg mb AN.heap->YP w AN.heap ->
   AN.heap.get? fa=some o->o.data=.func (docDef d.name d.params d.body d.scope pm cd doc)->AN.heap.CodeRec cd d.name->mg d.name=some (.ref fa) ->
   AN.heap.get? a=some { cls:=.type "list",data:=.seq vs.toArray }->IntsAre vs ns->ns.length<=n->AN.gens=#[] ->
   codeAny (model l.prog w) callerA (.call (.ref fa) ⟨[.ref a],[]⟩) (fun r s'=>r=.ok (.ret (.bool true))/\OldK AN.heap s'.heap/\s'.os=AN.os/\AllBare s'.gens) AN) :
  WalkO q loose XP YP l.row.toRowW d [] (fun f vs=>PySem.call f vs):=by
 intro w s₀ AN mg mb G Y fa o pm cd doc dV kV ho hd hcd hD hmg hg args vals as hpre hlay hrd hwl hlo;obtain rfl:dV=.none:=Dflts.none hD hdf;obtain rfl:kV=.none:=Dflts.noKw hD;obtain ⟨a,vs,ns,rfl,rfl,hobj,hints,hlen⟩:=Oo hn hpre hwl;refine enter_call (codeAny_mono (call w s₀ AN mg mb fa o pm cd doc a vs ns G Y ho (fd_plain hd) hcd hmg hobj hints hlen hg) fun r s' hq=>?_);obtain ⟨rfl,h2,h3,h4⟩:=hq;exact ⟨.inl ⟨.bool true,.bool true,[],rfl,fun _=>rfl,.bool true,O0 l _,fun _=>⟨List.Pairwise.nil,fun _ hm=>(nomatch hm)⟩⟩,h2,h3,h4⟩
section
variable {prog:Program} {w:World} {A:Around} {E:Value->Shared->Prop} {s:Shared} {K:Frag}
end
end Att
namespace L2
open PySem PySem.Spec PyProof.Rows
theorem Jm:∀ {vs:List Value} {ns:List Int},IntsAre vs ns->A4 (ns.map V.int) vs
 | _,_,.nil=>.nil
 | _,_,.cons n t h=>.cons ⟨t,rfl⟩ (Jm h)
def Tb (H:Hp):Prop:=∀ b,H b=none\/∃ o xs,H b=some (.frz o (.lst xs))
theorem QN {P:Program} {w:World} {K:Y3} {mg mb:Str->Option Value} {CX:R4} {k:Nat} {fa a:Addr} {fd:FuncData} {x:Str} {sp:Sp} {AN:Shared} {vs:List Value} {ns:List Int}
  (KX:K.In AN.heap) (hns:AN.heap.Ns mainGlobals mg) (hb:AN.heap.Ns builtinsNs mb) (hbb:∀ x:Str,x ≠ "__name__"->mb x=bootBuiltins x) (hlim:AN.heap.NoLimit) (hg:AN.gens=#[])
  (ha:AN.heap.get? a=some { cls:=.type "list",data:=.seq vs.toArray }) (hi:IntsAre vs ns) (hl:ns.length<=sizeLine) (hr:Ee k callerA)
  (F:∀ base:Heap,K.In base->base.Ns mainGlobals mg->AJ P w K mg base CX k fa fd [x] sp) (hbind:∀ (s:Shared) (u:Value),BindsTo s fd ⟨[u],[]⟩ [(x,u)])
  (hsp:∀ H:Hp,Tb H->AB K H a (ns.map V.int)->sp [.ref a] H (fun v _=>v=.bl true) fun _ _ _=>False)
  (hCX:∀ H e s',CX [] H AN (fun _ _ _=>False) e s'->False) :
  codeAny (model P w) callerA (.call (.ref fa) ⟨[.ref a],[]⟩) (fun r s'=>r=.ok (.ret (.bool true))/\OldK AN.heap s'.heap/\s'.os=AN.os/\AllBare s'.gens) AN:=by
 have rv:=Jm hi;have lenV:=hi.length;have core:∀ H:Hp,Tb H->AB K H a (ns.map V.int)->F1 P w H AN.heap->(∀ b,H b ≠ none->b=a)->(H a ≠ none->K.lookup a=none) ->
   codeAny (model P w) callerA (.call (.ref fa) ⟨[.ref a],[]⟩) (fun r s'=>r=.ok (.ret (.bool true))/\OldK AN.heap s'.heap/\s'.os=AN.os/\AllBare s'.gens) AN:=by
  intro H hO hS hok hA hK;have base_of:∀ {b:Addr} {o:Obj},AN.heap.get? b=some o->H b=none->(Kx AN.heap H).get? b=some o:=fun e n=>QZ e n
  have noA:∀ {b:Addr} {o:Obj} {es:Array DictEntry} {ep:Nat},AN.heap.get? b=some o->o.data=.dict es ep->H b=none:=fun {b o es ep} e d=>by
   cases q:H b with
   | none=>rfl
   | some u=>
    have e':b=a:=hA b (by rw [q]; simp);subst e';rw [ha] at e; cases e;have d':Data.seq vs.toArray _=Data.dict es ep:=d;cases d'
  have nsK:∀ {b:Addr} {m:Str->Option Value},AN.heap.Ns b m->(Kx AN.heap H).Ns b m:=fun {b m} ⟨o,es,ep,e,d,r⟩=>⟨o,es,ep,base_of e (noA e d),d,r⟩
  have hKb:K.In (Kx AN.heap H):=fun b o e=>base_of (KX b o e) (by
   cases q:H b with
   | none=>rfl
   | some u=>
    have e':b=a:=hA b (by rw [q]; simp);subst e';rw [hK (by rw [q]; simp)] at e; cases e)
  have hM:Mod K mg (Kx AN.heap H):=⟨hKb,nsK hns,⟨mb,nsK hb,hbb⟩,let ⟨mc,h1,h2⟩:=hlim; ⟨mc,nsK h1,h2⟩⟩
  have e0:Te P w K mg (Kx AN.heap H) callerA [] AN H:=⟨rfl,hM,fun b o e=>Sm e,Nat.le_of_eq (OP _ _),trivial,fun b hb=>absurd (show b ∈ ([]:List Addr) from hb) (by simp),hok,.of_eq hg⟩
  refine codeAny_mono ((F _ hKb (nsK hns)).run callerA [] AN H ⟨[.ref a],[]⟩ [.ref a] [.ref a] _ _ hr e0 (hbind AN (.ref a)) (.cons rfl .nil) (hsp H hO hS)) fun r s' h=>?_
  cases r with
  | error e=>exact (hCX H e s' h).elim
  | ok fl=>
   cases fl with
   | next=>exact False.elim h
   | brk=>exact False.elim h
   | cont=>exact False.elim h
   | ret u=>
    obtain ⟨v,H',os,bare,un,X4,r',q⟩:=h;have q':v=.bl true:=q;subst q';obtain rfl:u=Value.bool true:=r';refine ⟨rfl,OldK.of_keep fun b o e=>?_,os,bare⟩;cases q:H b with
    | none=>exact un.keep b o e q (by intro z; exact absurd (show b ∈ ([]:List Addr) from z) (by simp)) (by simp)
    | some u=>
     rcases hO b with z | ⟨ob,xs,z⟩
     ·rw [q] at z; cases z
     ·have z2:=un.frzs b ob _ z;obtain ⟨e1,_⟩:=hok b _ z;obtain ⟨e2,_⟩:=X4 b _ z2;rw [e] at e1; cases e1;exact e2
 cases hk:K.lookup a with
 | some o=>
  have e:=KX a o hk;rw [ha] at e;cases e
  refine core (fun _=>none) (fun _=>.inl rfl) (.inr ⟨_,vs.toArray,_,hk,rfl,rfl,rfl,by rw [YN,lenV]; exact hl,by simpa using rv⟩) (fun b u z=>by have z':(none:Option HO)=some u:=z; cases z') (fun b z=>absurd rfl z) fun z=>absurd rfl z
 | none=>
  refine core (fun b=>if b=a then some (.frz { cls:=.type "list",data:=.seq vs.toArray } (.lst (ns.map V.int))) else none) (fun b=>?_) (.inl (.inr ⟨{ cls:=.type "list",data:=.seq vs.toArray },if_pos rfl⟩)) (fun b u z=>?_) (fun b z=>?_) fun _=>hk
  ·by_cases hb:b=a
   ·exact .inr ⟨_,_,if_pos hb⟩
   ·exact .inl (if_neg hb)
  ·by_cases hb:b=a
   ·have z':=(if_pos hb).symm.trans z;cases z'
    subst hb;exact ⟨ha,by rw [Y0]; exact hl,vs,_,rv,ha⟩
   ·have z':=(if_neg hb).symm.trans z;cases z'
  ·by_cases hb:b=a
   ·exact hb
   ·exact absurd (if_neg hb) z
theorem walk_of {l:b5} {n k:Nat} {q:Program} {loose:List Str} {XP:(Str->Option Value)->Heap->Prop} {YP:World->Heap->Prop} {d:DefRec} {K:Params->Y3} {CX:World->R4} {sp:World->Sp} {x:Str}
  (hn:l.most=some n) (X7:n<=sizeLine) (hdf:d.params.defaults=[]) (hr:Ee k callerA)
  (hY:∀ (w:World) (h:Heap),YP w h->(K w.params).In h)
  (F:∀ (w:World) (mg:Str->Option Value) (fa:Addr) (h:Heap),(K w.params).In h->h.Ns mainGlobals mg->mg d.name=some (.ref fa) ->
   ∃ fd:FuncData,(∀ (s:Shared) (u:Value),BindsTo s fd ⟨[u],[]⟩ [(x,u)]) /\
    ∀ base:Heap,(K w.params).In base->base.Ns mainGlobals mg->AJ l.prog w (K w.params) mg base (CX w) k fa fd [x] (sp w))
  (hsp:∀ (w:World) (H:Hp) (a:Addr) (ns:List Int),ns.length<=n->Tb H->AB (K w.params) H a (ns.map V.int)->sp w [.ref a] H (fun v _=>v=.bl true) fun _ _ _=>False)
  (hCX:∀ (w:World) (H:Hp) (s:Shared) (e:Value) (s':Shared),CX w [] H s (fun _ _ _=>False) e s'->False) :
  cN q loose XP YP l.row.toRowW d [] (fun f vs=>PySem.call f vs):=by
 refine Att.attach_call hn hdf fun w s₀ AN mg mb fa o pm cd doc a vs ns G Y ho hd hcd hmg hobj hints hlen hg=>?_
 have KX:=hY w _ Y;obtain ⟨fd,hb,hF⟩:=F w mg fa _ KX G.T.g hmg;exact QN KX G.T.g G.T.b G.T.builtins G.T.nolimit hg hobj hints (YU hlen X7) hr hF hb (fun H hO hS=>hsp w H a ns hlen hO hS) fun H e s'=>hCX w H AN e s'
def Ea (s:Stmt):Arguments:=match s with
 | .FunctionDef _ a _ _ _ _ _ _ _ _=>a
 | _=>{ posonlyargs:=[],args:=[],vararg:=none,kwonlyargs:=[],kw_defaults:=[],kwarg:=none,defaults:=[] }
def Cn (s:Stmt):List Stmt:=match s with
 | .FunctionDef _ _ b _ _ _ _ _ _ _=>b
 | _=>[]
def Ao (s:Stmt):Scope:=match s with
 | .FunctionDef _ _ _ _ _ _ sc _ _ _=>sc
 | _=>{ kind:=.function,names:=[],isGenerator:=false,isCoroutine:=false }
abbrev Cb:R4:=fun _ _ _ _ _ _=>False
abbrev E0:XK:=fun _ _ _=>False
theorem Au {X:Cx}:M6 Cb X E0:=fun _ _ _ _ _ _ _ h=>h.elim
structure EO (K:Y3) (x qual:Str) (st:Stmt) (f:Addr) (fd:FuncData):Prop where
 ex:∃ (oc:Value) (od:Option Addr) (kV doc pm:Value) (an:Option Addr) (cdv ct:Value) (osl:Array (Option Value)),
  fd=ZK x qual (Ea st) (Cn st) (Ao st) .none kV doc pm an cdv ct/\K.lookup f=some ⟨oc,od,.func fd,osl⟩/\aO K cdv qual=true
 kp:aN K (.ref f)=true
section
variable {P:Program} {w:World} {K:Y3} {mg:Str->Option Value} {base:Heap}
theorem EO.ok {x qual:Str} {st:Stmt} {f:Addr} {fd:FuncData} {N ps:List Str} {k:Nat} {sp:Sp} (F:EO K x qual st f fd) (S:AD N ps (Ao st)) (len:∀ vs H Q E,sp vs H Q E->vs.length=ps.length)
  (hbody:∀ (cdv:Value) (A:Around) (outer:List Env) (s:Shared) (H:Hp) (vs:List V) (Q:VK) (E:XK),Ee k (A.deeper (envOfC qual (Ao st) s.heap.objs.size f cdv))->sp vs H Q E ->
   ∃ t,LC (Jb Cb P w K mg base N qual (Ao st) f cdv A outer s H E).nox (Cn st) t/\t { nx:=fun _ H'=>Q .non H',rt:=Q } (start N vs) H):AJ P w K mg base Cb (k + 1) f fd ps sp:=by
 obtain ⟨oc,od,kV,doc,pm,an,cdv,ct,osl,rfl,lk,hcd⟩:=F.ex;refine fn_of lk hcd S len fun A outer s H vs Q E hr hsp=>?_
 obtain ⟨t,h,q⟩:=hbody cdv A outer s H vs Q E hr hsp;exact ⟨t,h.nox,q⟩
theorem EO.binds {x qual:Str} {st:Stmt} {f:Addr} {fd:FuncData} {ps:List Str} (F:EO K x qual st f fd)
  (h:∀ (kV doc pm:Value) (an:Option Addr) (cdv ct:Value) (us:List Value),us.length=ps.length->bindArgs (ZK x qual (Ea st) (Cn st) (Ao st) .none kV doc pm an cdv ct) ⟨us,[]⟩=pure (ps.zip us)):GJ K fd ps []:=by
 obtain ⟨oc,od,kV,doc,pm,an,cdv,ct,osl,rfl,lk,hcd⟩:=F.ex;exact .all (h kV doc pm an cdv ct)
theorem UK {x qual:Str} {st:Stmt} {f:Addr} {oc:Value} {od an:Option Addr} {osl:Array (Option Value)} {kV doc pm cdv ct:Value} (l:K.lookup f=some ⟨oc,od,.func (ZK x qual (Ea st) (Cn st) (Ao st) .none kV doc pm an cdv ct),osl⟩)
  (c:aO K cdv qual=true) (k:aN K (.ref f)=true):EO K x qual st f (ZK x qual (Ea st) (Cn st) (Ao st) .none kV doc pm an cdv ct):=⟨⟨oc,od,kV,doc,pm,an,cdv,ct,osl,rfl,l,c⟩,k⟩
end
theorem Ey {A:Around} {k:Nat} (hr:Ee k A):A.units + 1 < cLine:=Nat.lt_of_le_of_lt (Nat.add_le_add_left (by decide:1<=64) _) hr.units
section
variable {X:Cx}
theorem pv (i:Nat) {x:Str} {pos:Pos} (hN:X.N[i]? = some x:=by rfl) (hv:Vis X.env.scope x:=by first | exact Or.inl rfl | exact Or.inr (Or.inl rfl) | exact Or.inr (Or.inr rfl)) (hd:(x == ("__debug__":Str))=false:=by decide)
  (hcd:(x == ("__classdict__":Str))=false:=by decide):PE X (.Name x pos) (RN i):=Ur hN hv hd hcd
end
theorem GV {A B:Prop} (h:B):if false=true then A else B:=by
 rw [if_neg YI];exact h
theorem IX {A B:Prop} (h:A):if true=true then A else B:=by
 rw [if_pos rfl];exact h
theorem BI {c A B:Prop} [Decidable c] (h1:c->A) (h2:¬ c->B):if c then A else B:=by
 by_cases h:c
 ·rw [if_pos h];exact h1 h
 ·rw [if_neg h];exact h2 h
def Ar (H H':Hp):Prop:=∀ b o,H b=some o->H' b=some o
theorem Ar.refl (H:Hp):Ar H H:=fun _ _ h=>h
theorem Ar.trans {H H1 H2:Hp} (a:Ar H H1) (b:Ar H1 H2):Ar H H2:=fun c o h=>b c o (a c o h)
theorem Ar.free {H H':Hp} (e:Ar H H') {l:Addr} (h:H' l=ae):H l=ae:=by
 cases q:H l with
 | none=>rfl
 | some o=>
  rw [e l o q] at h;cases h
section
variable {κ:Type} [DecidableEq κ]
theorem PJ {kvs:List (κ × V)} {k:κ} (h:Bc kvs k=none):¬ k ∈ kvs.map (·.1):=by
 intro m;obtain ⟨p,hp,e⟩:=YA.mp m;have q:(kvs.any fun kv=>decide (kv.1=k))=true:=ZQ.mpr ⟨p,hp,decide_eq_true e⟩;rw [Cg,h] at q;exact absurd q (by simp)
theorem RK {kvs:List (κ × V)} {k:κ} {v:V} (h:Bc kvs k=some v):k ∈ kvs.map (·.1):=by
 have q:(kvs.any fun kv=>decide (kv.1=k))=true:=by
  rw [Cg,h];all_goals rfl
 obtain ⟨p,hp,e⟩:=ZQ.mp q;exact YA.mpr ⟨p,hp,of_decide_eq_true e⟩
end
abbrev Am (X:Cx) (scope:Scope) (cl:List (Str × Addr)) (N:List Str) (s2:Shared) (H:Hp) (C:Addr) (fp:List Addr):Cx where
 prog:=X.prog
 w:=X.w
 K:=X.K
 mg:=X.mg
 base:=X.base
 A:=X.A
 N:=N
 s₀:=s2
 H₀:=H
 env:=compEnvC scope cl C X.env
 outer:=X.stack
 stack:=X.stack
 ex:=fp
 fn:=fun _=>false
 calm:=X.calm
 pn:=[]
 xe:=fun _ _=>False
structure A2 (X:Cx) (scope:Scope) (cl:List (Str × Addr)):Prop where
 clos:closureFor scope X.env=pure cl
 cell:∀ y ∈ scope.names,y.2 ≠ .cell
 kind:scope.kind=.function
 names:∀ y ∈ scope.names,y.2=.local->scope.names.lookup y.1=some .local
 sub:∀ x c,cl.lookup x=some c->X.env.cells.lookup x=some c
 has:∀ x,((relabel scope X.env).names.lookup x=some .cell\/(relabel scope X.env).names.lookup x=some .free)->∃ c,cl.lookup x=some c
def AH (X:Cx) (cl:List (Str × Addr)) (scope:Scope) (N:List Str) (σ Av:St):Prop:=
 Av.length=N.length/\∀ (i:Nat) (x:Str) (v:V),N[i]? = some x->Av[i]? = some (some v) ->
  (∃ j:Nat,X.N[j]? = some x/\σ[j]? = some (some v))/\(X.env.kindOf x=some .cell\/X.env.kindOf x=some .free) /\
   ((relabel scope X.env).names.lookup x=some .cell\/(relabel scope X.env).names.lookup x=some .free)
theorem AH.none (X:Cx) (cl:List (Str × Addr)) (scope:Scope) (N:List Str) (σ:St):AH X cl scope N σ (N.map fun _=>ae):=by
 refine ⟨by simp,fun i x v h1 h2=>?_⟩;rw [Y9,h1] at h2;cases h2
section
variable {X:Cx} {pins:List (Addr × Obj)} {σ Av:St} {H H':Hp} {s2 s':Shared} {scope:Scope} {cl:List (Str × Addr)} {N:List Str} {fp:List Addr} {C D:Addr} {h₁ h':Heap} {t':Nat}
theorem IA (I:An X pins σ H s2) (hf:∀ b ∈ fp,Eg X pins H b) (hfo:∀ b ∈ fp,∃ o,s2.heap.get? b=some o) (co:A2 X scope cl) (hσ:AH X cl scope N σ Av)
  (k:∀ b o,s2.heap.get? b=some o->h₁.get? b=some o) (hD:s2.heap.objs.size<=D) (hC:s2.heap.objs.size<=C) (hDC:C ≠ D)
  (new:h₁.get? D=some { cls:=.type "list",data:=.seq ([]:List Value).toArray 0 }\/∃ n,h₁.get? D=some { cls:=.type "list",data:=.seq ([]:List Value).toArray n }) {m:Str->Option Value} (hn:h₁.Ns C m) :
  An (Am X scope cl N s2 H C fp) [] Av (upd H D (.lst [])) { s2 with heap:=h₁,toks:=t' }:=by
 have fD:H D=none:=I.hok.fresh hD;have fC:H C=none:=I.hok.fresh hC;have newO:A5 X.prog X.w (upd H D (.lst [])) h₁ D (.lst []):=by
  refine ⟨Zd _,[],?_⟩;rcases new with e | ⟨n,e⟩
  ·exact ⟨0,.nil,e⟩
  ·exact ⟨n,.nil,e⟩
 have lts:∀ b ∈ fp,b < s2.heap.objs.size:=fun b hb=>let ⟨_,e⟩:=hfo b hb; YC e
 have cells_lt:∀ x c,cl.lookup x=some c->c < s2.heap.objs.size:=fun x c e=>by
  obtain ⟨v,q⟩:=I.cell x c (co.sub x c e);exact q.lt
 have ok:Cx.Ok (Am X scope cl N s2 H C fp):=by
  refine ⟨I.ok.mod,?_,I.ok.glob,I.ok.blt,hC,?_,?_,?_,I.ok.hd,I.ok.frames,.inl rfl,?_,I.bs,YU I.ok.bsz I.sz,?_,?_,I.stack,I.stkFree⟩
  ·exact co.kind
  ·exact fun x y c e1 e2=>I.ok.inj x y c (co.sub x c e1) (co.sub y c e2)
  ·exact fun x h=>co.has x h
  ·exact fun x c h _=>by cases h
  ·intro b hb;refine ⟨fun e=>?_,fun x c e=>(hf b hb).2.2.2.2.1 x c (co.sub x c e)⟩;have z:=lts b hb;exact absurd (YG z hC) (by rw [show b=C from e]; exact Zp _)
  ·intro b o e hb;have Fb:b ∈ fp:=hb;rcases (hf b Fb).2.2.2.1 with z | z
   ·exact I.ok.noex b o e z
   ·exact absurd (YG (YC e) (YU I.ok.bsz z)) (Zp _)
  ·intro b hb hz;have Fb:b ∈ fp:=hb;obtain ⟨_,f1,f2,_⟩:=hf b Fb;rcases Y4.mp (I.stkSub b hz) with e | e
   ·exact f1 e
   ·exact f2 e
 refine ⟨ok,rfl,I.bare,Un.laid k hD fD,?_,?_,?_,?_,?_,I.hok.laid k hD newO,hσ.1⟩
 ·refine ⟨m,hn,fun i x v e1 e2 _=>?_⟩;obtain ⟨⟨j,j1,j2⟩,kk,kr⟩:=hσ.2 i x v e1 e2;obtain ⟨mo,_,hl⟩:=I.loc;obtain ⟨u,r,l⟩:=hl j x v j1 j2 (by
   rcases kk with z | z
   ·exact .inr (.inl z)
   ·exact .inr (.inr z))
  refine ⟨u,r,.inr ⟨kr,?_⟩⟩;obtain ⟨c,hc⟩:=co.has x kr;rcases l with ⟨z,_⟩ | ⟨_,c',Hn,hcell⟩
  ·rcases kk with q | q
   ·rw [z] at q; cases q
   ·rw [z] at q; cases q
  ·have e3:=co.sub x c hc;rw [Hn] at e3;have e4:c'=c:=YM.inj e3;subst e4;obtain ⟨o,ho,hd⟩:=hcell;exact ⟨c',hc,o,k _ o ho,hd⟩
 ·intro x c e;obtain ⟨v,o,ho,hd⟩:=I.cell x c (co.sub x c e);exact ⟨v,o,k _ o ho,hd⟩
 ·show upd H D (.lst []) C=none
  rw [Af hDC];exact fC
 ·intro x c e;rw [Af (YF (YG (cells_lt x c e) hD))];exact I.freeC x c (co.sub x c e)
 ·intro p hp;cases hp
theorem E7 {pl:List (Addr × Obj)} (I:An X pins σ H s2) (hf:∀ b ∈ fp,Eg X pins H b) (hC:s2.heap.objs.size<=C) (I2:An (Am X scope cl N s2 H C fp) pl Av H' s')
  (hs:Heap.SameBut C s'.heap h'):An X pins σ H' { s' with heap:=h' }:=by
 have nC:∀ b o,s2.heap.get? b=some o->b ≠ C:=fun b o e=>YF (YG (YC e) hC)
 have u:=I2.base;refine I.call' (s':={ s' with heap:=h' }) (ch:=fp) I2.os ⟨?_,?_,u.free,?_,u.tups,u.frzs,u.tbls⟩ ?_ I2.bare fun b hb=>?_
 ·exact fun b o e n h1 h2=>(hs.2 b (nC b o e)).trans (u.keep b o e n h1 h2)
 ·intro b o e n h1 h2;obtain ⟨sl,q⟩:=u.slot b o e n h1 h2;exact ⟨sl,(hs.2 b (nC b o e)).trans q⟩
 ·intro b o e h2;obtain ⟨o',q⟩:=u.there b o e h2;exact ⟨o',(hs.2 b (nC b o e)).trans q⟩
 ·intro b ob e;have hfree:H' C=none:=I2.free;refine (I2.hok b ob e).stay (fun c w' hc q=>(hs.2 c ?_).trans q) (fun _ q=>q) fun _ _ q=>q
  rintro rfl;rcases hc with rfl | hc
  ·rw [hfree] at e; cases e
  ·rw [hfree] at hc; cases hc
 ·obtain ⟨_,f1,_,f3,f4,f5⟩:=hf b hb;exact ⟨f3,f1,f4,f5⟩
end
section
variable {prog:Program} {w:World} {A:Around} {R:Result->Shared->Prop} {s:Shared}
theorem BS {elt target iter:Expr} {ifs:List Expr} {scope:Scope} {pos:Pos} {it acc:Value} {env:Env} (I:Nat->Shared->Prop)
  (turn:∀ n s,I n s->wpAny (model prog w) A (pyNext it) (fun r AN=>match r with
   | none=>R (.ok .next) AN
   | some v=>wpAny (model prog w) A (letOwnedTupleGo target it v) (fun _ KA=>wpAny (model prog w) A (assign target env v) (fun _ El=>
     wpAny (model prog w) A (forIn ifs true fun c r=>if r=true then do let ok <- isTrue c env (eval c env); pure (ForInStep.yield ok) else pure (ForInStep.yield r)) (fun ok BW=>
      if ok=true then wpAny (model prog w) A (eval elt env) (fun x PY=>
       wpAny (model prog w) A (call (.builtin "list.append") [acc,x]) (fun _ PX=>∃ m,m < n/\I m PX) (notedBy (model prog w) A env fun e s'=>R (.error e) s') PY) (notedBy (model prog w) A env fun e s'=>R (.error e) s') BW
      else ∃ m,m < n/\I m BW) (notedBy (model prog w) A env fun e s'=>R (.error e) s') El) (notedBy (model prog w) A env fun e s'=>R (.error e) s') KA) (notedBy (model prog w) A env fun e s'=>R (.error e) s') AN) (notedBy (model prog w) A env fun e s'=>R (.error e) s') s)
  (n:Nat) (h:I n s) :
  codeAny (model prog w) A (.compLoop (.ListComp elt [⟨target,iter,ifs,0⟩] scope pos) 0 it acc env) R s:=by
 refine codeAny_loop rfl I (fun n s hI=>?_) n h;show wpAny _ A ((compTurn (.ListComp elt [⟨target,iter,ifs,0⟩] scope pos) 0 it acc env).onRaise (fun x=>do noteFrame x env; theTreesLotGoes x)) _ _ s
 refine wpAny_noted ?_;rw [compTurn_list];refine wpAny_bind (wpAny_standAt (wpAny_bind (wpAny_mono (turn n s hI) (fun r AN h₁=>?_) fun _ _ h'=>h')));cases r with
 | none=>exact wpAny_pure h₁
 | some v=>
  refine wpAny_bind (wpAny_mono h₁ (fun _ KA QU=>?_) fun _ _ h'=>h');refine wpAny_bind (wpAny_mono QU (fun _ El Mo=>wpAny_bind (wpAny_mono Mo (fun ok BW Mn=>?_) fun _ _ h'=>h')) fun _ _ h'=>h');cases ok with
  | false=>exact wpAny_pure ⟨rfl,Mn⟩
  | true=>
   exact wpAny_bind (wpAny_bind (wpAny_mono Mn (fun x PY UE=>wpAny_bind (wpAny_mono UE (fun _ PX UD=>wpAny_pure (wpAny_pure ⟨rfl,UD⟩)) fun _ _ h'=>h')) fun _ _ h'=>h'))
end
def TH (X:Cx) (ifs:List Expr) (t:TT):Prop:=
 ∀ ⦃pins:List (Addr × Obj)⦄ (s:Shared) (σ:St) (H:Hp) (Q:Bool->Hp->Prop),An X pins σ H s->t σ H Q ->
  wpAny (model X.prog X.w) X.A (forIn ifs true fun c r=>if r=true then do let ok <- isTrue c X.env (eval c X.env); pure (ForInStep.yield ok) else pure (ForInStep.yield r)) (TP X pins σ Q) X.xe s
def K9:TT:=fun _ H Q=>Q true H
theorem AQ {X:Cx}:TH X [] K9:=fun _ _ _ H _ I h=>wpAny_tests_nil ⟨H,I,h⟩
theorem Dp {X:Cx} {c:Expr} {t:TT} (h:PT X c t):TH X [c] t:=fun pins s σ H Q I q=>wpAny_tests_one (h (pins:=pins) s σ H Q I q)
def MF (wi:TI) (g:TG) (tt:TT) (te:TE) (σ0:St->St):TE:=fun σ H Q=>wi σ H fun J H1=>∀ D,H1 D=none->∃ W:Nat->Nat->St->Hp->Prop,(∃ m,W 0 m (σ0 σ) (upd H1 D (.lst []))) /\
 ∀ i m Av H',W i m Av H'->(J.stop i H'/\Q (.ref D) H')\/(J.go i H'/\∀ x H2,J.yld i H' x H2->g x Av H2 fun Ay H3=>tt Ay H3 fun b H4=>
  if b=true then te Ay H4 (fun v H5=>∃ acc,H5 D=some (.lst acc)/\acc.length < sizeLine/\∃ m',m' < m/\W (i + 1) m' Ay (upd H5 D (.lst (acc ++ [v])))) else ∃ m',m' < m/\W (i + 1) m' Ay H4)
theorem Bv {X:Cx} {tg iter elt:Expr} {ifs:List Expr} {scope:Scope} {cl:List (Str × Addr)} {N:List Str} {pos:Pos} {wi:TI} {g:TG} {tt:TT} {te:TE} {σ0:St->St} (hc:X.calm=true) (co:A2 X scope cl)
  (hσ:∀ σ,σ.length=X.N.length->AH X cl scope N σ (σ0 σ)) (hi:PI X tg iter wi)
  (hb:∀ s2 H C fp,PG (Am X scope cl N s2 H C fp) tg g/\TH (Am X scope cl N s2 H C fp) ifs tt/\PE (Am X scope cl N s2 H C fp) elt te)
  (hs:∀ x,foldedSetIterable iter X.env x=pure x:=by intro _; rfl):PE X (.ListComp elt [⟨tg,iter,ifs,0⟩] scope pos) (MF wi g tt te σ0):=by
 intro pins s σ H Q I h;rw [eval_ListComp];refine wpAny_comprehension_free (use:=none) rfl hs co.clos co.kind co.names (wpAny_mono (hi (pins:=pins) s σ H _ I h) (fun xv s1 h1=>wpAny_mono h1 (fun itv s2 h2=>?_) fun _ _ e=>e) fun _ _ e=>e);obtain ⟨it,fp,tn,J,H2,rfl,I2,T,ET,f2,hW⟩:=h2;refine wpAny_newObj_type (wpAny_newFunctionEnv co.cell (by intro y hy; cases hy) (fun h₁ B4 Bn=>?_) co.kind);dsimp only at B4 Bn ⊢;generalize Ih:s2.heap.push { cls:=.type "list",dict:=none,data:=.seq ([]:List Value).toArray } = HH at B4 Bn ⊢;have Bz:HH.objs.size=s2.heap.objs.size + 1:=by rw [<-Ih,Zk]
 have old:∀ b o,s2.heap.get? b=some o->h₁.get? b=some o:=fun b o e=>
  Bn.extBut b o (YF (by rw [Bz]; exact YV (YC e))) (Y2 _ (Ih ▸ Y2 _ e))
 have newD:∃ n,h₁.get? s2.heap.objs.size=some { cls:=.type "list",data:=.seq ([]:List Value).toArray n }:=
  ⟨_,Bn.extBut _ _ (YF (by rw [Bz]; exact YZ _)) (Y2 _ (Ih ▸ YD _ rfl))⟩
 obtain ⟨W,⟨m0,w0⟩,turn⟩:=hW s2.heap.objs.size I2.fresh;have hfo:∀ b ∈ fp,∃ o,s2.heap.get? b=some o:=fun b hb=>let ⟨o,e,_⟩:=T.obj _ _ ET b hb; ⟨o,e⟩
 have I3:An (Am X scope cl N s2 H2 HH.objs.size fp) [] (σ0 σ) (upd H2 s2.heap.objs.size (.lst [])) { s2 with heap:=h₁,toks:=s2.toks + ([]:List (Str × Value)).length }:=
  IA I2 f2 hfo co (hσ σ I.len) old (Y7 _) (by rw [Bz]; exact Ze _) (Zx (by rw [Bz]; exact YZ _)) (.inr newD) B4
 have fC:s2.heap.objs.size<=HH.objs.size:=by rw [Bz]; exact Ze _
 obtain ⟨hg,ht,he⟩:=hb s2 H2 HH.objs.size fp;have loop:∀ BW:Shared,BW = { s2 with heap:=h₁,toks:=s2.toks + ([]:List (Str × Value)).length } ->
   codeAny (model X.prog X.w) X.A (.compLoop (.ListComp elt [⟨tg,iter,ifs,0⟩] scope pos) 0 (.ref it) (.ref s2.heap.objs.size) (compEnvC scope cl HH.objs.size X.env))
    (compPost (model X.prog X.w) X.A X.xe none (EP X pins σ Q) (.ref s2.heap.objs.size) HH.objs.size) BW:=by
  rintro BW rfl;have stat:∀ {H':Hp} ,(∀ b ∈ fp,H' b=none)->∀ b ∈ fp,Eg (Am X scope cl N s2 H2 HH.objs.size fp) [] H' b:=fun hn b hb=>by
   refine ⟨hn b hb,?_,?_,.inl hb,?_,fun p hp=>by cases hp⟩
   ·obtain ⟨o,e⟩:=hfo b hb;exact YF (show b < HH.objs.size by rw [Bz]; exact YV (YC e))
   ·intro hz;obtain ⟨_,q1,q2,_⟩:=f2 b hb;rcases Y4.mp (I2.stkSub b hz) with e | e
    ·exact q1 e
    ·exact q2 e
   ·exact fun x c e=>(f2 b hb).2.2.2.2.1 x c (co.sub x c e)
  refine BS (fun n s'=>∃ i Av H',An (Am X scope cl N s2 H2 HH.objs.size fp) [] Av H' s'/\tn i s'.heap/\(∀ b ∈ fp,H' b=none)/\W i n Av H') ?_ m0
   ⟨0,σ0 σ,_,I3,T.keep _ _ _ ET fun b hb o e=>old b o e,fun b hb=>?_,w0⟩
  ·rintro n s4 ⟨i,F3,H4,I4,KH,Lv,w4⟩;rcases turn i n F3 H4 w4 with ⟨stop,qn⟩ | ⟨go,step⟩
   ·refine wpAny_mono (T.done (Am X scope cl N s2 H2 HH.objs.size fp) rfl rfl rfl hc i [] s4 F3 H4 (fun _ _=>False) I4 (stat Lv) KH stop) (fun r s5 ⟨hr,I5⟩=>?_) fun _ _ z=>z.elim
    subst hr;obtain ⟨m5,QW,_⟩:=id I5.loc;exact ⟨m5,QW,fun h' JA=>⟨.ref _,H4,E7 I2 f2 fC I5 JA,rfl,qn⟩⟩
   ·refine wpAny_mono (T.item (Am X scope cl N s2 H2 HH.objs.size fp) rfl rfl rfl hc i [] s4 F3 H4 (fun _ _=>False) I4 (stat Lv) KH go) (fun r s5 ⟨u,hr,h5⟩=>?_) fun _ _ z=>z.elim
    subst hr;refine wpAny_mono h5 (fun _ s6 ⟨x,H6,I6,r6,y6,Hs,Rf⟩=>?_) fun _ _ z=>z.elim
    have Rx:=I6.pinned (stat Rf) (T.obj _ _ Hs);refine wpAny_mono (hg s6 F3 H6 x u _ Rx r6 (step x H6 y6)) (fun _ s7 ⟨Eh,H7,I7,q7⟩=>?_) fun _ _ z=>z.elim
    refine wpAny_mono (ht s7 Eh H7 _ I7 q7) (fun ok s8 ⟨H8,I8,q8⟩=>?_) fun _ _ z=>z.elim
    have again:∀ {s9:Shared} {F2:St} {H9:Hp} ,An (Am X scope cl N s2 H2 HH.objs.size fp) ([] ++ Dw fp s6.heap) F2 H9 s9->(∃ m',m' < n/\W (i + 1) m' F2 H9)->∃ m,m < n/\∃ i Av H',An (Am X scope cl N s2 H2 HH.objs.size fp) [] Av H' s9/\tn i s9.heap/\(∀ b ∈ fp,H' b=none)/\W i m Av H':=fun {s9 F2 H9} I9 n9=>by
     obtain ⟨m',hm,w9⟩:=n9;refine ⟨m',hm,i + 1,F2,H9,I9.unpinned,T.keep _ _ _ Hs fun b hb o e=>(I9.pin (b,o) (YH _ (YH _ (AZ hb e)))).1,fun b hb=>?_,w9⟩;obtain ⟨o,e,d⟩:=T.obj _ _ Hs b hb;exact (I9.pin (b,o) (YH _ (YH _ (AZ hb e)))).2.1
    cases ok with
    | false=>
     rw [if_neg YI] at q8 ⊢;exact again I8 q8
    | true=>
     rw [if_pos rfl] at q8 ⊢;refine wpAny_mono (he s8 Eh H8 _ I8 q8) (fun y s9 ⟨v,H9,I9,r9,acc,hacc,hsz,q9⟩=>?_) fun _ _ z=>z.elim
     refine wpAny_mono (BZ (X:=Am X scope cl N s2 H2 HH.objs.size fp) s9 Eh H9 (.ref s2.heap.objs.size) [v] (.ref s2.heap.objs.size) [y] (fun _ LF=>∃ m',m' < n/\W (i + 1) m' Eh LF) I9 rfl (.cons r9 .nil) ⟨_,acc,v,rfl,rfl,hacc,hsz,q9⟩) (fun _ MR ⟨_,LF,Ry,_,Qz⟩=>?_) fun _ _ z=>z.elim
     exact again Ry Qz
  ·have z:=(f2 b hb).1;obtain ⟨o,e⟩:=hfo b hb;rw [Af (YF (YC e))];exact z
 exact codeAny_compStart_list (loop _ rfl) (T.self _ 0 _ _ _ (T.keep _ _ _ ET fun b hb o e=>old b o e) (loop _ rfl))
def Its (x:Str):It:=⟨fun i _=>i < x.cps.size,fun i H v H'=>H'=H/\∃ c,x.cps[i]? = some c/\v=.str ⟨#[c]⟩,fun i _=>x.cps.size<=i⟩
theorem NY {P:Program} {w:World} {K:Y3} {tg:Expr} (it:Addr) (x:Str) (t:Tok):LA P w K tg (Its x) [it] it (fun i h=>h.IsStrIter it "str_ascii_iterator" x t i) where
 mem:=by simp
 obj:=fun i h st b hb=>by
  have e:b=it:=by simpa using hb
  subst e;obtain ⟨o,e,c,d⟩:=st;exact ⟨o,e,fun v z=>by rw [d] at z; cases z⟩
 keep:=fun i h h' st k=>let ⟨o,e,r⟩:=st; ⟨o,k it (by simp) o e,r⟩
 item:=by
  intro X hP hw hK hc i pins s σ H E I hf st hg;subst hP hw hK;obtain ⟨f0,f1,f2,f3,f4,f5⟩:=hf it (by simp);have S5:i < x.cps.size:=hg;refine wpAny_pyNext_ascii_item st (c:=x.cps[i]) (by simp [S5]) fun h' AM sb=>?_
  have I1:An X pins σ H { s with heap:=h',toks:=s.toks + 1 }:=I.turned (fun b o hb e=>(sb.2 b hb).trans e) f0 f1 f3 f4 f5;obtain ⟨o,e,c,d⟩:=id AM;exact ⟨_,rfl,Ik (s:={ s with heap:=h',toks:=s.toks + 1 }) e c d (by decide) ⟨.str ⟨#[x.cps[i]]⟩,H,I1,⟨_,rfl⟩,⟨rfl,_,by simp [S5],rfl⟩,AM,fun b hb=>(hf b hb).1⟩⟩
 done:=by
  intro X hP hw hK hc i pins s σ H E I hf st hg;subst hP hw hK;obtain ⟨f0,f1,f2,f3,f4,f5⟩:=hf it (by simp);have S5:x.cps.size<=i:=hg;exact wpAny_pyNext_ascii_end (I.ok.hd hc) st (by simp [S5]) fun h' eb=>⟨rfl,I.turned (t':=s.toks) (fun b o hb e=>eb b o hb e) f0 f1 f3 f4 f5⟩
 self:=fun _ _ _ _ _ st h=>wpAny_pyIter_striter_ascii st h
theorem NX {P:Program} {w:World} {K:Y3} {tg:Expr} (it:Addr) (x:Str) (t:Tok):LA P w K tg (Its x) [it] it (fun i h=>h.IsStrIter it "str_iterator" x t i) where
 mem:=by simp
 obj:=fun i h st b hb=>by
  have e:b=it:=by simpa using hb
  subst e;obtain ⟨o,e,c,d⟩:=st;exact ⟨o,e,fun v z=>by rw [d] at z; cases z⟩
 keep:=fun i h h' st k=>let ⟨o,e,r⟩:=st; ⟨o,k it (by simp) o e,r⟩
 item:=by
  intro X hP hw hK hc i pins s σ H E I hf st hg;subst hP hw hK;obtain ⟨f0,f1,f2,f3,f4,f5⟩:=hf it (by simp);have S5:i < x.cps.size:=hg;refine wpAny_pyNext_wide_item st (c:=x.cps[i]) (by simp [S5]) fun h' AM sb=>?_
  have I1:An X pins σ H { s with heap:=h',toks:=s.toks + 1 }:=I.turned (fun b o hb e=>(sb.2 b hb).trans e) f0 f1 f3 f4 f5;obtain ⟨o,e,c,d⟩:=id AM;exact ⟨_,rfl,Ik (s:={ s with heap:=h',toks:=s.toks + 1 }) e c d (by decide) ⟨.str ⟨#[x.cps[i]]⟩,H,I1,⟨_,rfl⟩,⟨rfl,_,by simp [S5],rfl⟩,AM,fun b hb=>(hf b hb).1⟩⟩
 done:=by
  intro X hP hw hK hc i pins s σ H E I hf st hg;subst hP hw hK;obtain ⟨f0,f1,f2,f3,f4,f5⟩:=hf it (by simp);have S5:x.cps.size<=i:=hg;exact wpAny_pyNext_wide_end (I.ok.hd hc) st (by simp [S5]) fun h' eb=>⟨rfl,I.turned (t':=s.toks) (fun b o hb e=>eb b o hb e) f0 f1 f3 f4 f5⟩
 self:=fun _ _ _ _ _ st h=>wpAny_pyIter_striter_wide st h
def iStr (tl:TE):TI:=fun σ H R=>tl σ H fun x H1=>∃ z,x=.str z/\R (Its z) H1
theorem Uo {X:Cx} {tg l:Expr} {tl:TE} (hl:PE X l tl):PI X tg l (iStr tl):=by
 intro pins s σ H R I h;refine B5 (hl (pins:=pins) s σ H _ I h) fun v s1 ⟨x,H1,I1,r1,q1⟩=>?_
 obtain ⟨z,rfl,q⟩:=q1;obtain ⟨t,rfl⟩:=r1;have fin:∀ b ∈ [s1.heap.objs.size],Eg X pins H1 b:=fun b hb=>by
  have e:b=s1.heap.objs.size:=by simpa using hb
  subst e;exact I1.fpOk (Y7 _) (I1.hok.fresh (Y7 _))
 cases ha:z.cps.all (· < 128)
 ·exact wpAny_pyIter_wide ha ⟨s1.heap.objs.size,[s1.heap.objs.size],_,_,H1,rfl,I1.kept (t':=s1.toks) fun b o e=>Y2 _ e,NX _ z t,⟨_,YD _ rfl,rfl,rfl⟩,fin,q⟩
 ·exact wpAny_pyIter_ascii ha ⟨s1.heap.objs.size,[s1.heap.objs.size],_,_,H1,rfl,I1.kept (t':=s1.toks) fun b o e=>Y2 _ e,NY _ z t,⟨_,YD _ rfl,rfl,rfl⟩,fin,q⟩
theorem EA {X:Cx} (hc:X.calm=true):Bl X (.builtin "all") (fun xs H Q=>∃ (p:Addr) (bs:List Bool),xs=[.ref p]/\AB X.K H p (bs.map V.bl)/\Q (.bl (bs.all id)) H):=by
 intro pins s σ H xs us Q I r h;obtain ⟨p,bs,rfl,hq,q⟩:=h;obtain ⟨u,rfl,ru⟩:=BO r;cases ru
 obtain ⟨Ap,rv,pl,hz⟩:=I.list hq;have hlen:Ap.length=bs.length:=by rw [<-rv.length,Y0]
 refine call_all_walk (wpAny_pyIter_list pl.isList ?_);have hne:p ≠ s.heap.objs.size:=by
  obtain ⟨o,n,e,_⟩:=pl;exact YF (YC e)
 refine ⟨s.heap.objs.size,_,_,_,_,_,fun i=>bs.getD i true,rfl,Walks.list (A:=X.A.in1) (I.ok.hd hc) s.heap.objs.size p hne Ap.toArray,⟨⟨_,YD _ rfl,rfl,rfl⟩,?_⟩,?_,?_⟩
 ·exact pl.isList.at fun o e=>Y2 _ e
 ·intro i v s1 Q1 E1 hv hQ;have hv':Ap[i]? = some v:=by simpa using hv
  have hb:∃ b,bs[i]? = some b:=by
   cases e:bs[i]? with
   | some b=>exact ⟨b,rfl⟩
   | none=>
    have:=bJ.mp e;have:=(Y8.mp hv').1;lia
  obtain ⟨b,hb⟩:=hb;obtain ⟨u,hu,ru⟩:=rv.get (i:=i) (x:=V.bl b) (by rw [Y9,hb]; rfl);rw [hv'] at hu;cases hu
  cases ru
  have e:bs.getD i true=b:=by rw [YW,hb]; rfl
  have hQ':Q1 (bs.getD i true) s1:=hQ;rw [e] at hQ';exact wpAny_truthy_bool hQ'
 ·intro h' tk hk;have e:(ZP Ap.toArray.size).all (fun i=>bs.getD i true)=bs.all id:=by
   rw [YN,hlen];apply Z7.mpr;simp only [Z8,ar,id];constructor
   ·intro h b hb;obtain ⟨i,hi,e⟩:=YQ hb;have:=h i hi;rw [YW,Y1 hi] at this;simpa [e] using this
   ·intro h i hi;rw [YW,Y1 hi];exact h _ (Zv hi)
  rw [e];refine ⟨.bl _,H,?_,rfl,q⟩;have I1:An X pins σ H { s with heap:=s.heap.push { cls:=.type "list_iterator",data:=.fields #[.ref p,.int 0 0] } }:=I.kept (t':=s.toks) fun b o e=>Y2 _ e
  have F:=I.fpOk (Y7 _) (I.hok.fresh (Y7 _));obtain ⟨f0,f1,f2,f3,f4,f5⟩:=F;exact I1.turned (it:=s.heap.objs.size) (fun b o hb e=>hk b o (by simpa using hb) e) f0 f1 f3 f4 f5
theorem GC {X:Cx}:Bl X (.builtin "isinstance") (fun xs H Q=>∃ x c t b,xs=[x,.ty c]/\EB X.K H x t/\aM X.K t (.type c)=some b/\Q (.bl b) H):=by
 intro pins s σ H xs us Q I r h;obtain ⟨x,c,t,b,rfl,ty,e,q⟩:=h;obtain ⟨u,v,rfl,rx,rc⟩:=MB r;cases rc
 exact OK I rx ty e fun tk=>⟨.bl b,H,I.tok tk,rfl,q⟩
theorem J2 {X:Cx}:En X (compareOp .LtE) (fun x y H Q=>∃ i j,x=.str i/\y=.str j/\Q (.bl (!(decide (j.cps.toList < i.cps.toList)))) H):=by
 intro pins s σ H x y v u Q I rx ry h;obtain ⟨i,j,rfl,rfl,q⟩:=h;obtain ⟨t,rfl⟩:=rx;obtain ⟨t',rfl⟩:=ry;exact PySem.P.le_str ⟨.bl _,H,I,rfl,q⟩
def tSlS (te:TE) (tl th:TO):TE:=fun σ H Q=>te σ H fun x H1=>tl σ H1 fun l H2=>th σ H2 fun u H3=>∃ z,x=.str z/\z.length<=sizeLine/\Q (.str (Txt.slice z l u)) H3
theorem FE {X:Cx} {e:Expr} {te:TE} {lo hi:Option Expr} {tl th:TO} {pos p2:Pos} (he:PE X e te) (hl:PO X lo tl) (hu:PO X hi th):PE X (.Subscript e (.Slice lo hi none p2) pos) (tSlS te tl th):=by
 intro pins s σ H Q I h;refine Subscript_ (B5 (he (pins:=pins) s σ H _ I h) fun v s1 ⟨x,H1,I1,r1,q1⟩=>?_);refine wpAny_Slice (B5 (hl (pins:=pins) s1 σ H1 _ I1 q1) fun vl s2 ⟨l,H2,I2,pl,q2⟩=>B5 (hu (pins:=pins) s2 σ H2 _ I2 q2) fun vu s3 ⟨u,H3,I3,pu,q3⟩=>?_);rw [evalPart_none];refine wpAny_pure ?_;obtain ⟨z,rfl,hz,q⟩:=q3;obtain ⟨t,rfl⟩:=r1;show wpAny (model X.prog X.w) X.A (subscriptTail e (.Slice lo hi none p2) (.str z t) (.ref s3.heap.objs.size)) (EP X pins σ Q) X.xe { s3 with heap:=s3.heap.push { cls:=.type "slice",data:=.fields #[vl,vu,.none] } }
 have kk:KeptH (fun h=>∀ b o,s3.heap.get? b=some o->h.get? b=some o):=fun h ob hh b o e=>Y2 _ (hh b o e)
 have fin:ItemOn (model X.prog X.w) X.A X.xe (.str z t) (.ref s3.heap.objs.size) (EP X pins σ Q) { s3 with heap:=s3.heap.push { cls:=.type "slice",data:=.fields #[vl,vu,.none] } }:=by
  cases pl with
  | none=>
   cases pu with
   | none=>exact SBH.sliceItem_nn kk (fun _ _ e=>e) (fun h' t' k kp=>⟨.str _,H3,I3.kept kp,⟨_,rfl⟩,q⟩) hz
   | int j uj=>exact SBH.sliceItem_ns kk (fun _ _ e=>e) (fun h' t' k kp=>⟨.str _,H3,I3.kept kp,⟨_,rfl⟩,q⟩) hz
  | int i ui=>
   cases pu with
   | none=>exact SBH.sliceItem_sn kk (fun _ _ e=>e) (fun h' t' k kp=>⟨.str _,H3,I3.kept kp,⟨_,rfl⟩,q⟩) hz
   | int j uj=>exact SBH.sliceItem_ss kk (fun _ _ e=>e) (fun h' t' k kp=>⟨.str _,H3,I3.kept kp,⟨_,rfl⟩,q⟩) hz
 obtain ⟨T,id,hT,ht,hg⟩:=fin;exact tail_any (ops:=[.ref s3.heap.objs.size,.str z t]) ht hT hg (by with_unfolding_all rfl)
theorem Dc {α:Type}:∀ {l:List (Str × α)} {x:Str} {k:α},l.lookup x=some k->(x,k) ∈ l
 | [],_,_,h=>by cases h
 | (n,v) :: r,x,k,h=>by
  rw [aG] at h;by_cases e:x=n
  ·subst e;simp at h;subst h;exact YO
  ·have:(x == n)=false:=beq_eq_false_iff_ne.mpr e;rw [this] at h;exact YT _ (Dc h)
theorem A2.plain {X:Cx} {scope:Scope} (hfree:∀ x ∈ scope.names,x.2 ≠ .free) (hcell:∀ y ∈ scope.names,y.2 ≠ .cell) (hkind:scope.kind=.function)
  (hnames:∀ y ∈ scope.names,y.2=.local->scope.names.lookup y.1=some .local):A2 X scope []:=by
 refine ⟨closureFor_none hfree,hcell,hkind,hnames,fun x c h=>(by cases h),fun x h=>?_⟩;have key:∀ k,(relabel scope X.env).names.lookup x=some k->∃ y ∈ scope.names,y.2=k:=by
  intro k e;have m:=Dc e;obtain ⟨⟨n,k'⟩,hm,e'⟩:=YA.mp m;have hf:=hfree _ hm;have:(k' == NameKind.free)=false:=by
   cases k' <;> first | rfl | exact absurd rfl hf
  dsimp only at e';rw [this] at e';simp at e';exact ⟨_,hm,e'.2⟩
 rcases h with h | h
 ·obtain ⟨y,hy,e⟩:=key _ h;exact absurd e (hcell y hy)
 ·obtain ⟨y,hy,e⟩:=key _ h;exact absurd e (hfree y hy)
def FJ (c:Nat):Bool:=decide (97<=c) && decide (c<=122)
theorem lt1 (a b:Nat):decide (([a]:List Nat) < [b])=decide (a < b):=by
 apply decide_eq_decide.mpr;rw [List.cons_lt_cons_iff];constructor
 ·rintro (h | ⟨_,h⟩)
  ·exact h
  ·exact absurd h (by simp)
 ·exact fun h=>.inl h
theorem leA (c:Nat):(!(decide ((⟨#[c]⟩:Str).cps.toList < (Str.ofString "a").cps.toList)))=decide (97<=c):=by
 show (!(decide (([c]:List Nat) < [97])))=_
 rw [lt1,<-decide_not];exact decide_eq_decide.mpr (by lia)
theorem leZ (c:Nat):(!(decide ((Str.ofString "z").cps.toList < (⟨#[c]⟩:Str).cps.toList)))=decide (c<=122):=by
 show (!(decide (([122]:List Nat) < [c])))=_
 rw [lt1,<-decide_not];exact decide_eq_decide.mpr (by lia)
def AY (t:Str):Bool:=decide (1<=t.length) && decide (t.length<=6) && t.cps.toList.all FJ
def Rv (K:Y3) (H:Hp) (x:V):Prop:=∃ ty,EB K H x ty/\aM K ty (.type "str")=some false
def Qd (K:Y3):Sp:=fun vs H Q _=>∃ x,vs=[x]/\((∃ t,x=.str t/\t.length<=1000/\∀ H',Ar H H'->Q (.bl (AY t)) H')\/(Rv K H x/\Q (.bl false) H))
theorem Ad {H:Hp} {p:Addr} {o:HO} (h:H p=none):Ar H (upd H p o):=fun b u e=>by
 rw [Af (Ah e h)];exact e
theorem IQ {α β:Type} (f:α->β) (l:List α) (i:Nat) (c:α) (h:l[i]? = some c):(l.take (i + 1)).map f=(l.take i).map f ++ [f c]:=by
 rw [List.take_succ,h,YE];rfl
mutual
inductive Fx (H:Hp):V->PyData->Prop
 | non:Fx H .non .none
 | bl (b:Bool):Fx H (.bl b) (.bool b)
 | int (i:Int):Fx H (.int i) (.int i)
 | str (x:Str):Fx H (.str x) (.str x)
 | tup {a:Addr} {vs:List V} {ds:List PyData}:H a=some (.tup vs)->Bw H vs ds->Fx H (.ref a) (.tuple ds)
 | lst {a:Addr} {vs:List V} {ds:List PyData}:H a=some (.lst vs)->Bw H vs ds->Fx H (.ref a) (.list ds)
inductive Bw (H:Hp):List V->List PyData->Prop
 | nil:Bw H [] []
 | cons {v:V} {vs:List V} {d:PyData} {ds:List PyData}:Fx H v d->Bw H vs ds->Bw H (v :: vs) (d :: ds)
end
mutual
theorem Fx.mono {H H':Hp} (s:∀ a o,H a=some o->(∃ vs,o=.tup vs\/o=.lst vs)->H' a=some o):∀ {v:V} {d:PyData},Fx H v d->Fx H' v d
 | _,_,.non=>.non
 | _,_,.bl b=>.bl b
 | _,_,.int i=>.int i
 | _,_,.str x=>.str x
 | _,_,.tup e r=>.tup (s _ _ e ⟨_,.inl rfl⟩) (Bw.mono s r)
 | _,_,.lst e r=>.lst (s _ _ e ⟨_,.inr rfl⟩) (Bw.mono s r)
theorem Bw.mono {H H':Hp} (s:∀ a o,H a=some o->(∃ vs,o=.tup vs\/o=.lst vs)->H' a=some o):∀ {vs:List V} {ds:List PyData},Bw H vs ds->Bw H' vs ds
 | _,_,.nil=>.nil
 | _,_,.cons x r=>.cons (Fx.mono s x) (Bw.mono s r)
end
theorem Fx.same {H H':Hp} {v:V} {d:PyData} (h:Fx H v d) (s:Ar H H'):Fx H' v d:=h.mono fun a o e _=>s a o e
mutual
theorem Fx.reads {X:Cx} {pins:List (Addr × Obj)} {σ:St} {H:Hp} {s:Shared} (I:An X pins σ H s):∀ {v:V} {d:PyData} {u:Value},Fx H v d->A3 v u->∃ as,Reads s.heap u d as
 | _,_,_,.non,r=>by cases r; exact ⟨_,.none⟩
 | _,_,_,.bl b,r=>by cases r; exact ⟨_,.bool b⟩
 | _,_,_,.int i,r=>by obtain ⟨t,rfl⟩:=r; exact ⟨_,.int i t⟩
 | _,_,_,.str x,r=>by obtain ⟨t,rfl⟩:=r; exact ⟨_,.str x t⟩
 | _,_,_,.tup (a:=a) e m,r=>by
  cases r
  obtain ⟨_,Ap,rv,⟨o,ho,hc,n,hd⟩,_⟩:=(show A5 X.prog X.w H s.heap a (.tup _) from I.hok a _ e)
  obtain ⟨as,q⟩:=Bw.reads I m rv;exact ⟨_,.tuple ho hc hd (by simpa using q)⟩
 | _,_,_,.lst (a:=a) e m,r=>by
  cases r
  obtain ⟨_,Ap,n,rv,ho⟩:=(show A5 X.prog X.w H s.heap a (.lst _) from I.hok a _ e)
  obtain ⟨as,q⟩:=Bw.reads I m rv;exact ⟨_,.list ho rfl rfl (by simpa using q)⟩
theorem Bw.reads {X:Cx} {pins:List (Addr × Obj)} {σ:St} {H:Hp} {s:Shared} (I:An X pins σ H s):∀ {vs:List V} {ds:List PyData} {us:List Value},Bw H vs ds->A4 vs us->∃ as,ReadsAll s.heap us ds as
 | _,_,_,.nil,r=>by cases r; exact ⟨_,.nil⟩
 | _,_,_,.cons x m,r=>by
  cases r with
  | cons r1 r2=>
   obtain ⟨as,q1⟩:=Fx.reads I x r1;obtain ⟨bs,q2⟩:=Bw.reads I m r2;exact ⟨_,.cons q1 q2⟩
end
theorem O8 {X:Cx} (hu:X.A.units + 64 < cLine):En X (compareOp .Eq) (fun x y H Q=>∃ d e,Fx H x d/\Fx H y e/\d.canLay0=true/\e.canLay0=true/\d.depth<=60/\Q (.bl (PyData.eqv d e)) H):=by
 intro pins s σ H x y v u Q I rx ry h;obtain ⟨d,e,h1,h2,c1,c2,hd,q⟩:=h;obtain ⟨as,r1⟩:=h1.reads I rx;obtain ⟨bs,r2⟩:=h2.reads I ry;exact SeqAt.compareEq_reads r1 r2 c1 c2 (by have:=ZU d.depth e.depth; lia) ⟨.bl _,H,I,rfl,q⟩
theorem O6 {X:Cx} (hu:X.A.units + 64 < cLine):En X (compareOp .NotEq) (fun x y H Q=>∃ d e,Fx H x d/\Fx H y e/\d.canLay0=true/\e.canLay0=true/\d.depth<=60/\Q (.bl (!PyData.eqv d e)) H):=by
 intro pins s σ H x y v u Q I rx ry h;obtain ⟨d,e,h1,h2,c1,c2,hd,q⟩:=h;obtain ⟨as,r1⟩:=h1.reads I rx;obtain ⟨bs,r2⟩:=h2.reads I ry;exact SeqAt.compareNe_reads r1 r2 c1 c2 (by have:=ZU d.depth e.depth; lia) ⟨.bl _,H,I,rfl,q⟩
theorem Ie (z:Str) (xs:List Str):inV (.str z) (xs.map V.str)=decide (z ∈ xs):=by
 unfold inV;induction xs with
 | nil=>simp
 | cons x xs ih=>
  rw [YK,ag,ih];have e:SK (.str x) (.str z)=decide (z=x):=by
   show (x == z)=_
   by_cases h:z=x
   ·subst h; simp
   ·have h':¬ x=z:=fun q=>h q.symm
    rw [decide_eq_false h];exact beq_eq_false_iff_ne.mpr h'
  rw [e];by_cases h:z=x
  ·simp [h]
  ·by_cases h2:z ∈ xs <;> simp [h,h2]
theorem Gk (xs:List Str):(xs.map V.str).all Ez=true:=by
 rw [bz];exact Z8.mpr fun _ _=>rfl
def AV (p:Addr) (H H':Hp):Prop:=∀ b o,b ≠ p->H b=some o->H' b=some o
theorem AV.trans {p:Addr} {H H1 H2:Hp} (a:AV p H H1) (b:AV p H1 H2):AV p H H2:=fun c o n e=>b c o n (a c o n e)
theorem AV.of_same {p:Addr} {H H':Hp} (s:Ar H H'):AV p H H':=fun b o _ e=>s b o e
theorem AV.upd {p:Addr} {H:Hp} {o:HO}:AV p H (L2.upd H p o):=fun b u n e=>by rw [Af n]; exact e
def M3 (K:Y3) (H:Hp) (a:Addr) (xs:List V):Prop:=(∃ ob,H a=some (.frz ob (.lst xs)))\/∃ o Ap n,List.lookup a K=some o/\o.cls=Value.type "list"/\o.dict=none/\o.data=Data.seq Ap n/\Ap.size<=sizeLine/\A4 xs Ap.toList
theorem M3.sq {K:Y3} {H:Hp} {a:Addr} {xs:List V} (h:M3 K H a xs):AB K H a xs:=by
 rcases h with ⟨ob,h⟩ | h
 ·exact .inl (.inr ⟨ob,h⟩)
 ·exact .inr h
theorem M3.same {K:Y3} {H H':Hp} {a:Addr} {xs:List V} (h:M3 K H a xs) (s:Ar H H'):M3 K H' a xs:=by
 rcases h with ⟨ob,h⟩ | h
 ·exact .inl ⟨ob,s _ _ h⟩
 ·exact .inr h
theorem Rq {α:Type} {l:List α} {i:Int} {c:α} (h:JN l i=some c):c ∈ l:=by
 obtain ⟨j,_,h2,_⟩:=Ho h;exact Y5 h2
abbrev FK:Str:="abcdefghijklmnopqrstuvwxyz"
theorem G9:∀ c ∈ FK.cps.toList,FJ c=true:=by decide +kernel
def Tc (z:Str):Prop:=∀ c ∈ z.cps.toList,FJ c=true
theorem QK {z:Str} (h1:1<=z.length) (h2:z.length<=6) (h:Tc z):AY z=true:=by
 unfold AY;rw [decide_eq_true h1,decide_eq_true h2,Z8.mpr h];rfl
theorem Mj {z:Str} (h:AY z=true):1<=z.length/\z.length<=6/\Tc z:=by
 unfold AY at h;rw [Zn,Zn,decide_eq_true_eq,decide_eq_true_eq,Z8] at h;exact ⟨h.1.1,h.1.2,h.2⟩
theorem Cj {α:Type} [BEq α] [LawfulBEq α]:∀ {l xs:List α},l.Nodup->(∀ x ∈ l,x ∈ xs)->l.length<=xs.length
 | [],_,_,_=>Zd _
 | a :: l,xs,hn,hs=>by
  have ha:=hs a YO;have W4:=Zl.mp hn;have:=Cj (l:=l) (xs:=xs.erase a) W4.2 fun x hx=>(cg (show x ≠ a from fun e=>W4.1 (by rw [<-e]; exact hx))).mpr (hs x (YT _ hx))
  rw [List.length_erase_of_mem ha] at this;have:0 < xs.length:=bP ha;rw [YX];lia
theorem Cs (H:Hp):∀ xs:List Str,Bw H (xs.map V.str) (xs.map .str)
 | []=>.nil
 | x :: xs=>.cons (.str x) (Cs H xs)
theorem Dd:∀ {xs:List Str},(∀ x ∈ xs,AY x=true)->PyData.canLayAll0 (xs.map .str)=true
 | [],_=>rfl
 | x :: xs,h=>by
  show (PyData.strOk x && PyData.canLayAll0 (xs.map .str))=true
  rw [Dd fun y hy=>h y (YT _ hy),bj];obtain ⟨_,_,lo⟩:=Mj (h x YO);unfold PyData.strOk;rw [Array.all_eq_true_iff_forall_mem];intro c hc;have:=lo c (by simpa using hc);unfold FJ at this;rw [Zn,decide_eq_true_eq,decide_eq_true_eq] at this;rw [decide_eq_true_eq];lia
theorem DZ:∀ xs:List Str,PyData.depthAll (xs.map .str)=0
 | []=>rfl
 | x :: xs=>by
  show max 0 (PyData.depthAll (xs.map .str))=0
  rw [DZ xs];rfl
def Mm:Stmt->List Stmt
 | .If _ b _ _=>b
 | _=>[]
theorem A2.caught {X:Cx} {scope:Scope} {cl:List (Str × Addr)} (clos:closureFor scope X.env=pure cl) (hcell:∀ y ∈ scope.names,y.2 ≠ .cell) (hkind:scope.kind=.function)
  (hnames:∀ y ∈ scope.names,y.2=.local->scope.names.lookup y.1=some .local) (hcl:∀ y ∈ cl,X.env.cells.lookup y.1=some y.2)
  (hfr:∀ y ∈ scope.names,y.2=.free->∃ c,cl.lookup y.1=some c):A2 X scope cl:=by
 refine ⟨clos,hcell,hkind,hnames,fun x c h=>hcl _ (Dc h),fun x h=>?_⟩;have key:∀ k,(relabel scope X.env).names.lookup x=some k->k=.cell\/k=.free->∃ c,cl.lookup x=some c:=by
  intro k e hk;have m:=Dc e;obtain ⟨⟨n,k'⟩,hm,e'⟩:=YA.mp m;dsimp only at e';by_cases hf:k'=.free
  ·subst hf;have en:n=x:=by
    by_cases hc:(NameKind.free == NameKind.free && X.env.scope.kind == .function && X.env.kindOf n == some .cell)=true
    ·rw [if_pos hc] at e';injection e'
    ·rw [if_neg hc] at e';injection e'
   subst en;exact hfr _ hm rfl
  ·have:(k' == NameKind.free)=false:=by
    cases k' <;> first | rfl | exact absurd rfl hf
   rw [this] at e';simp at e';rcases hk with hk | hk
   ·exact absurd (e'.2.trans hk) (hcell _ hm)
   ·exact absurd (e'.2.trans hk) hf
 rcases h with h | h
 ·exact key _ h (.inl rfl)
 ·exact key _ h (.inr rfl)
theorem AH.of {X:Cx} {cl:List (Str × Addr)} {scope:Scope} {N:List Str} {σ:St} (js:List (Option Nat)) (hl:js.length=N.length)
  (h:∀ (i j:Nat) (x:Str),N[i]? = some x->js[i]? = some (some j)->X.N[j]? = some x/\(X.env.kindOf x=some .cell\/X.env.kindOf x=some .free)/\((relabel scope X.env).names.lookup x=some .cell\/(relabel scope X.env).names.lookup x=some .free)) :
  AH X cl scope N σ (js.map fun j=>j.bind fun j=>(σ[j]?).join):=by
 refine ⟨by rw [Y0,hl],fun i x v h1 h2=>?_⟩;rw [Y9] at h2;cases e:js[i]? with
 | none=>rw [e] at h2; cases h2
 | some o=>
  rw [e] at h2;cases o with
  | none=>cases h2
  | some j=>
   obtain ⟨a,b,c⟩:=h i j x h1 e;refine ⟨⟨j,a,?_⟩,b,c⟩;have h3:(σ[j]?).join=some v:=YM.inj h2;cases e2:σ[j]? with
   | none=>rw [e2] at h3; cases h3
   | some o=>
    rw [e2] at h3;have:o=some v:=h3;rw [this]
abbrev AG:=Str × Str × Int
def NU (u:AG):PyData:=.tuple [.str u.1,.str u.2.1,.int u.2.2]
def DM (u v:AG):Prop:=(u.1=v.1/\u.2.1=v.2.1)\/(u.1=v.2.1/\u.2.1=v.1)
structure Hi (xs:List Str) (k:Nat) (ws:List AG):Prop where
 of:∀ u ∈ ws,∃ i j:Nat,i < j/\j < k/\xs[i]? = some u.1/\xs[j]? = some u.2.1/\1<=u.2.2
 sep:ws.Pairwise fun u v=>¬ DM u v
 to:∀ j,0 < j->j < k->∃ u ∈ ws,∃ i:Nat,i < j/\xs[i]? = some u.1/\xs[j]? = some u.2.1
 len:2 * ws.length<=k * (k - 1)
structure UW (xs:List Str) (ws:List AG):Prop where
 of:∀ u ∈ ws,u.1 ∈ xs/\u.2.1 ∈ xs/\u.1 ≠ u.2.1/\1<=u.2.2
 sep:ws.Pairwise fun u v=>¬ DM u v
 to:∀ j,0 < j->j < xs.length->∃ u ∈ ws,∃ i:Nat,i < j/\xs[i]? = some u.1/\xs[j]? = some u.2.1
 len:2 * ws.length<=xs.length * (xs.length - 1) + 10
theorem Fi {xs:List Str} (h:xs.Nodup) {i j:Nat} {x:Str} (a:xs[i]? = some x) (b:xs[j]? = some x):i=j:=HP h a b
theorem Hi.nil (xs:List Str):Hi xs 1 []:=⟨(fun _ h=>nomatch h),List.Pairwise.nil,(fun j h1 h2=>by lia),(by decide)⟩
theorem Hi.more {xs:List Str} {k:Nat} {ws us:List AG} (hn:xs.Nodup) (h:Hi xs k ws) (hk:k < xs.length) (js:List Nat) (hj:js.Nodup) (B0:∀ j ∈ js,j < k) (h0:js ≠ [])
  (hl:us.length=js.length) (hu:∀ (q:Nat) (u:AG) (j:Nat),us[q]? = some u->js[q]? = some j->xs[j]? = some u.1/\xs[k]? = some u.2.1/\1<=u.2.2):Hi xs (k + 1) (ws ++ us):=by
 have at_:∀ u ∈ us,∃ (q j:Nat),us[q]? = some u/\js[q]? = some j/\j < k/\xs[j]? = some u.1/\xs[k]? = some u.2.1/\1<=u.2.2:=by
  intro u hm;obtain ⟨q,hq,e⟩:=YQ hm;have e1:us[q]? = some u:=by rw [Y1 hq,e]
  have e2:js[q]? = some js[q]:=Y1 (by lia);obtain ⟨a,b,c⟩:=hu q u _ e1 e2;exact ⟨q,_,e1,e2,B0 _ (Zv _),a,b,c⟩
 refine ⟨?_,?_,?_,?_⟩
 ·intro u hm;rcases YR.mp hm with hm | hm
  ·obtain ⟨i,j,a,b,c⟩:=h.of u hm;exact ⟨i,j,a,by lia,c⟩
  ·obtain ⟨q,j,_,_,a,b,c,d⟩:=at_ u hm;exact ⟨j,k,a,by lia,b,c,d⟩
 ·rw [cj];refine ⟨h.sep,?_,?_⟩
  ·rw [Zy];intro q r hq hr hqr al;have a1:=hu q us[q] js[q] (Y1 hq) (Y1 (by lia));have a2:=hu r us[r] js[r] (Y1 hr) (Y1 (by lia));have l1:=B0 js[q] (Zv _);have l2:=B0 js[r] (Zv _);rcases al with ⟨e1,_⟩ | ⟨e1,_⟩
   ·have a3:=a1.1;rw [e1] at a3;have ej:=Fi hn a3 a2.1;exact absurd ((b9 hj).mp ej) (by lia)
   ·have a3:=a1.1;rw [e1] at a3;have ej:=Fi hn a3 a2.2.1;lia
  ·intro u W3 v hv al;obtain ⟨i,j,hij,hjk,e1,e2,_⟩:=h.of u W3;obtain ⟨q,m,_,_,hm,e3,e4,_⟩:=at_ v hv;rcases al with ⟨_,z⟩ | ⟨z,_⟩
   ·rw [z] at e2;have:=Fi hn e2 e4;lia
   ·rw [z] at e1;have:=Fi hn e1 e4;lia
 ·intro j h1 h2;by_cases e:j=k
  ·subst e;cases us with
   | nil=>
    cases js with
    | nil=>exact absurd rfl h0
    | cons _ _=>cases hl
   | cons u us=>
    obtain ⟨q,m,_,_,hm,e3,e4,_⟩:=at_ u YO;exact ⟨u,YH _ YO,m,hm,e3,e4⟩
  ·obtain ⟨u,hm,i,a,b⟩:=h.to j h1 (by lia);exact ⟨u,Z1 _ hm,i,a,b⟩
 ·have:=h.len;have hjl:js.length<=k:=by
   have:=Cj (l:=js) (xs:=ZP k) hj fun j hm=>ar.mpr (B0 j hm)
   rwa [aa] at this
  rw [Y6,hl];show 2 * (ws.length + js.length)<=(k + 1) * (k + 1 - 1)
  rw [cH];have e:(k + 1) * k=k * (k - 1) + 2 * k:=by
   cases k with
   | zero=>rfl
   | succ k=>
    rw [cH];simp only [dj,Nat.mul_succ,dt,Nat.mul_add];lia
  lia
theorem Hi.ways {xs:List Str} {ws:List AG} (hn:xs.Nodup) (h:Hi xs xs.length ws):UW xs ws:=by
 refine ⟨fun u hm=>?_,h.sep,h.to,by have:=h.len; lia⟩;obtain ⟨i,j,a,b,c,d,e⟩:=h.of u hm;refine ⟨Y5 c,Y5 d,fun z=>?_,e⟩;rw [z] at c;have:=Fi hn c d;lia
def Fe (xs:List Str) (ws:List AG):Prop:=(∀ u ∈ ws,u.1 ∈ xs/\u.2.1 ∈ xs/\u.1 ≠ u.2.1/\1<=u.2.2)/\(ws.Pairwise fun u v=>¬ DM u v) /\
 ∀ j,0 < j->j < xs.length->∃ u ∈ ws,∃ i:Nat,i < j/\xs[i]? = some u.1/\xs[j]? = some u.2.1
theorem UW.c {xs:List Str} {ws:List AG} (h:UW xs ws):Fe xs ws:=⟨h.of,h.sep,h.to⟩
theorem Fe.snoc {xs:List Str} {ws:List AG} {x y:Str} {n:Int} (h:Fe xs ws) (hx:x ∈ xs) (hy:y ∈ xs) (ne:x ≠ y) (hn:1<=n) (no:∀ u ∈ ws,¬ ((x=u.1\/x=u.2.1)/\(y=u.1\/y=u.2.1))):Fe xs (ws ++ [(x,y,n)]):=by
 refine ⟨fun u hu=>?_,?_,fun j h1 h2=>?_⟩
 ·rcases YR.mp hu with hu | hu
  ·exact h.1 u hu
  ·rw [YJ.mp hu]; exact ⟨hx,hy,ne,hn⟩
 ·rw [cj];refine ⟨h.2.1,ZW _ _,fun u hu v hv al=>?_⟩;rw [YJ.mp hv] at al;refine no u hu ?_;rcases al with ⟨e1,e2⟩ | ⟨e1,e2⟩
  ·exact ⟨.inl e1.symm,.inr e2.symm⟩
  ·exact ⟨.inr e2.symm,.inl e1.symm⟩
 ·obtain ⟨u,hu,r⟩:=h.2.2 j h1 h2;exact ⟨u,Z1 _ hu,r⟩
theorem Iz {H:Hp}:∀ {vs:List V} {ds:List PyData},Bw H vs ds->vs.length=ds.length
 | _,_,.nil=>rfl
 | _,_,.cons _ r=>by rw [YX,YX,Iz r]
theorem Iy {H:Hp}:∀ {vs:List V} {ws:List AG} {i:Nat} {x:V},Bw H vs (ws.map NU)->vs[i]? = some x->∃ u t,ws[i]? = some u/\x=.ref t/\H t=some (.tup [.str u.1,.str u.2.1,.int u.2.2])
 | _,[],i,x,.nil,e=>by cases e
 | _,u :: ws,0,x,.cons (v:=v) h _,e=>by
  have e':v=x:=by simpa using e
  subst e';cases h with
  | tup ha hd=>
   refine ⟨u,_,rfl,rfl,?_⟩;cases hd with
   | cons h1 r1=>
    cases r1 with
    | cons h2 r2=>
     cases r2 with
     | cons h3 r3=>
      cases r3
      cases h1
      cases h2
      cases h3
      exact ha
 | _,u :: ws,i + 1,x,.cons _ r,e=>by
  obtain ⟨u',t,a,b⟩:=Iy (i:=i) (x:=x) r (by simpa using e);exact ⟨u',t,by simpa using a,b⟩
theorem I0 {H:Hp}:∀ {vs us:List V} {ds es:List PyData},Bw H vs ds->Bw H us es->Bw H (vs ++ us) (ds ++ es)
 | _,_,_,_,.nil,h=>h
 | _,_,_,_,.cons a r,h=>.cons a (I0 r h)
theorem AL (K:Y3) {X:Cx} (h:X.K=K):Vt X (rIxL K):=by subst h; exact Nw
theorem AS (K:Y3) {X:Cx} (h:X.K=K):Vt X (rIxT K):=by subst h; exact QS
theorem Uw (K:Y3) {X:Cx} (h:X.K=K):En X (compareOp .In) (rIn K false):=by subst h; exact O7
theorem B7 (K:Y3) {X:Cx} (h:X.K=K) {es:List Expr} {k:Nat} {t:TC} {n:Nat} {pos:Pos} (hc:X.calm=true) (ht:PGs X es t)
  (hn:(assignEach es X.env).length=n:=by rfl) (hst:(assignEach es X.env).findIdx? (·.1)=none:=by rfl):PG X (.Tuple es k pos) (gTup K n t):=by subst h; exact Uq hc ht hn hst
end L2
namespace L2
open PySem PySem.W PyProof.Rows
section
variable {n:Nat} (hn:0 < n)
include hn
end
end L2
namespace L2
open PySem PySem.Spec PyProof.Rows PySem.W
theorem A5.there {P:Program} {w:World} {H:Hp} {h:Heap} {a:Addr} {o:HO} (x:A5 P w H h a o):∃ ob,h.get? a=some ob:=by
 cases o with
 | lst xs=>obtain ⟨_,_,_,_,e⟩:=x; exact ⟨_,e⟩
 | tup xs=>obtain ⟨_,_,_,⟨ob,e,_⟩,_⟩:=x; exact ⟨ob,e⟩
 | dK kvs=>obtain ⟨_,_,_,_,o,_,_,e,_⟩:=x; exact ⟨o,e⟩
 | dT kvs=>obtain ⟨_,_,_,_,o,_,_,e,_⟩:=x; exact ⟨o,e⟩
 | set S n=>obtain ⟨o,_,_,_,e,_⟩:=x; exact ⟨o,e⟩
 | ins C dx fs=>obtain ⟨_,_,_,e,_⟩:=x; exact ⟨_,e⟩
 | own y=>exact x
 | xd fs=>obtain ⟨_,⟨_,_,_,e,_⟩,_⟩:=x; exact ⟨_,e⟩
 | rng lo hi=>obtain ⟨_,_,_,e⟩:=x; exact ⟨_,e⟩
 | frz ob u=>obtain ⟨e,_⟩:=x; exact ⟨_,e⟩
 | tbl ps=>exact ⟨_,(show h.get? a=some _ from x)⟩
 | met f y=>exact ⟨_,(show h.get? a=some _ from x)⟩
 | ext φ=>obtain ⟨_,⟨_,e⟩,_⟩:=x; exact ⟨_,e⟩
theorem An.laidF {X:Cx} {pins:List (Addr × Obj)} {σ:St} {H:Hp} {s:Shared} {h2:Heap} {D:Addr} {o:HO} {m:Str->Option Value} (I:An X pins σ H s)
  (hl:s.heap.Ns X.env.locals m/\∀ (i:Nat) (x:Str) (v:V),X.N[i]? = some x->σ[i]? = some (some v)->Vis X.env.scope x->∃ u,A3 v u/\Look X.env s.heap m x u) (hn:h2.Ns X.env.locals m)
  (kp:∀ b ob,b ≠ X.env.locals->s.heap.get? b=some ob->h2.get? b=some ob) (hD:s.heap.get? D=none) (hDL:D ≠ X.env.locals) (new:A5 X.prog X.w (upd H D o) h2 D o):An X pins σ (upd H D o) { s with heap:=h2 }:=by
 have fD:H D=none:=by
  cases z:H D with
  | none=>rfl
  | some u=>
   obtain ⟨ob,e⟩:=A5.there (I.hok D u z);rw [hD] at e;cases e
 have neL:∀ b ob,X.s₀.heap.get? b=some ob->b ≠ X.env.locals:=fun b ob e=>YF (YG (YC e) I.ok.above)
 have neD:∀ b ob,s.heap.get? b=some ob->b ≠ D:=fun b ob e z=>by rw [z,hD] at e; cases e
 have cellK:∀ x c,X.env.cells.lookup x=some c->∀ v,s.heap.IsCell c v->h2.IsCell c v:=fun x c e v ⟨ob,ho,hd⟩=>⟨ob,kp c ob (I.cne x c e) ho,hd⟩
 refine ⟨I.ok,I.os,I.bare,⟨?_,?_,?_,?_,?_,?_,?_⟩,⟨m,hn,?_⟩,?_,?_,?_,?_,?_,I.len⟩
 ·exact fun b ob e n hb hx=>kp b ob (neL b ob e) (I.base.keep b ob e n hb hx)
 ·intro b ob e n hb hx;obtain ⟨sl,q⟩:=I.base.slot b ob e n hb hx;exact ⟨sl,kp b _ (neL b ob e) q⟩
 ·intro b ob e n hx;obtain ⟨Wy,q⟩:=I.base.there b ob e hx;rw [Af (neD b Wy q)];exact I.base.free b ob e n hx
 ·intro b ob e hx;obtain ⟨Wy,q⟩:=I.base.there b ob e hx;exact ⟨Wy,kp b Wy (neL b ob e) q⟩
 ·intro b xs e;have q:=I.base.tups b xs e;rw [Af (Ah q fD)];exact q
 ·intro b ob u e;have q:=I.base.frzs b ob u e;rw [Af (Ah q fD)];exact q
 ·intro b ps e;obtain ⟨more,q⟩:=I.base.tbls b ps e;exact ⟨more,by rw [Af (Ah q fD)]; exact q⟩
 ·intro i x v e1 e2 e3;obtain ⟨u,r,l⟩:=hl.2 i x v e1 e2 e3;refine ⟨u,r,?_⟩;rcases l with l | ⟨k,c,e,z⟩
  ·exact .inl l
  ·exact .inr ⟨k,c,e,cellK x c e _ z⟩
 ·intro x c e;obtain ⟨v,z⟩:=I.cell x c e;exact ⟨v,cellK x c e v z⟩
 ·rw [Af (Ne.symm hDL)];exact I.free
 ·intro x c e;obtain ⟨v,ob,ho,_⟩:=I.cell x c e;rw [Af (neD c ob ho)];exact I.freeC x c e
 ·intro p hp;obtain ⟨e,n,ne,nf,d⟩:=I.pin p hp;exact ⟨kp _ _ ne e,by rw [Af (neD _ _ e)]; exact n,ne,nf,d⟩
 ·intro b u e;by_cases hb:b=D
  ·subst hb;rw [Ab] at e;cases e
   exact new
  ·rw [Af hb] at e;refine (I.hok b u e).stay (fun c v hc q=>kp c v ?_ q) (fun c q=>by rw [Af (Ah q fD)]; exact q) fun c xs q=>by rw [Af (Ah q fD)]; exact q
   rintro rfl;rcases hc with rfl | hc
   ·rw [I.free] at e; cases e
   ·rw [I.free] at hc; cases hc
end L2
namespace L2
open PySem PySem.Spec PyProof.Rows
section
variable {prog:Program} {w:World} {A:Around} {E:Value->Shared->Prop} {s:Shared}
end
def BG (a b:Str):Str:=if b.cps.toList < a.cps.toList then b else a
def BH (a b:Str):Str:=if a.cps.toList < b.cps.toList then b else a
theorem MG {ss:List Str}:∀ {us:List Value},A4 (ss.map V.str) us->StrsAre us ss:=by
 induction ss with
 | nil=>intro us r; cases r; exact .nil
 | cons x ss ih=>
  intro us r;cases r with
  | cons r1 r2=>
   obtain ⟨t,rfl⟩:=r1;exact .cons x t (ih r2)
theorem Hm:∀ {us:List Value} {ss:List Str},StrsAre us ss->A4 (ss.map V.str) us
 | _,_,.nil=>.nil
 | _,_,.cons x t r=>.cons ⟨t,rfl⟩ (Hm r)
theorem Ca {X:Cx}:Bl X (.builtin "sorted") (fun xs H Q=>∃ (a:Addr) (ss:List Str),xs=[.ref a]/\AB X.K H a (ss.map V.str)/\ss.length < 64 /\
  ∀ (l:Addr) (Cd:List Str),H l=none->Cd.Perm ss->sortedS Cd=true->Q (.ref l) (upd H l (.lst (Cd.map V.str)))):=by
 intro pins s σ H xs us Q I r h;obtain ⟨a,ss,rfl,ha,IK,q⟩:=h;obtain ⟨u,rfl,ru⟩:=BO r;cases ru
 obtain ⟨Ap,rv,pl,hz⟩:=I.list ha;have hl:Ap.length=ss.length:=by rw [<-rv.length,Y0]
 refine sorted_strs pl.isList (MG rv) (by lia) fun out Cd h1 h2 h3=>?_
 obtain ⟨e,he⟩:=sortedAll_at s.heap Ap out;refine ⟨.ref (s.heap.objs.size + 1),_,I.laid (o:=.lst (Cd.map V.str)) (t':=s.toks) (fun b o z=>sortedAll_old z) (Ze _) ⟨?_,out.toList,e,Hm h1,by simpa using he⟩,rfl,q _ Cd (I.hok.fresh (Ze _)) h2 h3⟩;rw [Y0,h2.length_eq];have:100 < sizeLine:=by decide
 lia
end L2
namespace L2
open PySem PySem.Spec PySem.W PyProof.Rows
theorem CU {vs:List Value} {p:Keyed} (h:p ∈ (pairsOf vs).toList):p=(p.2,p.2)/\p.2 ∈ vs:=by
 rw [pairsOf_toList] at h;obtain ⟨e,m⟩:=mem_zip_self h;refine ⟨?_,e ▸ m⟩;obtain ⟨x,y⟩:=p;exact Prod.ext e rfl
theorem O3 (vs:List Value):(pairsOf vs).toList.map (·.2)=vs:=by
 rw [pairsOf_toList];induction vs with
 | nil=>rfl
 | cons v vs ih=>rw [bq,YK,ih]
theorem QE {vs:List Value} {xs:Array Keyed} (h:xs.Perm (pairsOf vs)):(xs.toList.map (·.2)).Perm vs:=by
 have q:=(aq.mp h).map (·.2);rw [O3] at q;exact q
theorem QD {lt:Keyed->Keyed->Bool} {vs:List Value} {xs:Array Keyed} (h:xs.Perm (pairsOf vs)) (hs:xs.toList.Pairwise (Nl lt)):(xs.toList.map (·.2)).Pairwise (fun u v=>lt (v,v) (u,u)=false):=by
 rw [ZO];refine hs.imp_of_mem fun {p q} hp hq n=>?_
 have e1:=(CU ((aq.mp h).mem_iff.mp hp)).1;have e2:=(CU ((aq.mp h).mem_iff.mp hq)).1;rw [<-e1,<-e2];exact n
section
variable {prog:Program} {w:World} {A:Around} {E:Value->Shared->Prop} {s:Shared} {lt:Keyed->Keyed->Bool}
def Cmpd (prog:Program) (w:World) (s:Shared) (lt:Keyed->Keyed->Bool) (vs:List Value):Prop:=
 2<=vs.length->∀ (A:Around) (h':Heap),(∀ b o,s.heap.get? b=some o->h'.get? b=some o) ->
  ∃ κ,(∀ (Q:SortKind->Shared->Prop) (E:Value->Shared->Prop),Q κ { s with heap:=h' }->wpAny (model prog w) A (keyKind' vs.toArray) Q E { s with heap:=h' })/\Th prog w A { s with heap:=h' } κ lt (pairsOf vs)
end
inductive Du where
 | i (n:Int)
 | s (x:Str)
 deriving DecidableEq
def Ek:Du->Du->Bool
 | .i a,.i b=>decide (a < b)
 | .s a,.s b=>decide (a.cps.toList < b.cps.toList)
 | .i _,.s _=>true
 | .s _,.i _=>false
def Bg:List Du->List Du->Bool
 | [],[]=>false
 | [],_ :: _=>true
 | _ :: _,[]=>false
 | x :: xs,y :: ys=>if x=y then Bg xs ys else Ek x y
theorem SV (a:Du):Ek a a=false:=by
 cases a with
 | i n=>simp [Ek]
 | s x=>exact strKind.irrefl x.cps.toList
theorem SR:∀ {a b c:Du},Ek a b=true->Ek b c=true->Ek a c=true
 | .i a,.i b,.i c,h1,h2=>by
  simp only [Ek,decide_eq_true_eq] at h1 h2 ⊢;lia
 | .i _,.i _,.s _,_,_=>rfl
 | .i _,.s _,.s _,_,_=>rfl
 | .i _,.s _,.i _,_,h=>by cases h
 | .s _,.i _,_,h,_=>by cases h
 | .s _,.s _,.i _,_,h=>by cases h
 | .s x,.s y,.s z,h1,h2=>strKind.trans x.cps.toList y.cps.toList z.cps.toList h1 h2
theorem SU {a b:Du} (h:a ≠ b):Ek a b=true\/Ek b a=true:=by
 cases a <;> cases b <;> simp [Ek]
 ·have:∀ x y:Int,Du.i x ≠ Du.i y->x < y\/y < x:=fun x y h=>by
   have:x ≠ y:=fun e=>h (by rw [e])
   lia
  exact this _ _ h
 ·rename_i x y
  by_cases h1:x.cps.toList < y.cps.toList
  ·exact .inl h1
  ·by_cases h2:y.cps.toList < x.cps.toList
   ·exact .inr h2
   ·exfalso
    apply h;have e:=strKind.total x.cps.toList y.cps.toList (decide_eq_false h1) (decide_eq_false h2);cases x
    cases y
    rw [b6] at e;subst e;rfl
theorem Kt:∀ a,Bg a a=false
 | []=>rfl
 | x :: xs=>by unfold Bg; rw [if_pos rfl]; exact Kt xs
theorem UU {a b:Du} (h:Ek a b=true):a ≠ b:=fun e=>by
 rw [e,SV] at h;cases h
theorem Kq:∀ a b c,Bg a b=true->Bg b c=true->Bg a c=true
 | [],[],_,h,_=>by cases h
 | [],_ :: _,[],_,h=>by cases h
 | [],_ :: _,_ :: _,_,_=>rfl
 | _ :: _,[],_,h,_=>by cases h
 | _ :: _,_ :: _,[],_,h=>by cases h
 | x :: xs,y :: ys,z :: zs,h1,h2=>by
  unfold Bg at h1 h2 ⊢;by_cases e1:x=y
  ·rw [if_pos e1] at h1;by_cases e2:y=z
   ·rw [if_pos e2] at h2;rw [if_pos (e1.trans e2)];exact Kq xs ys zs h1 h2
   ·rw [if_neg e2] at h2;rw [if_neg (by rw [e1]; exact e2),e1];exact h2
  ·rw [if_neg e1] at h1;by_cases e2:y=z
   ·rw [if_neg (by rw [<-e2]; exact e1),<-e2];exact h1
   ·rw [if_neg e2] at h2;have h3:=SR h1 h2;rw [if_neg (UU h3)];exact h3
theorem Kr:∀ a b,Bg a b=false->Bg b a=false->a=b
 | [],[],_,_=>rfl
 | [],_ :: _,h,_=>by cases h
 | _ :: _,[],_,h=>by cases h
 | x :: xs,y :: ys,h1,h2=>by
  unfold Bg at h1 h2;by_cases e:x=y
  ·rw [if_pos e] at h1;rw [if_pos e.symm] at h2;rw [e,Kr xs ys h1 h2]
  ·rw [if_neg e] at h1;rw [if_neg (fun z=>e z.symm)] at h2;rcases SU e with q | q
   ·rw [h1] at q; cases q
   ·rw [h2] at q; cases q
theorem Sx (a b c:List Du) (h:Bg a c=true):Bg a b=true\/Bg b c=true:=by
 cases e1:Bg a b
 ·right;cases e2:Bg b a
  ·rw [<-Kr a b e1 e2]; exact h
  ·exact Kq _ _ _ e2 h
 ·exact .inl rfl
theorem Ks (f:Value->List Du):NM (fun x y=>Bg (f x.1) (f y.1)):=
 ⟨fun a=>Kt _,fun a b c=>Kq _ _ _,fun a b c=>Sx _ _ _⟩
theorem Jx {α:Type} (f:α->List Du) (inj:∀ a b,f a=f b->a=b):∀ {xs ys:List α},xs.Perm ys->xs.Pairwise (fun a b=>Bg (f b) (f a)=false)->ys.Pairwise (fun a b=>Bg (f b) (f a)=false)->xs=ys
 | [],ys,p,_,_=>by rw [p.nil_eq]
 | x :: xs,[],p,_,_=>by have:=p.length_eq; simp at this
 | x :: xs,y :: ys,p,h1,h2=>by
  have e:x=y:=by
   rcases Y4.mp (p.mem_iff.mp YO) with e | m1
   ·exact e
   ·rcases Y4.mp (p.mem_iff.mpr YO) with e | m2
    ·exact e.symm
    ·exact inj _ _ (Kr _ _ ((Zs.mp h2).1 x m1) ((Zs.mp h1).1 y m2))
  subst e;rw [Jx f inj (List.Perm.cons_inv p) (Zs.mp h1).2 (Zs.mp h2).2]
def Cc:Value->Du
 | .int n _=>.i n
 | .str x _=>.s x
 | _=>.i 0
def NV:V->Du
 | .int n=>.i n
 | .str x=>.s x
 | _=>.i 0
def CK (h:Heap):Value->List Du
 | .ref a=>match h.get? a with
  | some o=>(match o.data with
   | .seq xs _=>xs.toList.map Cc
   | _=>[])
  | none=>[]
 | v=>[Cc v]
def QP (H:Hp):V->List Du
 | .ref a=>match H a with
  | some (.tup ys)=>ys.map NV
  | _=>[]
 | v=>[NV v]
def LD (k:Bool) (v:V):Prop:=if k=true then ∃ x,v=.str x else ∃ n,v=.int n
def CG (k:Bool) (v:Value):Prop:=if k=true then ∃ x t,v=.str x t else ∃ n t,v=.int n t
theorem S0 {k:Bool} {v:V} {u:Value} (r:A3 v u) (h:LD k v):CG k u/\Cc u=NV v:=by
 unfold LD at h;unfold CG;cases k with
 | true=>
  simp only [if_true] at h ⊢;obtain ⟨x,rfl⟩:=h;obtain ⟨t,rfl⟩:=r;exact ⟨⟨x,t,rfl⟩,rfl⟩
 | false=>
  simp only [Za,if_false] at h ⊢;obtain ⟨x,rfl⟩:=h;obtain ⟨t,rfl⟩:=r;exact ⟨⟨x,t,rfl⟩,rfl⟩
def My (H:Hp) (kd:Nat->Bool) (v:V):Prop:=∃ t ys,v=.ref t/\H t=some (.tup ys)/\ys ≠ []/\∀ i y,ys[i]? = some y->LD (kd i) y
def LB (h:Heap) (kd:Nat->Bool) (v:Value):Prop:=∃ t o xs n,v=.ref t/\h.get? t=some o/\o.cls=.type "tuple"/\o.data=.seq xs n/\0 < xs.size/\∀ (i:Nat) x,xs.toList[i]? = some x->CG (kd i) x
theorem PM {X:Cx} {pins:List (Addr × Obj)} {σ:St} {H:Hp} {s:Shared} (I:An X pins σ H s) {kd:Nat->Bool} {v:V} {u:Value} (r:A3 v u) (h:My H kd v):LB s.heap kd u/\CK s.heap u=QP H v:=by
 obtain ⟨t,ys,rfl,ht,ne,hy⟩:=h;cases r
 obtain ⟨_,Ap,rv,⟨o,ho,hc,n,hd⟩,_⟩:=(show A5 X.prog X.w H s.heap t (.tup _) from I.hok t _ ht)
 have e:QP H (.ref t)=ys.map NV:=by
  show (match H t with | some (.tup ys)=>ys.map NV | _=>[])=_
  rw [ht]
 have e2:CK s.heap (.ref t)=Ap.map Cc:=by
  show (match s.heap.get? t with | some o=>(match o.data with | .seq xs _=>xs.toList.map Cc | _=>[]) | none=>[])=_
  rw [ho];dsimp only;rw [hd]
 have all:∀ {ys:List V} {Ap:List Value} (k:Nat),A4 ys Ap->(∀ i y,ys[i]? = some y->LD (kd (k + i)) y)->(∀ (i:Nat) x,Ap[i]? = some x->CG (kd (k + i)) x)/\Ap.map Cc=ys.map NV:=by
  intro ys;induction ys with
  | nil=>intro Ap k rv _; cases rv; exact ⟨fun i x e=>by simp at e,rfl⟩
  | cons y ys ih=>
   intro Ap k rv hy;cases rv with
   | cons r1 r2=>
    obtain ⟨a1,a2⟩:=S0 r1 (hy 0 y rfl);obtain ⟨b1,b2⟩:=ih (k + 1) r2 fun i z e=>by
     have:=hy (i + 1) z (by simpa using e);rw [show k + 1 + i=k + (i + 1) by lia];exact this
    refine ⟨fun i x e=>?_,by rw [YK,YK,a2,b2]⟩;cases i with
    | zero=>
     rw [Zz] at e;cases e
     exact a1
    | succ i=>
     have:=b1 i x (by simpa using e);rw [show k + 1 + i=k + (i + 1) by lia] at this;exact this
 obtain ⟨a1,a2⟩:=all 0 rv fun i y e=>by rw [ZR]; exact hy i y e
 refine ⟨⟨t,o,Ap.toArray,n,rfl,ho,hc,hd,?_,fun i x e=>?_⟩,by rw [e,e2,a2]⟩
 ·have:=rv.length;have:0 < ys.length:=ZF.mpr ne;simp;lia
 ·have:=a1 i x (by simpa using e);rw [ZR] at this;exact this
section
variable {prog:Program} {w:World} {A:Around} {E:Value->Shared->Prop} {s:Shared} {Q:Bool->Shared->Prop}
theorem Sj {k b:Bool} {u v:Value} (hu:CG k u) (hv:CG k v) (h:Q (Ek (Cc u) (Cc v)) s):wpAny (model prog w) A (oneLt' b u v) Q E s:=by
 unfold CG at hu hv;cases k with
 | true=>
  simp only [if_true] at hu hv;obtain ⟨x,t,rfl⟩:=hu;obtain ⟨y,t',rfl⟩:=hv;cases b with
  | true=>exact oneLt_str h
  | false=>exact kat_one _ _ (PySem.P.lt_str h)
 | false=>
  simp only [Za,if_false] at hu hv;obtain ⟨x,t,rfl⟩:=hu;obtain ⟨y,t',rfl⟩:=hv;cases b with
  | true=>exact oneLt_int h
  | false=>exact kat_one _ _ (lt_int h)
theorem UO {k:Bool} {u v:Value} (hu:CG k u) (hv:CG k v):SeqAt.EqAt A s u v (decide (Cc u=Cc v)):=by
 unfold CG at hu hv;cases k with
 | true=>
  simp only [if_true] at hu hv;obtain ⟨x,t,rfl⟩:=hu;obtain ⟨y,t',rfl⟩:=hv;have e:decide (Cc (.str x t)=Cc (.str y t'))=(x == y):=by
   show decide (Du.s x=Du.s y)=_
   rw [Z7];simp
  rw [e];exact SeqAt.EqAt.str_str x t y t'
 | false=>
  simp only [Za,if_false] at hu hv;obtain ⟨x,t,rfl⟩:=hu;obtain ⟨y,t',rfl⟩:=hv;have e:decide (Cc (.int x t)=Cc (.int y t'))=(x == y):=by
   show decide (Du.i x=Du.i y)=_
   rw [Z7];simp
  rw [e];exact SeqAt.EqAt.int_int x t y t'
theorem J8 {b:Bool} {kd:Nat->Bool}:∀ (xs ys:List Value) (i:Nat),(∀ (j:Nat) x,xs[j]? = some x->CG (kd (i + j)) x)->(∀ (j:Nat) x,ys[j]? = some x->CG (kd (i + j)) x) ->
  Q (Bg (xs.map Cc) (ys.map Cc)) s->KatLex prog w A b (decide (xs.length < ys.length)) Q (xs.zip ys) i s
 | [],[],i,_,_,h=>h
 | [],y :: ys,i,_,_,h=>h
 | x :: xs,[],i,_,_,h=>h
 | x :: xs,y :: ys,i,hx,hy,h=>by
  have kx:CG (kd i) x:=hx 0 x rfl;have ky:CG (kd i) y:=hy 0 y rfl;rw [YK,YK] at h;unfold Bg at h;refine kat_cons (UO kx ky _ _ _ _ ?_);refine kat_go (fun e=>kat_yes ?_) (fun e=>kat_no (Sj kx ky ?_))
  ·have e':=of_decide_eq_true e;rw [if_pos e'] at h;have r:=J8 (b:=b) (kd:=kd) xs ys (i + 1) (fun j z e=>by rw [show i + 1 + j=i + (j + 1) by lia]; exact hx (j + 1) z (by simpa using e)) (fun j z e=>by rw [show i + 1 + j=i + (j + 1) by lia]; exact hy (j + 1) z (by simpa using e)) h;have e2:decide ((x :: xs).length < (y :: ys).length)=decide (xs.length < ys.length):=by simp
   rw [e2];exact r
  ·have e':=of_decide_eq_false e;rw [if_neg e'] at h;exact h
theorem TQ {kd:Nat->Bool} {u v:Value} (hu:LB s.heap kd u) (hv:LB s.heap kd v) (h:Q (Bg (CK s.heap u) (CK s.heap v)) s):wpAny (model prog w) A (keyLt' (tuples' true) u v) Q E s:=by
 obtain ⟨t,o,xs,n,rfl,ho,hc,hd,p,hx⟩:=hu;obtain ⟨t',o',Px,n',rfl,IY,Hn,LI,p',Kw⟩:=hv;have e1:CK s.heap (.ref t)=xs.toList.map Cc:=by
  show (match s.heap.get? t with | some o=>(match o.data with | .seq xs _=>xs.toList.map Cc | _=>[]) | none=>[])=_
  rw [ho];dsimp only;rw [hd]
 have e2:CK s.heap (.ref t')=Px.toList.map Cc:=by
  show (match s.heap.get? t' with | some o=>(match o.data with | .seq xs _=>xs.toList.map Cc | _=>[]) | none=>[])=_
  rw [IY];dsimp only;rw [LI]
 rw [e1,e2] at h;refine kat_lt ho hd IY LI ?_;have e3:decide (xs.size < Px.size)=decide (xs.toList.length < Px.toList.length):=by simp
 rw [e3];exact J8 (kd:=kd) _ _ 0 (fun j x e=>by rw [ZR]; exact hx j x e) (fun j x e=>by rw [ZR]; exact Kw j x e) h
theorem Jp {kd:Nat->Bool} {vs:List Value} (h:∀ v ∈ vs,LB s.heap kd v):Cmpd prog w s (fun x y=>Bg (CK s.heap x.1) (CK s.heap y.1)) vs:=by
 intro h2 A h' kp;have h1:∀ v ∈ vs,LB h' kd v/\CK h' v=CK s.heap v:=fun v hv=>by
  obtain ⟨t,o,xs,n,rfl,ho,hc,hd,p,hx⟩:=h v hv;refine ⟨⟨t,o,xs,n,rfl,kp t o ho,hc,hd,p,hx⟩,?_⟩;show (match h'.get? t with | some o=>(match o.data with | .seq xs _=>xs.toList.map Cc | _=>[]) | none=>[])=(match s.heap.get? t with | some o=>(match o.data with | .seq xs _=>xs.toList.map Cc | _=>[]) | none=>[])
  rw [ho,kp t o ho]
 refine ⟨tuples' true,?_,?_⟩
 ·intro Q E hq;have tups:∀ l:List Value,(∀ v ∈ l,LB h' kd v)->∃ fs:List Value,KatTups h' l fs/\fs.length=l.length/\∀ f ∈ fs,CG (kd 0) f:=by
   intro l;induction l with
   | nil=>intro _; exact ⟨[],KatTups.nil,rfl,fun f hf=>nomatch hf⟩
   | cons v l ih=>
    intro hl;obtain ⟨fs,k1,k2,k3⟩:=ih fun v hv=>hl v (YT _ hv)
    obtain ⟨t,o,xs,n,rfl,ho,hc,hd,p,hx⟩:=hl v YO;have g:xs[0]? = some xs[0]:=Z2 p;refine ⟨xs[0] :: fs,KatTups.cons ho hc hd g k1,by rw [YX,YX,k2],fun f hf=>?_⟩;rcases Y4.mp hf with rfl | hf
    ·exact hx 0 _ (by rw [Z3]; exact g)
    ·exact k3 f hf
  obtain ⟨fs,k1,k2,k3⟩:=tups vs fun v hv=>(h1 v hv).1
  cases ek:kd 0 with
  | true=>
   refine kat_kind (T:=.type "str") k1 (by lia) (fun v hv=>?_) rfl hq;have q:=k3 v hv;unfold CG at q;rw [ek] at q;simp only [if_true] at q;obtain ⟨x,t,rfl⟩:=q;exact Looks.now
  | false=>
   refine kat_kind (T:=.type "int") k1 (by lia) (fun v hv=>?_) rfl hq;have q:=k3 v hv;unfold CG at q;rw [ek] at q;simp only [Za,if_false] at q;obtain ⟨x,t,rfl⟩:=q;exact Looks.now
 ·intro x y hx hy Q E hq;obtain ⟨ex,mx⟩:=CU (vs:=vs) (p:=x) (by simpa using hx);obtain ⟨ey,my⟩:=CU (vs:=vs) (p:=y) (by simpa using hy);rw [ex,ey] at hq ⊢;dsimp only at hq ⊢;refine TQ (h1 _ mx).1 (h1 _ my).1 ?_;show Q (Bg (CK h' x.2) (CK h' y.2)) _
  rw [(h1 _ mx).2,(h1 _ my).2];exact hq
end
theorem Jl {us JV:List Value} (p:JV.Perm us):∀ {vs:List V},A4 vs us->∃ Jh,A4 Jh JV/\Jh.Perm vs:=by
 induction p with
 | nil=>intro vs h; exact ⟨vs,h,.refl _⟩
 | cons x p ih=>
  intro vs h;cases h with
  | cons h1 h2=>
   obtain ⟨Jh,a,b⟩:=ih h2;exact ⟨_ :: Jh,.cons h1 a,b.cons _⟩
 | swap x y l=>
  intro vs h;cases h with
  | cons h1 h2=>
   cases h2 with
   | cons h3 h4=>exact ⟨_ :: _ :: _,.cons h3 (.cons h1 h4),.swap _ _ _⟩
 | trans p1 p2 UB UA=>
  intro vs h;obtain ⟨WM,a1,b1⟩:=UA h;obtain ⟨TM,a2,b2⟩:=UB a1;exact ⟨TM,a2,b2.trans b1⟩
end L2
namespace L2
open PySem PySem.W PyProof.Rows
section
variable {prog:Program} {w:World} {A:Around} {E:Value->Shared->Prop} {s:Shared} {κ:SortKind} {lt:Keyed->Keyed->Bool} {a0:Array Keyed}
end
end L2
namespace L2
open PySem PySem.Spec PyProof.Rows
section
variable {prog:Program} {w:World} {A:Around} {E:Value->Shared->Prop} {s:Shared}
end
def Ew (u:AG):AG:=(BG u.1 u.2.1,BH u.1 u.2.1,u.2.2)
theorem DS {X:Cx} {ix:Nat} {x:Str} {px spos:Pos} {tg iter elt:Expr} {ifs:List Expr} {scope:Scope} {cl:List (Str × Addr)} {N:List Str} {pos:Pos} {wi:TI} {g:TG} {tt:TT} {te:TE} {σ0:St->St} (hN:X.N.Nodup) (hix:X.N[ix]? = some x) (hlx:UZ X.env.scope x) (hc:X.calm=true) (co:A2 X scope cl)
  (hσ:∀ σ,σ.length=X.N.length->AH X cl scope N σ (σ0 σ)) (hi:PI X tg iter wi)
  (hb:∀ s2 H C fp,PG (Am X scope cl N s2 H C fp) tg g/\TH (Am X scope cl N s2 H C fp) ifs tt/\PE (Am X scope cl N s2 H C fp) elt te)
  (hsw:swapsWith (.ListComp elt [⟨tg,iter,ifs,0⟩] scope pos) (some (.Name x px)) spos.line X.env=pure true:=by rfl)
  (hs:∀ x,foldedSetIterable iter X.env x=pure x:=by intro _; rfl) (hf:X.fn x=true\/X.env.scope.names.lookup x=some .local:=by first | exact .inl rfl | exact .inr rfl | assumption) :
  PS X (.Assign [.Name x px] (.ListComp elt [⟨tg,iter,ifs,0⟩] scope pos) spos) (PV (MF wi g tt te σ0) (JB ix)):=by
 intro pins s σ H DD I h;rw [exec_Assign_Name_used _ _ _ _ hsw];refine wpAny_bind (wpAny_standAt (wpAny_bind ?_));show wpAny _ X.A (do let _ <- comprehension (.ListComp elt [⟨tg,iter,ifs,0⟩] scope pos) scope X.env _ (newList []) false (eval iter X.env) (some (assign (.Name x px) X.env))) _ _ s
 refine wpAny_bind (wpAny_mono (wpAny_comprehension_free (use:=some (assign (.Name x px) X.env)) (Q:=fun _ s'=>SP X pins DD .next s') rfl hs co.clos co.kind co.names
  (wpAny_mono (hi (pins:=pins) s σ H _ I h) (fun xv s1 h1=>wpAny_mono h1 (fun itv s2 h2=>?_) fun _ _ e=>e) fun _ _ e=>e)) (fun _ s' hq=>wpAny_pure (wpAny_pure hq)) fun _ _ e=>e)
 obtain ⟨it,fp,tn,J,H2,rfl,I2,T,ET,f2,hW⟩:=h2;refine wpAny_newObj_type (wpAny_newFunctionEnv co.cell (by intro y hy; cases hy) (fun h₁ B4 Bn=>?_) co.kind);dsimp only at B4 Bn ⊢;generalize Ih:s2.heap.push { cls:=.type "list",dict:=none,data:=.seq ([]:List Value).toArray } = HH at B4 Bn ⊢;have Bz:HH.objs.size=s2.heap.objs.size + 1:=by rw [<-Ih,Zk]
 have old:∀ b o,s2.heap.get? b=some o->h₁.get? b=some o:=fun b o e=>
  Bn.extBut b o (YF (by rw [Bz]; exact YV (YC e))) (Y2 _ (Ih ▸ Y2 _ e))
 have newD:∃ n,h₁.get? s2.heap.objs.size=some { cls:=.type "list",data:=.seq ([]:List Value).toArray n }:=
  ⟨_,Bn.extBut _ _ (YF (by rw [Bz]; exact YZ _)) (Y2 _ (Ih ▸ YD _ rfl))⟩
 obtain ⟨W,⟨m0,w0⟩,turn⟩:=hW s2.heap.objs.size I2.fresh;have hfo:∀ b ∈ fp,∃ o,s2.heap.get? b=some o:=fun b hb=>let ⟨o,e,_⟩:=T.obj _ _ ET b hb; ⟨o,e⟩
 have I3:An (Am X scope cl N s2 H2 HH.objs.size fp) [] (σ0 σ) (upd H2 s2.heap.objs.size (.lst [])) { s2 with heap:=h₁,toks:=s2.toks + ([]:List (Str × Value)).length }:=
  IA I2 f2 hfo co (hσ σ I.len) old (Y7 _) (by rw [Bz]; exact Ze _) (Zx (by rw [Bz]; exact YZ _)) (.inr newD) B4
 have fC:s2.heap.objs.size<=HH.objs.size:=by rw [Bz]; exact Ze _
 obtain ⟨hg,ht,he⟩:=hb s2 H2 HH.objs.size fp;have loop:∀ BW:Shared,BW = { s2 with heap:=h₁,toks:=s2.toks + ([]:List (Str × Value)).length } ->
   codeAny (model X.prog X.w) X.A (.compLoop (.ListComp elt [⟨tg,iter,ifs,0⟩] scope pos) 0 (.ref it) (.ref s2.heap.objs.size) (compEnvC scope cl HH.objs.size X.env))
    (compPost (model X.prog X.w) X.A X.xe (some (assign (.Name x px) X.env)) (fun _ s'=>SP X pins DD .next s') (.ref s2.heap.objs.size) HH.objs.size) BW:=by
  rintro BW rfl;have stat:∀ {H':Hp} ,(∀ b ∈ fp,H' b=none)->∀ b ∈ fp,Eg (Am X scope cl N s2 H2 HH.objs.size fp) [] H' b:=fun hn b hb=>by
   refine ⟨hn b hb,?_,?_,.inl hb,?_,fun p hp=>by cases hp⟩
   ·obtain ⟨o,e⟩:=hfo b hb;exact YF (show b < HH.objs.size by rw [Bz]; exact YV (YC e))
   ·intro hz;obtain ⟨_,q1,q2,_⟩:=f2 b hb;rcases Y4.mp (I2.stkSub b hz) with e | e
    ·exact q1 e
    ·exact q2 e
   ·exact fun x c e=>(f2 b hb).2.2.2.2.1 x c (co.sub x c e)
  refine BS (fun n s'=>∃ i Av H',An (Am X scope cl N s2 H2 HH.objs.size fp) [] Av H' s'/\tn i s'.heap/\(∀ b ∈ fp,H' b=none)/\W i n Av H') ?_ m0
   ⟨0,σ0 σ,_,I3,T.keep _ _ _ ET fun b hb o e=>old b o e,fun b hb=>?_,w0⟩
  ·rintro n s4 ⟨i,F3,H4,I4,KH,Lv,w4⟩;rcases turn i n F3 H4 w4 with ⟨stop,qn⟩ | ⟨go,step⟩
   ·refine wpAny_mono (T.done (Am X scope cl N s2 H2 HH.objs.size fp) rfl rfl rfl hc i [] s4 F3 H4 (fun _ _=>False) I4 (stat Lv) KH stop) (fun r s5 ⟨hr,I5⟩=>?_) fun _ _ z=>z.elim
    subst hr;obtain ⟨m5,QW,_⟩:=id I5.loc;have I6:An X pins σ H4 s5:=E7 (h':=s5.heap) I2 f2 fC I5 (Heap.SameBut.refl _ _);have cC:∀ y c,X.env.cells.lookup y=some c->c ≠ HH.objs.size:=fun y c e=>by
     obtain ⟨v,q⟩:=I2.cell y c e;exact YF (YG q.lt fC)
    have lC:X.env.locals ≠ HH.objs.size:=YF (YG I2.lt fC);show wpAny _ X.A (assign (.Name x px) X.env (.ref s2.heap.objs.size)) _ X.xe s5
    refine wpAny_assign_Name (EF I6 hN hix hlx (v:=.ref s2.heap.objs.size) rfl (fun s7 I7 ⟨a,sb,ha⟩=>?_) hf);have aC:a ≠ HH.objs.size:=by
     rcases ha with rfl | ha
     ·exact lC
     ·exact cC _ _ ha
    refine ⟨m5,QW.sameBut sb (Ne.symm aC),fun h' JA=>⟨_,H4,?_,qn⟩⟩;exact I7.turned (t':=s7.toks) (it:=HH.objs.size) (fun b o hb e=>(JA.2 b hb).trans e) I5.free (Ne.symm lC) (.inr (YU I2.sz fC)) cC fun p hp z=>by
     have e:=(I2.pin p hp).1;exact absurd (YG (YC e) fC) (by rw [z]; exact Zp _)
   ·refine wpAny_mono (T.item (Am X scope cl N s2 H2 HH.objs.size fp) rfl rfl rfl hc i [] s4 F3 H4 (fun _ _=>False) I4 (stat Lv) KH go) (fun r s5 ⟨u,hr,h5⟩=>?_) fun _ _ z=>z.elim
    subst hr;refine wpAny_mono h5 (fun _ s6 ⟨x,H6,I6,r6,y6,Hs,Rf⟩=>?_) fun _ _ z=>z.elim
    have Rx:=I6.pinned (stat Rf) (T.obj _ _ Hs);refine wpAny_mono (hg s6 F3 H6 x u _ Rx r6 (step x H6 y6)) (fun _ s7 ⟨Eh,H7,I7,q7⟩=>?_) fun _ _ z=>z.elim
    refine wpAny_mono (ht s7 Eh H7 _ I7 q7) (fun ok s8 ⟨H8,I8,q8⟩=>?_) fun _ _ z=>z.elim
    have again:∀ {s9:Shared} {F2:St} {H9:Hp} ,An (Am X scope cl N s2 H2 HH.objs.size fp) ([] ++ Dw fp s6.heap) F2 H9 s9->(∃ m',m' < n/\W (i + 1) m' F2 H9)->∃ m,m < n/\∃ i Av H',An (Am X scope cl N s2 H2 HH.objs.size fp) [] Av H' s9/\tn i s9.heap/\(∀ b ∈ fp,H' b=none)/\W i m Av H':=fun {s9 F2 H9} I9 n9=>by
     obtain ⟨m',hm,w9⟩:=n9;refine ⟨m',hm,i + 1,F2,H9,I9.unpinned,T.keep _ _ _ Hs fun b hb o e=>(I9.pin (b,o) (YH _ (YH _ (AZ hb e)))).1,fun b hb=>?_,w9⟩;obtain ⟨o,e,d⟩:=T.obj _ _ Hs b hb;exact (I9.pin (b,o) (YH _ (YH _ (AZ hb e)))).2.1
    cases ok with
    | false=>
     rw [if_neg YI] at q8 ⊢;exact again I8 q8
    | true=>
     rw [if_pos rfl] at q8 ⊢;refine wpAny_mono (he s8 Eh H8 _ I8 q8) (fun y s9 ⟨v,H9,I9,r9,acc,hacc,hsz,q9⟩=>?_) fun _ _ z=>z.elim
     refine wpAny_mono (BZ (X:=Am X scope cl N s2 H2 HH.objs.size fp) s9 Eh H9 (.ref s2.heap.objs.size) [v] (.ref s2.heap.objs.size) [y] (fun _ LF=>∃ m',m' < n/\W (i + 1) m' Eh LF) I9 rfl (.cons r9 .nil) ⟨_,acc,v,rfl,rfl,hacc,hsz,q9⟩) (fun _ MR ⟨_,LF,Ry,_,Qz⟩=>?_) fun _ _ z=>z.elim
     exact again Ry Qz
  ·have z:=(f2 b hb).1;obtain ⟨o,e⟩:=hfo b hb;rw [Af (YF (YC e))];exact z
 exact codeAny_compStart_list (loop _ rfl) (T.self _ 0 _ _ _ (T.keep _ _ _ ET fun b hb o e=>old b o e) (loop _ rfl))
theorem Paired.at {α β:Type} {F:α->β->Prop}:∀ {Lq:List α} {Lp:List β},Paired F Lq Lp->∀ {i:Nat} {a:α},Lq[i]? = some a->∃ b,Lp[i]? = some b/\F a b
 | _,_,.nil,i,a,h=>by simp at h
 | _,_,.cons r t,0,a,h=>by
  simp only [Zz,YM.injEq] at h;subst h;exact ⟨_,rfl,r⟩
 | _,_,.cons r t,i + 1,a,h=>by
  simp only [aH] at h;obtain ⟨b,h1,h2⟩:=Paired.at t h;exact ⟨b,by simpa using h1,h2⟩
theorem Ou {P:Program} {w:World} {k:A6} {u:Value} (h:(AO P w).is k u=true):A3 (kV k) u:=by
 rcases Bo (show HX k u=true from h) with ⟨i,t,rfl,rfl⟩ | ⟨x,t,rfl,rfl⟩
 ·exact ⟨t,rfl⟩
 ·exact ⟨t,rfl⟩
def TK (a:Addr) (kvs:List (A6 × V)) (o:Obj):It:=
 ⟨fun i H=>H a=some (.frz o (.dK kvs))/\i < kvs.length,fun i H x H'=>H'=H/\∃ k v,kvs[i]? = some (k,v)/\x=kV k,fun i H=>H a=some (.frz o (.dK kvs))/\kvs.length<=i⟩
theorem Mu {X:Cx} {pins:List (Addr × Obj)} {σ:St} {H:Hp} {s:Shared} {a:Addr} {o:Obj} {kvs:List (A6 × V)} {es:Array DictEntry} {ep:Nat} (I:An X pins σ H s) (e:H a=some (.frz o (.dK kvs))) (he:o.data=.dict es ep) :
  (a == sysModules)=false/\∃ vs,KV kvs vs/\s.heap.DictAt (AO X.prog X.w) a vs ep:=by
 obtain ⟨ho,z,hd,vs,rel,o',SI,SM,h1,h2,h3,h4⟩:=(show A5 X.prog X.w H s.heap a (.frz o (.dK kvs)) from I.hok a _ e)
 rw [ho] at h1;cases h1
 rw [he] at h3;injection h3 with h5 h6;subst h5 h6;exact ⟨hd,vs,rel,o,es,ho,h2,he,h4⟩
theorem NZ {P:Program} {w:World} {K:Y3} {tg:Expr} (a it:Addr) {kvs:List (A6 × V)} {o:Obj} {es:Array DictEntry} {ep:Nat} (he:o.data=.dict es ep) :
  LA P w K tg (TK a kvs o) [it] it (fun i h=>h.IsKeyIter it a i kvs.length ep) where
 mem:=by simp
 obj:=fun i h st b hb=>by
  have e:b=it:=by simpa using hb
  subst e;obtain ⟨o,e,c,d⟩:=st;exact ⟨o,e,fun v z=>by rw [d] at z; cases z⟩
 keep:=fun i h h' st k=>st.at fun o e=>k it (by simp) o e
 item:=by
  intro X hP hw hK hc i pins s σ H E I hf st hg;subst hP hw hK;obtain ⟨hq,B0⟩:=hg;obtain ⟨hd,vs,rel,da⟩:=Mu I hq he;have hx:kvs[i]? = some kvs[i]:=by simp [B0]
  obtain ⟨⟨k,v⟩,hv,e1,e2⟩:=Paired.at rel hx;have hl:kvs.length=vs.length:=rel.length;obtain ⟨f0,f1,f2,f3,f4,f5⟩:=hf it (by simp);rw [hl] at st;refine wpAny_pyNext_dict_item st da hv fun key h' hkey AM sb=>?_
  have I1:An X pins σ H { s with heap:=h' }:=I.turned (t':=s.toks) (fun b o hb e=>(sb.2 b hb).trans e) f0 f1 f3 f4 f5;rw [<-hl] at AM;obtain ⟨o',e,c,d⟩:=id AM;refine ⟨key,rfl,Ik (s:={ s with heap:=h' }) e c d (by decide) ⟨kV k,H,I1,Ou hkey,⟨rfl,k,kvs[i].2,?_,rfl⟩,AM,fun b hb=>(hf b hb).1⟩⟩;have UQ:kvs[i].1=k:=e1;rw [hx,<-UQ]
 done:=by
  intro X hP hw hK hc i pins s σ H E I hf st hg;subst hP hw hK;obtain ⟨hq,hle⟩:=hg;obtain ⟨hd,vs,rel,da⟩:=Mu I hq he;have hl:kvs.length=vs.length:=rel.length;obtain ⟨f0,f1,f2,f3,f4,f5⟩:=hf it (by simp);rw [hl] at st;exact wpAny_pyNext_dict_end (I.ok.hd hc) st da (by simp; lia) fun h' eb=>⟨rfl,I.turned (t':=s.toks) (fun b o hb e=>eb b o hb e) f0 f1 f3 f4 f5⟩
 self:=fun _ _ _ _ _ st h=>wpAny_pyIter_keyiter st h
def Ef (H:Hp) (a:Addr) (kvs:List (A6 × V)) (o:Obj) (H':Hp):Prop:=(H a=some (.dK kvs)/\H'=upd H a (.frz o (.dK kvs)))\/(H a=some (.frz o (.dK kvs))/\H'=H)
theorem Ef.at {H H':Hp} {a:Addr} {kvs:List (A6 × V)} {o:Obj} (f:Ef H a kvs o H'):H' a=some (.frz o (.dK kvs)):=by
 rcases f with ⟨_,rfl⟩ | ⟨e,rfl⟩
 ·exact Ab
 ·exact e
theorem Ef.ne {H H':Hp} {a b:Addr} {kvs:List (A6 × V)} {o:Obj} (f:Ef H a kvs o H') (h:b ≠ a):H' b=H b:=by
 rcases f with ⟨_,rfl⟩ | ⟨e,rfl⟩
 ·exact Af h
 ·rfl
theorem An.freeze {X:Cx} {pins:List (Addr × Obj)} {σ:St} {H:Hp} {s:Shared} {a:Addr} {kvs:List (A6 × V)} (I:An X pins σ H s) (e:Rd H a (.dK kvs)) :
  ∃ o es ep H',o.data=.dict es ep/\Ef H a kvs o H'/\An X pins σ H' s:=by
 rcases e with e | ⟨o,e⟩
 ·obtain ⟨z,hd,vs,rel,o,es,ep,h1,h2,h3,h4⟩:=(show A5 X.prog X.w H s.heap a (.dK kvs) from I.hok a _ e)
  refine ⟨o,es,ep,upd H a (.frz o (.dK kvs)),h3,.inl ⟨e,rfl⟩,?_⟩;exact I.write (x:=a) (e:=a) (h':=s.heap) (t':=s.toks) (by rw [e]; exact True.intro) (.inl rfl) (fun b u _ q=>q) ⟨o,h1⟩ ⟨h1,z,hd,vs,rel,o,es,ep,h1,h2,h3,h4⟩
 ·obtain ⟨ho,z,hd,vs,rel,o',es,ep,h1,h2,h3,h4⟩:=(show A5 X.prog X.w H s.heap a (.frz o (.dK kvs)) from I.hok a _ e)
  rw [ho] at h1;cases h1
  exact ⟨o,es,ep,H,h3,.inr ⟨e,rfl⟩,I⟩
def iDict (tl:TE):TI:=fun σ H R=>tl σ H fun x H1=>∃ a kvs,x=.ref a/\Rd H1 a (.dK kvs)/\∀ o H2,Ef H1 a kvs o H2->R (TK a kvs o) H2
theorem Nd {X:Cx} {tg l:Expr} {tl:TE} (hl:PE X l tl):PI X tg l (iDict tl):=by
 intro pins s σ H R I h;refine B5 (hl (pins:=pins) s σ H _ I h) fun v s1 ⟨x,H1,I1,r1,q1⟩=>?_
 obtain ⟨a,kvs,e,hr,q⟩:=q1;subst e;cases r1
 obtain ⟨o,es,ep,H2,he,fz,I2⟩:=I1.freeze hr;obtain ⟨hd,vs,rel,da⟩:=Mu I2 fz.at he;refine wpAny_pyIter_dict hd da ?_;refine ⟨s1.heap.objs.size,[s1.heap.objs.size],_,_,H2,rfl,I2.kept (t':=s1.toks) fun b o e=>Y2 _ e,NZ a _ he,⟨_,YD _ rfl,rfl,?_⟩,fun b hb=>?_,q o H2 fz⟩
 ·rw [rel.length]; rfl
 ·have e:b=s1.heap.objs.size:=by simpa using hb
  subst e;exact I2.fpOk (Y7 _) (I2.hok.fresh (Y7 _))
theorem Rg {a:Addr} {kvs:List (A6 × V)} {o:Obj} {g:TG} {tb:TS} {D:ED} {σ:St} {H:Hp} (Pv:Nat->St->Hp->Prop) (h0:Pv 0 σ H) (hl:∀ i σ H,i<=kvs.length->Pv i σ H->H a=some (.frz o (.dK kvs)))
  (hs:∀ i k v σ H,kvs[i]? = some (k,v)->Pv i σ H->g (kV k) σ H fun Ay H2=>tb { D with nx:=Pv (i + 1),ct:=Pv (i + 1),bk:=D.nx } Ay H2) (hd:∀ σ H,Pv kvs.length σ H->D.nx σ H) :
  ∃ W:Nat->Nat->St->Hp->Prop,(∃ m,W 0 m σ H)/\∀ i m σ H,W i m σ H ->
   ((TK a kvs o).stop i H/\D.nx σ H)\/((TK a kvs o).go i H/\∃ N:St->Hp->Prop,(∀ Av H',N Av H'->∃ m',m' < m/\W (i + 1) m' Av H')/\∀ x H',(TK a kvs o).yld i H x H'->g x σ H' fun Ay H2=>tb { D with nx:=N,ct:=N,bk:=D.nx } Ay H2):=by
 refine ⟨fun i m σ H=>m=kvs.length - i/\i<=kvs.length/\Pv i σ H,⟨kvs.length,by simp,Zd _,h0⟩,?_⟩;rintro i m σ H ⟨rfl,hi,p⟩;have q:=hl i σ H hi p;by_cases B0:i < kvs.length
 ·refine .inr ⟨⟨q,B0⟩,Pv (i + 1),fun Av H' p'=>⟨kvs.length - (i + 1),by lia,rfl,B0,p'⟩,fun x H' y=>?_⟩;obtain ⟨e,k,v,e1,e2⟩:=y;subst e e2;exact hs i k v σ _ e1 p
 ·have e:i=kvs.length:=by lia
  subst e;exact .inl ⟨⟨q,Y7 _⟩,hd σ H p⟩
section
variable {prog:Program} {w:World} {A:Around} {E:Value->Shared->Prop} {s:Shared}
end
theorem Ce (a:List Nat):¬ a < a:=aW a
section
variable {X:Cx} {pins:List (Addr × Obj)} {σ Av:St} {H H':Hp} {s2 s':Shared} {scope:Scope} {cl:List (Str × Addr)} {N:List Str} {fp:List Addr} {C D:Addr} {h₁ h':Heap} {t':Nat}
theorem E6 {ob:HO} (I:An X pins σ H s2) (hf:∀ b ∈ fp,Eg X pins H b) (hfo:∀ b ∈ fp,∃ o,s2.heap.get? b=some o) (co:A2 X scope cl) (hσ:AH X cl scope N σ Av)
  (k:∀ b o,s2.heap.get? b=some o->h₁.get? b=some o) (hD:s2.heap.objs.size<=D) (hC:s2.heap.objs.size<=C) (hDC:C ≠ D)
  (newO:A5 X.prog X.w (upd H D ob) h₁ D ob) {m:Str->Option Value} (hn:h₁.Ns C m) :
  An (Am X scope cl N s2 H C fp) [] Av (upd H D ob) { s2 with heap:=h₁,toks:=t' }:=by
 have fD:H D=none:=I.hok.fresh hD;have fC:H C=none:=I.hok.fresh hC;have lts:∀ b ∈ fp,b < s2.heap.objs.size:=fun b hb=>let ⟨_,e⟩:=hfo b hb; YC e
 have cells_lt:∀ x c,cl.lookup x=some c->c < s2.heap.objs.size:=fun x c e=>by
  obtain ⟨v,q⟩:=I.cell x c (co.sub x c e);exact q.lt
 have ok:Cx.Ok (Am X scope cl N s2 H C fp):=by
  refine ⟨I.ok.mod,?_,I.ok.glob,I.ok.blt,hC,?_,?_,?_,I.ok.hd,I.ok.frames,.inl rfl,?_,I.bs,YU I.ok.bsz I.sz,?_,?_,I.stack,I.stkFree⟩
  ·exact co.kind
  ·exact fun x y c e1 e2=>I.ok.inj x y c (co.sub x c e1) (co.sub y c e2)
  ·exact fun x h=>co.has x h
  ·exact fun x c h _=>by cases h
  ·intro b hb;refine ⟨fun e=>?_,fun x c e=>(hf b hb).2.2.2.2.1 x c (co.sub x c e)⟩;have z:=lts b hb;exact absurd (YG z hC) (by rw [show b=C from e]; exact Zp _)
  ·intro b o e hb;have Fb:b ∈ fp:=hb;rcases (hf b Fb).2.2.2.1 with z | z
   ·exact I.ok.noex b o e z
   ·exact absurd (YG (YC e) (YU I.ok.bsz z)) (Zp _)
  ·intro b hb hz;have Fb:b ∈ fp:=hb;obtain ⟨_,f1,f2,_⟩:=hf b Fb;rcases Y4.mp (I.stkSub b hz) with e | e
   ·exact f1 e
   ·exact f2 e
 refine ⟨ok,rfl,I.bare,Un.laid k hD fD,?_,?_,?_,?_,?_,I.hok.laid k hD newO,hσ.1⟩
 ·refine ⟨m,hn,fun i x v e1 e2 _=>?_⟩;obtain ⟨⟨j,j1,j2⟩,kk,kr⟩:=hσ.2 i x v e1 e2;obtain ⟨mo,_,hl⟩:=I.loc;obtain ⟨u,r,l⟩:=hl j x v j1 j2 (by
   rcases kk with z | z
   ·exact .inr (.inl z)
   ·exact .inr (.inr z))
  refine ⟨u,r,.inr ⟨kr,?_⟩⟩;obtain ⟨c,hc⟩:=co.has x kr;rcases l with ⟨z,_⟩ | ⟨_,c',Hn,hcell⟩
  ·rcases kk with q | q
   ·rw [z] at q; cases q
   ·rw [z] at q; cases q
  ·have e3:=co.sub x c hc;rw [Hn] at e3;have e4:c'=c:=YM.inj e3;subst e4;obtain ⟨o,ho,hd⟩:=hcell;exact ⟨c',hc,o,k _ o ho,hd⟩
 ·intro x c e;obtain ⟨v,o,ho,hd⟩:=I.cell x c (co.sub x c e);exact ⟨v,o,k _ o ho,hd⟩
 ·show upd H D ob C=none
  rw [Af hDC];exact fC
 ·intro x c e;rw [Af (YF (YG (cells_lt x c e) hD))];exact I.freeC x c (co.sub x c e)
 ·intro p hp;cases hp
end
section
variable {prog:Program} {w:World} {A:Around} {R:Result->Shared->Prop} {s:Shared}
theorem BJ {kx vx target iter:Expr} {ifs:List Expr} {scope:Scope} {pos:Pos} {it:Value} {D:Addr} {env:Env} (I:Nat->Shared->Prop)
  (turn:∀ n s,I n s->wpAny (model prog w) A (pyNext it) (fun r AN=>match r with
   | none=>R (.ok .next) AN
   | some v=>wpAny (model prog w) A (letOwnedTupleGo target it v) (fun _ KA=>wpAny (model prog w) A (assign target env v) (fun _ El=>
     wpAny (model prog w) A (forIn ifs true fun c r=>if r=true then do let ok <- isTrue c env (eval c env); pure (ForInStep.yield ok) else pure (ForInStep.yield r)) (fun ok BW=>
      if ok=true then wpAny (model prog w) A (eval kx env) (fun kv PY=>wpAny (model prog w) A (eval vx env) (fun vv PX=>
       wpAny (model prog w) A (dictSet D kv vv) (fun _ Vw=>∃ m,m < n/\I m Vw) (notedBy (model prog w) A env fun e s'=>R (.error e) s') PX) (notedBy (model prog w) A env fun e s'=>R (.error e) s') PY) (notedBy (model prog w) A env fun e s'=>R (.error e) s') BW
      else ∃ m,m < n/\I m BW) (notedBy (model prog w) A env fun e s'=>R (.error e) s') El) (notedBy (model prog w) A env fun e s'=>R (.error e) s') KA) (notedBy (model prog w) A env fun e s'=>R (.error e) s') AN) (notedBy (model prog w) A env fun e s'=>R (.error e) s') s)
  (n:Nat) (h:I n s) :
  codeAny (model prog w) A (.compLoop (.DictComp kx vx [⟨target,iter,ifs,0⟩] scope pos) 0 it (.ref D) env) R s:=by
 refine codeAny_loop rfl I (fun n s hI=>?_) n h;show wpAny _ A ((compTurn (.DictComp kx vx [⟨target,iter,ifs,0⟩] scope pos) 0 it (.ref D) env).onRaise (fun x=>do noteFrame x env; theTreesLotGoes x)) _ _ s
 refine wpAny_noted ?_;rw [compTurn_dict];refine wpAny_bind (wpAny_standAt (wpAny_bind (wpAny_mono (turn n s hI) (fun r AN h₁=>?_) fun _ _ h'=>h')));cases r with
 | none=>exact wpAny_pure h₁
 | some v=>
  refine wpAny_bind (wpAny_mono h₁ (fun _ KA QU=>?_) fun _ _ h'=>h');refine wpAny_bind (wpAny_mono QU (fun _ El Mo=>wpAny_bind (wpAny_mono Mo (fun ok BW Mn=>?_) fun _ _ h'=>h')) fun _ _ h'=>h');cases ok with
  | false=>exact wpAny_pure ⟨rfl,Mn⟩
  | true=>
   exact wpAny_bind (wpAny_bind (wpAny_mono Mn (fun kv PY UE=>wpAny_bind (wpAny_holding (wpAny_mono UE (fun vv PX UD=>wpAny_bind (wpAny_standAt (wpAny_holding (wpAny_mono UD (fun _ Vw Xx=>wpAny_pure ⟨rfl,Xx⟩) fun _ _ h'=>h')))) fun _ _ h'=>h'))) fun _ _ h'=>h'))
end
theorem JG {X:Cx} {pins:List (Addr × Obj)} {σ:St} {H:Hp} {s:Shared} {a:Addr} {k:A6} {v:V} {u r:Value} {kvs:List (A6 × V)} {A:Around} {E:Value->Shared->Prop} {Q:Unit->Shared->Prop} (I:An X pins σ H s) (e:H a=some (.dK kvs)) (l:kvs.length < sizeLine) (ry:A3 (kV k) u) (rv:A3 v r)
  (h:∀ s',An X pins σ (upd H a (.dK (Br kvs k v))) s'->Q () s'):wpAny (model X.prog X.w) A (dictSet a u r) Q E s:=by
 obtain ⟨z,hd,vs,rel,dd⟩:=Rl I.hok e;have hz:vs.length<=sizeLine:=by rw [<-rel.length]; exact z
 have hl:(Br kvs k v).length<=sizeLine:=by have:=Cr kvs k v; lia
 refine wpAny_dictSet_pairs (hsz:=hz) (GA ry) dd fun h' LJ hs=>h _ ?_
 have he:∃ q,h'.get? a=some q:=let ⟨q,_,_,hq,_⟩:=LJ; ⟨q,hq⟩;exact FQ I (by rw [e]; exact True.intro) hs he (Kz hl hd (rel.put k rv) LJ)
def PU (wi:TI) (g:TG) (tt:TT) (tk tv:TE) (σ0:St->St):TE:=fun σ H Q=>wi σ H fun J H1=>∀ D,H1 D=none->∃ W:Nat->Nat->St->Hp->Prop,(∃ m,W 0 m (σ0 σ) (upd H1 D (.dK []))) /\
 ∀ i m Av H',W i m Av H'->(J.stop i H'/\Q (.ref D) H')\/(J.go i H'/\∀ x H2,J.yld i H' x H2->g x Av H2 fun Ay H3=>tt Ay H3 fun b H4=>
  if b=true then tk Ay H4 (fun y H5=>tv Ay H5 fun v H6=>∃ kvs k,y=kV k/\H6 D=some (.dK kvs)/\kvs.length < sizeLine/\∃ m',m' < m/\W (i + 1) m' Ay (upd H6 D (.dK (Br kvs k v)))) else ∃ m',m' < m/\W (i + 1) m' Ay H4)
theorem HE {X:Cx} {tg iter kx vx:Expr} {ifs:List Expr} {scope:Scope} {cl:List (Str × Addr)} {N:List Str} {pos:Pos} {wi:TI} {g:TG} {tt:TT} {tk tv:TE} {σ0:St->St} (hc:X.calm=true) (co:A2 X scope cl)
  (hσ:∀ σ,σ.length=X.N.length->AH X cl scope N σ (σ0 σ)) (hi:PI X tg iter wi)
  (hb:∀ s2 H C fp,PG (Am X scope cl N s2 H C fp) tg g/\TH (Am X scope cl N s2 H C fp) ifs tt/\PE (Am X scope cl N s2 H C fp) kx tk/\PE (Am X scope cl N s2 H C fp) vx tv)
  (hs:∀ x,foldedSetIterable iter X.env x=pure x:=by intro _; rfl):PE X (.DictComp kx vx [⟨tg,iter,ifs,0⟩] scope pos) (PU wi g tt tk tv σ0):=by
 intro pins s σ H Q I h;rw [arm_eval_DictComp];refine wpAny_comprehension_free (use:=none) rfl hs co.clos co.kind co.names (wpAny_mono (hi (pins:=pins) s σ H _ I h) (fun xv s1 h1=>wpAny_mono h1 (fun itv s2 h2=>?_) fun _ _ e=>e) fun _ _ e=>e);obtain ⟨it,fp,tn,J,H2,rfl,I2,T,ET,f2,hW⟩:=h2;refine wpAny_newObj_type (wpAny_newFunctionEnv co.cell (by intro y hy; cases hy) (fun h₁ B4 Bn=>?_) co.kind);dsimp only at B4 Bn ⊢;generalize Ih:s2.heap.push { cls:=.type "dict",dict:=none,data:=.dict #[] } = HH at B4 Bn ⊢;have Bz:HH.objs.size=s2.heap.objs.size + 1:=by rw [<-Ih,Zk]
 have old:∀ b o,s2.heap.get? b=some o->h₁.get? b=some o:=fun b o e=>
  Bn.extBut b o (YF (by rw [Bz]; exact YV (YC e))) (Y2 _ (Ih ▸ Y2 _ e))
 have newD:A5 X.prog X.w (upd H2 s2.heap.objs.size (.dK [])) h₁ s2.heap.objs.size (.dK []):=
  let ⟨z,hd,vs,rel,o,es,ep,ho,r⟩:=Iw (P:=X.prog) (w:=X.w) (H:=upd H2 s2.heap.objs.size (.dK [])) s2.heap I2.big
  ⟨z,hd,vs,rel,o,es,ep,Bn.extBut _ _ (YF (by rw [Bz]; exact YZ _)) (Y2 _ (Ih ▸ ho)),r⟩
 obtain ⟨W,⟨m0,w0⟩,turn⟩:=hW s2.heap.objs.size I2.fresh;have hfo:∀ b ∈ fp,∃ o,s2.heap.get? b=some o:=fun b hb=>let ⟨o,e,_⟩:=T.obj _ _ ET b hb; ⟨o,e⟩
 have I3:An (Am X scope cl N s2 H2 HH.objs.size fp) [] (σ0 σ) (upd H2 s2.heap.objs.size (.dK [])) { s2 with heap:=h₁,toks:=s2.toks + ([]:List (Str × Value)).length }:=
  E6 I2 f2 hfo co (hσ σ I.len) old (Y7 _) (by rw [Bz]; exact Ze _) (Zx (by rw [Bz]; exact YZ _)) newD B4
 have fC:s2.heap.objs.size<=HH.objs.size:=by rw [Bz]; exact Ze _
 obtain ⟨hg,ht,hk,hv⟩:=hb s2 H2 HH.objs.size fp;have loop:∀ BW:Shared,BW = { s2 with heap:=h₁,toks:=s2.toks + ([]:List (Str × Value)).length } ->
   codeAny (model X.prog X.w) X.A (.compLoop (.DictComp kx vx [⟨tg,iter,ifs,0⟩] scope pos) 0 (.ref it) (.ref s2.heap.objs.size) (compEnvC scope cl HH.objs.size X.env))
    (compPost (model X.prog X.w) X.A X.xe none (EP X pins σ Q) (.ref s2.heap.objs.size) HH.objs.size) BW:=by
  rintro BW rfl;have stat:∀ {H':Hp} ,(∀ b ∈ fp,H' b=none)->∀ b ∈ fp,Eg (Am X scope cl N s2 H2 HH.objs.size fp) [] H' b:=fun hn b hb=>by
   refine ⟨hn b hb,?_,?_,.inl hb,?_,fun p hp=>by cases hp⟩
   ·obtain ⟨o,e⟩:=hfo b hb;exact YF (show b < HH.objs.size by rw [Bz]; exact YV (YC e))
   ·intro hz;obtain ⟨_,q1,q2,_⟩:=f2 b hb;rcases Y4.mp (I2.stkSub b hz) with e | e
    ·exact q1 e
    ·exact q2 e
   ·exact fun x c e=>(f2 b hb).2.2.2.2.1 x c (co.sub x c e)
  refine BJ (fun n s'=>∃ i Av H',An (Am X scope cl N s2 H2 HH.objs.size fp) [] Av H' s'/\tn i s'.heap/\(∀ b ∈ fp,H' b=none)/\W i n Av H') ?_ m0
   ⟨0,σ0 σ,_,I3,T.keep _ _ _ ET fun b hb o e=>old b o e,fun b hb=>?_,w0⟩
  ·rintro n s4 ⟨i,F3,H4,I4,KH,Lv,w4⟩;rcases turn i n F3 H4 w4 with ⟨stop,qn⟩ | ⟨go,step⟩
   ·refine wpAny_mono (T.done (Am X scope cl N s2 H2 HH.objs.size fp) rfl rfl rfl hc i [] s4 F3 H4 (fun _ _=>False) I4 (stat Lv) KH stop) (fun r s5 ⟨hr,I5⟩=>?_) fun _ _ z=>z.elim
    subst hr;obtain ⟨m5,QW,_⟩:=id I5.loc;exact ⟨m5,QW,fun h' JA=>⟨.ref _,H4,E7 I2 f2 fC I5 JA,rfl,qn⟩⟩
   ·refine wpAny_mono (T.item (Am X scope cl N s2 H2 HH.objs.size fp) rfl rfl rfl hc i [] s4 F3 H4 (fun _ _=>False) I4 (stat Lv) KH go) (fun r s5 ⟨u,hr,h5⟩=>?_) fun _ _ z=>z.elim
    subst hr;refine wpAny_mono h5 (fun _ s6 ⟨x,H6,I6,r6,y6,Hs,Rf⟩=>?_) fun _ _ z=>z.elim
    have Rx:=I6.pinned (stat Rf) (T.obj _ _ Hs);refine wpAny_mono (hg s6 F3 H6 x u _ Rx r6 (step x H6 y6)) (fun _ s7 ⟨Eh,H7,I7,q7⟩=>?_) fun _ _ z=>z.elim
    refine wpAny_mono (ht s7 Eh H7 _ I7 q7) (fun ok s8 ⟨H8,I8,q8⟩=>?_) fun _ _ z=>z.elim
    have again:∀ {s9:Shared} {F2:St} {H9:Hp} ,An (Am X scope cl N s2 H2 HH.objs.size fp) ([] ++ Dw fp s6.heap) F2 H9 s9->(∃ m',m' < n/\W (i + 1) m' F2 H9)->∃ m,m < n/\∃ i Av H',An (Am X scope cl N s2 H2 HH.objs.size fp) [] Av H' s9/\tn i s9.heap/\(∀ b ∈ fp,H' b=none)/\W i m Av H':=fun {s9 F2 H9} I9 n9=>by
     obtain ⟨m',hm,w9⟩:=n9;refine ⟨m',hm,i + 1,F2,H9,I9.unpinned,T.keep _ _ _ Hs fun b hb o e=>(I9.pin (b,o) (YH _ (YH _ (AZ hb e)))).1,fun b hb=>?_,w9⟩;obtain ⟨o,e,d⟩:=T.obj _ _ Hs b hb;exact (I9.pin (b,o) (YH _ (YH _ (AZ hb e)))).2.1
    cases ok with
    | false=>
     rw [if_neg YI] at q8 ⊢;exact again I8 q8
    | true=>
     rw [if_pos rfl] at q8 ⊢;refine wpAny_mono (hk s8 Eh H8 _ I8 q8) (fun yk s9 ⟨k,H9,I9,r9,q9⟩=>?_) fun _ _ z=>z.elim
     refine wpAny_mono (hv s9 Eh H9 _ I9 q9) (fun yv MR ⟨v,LF,Ry,V3,kvs,key,ek,hacc,hsz,Qz⟩=>?_) fun _ _ z=>z.elim
     subst ek;exact JG (X:=Am X scope cl N s2 H2 HH.objs.size fp) Ry hacc hsz r9 V3 fun Wu Wm=>again Wm Qz
  ·have z:=(f2 b hb).1;obtain ⟨o,e⟩:=hfo b hb;rw [Af (YF (YC e))];exact z
 exact codeAny_compStart_dict (loop _ rfl) (T.self _ 0 _ _ _ (T.keep _ _ _ ET fun b hb o e=>old b o e) (loop _ rfl))
theorem Q3 {X:Cx} {ix:Nat} {x:Str} {px spos:Pos} {tg iter kx vx:Expr} {ifs:List Expr} {scope:Scope} {cl:List (Str × Addr)} {N:List Str} {pos:Pos} {wi:TI} {g:TG} {tt:TT} {tk tv:TE} {σ0:St->St} (hN:X.N.Nodup) (hix:X.N[ix]? = some x) (hlx:UZ X.env.scope x) (hc:X.calm=true) (co:A2 X scope cl)
  (hσ:∀ σ,σ.length=X.N.length->AH X cl scope N σ (σ0 σ)) (hi:PI X tg iter wi)
  (hb:∀ s2 H C fp,PG (Am X scope cl N s2 H C fp) tg g/\TH (Am X scope cl N s2 H C fp) ifs tt/\PE (Am X scope cl N s2 H C fp) kx tk/\PE (Am X scope cl N s2 H C fp) vx tv)
  (hsw:swapsWith (.DictComp kx vx [⟨tg,iter,ifs,0⟩] scope pos) (some (.Name x px)) spos.line X.env=pure true:=by rfl)
  (hs:∀ x,foldedSetIterable iter X.env x=pure x:=by intro _; rfl) (hf:X.fn x=true\/X.env.scope.names.lookup x=some .local:=by first | exact .inl rfl | exact .inr rfl | assumption) :
  PS X (.Assign [.Name x px] (.DictComp kx vx [⟨tg,iter,ifs,0⟩] scope pos) spos) (PV (PU wi g tt tk tv σ0) (JB ix)):=by
 intro pins s σ H DD I h;rw [exec_Assign_Name_used _ _ _ _ hsw];refine wpAny_bind (wpAny_standAt (wpAny_bind ?_));show wpAny _ X.A (do let _ <- comprehension (.DictComp kx vx [⟨tg,iter,ifs,0⟩] scope pos) scope X.env _ newDict false (eval iter X.env) (some (assign (.Name x px) X.env))) _ _ s
 refine wpAny_bind (wpAny_mono (wpAny_comprehension_free (use:=some (assign (.Name x px) X.env)) (Q:=fun _ s'=>SP X pins DD .next s') rfl hs co.clos co.kind co.names
  (wpAny_mono (hi (pins:=pins) s σ H _ I h) (fun xv s1 h1=>wpAny_mono h1 (fun itv s2 h2=>?_) fun _ _ e=>e) fun _ _ e=>e)) (fun _ s' hq=>wpAny_pure (wpAny_pure hq)) fun _ _ e=>e)
 obtain ⟨it,fp,tn,J,H2,rfl,I2,T,ET,f2,hW⟩:=h2;refine wpAny_newObj_type (wpAny_newFunctionEnv co.cell (by intro y hy; cases hy) (fun h₁ B4 Bn=>?_) co.kind);dsimp only at B4 Bn ⊢;generalize Ih:s2.heap.push { cls:=.type "dict",dict:=none,data:=.dict #[] } = HH at B4 Bn ⊢;have Bz:HH.objs.size=s2.heap.objs.size + 1:=by rw [<-Ih,Zk]
 have old:∀ b o,s2.heap.get? b=some o->h₁.get? b=some o:=fun b o e=>
  Bn.extBut b o (YF (by rw [Bz]; exact YV (YC e))) (Y2 _ (Ih ▸ Y2 _ e))
 have newD:A5 X.prog X.w (upd H2 s2.heap.objs.size (.dK [])) h₁ s2.heap.objs.size (.dK []):=
  let ⟨z,hd,vs,rel,o,es,ep,ho,r⟩:=Iw (P:=X.prog) (w:=X.w) (H:=upd H2 s2.heap.objs.size (.dK [])) s2.heap I2.big
  ⟨z,hd,vs,rel,o,es,ep,Bn.extBut _ _ (YF (by rw [Bz]; exact YZ _)) (Y2 _ (Ih ▸ ho)),r⟩
 obtain ⟨W,⟨m0,w0⟩,turn⟩:=hW s2.heap.objs.size I2.fresh;have hfo:∀ b ∈ fp,∃ o,s2.heap.get? b=some o:=fun b hb=>let ⟨o,e,_⟩:=T.obj _ _ ET b hb; ⟨o,e⟩
 have I3:An (Am X scope cl N s2 H2 HH.objs.size fp) [] (σ0 σ) (upd H2 s2.heap.objs.size (.dK [])) { s2 with heap:=h₁,toks:=s2.toks + ([]:List (Str × Value)).length }:=
  E6 I2 f2 hfo co (hσ σ I.len) old (Y7 _) (by rw [Bz]; exact Ze _) (Zx (by rw [Bz]; exact YZ _)) newD B4
 have fC:s2.heap.objs.size<=HH.objs.size:=by rw [Bz]; exact Ze _
 obtain ⟨hg,ht,hk,hv⟩:=hb s2 H2 HH.objs.size fp;have loop:∀ BW:Shared,BW = { s2 with heap:=h₁,toks:=s2.toks + ([]:List (Str × Value)).length } ->
   codeAny (model X.prog X.w) X.A (.compLoop (.DictComp kx vx [⟨tg,iter,ifs,0⟩] scope pos) 0 (.ref it) (.ref s2.heap.objs.size) (compEnvC scope cl HH.objs.size X.env))
    (compPost (model X.prog X.w) X.A X.xe (some (assign (.Name x px) X.env)) (fun _ s'=>SP X pins DD .next s') (.ref s2.heap.objs.size) HH.objs.size) BW:=by
  rintro BW rfl;have stat:∀ {H':Hp} ,(∀ b ∈ fp,H' b=none)->∀ b ∈ fp,Eg (Am X scope cl N s2 H2 HH.objs.size fp) [] H' b:=fun hn b hb=>by
   refine ⟨hn b hb,?_,?_,.inl hb,?_,fun p hp=>by cases hp⟩
   ·obtain ⟨o,e⟩:=hfo b hb;exact YF (show b < HH.objs.size by rw [Bz]; exact YV (YC e))
   ·intro hz;obtain ⟨_,q1,q2,_⟩:=f2 b hb;rcases Y4.mp (I2.stkSub b hz) with e | e
    ·exact q1 e
    ·exact q2 e
   ·exact fun x c e=>(f2 b hb).2.2.2.2.1 x c (co.sub x c e)
  refine BJ (fun n s'=>∃ i Av H',An (Am X scope cl N s2 H2 HH.objs.size fp) [] Av H' s'/\tn i s'.heap/\(∀ b ∈ fp,H' b=none)/\W i n Av H') ?_ m0
   ⟨0,σ0 σ,_,I3,T.keep _ _ _ ET fun b hb o e=>old b o e,fun b hb=>?_,w0⟩
  ·rintro n s4 ⟨i,F3,H4,I4,KH,Lv,w4⟩;rcases turn i n F3 H4 w4 with ⟨stop,qn⟩ | ⟨go,step⟩
   ·refine wpAny_mono (T.done (Am X scope cl N s2 H2 HH.objs.size fp) rfl rfl rfl hc i [] s4 F3 H4 (fun _ _=>False) I4 (stat Lv) KH stop) (fun r s5 ⟨hr,I5⟩=>?_) fun _ _ z=>z.elim
    subst hr;obtain ⟨m5,QW,_⟩:=id I5.loc;have I6:An X pins σ H4 s5:=E7 (h':=s5.heap) I2 f2 fC I5 (Heap.SameBut.refl _ _);have cC:∀ y c,X.env.cells.lookup y=some c->c ≠ HH.objs.size:=fun y c e=>by
     obtain ⟨v,q⟩:=I2.cell y c e;exact YF (YG q.lt fC)
    have lC:X.env.locals ≠ HH.objs.size:=YF (YG I2.lt fC);show wpAny _ X.A (assign (.Name x px) X.env (.ref s2.heap.objs.size)) _ X.xe s5
    refine wpAny_assign_Name (EF I6 hN hix hlx (v:=.ref s2.heap.objs.size) rfl (fun s7 I7 ⟨a,sb,ha⟩=>?_) hf);have aC:a ≠ HH.objs.size:=by
     rcases ha with rfl | ha
     ·exact lC
     ·exact cC _ _ ha
    refine ⟨m5,QW.sameBut sb (Ne.symm aC),fun h' JA=>⟨_,H4,?_,qn⟩⟩;exact I7.turned (t':=s7.toks) (it:=HH.objs.size) (fun b o hb e=>(JA.2 b hb).trans e) I5.free (Ne.symm lC) (.inr (YU I2.sz fC)) cC fun p hp z=>by
     have e:=(I2.pin p hp).1;exact absurd (YG (YC e) fC) (by rw [z]; exact Zp _)
   ·refine wpAny_mono (T.item (Am X scope cl N s2 H2 HH.objs.size fp) rfl rfl rfl hc i [] s4 F3 H4 (fun _ _=>False) I4 (stat Lv) KH go) (fun r s5 ⟨u,hr,h5⟩=>?_) fun _ _ z=>z.elim
    subst hr;refine wpAny_mono h5 (fun _ s6 ⟨x,H6,I6,r6,y6,Hs,Rf⟩=>?_) fun _ _ z=>z.elim
    have Rx:=I6.pinned (stat Rf) (T.obj _ _ Hs);refine wpAny_mono (hg s6 F3 H6 x u _ Rx r6 (step x H6 y6)) (fun _ s7 ⟨Eh,H7,I7,q7⟩=>?_) fun _ _ z=>z.elim
    refine wpAny_mono (ht s7 Eh H7 _ I7 q7) (fun ok s8 ⟨H8,I8,q8⟩=>?_) fun _ _ z=>z.elim
    have again:∀ {s9:Shared} {F2:St} {H9:Hp} ,An (Am X scope cl N s2 H2 HH.objs.size fp) ([] ++ Dw fp s6.heap) F2 H9 s9->(∃ m',m' < n/\W (i + 1) m' F2 H9)->∃ m,m < n/\∃ i Av H',An (Am X scope cl N s2 H2 HH.objs.size fp) [] Av H' s9/\tn i s9.heap/\(∀ b ∈ fp,H' b=none)/\W i m Av H':=fun {s9 F2 H9} I9 n9=>by
     obtain ⟨m',hm,w9⟩:=n9;refine ⟨m',hm,i + 1,F2,H9,I9.unpinned,T.keep _ _ _ Hs fun b hb o e=>(I9.pin (b,o) (YH _ (YH _ (AZ hb e)))).1,fun b hb=>?_,w9⟩;obtain ⟨o,e,d⟩:=T.obj _ _ Hs b hb;exact (I9.pin (b,o) (YH _ (YH _ (AZ hb e)))).2.1
    cases ok with
    | false=>
     rw [if_neg YI] at q8 ⊢;exact again I8 q8
    | true=>
     rw [if_pos rfl] at q8 ⊢;refine wpAny_mono (hk s8 Eh H8 _ I8 q8) (fun yk s9 ⟨k,H9,I9,r9,q9⟩=>?_) fun _ _ z=>z.elim
     refine wpAny_mono (hv s9 Eh H9 _ I9 q9) (fun yv MR ⟨v,LF,Ry,V3,kvs,key,ek,hacc,hsz,Qz⟩=>?_) fun _ _ z=>z.elim
     subst ek;exact JG (X:=Am X scope cl N s2 H2 HH.objs.size fp) Ry hacc hsz r9 V3 fun Wu Wm=>again Wm Qz
  ·have z:=(f2 b hb).1;obtain ⟨o,e⟩:=hfo b hb;rw [Af (YF (YC e))];exact z
 exact codeAny_compStart_dict (loop _ rfl) (T.self _ 0 _ _ _ (T.keep _ _ _ ET fun b hb o e=>old b o e) (loop _ rfl))
theorem FD (p x:Str) (r:List Str):risingS p (x :: r)=(!ltCps x.cps.toList p.cps.toList && risingS x r):=rfl
theorem Jw:∀ (p:Str) (l:List Str),risingS p l=true->(p :: l).Pairwise fun a b=>¬ b.cps.toList < a.cps.toList
 | p,[],_=>ZW _ _
 | p,x :: r,h=>by
  rw [FD,Zn,ltCps_eq] at h;have h1:¬ x.cps.toList < p.cps.toList:=by simpa using h.1
  have h2:=Jw x r h.2;refine Zs.mpr ⟨fun y hy=>?_,h2⟩;rcases Y4.mp hy with rfl | hy
  ·exact h1
  ·have h3:=(Zs.mp h2).1 y hy;have a:p.cps.toList<=x.cps.toList:=ZX.mp h1;have b:x.cps.toList<=y.cps.toList:=ZX.mp h3;exact ZX.mpr (de a b)
theorem BX {l:List Str} (h:sortedS l=true):l.Pairwise fun a b=>¬ b.cps.toList < a.cps.toList:=by
 cases l with
 | nil=>exact .nil
 | cons p l=>exact Jw p l h
theorem Cu {a b:Str} (h1:¬ b.cps.toList < a.cps.toList) (h2:¬ a.cps.toList < b.cps.toList):a=b:=by
 have e:a.cps.toList=b.cps.toList:=List.le_antisymm (ZX.mp h1) (ZX.mp h2);cases a; cases b
 simp only [Str.mk.injEq];exact b6.mp e
theorem Ge {l m:List Str} (hl:l.Pairwise fun a b=>¬ b.cps.toList < a.cps.toList) (hm:m.Pairwise fun a b=>¬ b.cps.toList < a.cps.toList) (p:l.Perm m):l=m:=
 List.Perm.eq_of_pairwise (fun a b _ _ h1 h2=>Cu h1 h2) hl hm p
theorem G4 {l m:List Str} (hl:l.Nodup) (hm:m.Nodup) (h:∀ x,x ∈ l ↔ x ∈ m):l.Perm m:=(List.perm_ext_iff_of_nodup hl hm).mpr h
def K3 (ws:List AG) (x y:Str):Prop:=∃ u ∈ ws,(u.1=x/\u.2.1=y)\/(u.1=y/\u.2.1=x)
theorem K3.symm {ws:List AG} {x y:Str} (h:K3 ws x y):K3 ws y x:=let ⟨u,hu,h⟩:=h; ⟨u,hu,h.symm⟩
theorem DF (u:AG):(Ew u).1=u.1/\(Ew u).2.1=u.2.1\/(Ew u).1=u.2.1/\(Ew u).2.1=u.1:=by
 unfold Ew BG BH;by_cases h:u.2.1.cps.toList < u.1.cps.toList
 ·have h':¬ u.1.cps.toList < u.2.1.cps.toList:=aB h;rw [if_pos h,if_neg h'];exact .inr ⟨rfl,rfl⟩
 ·rw [if_neg h];by_cases h':u.1.cps.toList < u.2.1.cps.toList
  ·rw [if_pos h']; exact .inl ⟨rfl,rfl⟩
  ·rw [if_neg h'];have e:u.1=u.2.1:=Cu h h';exact .inl ⟨rfl,e⟩
theorem Rt {ws PB:List AG} (p:PB.Perm (ws.map Ew)) (x y:Str):K3 PB x y ↔ K3 ws x y:=by
 constructor
 ·rintro ⟨u,hu,h⟩;obtain ⟨v,hv,rfl⟩:=YA.mp (p.mem_iff.mp hu);refine ⟨v,hv,?_⟩;rcases DF v with ⟨e1,e2⟩ | ⟨e1,e2⟩
  ·rw [e1,e2] at h; exact h
  ·rw [e1,e2] at h;rcases h with ⟨a,b⟩ | ⟨a,b⟩
   ·exact .inr ⟨b,a⟩
   ·exact .inl ⟨b,a⟩
 ·rintro ⟨v,hv,h⟩;refine ⟨Ew v,p.mem_iff.mpr (YA.mpr ⟨v,hv,rfl⟩),?_⟩;rcases DF v with ⟨e1,e2⟩ | ⟨e1,e2⟩
  ·rw [e1,e2]; exact h
  ·rw [e1,e2];rcases h with ⟨a,b⟩ | ⟨a,b⟩
   ·exact .inr ⟨b,a⟩
   ·exact .inl ⟨b,a⟩
theorem JE {xs:List Str} {ws PB:List AG} (p:PB.Perm (ws.map Ew)) (h:∀ u ∈ ws,u.1 ∈ xs/\u.2.1 ∈ xs):∀ u ∈ PB,u.1 ∈ xs/\u.2.1 ∈ xs:=fun u hu=>by
 obtain ⟨v,hv,rfl⟩:=YA.mp (p.mem_iff.mp hu);obtain ⟨a,b⟩:=h v hv;rcases DF v with ⟨e1,e2⟩ | ⟨e1,e2⟩ <;> rw [e1,e2]
 ·exact ⟨a,b⟩
 ·exact ⟨b,a⟩
def K1 (xs:List Str) (ws:List AG):Prop:=∀ j,0 < j->j < xs.length->∃ u ∈ ws,∃ i:Nat,i < j/\xs[i]? = some u.1/\xs[j]? = some u.2.1
theorem K1.all {xs:List Str} {ws:List AG} (h:K1 xs ws) (S:Str->Prop) (cl:∀ x y,K3 ws x y->S x->S y) {r:Str} (hr:r ∈ xs) (sr:S r):∀ x ∈ xs,S x:=by
 have down:∀ n (i:Nat),i<=n->∀ x,xs[i]? = some x->S x->∀ x0,xs[0]? = some x0->S x0:=by
  intro n;induction n with
  | zero=>
   intro i hi x e s x0 e0;have:i=0:=by lia
   subst this;rw [e] at e0; cases e0; exact s
  | succ n ih=>
   intro i hi x e s x0 e0;by_cases hz:i=0
   ·subst hz;rw [e] at e0; cases e0; exact s
   ·obtain ⟨u,hu,k,hk,e1,e2⟩:=h i (by lia) (Y8.mp e).1;rw [e] at e2; cases e2;exact ih k (by lia) u.1 e1 (cl _ _ ⟨u,hu,.inr ⟨rfl,rfl⟩⟩ s) x0 e0
 have up:∀ x0,xs[0]? = some x0->S x0->∀ n (i:Nat),i<=n->∀ x,xs[i]? = some x->S x:=by
  intro x0 e0 s0 n;induction n with
  | zero=>
   intro i hi x e;have:i=0:=by lia
   subst this;rw [e0] at e; cases e; exact s0
  | succ n ih=>
   intro i hi x e;by_cases hz:i=0
   ·subst hz;rw [e0] at e; cases e; exact s0
   ·obtain ⟨u,hu,k,hk,e1,e2⟩:=h i (by lia) (Y8.mp e).1;rw [e] at e2; cases e2;exact cl _ _ ⟨u,hu,.inl ⟨rfl,rfl⟩⟩ (ih k (by lia) u.1 e1)
 intro x hx;obtain ⟨i,hi,e⟩:=YQ hr;obtain ⟨j,hj,e'⟩:=YQ hx;have h0:xs[0]? = some xs[0]:=Y1 (by lia);have s0:S xs[0]:=down i i (Y7 _) r (by rw [Y1 hi,e]) sr _ h0;exact up _ h0 s0 j j (Y7 _) x (by rw [Y1 hj,e'])
section
variable {ws:List AG} {r:Str} {bs cs:List (Str × Option Str)}
theorem PF {α β:Type} {l:List (α × β)} (h:(l.map (·.1)).Nodup) {x:α} {a b:β} (ha:(x,a) ∈ l) (hb:(x,b) ∈ l):a=b:=by
 induction l with
 | nil=>cases ha
 | cons p l ih=>
  rw [YK] at h;obtain ⟨h1,h2⟩:=Zl.mp h;have key:∀ c,(x,c) ∈ l->p.1 ≠ x:=fun c hc z=>h1 (by rw [z]; exact YA.mpr ⟨(x,c),hc,rfl⟩)
  rcases Y4.mp ha with e | ha1
  ·rcases Y4.mp hb with e' | VU
   ·rw [<-e] at e'; cases e'; rfl
   ·exact absurd (by rw [<-e]) (key b VU)
  ·rcases Y4.mp hb with e' | VU
   ·exact absurd (by rw [<-e']) (key a ha1)
   ·exact ih h2 ha1 VU
end
section
variable {ws:List AG} {r:Str} {wk:List (Str × List Str)}
end
theorem F5 {H2 H3:Hp} {vs:List V} {ws:List AG} (h:Bw H2 vs (ws.map NU)) (ht:∀ b xs,H2 b=some (.tup xs)->H3 b=some (.tup xs)):Bw H3 vs (ws.map NU):=by
 induction ws generalizing vs with
 | nil=>cases h; exact .nil
 | cons u ws ih=>
  cases h with
  | cons h1 r=>
   refine .cons ?_ (ih r);cases h1 with
   | tup ha hd=>
    refine .tup (ht _ _ ha) ?_;cases hd with
    | cons h1 r1=>
     cases r1 with
     | cons h2 r2=>
      cases r2 with
      | cons h3 r3=>
       cases r3
       cases h1
       cases h2
       cases h3
       exact .cons (.str _) (.cons (.str _) (.cons (.int _) .nil))
theorem FH {α:Type} {l:List α} (h:l.Nodup) {i j:Nat} {x:α} (a:l[i]? = some x) (b:l[j]? = some x):i=j:=
 (List.getElem?_inj (Y8.mp a).1 h).mp (a.trans b.symm)
def sK (nv:List (Str × V)):List (A6 × V):=nv.map fun q=>(Sum.inr q.1,q.2)
theorem CJ (nv:List (Str × V)):(sK nv).length=nv.length:=Y0 ..
theorem Kd (nv:List (Str × V)):(sK nv).map (·.1)=(nv.map (·.1)).map Sum.inr:=by unfold sK; rw [Zb,Zb]; rfl
theorem Ug (a b:List (Str × V)):sK (a ++ b)=sK a ++ sK b:=YE ..
theorem Kc:∀ {nv:List (Str × V)} {y:Str},y ∉ nv.map (·.1)->Bc (sK nv) (Sum.inr y:A6)=none
 | [],y,_=>rfl
 | q :: nv,y,h=>by
  rw [YK,Y4,not_or] at h;show Bc ((Sum.inr q.1,q.2) :: sK nv) (Sum.inr y:A6)=none
  rw [Bq (fun z=>h.1 (Sum.inr.inj z).symm)];exact Kc h.2
theorem Dn:∀ {nv:List (Str × V)} {y:Str} {v:V},(nv.map (·.1)).Nodup->(y,v) ∈ nv->Bc (sK nv) (Sum.inr y:A6)=some v
 | [],y,v,_,h=>nomatch h
 | q :: nv,y,v,hn,h=>by
  rw [YK] at hn;obtain ⟨h1,h2⟩:=Zl.mp hn;show Bc ((Sum.inr q.1,q.2) :: sK nv) (Sum.inr y:A6)=some v
  rcases Y4.mp h with e | h'
  ·subst e;exact Bx rfl
  ·rw [Bq (fun z=>h1 (by rw [Sum.inr.inj z]; exact YA.mpr ⟨(y,v),h',rfl⟩))];exact Dn h2 h'
theorem G2 {nv:List (Str × V)} {y:Str}:(Bc (sK nv) (Sum.inr y:A6)).isSome=decide (y ∈ nv.map (·.1)):=by
 by_cases h:y ∈ nv.map (·.1)
 ·rw [decide_eq_true h];cases e:Bc (sK nv) (Sum.inr y:A6) with
  | some v=>rfl
  | none=>
   have:=PJ e;rw [Kd] at this;exact absurd (YA.mpr ⟨y,h,rfl⟩) this
 ·rw [decide_eq_false h,Kc h]; rfl
theorem Dv {nv:List (Str × V)} {y:Str} {v:V} (h:y ∉ nv.map (·.1)):Br (sK nv) (Sum.inr y:A6) v=sK (nv ++ [(y,v)]):=by
 rw [HA v (Kc h),Ug]; rfl
theorem LX (nv:List (Str × V)) (y:Str) (v:V):∃ DE,Br (sK nv) (Sum.inr y:A6) v=sK DE/\DE.length<=nv.length + 1/\∀ z,z ∈ DE.map (·.1) ↔ z ∈ nv.map (·.1)\/z=y:=by
 by_cases h:y ∈ nv.map (·.1)
 ·refine ⟨nv.map fun q=>if q.1=y then (q.1,v) else q,?_,by rw [Y0]; lia,fun z=>?_⟩
  ·unfold Br;have:((sK nv).any fun kv=>decide (kv.1=(Sum.inr y:A6)))=true:=by
    rw [Cg,G2,decide_eq_true h]
   rw [if_pos this];unfold sK;rw [Zb,Zb];refine ZS fun q _=>?_
   by_cases e:q.1=y
   ·simp [e]
   ·have e':¬ (Sum.inr q.1:A6)=Sum.inr y:=fun z=>e (Sum.inr.inj z)
    simp [e,e']
  ·have e:(nv.map fun q=>if q.1=y then (q.1,v) else q).map (·.1)=nv.map (·.1):=by
    rw [Zb];refine ZS fun q _=>?_
    by_cases e:q.1=y <;> simp [e]
   rw [e];constructor
   ·exact .inl
   ·rintro (q | rfl)
    ·exact q
    ·exact h
 ·refine ⟨nv ++ [(y,v)],Dv h,by simp,fun z=>by simp⟩
theorem To {nv:List (Str × V)} {i:Nat} {k:A6} {v:V} (h:(sK nv)[i]? = some (k,v)):∃ y,nv[i]? = some (y,v)/\k=.inr y:=by
 unfold sK at h;rw [Y9] at h;cases e:nv[i]? with
 | none=>rw [e] at h; cases h
 | some q=>
  rw [e] at h;simp only [ZT,YM.injEq,Prod.mk.injEq] at h;exact ⟨q.1,by rw [<-h.2],h.1.symm⟩
structure Web (H:Hp) (q:Addr) (ps:List Str) (ws:List AG):Prop where
 ex:∃ tp tw us,H q=some (.tup [.ref tp,.ref tw])/\H tp=some (.tup (ps.map V.str))/\H tw=some (.tup us)/\Bw H us (ws.map NU)
theorem Web.same {H H':Hp} {q:Addr} {ps:List Str} {ws:List AG} (h:Web H q ps ws) (s:∀ b xs,H b=some (.tup xs)->H' b=some (.tup xs)):Web H' q ps ws:=by
 obtain ⟨tp,tw,us,h1,h2,h3,h4⟩:=h.ex;exact ⟨tp,tw,us,s _ _ h1,s _ _ h2,s _ _ h3,F5 h4 s⟩
def Np (ps:List Str) (ds:List Addr):List (Str × V):=(ps.zip ds).map fun q=>(q.1,V.ref q.2)
theorem HQ {ps:List Str} {ds:List Addr} (h:ps.length<=ds.length):(Np ps ds).map (·.1)=ps:=by
 unfold Np;rw [Zb];have:((fun (x:Str × V)=>x.1) ∘ fun (q:Str × Addr)=>(q.1,V.ref q.2))=Prod.fst:=rfl;rw [this,List.map_fst_zip h]
theorem Nn {ps:List Str} {ds:List Addr} {i:Nat} {p:Str} {d:Addr} (h1:ps[i]? = some p) (h2:ds[i]? = some d):(p,V.ref d) ∈ Np ps ds:=by
 unfold Np;refine YA.mpr ⟨(p,d),Y5 (i:=i) ?_,rfl⟩;rw [List.getElem?_zip_eq_some];exact ⟨h1,h2⟩
structure NB (H:Hp) (B:Addr) (ps:List Str) (ds:List Addr) (P:Str->Str->Prop) (n:Nat):Prop where
 top:H B=some (.dK (sK (Np ps ds)))
 len:ds.length=ps.length
 nd:ds.Nodup
 nB:B ∉ ds
 inner:∀ (i:Nat) (p:Str) (d:Addr),ps[i]? = some p->ds[i]? = some d->∃ nv:List (Str × V),H d=some (.dK (sK nv))/\nv.length<=n/\∀ y,y ∈ nv.map (·.1) ↔ P p y
theorem NB.get {H:Hp} {B:Addr} {ps:List Str} {ds:List Addr} {P:Str->Str->Prop} {n:Nat} (h:NB H B ps ds P n) (hn:ps.Nodup) {p:Str} (hp:p ∈ ps) :
  ∃ (i:Nat) (d:Addr) (nv:List (Str × V)),ps[i]? = some p/\ds[i]? = some d/\Bc (sK (Np ps ds)) (Sum.inr p:A6)=some (.ref d)/\H d=some (.dK (sK nv))/\nv.length<=n/\∀ y,y ∈ nv.map (·.1) ↔ P p y:=by
 obtain ⟨i,hi,e⟩:=YQ hp;have e1:ps[i]? = some p:=by rw [Y1 hi,e]
 have S4:i < ds.length:=by rw [h.len]; exact hi
 have e2:ds[i]? = some ds[i]:=Y1 S4;obtain ⟨nv,a1,a2,a3⟩:=h.inner i p _ e1 e2;refine ⟨i,_,nv,e1,e2,Dn ?_ (Nn e1 e2),a1,a2,a3⟩;rw [HQ (by rw [h.len]; exact Y7 _)];exact hn
theorem NB.put {H:Hp} {B:Addr} {ps:List Str} {ds:List Addr} {P:Str->Str->Prop} {n:Nat} (h:NB H B ps ds P n) {i:Nat} {p y:Str} {d:Addr} (hn:ps.Nodup) (e1:ps[i]? = some p) (e2:ds[i]? = some d) {nv DE:List (Str × V)} (hd:H d=some (.dK (sK nv)))
  (hl:DE.length<=nv.length + 1) (hk:∀ z,z ∈ DE.map (·.1) ↔ z ∈ nv.map (·.1)\/z=y) (hP:∀ z,z ∈ nv.map (·.1) ↔ P p z) (hln:nv.length<=n):NB (upd H d (.dK (sK DE))) B ps ds (fun a b=>P a b\/(a=p/\b=y)) (n + 1):=by
 have dm:d ∈ ds:=Y5 e2;refine ⟨by rw [Af (fun z=>h.nB (by rw [z]; exact dm))]; exact h.top,h.len,h.nd,h.nB,fun j q c f1 f2=>?_⟩;by_cases z:c=d
 ·subst z;have ij:i=j:=FH h.nd e2 f2;subst ij;rw [e1] at f1; cases f1;refine ⟨DE,Ab,by lia,fun z=>?_⟩;rw [hk,hP];simp
 ·obtain ⟨nw,b1,b2,b3⟩:=h.inner j q c f1 f2;refine ⟨nw,by rw [Af z]; exact b1,by lia,fun y'=>?_⟩;rw [b3];have:q ≠ p:=by
   rintro rfl;have ij:=FH hn e1 f1;subst ij;rw [e2] at f2; cases f2;exact z rfl
  simp [this]
theorem NB.mono {H:Hp} {B:Addr} {ps:List Str} {ds:List Addr} {P P':Str->Str->Prop} {n m:Nat} (h:NB H B ps ds P n) (hP:∀ a b,P a b ↔ P' a b) (hn:n<=m):NB H B ps ds P' m:=
 ⟨h.top,h.len,h.nd,h.nB,fun i p d e1 e2=>let ⟨nv,a1,a2,a3⟩:=h.inner i p d e1 e2; ⟨nv,a1,by lia,fun y=>(a3 y).trans (hP p y)⟩⟩
structure II (H:Hp) (q:Addr) (ps:List Str) (ws:List AG) (r:Str):Prop where
 web:Web H q ps ws
 nd:ps.Nodup
 l30:ps.length<=30
 l64:ws.length < 64
 ends:∀ u ∈ ws,u.1 ∈ ps/\u.2.1 ∈ ps
 first:ps[0]? = some r
 con:∀ S:Str->Prop,S r->(∀ x y,K3 ws x y->S x->S y)->∀ x ∈ ps,S x
theorem II.same {H H':Hp} {q:Addr} {ps:List Str} {ws:List AG} {r:Str} (h:II H q ps ws r) (s:Ar H H'):II H' q ps ws r:=
 ⟨h.web.same fun b xs z=>s _ _ z,h.nd,h.l30,h.l64,h.ends,h.first,h.con⟩
theorem Rr {ws:List AG} {i:Nat} {u:AG} (h:ws[i]? = some u) (a b:Str):K3 (ws.take (i + 1)) a b ↔ (K3 (ws.take i) a b\/(a=u.1/\b=u.2.1))\/(a=u.2.1/\b=u.1):=by
 rw [YS,h];constructor
 ·rintro ⟨v,hv,e⟩;rcases YR.mp hv with hv | hv
  ·exact .inl (.inl ⟨v,hv,e⟩)
  ·have:v=u:=by simpa using hv
   subst this;rcases e with ⟨e1,e2⟩ | ⟨e1,e2⟩
   ·exact .inl (.inr ⟨e1.symm,e2.symm⟩)
   ·exact .inr ⟨e2.symm,e1.symm⟩
 ·rintro ((⟨v,hv,e⟩ | ⟨rfl,rfl⟩) | ⟨rfl,rfl⟩)
  ·exact ⟨v,Z1 _ hv,e⟩
  ·exact ⟨u,YH _ (by simp),.inl ⟨rfl,rfl⟩⟩
  ·exact ⟨u,YH _ (by simp),.inr ⟨rfl,rfl⟩⟩
structure NR (H:Hp) (B:Addr) (ps:List Str) (ds:List Addr) (P:Str->Str->Prop):Prop where
 top:H B=some (.dK (sK (Np ps ds)))
 len:ds.length=ps.length
 nd:ds.Nodup
 nB:B ∉ ds
 inner:∀ (i:Nat) (p:Str) (d:Addr),ps[i]? = some p->ds[i]? = some d->∃ nv:List (Str × V),Rd H d (.dK (sK nv))/\∀ y,y ∈ nv.map (·.1) ↔ P p y
theorem NB.r {H:Hp} {B:Addr} {ps:List Str} {ds:List Addr} {P:Str->Str->Prop} {n:Nat} (h:NB H B ps ds P n):NR H B ps ds P:=
 ⟨h.top,h.len,h.nd,h.nB,fun i p d e1 e2=>let ⟨nv,a1,_,a3⟩:=h.inner i p d e1 e2; ⟨nv,.inl a1,a3⟩⟩
theorem NR.get {H:Hp} {B:Addr} {ps:List Str} {ds:List Addr} {P:Str->Str->Prop} (h:NR H B ps ds P) (hn:ps.Nodup) {p:Str} (hp:p ∈ ps) :
  ∃ (i:Nat) (d:Addr) (nv:List (Str × V)),ps[i]? = some p/\ds[i]? = some d/\Bc (sK (Np ps ds)) (Sum.inr p:A6)=some (.ref d)/\Rd H d (.dK (sK nv))/\∀ y,y ∈ nv.map (·.1) ↔ P p y:=by
 obtain ⟨i,hi,e⟩:=YQ hp;have e1:ps[i]? = some p:=by rw [Y1 hi,e]
 have S4:i < ds.length:=by rw [h.len]; exact hi
 have e2:ds[i]? = some ds[i]:=Y1 S4;obtain ⟨nv,a1,a3⟩:=h.inner i p _ e1 e2;refine ⟨i,_,nv,e1,e2,Dn ?_ (Nn e1 e2),a1,a3⟩;rw [HQ (by rw [h.len]; exact Y7 _)];exact hn
theorem Rd.ne {H:Hp} {a b:Addr} {u o:HO} (h:Rd H a u) (hb:a ≠ b):Rd (upd H b o) a u:=by
 rcases h with h | ⟨ob,h⟩
 ·exact .inl (by rw [Af hb]; exact h)
 ·exact .inr ⟨ob,by rw [Af hb]; exact h⟩
theorem Rd.fz {H H':Hp} {a b:Addr} {u:HO} {kvs:List (A6 × V)} {o:Obj} (h:Rd H a u) (f:Ef H b kvs o H') (hb:a ≠ b):Rd H' a u:=by
 rcases h with h | ⟨ob,h⟩
 ·exact .inl (by rw [f.ne hb]; exact h)
 ·exact .inr ⟨ob,by rw [f.ne hb]; exact h⟩
theorem NR.other {H:Hp} {B a:Addr} {ps:List Str} {ds:List Addr} {P:Str->Str->Prop} {o:HO} (h:NR H B ps ds P) (ha:a ∉ ds) (hB:a ≠ B):NR (upd H a o) B ps ds P:=
 ⟨by rw [Af (Ne.symm hB)]; exact h.top,h.len,h.nd,h.nB,fun i p d e1 e2=>let ⟨nv,a1,a3⟩:=h.inner i p d e1 e2
  ⟨nv,a1.ne (fun z=>ha (by rw [<-z]; exact Y5 e2)),a3⟩⟩
theorem NR.freeze {H H':Hp} {B:Addr} {ps:List Str} {ds:List Addr} {P:Str->Str->Prop} (h:NR H B ps ds P) {i:Nat} {p:Str} {d:Addr} (e1:ps[i]? = some p) (e2:ds[i]? = some d) {nv:List (Str × V)} {o:Obj} (f:Ef H d (sK nv) o H') (hP:∀ y,y ∈ nv.map (·.1) ↔ P p y):NR H' B ps ds P:=by
 have dm:d ∈ ds:=Y5 e2;refine ⟨by rw [f.ne (fun z=>h.nB (by rw [z]; exact dm))]; exact h.top,h.len,h.nd,h.nB,fun j q c f1 f2=>?_⟩;by_cases z:c=d
 ·subst z;have ij:i=j:=FH h.nd e2 f2;subst ij;rw [e1] at f1; cases f1;exact ⟨nv,.inr ⟨o,f.at⟩,hP⟩
 ·obtain ⟨nw,b1,b3⟩:=h.inner j q c f1 f2;exact ⟨nw,b1.fz f z,b3⟩
theorem RU {nv DE:List (Str × V)} {y:Str} {v:V} (e:Br (sK nv) (Sum.inr y:A6) v=sK DE) (hn:(nv.map (·.1)).Nodup):(DE.map (·.1)).Nodup:=by
 have inj:∀ {a b:List (Str × V)},(sK a).map (·.1)=(sK b).map (·.1)->a.map (·.1)=b.map (·.1):=fun {a b} h=>by
  rw [Kd,Kd] at h;exact cB (fun x y z=>Sum.inr.inj z) |>.mp h
 by_cases h:y ∈ nv.map (·.1)
 ·have e2:(Br (sK nv) (Sum.inr y:A6) v).map (·.1)=(sK nv).map (·.1):=by
   unfold Br;have:((sK nv).any fun kv=>decide (kv.1=(Sum.inr y:A6)))=true:=by rw [Cg,G2,decide_eq_true h]
   rw [if_pos this,Zb];refine ZS fun q _=>?_
   by_cases e:q.1=(Sum.inr y:A6) <;> simp [e]
  rw [e] at e2;rw [inj e2];exact hn
 ·rw [Dv h] at e;have e2:(nv ++ [(y,v)]).map (·.1)=DE.map (·.1):=inj (by rw [e]);rw [<-e2,YE];refine Zr.mpr ⟨hn,Zl.mpr ⟨by simp,.nil⟩,fun a ha b hb=>?_⟩;have e3:b=y:=by simpa using hb
  subst e3;rintro rfl;exact h ha
section
variable {ws:List AG} {r:Str} {bs:List (Str × Option Str)} {wk:List (Str × List Str)} {ps:List Str}
end
theorem Gh {α:Type} {l:List (Str × α)} (h:(l.map (·.1)).Nodup) (f:Str × α->Bool):((l.filter f).map (·.1)).Nodup:=by
 have s:List.Sublist ((l.filter f).map (·.1)) (l.map (·.1)):=List.Sublist.map _ ZG;exact s.nodup h
theorem An.thaw {X:Cx} {pins:List (Addr × Obj)} {σ:St} {H:Hp} {s:Shared} {a:Addr} {o:Obj} {u:HO} (I:An X pins σ H s) (e:H a=some (.frz o u)) (h0:∀ ob w,X.H₀ a ≠ some (.frz ob w)) (hu:u ≠ .own a/\∀ xs,u ≠ .tup xs):An X pins σ (upd H a u) s:=by
 obtain ⟨ho,hok⟩:=(show A5 X.prog X.w H s.heap a (.frz o u) from I.hok a _ e)
 have nn:∀ b,H b=none->b ≠ a:=fun b hb z=>by rw [z,e] at hb; cases hb
 have own:∀ b y,H b=some (.own y)->b ≠ a:=fun b y hb z=>by rw [z,e] at hb; cases hb
 have tup:∀ b xs,H b=some (.tup xs)->b ≠ a:=fun b xs hb z=>by rw [z,e] at hb; cases hb
 refine ⟨I.ok,I.os,I.bare,⟨I.base.keep,I.base.slot,fun b ob q n hx=>?_,I.base.there,fun b xs q=>?_,fun b ob w q=>?_,fun b ps q=>?_⟩,I.loc,I.cell,?_,fun x c q=>?_,fun p hp=>?_,fun b w q=>?_,I.len⟩
 ·have z:=I.base.free b ob q n hx;rw [Af (nn b z)]; exact z
 ·have z:=I.base.tups b xs q;rw [Af (tup b xs z)]; exact z
 ·have z:=I.base.frzs b ob w q;by_cases hb:b=a
  ·subst hb; exact absurd q (h0 ob w)
  ·rw [Af hb]; exact z
 ·obtain ⟨more,z⟩:=I.base.tbls b ps q;refine ⟨more,?_⟩;rw [Af (fun hb=>by rw [hb,e] at z; cases z)]; exact z
 ·rw [Af (nn _ I.free)]; exact I.free
 ·rw [Af (nn _ (I.freeC x c q))]; exact I.freeC x c q
 ·obtain ⟨z1,z2,z3⟩:=I.pin p hp;exact ⟨z1,by rw [Af (nn _ z2)]; exact z2,z3⟩
 ·by_cases hb:b=a
  ·subst hb;rw [Ab] at q;cases q
   exact hok.stay (fun c v _ z=>z) (fun c z=>by rw [Af (own c _ z)]; exact z) fun c xs z=>by rw [Af (tup c xs z)]; exact z
  ·rw [Af hb] at q;exact (I.hok b w q).stay (fun c v _ z=>z) (fun c z=>by rw [Af (own c _ z)]; exact z) fun c xs z=>by rw [Af (tup c xs z)]; exact z
theorem Se {X:Cx} {e:Expr} {t:TE} (h:PE X e t):PE X e (fun σ H Q=>t σ H fun x H1=>∃ a o kvs,H1 a=some (.frz o (.dK kvs))/\(∀ ob w,X.H₀ a ≠ some (.frz ob w))/\Q x (upd H1 a (.dK kvs))):=by
 intro pins s σ H Q I q;refine B5 (h (pins:=pins) s σ H _ I q) fun v s1 ⟨x,H1,I1,r1,a,o,kvs,e1,h0,q1⟩=>?_
 exact ⟨x,_,I1.thaw e1 h0 ⟨(by intro z; cases z),(by intro xs z; cases z)⟩,r1,q1⟩
def CQ (A:Around) (s:Shared) (x y:Value) (b:Bool):Prop:=∀ (prog:Program) (w:World) (E Q:Value->Shared->Prop),Q (.bool b) s->wpAny (model prog w) A (richCompare .Lt x y) Q E s
theorem CQ.int (A:Around) (s:Shared) (a:Int) (t:Tok) (c:Int) (u:Tok):CQ A s (.int a t) (.int c u) (decide (a < c)):=fun prog w E Q h=>
 (PyProof.Rows.lt_int h:wpAny (model prog w) A (compareOp .Lt (.int a t) (.int c u)) Q E s)
theorem CQ.str (A:Around) (s:Shared) (a:Str) (t:Tok) (c:Str) (u:Tok):CQ A s (.str a t) (.str c u) (decide (a.cps.toList < c.cps.toList)):=fun prog w E Q h=>
 (PySem.P.lt_str h:wpAny (model prog w) A (compareOp .Lt (.str a t) (.str c u)) Q E s)
section
open PySem.SeqAt
open PySem.AutoSeq1 (wpAny_loadPart')
open PySem.MeetsSeq PySem.MeetsSeq2 PySem.MeetsSeq3
theorem Ob (l b:Addr) (x1 x2 y1 y2:Value) (n n2:Nat) (dd NH:Option Addr) (sl Pn:Array (Option Value)) (e1 b1 e2 b2:Bool) :
  Meets (Builtin.«tuple.__lt__» ⟨[.ref l,.ref b],[]⟩)
   (fun A R s=>s.heap.get? l=some { cls:=.type "tuple",dict:=dd,data:=.seq #[x1,x2] n,slots:=sl }/\s.heap.get? b=some { cls:=.type "tuple",dict:=NH,data:=.seq #[y1,y2] n2,slots:=Pn } /\
    EqAt A.in1 s x1 y1 e1/\(e1=false->CQ A.in1 s x1 y1 b1)/\(e1=true->EqAt A.in1 s x2 y2 e2/\(e2=false->CQ A.in1 s x2 y2 b2)) /\
    R (.ok (.ret (.bool (if e1=true then (if e2=true then false else b2) else b1)))) s):=
 .of_wp fun prog w A R s h=>by
  obtain ⟨hp,g,d,tk,os⟩:=s; obtain ⟨hl,hb,he1,Vk,h2,h⟩:=h;have f2:=AutoSeq1.sub_tuple_tuple;wp_walk using wpAny_loadPart' hl,wpAny_loadPart' hb,wpAny_forIn_list _ (fun Co b s'=>b.1=none/\s'=⟨hp,g,d,tk,os⟩/\(Co=[(x1,y1),(x2,y2)]\/(Co=[(x2,y2)]/\e1=true)\/(Co=[]/\e1=true/\e2=true))) _
  case turn=>
   rintro ⟨y,x⟩ Co b s' ⟨Fb,rfl,hz | ⟨hz,h1⟩ | ⟨hz,_⟩⟩
   ·cases hz
    refine wpAny_bind (he1 prog w _ _ ?_);cases ee:e1 with
    | true=>
     wp_walk
     exact ⟨rfl,rfl,.inr (.inl ⟨rfl,rfl⟩)⟩
    | false=>
     rw [ee,if_neg YI] at h;have hri:=Vk ee prog w;wp_walk using hri;exact ⟨_,rfl,by simpa using h⟩
   ·cases hz
    obtain ⟨he2,ON⟩:=h2 h1;rw [if_pos h1] at h;refine wpAny_bind (he2 prog w _ _ ?_);cases ee:e2 with
    | true=>
     wp_walk
     exact ⟨rfl,rfl,.inr (.inr ⟨rfl,h1,rfl⟩)⟩
    | false=>
     rw [ee,if_neg YI] at h;have hri:=ON ee prog w;wp_walk using hri;exact ⟨_,rfl,by simpa using h⟩
   ·cases hz
  case fin=>
   rintro ⟨b1',b2'⟩ s' ⟨Fb,rfl,hz | ⟨hz,h1⟩ | ⟨hz,h1,T5⟩⟩
   ·cases hz
   ·cases hz
   ·simp only at Fb;subst Fb;rw [if_pos h1,if_pos T5] at h;wp_walk;exact ⟨_,rfl,by simpa [Builtin.Tuple.tupleCompareSizes] using h⟩
  case h=>
   exact ⟨rfl,rfl,.inl rfl⟩
end
theorem CQ.tup2 {A:Around} {s:Shared} {l b:Addr} {x1 x2 y1 y2:Value} {e1 b1 e2 b2:Bool} (hl:IsTup s.heap l #[x1,x2]) (hb:IsTup s.heap b #[y1,y2]) (hu:A.units < cLine) (h1:SeqAt.EqAt A.in1 s x1 y1 e1) (l1:e1=false->CQ A.in1 s x1 y1 b1)
  (h2:e1=true->SeqAt.EqAt A.in1 s x2 y2 e2/\(e2=false->CQ A.in1 s x2 y2 b2)):CQ A s (.ref l) (.ref b) (if e1=true then (if e2=true then false else b2) else b1):=fun prog w E Q h=>by
 obtain ⟨⟨cls,dd,data,sl⟩,ho,hc,n,hd⟩:=id hl;obtain ⟨⟨US,NH,data2,Pn⟩,OM,OQ,n2,hd2⟩:=id hb;simp only at hc hd OQ hd2;subst hc hd OQ hd2;exact richCompare_meets_room (op:=.Lt) ⟨_,ho,rfl⟩ ⟨_,OM,rfl⟩ PySem.F.slot_tuple_lt PySem.F.entry_tuple_lt (PySem.F.args_tuple_lt_2 _ _) (Ob l b x1 x2 y1 y2 n n2 dd NH sl Pn e1 b1 e2 b2)
  ⟨ho,OM,h1,l1,h2,show Value.bool _ ≠ Value.notImplemented/\Q (.bool _) s from ⟨(fun x=>nomatch x),h⟩⟩ hu
def RB (p q:Int × Str):Bool:=if (p.1 == q.1)=true then (if (p.2 == q.2)=true then false else decide (p.2.cps.toList < q.2.cps.toList)) else decide (p.1 < q.1)
def D7 (h:Heap) (v:Value) (p:Int × Str):Prop:=∃ a t u,v=.ref a/\IsTup h a #[.int p.1 t,.str p.2 u]
theorem D7.keep {h h':Heap} {v:Value} {p:Int × Str} (x:D7 h v p) (k:∀ b o,h.get? b=some o->h'.get? b=some o):D7 h' v p:=by
 obtain ⟨a,t,u,rfl,o,ho,r⟩:=x;exact ⟨a,t,u,rfl,o,k _ _ ho,r⟩
theorem Nq {A:Around} {s:Shared} {v w:Value} {p q:Int × Str} (hv:D7 s.heap v p) (hw:D7 s.heap w q) (hu:A.units < cLine):CQ A s v w (RB p q):=by
 obtain ⟨a,t,u,rfl,hl⟩:=hv;obtain ⟨b,t',u',rfl,hb⟩:=hw;exact CQ.tup2 hl hb hu (SeqAt.EqAt.int_int _ _ _ _) (fun _=>CQ.int _ _ _ _ _ _) fun _=>⟨SeqAt.EqAt.str_str _ _ _ _,fun _=>CQ.str _ _ _ _ _ _⟩
theorem SJ {A:Around} {s:Shared} {v w:Value} {p q:Int × Str} (hv:D7 s.heap v p) (hw:D7 s.heap w q) (hu:A.units < cLine):SeqAt.EqAt A s v w (decide (p=q)):=by
 obtain ⟨a,t,u,rfl,hl⟩:=hv;obtain ⟨b,t',u',rfl,hb⟩:=hw;by_cases hab:a=b
 ·subst hab;have e:p=q:=by
   obtain ⟨o,ho,hc,n,hd⟩:=hl;obtain ⟨o',IY,Hn,n',LI⟩:=hb;rw [ho] at IY;cases IY
   rw [hd] at LI;injection LI with e1 e2;have e3:=congrArg bx e1;simp only [af.injEq,Value.int.injEq,Value.str.injEq] at e3;exact Prod.ext e3.1.1 e3.2.1.1
  rw [decide_eq_true e];intro prog w E Q h;unfold eqBool;refine wpAny_holding ?_;exact wpAny_ite_split (fun _=>wpAny_bind (wpAny_rule (wpAny_pure h))) (fun hn=>absurd (by simp) hn)
 ·have key:=SeqAt.RcAt.tuples (A:=A) (s:=s) (e:=fun j=>if j=0 then p.1 == q.1 else p.2 == q.2) (show s.heap.IsTuple a #[.int p.1 t,.str p.2 u] from hl) (show s.heap.IsTuple b #[.int q.1 t',.str q.2 u'] from hb) hu (fun j h1 h2=>by
   match j,h1,h2 with
   | 0,_,_=>exact SeqAt.EqAt.int_int _ _ _ _
   | 1,_,_=>exact SeqAt.EqAt.str_str _ _ _ _
   | j + 2,h1,_=>exact absurd (show j + 2 < 2 from h1) (by lia))
  have e:((ZP (min (#[Value.int p.1 t,.str p.2 u]:Array Value).size (#[Value.int q.1 t',.str q.2 u']:Array Value).size)).all (fun j=>if j=0 then p.1 == q.1 else p.2 == q.2) && (#[Value.int p.1 t,.str p.2 u]:Array Value).size == (#[Value.int q.1 t',.str q.2 u']:Array Value).size)=decide (p=q):=by
   show ((ZP 2).all (fun j=>if j=0 then p.1 == q.1 else p.2 == q.2) && (2 == 2))=decide (p=q)
   have:(ZP 2)=[0,1]:=rfl;rw [this];simp only [bh,List.all_nil,bj,beq_self_eq_true];rw [Z7];simp [Prod.ext_iff]
  rw [e] at key;exact SeqAt.EqAt.of_refs hab key
def IJ (h:Heap) (v:Value) (k:(Int × Str) × Str):Prop:=∃ a l u,v=.ref a/\IsTup h a #[.ref l,.str k.2 u]/\D7 h (.ref l) k.1
theorem IJ.keep {h h':Heap} {v:Value} {p:(Int × Str) × Str} (x:IJ h v p) (k:∀ b o,h.get? b=some o->h'.get? b=some o):IJ h' v p:=by
 obtain ⟨a,l,u,rfl,⟨o,ho,r⟩,z⟩:=x;exact ⟨a,l,u,rfl,⟨o,k _ _ ho,r⟩,z.keep k⟩
def Tw (p q:(Int × Str) × Str):Bool:=if decide (p.1=q.1)=true then (if (p.2 == q.2)=true then false else decide (p.2.cps.toList < q.2.cps.toList)) else RB p.1 q.1
theorem U2 {A:Around} {s:Shared} {v w:Value} {p q:(Int × Str) × Str} (hv:IJ s.heap v p) (hw:IJ s.heap w q) (hu:A.units + 1 < cLine):CQ A s v w (Tw p q):=by
 obtain ⟨a,l,u,rfl,hl,hp⟩:=hv;obtain ⟨b,l',u',rfl,hb,hq⟩:=hw;exact CQ.tup2 hl hb (by lia) (SJ hp hq (by rw [PySem.Around.in1_units]; exact hu)) (fun _=>Nq hp hq (by rw [PySem.Around.in1_units]; exact hu)) fun _=>⟨SeqAt.EqAt.str_str _ _ _ _,fun _=>CQ.str _ _ _ _ _ _⟩
def Tg (prog:Program) (w:World) (A:Around) (g0:Heap) (P:Nat->Value->Prop) (bt:Nat->Nat->Bool):Prop:=
 ∀ i j vi vj (s:Shared) (Q:Value->Shared->Prop) (E:Value->Shared->Prop),(∀ b o,g0.get? b=some o->s.heap.get? b=some o)->P i vi->P j vj->Q (.bool (bt i j)) s->wpAny (model prog w) A (richCompare .Lt vi vj) Q E s
section
variable {prog:Program} {w:World} {A:Around} {R:Result->Shared->Prop} {I:Addr} {fp wr:List Addr} {n:Nat} {P:Nat->Value->Prop} {St:Nat->Heap->Prop} {g0:Heap}
theorem OE (W:Walks prog w A.in1 I fp wr n P St) (bt:Nat->Nat->Bool) (cm:Tg prog w A.in1 g0 P bt) (S:Addr) (nS:S ∉ fp) (gw:∀ b o,g0.get? b=some o->b ∉ wr/\b ≠ S) :
  ∀ (m j:Nat) (s:Shared) (bv:Value) (c:Nat),n - (j + 1)=m->j + 1<=n->St (j + 1) s.heap->P (argBest bt j) bv->(∀ b o,g0.get? b=some o->s.heap.get? b=some o) ->
  s.heap.get? S=some { cls:=.type "list",dict:=none,data:=.seq #[bv,bv] c,slots:=#[] } ->
  (∀ v h2 tk,P (argBest bt (n - 1)) v->(∀ b o,b ∉ wr->b ≠ S->s.heap.get? b=some o->h2.get? b=some o)->R (.ok (.ret v)) { s with heap:=h2,toks:=tk }) ->
  codeAny (model prog w) A (.builtin "min.loop" ⟨[.ref I,.none,.ref S],[]⟩) R s:=by
 have Sw:S ∉ wr:=fun z=>nS (W.sub _ z)
 have nm:(toString "min" ++ toString ".loop":String)="min.loop":=by decide
 intro m;induction m with
 | zero=>
  intro j s bv c hm hj st pb g1 aS r;have jn:j + 1=n:=by lia
  refine codeAny_builtin F.entry_min_loop ?_;rw [Around.under_plainId F.plain_min_loop _];refine wpAny_bind (m:=seqItems? (.ref S)) (wpAny_seqItems aS rfl ?_);refine wpAny_bind (wpAny_tryCatch (W.done s _ _ (jn ▸ st) fun h2 tk k2=>?_));have TB:=k2 S _ Sw aS;refine wpAny_bind (m:=updateSeq S (fun _=>#[])) ?_;refine wpAny_updateSeq TB rfl (wpAny_bind (wpAny_letGo (wpAny_pure ?_)));exact r bv _ tk (by rw [<-jn]; exact pb) fun b o bw bS e=>(Zm _ _ (Ne.symm bS)).trans (k2 b o bw e)
 | succ m ih=>
  intro j s bv c hm hj st pb g1 aS r;have lt:j + 1 < n:=by lia
  refine codeAny_builtin F.entry_min_loop ?_;rw [Around.under_plainId F.plain_min_loop _];refine wpAny_bind (m:=seqItems? (.ref S)) (wpAny_seqItems aS rfl ?_);refine wpAny_bind (wpAny_tryCatch (W.item (j + 1) s _ _ lt st fun v h2 tk pv ET k2=>?_));have TB:=k2 S _ Sw aS;have g2:∀ b o,g0.get? b=some o->h2.get? b=some o:=fun b o e=>k2 b o (gw b o e).1 (g1 b o e)
  show wpAny _ A.in1 (tryCatch (holding [v,v] (richCompare .Lt v bv >>= _)) _ >>= _) _ _ _
  refine wpAny_bind (wpAny_tryCatch (wpAny_holding (wpAny_bind (cm (j + 1) (argBest bt j) v bv _ _ _ g2 pv pb ?_))));refine wpAny_bind (wpAny_holding (wpAny_truthy_bool ?_));refine wpAny_bind (wpAny_letGo (wpAny_pure ?_));cases hb:bt (j + 1) (argBest bt j) with
  | true=>
   simp only [if_true];refine wpAny_bind ?_;refine wpAny_updateSeq TB rfl (wpAny_bind (wpAny_letGo ?_));rw [nm];refine wpAny_pure ⟨plainId_quiet F.plain_min_loop _,ih (j + 1) _ v _ (by lia) lt (W.frame _ _ _ ET fun b bf o e=>?_) (by simp only [argBest,hb,if_true]; exact pv) (fun b o e=>?_) (Zo _ TB rfl) fun v' h3 TX V4 k3=>?_⟩
   ·exact (Zm _ _ (fun z:S=b=>nS (by rw [z]; exact bf))).trans e
   ·exact (Zm _ _ (Ne.symm (gw b o e).2)).trans (g2 b o e)
   ·exact r v' h3 TX V4 fun b o bw bS e=>k3 b o bw bS ((Zm _ _ (Ne.symm bS)).trans (k2 b o bw e))
  | false=>
   simp only [Za,if_false];refine wpAny_bind (wpAny_letGo ?_);rw [nm];refine wpAny_pure ⟨plainId_quiet F.plain_min_loop _,ih (j + 1) _ bv c (by lia) lt ET (by simp only [argBest,hb,Za,if_false]; exact pb) g2 TB fun v' h3 TX V4 k3=>?_⟩;exact r v' h3 TX V4 fun b o bw bS e=>k3 b o bw bS (k2 b o bw e)
theorem HR (W:Walks prog w A.in1 I fp wr n P St) (bt:Nat->Nat->Bool) (cm:Tg prog w A.in1 g0 P bt) (S:Addr) (nS:S ∉ fp) (gw:∀ b o,g0.get? b=some o->b ∉ wr/\b ≠ S) (hn:0 < n) {s:Shared} {c:Nat} (st:St 0 s.heap)
  (g1:∀ b o,g0.get? b=some o->s.heap.get? b=some o) (aS:s.heap.get? S=some { cls:=.type "list",dict:=none,data:=.seq #[] c,slots:=#[] })
  (r:∀ v h2 tk,P (argBest bt (n - 1)) v->(∀ b o,b ∉ wr->b ≠ S->s.heap.get? b=some o->h2.get? b=some o)->R (.ok (.ret v)) { s with heap:=h2,toks:=tk }) :
  codeAny (model prog w) A (.builtin "min.loop" ⟨[.ref I,.none,.ref S],[]⟩) R s:=by
 have Sw:S ∉ wr:=fun z=>nS (W.sub _ z)
 have nm:(toString "min" ++ toString ".loop":String)="min.loop":=by decide
 refine codeAny_builtin F.entry_min_loop ?_;rw [Around.under_plainId F.plain_min_loop _];refine wpAny_bind (m:=seqItems? (.ref S)) (wpAny_seqItems aS rfl ?_);refine wpAny_bind (wpAny_tryCatch (W.item 0 s _ _ hn st fun v h2 tk pv ET k2=>?_));have TB:=k2 S _ Sw aS;refine wpAny_bind (m:=updateSeq S (fun _=>#[v,v])) ?_;refine wpAny_updateSeq TB rfl ?_;rw [nm];refine wpAny_pure ⟨plainId_quiet F.plain_min_loop _,OE W bt cm S nS gw _ 0 _ v _ rfl hn (W.frame _ _ _ ET fun b bf o e=>?_) pv (fun b o e=>?_) (Zo _ TB rfl) fun v' h3 TX V4 k3=>?_⟩
 ·exact (Zm _ _ (fun z:S=b=>nS (by rw [z]; exact bf))).trans e
 ·exact (Zm _ _ (Ne.symm (gw b o e).2)).trans (k2 b o (gw b o e).1 (g1 b o e))
 ·exact r v' h3 TX V4 fun b o bw bS e=>k3 b o bw bS ((Zm _ _ (Ne.symm bS)).trans (k2 b o bw e))
end
section
variable {prog:Program} {w:World} {A:Around} {E:Value->Shared->Prop} {s:Shared}
theorem J3 {l:Addr} {vs:List Value} {bt:Nat->Nat->Bool} {Q:Value->Shared->Prop} (hh:A.handled=none) (hl:s.heap.IsList l vs.toArray) (hn:0 < vs.length) (cm:Tg prog w A.in1 s.heap (fun i v=>vs[i]? = some v) bt)
  (h:∀ v h2 tk,vs[argBest bt (vs.length - 1)]? = some v->(∀ b o,s.heap.get? b=some o->h2.get? b=some o)->Q v { s with heap:=h2,toks:=tk }):wpAny (model prog w) A (call (.builtin "min") [.ref l]) Q E s:=by
 have nm:(toString "min" ++ toString ".loop":String)="min.loop":=by decide
 have B0:l < s.heap.objs.size:=by obtain ⟨o,ho,_⟩:=id hl; exact YC ho
 refine call_function_tree F.kind_min F.plain_min F.entry_min (F.args_min1 _) ?_;refine wpAny_bind (wpAny_of_eq (show Builtin.Builtins.bindParams "min" ["key","default"] 0 ⟨[],[]⟩=pure [none,none] from rfl) ?_);refine wpAny_bind (wpAny_pure ?_);refine wpAny_bind (wpAny_pyIter_list hl ?_);refine wpAny_bind (wpAny_newObj_type ?_);rw [nm];have sz:(s.heap.push { cls:=.type "list_iterator",data:=.fields #[.ref l,.int 0 0] }).objs.size=s.heap.objs.size + 1:=Zk ..;have W:=(Walks.list (prog:=prog) (w:=w) (A:=A.in1) hh s.heap.objs.size l (YF B0) vs.toArray).weaken (P':=fun i v=>vs[i]? = some v) (fun i v e=>by simpa using e);refine wpAny_pure ⟨plainId_quiet F.plain_min_loop _,HR (g0:=s.heap) W bt cm (s.heap.push { cls:=.type "list_iterator",data:=.fields #[.ref l,.int 0 0] }).objs.size (fun hm=>?_) (fun b o e=>⟨fun hm=>?_,fun z=>?_⟩) (by simpa using hn) ?_ (fun b o e=>Y2 _ (Y2 _ e)) (YD _ rfl) fun v h2 tk pv k2=>?_⟩
 ·rw [sz] at hm;rcases Y4.mp hm with z | hm
  ·exact absurd z (Nat.succ_ne_self _)
  ·rcases Y4.mp hm with z | hm
   ·exact absurd z (Zx (YV B0))
   ·cases hm
 ·have:=YC e;rw [YJ.mp hm] at this;exact absurd this (Zp _)
 ·have:=YC e;rw [z,sz] at this;exact absurd this (aP.mpr (Ze _))
 ·exact ⟨⟨_,Y2 _ (YD _ rfl),rfl,rfl⟩,(hl.push _).push _⟩
 ·refine h v h2 tk (by simpa using pv) fun b o e=>k2 b o (fun hm=>?_) (fun z=>?_) (Y2 _ (Y2 _ e))
  ·have:=YC e;rw [YJ.mp hm] at this;exact absurd this (Zp _)
  ·have:=YC e;rw [z,sz] at this;exact absurd this (aP.mpr (Ze _))
end
section
variable {prog:Program} {w:World} {A:Around} {E:Value->Shared->Prop} {s:Shared}
theorem QM {a b:Value} {bt:Nat->Nat->Bool} {Q:Value->Shared->Prop} (hh:A.handled=none) (cm:Tg prog w A.in1 s.heap (fun i v=>[a,b][i]? = some v) bt)
  (h:∀ v h2 tk,[a,b][argBest bt 1]? = some v->(∀ c o,s.heap.get? c=some o->h2.get? c=some o)->Q v { s with heap:=h2,toks:=tk }):wpAny (model prog w) A (call (.builtin "min") [a,b]) Q E s:=by
 have nm:(toString "min" ++ toString ".loop":String)="min.loop":=by decide
 have hT:(s.heap.push { cls:=.type "tuple",data:=.seq #[a,b] }).IsTuple s.heap.objs.size #[a,b]:=⟨_,YD _ rfl,rfl,0,rfl⟩
 refine call_function_tree F.kind_min F.plain_min F.entry_min (F.args_min2 _ _) ?_;refine wpAny_bind (wpAny_of_eq (show Builtin.Builtins.bindParams "min" ["key","default"] 0 ⟨[],[]⟩=pure [none,none] from rfl) ?_);show wpAny _ A.in1 (newTuple [a,b] >>= _) _ _ s
 refine wpAny_bind (wpAny_newObj_type ?_);refine wpAny_bind (wpAny_pyIter_tuple hT ?_);refine wpAny_bind (wpAny_newObj_type ?_);rw [nm];have s1:(s.heap.push { cls:=.type "tuple",data:=.seq #[a,b] }).objs.size=s.heap.objs.size + 1:=Zk ..;have s2:((s.heap.push { cls:=.type "tuple",data:=.seq #[a,b] }).push { cls:=.type "tuple_iterator",data:=.fields #[.ref s.heap.objs.size,.int 0 0] }).objs.size=s.heap.objs.size + 2:=by rw [Zk,s1]
 have W:=(Walks.tuple (prog:=prog) (w:=w) (A:=A.in1) hh (s.heap.push { cls:=.type "tuple",data:=.seq #[a,b] }).objs.size s.heap.objs.size (by rw [s1]; exact YF (YZ _)) #[a,b]).weaken (P':=fun i v=>[a,b][i]? = some v) (fun i v e=>by simpa using e);refine wpAny_pure ⟨plainId_quiet F.plain_min_loop _,HR (g0:=s.heap) W bt cm ((s.heap.push { cls:=.type "tuple",data:=.seq #[a,b] }).push { cls:=.type "tuple_iterator",data:=.fields #[.ref s.heap.objs.size,.int 0 0] }).objs.size (fun hm=>?_) (fun b o e=>⟨fun hm=>?_,fun z=>?_⟩) (by simp) ?_ (fun b o e=>Y2 _ (Y2 _ (Y2 _ e))) (YD _ rfl) fun v h2 tk pv k2=>?_⟩
 ·rw [s2] at hm;rcases Y4.mp hm with z | hm
  ·rw [s1] at z; exact absurd z (Zx (YZ _))
  ·rcases Y4.mp hm with z | hm
   ·exact absurd z (Zx (YV (YZ _)))
   ·cases hm
 ·have:=YC e;rw [YJ.mp hm,s1] at this;exact absurd this (aP.mpr (Ze _))
 ·have:=YC e;rw [z,s2] at this;exact absurd this (aP.mpr (YU (Ze _) (Ze _)))
 ·exact ⟨⟨_,Y2 _ (YD _ rfl),rfl,rfl⟩,(hT.push _).push _⟩
 ·refine h v h2 tk (by simpa using pv) fun b o e=>k2 b o (fun hm=>?_) (fun z=>?_) (Y2 _ (Y2 _ (Y2 _ e)))
  ·have:=YC e;rw [YJ.mp hm,s1] at this;exact absurd this (aP.mpr (Ze _))
  ·have:=YC e;rw [z,s2] at this;exact absurd this (aP.mpr (YU (Ze _) (Ze _)))
end
theorem IG (bt:Nat->Nat->Bool) (num:Nat->Int) (h1:∀ i j,bt i j=true->num i<=num j) (h2:∀ i j,bt i j=false->num j<=num i):∀ k,argBest bt k<=k/\∀ j,j<=k->num (argBest bt k)<=num j
 | 0=>⟨Y7 _,fun j hj=>by
  have:j=0:=by lia
  subst this; exact Z6 _⟩
 | k + 1=>by
  obtain ⟨a1,a2⟩:=IG bt num h1 h2 k;simp only [argBest];cases hc:bt (k + 1) (argBest bt k) with
  | true=>
   simp only [if_true];refine ⟨Y7 _,fun j hj=>?_⟩;have:=h1 _ _ hc;by_cases IZ:j<=k
   ·have:=a2 j IZ; lia
   ·have:j=k + 1:=by lia
    subst this; exact Z6 _
  | false=>
   simp only [Za,if_false];refine ⟨aD a1,fun j hj=>?_⟩;by_cases IZ:j<=k
   ·exact a2 j IZ
   ·have:j=k + 1:=by lia
    subst this; exact h2 _ _ hc
def JP (H:Hp) (v:V) (p:Int × Str):Prop:=∃ t,v=.ref t/\H t=some (.tup [.int p.1,.str p.2])
def TJ (H:Hp) (v:V) (k:(Int × Str) × Str):Prop:=∃ t t2,v=.ref t/\H t=some (.tup [.ref t2,.str k.2])/\JP H (.ref t2) k.1
theorem JP.same {H H':Hp} {v:V} {p:Int × Str} (h:JP H v p) (s:∀ b xs,H b=some (.tup xs)->H' b=some (.tup xs)):JP H' v p:=let ⟨t,e,z⟩:=h; ⟨t,e,s _ _ z⟩
theorem TJ.same {H H':Hp} {v:V} {p:(Int × Str) × Str} (h:TJ H v p) (s:∀ b xs,H b=some (.tup xs)->H' b=some (.tup xs)):TJ H' v p:=let ⟨t,t2,e,z,q⟩:=h; ⟨t,t2,e,s _ _ z,q.same s⟩
theorem JP.at {X:Cx} {pins:List (Addr × Obj)} {σ:St} {H:Hp} {s:Shared} {v:V} {u:Value} {p:Int × Str} (I:An X pins σ H s) (r:A3 v u) (h:JP H v p):D7 s.heap u p:=by
 obtain ⟨t,rfl,ht⟩:=h;cases r
 obtain ⟨Ap,rv,pl,hz⟩:=I.tuple (A7.of ht);cases rv with
 | cons a1 b1=>
  cases b1 with
  | cons a2 b2=>
   cases b2
   obtain ⟨t1,rfl⟩:=a1;obtain ⟨t2,rfl⟩:=a2;exact ⟨t,t1,t2,rfl,pl⟩
theorem TJ.at {X:Cx} {pins:List (Addr × Obj)} {σ:St} {H:Hp} {s:Shared} {v:V} {u:Value} {k:(Int × Str) × Str} (I:An X pins σ H s) (r:A3 v u) (h:TJ H v k):IJ s.heap u k:=by
 obtain ⟨t,l,rfl,ht,hp⟩:=h;cases r
 obtain ⟨Ap,rv,pl,hz⟩:=I.tuple (A7.of ht);cases rv with
 | cons a1 b1=>
  cases b1 with
  | cons a2 b2=>
   cases b2
   cases a1
   obtain ⟨t2,rfl⟩:=a2;exact ⟨t,l,t2,rfl,pl,hp.at I (show A3 (V.ref l) (Value.ref l) from rfl)⟩
def Dr (p q:Int × Str):Prop:=p.1 < q.1\/(p.1=q.1/\¬ q.2.cps.toList < p.2.cps.toList)
theorem Dr.refl (p:Int × Str):Dr p p:=.inr ⟨rfl,aW _⟩
theorem Dr.trans {p q r:Int × Str} (h1:Dr p q) (h2:Dr q r):Dr p r:=by
 rcases h1 with a | ⟨a,b⟩ <;> rcases h2 with c | ⟨c,d⟩
 ·exact .inl (by lia)
 ·exact .inl (by lia)
 ·exact .inl (by lia)
 ·exact .inr ⟨by lia,ZX.mpr (de (ZX.mp b) (ZX.mp d))⟩
theorem Dr.add {d d' l:Int} {s s':Str} (h:Dr (d,s) (d',s')):Dr (d + l,s) (d' + l,s'):=by
 rcases h with a | ⟨a,b⟩
 ·have a':d < d':=a;exact .inl (show d + l < d' + l by lia)
 ·have a':d=d':=a;exact .inr ⟨show d + l=d' + l by lia,b⟩
theorem Dr.up {d d':Int} {s:Str} (h:d<=d'):Dr (d,s) (d',s):=by
 by_cases e:d=d'
 ·exact .inr ⟨e,aW _⟩
 ·exact .inl (show d < d' by lia)
theorem Dr.fst {p q:Int × Str} (h:Dr p q):p.1<=q.1:=by
 rcases h with a | ⟨a,_⟩ <;> lia
theorem Nr {p q:Int × Str} (h:RB p q=true):Dr p q:=by
 unfold RB at h;by_cases e:(p.1 == q.1)=true
 ·have e':p.1=q.1:=by simpa using e
  rw [if_pos e] at h;by_cases e2:(p.2 == q.2)=true
  ·rw [if_pos e2] at h; cases h
  ·rw [if_neg e2] at h;exact .inr ⟨e',aB (by simpa using h)⟩
 ·rw [if_neg e] at h;exact .inl (by simpa using h)
theorem Nt {p q:Int × Str} (h:RB p q=false):Dr q p:=by
 unfold RB at h;by_cases e:(p.1 == q.1)=true
 ·have e':p.1=q.1:=by simpa using e
  rw [if_pos e] at h;by_cases e2:(p.2 == q.2)=true
  ·have WC:p.2=q.2:=by simpa using e2
   exact .inr ⟨e'.symm,by rw [WC]; exact aW _⟩
  ·rw [if_neg e2] at h;exact .inr ⟨e'.symm,by simpa using h⟩
 ·rw [if_neg e] at h;have e':¬ p.1=q.1:=by simpa using e
  have:¬ p.1 < q.1:=by simpa using h
  exact .inl (by lia)
theorem Su {p q:(Int × Str) × Str} (h:Tw p q=true):Dr p.1 q.1:=by
 unfold Tw at h;by_cases e:decide (p.1=q.1)=true
 ·have:p.1=q.1:=by simpa using e
  rw [this]; exact Dr.refl _
 ·rw [if_neg e] at h;exact Nr h
theorem Sv {p q:(Int × Str) × Str} (h:Tw p q=false):Dr q.1 p.1:=by
 unfold Tw at h;by_cases e:decide (p.1=q.1)=true
 ·have:p.1=q.1:=by simpa using e
  rw [this]; exact Dr.refl _
 ·rw [if_neg e] at h;exact Nt h
theorem GD (bt:Nat->Nat->Bool) (num:Nat->Int × Str) (h1:∀ i j,bt i j=true->Dr (num i) (num j)) (h2:∀ i j,bt i j=false->Dr (num j) (num i)):∀ k,argBest bt k<=k/\∀ j,j<=k->Dr (num (argBest bt k)) (num j)
 | 0=>⟨Y7 _,fun j hj=>by
  have:j=0:=by lia
  subst this; exact Dr.refl _⟩
 | k + 1=>by
  obtain ⟨a1,a2⟩:=GD bt num h1 h2 k;simp only [argBest];cases hc:bt (k + 1) (argBest bt k) with
  | true=>
   simp only [if_true];refine ⟨Y7 _,fun j hj=>?_⟩;by_cases IZ:j<=k
   ·exact (h1 _ _ hc).trans (a2 j IZ)
   ·have:j=k + 1:=by lia
    subst this; exact Dr.refl _
  | false=>
   simp only [Za,if_false];refine ⟨aD a1,fun j hj=>?_⟩;by_cases IZ:j<=k
   ·exact a2 j IZ
   ·have:j=k + 1:=by lia
    subst this; exact h2 _ _ hc
theorem ID {X:Cx} (hc:X.calm=true) (hu:X.A.units + 64 < cLine):Bl X (.builtin "min") (fun xs H Q=>∃ (a:Addr) (vs:List V) (ks:List ((Int × Str) × Str)),xs=[.ref a]/\H a=some (.lst vs)/\vs.length=ks.length/\ks ≠ []/\(∀ (i:Nat) v k,vs[i]? = some v->ks[i]? = some k->TJ H v k) /\
  ∀ v k,k ∈ ks->TJ H v k->(∀ k' ∈ ks,Dr k.1 k'.1)->Q v H):=by
 intro pins s σ H xs us Q I r h;obtain ⟨a,vs,ks,rfl,ha,hl,hne,hk,q⟩:=h;obtain ⟨u,rfl,ru⟩:=BO r;cases ru
 obtain ⟨Ap,rv,pl,hz⟩:=I.list (AB.of ha);have il:Ap.length=ks.length:=by rw [<-rv.length,hl]
 have pos:0 < ks.length:=ZF.mpr hne;have kat:∀ (i:Nat) (v:Value),Ap[i]? = some v->∃ k,ks[i]? = some k/\IJ s.heap v k/\∃ x,vs[i]? = some x/\A3 x v:=fun i v e=>by
  have hi:i < Ap.length:=(Y8.mp e).1;have e1:vs[i]? = some vs[i]:=Y1 (by lia);have e2:ks[i]? = some ks[i]:=Y1 (by lia);obtain ⟨v',e3,r3⟩:=rv.get e1;rw [e] at e3;cases e3
  exact ⟨_,e2,(hk i _ _ e1 e2).at I r3,_,e1,r3⟩
 refine J3 (bt:=fun i j=>Tw (ks.getD i default) (ks.getD j default)) (I.ok.hd hc) pl.isList (by lia) (fun i j vi vj s' Q' E' g hi hj hQ=>?_) fun v h2 tk hv k2=>?_
 ·obtain ⟨ki,e1,a1,_⟩:=kat i vi hi;obtain ⟨kj,e2,a2,_⟩:=kat j vj hj;have d1:ks.getD i default=ki:=by rw [YW,e1]; rfl
  have d2:ks.getD j default=kj:=by rw [YW,e2]; rfl
  dsimp only at hQ;rw [d1,d2] at hQ;exact U2 (a1.keep g) (a2.keep g) (by rw [PySem.Around.in1_units]; lia) _ _ _ _ hQ
 ·obtain ⟨k,e1,a1,x,e3,r3⟩:=kat _ v hv;obtain ⟨b1,b2⟩:=GD (fun i j=>Tw (ks.getD i default) (ks.getD j default)) (fun i=>(ks.getD i default).1) (fun _ _=>Su) (fun _ _=>Sv) (Ap.length - 1);refine ⟨x,H,I.kept k2,r3,q x k (Y5 e1) (hk _ x k e3 e1) fun k' OO=>?_⟩;obtain ⟨j,hj,ej⟩:=YQ OO;have:=b2 j (by lia);have d1:ks.getD (argBest (fun i j=>Tw (ks.getD i default) (ks.getD j default)) (Ap.length - 1)) default=k:=by rw [YW,e1]; rfl
  have d2:ks.getD j default=k':=by rw [YW,Y1 hj,ej]; rfl
  rw [d1,d2] at this;exact this
theorem Jc {X:Cx} (hc:X.calm=true) (hu:X.A.units + 64 < cLine):Bl X (.builtin "min") (fun xs H Q=>∃ (x y:V) (p q:Int × Str),xs=[x,y]/\JP H x p/\JP H y q/\((Dr q p->Q y H)/\(Dr p q->Q x H))):=by
 intro pins s σ H xs us Q I r h;obtain ⟨x,y,p,q,rfl,hx,hy,q1,q2⟩:=h;obtain ⟨u,v,rfl,ru,rv⟩:=MB r;have pu:=hx.at I ru;have pv:=hy.at I rv;refine QM (bt:=fun i j=>RB ([p,q].getD i default) ([p,q].getD j default)) (I.ok.hd hc) (fun i j vi vj s' Q' E' g hi hj hQ=>?_) fun z h2 tk hz k2=>?_
 ·have at':∀ (i:Nat) (vi:Value),[u,v][i]? = some vi->D7 s.heap vi ([p,q].getD i default):=fun i vi e=>by
   match i,e with
   | 0,e=>cases e; exact pu
   | 1,e=>cases e; exact pv
   | i + 2,e=>cases e
  exact Nq ((at' i vi hi).keep g) ((at' j vj hj).keep g) (by rw [PySem.Around.in1_units]; lia) _ _ _ _ hQ
 ·have e:argBest (fun i j=>RB ([p,q].getD i default) ([p,q].getD j default)) 1=if RB q p=true then 1 else 0:=rfl
  rw [e] at hz;cases hl:RB q p with
  | true=>
   rw [hl,if_pos rfl] at hz;cases hz
   exact ⟨y,H,I.kept k2,rv,q1 (Nr hl)⟩
  | false=>
   rw [hl,if_neg YI] at hz;cases hz
   exact ⟨x,H,I.kept k2,ru,q2 (Nt hl)⟩
def BV (ws:List AG) (x y:Str) (l:Int):Prop:=∃ u ∈ ws,((u.1=x/\u.2.1=y)\/(u.1=y/\u.2.1=x))/\u.2.2=l
theorem BV.adj {ws:List AG} {x y:Str} {l:Int} (h:BV ws x y l):K3 ws x y:=let ⟨u,hu,e,_⟩:=h; ⟨u,hu,e⟩
theorem BV.symm {ws:List AG} {x y:Str} {l:Int} (h:BV ws x y l):BV ws y x l:=let ⟨u,hu,e,z⟩:=h; ⟨u,hu,e.symm,z⟩
inductive Bj (ws:List AG):Str->Str->Int->Prop
 | nil (x:Str):Bj ws x x 0
 | cons {x y z:Str} {l m:Int}:BV ws x y l->Bj ws y z m->Bj ws x z (l + m)
theorem Bj.app {ws:List AG} {x y z:Str} {m n:Int} (h:Bj ws x y m) (g:Bj ws y z n):Bj ws x z (m + n):=by
 induction h with
 | nil x=>rw [b7]; exact g
 | cons e _ ih=>rw [br]; exact .cons e (ih g)
theorem Bj.snoc {ws:List AG} {x y z:Str} {m l:Int} (h:Bj ws x y m) (e:BV ws y z l):Bj ws x z (m + l):=by
 have:=h.app (.cons e (.nil z));rwa [b8] at this
theorem Bj.symm {ws:List AG} {x y:Str} {m:Int} (h:Bj ws x y m):Bj ws y x m:=by
 induction h with
 | nil x=>exact .nil x
 | @cons x y z l m e _ ih=>rw [Int.add_comm]; exact ih.snoc e.symm
theorem Bj.pos {ws:List AG} (hp:∀ u ∈ ws,1<=u.2.2) {x y:Str} {m:Int} (h:Bj ws x y m):0<=m:=by
 induction h with
 | nil x=>exact Z6 _
 | cons e _ ih=>
  obtain ⟨u,hu,_,rfl⟩:=e;have:=hp u hu;lia
def M8 (ws:List AG) (ss:List Str) (y:Str) (p:Int × Str):Prop:=(p.2 ∈ ss/\Bj ws p.2 y p.1)/\∀ s ∈ ss,∀ m,Bj ws s y m->Dr p (m,s)
structure Tf (ws:List AG) (ss:List Str) (S R:Str->Int × Str->Prop):Prop where
 near:∀ y p,S y p->M8 ws ss y p
 reach:∀ y p,R y p->p.2 ∈ ss/\Bj ws p.2 y p.1
 relax:∀ x p y l,S x p->BV ws x y l->(∃ q,S y q)\/∃ q,R y q/\Dr q (p.1 + l,p.2)
 start:∀ s ∈ ss,(∃ q,S s q)\/∃ q,R s q/\Dr q (0,s)
theorem Tf.out {ws:List AG} {ss:List Str} {S R:Str->Int × Str->Prop} (h:Tf ws ss S R) (hp:∀ u ∈ ws,1<=u.2.2) {x z:Str} {m:Int} (g:Bj ws x z m) (hz:∀ q,¬ S z q):∀ p,S x p->∃ y q,R y q/\Dr q (p.1 + m,p.2):=by
 induction g with
 | nil x=>intro p X3; exact absurd X3 (hz p)
 | @cons x y z l m e g ih=>
  intro p hx;rcases h.relax x p y l hx e with ⟨q,hq⟩ | ⟨q,hq,le⟩
  ·obtain ⟨y',q',h1,h2⟩:=ih hz q hq;refine ⟨y',q',h1,h2.trans ?_⟩;have n1:=(h.near y q hq).2 p.2 (h.near x p hx).1.1 (p.1 + l) ((h.near x p hx).1.2.snoc e);have:=n1.add (l:=m);rw [br] at this;exact this
  ·exact ⟨y,q,hq,le.trans (Dr.up (by have:=g.pos hp; lia))⟩
theorem Tf.pick {ws:List AG} {ss:List Str} {S R:Str->Int × Str->Prop} (h:Tf ws ss S R) (hp:∀ u ∈ ws,1<=u.2.2) {y:Str} {p:Int × Str} (hy:R y p) (ny:∀ q,¬ S y q) (least:∀ z q,R z q->Dr p q):M8 ws ss y p:=by
 refine ⟨h.reach y p hy,fun s hs m g=>?_⟩;rcases h.start s hs with ⟨q,hq⟩ | ⟨q,hq,le⟩
 ·obtain ⟨z,q',h1,h2⟩:=h.out hp g ny q hq;refine (least z q' h1).trans (h2.trans ?_);have n1:=(h.near s q hq).2 s hs 0 (.nil s);have:=(show Dr (q.1,q.2) (0,s) from n1).add (l:=m);rw [b7] at this;exact this
 ·exact (least s q hq).trans (le.trans (Dr.up (g.pos hp)))
theorem Tf.done {ws:List AG} {ss:List Str} {S R:Str->Int × Str->Prop} (h:Tf ws ss S R) (hR:∀ y p,¬ R y p) {r:Str} (hss:ss ≠ []) {ps:List Str} (con:∀ T:Str->Prop,T r->(∀ x y,K3 ws x y->T x->T y)->∀ x ∈ ps,T x)
  (Yv:∀ T:Str->Prop,∀ x ∈ ps,T x->(∀ x y,K3 ws x y->T x->T y)->T r) (sub:∀ s ∈ ss,s ∈ ps):∀ x ∈ ps,∃ q,S x q:=by
 have cl:∀ x y,K3 ws x y->(∃ q,S x q)->∃ q,S y q:=fun x y ⟨u,hu,e⟩ ⟨q,hq⟩=>by
  rcases h.relax x q y u.2.2 hq ⟨u,hu,e,rfl⟩ with z | ⟨q',hq',_⟩
  ·exact z
  ·exact absurd hq' (hR _ _)
 obtain ⟨s,hs⟩:=List.exists_mem_of_ne_nil ss hss;have s0:∃ q,S s q:=by
  rcases h.start s hs with z | ⟨q,hq,_⟩
  ·exact z
  ·exact absurd hq (hR _ _)
 exact con (fun x=>∃ q,S x q) (Yv (fun x=>∃ q,S x q) s (sub s hs) s0 cl) cl
theorem Ke {a b:List (Str × V)} (h:sK a=sK b):a=b:=by
 unfold sK at h;exact cB (fun x y z=>by
  simp only [Prod.mk.injEq,Sum.inr.injEq] at z;exact Prod.ext z.1 z.2) |>.mp h
theorem Hk {nv DE:List (Str × V)} {y:Str} {v:V} (e:Br (sK nv) (Sum.inr y:A6) v=sK DE):∀ z x,(z,x) ∈ DE ↔ (z=y/\x=v)\/(z ≠ y/\(z,x) ∈ nv):=by
 intro z x;by_cases h:y ∈ nv.map (·.1)
 ·have e2:Br (sK nv) (Sum.inr y:A6) v=sK (nv.map fun q=>if q.1=y then (q.1,v) else q):=by
   unfold Br;have:((sK nv).any fun kv=>decide (kv.1=(Sum.inr y:A6)))=true:=by rw [Cg,G2,decide_eq_true h]
   rw [if_pos this];unfold sK;rw [Zb,Zb];refine ZS fun q _=>?_
   by_cases e:q.1=y
   ·simp [e]
   ·have e':¬ (Sum.inr q.1:A6)=Sum.inr y:=fun z=>e (Sum.inr.inj z)
    simp [e,e']
  rw [e2] at e;rw [<-Ke e,YA];constructor
  ·rintro ⟨q,hq,e⟩;by_cases eq:q.1=y
   ·rw [if_pos eq] at e;have e1:q.1=z:=congrArg Prod.fst e;have e3:v=x:=congrArg Prod.snd e;exact .inl ⟨by rw [<-e1,eq],e3.symm⟩
   ·rw [if_neg eq] at e;refine .inr ⟨?_,by rw [<-e]; exact hq⟩;rw [show z=q.1 from (congrArg Prod.fst e).symm]; exact eq
  ·rintro (⟨rfl,rfl⟩ | ⟨h1,h2⟩)
   ·obtain ⟨q,hq,e1⟩:=YA.mp h;have UQ:q.1=z:=e1;exact ⟨q,hq,by rw [if_pos UQ,UQ]⟩
   ·exact ⟨(z,x),h2,by rw [if_neg h1]⟩
 ·rw [Dv h] at e;rw [<-Ke e,YR];constructor
  ·rintro (h1 | h1)
   ·refine .inr ⟨?_,h1⟩;rintro rfl;exact h (YA.mpr ⟨_,h1,rfl⟩)
   ·simp only [YJ,Prod.mk.injEq] at h1;exact .inl h1
  ·rintro (⟨rfl,rfl⟩ | ⟨_,h2⟩)
   ·exact .inr (by simp)
   ·exact .inl h2
theorem RV (nv:List (Str × V)) (y:Str):Iu (sK nv) (Sum.inr y:A6)=sK (nv.filter fun q=>decide (q.1 ≠ y)):=by
 unfold Iu sK;rw [List.filter_map];congr 1;refine List.filter_congr fun q _=>?_
 by_cases e:q.1=y
 ·simp [e]
 ·have e':¬ (Sum.inr q.1:A6)=Sum.inr y:=fun z=>e (Sum.inr.inj z)
  simp [e,e']
def RD (H:Hp) (ps:List Str) (ds:List Addr) (Ed:Str->Str->Int->Prop):Prop:=∀ (i:Nat) (p:Str) (d:Addr) (nv:List (Str × V)),ps[i]? = some p->ds[i]? = some d->Rd H d (.dK (sK nv))->∀ y v,(y,v) ∈ nv->∃ l,v=.int l/\Ed p y l
theorem Rd.inj {H:Hp} {d:Addr} {a b:List (Str × V)} (h:Rd H d (.dK (sK a))) (g:Rd H d (.dK (sK b))):a=b:=by
 rcases h with h | ⟨o,h⟩ <;> rcases g with g | ⟨o',g⟩ <;> have e:=YM.inj (h.symm.trans g)
 ·injection e with e; exact Ke e
 ·exact nomatch e
 ·exact nomatch e
 ·injection e with _ e;injection e with e; exact Ke e
theorem RD.put {H:Hp} {ps:List Str} {ds:List Addr} {Ed Ed':Str->Str->Int->Prop} (h:RD H ps ds Ed) (hn:ps.Nodup) (dn:ds.Nodup) {i:Nat} {p y:Str} {d:Addr} {l:Int} (e1:ps[i]? = some p) (e2:ds[i]? = some d) {nv DE:List (Str × V)} (hd:H d=some (.dK (sK nv)))
  (ep:Br (sK nv) (Sum.inr y:A6) (.int l)=sK DE) (mono:∀ a b m,Ed a b m->Ed' a b m) (new:Ed' p y l):RD (upd H d (.dK (sK DE))) ps ds Ed':=by
 intro j q c nw f1 f2 hr z v hz;by_cases hc:c=d
 ·subst hc;have ij:i=j:=FH dn e2 f2;subst ij;rw [e1] at f1; cases f1;have:nw=DE:=Rd.inj hr (.inl Ab);subst this;rcases (Hk ep z v).mp hz with ⟨rfl,rfl⟩ | ⟨_,Pp⟩
  ·exact ⟨l,rfl,new⟩
  ·obtain ⟨l',e,ed⟩:=h i _ c nv e1 e2 (.inl hd) z v Pp;exact ⟨l',e,mono _ _ _ ed⟩
 ·have N2:Rd H c (.dK (sK nw)):=by
   rcases hr with g | ⟨o,g⟩
   ·exact .inl (by rw [Af hc] at g; exact g)
   ·exact .inr ⟨o,by rw [Af hc] at g; exact g⟩
  obtain ⟨l',e,ed⟩:=h j q c nw f1 f2 N2 z v hz;exact ⟨l',e,mono _ _ _ ed⟩
def Qc (K:Y3):Sp:=fun vs H Q _=>∃ (q:Addr) (ps:List Str) (ws:List AG) (r:Str),vs=[.ref q]/\II H q ps ws r /\
 ∀ (H':Hp) (B:Addr) (ds:List Addr),Ar H H'->NB H' B ps ds (K3 ws) 128->RD H' ps ds (BV ws)->H B=none->(∀ d ∈ ds,H d=none)->Q (.ref B) H'
theorem PI.or {X:Cx} {tg l:Expr} {w1 w2:TI} (h1:PI X tg l w1) (h2:PI X tg l w2):PI X tg l (fun σ H R=>w1 σ H R\/w2 σ H R):=by
 intro pins s σ H R I h;rcases h with h | h
 ·exact h1 (pins:=pins) s σ H R I h
 ·exact h2 (pins:=pins) s σ H R I h
def M4 (H:Hp) (nv:List (Str × V)) (S:Str->Int × Str->Prop):Prop:=(nv.map (·.1)).Nodup/\(∀ y v,(y,v) ∈ nv->∃ p,JP H v p/\S y p)/\∀ y p,S y p->∃ v,(y,v) ∈ nv/\JP H v p
def Qb (K:Y3):Sp:=fun vs H Q _=>∃ (q st:Addr) (ps ss:List Str) (ws:List AG) (r:Str),vs=[.ref q,.ref st]/\II H q ps ws r/\(∀ u ∈ ws,1<=u.2.2)/\(∀ x y l l',BV ws x y l->BV ws x y l'->l=l')/\(H st=some (.lst (ss.map V.str))\/H st=some (.tup (ss.map V.str)))/\ss ≠ []/\ss.Nodup/\(∀ s ∈ ss,s ∈ ps) /\
 ∀ (H':Hp) (B:Addr) (nv:List (Str × V)),Ar H H'->H B=none->H' B=some (.dK (sK nv))->(nv.map (·.1)).Nodup->(∀ x,x ∈ nv.map (·.1) ↔ x ∈ ps)->(∀ y v,(y,v) ∈ nv->∃ p,JP H' v p/\M8 ws ss y p)->Q (.ref B) H'
theorem Jv {nv:List (Str × V)} {y:Str} {v:V} (h:Bc (sK nv) (Sum.inr y:A6)=some v):(y,v) ∈ nv:=by
 unfold Bc at h;cases e:(sK nv).find? (fun kv=>decide (kv.1=(Sum.inr y:A6))) with
 | none=>rw [e] at h; cases h
 | some kv=>
  rw [e] at h;have h1:=List.find?_some e;have h2:=List.mem_of_find?_eq_some e;obtain ⟨q,hq,rfl⟩:=YA.mp h2;have e1:q.1=y:=by
   have:(Sum.inr q.1:A6)=Sum.inr y:=by simpa using h1
   exact Sum.inr.inj this
  have e2:q.2=v:=YM.inj h;rw [<-e1,<-e2];exact hq
theorem OZ {ws:List AG} {i:Nat} {a b:Str} {m:Int} (h:BV (ws.take i) a b m):BV (ws.take (i + 1)) a b m:=by
 obtain ⟨u,hu,e⟩:=h;rw [YS];exact ⟨u,Z1 _ hu,e⟩
theorem L3 {ws:List AG} {i:Nat} {u:AG} (h:ws[i]? = some u):BV (ws.take (i + 1)) u.1 u.2.1 u.2.2:=by
 rw [YS,h];exact ⟨u,YH _ (by simp),.inl ⟨rfl,rfl⟩,rfl⟩
theorem JP.fn {H:Hp} {v:V} {p q:Int × Str} (h:JP H v p) (g:JP H v q):p=q:=by
 obtain ⟨t,rfl,e⟩:=h;obtain ⟨t',e',g⟩:=g;have:t=t':=by injection e'
 subst this;have z:=YM.inj (e.symm.trans g);injection z with z;simp only [af.injEq,V.int.injEq,V.str.injEq] at z;exact Prod.ext z.1 z.2.1
theorem NR.same {H H':Hp} {B:Addr} {ps:List Str} {ds:List Addr} {P:Str->Str->Prop} (h:NR H B ps ds P) (s:Ar H H'):NR H' B ps ds P:=
 ⟨s _ _ h.top,h.len,h.nd,h.nB,fun i p d e1 e2=>let ⟨nv,a1,a3⟩:=h.inner i p d e1 e2
  ⟨nv,(by rcases a1 with a | ⟨o,a⟩; exact .inl (s _ _ a); exact .inr ⟨o,s _ _ a⟩),a3⟩⟩
theorem RD.of {H H':Hp} {B:Addr} {ps:List Str} {ds:List Addr} {P:Str->Str->Prop} {Ed:Str->Str->Int->Prop} (h:RD H ps ds Ed) (nr:NR H B ps ds P) (k:∀ d ∈ ds,∀ nv:List (Str × V),Rd H d (.dK (sK nv))->Rd H' d (.dK (sK nv))):RD H' ps ds Ed:=by
 intro i p d nv e1 e2 hr y v hy;obtain ⟨nw,a1,_⟩:=nr.inner i p d e1 e2;have:=Rd.inj hr (k d (Y5 e2) nw a1);subst this;exact h i p d nv e1 e2 a1 y v hy
theorem M4.same {H H':Hp} {nv:List (Str × V)} {S:Str->Int × Str->Prop} (h:M4 H nv S) (s:∀ b xs,H b=some (.tup xs)->H' b=some (.tup xs)):M4 H' nv S:=
 ⟨h.1,fun y v hv=>let ⟨p,a,b⟩:=h.2.1 y v hv; ⟨p,a.same s,b⟩,fun y p hp=>let ⟨v,a,b⟩:=h.2.2 y p hp; ⟨v,a,b.same s⟩⟩
theorem M4.fn {H:Hp} {nv:List (Str × V)} {S:Str->Int × Str->Prop} (h:M4 H nv S) {y:Str} {p q:Int × Str} (hp:S y p) (hq:S y q):p=q:=by
 obtain ⟨v,a,b⟩:=h.2.2 y p hp;obtain ⟨w,c,d⟩:=h.2.2 y q hq;have:=PF h.1 a c;subst this;exact b.fn d
theorem M4.put {H:Hp} {nv DE:List (Str × V)} {S:Str->Int × Str->Prop} {y:Str} {v:V} {p:Int × Str} (h:M4 H nv S) (e:Br (sK nv) (Sum.inr y:A6) v=sK DE) (hv:JP H v p):M4 H DE (fun z q=>(z=y/\q=p)\/(z ≠ y/\S z q)):=by
 refine ⟨RU e h.1,fun z x hz=>?_,fun z q hq=>?_⟩
 ·rcases (Hk e z x).mp hz with ⟨rfl,rfl⟩ | ⟨n,Pp⟩
  ·exact ⟨p,hv,.inl ⟨rfl,rfl⟩⟩
  ·obtain ⟨q,a,b⟩:=h.2.1 z x Pp;exact ⟨q,a,.inr ⟨n,b⟩⟩
 ·rcases hq with ⟨rfl,rfl⟩ | ⟨n,hq⟩
  ·exact ⟨v,(Hk e _ _).mpr (.inl ⟨rfl,rfl⟩),hv⟩
  ·obtain ⟨x,a,b⟩:=h.2.2 z q hq;exact ⟨x,(Hk e _ _).mpr (.inr ⟨n,a⟩),b⟩
theorem M4.drop {H:Hp} {nv:List (Str × V)} {S:Str->Int × Str->Prop} (h:M4 H nv S) (y:Str):M4 H (nv.filter fun q=>decide (q.1 ≠ y)) (fun z q=>z ≠ y/\S z q):=by
 refine ⟨Gh h.1 _,fun z x hz=>?_,fun z q hq=>?_⟩
 ·obtain ⟨a,b⟩:=Zh.mp hz;obtain ⟨q,c,d⟩:=h.2.1 z x a;exact ⟨q,c,by simpa using b,d⟩
 ·obtain ⟨n,hq⟩:=hq;obtain ⟨x,a,b⟩:=h.2.2 z q hq;exact ⟨x,Zh.mpr ⟨a,by simpa using n⟩,b⟩
structure NI (H H2:Hp) (ps:List Str) (ws:List AG) (B RA SA:Addr) (ds:List Addr) (nvR nvS:List (Str × V)) (S R:Str->Int × Str->Prop):Prop where
 same:Ar H H2
 nr:NR H2 B ps ds (K3 ws)
 nbv:RD H2 ps ds (BV ws)
 dR:H2 RA=some (.dK (sK nvR))
 dS:H2 SA=some (.dK (sK nvS))
 pR:M4 H2 nvR R
 pS:M4 H2 nvS S
 subR:∀ y ∈ nvR.map (·.1),y ∈ ps
 subS:∀ y ∈ nvS.map (·.1),y ∈ ps
section
variable {H H2 H3:Hp} {ps:List Str} {ws:List AG} {B RA SA:Addr} {ds:List Addr} {nvR nvS:List (Str × V)} {S R:Str->Int × Str->Prop}
theorem NI.grow (h:NI H H2 ps ws B RA SA ds nvR nvS S R) (s:Ar H2 H3):NI H H3 ps ws B RA SA ds nvR nvS S R:=
 ⟨h.same.trans s,h.nr.same s,h.nbv.of h.nr fun d _ nv z=>by rcases z with a | ⟨o,a⟩; exact .inl (s _ _ a); exact .inr ⟨o,s _ _ a⟩,s _ _ h.dR,s _ _ h.dS,h.pR.same fun b xs z=>s _ _ z,h.pS.same fun b xs z=>s _ _ z,h.subR,h.subS⟩
theorem NI.lenS (h:NI H H2 ps ws B RA SA ds nvR nvS S R):nvS.length<=ps.length:=by
 have:=Cj h.pS.1 h.subS;rwa [Y0] at this
theorem NI.lenR (h:NI H H2 ps ws B RA SA ds nvR nvS S R):nvR.length<=ps.length:=by
 have:=Cj h.pR.1 h.subR;rwa [Y0] at this
theorem NI.inS (h:NI H H2 ps ws B RA SA ds nvR nvS S R) {y:Str}:y ∈ nvS.map (·.1) ↔ ∃ q,S y q:=by
 constructor
 ·intro hy;obtain ⟨⟨z,v⟩,a,b⟩:=YA.mp hy;have b':z=y:=b;subst b';obtain ⟨p,_,c⟩:=h.pS.2.1 z v a;exact ⟨p,c⟩
 ·rintro ⟨q,hq⟩;obtain ⟨v,a,_⟩:=h.pS.2.2 y q hq;exact YA.mpr ⟨_,a,rfl⟩
theorem NI.inR (h:NI H H2 ps ws B RA SA ds nvR nvS S R) {y:Str}:y ∈ nvR.map (·.1) ↔ ∃ q,R y q:=by
 constructor
 ·intro hy;obtain ⟨⟨z,v⟩,a,b⟩:=YA.mp hy;have b':z=y:=b;subst b';obtain ⟨p,_,c⟩:=h.pR.2.1 z v a;exact ⟨p,c⟩
 ·rintro ⟨q,hq⟩;obtain ⟨v,a,_⟩:=h.pR.2.2 y q hq;exact YA.mpr ⟨_,a,rfl⟩
theorem NI.setR (h:NI H H2 ps ws B RA SA ds nvR nvS S R) (aR:RA ∉ ds/\RA ≠ B/\RA ≠ SA/\H RA=none) {DE:List (Str × V)} {R':Str->Int × Str->Prop} (p':M4 H2 DE R') (sub:∀ y ∈ DE.map (·.1),y ∈ ps):NI H (upd H2 RA (.dK (sK DE))) ps ws B RA SA ds DE nvS S R':=by
 have tu:∀ b xs,H2 b=some (.tup xs)->(upd H2 RA (.dK (sK DE))) b=some (.tup xs):=fun b xs z=>by
  rw [Af (BE z h.dR (by intro z; cases z))]; exact z
 exact ⟨fun b o z=>by rw [Af (Ah z aR.2.2.2)]; exact h.same _ _ z,h.nr.other aR.1 aR.2.1,h.nbv.of h.nr fun d hd nv z=>z.ne (fun e=>aR.1 (by rw [<-e]; exact hd)),Ab,by rw [Af (Ne.symm aR.2.2.1)]; exact h.dS,p'.same tu,h.pS.same tu,sub,h.subS⟩
theorem NI.setS (h:NI H H2 ps ws B RA SA ds nvR nvS S R) (aS:SA ∉ ds/\SA ≠ B/\SA ≠ RA/\H SA=none) {DE:List (Str × V)} {S':Str->Int × Str->Prop} (p':M4 H2 DE S') (sub:∀ y ∈ DE.map (·.1),y ∈ ps):NI H (upd H2 SA (.dK (sK DE))) ps ws B RA SA ds nvR DE S' R:=by
 have tu:∀ b xs,H2 b=some (.tup xs)->(upd H2 SA (.dK (sK DE))) b=some (.tup xs):=fun b xs z=>by
  rw [Af (BE z h.dS (by intro z; cases z))]; exact z
 exact ⟨fun b o z=>by rw [Af (Ah z aS.2.2.2)]; exact h.same _ _ z,h.nr.other aS.1 aS.2.1,h.nbv.of h.nr fun d hd nv z=>z.ne (fun e=>aS.1 (by rw [<-e]; exact hd)),by rw [Af (Ne.symm aS.2.2.1)]; exact h.dR,Ab,h.pR.same tu,p'.same tu,h.subR,sub⟩
theorem NI.frz (h:NI H H2 ps ws B RA SA ds nvR nvS S R) (aR:RA ∉ ds) (aS:SA ∉ ds) (fr:∀ d ∈ ds,H d=none) {i:Nat} {p:Str} {d:Addr} (e1:ps[i]? = some p) (e2:ds[i]? = some d) {nv:List (Str × V)} {o:Obj} (f:Ef H2 d (sK nv) o H3) (hP:∀ y,y ∈ nv.map (·.1) ↔ K3 ws p y):NI H H3 ps ws B RA SA ds nvR nvS S R:=by
 have dm:d ∈ ds:=Y5 e2;have tu:∀ b xs,H2 b=some (.tup xs)->H3 b=some (.tup xs):=fun b xs z=>by
  rw [f.ne (by
   rintro rfl;rcases f with ⟨g,_⟩ | ⟨g,_⟩ <;> (rw [z] at g; cases g))]
  exact z
 refine ⟨fun b u z=>by rw [f.ne (Ah z (fr d dm))]; exact h.same _ _ z,h.nr.freeze e1 e2 f hP,h.nbv.of h.nr fun c hc nw z=>?_,by rw [f.ne (fun z=>aR (by rw [z]; exact dm))]; exact h.dR,by rw [f.ne (fun z=>aS (by rw [z]; exact dm))]; exact h.dS,h.pR.same tu,h.pS.same tu,h.subR,h.subS⟩;by_cases hcd:c=d
 ·subst hcd;rcases f with ⟨g,e⟩ | ⟨g,e⟩
  ·have:=Rd.inj z (.inl g);subst this;exact .inr ⟨o,by rw [e]; exact Ab⟩
  ·rw [e]; exact z
 ·exact z.fz f hcd
end
theorem E4:entryFor table "dict.update.loop"=some Builtin.«dict.update.loop»:=entryFor_of_tree (by kernel_rfl)
theorem Cy:plainId "dict.update.loop"=true:=by decide +kernel
def TF (g0:Heap) (v:Value) (p:Str × V):Prop:=∃ a t u,v=.ref a/\IsTup g0 a #[.str p.1 t,u]/\A3 p.2 u
section
variable {prog:Program} {w:World} {A:Around} {R:Result->Shared->Prop} {g0:Heap} {D it l:Addr} {vs:List Value} {ps:List (Str × V)}
end
section
variable {prog:Program} {w:World} {A:Around} {E:Value->Shared->Prop} {s:Shared}
end
theorem Lo:∀ (b a:List (Str × V)),((a ++ b).map (·.1)).Nodup->HU (sK a) (sK b)=sK (a ++ b)
 | [],a,_=>by rw [Zq]; rfl
 | q :: b,a,hn=>by
  have nq:q.1 ∉ a.map (·.1):=by
   rw [YE,YK] at hn;intro hm;exact (Zr.mp hn).2.2 q.1 hm q.1 YO rfl
  show HU (Br (sK a) (Sum.inr q.1) q.2) (sK b)=_
  rw [Dv nq];have:=Lo b (a ++ [(q.1,q.2)]) (by rw [Zw]; exact hn);rw [this,Zw];rfl
theorem Qr:∀ {ws:List AG},(ws.Pairwise fun u v=>¬ DM u v)->∀ {u v:AG},u ∈ ws->v ∈ ws->DM u v->u=v
 | [],_,u,v,hu,_,_=>nomatch hu
 | a :: ws,h,u,v,hu,hv,al=>by
  obtain ⟨h1,h2⟩:=Zs.mp h;rcases Y4.mp hu with e1 | W3
  ·rcases Y4.mp hv with e2 | Xz
   ·rw [e1,e2]
   ·exact absurd (by rw [<-e1]; exact al) (h1 v Xz)
  ·rcases Y4.mp hv with e2 | Xz
   ·refine absurd ?_ (h1 u W3);rw [<-e2];rcases al with ⟨a1,a2⟩ | ⟨a1,a2⟩
    ·exact .inl ⟨a1.symm,a2.symm⟩
    ·exact .inr ⟨a2.symm,a1.symm⟩
   ·exact Qr h2 W3 Xz al
theorem OY {ws:List AG} (h:ws.Pairwise fun u v=>¬ DM u v) {x y:Str} {l l':Int} (e:BV ws x y l) (e':BV ws x y l'):l=l':=by
 obtain ⟨u,hu,a,rfl⟩:=e;obtain ⟨v,hv,b,rfl⟩:=e';have:u=v:=Qr h hu hv (by
  rcases a with ⟨a1,a2⟩ | ⟨a1,a2⟩ <;> rcases b with ⟨b1,b2⟩ | ⟨b1,b2⟩
  ·exact .inl ⟨a1.trans b1.symm,a2.trans b2.symm⟩
  ·exact .inr ⟨a1.trans b2.symm,a2.trans b1.symm⟩
  ·exact .inr ⟨a1.trans b2.symm,a2.trans b1.symm⟩
  ·exact .inl ⟨a1.trans b1.symm,a2.trans b2.symm⟩)
 rw [this]
theorem JF {ws PB:List AG} (p:PB.Perm (ws.map Ew)) (x y:Str) (l:Int):BV PB x y l ↔ BV ws x y l:=by
 constructor
 ·rintro ⟨u,hu,h,e⟩;obtain ⟨v,hv,rfl⟩:=YA.mp (p.mem_iff.mp hu);refine ⟨v,hv,?_,e⟩;rcases DF v with ⟨e1,e2⟩ | ⟨e1,e2⟩
  ·rw [e1,e2] at h; exact h
  ·rw [e1,e2] at h;rcases h with ⟨a,b⟩ | ⟨a,b⟩
   ·exact .inr ⟨b,a⟩
   ·exact .inl ⟨b,a⟩
 ·rintro ⟨v,hv,h,e⟩;refine ⟨Ew v,p.mem_iff.mpr (YA.mpr ⟨v,hv,rfl⟩),?_,e⟩;rcases DF v with ⟨e1,e2⟩ | ⟨e1,e2⟩
  ·rw [e1,e2]; exact h
  ·rw [e1,e2];rcases h with ⟨a,b⟩ | ⟨a,b⟩
   ·exact .inr ⟨b,a⟩
   ·exact .inl ⟨b,a⟩
theorem Py {ws PB:List AG} (h:∀ x y l,BV PB x y l ↔ BV ws x y l) {x y:Str} {m:Int}:Bj PB x y m ↔ Bj ws x y m:=by
 constructor
 ·intro g;induction g with
  | nil x=>exact .nil x
  | cons e _ ih=>exact .cons ((h _ _ _).mp e) ih
 ·intro g;induction g with
  | nil x=>exact .nil x
  | cons e _ ih=>exact .cons ((h _ _ _).mpr e) ih
def JR (ws:List AG) (x y:Str) (n:Int):Prop:=Bj ws x y n/\∀ m,Bj ws x y m->n<=m
theorem M8.dst {ws:List AG} {x y:Str} {p:Int × Str} (h:M8 ws [x] y p):p.2=x/\JR ws x y p.1:=by
 have e:p.2=x:=by simpa using h.1.1
 refine ⟨e,by rw [<-e]; exact h.1.2,fun m g=>(h.2 x (by simp) m g).fst⟩
theorem JR.uniq {ws:List AG} {x y:Str} {n m:Int} (h:JR ws x y n) (g:JR ws x y m):n=m:=Int.le_antisymm (h.2 m g.1) (g.2 n h.1)
theorem JR.symm {ws:List AG} {x y:Str} {n:Int} (h:JR ws x y n):JR ws y x n:=⟨h.1.symm,fun m g=>h.2 m g.symm⟩
inductive WI (ws:List AG) (I:Str->Prop):Str->Str->Int->Prop
 | edge {x y:Str} {l:Int}:BV ws x y l->WI ws I x y l
 | cons {x y z:Str} {l m:Int}:BV ws x y l->I y->WI ws I y z m->WI ws I x z (l + m)
theorem WI.pos {ws:List AG} (hp:∀ u ∈ ws,1<=u.2.2) {I:Str->Prop} {x y:Str} {m:Int} (h:WI ws I x y m):0<=m:=by
 induction h with
 | edge e=>obtain ⟨u,hu,_,rfl⟩:=e; have:=hp u hu; lia
 | cons e _ _ ih=>obtain ⟨u,hu,_,rfl⟩:=e; have:=hp u hu; lia
theorem WI.ends {ws:List AG} {xs:List Str} (he:∀ u ∈ ws,u.1 ∈ xs/\u.2.1 ∈ xs) {x y:Str} {l:Int} (e:BV ws x y l):x ∈ xs/\y ∈ xs:=by
 obtain ⟨u,hu,h,_⟩:=e;obtain ⟨a,b⟩:=he u hu;rcases h with ⟨rfl,rfl⟩ | ⟨rfl,rfl⟩
 ·exact ⟨a,b⟩
 ·exact ⟨b,a⟩
theorem WI.split {ws:List AG} (hp:∀ u ∈ ws,1<=u.2.2) {I J:Str->Prop} {k:Str} (hJ:∀ z,J z->I z\/z=k) {x y:Str} {m:Int} (h:WI ws J x y m):WI ws I x y m\/∃ m1 m2,WI ws I x k m1/\WI ws I k y m2/\m1 + m2<=m:=by
 induction h with
 | edge e=>exact .inl (.edge e)
 | @cons x a y l m e ha g ih=>
  by_cases hk:a=k
  ·subst hk;rcases ih with h | ⟨m1,m2,h1,h2,h3⟩
   ·exact .inr ⟨l,m,.edge e,h,Z6 _⟩
   ·have:=h1.pos hp;exact .inr ⟨l,m2,.edge e,h2,by lia⟩
  ·have hI:I a:=(hJ a ha).resolve_right hk;rcases ih with h | ⟨m1,m2,h1,h2,h3⟩
   ·exact .inl (.cons e hI h)
   ·exact .inr ⟨l + m1,m2,.cons e hI h1,h2,by lia⟩
theorem Bj.wi {ws:List AG} {xs:List Str} (he:∀ u ∈ ws,u.1 ∈ xs/\u.2.1 ∈ xs) {x y:Str} {m:Int} (h:Bj ws x y m):(x=y/\m=0)\/WI ws (· ∈ xs) x y m:=by
 induction h with
 | nil x=>exact .inl ⟨rfl,rfl⟩
 | @cons x a y l m e g ih=>
  rcases ih with ⟨rfl,rfl⟩ | h
  ·exact .inr (by rw [b8]; exact .edge e)
  ·exact .inr (.cons e (WI.ends he e).2 h)
structure FW (ws:List AG) (xs:List Str) (t:Nat) (M:Str->Str->Option Int):Prop where
 sound:∀ x y n,M x y=some n->Bj ws x y n
 comp:∀ x y m,WI ws (· ∈ xs.take t) x y m->∃ n,M x y=some n/\n<=m
 diag:∀ x ∈ xs,∃ n,M x x=some n/\n<=0
def FZ (M0 M:Str->Str->Option Int):Prop:=∀ x y n,M0 x y=some n->∃ n',M x y=some n'/\n'<=n
theorem FZ.refl (M:Str->Str->Option Int):FZ M M:=fun _ _ n h=>⟨n,h,Z6 _⟩
theorem FZ.trans {M0 M1 M2:Str->Str->Option Int} (h:FZ M0 M1) (g:FZ M1 M2):FZ M0 M2:=fun x y n e=>by
 obtain ⟨n1,e1,l1⟩:=h x y n e;obtain ⟨n2,e2,l2⟩:=g x y n1 e1;exact ⟨n2,e2,by lia⟩
theorem FW.next {ws:List AG} (hp:∀ u ∈ ws,1<=u.2.2) {xs:List Str} (he:∀ u ∈ ws,u.1 ∈ xs/\u.2.1 ∈ xs) {t:Nat} {k:Str} (hk:xs[t]? = some k) {M0 M:Str->Str->Option Int} (h:FW ws xs t M0) (mo:FZ M0 M) (so:∀ x y n,M x y=some n->Bj ws x y n)
  (via:∀ x ∈ xs,∀ y ∈ xs,∀ n1 n2,M0 x k=some n1->M0 k y=some n2->∃ n,M x y=some n/\n<=n1 + n2):FW ws xs (t + 1) M:=by
 refine ⟨so,fun x y m g=>?_,fun x hx=>?_⟩
 ·have ex:x ∈ xs/\y ∈ xs:=by
   clear mo so via h;induction g with
   | edge e=>exact WI.ends he e
   | cons e _ _ ih=>exact ⟨(WI.ends he e).1,ih.2⟩
  rcases g.split hp (I:=(· ∈ xs.take t)) (k:=k) (fun z hz=>by
   rw [YS,hk] at hz;rcases YR.mp hz with hz | hz
   ·exact .inl hz
   ·exact .inr (by simpa using hz)) with g | ⟨m1,m2,g1,g2,le⟩
  ·obtain ⟨n,e,l⟩:=h.comp x y m g;obtain ⟨n',e',l'⟩:=mo x y n e;exact ⟨n',e',by lia⟩
  ·obtain ⟨n1,e1,l1⟩:=h.comp x k m1 g1;obtain ⟨n2,e2,l2⟩:=h.comp k y m2 g2;obtain ⟨n,e,l⟩:=via x ex.1 y ex.2 n1 n2 e1 e2;exact ⟨n,e,by lia⟩
 ·obtain ⟨n,e,l⟩:=h.diag x hx;obtain ⟨n',e',l'⟩:=mo x x n e;exact ⟨n',e',by lia⟩
def MD (H:Hp) (A:Addr) (M:Str->Str->Option Int) (c:Nat):Prop:=∃ kvs:List (List A6 × V),H A=some (.dT kvs)/\kvs.length<=c/\∀ x y,Bc kvs [Sum.inr x,Sum.inr y]=(M x y).map V.int
theorem MD.same {H H':Hp} {A:Addr} {M:Str->Str->Option Int} {c:Nat} (h:MD H A M c) (s:Ar H H'):MD H' A M c:=let ⟨kvs,a,b,d⟩:=h; ⟨kvs,s _ _ a,b,d⟩
theorem MD.get {H:Hp} {A t:Addr} {M:Str->Str->Option Int} {c:Nat} (h:MD H A M c) {x y:Str} (ht:H t=some (.tup [.str x,.str y])):BN H A (.ref t) ((M x y).map V.int):=by
 obtain ⟨kvs,a,_,d⟩:=h;rw [<-d x y];exact BN.t (k:=[Sum.inr x,Sum.inr y]) a ht
def Ka (M:Str->Str->Option Int) (x y:Str) (n:Int):Str->Str->Option Int:=fun a b=>if a=x/\b=y then some n else M a b
def Qg (K:Y3):Sp:=fun vs H Q _=>∃ (q:Addr) (ps:List Str) (ws:List AG) (r x:Str),vs=[.ref q,.str x]/\II H q ps ws r/\(∀ u ∈ ws,1<=u.2.2)/\(∀ x y l l',BV ws x y l->BV ws x y l'->l=l')/\x ∈ ps /\
 ∀ (H':Hp) (B:Addr) (nv:List (Str × V)),Ar H H'->H B=none->H' B=some (.dK (sK nv))->nv.map (·.1)=ps->(∀ y v,(y,v) ∈ nv->∃ n,v=.int n/\JR ws x y n)->Q (.ref B) H'
end L2
namespace L2
open PySem PySem.Spec PySem.W PyProof.Rows
theorem GG (f:Nat->Int):∀ k,argBest (fun i j=>decide (f i > f j)) k<=k/\∀ j,j<=k->f j<=f (argBest (fun i j=>decide (f i > f j)) k)
 | 0=>⟨Y7 _,fun j hj=>by
  have:j=0:=by lia
  subst this;exact Z6 _⟩
 | k + 1=>by
  obtain ⟨h1,h2⟩:=GG f k;simp only [argBest];by_cases hc:f (k + 1) > f (argBest (fun i j=>decide (f i > f j)) k)
  ·rw [if_pos (by simpa using hc)];refine ⟨Y7 _,fun j hj=>?_⟩;by_cases IZ:j<=k
   ·have:=h2 j IZ;lia
   ·have:j=k + 1:=by lia
    subst this;exact Z6 _
  ·rw [if_neg (by simpa using hc)];refine ⟨aD h1,fun j hj=>?_⟩;by_cases IZ:j<=k
   ·exact h2 j IZ
   ·have:j=k + 1:=by lia
    subst this;lia
theorem DY:∀ {ns:List Int} {us:List Value},A4 (ns.map V.int) us->∀ (i:Nat) (v:Value),us[i]? = some v->∃ n t,ns[i]? = some n/\v=Value.int n t
 | [],_,.nil,i,v,e=>by simp at e
 | n :: ns,_,.cons r1 r2,0,v,e=>by
  obtain ⟨t,rfl⟩:=r1;simp only [Zz,YM.injEq] at e;exact ⟨n,t,rfl,e.symm⟩
 | n :: ns,_,.cons r1 r2,i + 1,v,e=>by simpa using DY r2 i v (by simpa using e)
theorem Rn {prog:Program} {w:World} {A:Around} {us:List Value} {ns:List Int} (rv:A4 (ns.map V.int) us):CmpOf prog w A .Gt (fun i v=>us.toArray[i]? = some v) (fun i j=>decide (ns.getD i 0 > ns.getD j 0)):=by
 intro i j vi vj s Q E hi hj hQ;obtain ⟨x,t,e1,rfl⟩:=DY rv i vi (by simpa using hi);obtain ⟨y,u,e2,rfl⟩:=DY rv j vj (by simpa using hj);dsimp only at hQ;rw [YW,YW,e1,e2] at hQ;exact PyProof.Rows.gt_int hQ
theorem Jd {X:Cx} (hc:X.calm=true):Bl X (.builtin "max") (fun xs H Q=>∃ (a:Addr) (ns:List Int),xs=[.ref a]/\AB X.K H a (ns.map V.int)/\ns ≠ [] /\
  ∀ m,m ∈ ns->(∀ x ∈ ns,x<=m)->Q (.int m) H):=by
 intro pins s σ H xs us Q I r h;obtain ⟨a,ns,rfl,ha,hne,q⟩:=h;obtain ⟨u,rfl,ru⟩:=BO r;cases ru
 obtain ⟨Ap,rv,pl,hz⟩:=I.list ha;have hl:Ap.length=ns.length:=by rw [<-rv.length,Y0]
 have hpos:0 < ns.length:=ZF.mpr hne;refine call_max_walk (wpAny_pyIter_list pl.isList ?_);have hai:a < s.heap.objs.size:=by obtain ⟨o,ho,_⟩:=pl.isList; exact YC ho
 refine ⟨_,[s.heap.objs.size,a],[s.heap.objs.size],_,_,_,_,rfl,Walks.list (A:=X.A.in1) (I.ok.hd hc) _ a (YF hai) Ap.toArray,⟨⟨_,YD _ rfl,rfl,rfl⟩,pl.isList.push _⟩,fun c hc=>?_,by simpa [hl] using hpos,Rn rv,fun v h' tk hP hk=>?_⟩
 ·show c < (s.heap.push _).objs.size
  rw [Zk];rcases Y4.mp hc with rfl | hc
  ·exact YZ _
  ·rcases Y4.mp hc with rfl | hc
   ·exact YV hai
   ·cases hc
 ·have hold:∀ c o,s.heap.get? c=some o->h'.get? c=some o:=fun c o e=>by
   refine hk c o (fun hm=>?_) (Y2 _ e);rcases Y4.mp hm with e1 | hm
   ·have:=YC e; rw [e1] at this; exact Zp _ this
   ·cases hm
  have hP':Ap[argBest (fun i j=>decide (ns.getD i 0 > ns.getD j 0)) (Ap.toArray.size - 1)]? = some v:=by rw [<-List.getElem?_toArray]; exact hP
  obtain ⟨x,t,e1,rfl⟩:=DY rv _ v hP';obtain ⟨b1,b2⟩:=GG (fun i=>ns.getD i 0) (Ap.toArray.size - 1);refine ⟨.int x,H,I.kept hold,⟨t,rfl⟩,q x (Y5 e1) fun y hy=>?_⟩;obtain ⟨j,hj,rfl⟩:=YQ hy;have:=b2 j (by simp only [YN]; lia);have e2:ns.getD j 0=ns[j]:=by simp [hj]
  have e3:ns.getD (argBest (fun i j=>decide (ns.getD i 0 > ns.getD j 0)) (Ap.toArray.size - 1)) 0=x:=by
   rw [YW,e1]; rfl
  rw [e2,e3] at this;exact this
end L2
namespace L2
open PySem PySem.Spec PyProof.Rows
theorem Ej {α:Type}:∀ {ys:List α} {k:Nat} {y:α},ys[k]? = some y->(y :: ys.eraseIdx k).Perm ys
 | [],k,y,e=>by simp at e
 | x :: ys,0,y,e=>by
  simp at e;subst e;exact List.Perm.refl _
 | x :: ys,k + 1,y,e=>by
  simp at e;exact (List.Perm.swap x y _).trans ((Ej e).cons x)
theorem J6 {α β:Type} (f:α->β):∀ (ys:List α) (k:Nat),(ys.map f).eraseIdx k=(ys.eraseIdx k).map f
 | [],k=>by simp
 | x :: ys,0=>rfl
 | x :: ys,k + 1=>by
  show f x :: (ys.map f).eraseIdx k=f x :: (ys.eraseIdx k).map f
  rw [J6 f ys k]
theorem KC:∀ {ss:List Str} {us:List Value},A4 (ss.map V.str) us->StrsAre us ss
 | [],_,.nil=>.nil
 | _ :: _,_,.cons r q=>by
  obtain ⟨t,rfl⟩:=r;exact .cons _ t (KC q)
theorem Sr {X:Cx}:MtM X "str.join" (fun x vs H Q=>∃ (z:Str) (a:Addr) (ss:List Str),x=.str z/\vs=[.ref a]/\H a=some (.lst (ss.map V.str))/\z.length<=16/\(ss.map (·.length)).sum + ss.length<=1048576/\Q (.str (Txt.join z ss)) H):=by
 intro pins s σ H x vs v us Q I rx rv h;obtain ⟨z,a,ss,rfl,rfl,hH,hz,hw,q⟩:=h;obtain ⟨t,rfl⟩:=rx;obtain ⟨u,rfl,ru⟩:=rv.one;cases ru
 obtain ⟨_,Ap,n,r,_,e⟩:=I.lstM hH;refine join_listW (ys:=ss) ⟨_,e,rfl,n,rfl⟩ (by rw [List.toList_toArray]; exact KC r) hz hw fun t' k=>?_
 exact ⟨.str (Txt.join z ss),H,I.tok k,⟨t',rfl⟩,q⟩
theorem Ls (ss:List Str):(Txt.join (Str.ofString "") ss).cps.toList=(ss.map fun s=>s.cps.toList).flatten:=by
 unfold Txt.join;rw [PySem.StrLaws.glued_eq_join];induction ss with
 | nil=>rfl
 | cons x r ih=>
  cases r with
  | nil=>
   show x.cps.toList=_
   simp
  | cons y r=>
   have e:Str.join (Str.ofString "") (x :: y :: r)=x ++ Str.ofString "" ++ Str.join (Str.ofString "") (y :: r):=rfl;rw [e,YK,cI,<-ih];show ((x.cps ++ #[]) ++ (Str.join (Str.ofString "") (y :: r)).cps).toList=_
   simp
theorem QR {ss:List Str} (h:∀ s ∈ ss,s.length=1/\Tc s):Tc (Txt.join (Str.ofString "") ss)/\(Txt.join (Str.ofString "") ss).length=ss.length/\(ss.map (·.length)).sum=ss.length:=by
 have e:∀ l:List Str,(∀ s ∈ l,s.length=1/\Tc s)->((l.map fun s=>s.cps.toList).flatten).length=l.length/\(l.map (·.length)).sum=l.length:=by
  intro l;induction l with
  | nil=>intro _; exact ⟨rfl,rfl⟩
  | cons x r ih=>
   intro h;obtain ⟨i1,i2⟩:=ih fun s hs=>h s (YT _ hs)
   have hx:x.cps.size=1:=(h x (YO ..)).1;constructor
   ·rw [YK,cI,Y6,i1,YY,hx,YX];lia
   ·rw [YK,aE,i2,YX];show x.cps.size + r.length=r.length + 1
    lia
 refine ⟨fun c hc=>?_,?_,(e ss h).2⟩
 ·rw [Ls] at hc;obtain ⟨l,hl,hcl⟩:=List.mem_flatten.mp hc;obtain ⟨s,hs,rfl⟩:=YA.mp hl;exact (h s hs).2 c hcl
 ·show (Txt.join (Str.ofString "") ss).cps.size=_
  rw [<-YY,Ls];exact (e ss h).1
theorem Lj {xs:List Str} {hd:List Nat} {f:Nat->List Nat} (h:∀ i x,xs[i]? = some x->∃ tl,x.cps.toList=hd ++ (f i ++ tl)) (hf:∀ i j,i < j->j < xs.length->∀ tl TV,f i ++ tl ≠ f j ++ TV):xs.Nodup:=by
 refine Zy.mpr fun i j hi hj hij e=>?_
 obtain ⟨tl,h1⟩:=h i _ (Y1 hi);obtain ⟨TV,h2⟩:=h j _ (Y1 hj);rw [e,h2] at h1;exact hf i j hij hj tl TV (List.append_cancel_left h1).symm
def O4 (n:Nat) (st sp:Int) (k:Nat):List Nat:=if 26 < n then [97 + ((st + sp * k) % 26).toNat,97 + k / 26] else [97 + ((st + sp * k) % 26).toNat]
theorem Uu {n:Nat} {st sp:Int} (hn:n<=52) (hs:sp ∈ ([1,3,5,7,9,11,15,17]:List Int)) {i j:Nat} (hij:i < j) (hj:j < n) (tl TV:List Nat):O4 n st sp i ++ tl ≠ O4 n st sp j ++ TV:=by
 have key:((st + sp * i) % 26).toNat=((st + sp * j) % 26).toNat->(j - i) % 26=0:=by
  intro e;have e2:(st + sp * i) % 26=(st + sp * j) % 26:=by
   have a1:=ZC (st + sp * i) (show (26:Int) ≠ 0 by decide);have a2:=ZC (st + sp * j) (show (26:Int) ≠ 0 by decide);lia
  have g:Int.gcd 26 sp=1:=by
   simp only [Y4,YB,or_false] at hs;rcases hs with rfl | rfl | rfl | rfl | rfl | rfl | rfl | rfl <;> rfl
  have d:(26:Int) ∣ sp * ((j:Int) - i):=by
   refine Int.dvd_of_emod_eq_zero ?_;have e3:sp * ((j:Int) - i)=(st + sp * j) - (st + sp * i):=by rw [Int.mul_sub]; lia
   rw [e3,Int.sub_emod,e2,Int.sub_self];rfl
  have d2:(26:Int) ∣ (j:Int) - i:=by
   rw [Int.mul_comm] at d;have e4:Nat.gcd 26 sp.natAbs=1:=g;have e5:(26:Nat) ∣ ((j:Int) - i).natAbs * sp.natAbs:=by rw [<-Int.natAbs_mul]; exact cn.mpr d
   exact cn.mp (Nat.Coprime.dvd_of_dvd_mul_right e4 e5)
  lia
 intro e;unfold O4 at e;by_cases h:26 < n
 ·rw [if_pos h,if_pos h] at e;simp only [ZH,cR,af.injEq] at e;have:=key (by lia);lia
 ·rw [if_neg h,if_neg h] at e;simp only [ZH,cR,af.injEq] at e;have:=key (by lia);lia
theorem DX {i:Int} (h0:0<=i) (h1:i < 26):JN FK.cps.toList i=some (97 + i.toNat):=by
 obtain ⟨n,rfl⟩:∃ n:Nat,i=(n:Int):=⟨i.toNat,by lia⟩
 have:∀ m:Fin 26,JN FK.cps.toList (m.val:Int)=some (97 + ((m.val:Int)).toNat):=by decide +kernel
 exact this ⟨n,by lia⟩
theorem len1 {α:Type} {l:List α} (h:l.length=1):∃ a,l=[a]:=List.length_eq_one_iff.mp h
theorem lenS {α:Type} {n:Nat} {l:List α} (h:l.length=n + 1):∃ a r,l=a :: r/\r.length=n:=by
 cases l with
 | nil=>cases h
 | cons a r=>exact ⟨a,r,rfl,Nat.succ.inj h⟩
theorem Sy {α:Type} {l:List α} (h:l.length=2):∃ a b,l=[a,b]:=by
 obtain ⟨a,r,rfl,hr⟩:=lenS h;obtain ⟨b,rfl⟩:=len1 hr;exact ⟨a,b,rfl⟩
theorem len3 {α:Type} {l:List α} (h:l.length=3):∃ a b c,l=[a,b,c]:=by
 obtain ⟨a,r,rfl,hr⟩:=lenS h;obtain ⟨b,c,rfl⟩:=Sy hr;exact ⟨a,b,c,rfl⟩
section
variable {K:Type} [DecidableEq K] [BEq K] [LawfulBEq K]
def met (val:Nat->K) (i:Nat):List K:=((ZP i).map val).foldl step_dedup []
theorem HS (val:Nat->K) (i:Nat):met val (i + 1)=step_dedup (met val i) (val i):=by
 unfold met; rw [List.range_succ,YE,List.foldl_append]; rfl
theorem Of (σ:List K) (v k:K):(step_dedup σ v).any (· == k)=(σ.any (· == k) || decide (k=v)):=by
 unfold step_dedup;by_cases h:σ.any (· == v)=true
 ·rw [if_pos h];by_cases e:k=v
  ·subst e; rw [h]; simp
  ·simp [e]
 ·rw [if_neg h,List.any_append];by_cases e:k=v
  ·subst e; simp
  ·have hb:(v == k)=false:=by simpa [beq_iff_eq] using (fun h':v=k=>e h'.symm)
   simp [hb,e]
theorem F6 (σ:List K) (v:K):(step_dedup σ v).length=if σ.any (· == v) then σ.length else σ.length + 1:=by
 unfold step_dedup; split <;> simp
theorem Dy (val:Nat->K):∀ i,(met val i).length<=i
 | 0=>Y7 _
 | i + 1=>by
  rw [HS,F6];have ih:=Dy val i;split <;> lia
end
section
variable {prog:Program} {w:World} {A:Around} {R:Result->Shared->Prop} {I:Addr} {fp wr:List Addr} {G:Array GenState->Array GenState->Prop} {n:Nat} {P:Nat->Value->Prop} {St:Nat->Shared->Prop}
variable {K:Type} [DecidableEq K] [BEq K] [LawfulBEq K] {knd:KeyKind prog w K}
end
section
variable {prog:Program} {w:World} {A:Around} {E:Value->Shared->Prop} {s:Shared}
variable {K:Type} [DecidableEq K] [BEq K] [LawfulBEq K] {knd:KeyKind prog w K}
end
theorem Ln (ss:List Str):met (fun i=>ss.getD i (Str.ofString "")) ss.length=ss.foldl step_dedup []:=by
 unfold met;congr 1;refine ZJ (by simp) fun i h1 h2=>?_
 simp [YW,Y1 h2]
theorem JI {X:Cx} (hg:X.A.guards=some []) (hu:X.A.units + 64 < cLine):Bl X (.builtin "repr") (fun xs H Q=>∃ (a:Addr) (d:PyData),xs=[.ref a]/\Fx H (.ref a) d/\d.showable=true/\d.hasDict=false/\d.depth<=60/\d.shown.length<=sizeLine/\Q (.str d.shown) H):=by
 intro pins s σ H xs us Q I r h;obtain ⟨a,d,rfl,hd,hs,hn,hdp,hz,q⟩:=h;obtain ⟨u,rfl,ru⟩:=BO r;obtain ⟨as,rds⟩:=hd.reads I ru;cases ru
 refine repr_of_reads' rds hs (fun z=>by rw [hn] at z; cases z) hg (by lia) (fun _ _ e=>e) (fun h' u tk kk=>?_) hz;exact ⟨.str d.shown,H,I.kept (t':=tk) kk,⟨u,rfl⟩,q⟩
def D6 (h:Heap) (d:Addr) (es:Array DictEntry) (ep:Nat):Prop:=∃ o,h.get? d=some o/\o.ExactDict/\o.data=.dict es ep
theorem D6.typeIs {s:Shared} {d:Addr} {es:Array DictEntry} {ep:Nat} (x:D6 s.heap d es ep):s.TypeIs (.ref d) "dict":=let ⟨o,h1,h2,_⟩:=x; ⟨o,h1,h2.1⟩
theorem D6.at' {h h':Heap} {d:Addr} {es:Array DictEntry} {ep:Nat} (x:D6 h d es ep) (e:∀ o,h.get? d=some o->h'.get? d=some o):D6 h' d es ep:=let ⟨o,h1,r⟩:=x; ⟨o,e _ h1,r⟩
theorem D6.lt {h:Heap} {d:Addr} {es:Array DictEntry} {ep:Nat} (x:D6 h d es ep):d < h.objs.size:=let ⟨_,h1,_⟩:=x; YC h1
section
variable {prog:Program} {w:World} {A:Around} {E:Value->Shared->Prop} {s:Shared}
theorem KU {d:Addr} {es:Array DictEntry} {ep:Nat} {Q:Value->Shared->Prop} (hd:(d == sysModules)=false) (hm:D6 s.heap d es ep)
  (hQ:Q (.ref s.heap.objs.size) { s with heap:=s.heap.push { cls:=.type "dict_keyiterator",data:=.fields #[.ref d,.int 0 0,.int es.size 0,.int ep 0] } }) :
  wpAny (model prog w) A (pyIter (.ref d)) Q E s:=by
 obtain ⟨o,ho,hc,hdat⟩:=id hm;have hT:s.TypeIs (.ref d) "dict":=hm.typeIs;refine wpAny_pyIter_slot hT F.slot_dict_iter (wpAny_call_entry F.slot_dict_iter hT F.entry_dict_iter ?_ (F.args_dict_iter_1 _));unfold Builtin.«dict.__iter__»;refine wpAny_bind ?_;unfold Builtin.Dict.dictSlotNone;refine wpAny_bind (wpAny_notOrdered_dict hT ?_);show wpAny _ _ (pure (Value.ref d)) _ _ s
 refine wpAny_pure ?_;show wpAny _ _ (Builtin.Dict.showsAll d >>= _) _ _ s
 unfold Builtin.Dict.showsAll;rw [if_neg (by rw [hd]; exact YI)];refine wpAny_bind (wpAny_pure ?_);refine wpAny_bind (wpAny_dictEntries ho hdat ?_);refine wpAny_bind (wpAny_dictEpoch ho hdat ?_);have hsz:es.size=es.size:=rfl;refine wpAny_bind (wpAny_newObj_type (wpAny_pure ⟨_,rfl,"dict_keyiterator",_,⟨_,YD _ rfl,rfl⟩,F.slot_dict_keyiterator_next.lookup,?_⟩));simpa [rawInt] using hQ
theorem KW {it d:Addr} {i ep:Nat} {es:Array DictEntry} {key:Value} {Q:Option Value->Shared->Prop} (hit:s.heap.IsKeyIter it d i es.size ep)
  (hm:D6 s.heap d es ep) (hx:es[i]?.map (·.key)=some key)
  (hQ:∀ h',h'.IsKeyIter it d (i + 1) es.size ep->Heap.SameBut it s.heap h'->Q (some key) { s with heap:=h' }) :
  wpAny (model prog w) A (pyNext (.ref it)) Q E s:=by
 obtain ⟨o,ho,hc,hd⟩:=id hit;obtain ⟨od,hod,hcd,hdd⟩:=id hm;unfold pyNext;refine wpAny_bind (wpAny_attempt (wpAny_callSpecial?_slot (name:=Str.ofString "__next__") hit.typeIs F.slot_dict_keyiterator_next
  (wpAny_call_entry F.slot_dict_keyiterator_next hit.typeIs F.entry_dict_keyiterator_next ?_ (F.args_dict_keyiterator_next_1 _))))
 refine wpAny_bind (wpAny_pure ?_);refine wpAny_bind ?_;refine wpAny_bind ?_;first | refine wpAny_bind (wpAny_typeNameOfWhole_keyiter hit.typeIs (wpAny_pure ?_)) | refine wpAny_bind (wpAny_typeNameOf_keyiter hit.typeIs (wpAny_pure ?_))
 refine wpAny_bind (wpAny_fieldsOf ho hd ?_);have hown:Builtin.Dict_items.ownsTuple "dict_keyiterator"=false:=by decide
 simp only [hown,Za,if_false];show wpAny _ _ (if (Value.ref d == Value.none)=true then _ else _) _ _ s
 rw [if_neg (show ¬ ((Value.ref d == Value.none)=true) from YI)];refine wpAny_bind (wpAny_pure ?_);refine wpAny_bind (wpAny_dictEntries hod hdd ?_);have hsz:es.size=es.size:=rfl;rw [if_neg (by rw [hsz]; simp)];refine wpAny_bind (wpAny_pure ?_);refine wpAny_bind (wpAny_dictEpoch hod hdd ?_);rw [if_neg (by simp)];refine wpAny_pure ?_;have QX:i < es.size:=by
  rcases aK i es.size with h | h
  ·exact h
  ·rw [ZY h] at hx; cases hx
 have hkey:es[i].key=key:=by rw [Z2 QX] at hx; exact YM.inj hx
 simp only [show ¬ ((i:Int) < 0) from by lia,if_false,aF,Z2 QX];refine wpAny_bind ?_;first | refine wpAny_bind (wpAny_typeNameOfWhole_keyiter hit.typeIs (wpAny_pure ?_)) | refine wpAny_bind (wpAny_typeNameOf_keyiter hit.typeIs (wpAny_pure ?_))
 refine wpAny_bind (wpAny_isOneOf_keyiter hit.typeIs ?_);show wpAny _ _ (setField (.ref it) 1 (rawInt ((i:Int) + 1)) >>= _) _ _ s
 refine wpAny_bind (wpAny_setField ho hd (by simp) ?_);have Ja:(s.heap.update it (Obj.mapFields (·.setIfInBounds 1 (rawInt ((i:Int) + 1))))).IsKeyIter it d (i + 1) es.size ep:=
  ⟨_,Zo _ ho (Obj.isFreed_of_fields (Obj.data_mapFields hd _)),(Obj.cls_mapFields ..).trans hc,by rw [Obj.data_mapFields hd]; simp [rawInt]⟩
 refine wpAny_bind (wpAny_holding ?_);refine wpAny_bind (wpAny_isOneOf_keyiter (s:={ s with heap:=s.heap.update it (Obj.mapFields (·.setIfInBounds 1 (rawInt ((i:Int) + 1)))) }) Ja.typeIs ?_);show wpAny _ _ (pure es[i].key) _ _ _
 exact wpAny_pure (wpAny_pure ⟨_,rfl,wpAny_pure (hkey ▸ hQ _ Ja (Heap.SameBut.update ..))⟩)
theorem MW {it d:Addr} {i ep:Nat} {es:Array DictEntry} {Q:Option Value->Shared->Prop} (hh:A.handled=none) (hit:s.heap.IsKeyIter it d i es.size ep)
  (hm:D6 s.heap d es ep) (hx:es.size<=i)
  (hQ:∀ h',Heap.ExtBut it s.heap h'->Q none { s with heap:=h' }):wpAny (model prog w) A (pyNext (.ref it)) Q E s:=by
 obtain ⟨o,ho,hc,hd⟩:=id hit;obtain ⟨od,hod,hcd,hdd⟩:=id hm;unfold pyNext;refine wpAny_bind (wpAny_attempt (wpAny_callSpecial?_slot (name:=Str.ofString "__next__") hit.typeIs F.slot_dict_keyiterator_next
  (wpAny_call_entry F.slot_dict_keyiterator_next hit.typeIs F.entry_dict_keyiterator_next ?_ (F.args_dict_keyiterator_next_1 _))))
 refine wpAny_bind (wpAny_pure ?_);refine wpAny_bind ?_;refine wpAny_bind ?_;first | refine wpAny_bind (wpAny_typeNameOfWhole_keyiter hit.typeIs (wpAny_pure ?_)) | refine wpAny_bind (wpAny_typeNameOf_keyiter hit.typeIs (wpAny_pure ?_))
 refine wpAny_bind (wpAny_fieldsOf ho hd ?_);have hown:Builtin.Dict_items.ownsTuple "dict_keyiterator"=false:=by decide
 simp only [hown,Za,if_false];show wpAny _ _ (if (Value.ref d == Value.none)=true then _ else _) _ _ s
 rw [if_neg (show ¬ ((Value.ref d == Value.none)=true) from YI)];refine wpAny_bind (wpAny_pure ?_);refine wpAny_bind (wpAny_dictEntries hod hdd ?_);have hsz:es.size=es.size:=rfl;rw [if_neg (by rw [hsz]; simp)];refine wpAny_bind (wpAny_pure ?_);refine wpAny_bind (wpAny_dictEpoch hod hdd ?_);rw [if_neg (by simp)];refine wpAny_pure ?_;have hge:es.size<=i:=hx;simp only [show ¬ ((i:Int) < 0) from by lia,if_false,aF,ZY hge];refine wpAny_bind ?_;first | refine wpAny_bind (wpAny_typeNameOfWhole_keyiter hit.typeIs (wpAny_pure ?_)) | refine wpAny_bind (wpAny_typeNameOf_keyiter hit.typeIs (wpAny_pure ?_))
 show wpAny _ _ (setField (.ref it) 0 .none >>= _) _ _ s
 refine wpAny_bind (wpAny_setField ho hd (by simp) ?_);show wpAny _ _ (newExc (.type "StopIteration") [] >>= _) _ _ _
 refine wpAny_bind ?_;simp only [newExc,newTuple];refine wpAny_bind (wpAny_newObj_type ?_ (by size_fits));refine wpAny_bind (m:=firstArgMember _ _) (wpAny_of_eq (a:=Value.none) (by first | rfl | (simp only [firstArgMember]; rfl)) ?_);refine wpAny_newObj_type ?_ (by size_fits);simp only [raiseNew];refine wpAny_bind (wpAny_handled ?_);rw [show A.in1.handled=none from hh];refine wpAny_bind (wpAny_pure (wpAny_throw ?_));refine wpAny_bind (wpAny_isInstance (T:="StopIteration") (b:=true) ⟨_,YD _ rfl,rfl⟩ isSubtype_stop ?_);exact wpAny_pure (hQ _ (((Heap.SameBut.update ..).extBut.push _).push _))
theorem Ow (hh:A.handled=none) (I d:Addr) (hne:d ≠ I) (es:Array DictEntry) (ep:Nat) :
  Walks prog w A I [I,d] [I] es.size (fun i v=>es[i]?.map (·.key)=some v) (fun i h=>h.IsKeyIter I d i es.size ep/\D6 h d es ep) where
 sub:=fun b hb=>by simp at hb; simp [hb]
 frame:=fun _ _ _ st hk=>⟨st.1.at fun o e=>hk I (by simp) o e,st.2.at' fun o e=>hk d (by simp) o e⟩
 item:=fun i s Q E hi st hQ=>by
  have hx:es[i]?.map (·.key)=some es[i].key:=by rw [Z2 hi]; rfl
  refine KW st.1 st.2 hx fun h' Ja JA=>?_
  exact hQ _ h' s.toks hx ⟨Ja,st.2.at' fun o e=>JA.extBut d o hne e⟩ fun b o hb e=>JA.extBut b o (fun h=>hb (by simp [h])) e
 done:=fun s Q E st hQ=>MW hh st.1 st.2 (Y7 _) fun h' Ig=>hQ h' s.toks fun b o hb e=>Ig b o (fun h=>hb (by simp [h])) e
 self:=fun _ _ _ _ st hQ=>wpAny_pyIter_keyiter st.1 hQ
theorem RX {d:Addr} {es:Array DictEntry} {ep:Nat} (lo:(d == sysModules)=false):cJ prog w "dict" d d es.size (fun i v=>es[i]?.map (·.key)=some v) (fun h=>D6 h d es ep) where
 type:=fun _ hm=>hm.typeIs
 there:=fun _ hm=>⟨hm.lt,hm.lt⟩
 keep:=fun _ _ hm hk=>hm.at' fun o e=>hk d (.inl rfl) o e
 notList:=by decide
 notTuple:=by decide
 hint:=fun _ _ _ _ hm hq=>PySem.W.kdl_hint_dict hm.typeIs hq
 iter:=fun _ _ hh hm=>⟨_,_,(fun _ _ hq=>KU lo hm hq),Ow hh _ d (YF hm.lt) es ep,⟨⟨_,YD _ rfl,rfl,rfl⟩,hm.at' fun o e=>Y2 _ e⟩⟩
end
structure Fn (K:Y3) (mg:Str->Option Value) (nm:Str) (st:Stmt) (ps:List Str) (f:Addr) (fd:FuncData):Prop where
 F:EO K nm nm st f fd
 mg:mg nm=some (.ref f)
 b:GJ K fd ps []
theorem K7 {κ:Type} [DecidableEq κ] {kvs:List (κ × V)} {k:κ} {v:V} (h:(k,v) ∈ kvs):∃ v',Bc kvs k=some v'/\(k,v') ∈ kvs:=by
 induction kvs with
 | nil=>exact nomatch h
 | cons p r ih=>
  by_cases e:p.1=k
  ·exact ⟨p.2,Bx e,by rw [<-e]; exact YO⟩
  ·rcases Y4.mp h with z | z
   ·exact absurd (by rw [<-z]) e
   ·obtain ⟨v',a,b⟩:=ih z;exact ⟨v',by rw [Bq e]; exact a,YT _ b⟩
structure NO (H:Hp) (m:Addr) (n:Nat) (xs:List Str) (ws:List AG):Prop where
 ex:∃ t1 t2:Addr,∃ vs:List V,H m=some (.tup [.ref t1,.ref t2])/\H t1=some (.tup (xs.map V.str))/\H t2=some (.tup vs)/\Bw H vs (ws.map NU)
 len:xs.length=n
 nd:xs.Nodup
 nm:∀ x ∈ xs,AY x=true
 wl:ws.length<=100
 wn:∀ u ∈ ws,AY u.1=true/\AY u.2.1=true/\1<=u.2.2/\u.2.2 < 10 ^ 30
def iSeq (K:Y3) (tl:TE):TI:=fun σ H R=>tl σ H fun x H1=>∃ a,x=.ref a/\(((∃ xs,AB K H1 a xs)/\R (RG K a) H1)\/((∃ xs,A7 K H1 a xs)/\R (Pl K a) H1))
theorem Up {X:Cx} {tg l:Expr} {tl:TE} (hl:PE X l tl):PI X tg l (iSeq X.K tl):=by
 intro pins s σ H R I h;refine B5 (hl (pins:=pins) s σ H _ I h) fun v s1 ⟨x,H1,I1,r1,q1⟩=>?_
 obtain ⟨a,e,q1⟩:=q1;subst e;cases r1
 have fp:∀ b ∈ [s1.heap.objs.size],Eg X pins H1 b:=fun b hb=>by
  have e:b=s1.heap.objs.size:=by simpa using hb
  subst e;exact I1.fpOk (Y7 _) (I1.hok.fresh (Y7 _))
 rcases q1 with ⟨⟨xs,hq⟩,q⟩ | ⟨⟨xs,hq⟩,q⟩
 ·obtain ⟨Ap,rv,p,hz⟩:=I1.list hq;refine wpAny_pyIter_list p.isList ?_;exact ⟨s1.heap.objs.size,[s1.heap.objs.size],_,_,H1,rfl,I1.kept (t':=s1.toks) fun b o e=>Y2 _ e,Jo a _,⟨_,YD _ rfl,rfl,rfl⟩,fp,q⟩
 ·obtain ⟨Ap,rv,p,hz⟩:=I1.tuple hq;refine wpAny_pyIter_tuple (show s1.heap.IsTuple a Ap.toArray from p) ?_;exact ⟨s1.heap.objs.size,[s1.heap.objs.size],_,_,H1,rfl,I1.kept (t':=s1.toks) fun b o e=>Y2 _ e,Hr a _,⟨_,YD _ rfl,rfl,rfl⟩,fp,q⟩
structure M7 (J:It) (xs:List V) (S:Hp->Prop):Prop where
 go:∀ i H,S H->i < xs.length->J.go i H
 yld:∀ i H x H',S H->J.yld i H x H'->H'=H/\xs[i]? = some x
 stop:∀ H,S H->J.stop xs.length H
theorem Bp {K:Y3} {a:Addr} {xs:List V}:M7 (RG K a) xs (fun H=>AB K H a xs):=
 ⟨fun i H q B0=>⟨xs,xs[i],q,by simp [B0]⟩,fun i H x H' q y=>⟨y.1,y.2 xs q⟩,fun H q=>⟨xs,q,Y7 _⟩⟩
theorem BD {K:Y3} {a:Addr} {xs:List V}:M7 (Pl K a) xs (fun H=>A7 K H a xs):=
 ⟨fun i H q B0=>⟨xs,xs[i],q,by simp [B0]⟩,fun i H x H' q y=>⟨y.1,y.2 xs q⟩,fun H q=>⟨xs,q,Y7 _⟩⟩
theorem Be {J:It} {xs:List V} {S:Hp->Prop} {g:TG} {te:TE} {H:Hp} {σ0:St} {R:Addr->Hp->Prop} (ov:M7 J xs S) (I:Addr->Nat->St->Hp->List V->Prop) (big:xs.length < sizeLine)
  (h0:∀ D,H D=none->I D 0 σ0 (upd H D (.lst [])) [])
  (hs:∀ D i σ H' acc,H D=none->I D i σ H' acc->S H'/\H' D=some (.lst acc)/\acc.length=i)
  (turn:∀ D i σ H' acc x (B:St->V->Hp->Prop),H D=none->xs[i]? = some x->I D i σ H' acc->(∀ Ay v H5,H5 D=some (.lst acc)->I D (i + 1) Ay (upd H5 D (.lst (acc ++ [v]))) (acc ++ [v])->B Ay v H5)->g x σ H' fun Ay H3=>te Ay H3 (B Ay))
  (fin:∀ D σ H' acc,H D=none->I D xs.length σ H' acc->R D H') :
  ∀ D,H D=none->∃ W:Nat->Nat->St->Hp->Prop,(∃ m,W 0 m σ0 (upd H D (.lst []))) /\
   ∀ i m Av H',W i m Av H'->(J.stop i H'/\R D H')\/(J.go i H'/\∀ x H2,J.yld i H' x H2->g x Av H2 fun Ay H3=>K9 Ay H3 fun b H4=>
    if b=true then te Ay H4 (fun v H5=>∃ acc,H5 D=some (.lst acc)/\acc.length < sizeLine/\∃ m',m' < m/\W (i + 1) m' Ay (upd H5 D (.lst (acc ++ [v])))) else ∃ m',m' < m/\W (i + 1) m' Ay H4):=by
 intro D hD;refine ⟨fun i m σ H'=>m=xs.length - i/\i<=xs.length/\∃ acc,I D i σ H' acc,⟨xs.length,rfl,Zd _,[],h0 D hD⟩,?_⟩;rintro i m σ H' ⟨rfl,hi,acc,p⟩;obtain ⟨s1,s2,s3⟩:=hs D i σ H' acc hD p;by_cases B0:i < xs.length
 ·refine .inr ⟨ov.go i H' s1 B0,fun x H2 y=>?_⟩;obtain ⟨rfl,ex⟩:=ov.yld i H' x H2 s1 y;have e:∀ (F:St->V->Hp->Prop) (G:St->Hp->Prop),(fun (Ay:St) (H3:Hp)=>K9 Ay H3 fun b H4=>if b=true then te Ay H4 (F Ay) else G Ay H4)=fun Ay H3=>te Ay H3 (F Ay):=by
   intro F G;funext Ay H3;show (if true=true then te Ay H3 (F Ay) else G Ay H3)=_
   rw [if_pos rfl]
  rw [e (fun Ay v H5=>∃ acc,H5 D=some (.lst acc)/\acc.length < sizeLine/\∃ m',m' < xs.length - i/\(m'=xs.length - (i + 1)/\i + 1<=xs.length/\∃ IH,I D (i + 1) Ay (upd H5 D (.lst (acc ++ [v]))) IH)) (fun Ay H4=>∃ m',m' < xs.length - i/\(m'=xs.length - (i + 1)/\i + 1<=xs.length/\∃ IH,I D (i + 1) Ay H4 IH))];refine turn D i σ H2 acc x _ hD ex p fun Ay v H5 d5 p5=>?_
  exact ⟨acc,d5,by lia,xs.length - (i + 1),by lia,rfl,B0,_,p5⟩
 ·have e:i=xs.length:=by lia
  subst e;exact .inl ⟨ov.stop H' s1,fin D σ H' acc hD p⟩
structure C3 (d:PyData) (k b:Nat):Prop where
 lay:d.canLay0=true
 sho:d.showable=true
 nod:d.hasDict=false
 lv:d.leavesShort 200=true
 dp:d.depth<=k
 bu:d.bulk<=b
theorem C3.str {x:Str} (h:AY x=true):C3 (.str x) 0 6:=by
 obtain ⟨l1,l2,lo⟩:=Mj h;refine ⟨?_,rfl,rfl,?_,Y7 _,?_⟩
 ·have:=Dd (xs:=[x]) (by simpa using h);simpa [PyData.canLayAll0,PyData.canLay0] using this
 ·have e:PyData.leavesShort 200 (.str x)=x.cps.toList.all fun c=>decide (c < 16 ^ 8):=by simp only [PyData.leavesShort]
  rw [e,Z8];intro c hc;have:=lo c hc;unfold FJ at this;simp at this;apply decide_eq_true;lia
 ·show PyData.bulk (.str x)<=6
  simp only [PyData.bulk];exact l2
theorem C3.mono {d:PyData} {k b k' b':Nat} (h:C3 d k b) (h1:k<=k') (h2:b<=b'):C3 d k' b':=⟨h.lay,h.sho,h.nod,h.lv,YU h.dp h1,YU h.bu h2⟩
theorem C3.all {k b:Nat}:∀ {ds:List PyData},(∀ d ∈ ds,C3 d k b)->PyData.canLayAll0 ds=true/\PyData.showableAll ds=true/\PyData.hasDictAll ds=false/\PyData.leavesShortAll 200 ds=true/\PyData.depthAll ds<=k/\PyData.bulkAll ds<=ds.length * (b + 1)
 | [],_=>⟨rfl,rfl,rfl,rfl,Zd _,Zd _⟩
 | d :: ds,h=>by
  obtain ⟨a1,a2,a3,a4,a5,a6⟩:=C3.all (ds:=ds) fun e he=>h e (YT _ he)
  have f:=h d YO;have f5:=f.dp;have f6:=f.bu;refine ⟨by simp [PyData.canLayAll0,f.lay,a1],by simp [PyData.showableAll,f.sho,a2],by simp [PyData.hasDictAll,f.nod,a3],by simp [PyData.leavesShortAll,f.lv,a4],?_,?_⟩
  ·simp only [PyData.depthAll];lia
  ·simp only [PyData.bulkAll,YX,dj];lia
theorem C3.tuple {ds:List PyData} {k b:Nat} (h:∀ d ∈ ds,C3 d k b):C3 (.tuple ds) (k + 1) (ds.length * (b + 1)):=by
 obtain ⟨a1,a2,a3,a4,a5,a6⟩:=C3.all h;exact ⟨by simp only [PyData.canLay0]; exact a1,by simp only [PyData.showable]; exact a2,by simp only [PyData.hasDict]; exact a3,by simp only [PyData.leavesShort]; exact a4,by simp only [PyData.depth]; lia,by simp only [PyData.bulk]; exact a6⟩
theorem C3.list {ds:List PyData} {k b:Nat} (h:∀ d ∈ ds,C3 d k b):C3 (.list ds) (k + 1) (ds.length * (b + 1)):=by
 obtain ⟨a1,a2,a3,a4,a5,a6⟩:=C3.all h;exact ⟨by simp only [PyData.canLay0]; exact a1,by simp only [PyData.showable]; exact a2,by simp only [PyData.hasDict]; exact a3,by simp only [PyData.leavesShort]; exact a4,by simp only [PyData.depth]; lia,by simp only [PyData.bulk]; exact a6⟩
theorem C3.len {d:PyData} {k b:Nat} (h:C3 d k b) (hb:b<=60000):d.shown.length<=sizeLine:=by
 have q:=PyData.shown_le_bulk 200 (by decide) d h.lv;have:=h.bu;have e:202 * d.bulk<=202 * 60000:=Nat.mul_le_mul_left _ (by lia);have:202 * 60000 + 200<=sizeLine:=by decide
 lia
abbrev CB:=Str × Int
def GP (u:CB):PyData:=.tuple [.str u.1,.int u.2]
structure EC (xs:List Str) (lo:Int) (rs:List CB):Prop where
 sub:∀ r ∈ rs,r.1 ∈ xs
 nd:(rs.map (·.1)).Nodup
 lo:∀ r ∈ rs,lo<=r.2/\r.2 < 10 ^ 30
 one:1<=rs.length
theorem OV {xs:List Str} (h:∀ x ∈ xs,AY x=true):∀ d ∈ xs.map PyData.str,C3 d 0 6:=by
 intro d hd;obtain ⟨u,hu,rfl⟩:=YA.mp hd;exact C3.str (h u hu)
theorem Qv {H:Hp} {v:V} {u:CB} (h:Fx H v (GP u)):∃ t,v=.ref t/\H t=some (.tup [.str u.1,.int u.2]):=by
 unfold GP at h;cases h with
 | tup ha hd=>
  cases hd with
  | cons h1 r1=>
   cases r1 with
   | cons h2 r2=>
    cases r2
    cases h1
    cases h2
    exact ⟨_,rfl,ha⟩
theorem MT {H:Hp} {t:Addr} {u:CB} (h:H t=some (.tup [.str u.1,.int u.2])):Fx H (.ref t) (GP u):=.tup h (.cons (.str _) (.cons (.int _) .nil))
theorem BC {H2 H3:Hp} {vs:List V} {rs:List CB} (h:Bw H2 vs (rs.map GP)) (ht:∀ b xs,H2 b=some (.tup xs)->H3 b=some (.tup xs)):Bw H3 vs (rs.map GP):=by
 induction rs generalizing vs with
 | nil=>cases h; exact .nil
 | cons u rs ih=>
  cases h with
  | cons h1 r=>
   obtain ⟨t,rfl,e⟩:=Qv h1;exact .cons (MT (ht _ _ e)) (ih r)
theorem C0 {H:Hp}:∀ {vs:List V} {rs:List CB} {i:Nat} {x:V},Bw H vs (rs.map GP)->vs[i]? = some x->∃ u t,rs[i]? = some u/\x=.ref t/\H t=some (.tup [.str u.1,.int u.2])
 | _,[],i,x,.nil,e=>by simp at e
 | _,u :: rs,0,x,.cons h r,e=>by
  simp only [Zz,YM.injEq] at e;subst e;obtain ⟨t,rfl,q⟩:=Qv h;exact ⟨u,t,rfl,rfl,q⟩
 | _,u :: rs,i + 1,x,.cons h r,e=>by
  obtain ⟨u',t,a,b,c⟩:=C0 r (by simpa using e);exact ⟨u',t,by simpa using a,b,c⟩
theorem BQ {H:Hp}:∀ {vs:List V} {rs:List CB},Bw H vs (rs.map GP)->vs.length=rs.length
 | _,[],.nil=>rfl
 | _,u :: rs,.cons h r=>by rw [YX,YX,BQ r]
def Lim (x:V) (d:PyData):Prop:=(x=.non/\d=.none)\/∃ i:Int,x=.int i/\d=.int i/\1<=i/\i < 10 ^ 30
end L2
namespace L2
open PySem PySem.Spec PySem.W PyProof.Rows
theorem MC {X:Cx} {pins:List (Addr × Obj)} {σ:St} {H:Hp} {s:Shared} (I:An X pins σ H s) {kd:Nat->Bool}:∀ {vs:List V} {Ap:List Value},A4 vs Ap->(∀ v ∈ vs,My H kd v)->∀ u ∈ Ap,LB s.heap kd u
 | _,_,.nil,_,_,hu=>nomatch hu
 | _,_,.cons r1 r2,hk,u,hu=>by
  rcases Y4.mp hu with rfl | hu
  ·exact (PM I r1 (hk _ YO)).1
  ·exact MC I r2 (fun v hv=>hk v (YT _ hv)) u hu
end L2
namespace L2
open PySem PySem.Spec PyProof.Rows
theorem NO.keepT {H H':Hp} {m:Addr} {n:Nat} {xs:List Str} {ws:List AG} (h:NO H m n xs ws) (t:∀ b ys,H b=some (.tup ys)->H' b=some (.tup ys)):NO H' m n xs ws:=by
 obtain ⟨ta,tb,vs,a,b,c,e⟩:=h.ex;exact ⟨⟨ta,tb,vs,t _ _ a,t _ _ b,t _ _ c,F5 e t⟩,h.len,h.nd,h.nm,h.wl,h.wn⟩
theorem LN {x y x' y':Str} (p:[x',y'].Perm [x,y]) (h:sortedS [x',y']=true):x'=BG x y/\y'=BH x y:=by
 have h1:=BX h;have h2:[BG x y,BH x y].Pairwise fun a b=>¬ b.cps.toList < a.cps.toList:=by
  refine List.pairwise_pair.mpr ?_;unfold BG BH;by_cases a:y.cps.toList < x.cps.toList
  ·rw [if_pos a,if_neg (fun z=>Ce _ (ZE a z))];exact fun z=>Ce _ (ZE a z)
  ·rw [if_neg a];by_cases b:x.cps.toList < y.cps.toList
   ·rw [if_pos b];exact a
   ·rw [if_neg b];exact Ce _
 have p2:[BG x y,BH x y].Perm [x,y]:=by
  unfold BG BH;by_cases a:y.cps.toList < x.cps.toList
  ·rw [if_pos a,if_neg (fun z=>Ce _ (ZE a z))];exact .swap _ _ _
  ·rw [if_neg a];by_cases b:x.cps.toList < y.cps.toList
   ·rw [if_pos b]
   ·rw [if_neg b];have e:x=y:=Cu a b;rw [e]
 have e:=Ge h1 h2 (p.trans p2.symm);simp only [af.injEq,and_true] at e;exact e
structure Fw (H:Hp) (m:Addr) (n:Nat) (ps:List Str) (ws:List AG):Prop where
 at':NO H m n ps ws
 dr:∃ (xs:List Str) (TL:List AG),ps.Perm xs/\ws.Perm (TL.map Ew)/\Fe xs TL
 so:sortedS ps=true
 l64:ws.length < 64
theorem Fw.web {H:Hp} {m:Addr} {n:Nat} {ps:List Str} {ws:List AG} (h:Fw H m n ps ws) (n1:1<=n) (n30:n<=30) :
  ∃ r,II H m ps ws r/\(∀ u ∈ ws,1<=u.2.2)/\(∀ x y l l',BV ws x y l->BV ws x y l'->l=l'):=by
 obtain ⟨xs,TL,pp,wp,wof,sep,jn⟩:=h.dr;have pl:0 < ps.length:=by rw [h.at'.len]; lia
 have hr0:ps[0] ∈ xs:=pp.mem_iff.mp (Zv pl);have en:=fun x y l=>JF wp x y l
 refine ⟨ps[0],⟨⟨h.at'.ex⟩,h.at'.nd,by rw [h.at'.len]; lia,h.l64,fun u hu=>?_,Y1 pl,fun Sp hs hcl z hz=>?_⟩,fun u hu=>(h.at'.wn u hu).2.2.1,fun x y l l' e1 e2=>OY sep ((en x y l).mp e1) ((en x y l').mp e2)⟩
 ·obtain ⟨q1,q2⟩:=JE wp (fun u hu=>⟨(wof u hu).1,(wof u hu).2.1⟩) u hu;exact ⟨pp.mem_iff.mpr q1,pp.mem_iff.mpr q2⟩
 ·exact K1.all jn Sp (fun b c hbc=>hcl b c ((Rt wp b c).mpr hbc)) hr0 hs z (pp.mem_iff.mp hz)
theorem Ic:∀ {ns:List Int} {us:List Value},A4 (ns.map V.int) us->∃ ts:List (Int × Tok),us=ts.map (fun p=>Value.int p.1 p.2)/\ts.map (·.1)=ns
 | [],_,.nil=>⟨[],rfl,rfl⟩
 | n :: ns,_,.cons r q=>by
  obtain ⟨t,rfl⟩:=r;obtain ⟨ts,rfl,e⟩:=Ic q;exact ⟨(n,t) :: ts,rfl,by rw [YK,e]⟩
theorem D5 {X:Cx} (hc:X.calm=true):Bl X (.builtin "sum") (fun xs H Q=>∃ (a:Addr) (ns:List Int),xs=[.ref a]/\AB X.K H a (ns.map V.int)/\Q (.int ns.sum) H):=by
 intro pins s σ H xs us Q I r h;obtain ⟨a,ns,rfl,ha,q⟩:=h;obtain ⟨u,rfl,ru⟩:=BO r;cases ru
 obtain ⟨Ap,rv,pl,hz⟩:=I.list ha;obtain ⟨ts,rfl,e⟩:=Ic rv;have hl:s.heap.IsList a (intItems ts.toArray):=by
  have:=pl.isList;unfold intItems;simpa using this
 refine sum_intListG (I.ok.hd hc) hl fun h' tk t' kk=>?_
 refine ⟨.int ns.sum,H,I.kept (t':=tk) kk,⟨t',?_⟩,q⟩;have:preSum (numAt ts.toArray) ts.toArray.size=ns.sum:=by
  rw [preSum_eq,aJ (by simp),<-e]
 rw [this]
theorem IW:typeLookup (.type "tuple") "keys"=pure none:=by rw [typeLookup_type,builtinLookup_eq_fast]; kernel_rfl
theorem Oc {prog:Program} {w:World} {A:Around} {E:Value->Shared->Prop} {s:Shared} {a:Addr} {o:Obj} {xs:Array Value} {k:Nat} {Q:Option Value->Shared->Prop}
  (hx:s.heap.get? a=some o) (hc:o.cls=.type "tuple") (hdat:o.data=.seq xs k) (hd:o.dict=none) (hA:A.handled=none)
  (h:∀ h' tk,(∀ b ob,s.heap.get? b=some ob->h'.get? b=some ob)->Q none { s with heap:=h',toks:=tk }):wpAny (model prog w) A (getAttr? (.ref a) "keys") Q E s:=by
 obtain ⟨c,dct,dat,sl⟩:=o;simp only at hc hdat hd;subst hc hdat hd;obtain ⟨hp,g,d,tk,os⟩:=s;have hT:∀ Vd,(⟨hp,g,d,Vd,os⟩:Shared).TypeIs (.ref a) "tuple":=fun _=>⟨_,hx,rfl⟩
 have f1:=sub_AttributeError;have f3:=F.slot_tuple_getattribute.lookup;have f4:=F.slot_tuple_getattribute.bind (.ref a);have f5:=am_tuple_getattr_none;unfold getAttr? getAttrBy? getAttrBy;repeat (any_goals (first | assumption | exact hT _ | ((with_reducible show wpAny _ _ (call (Value.builtin "tuple.__getattribute__") _ _) _ _ _); refine call_meets F.slot_tuple_getattribute (hT _) am_entry_tuple_getattribute (F.args_tuple_getattribute_2 _ _) (meets_getattribute_miss_tuple a xs k sl "keys" _ IW (by decide +kernel) (by decide +kernel)) ⟨hx,hA,fun h' Vd e Kw=>?_⟩) | wp_step))
 obtain ⟨t',u',he⟩:=Kw.there;show wpAny _ _ (getattributeRaised _ _ _ _ _ _ _) _ _ _
 unfold getattributeRaised;have hE:∀ Vd,(⟨h',g,d,Vd,os⟩:Shared).TypeIs (.ref e) "AttributeError":=fun _=>⟨_,he,rfl⟩
 repeat (any_goals (first | assumption | exact hE _ | wp_step))
 exact h _ _ Kw.keeps
section
variable {prog:Program} {w:World} {A:Around} {R:Result->Shared->Prop} {g0:Heap} {D it l:Addr} {vs:List Value} {ps:List (Str × V)}
theorem NW (hh:A.handled=none) (nI:it ≠ D) (nl:l ≠ it/\l ≠ D) (g1:∀ b o,g0.get? b=some o->b ≠ it/\b ≠ D) (hl:vs.length=ps.length) (rows:∀ (i:Nat) v p,vs[i]? = some v->ps[i]? = some p->TF g0 v p) (hsz:ps.length < sizeLine) :
  ∀ (m i:Nat) (s:Shared) (kvs:List (A6 × V)) (us:List (A6 × Value)),ps.length - i=m->i<=ps.length->s.heap.IsTupleIter it l i->s.heap.IsTuple l vs.toArray->KV kvs us->kvs.length<=i->s.heap.DictOf (AO prog w) D us->(∀ b o,g0.get? b=some o->s.heap.get? b=some o) ->
   (∀ h' tk JV,KV (HU kvs (sK (ps.drop i))) JV->h'.DictOf (AO prog w) D JV->(∀ b o,b ≠ it->b ≠ D->s.heap.get? b=some o->h'.get? b=some o)->R (.ok (.ret .none)) { s with heap:=h',toks:=tk }) ->
   codeAny (model prog w) A (.builtin "dict.update.loop" ⟨[.ref D,.ref it,.int (i:Int) 0,.none],[]⟩) R s:=by
 intro m;induction m with
 | zero=>
  intro i s kvs us hm hi st hL kv kl dd gk r;have e:i=ps.length:=by lia
  refine codeAny_builtin E4 ?_;rw [Around.under_plainId Cy _];unfold Builtin.«dict.update.loop»;refine wpAny_bind (wpAny_pyNext_tuple_end hh st hL (by simp; lia) fun h' eb=>?_);refine wpAny_bind (wpAny_pure (wpAny_pure ?_));have LJ:h'.DictOf (AO prog w) D us:=dd.at fun o q=>eb D o (Ne.symm nI) q
  refine r h' s.toks us ?_ LJ fun b o b1 b2 q=>eb b o b1 q
  rw [e,List.drop_length];exact kv
 | succ m ih=>
  intro i s kvs us hm hi st hL kv kl dd gk r;have B0:i < ps.length:=by lia
  have ev:vs[i]? = some (vs[i]'(by lia)):=Y1 (by lia);have ep:ps[i]? = some ps[i]:=Y1 B0;obtain ⟨a,t,u,e1,ht,ru⟩:=rows i _ _ ev ep;rw [e1] at ev;refine codeAny_builtin E4 ?_;rw [Around.under_plainId Cy _];unfold Builtin.«dict.update.loop»;refine wpAny_bind (wpAny_pyNext_tuple_item st hL (x:=.ref a) (by simpa using ev) fun h' AM sb=>?_);obtain ⟨o,ho,hc,n,hd⟩:=id ht;have ha:=(sb.2 a (g1 a o ho).1).trans (gk a o ho);have LJ:h'.DictOf (AO prog w) D us:=dd.at fun o q=>(sb.2 D (Ne.symm nI)).trans q
  have L':h'.IsTuple l vs.toArray:=by
   obtain ⟨ol,hol,rl⟩:=hL;exact ⟨ol,(sb.2 l nl.1).trans hol,rl⟩
  refine wpAny_bind (wpAny_holding ?_);refine wpAny_bind (wpAny_tryCatch ?_);unfold Builtin.Dict.pairItems;refine wpAny_bind (wpAny_typeOf (T:="tuple") ⟨o,ha,hc⟩ ?_);rw [if_pos (by decide)];refine wpAny_bind (wpAny_seqItems ha hd (wpAny_pure ?_));show wpAny _ A.in1 (holding [Value.str ps[i].1 t,u] (dictSet D (Value.str ps[i].1 t) u)) _ _ _
  have WN:us.length<=sizeLine:=by rw [<-kv.length]; lia
  refine wpAny_holding (wpAny_dictSet_pairs (k:=Sum.inr ps[i].1) (hsz:=WN) (G8 prog w _ t) LJ fun h2 NH Ws=>?_);have ki:((i:Int) + 1)=((i + 1:Nat):Int):=by lia
  refine wpAny_pure ⟨plainId_quiet Cy _,?_⟩;show codeAny (model prog w) A (.builtin "dict.update.loop" ⟨[.ref D,.ref it,.int ((i:Int) + 1) 0,.none],[]⟩) R _
  rw [ki];have kl2:=Cr kvs (Sum.inr ps[i].1:A6) ps[i].2;have it2:h2.IsTupleIter it l (i + 1):=by
   obtain ⟨oi,hoi,ri⟩:=AM;exact ⟨oi,(Ws.2 it nI).trans hoi,ri⟩
  refine ih (i + 1) _ (Br kvs (Sum.inr ps[i].1) ps[i].2) _ (by lia) B0 it2 ?_ (kv.put (Sum.inr ps[i].1) ru) (by lia) NH (fun b ob q=>(Ws.2 b (g1 b ob q).2).trans ((sb.2 b (g1 b ob q).1).trans (gk b ob q))) fun h3 TX us3 kv3 dd3 k3=>?_
  ·obtain ⟨ol,hol,rl⟩:=L';exact ⟨ol,(Ws.2 l nl.2).trans hol,rl⟩
  ·refine r h3 TX us3 ?_ dd3 fun b ob b1 b2 q=>k3 b ob b1 b2 ((Ws.2 b b2).trans ((sb.2 b b1).trans q))
   have ed:ps.drop i=ps[i] :: ps.drop (i + 1):=(List.drop_eq_getElem_cons B0)
   rw [ed];exact kv3
end
section
variable {prog:Program} {w:World} {A:Around} {E:Value->Shared->Prop} {s:Shared}
theorem Hh {l:Addr} {vs:List Value} {ps:List (Str × V)} {Q:Value->Shared->Prop} (hh:A.handled=none) {ol:Obj} {nl:Nat} (hl:s.heap.get? l=some ol) (hc:ol.cls=.type "tuple") (hd:ol.data=.seq vs.toArray nl) (hdc:ol.dict=none)
  (hlen:vs.length=ps.length) (rows:∀ (i:Nat) v p,vs[i]? = some v->ps[i]? = some p->TF s.heap v p) (hsz:ps.length < sizeLine)
  (h:∀ h' tk us,KV (HU [] (sK ps)) us->h'.DictOf (AO prog w) s.heap.objs.size us->(∀ b o,s.heap.get? b=some o->h'.get? b=some o)->Q (.ref s.heap.objs.size) { s with heap:=h',toks:=tk }):wpAny (model prog w) A (call (.type "dict") [.ref l]) Q E s:=by
 refine callType_codes (Q₁:=fun obj AN=>obj=.ref s.heap.objs.size/\AN = { s with heap:=s.heap.push { cls:=.type "dict",data:=.dict #[] } }) F.kt_called_dict (F.kt_typeCall_dict_1 _) F.entry_dict_init (kt_code_dict_new _ ⟨rfl,rfl⟩) ?_;rintro obj AN ⟨rfl,rfl⟩;have hnew:(s.heap.push { cls:=.type "dict",data:=.dict #[] }).DictOf (AO prog w) s.heap.objs.size []:=Heap.DictOf.new s.heap;have Vk:(s.heap.push { cls:=.type "dict",data:=.dict #[] }).get? l=some ol:=Y2 _ hl;refine ⟨hnew.typeIs,F.args_dict_init_2 _ _,?_⟩;unfold Builtin.«dict.__init__»;refine wpAny_bind ?_;unfold Builtin.Dict.selfAndRest;refine wpAny_bind (wpAny_notOrdered_dict hnew.typeIs ?_);show wpAny _ _ (pure (s.heap.objs.size,[Value.ref l])) _ _ _
 refine wpAny_pure ?_;show wpAny _ _ (Builtin.Dict.updateFrom "dict.__init__" s.heap.objs.size (.ref l) [] .none) _ _ _
 unfold Builtin.Dict.updateFrom;refine wpAny_bind (wpAny_typeOf (T:="tuple") ⟨ol,Vk,hc⟩ ?_);rw [if_pos (by decide)];refine wpAny_bind (Oc Vk hc hd hdc hh fun h1 tk1 k1=>?_);simp only [Option.isNone_none,if_true];refine wpAny_bind (wpAny_rule ?_);have ON:h1.IsTuple l vs.toArray:=⟨ol,k1 _ _ Vk,hc,nl,hd⟩
 refine wpAny_bind (wpAny_pyIter_tuple ON ?_);have old:∀ b o,s.heap.get? b=some o->h1.get? b=some o:=fun b o q=>k1 b o (Y2 _ q)
 obtain ⟨od,esd,epd,hod,rd⟩:=id hnew;have SD:=k1 _ _ hod;have ltD:=YC SD;have ltl:=YC (k1 _ _ Vk);refine wpAny_pure ⟨plainId_quiet Cy _,?_⟩;refine NW (A:=A.in1) (g0:=s.heap) (D:=s.heap.objs.size) (it:=h1.objs.size) (l:=l) (vs:=vs) (ps:=ps) hh (Zx ltD) ⟨YF ltl,YF (YC hl)⟩ (fun b o q=>⟨YF (YC (old b o q)),YF (YC q)⟩) hlen rows hsz _ 0 { s with heap:=h1.push { cls:=.type "tuple_iterator",data:=.fields #[.ref l,.int 0 0] },toks:=tk1 } [] [] rfl (Zd _)
  ⟨_,YD _ rfl,rfl,rfl⟩ (ON.push _) .nil (Y7 _) ⟨od,esd,epd,Y2 _ SD,rd⟩ (fun b o q=>Y2 _ (old b o q)) fun h' tk us kv dd kk=>?_
 rw [List.drop_zero] at kv;exact ⟨rfl,h h' tk us kv dd fun b o q=>kk b o (YF (YC (old b o q))) (YF (YC q)) (Y2 _ (old b o q))⟩
end
theorem DJ {X:Cx} (hc:X.calm=true):Bl X (.type "dict") (fun xs H Q=>∃ (a:Addr) (vs:List V) (ps:List (Str × V)),xs=[.ref a]/\H a=some (.tup vs)/\vs.length=ps.length/\(∀ (i:Nat) v p,vs[i]? = some v->ps[i]? = some p->∃ t,v=.ref t/\H t=some (.tup [.str p.1,p.2]))/\(ps.map (·.1)).Nodup/\ps.length < 1000 /\
  ∀ D,H D=none->Q (.ref D) (upd H D (.dK (sK ps)))):=by
 intro pins s σ H xs us Q I r h;obtain ⟨a,vs,ps,rfl,ha,hl,hk,hn,h1000,q⟩:=h;obtain ⟨u,rfl,ru⟩:=BO r;cases ru
 obtain ⟨hz,Ap,rv,⟨o,ho,Hn,n,hdat⟩,dn⟩:=(show A5 X.prog X.w H s.heap a (.tup vs) from I.hok a _ ha)
 have LI:=dn o ho;have il:Ap.length=ps.length:=by rw [<-rv.length,hl]
 have big:1000 < sizeLine:=by decide
 refine Hh (I.ok.hd hc) (ps:=ps) ho Hn hdat LI il (fun i v p e1 e2=>?_) (by lia) fun h' tk us kv dd kk=>?_
 ·have hi:i < Ap.length:=(Y8.mp e1).1;have e3:vs[i]? = some vs[i]:=Y1 (by lia);obtain ⟨v',e4,r4⟩:=rv.get e3;rw [e1] at e4;cases e4
  obtain ⟨t,e5,ht⟩:=hk i _ p e3 e2;rw [e5] at r4;cases r4
  obtain ⟨HY,rv2,pl2,_⟩:=I.tuple (A7.of ht);cases rv2 with
  | cons x1 y1=>
   cases y1 with
   | cons x2 y2=>
    cases y2
    obtain ⟨t1,rfl⟩:=x1;exact ⟨t,t1,_,rfl,pl2,x2⟩
 ·have em:HU [] (sK ps)=sK ps:=Lo ps [] (by simpa using hn);rw [em] at kv;refine ⟨.ref s.heap.objs.size,_,I.laid (a:=s.heap.objs.size) (o:=.dK (sK ps)) (t':=tk) kk (Y7 _) (Kz (by rw [CJ]; lia) (beq_eq_false_iff_ne.mpr (Ne.symm (YF I.big))) kv dd),rfl,q _ (I.hok.fresh (Y7 _))⟩
theorem NJ {k:Int} (h1:-(2 ^ 300) < k) (h2:k < 2 ^ 300):Builtin.Int.intBits k<=2 ^ 20:=by
 unfold Builtin.Int.intBits;split
 ·exact Zd _
 ·have hn:k.natAbs < 2 ^ 300:=by lia
  have:k.natAbs.log2 < 300:=by
   rcases cK k.natAbs with h0 | hp
   ·rw [h0]; decide
   ·exact (du (by lia)).mpr hn
  lia
def CMulB (i j:Int):Prop:=(-(2 ^ 300) < i/\i < 2 ^ 300)/\(-(2 ^ 300) < j/\j < 2 ^ 300)
theorem Nj {X:Cx}:En X (binaryOp .Mult) (rI CMulB fun i j=>.int (i * j)):=opI fun _ _ _ _ _ _ _ hc q=>mul_int q (IntMulOk.of_bits (NJ hc.1.1 hc.1.2) (NJ hc.2.1 hc.2.2))
structure Dt (H:Hp) (c m:Addr) (n:Nat) (xs:List Str) (ws:List AG) (Az Bh:List CB) (x:V) (d:PyData):Prop where
 ex:∃ (t1 t2:Addr) (ER LM:List V),H c=some (.tup [.ref m,.ref t1,.ref t2,x])/\H t1=some (.tup ER)/\Bw H ER (Az.map GP)/\H t2=some (.tup LM)/\Bw H LM (Bh.map GP)
 map:Fw H m n xs ws
 n1:1<=n
 n30:n<=30
 ok1:EC xs 0 Az
 ok2:EC xs 1 Bh
 l1:Az.length<=10
 l2:Bh.length<=30
 lim:Lim x d
theorem Fw.keepT {H H':Hp} {m:Addr} {n:Nat} {xs:List Str} {ws:List AG} (h:Fw H m n xs ws) (t:∀ b ys,H b=some (.tup ys)->H' b=some (.tup ys)):Fw H' m n xs ws:=⟨h.at'.keepT t,h.dr,h.so,h.l64⟩
theorem Dt.keepT {H H':Hp} {c m:Addr} {n:Nat} {xs:List Str} {ws:List AG} {Az Bh:List CB} {x:V} {d:PyData} (h:Dt H c m n xs ws Az Bh x d) (t:∀ b ys,H b=some (.tup ys)->H' b=some (.tup ys)):Dt H' c m n xs ws Az Bh x d:=by
 obtain ⟨t1,t2,ER,LM,a,b,e,f,g⟩:=h.ex;exact ⟨⟨t1,t2,ER,LM,t _ _ a,t _ _ b,BC e t,t _ _ f,BC g t⟩,h.map.keepT t,h.n1,h.n30,h.ok1,h.ok2,h.l1,h.l2,h.lim⟩
theorem Dt.same {H H':Hp} {c m:Addr} {n:Nat} {xs:List Str} {ws:List AG} {Az Bh:List CB} {x:V} {d:PyData} (h:Dt H c m n xs ws Az Bh x d) (s:Ar H H'):Dt H' c m n xs ws Az Bh x d:=h.keepT fun b ys z=>s _ _ z
def Vs (xs ss:List Str):Prop:=ss ≠ []/\ss.Nodup/\∀ s ∈ ss,s ∈ xs
def Dz (rs:List CB) (h:Str):Int:=((rs.find? fun r=>decide (r.1=h)).map (·.2)).getD 0
theorem Fu {rs:List CB} (h:(rs.map (·.1)).Nodup) {r:CB} (hr:r ∈ rs):Dz rs r.1=r.2:=by
 induction rs with
 | nil=>exact nomatch hr
 | cons q rs ih=>
  rw [YK,Zl] at h;unfold Dz;rw [ZN];by_cases e:q.1=r.1
  ·rw [decide_eq_true e];rcases Y4.mp hr with z | z
   ·rw [z]; rfl
   ·exact absurd (YA.mpr ⟨_,z,e.symm⟩) h.1
  ·rw [decide_eq_false e];rcases Y4.mp hr with z | z
   ·rw [z] at e; exact absurd rfl e
   ·exact ih h.2 z
def DB (rs:List CB):List (Str × V):=rs.map fun r=>(r.1,.int r.2)
theorem EJ (rs:List CB):(DB rs).map (·.1)=rs.map (·.1):=by unfold DB; rw [Zb]; rfl
theorem MS {H:Hp} {us:List V} {rs:List CB} (h:Bw H us (rs.map GP)):∀ (i:Nat) v p,us[i]? = some v->(DB rs)[i]? = some p->∃ t,v=.ref t/\H t=some (.tup [.str p.1,p.2]):=fun i v p e1 e2=>by
 obtain ⟨u,t,eu,rfl,ht⟩:=C0 h e1;unfold DB at e2;rw [Y9,eu] at e2;cases e2
 exact ⟨t,rfl,ht⟩
section
variable {prog:Program} {w:World} {A:Around} {E:Value->Shared->Prop} {s:Shared}
end
section
variable {prog:Program} {w:World} {A:Around} {E:Value->Shared->Prop} {s:Shared}
end
def DK (H:Hp) (A:Addr) (xs:List Str) (ws:List AG):Prop:=∃ (M:Str->Str->Option Int) (c:Nat),MD H A M c/\∀ x ∈ xs,∀ y ∈ xs,∃ n,M x y=some n/\JR ws x y n/\0<=n/\n < 2 ^ 300
theorem DK.same {H H':Hp} {A:Addr} {xs:List Str} {ws:List AG} (h:DK H A xs ws) (s:Ar H H'):DK H' A xs ws:=let ⟨M,c,a,b⟩:=h; ⟨M,c,a.same s,b⟩
theorem BR {J:It} {xs:List V} {S:Hp->Prop} {g:TG} {tt:TT} {te:TE} {H:Hp} {σ0:St} {R:Addr->Hp->Prop} (ov:M7 J xs S) (I:Addr->Nat->St->Hp->List V->Prop) (big:xs.length < sizeLine)
  (h0:∀ D,H D=none->I D 0 σ0 (upd H D (.lst [])) [])
  (hs:∀ D i σ H' acc,H D=none->I D i σ H' acc->S H'/\H' D=some (.lst acc)/\acc.length<=i)
  (turn:∀ D i σ H' acc x (B:St->V->Hp->Prop) (N:St->Hp->Prop),H D=none->xs[i]? = some x->I D i σ H' acc->(∀ Ay v H5,H5 D=some (.lst acc)->I D (i + 1) Ay (upd H5 D (.lst (acc ++ [v]))) (acc ++ [v])->B Ay v H5) ->
   (∀ Ay H4,I D (i + 1) Ay H4 acc->N Ay H4)->g x σ H' fun Ay H3=>tt Ay H3 fun b H4=>if b=true then te Ay H4 (B Ay) else N Ay H4)
  (fin:∀ D σ H' acc,H D=none->I D xs.length σ H' acc->R D H') :
  ∀ D,H D=none->∃ W:Nat->Nat->St->Hp->Prop,(∃ m,W 0 m σ0 (upd H D (.lst []))) /\
   ∀ i m Av H',W i m Av H'->(J.stop i H'/\R D H')\/(J.go i H'/\∀ x H2,J.yld i H' x H2->g x Av H2 fun Ay H3=>tt Ay H3 fun b H4=>
    if b=true then te Ay H4 (fun v H5=>∃ acc,H5 D=some (.lst acc)/\acc.length < sizeLine/\∃ m',m' < m/\W (i + 1) m' Ay (upd H5 D (.lst (acc ++ [v])))) else ∃ m',m' < m/\W (i + 1) m' Ay H4):=by
 intro D hD;refine ⟨fun i m σ H'=>m=xs.length - i/\i<=xs.length/\∃ acc,I D i σ H' acc,⟨xs.length,rfl,Zd _,[],h0 D hD⟩,?_⟩;rintro i m σ H' ⟨rfl,hi,acc,p⟩;obtain ⟨s1,s2,s3⟩:=hs D i σ H' acc hD p;by_cases B0:i < xs.length
 ·refine .inr ⟨ov.go i H' s1 B0,fun x H2 y=>?_⟩;obtain ⟨rfl,ex⟩:=ov.yld i H' x H2 s1 y;refine turn D i σ H2 acc x (fun Ay v H5=>∃ acc,H5 D=some (.lst acc)/\acc.length < sizeLine/\∃ m',m' < xs.length - i/\(m'=xs.length - (i + 1)/\i + 1<=xs.length/\∃ IH,I D (i + 1) Ay (upd H5 D (.lst (acc ++ [v]))) IH)) (fun Ay H4=>∃ m',m' < xs.length - i/\(m'=xs.length - (i + 1)/\i + 1<=xs.length/\∃ IH,I D (i + 1) Ay H4 IH)) hD ex p (fun Ay v H5 d5 p5=>?_) fun Ay H4 p4=>?_
  ·exact ⟨acc,d5,by lia,xs.length - (i + 1),by lia,rfl,B0,_,p5⟩
  ·exact ⟨xs.length - (i + 1),by lia,rfl,B0,_,p4⟩
 ·have e:i=xs.length:=by lia
  subst e;exact .inl ⟨ov.stop H' s1,fin D σ H' acc hD p⟩
theorem PZ {l m:List Int} (p:l.Perm m):l.sum=m.sum:=by
 induction p with
 | nil=>rfl
 | cons x _ ih=>rw [aE,aE,ih]
 | swap x y l=>simp only [aE]; lia
 | trans _ _ UB UA=>exact UB.trans UA
theorem Oe {rs:List CB} {ss:List Str} (nd:(rs.map (·.1)).Nodup) (snd:ss.Nodup) (sub:∀ s ∈ ss,s ∈ rs.map (·.1)):((rs.filter fun r=>decide (r.1 ∈ ss)).map (·.2)).sum=(ss.map (Dz rs)).sum:=by
 have p:((rs.filter fun r=>decide (r.1 ∈ ss)).map (·.1)).Perm ss:=by
  refine G4 ?_ snd fun x=>⟨fun h=>?_,fun h=>?_⟩
  ·exact (List.Sublist.map _ ZG).nodup nd
  ·obtain ⟨r,hr,rfl⟩:=YA.mp h;exact of_decide_eq_true (Zh.mp hr).2
  ·obtain ⟨r,hr,e⟩:=YA.mp (sub x h);exact YA.mpr ⟨r,Zh.mpr ⟨hr,by rw [decide_eq_true_eq,e]; exact h⟩,e⟩
 have e:(rs.filter fun r=>decide (r.1 ∈ ss)).map (·.2)=((rs.filter fun r=>decide (r.1 ∈ ss)).map (·.1)).map (Dz rs):=by
  rw [Zb];refine ZS fun r hr=>?_
  exact (Fu nd (Zh.mp hr).1).symm
 rw [e];exact PZ (p.map _)
theorem Bj.app' {ws:List AG} {x y z:Str} {m n:Int} (h:Bj ws x y m) (g:Bj ws y z n):Bj ws x z (m + n):=by
 induction h with
 | nil x=>rw [b7]; exact g
 | cons e _ ih=>rw [br]; exact .cons e (ih g)
theorem Mk {xs:List Str} {ws:List AG} (jn:K1 xs ws) {L:Int} (L0:0<=L) (hL:∀ u ∈ ws,u.2.2<=L) (hp:∀ u ∈ ws,1<=u.2.2) {r:Str} (hr:xs[0]? = some r):∀ (j:Nat) x,xs[j]? = some x->∃ m,Bj ws x r m/\0<=m/\m<=j * L:=by
 intro j;induction j using Nat.strongRecOn with
 | ind j ih=>
  intro x hx;by_cases z:j=0
  ·subst z;rw [hr] at hx;cases hx
   exact ⟨0,.nil _,Z6 _,by simp⟩
  ·obtain ⟨u,hu,i,hij,e1,e2⟩:=jn j (by lia) (Y8.mp hx).1;rw [hx] at e2;cases e2
   obtain ⟨m,w,m0,ml⟩:=ih i hij _ e1;have hl:=hL u hu;have hq:=hp u hu;refine ⟨u.2.2 + m,.cons ⟨u,hu,.inr ⟨rfl,rfl⟩,rfl⟩ w,by lia,?_⟩;have:((i:Int) + 1) * L<=j * L:=ZL (by lia) L0;rw [dv,Int.one_mul] at this;lia
theorem Fw.sums {H:Hp} {m:Addr} {n:Nat} {ps:List Str} {ws:List AG} (h:Fw H m n ps ws) (n1:1<=n) (n30:n<=30):∀ x ∈ ps,∀ y ∈ ps,∃ k,Bj ws x y k/\0<=k/\k < 2 ^ 300:=by
 obtain ⟨xs,TL,pp,wp,wof,sep,jn⟩:=h.dr;have en:=fun x y l=>JF wp x y l
 have xl:xs.length=n:=by rw [<-pp.length_eq]; exact h.at'.len
 have hr:xs[0]? = some (xs[0]'(by lia)):=Y1 _;have hL:∀ u ∈ TL,u.2.2<=10 ^ 30:=fun u hu=>by
  have:=(h.at'.wn (Ew u) (wp.mem_iff.mpr (YA.mpr ⟨u,hu,rfl⟩))).2.2.2;have e:(Ew u).2.2=u.2.2:=rfl;lia
 have one:∀ x ∈ ps,∃ k,Bj TL x (xs[0]'(by lia)) k/\0<=k/\k<=30 * 10 ^ 30:=fun x hx=>by
  obtain ⟨j,hj,ej⟩:=YQ (pp.mem_iff.mp hx);obtain ⟨k,a,b,c⟩:=Mk jn (by decide) hL (fun u hu=>(wof u hu).2.2.2) hr j x (by rw [Y1 hj,ej]);refine ⟨k,a,b,dk c (ZL (by lia) (by decide))⟩
 intro x hx y hy;obtain ⟨k1,a1,b1,c1⟩:=one x hx;obtain ⟨k2,a2,b2,c2⟩:=one y hy;have a3:=(Py en).mpr (Bj.app' a1 a2.symm);exact ⟨k1 + k2,a3,by lia,by lia⟩
theorem Bj.pos' {ws:List AG} (hp:∀ u ∈ ws,1<=u.2.2) {x y:Str} {m:Int} (h:Bj ws x y m):0<=m:=by
 induction h with
 | nil=>exact Z6 _
 | cons e _ ih=>obtain ⟨u,hu,_,rfl⟩:=e; have:=hp u hu; lia
theorem Fw.bound {H:Hp} {m:Addr} {n:Nat} {ps:List Str} {ws:List AG} (h:Fw H m n ps ws) (n1:1<=n) (n30:n<=30) {x y:Str} (hx:x ∈ ps) (hy:y ∈ ps) {k:Int} (d:JR ws x y k):0<=k/\k < 2 ^ 300:=by
 obtain ⟨k',a,_,c⟩:=h.sums n1 n30 x hx y hy;exact ⟨d.1.pos' fun u hu=>(h.at'.wn u hu).2.2.1,cL (d.2 k' a) c⟩
theorem FW.doneW {ws:List AG} {xs:List Str} (he:∀ u ∈ ws,u.1 ∈ xs/\u.2.1 ∈ xs) (ex:∀ x ∈ xs,∀ y ∈ xs,∃ m,Bj ws x y m) {M:Str->Str->Option Int} (h:FW ws xs xs.length M):∀ x ∈ xs,∀ y ∈ xs,∃ n,M x y=some n/\JR ws x y n:=by
 intro x hx y hy;obtain ⟨m,hm⟩:=ex x hx y hy;have low:∀ m,Bj ws x y m->∃ n,M x y=some n/\n<=m:=fun m g=>by
  rcases g.wi he with ⟨rfl,rfl⟩ | g
  ·exact h.diag x hx
  ·refine h.comp x y m ?_;rw [YL];exact g
 obtain ⟨n,e,_⟩:=low m hm;refine ⟨n,e,h.sound x y n e,fun m' g=>?_⟩;obtain ⟨n',e',l⟩:=low m' g;rw [e] at e';cases e'
 exact l
theorem Fw.apart {H:Hp} {m:Addr} {n:Nat} {ps:List Str} {ws:List AG} (h:Fw H m n ps ws) {u:AG} (hu:u ∈ ws):u.1 ≠ u.2.1:=by
 obtain ⟨xs,TL,pp,wp,wof,_⟩:=h.dr;obtain ⟨v,hv,rfl⟩:=YA.mp (wp.mem_iff.mp hu);have ne:=(wof v hv).2.2.1;show BG v.1 v.2.1 ≠ BH v.1 v.2.1
 unfold BG BH;by_cases a:v.2.1.cps.toList < v.1.cps.toList
 ·rw [if_pos a,if_neg (fun z=>Ce _ (ZE a z))];exact fun z=>ne z.symm
 ·rw [if_neg a];by_cases b:v.1.cps.toList < v.2.1.cps.toList
  ·rw [if_pos b]; exact ne
  ·exact absurd (Cu a b) ne
theorem C3.intB {i:Int} (h0:0<=i) (h:i < 2 ^ 600):C3 (.int i) 0 0:=by
 have hn:i.natAbs < 2 ^ 600:=by lia
 have l:i.natAbs.log2 < 600:=by
  by_cases z:i.natAbs=0
  ·rw [z]; decide
  ·exact (du z).mpr hn
 have e:PyData.leavesShort 200 (.int i)=decide ((PyData.shown (.int i)).length<=200):=by simp only [PyData.leavesShort]
 refine ⟨rfl,?_,rfl,?_,Y7 _,Y7 _⟩
 ·simp only [PyData.showable];exact decide_eq_true (by lia)
 ·rw [e];apply decide_eq_true;have q:=int_text_length_le10 (a:=i) (k:=190) (by decide) (YG hn (by decide));have e2:PyData.shown (.int i)=Str.ofString (toString i):=by simp only [PyData.shown]
  rw [e2,PySem.ofString_length];lia
theorem JX {B:Int} (hB:0<=B):∀ {l:List Int},(∀ t ∈ l,0<=t/\t<=B)->0<=l.sum/\l.sum<=l.length * B
 | [],_=>⟨Z6 _,by simp⟩
 | t :: l,h=>by
  obtain ⟨a,b⟩:=JX hB (l:=l) fun t' ht=>h t' (YT _ ht)
  obtain ⟨c,d⟩:=h t YO;rw [aE,YX];have e:((l.length + 1:Nat):Int) * B=l.length * B + B:=by rw [Int.natCast_add,dv]; simp
  constructor <;> lia
theorem Ph {rs:List CB} {ss xs:List Str} {lo:Int} (ok:EC xs lo rs) (h0:0<=lo) (sub:∀ s ∈ ss,s ∈ rs.map (·.1)) (sl:ss.length<=30):0<=(ss.map (Dz rs)).sum/\(ss.map (Dz rs)).sum < 2 ^ 500:=by
 have q:=JX (B:=10 ^ 30) (by decide) (l:=ss.map (Dz rs)) fun t ht=>by
  obtain ⟨s,hs,rfl⟩:=YA.mp ht;obtain ⟨r,hr,rfl⟩:=YA.mp (sub s hs);rw [Fu ok.nd hr];have:=ok.lo r hr;lia
 rw [Y0] at q;have:(ss.length:Int) * 10 ^ 30<=30 * 10 ^ 30:=ZL (by lia) (by decide);lia
end L2
namespace L2
open PySem
theorem Lw {K:Y3} {a:Addr} {xs:List V} {g:TG} {tb:TS} {D:ED} {σ:St} {H:Hp} (Pv:Nat->St->Hp->Prop) (h0:Pv 0 σ H) (hl:∀ i σ H,i<=xs.length->Pv i σ H->A7 K H a xs)
  (hs:∀ i x σ H,xs[i]? = some x->Pv i σ H->∀ (rt:VK) (bk:St->Hp->Prop),g x σ H fun Ay H2=>tb ⟨Pv (i + 1),rt,bk,Pv (i + 1)⟩ Ay H2) (hd:∀ σ H,Pv xs.length σ H->D.nx σ H) :
  ∃ W:Nat->Nat->St->Hp->Prop,(∃ m,W 0 m σ H)/\∀ i m σ H,W i m σ H ->
   ((Pl K a).stop i H/\D.nx σ H)\/((Pl K a).go i H/\∃ N:St->Hp->Prop,(∀ Av H',N Av H'->∃ m',m' < m/\W (i + 1) m' Av H')/\∀ x H',(Pl K a).yld i H x H'->g x σ H' fun Ay H2=>tb { D with nx:=N,ct:=N,bk:=D.nx } Ay H2):=
 NA Pv h0 hl (fun i x σ H hx hp=>hs i x σ H hx hp D.rt D.nx) hd
theorem OU {a:Addr} {kvs:List (A6 × V)} {o:Obj} {g:TG} {tb:TS} {D:ED} {σ:St} {H:Hp} (Pv:Nat->St->Hp->Prop) (h0:Pv 0 σ H) (hl:∀ i σ H,i<=kvs.length->Pv i σ H->H a=some (.frz o (.dK kvs)))
  (hs:∀ i k v σ H,kvs[i]? = some (k,v)->Pv i σ H->∀ (rt:VK) (bk:St->Hp->Prop),g (kV k) σ H fun Ay H2=>tb ⟨Pv (i + 1),rt,bk,Pv (i + 1)⟩ Ay H2) (hd:∀ σ H,Pv kvs.length σ H->D.nx σ H) :
  ∃ W:Nat->Nat->St->Hp->Prop,(∃ m,W 0 m σ H)/\∀ i m σ H,W i m σ H ->
   ((TK a kvs o).stop i H/\D.nx σ H)\/((TK a kvs o).go i H/\∃ N:St->Hp->Prop,(∀ Av H',N Av H'->∃ m',m' < m/\W (i + 1) m' Av H')/\∀ x H',(TK a kvs o).yld i H x H'->g x σ H' fun Ay H2=>tb { D with nx:=N,ct:=N,bk:=D.nx } Ay H2):=
 Rg Pv h0 hl (fun i k v σ H hx hp=>hs i k v σ H hx hp D.rt D.nx) hd
theorem Cz {K:Y3} {a:Addr} {xs:List V} {g:TG} {tb:TS} {D:ED} {σ:St} {H:Hp} (Pv:Nat->St->Hp->Prop) (h0:Pv 0 σ H) (hl:∀ i σ H,i<=xs.length->Pv i σ H->A7 K H a xs)
  (hs:∀ i x σ H,xs[i]? = some x->Pv i σ H->∀ (rt:VK) (bk N:St->Hp->Prop),(∀ σ H,Pv (i + 1) σ H->N σ H)->g x σ H fun Ay H2=>tb ⟨N,rt,bk,N⟩ Ay H2) (hd:∀ σ H,Pv xs.length σ H->D.nx σ H) :
  ∃ W:Nat->Nat->St->Hp->Prop,(∃ m,W 0 m σ H)/\∀ i m σ H,W i m σ H ->
   ((Pl K a).stop i H/\D.nx σ H)\/((Pl K a).go i H/\∃ N:St->Hp->Prop,(∀ Av H',N Av H'->∃ m',m' < m/\W (i + 1) m' Av H')/\∀ x H',(Pl K a).yld i H x H'->g x σ H' fun Ay H2=>tb { D with nx:=N,ct:=N,bk:=D.nx } Ay H2):=
 NA Pv h0 hl (fun i x σ H hx hp=>hs i x σ H hx hp D.rt D.nx _ fun _ _ z=>z) hd
theorem JC {K:Y3} {a:Addr} {xs:List V} {g:TG} {tb:TS} {D:ED} {σ:St} {H:Hp} (Pv:Nat->St->Hp->Prop) (h0:Pv 0 σ H) (hl:∀ i σ H,i<=xs.length->Pv i σ H->AB K H a xs)
  (hs:∀ i x σ H,xs[i]? = some x->Pv i σ H->∀ (rt:VK) (bk N:St->Hp->Prop),(∀ σ H,Pv (i + 1) σ H->N σ H)->g x σ H fun Ay H2=>tb ⟨N,rt,bk,N⟩ Ay H2) (hd:∀ σ H,Pv xs.length σ H->D.nx σ H) :
  ∃ W:Nat->Nat->St->Hp->Prop,(∃ m,W 0 m σ H)/\∀ i m σ H,W i m σ H ->
   ((RG K a).stop i H/\D.nx σ H)\/((RG K a).go i H/\∃ N:St->Hp->Prop,(∀ Av H',N Av H'->∃ m',m' < m/\W (i + 1) m' Av H')/\∀ x H',(RG K a).yld i H x H'->g x σ H' fun Ay H2=>tb { D with nx:=N,ct:=N,bk:=D.nx } Ay H2):=
 FO Pv h0 hl (fun i x σ H hx hp=>hs i x σ H hx hp D.rt D.nx _ fun _ _ z=>z) hd
end L2
namespace L2
open PySem PySem.Spec PyProof.Rows
theorem IP {M:Model} {A:Around} {E:Value->Shared->Prop} {s:Shared} {scope:Scope} {globals:Addr} {closure:List (Str × Addr)} {qual:Str} {func:Option Addr} {code:Value} {outer:Env} {builtins:Addr} {Q:Env->Shared->Prop}
  (hQ:Q (newEnv scope s.heap.objs.size globals (cellsFrom (s.heap.objs.size + 1) scope.names closure) qual func code (some outer) builtins) { s with heap:=pushCells (s.heap.push { cls:=.type "dict",data:=.dict #[] }) scope.names }) :
  wpAny M A (newFunctionEnv scope globals closure [] qual func code (some outer) builtins) Q E s:=by
 simp only [newFunctionEnv,bZ,if_true];refine wpAny_bind (wpAny_alloc ?_);refine wpAny_bind (wpAny_layCells _ (fun name kind cells=>by cases hkc:kind == NameKind.cell <;> simp [hkc]) _ _ _ _ ?_);rw [show ({ s with heap:=s.heap.push { cls:=.type "dict",data:=.dict #[] } }:Shared).heap.objs.size=s.heap.objs.size + 1 from Zk ..];refine wpAny_bind ?_;rw [List.forIn_nil];exact wpAny_pure (wpAny_pure hQ)
theorem Gn:∀ (names:List (Str × NameKind)) (h:Heap) (acc:List (Str × Addr)) (lo:Nat),lo<=h.objs.size->(∀ x c,(x,c) ∈ acc->c < lo\/(lo<=c/\c < h.objs.size/\h.IsCell c none)) ->
  ∀ x c,(x,c) ∈ cellsFrom h.objs.size names acc->(x,c) ∈ acc\/(lo<=c/\(pushCells h names).IsCell c none)
 | [],h,acc,lo,_,_,x,c,hm=>.inl hm
 | (name,kind) :: r,h,acc,lo,hlo,ha,x,c,hm=>by
  unfold cellsFrom at hm;unfold pushCells;split at hm
  ·rename_i hk
   rw [if_pos hk];rw [show h.objs.size + 1=(h.push { cls:=.type "cell",data:=.cell none }).objs.size from (Zk ..).symm] at hm;rcases Gn r (h.push { cls:=.type "cell",data:=.cell none }) ((name,h.objs.size) :: acc) lo (by rw [Zk]; lia) (fun y d hy=>by
    rcases Y4.mp hy with e | hy
    ·cases e
     exact .inr ⟨hlo,by rw [Zk]; exact YZ _,_,YD _ rfl,rfl⟩
    ·rcases ha y d hy with z | ⟨z1,z2,z3⟩
     ·exact .inl z
     ·exact .inr ⟨z1,by rw [Zk]; exact YV z2,z3.keeps fun b o e=>Y2 _ e⟩) x c hm with q | q
   ·rcases Y4.mp q with e | q
    ·cases e
     exact .inr ⟨hlo,_,pushCells_keeps _ _ _ _ (YD _ rfl),rfl⟩
    ·exact .inl q
   ·exact .inr q
  ·rename_i hk
   rw [if_neg hk];exact Gn r h acc lo hlo ha x c hm
theorem E8:∀ (names:List (Str × NameKind)) (n:Nat) (acc:List (Str × Addr)),(acc.Pairwise fun x y=>x.2 ≠ y.2)->(∀ x c,(x,c) ∈ acc->c < n)->(cellsFrom n names acc).Pairwise fun x y=>x.2 ≠ y.2
 | [],n,acc,h,_=>h
 | (name,kind) :: r,n,acc,h,ha=>by
  unfold cellsFrom;split
  ·refine E8 r (n + 1) ((name,n) :: acc) (Zs.mpr ⟨fun y hy e=>?_,h⟩) fun x c hm=>?_
   ·have:=ha y.1 y.2 hy;have e':n=y.2:=e;exact absurd this (by rw [<-e']; exact Zp _)
   ·rcases Y4.mp hm with e | hm
    ·cases e; exact YZ _
    ·exact YV (ha x c hm)
  ·exact E8 r n acc h ha
theorem CZ {α:Type}:∀ {l:List (Str × α)} {x:Str} {c:α},(x,c) ∈ l->∃ d,l.lookup x=some d
 | (k,v) :: r,x,c,h=>by
  rw [aG];cases hb:x == k with
  | true=>exact ⟨v,rfl⟩
  | false=>
   rcases Y4.mp h with e | h
   ·cases e; simp at hb
   ·exact CZ h
theorem Gp:∀ (names:List (Str × NameKind)) (n:Nat) (acc:List (Str × Addr)) (x:Str),((x,NameKind.cell) ∈ names\/∃ c,(x,c) ∈ acc)->∃ c,(x,c) ∈ cellsFrom n names acc
 | [],n,acc,x,h=>by
  rcases h with h | h
  ·cases h
  ·exact h
 | (name,kind) :: r,n,acc,x,h=>by
  unfold cellsFrom;split
  ·rename_i hk
   refine Gp r (n + 1) ((name,n) :: acc) x ?_;rcases h with h | ⟨c,h⟩
   ·rcases Y4.mp h with e | h
    ·cases e; exact .inr ⟨n,YO⟩
    ·exact .inl h
   ·exact .inr ⟨c,YT _ h⟩
  ·rename_i hk
   refine Gp r n acc x ?_;rcases h with h | h
   ·rcases Y4.mp h with e | h
    ·cases e; exact absurd rfl hk
    ·exact .inl h
   ·exact .inr h
abbrev BM (X:Cx) (scope:Scope) (cl:List (Str × Addr)) (N:List Str) (s2:Shared) (H:Hp) (C:Addr) (fp:List Addr) (fn:Str->Bool):Cx:={ Am X scope cl N s2 H C fp with fn:=fn }
theorem Gm (n0:Nat):∀ (names:List (Str × NameKind)) (n:Nat) (acc:List (Str × Addr)) (x:Str) (c:Addr),n0<=n->((x,NameKind.cell) ∈ names\/∃ d,acc.lookup x=some d/\n0<=d)->(cellsFrom n names acc).lookup x=some c->n0<=c
 | [],n,acc,x,c,_,h,e=>by
  rcases h with h | ⟨d,h1,h2⟩
  ·cases h
  ·have e':acc.lookup x=some c:=e;rw [h1] at e';cases e'
   exact h2
 | (name,kind) :: r,n,acc,x,c,hn,h,e=>by
  unfold cellsFrom at e;split at e
  ·rename_i hk
   refine Gm n0 r (n + 1) ((name,n) :: acc) x c (aD hn) ?_ e;by_cases ex:x=name
   ·refine .inr ⟨n,?_,hn⟩;rw [ex,aG,beq_self_eq_true]
   ·have hb:(x == name)=false:=beq_eq_false_iff_ne.mpr ex;rcases h with h | ⟨d,h1,h2⟩
    ·rcases Y4.mp h with z | z
     ·injection z with z1 z2;exact absurd z1 ex
     ·exact .inl z
    ·exact .inr ⟨d,by rw [aG,hb]; exact h1,h2⟩
  ·rename_i hk
   refine Gm n0 r n acc x c hn ?_ e;rcases h with h | h
   ·rcases Y4.mp h with z | z
    ·cases z; exact absurd rfl hk
    ·exact .inl z
   ·exact .inr h
structure Ga (X:Cx) (scope:Scope) (cl:List (Str × Addr)):Prop where
 clos:closureFor scope X.env=pure cl
 kind:scope.kind=.function
 names:∀ y ∈ scope.names,y.2=.local->scope.names.lookup y.1=some .local
 sub:∀ x c,(x,c) ∈ cl->X.env.cells.lookup x=some c
 apart:(cl.Pairwise fun x y=>x.2 ≠ y.2)
 has:∀ x,((relabel scope X.env).names.lookup x=some .cell\/(relabel scope X.env).names.lookup x=some .free)->(x,NameKind.cell) ∈ scope.names\/∃ c,(x,c) ∈ cl
theorem Fh:∀ (names:List (Str × NameKind)) (n:Nat) (acc:List (Str × Addr)) (x:Str) (c:Addr),(x,c) ∈ cellsFrom n names acc->(x,NameKind.cell) ∉ names->(x,c) ∈ acc
 | [],n,acc,x,c,h,_=>h
 | (name,kind) :: r,n,acc,x,c,h,hn=>by
  unfold cellsFrom at h;split at h
  ·rename_i hk
   have OO:kind=.cell:=by cases kind <;> first | rfl | cases hk
   rcases Y4.mp (Fh r (n + 1) ((name,n) :: acc) x c h fun z=>hn (YT _ z)) with e | e
   ·cases e
    exact absurd (by rw [OO]; exact YO) hn
   ·exact e
  ·exact Fh r n acc x c h fun z=>hn (YT _ z)
section
variable {X:Cx} {pins:List (Addr × Obj)} {σ Av:St} {H H':Hp} {s2 s':Shared} {scope:Scope} {cl:List (Str × Addr)} {N:List Str} {fp:List Addr} {C D:Addr} {h₁ h':Heap} {t':Nat}
theorem L6 {fn:Str->Bool} {cl0:List (Str × Addr)} (I:An X pins σ H s2) (hf:∀ b ∈ fp,Eg X pins H b) (hfo:∀ b ∈ fp,∃ o,s2.heap.get? b=some o) (co:Ga X scope cl0) (sub:∀ x c,cl.lookup x=some c->X.env.cells.lookup x=some c\/(s2.heap.objs.size<=c/\c ≠ D/\c ≠ C/\h₁.IsCell c none)) (inj:∀ x y c,cl.lookup x=some c->cl.lookup y=some c->x=y) (own:∀ x c,fn x=true->cl.lookup x=some c->s2.heap.objs.size<=c)
  (has:∀ x,((relabel scope X.env).names.lookup x=some .cell\/(relabel scope X.env).names.lookup x=some .free)->∃ c,cl.lookup x=some c) (keepS:∀ (i:Nat) (x:Str) (v:V),N[i]? = some x->Av[i]? = some (some v)->∀ c,cl.lookup x=some c->X.env.cells.lookup x=some c) (hσ:AH X cl scope N σ Av)
  (k:∀ b o,s2.heap.get? b=some o->h₁.get? b=some o) (hD:s2.heap.objs.size<=D) (hC:s2.heap.objs.size<=C) (hDC:C ≠ D)
  (new:h₁.get? D=some { cls:=.type "list",data:=.seq ([]:List Value).toArray 0 }\/∃ n,h₁.get? D=some { cls:=.type "list",data:=.seq ([]:List Value).toArray n }) {m:Str->Option Value} (hn:h₁.Ns C m) :
  An (BM X scope cl N s2 H C fp fn) [] Av (upd H D (.lst [])) { s2 with heap:=h₁,toks:=t' }:=by
 have fD:H D=none:=I.hok.fresh hD;have fC:H C=none:=I.hok.fresh hC;have newO:A5 X.prog X.w (upd H D (.lst [])) h₁ D (.lst []):=by
  refine ⟨Zd _,[],?_⟩;rcases new with e | ⟨n,e⟩
  ·exact ⟨0,.nil,e⟩
  ·exact ⟨n,.nil,e⟩
 have lts:∀ b ∈ fp,b < s2.heap.objs.size:=fun b hb=>let ⟨_,e⟩:=hfo b hb; YC e
 have ok:Cx.Ok (BM X scope cl N s2 H C fp fn):=by
  refine ⟨I.ok.mod,?_,I.ok.glob,I.ok.blt,hC,?_,?_,?_,I.ok.hd,I.ok.frames,.inl rfl,?_,I.bs,YU I.ok.bsz I.sz,?_,?_,I.stack,I.stkFree⟩
  ·exact co.kind
  ·exact inj
  ·exact has
  ·exact own
  ·intro b hb;refine ⟨fun e=>?_,fun x c e=>by
    rcases sub x c e with z | ⟨z,_⟩
    ·exact (hf b hb).2.2.2.2.1 x c z
    ·exact Zx (YG (lts b hb) z)⟩
   have z:=lts b hb;exact absurd (YG z hC) (by rw [show b=C from e]; exact Zp _)
  ·intro b o e hb;have Fb:b ∈ fp:=hb;rcases (hf b Fb).2.2.2.1 with z | z
   ·exact I.ok.noex b o e z
   ·exact absurd (YG (YC e) (YU I.ok.bsz z)) (Zp _)
  ·intro b hb hz;have Fb:b ∈ fp:=hb;obtain ⟨_,f1,f2,_⟩:=hf b Fb;rcases Y4.mp (I.stkSub b hz) with e | e
   ·exact f1 e
   ·exact f2 e
 refine ⟨ok,rfl,I.bare,Un.laid k hD fD,?_,?_,?_,?_,?_,I.hok.laid k hD newO,hσ.1⟩
 ·refine ⟨m,hn,fun i x v e1 e2 _=>?_⟩;obtain ⟨⟨j,j1,j2⟩,kk,kr⟩:=hσ.2 i x v e1 e2;obtain ⟨mo,_,hl⟩:=I.loc;obtain ⟨u,r,l⟩:=hl j x v j1 j2 (by
   rcases kk with z | z
   ·exact .inr (.inl z)
   ·exact .inr (.inr z))
  refine ⟨u,r,.inr ⟨kr,?_⟩⟩;obtain ⟨c,hc⟩:=has x kr;rcases l with ⟨z,_⟩ | ⟨_,c',Hn,hcell⟩
  ·rcases kk with q | q
   ·rw [z] at q; cases q
   ·rw [z] at q; cases q
  ·have e3:=keepS i x v e1 e2 c hc;rw [Hn] at e3;have e4:c'=c:=YM.inj e3;subst e4;obtain ⟨o,ho,hd⟩:=hcell;exact ⟨c',hc,o,k _ o ho,hd⟩
 ·intro x c e;rcases sub x c e with z | ⟨_,_,_,z⟩
  ·obtain ⟨v,o,ho,hd⟩:=I.cell x c z;exact ⟨v,o,k _ o ho,hd⟩
  ·exact ⟨ae,z⟩
 ·show upd H D (.lst []) C=none
  rw [Af hDC];exact fC
 ·intro x c e;rcases sub x c e with z | ⟨z1,z2,_,_⟩
  ·obtain ⟨v,q⟩:=I.cell x c z;rw [Af (YF (YG q.lt hD))];exact I.freeC x c z
  ·rw [Af z2];exact I.hok.fresh z1
 ·intro p hp;cases hp
theorem Pj {fn:Str->Bool} {pl:List (Addr × Obj)} (I:An X pins σ H s2) (hf:∀ b ∈ fp,Eg X pins H b) (hC:s2.heap.objs.size<=C) (I2:An (BM X scope cl N s2 H C fp fn) pl Av H' s')
  (hs:Heap.SameBut C s'.heap h'):An X pins σ H' { s' with heap:=h' }:=by
 have nC:∀ b o,s2.heap.get? b=some o->b ≠ C:=fun b o e=>YF (YG (YC e) hC)
 have u:=I2.base;refine I.call' (s':={ s' with heap:=h' }) (ch:=fp) I2.os ⟨?_,?_,u.free,?_,u.tups,u.frzs,u.tbls⟩ ?_ I2.bare fun b hb=>?_
 ·exact fun b o e n h1 h2=>(hs.2 b (nC b o e)).trans (u.keep b o e n h1 h2)
 ·intro b o e n h1 h2;obtain ⟨sl,q⟩:=u.slot b o e n h1 h2;exact ⟨sl,(hs.2 b (nC b o e)).trans q⟩
 ·intro b o e h2;obtain ⟨o',q⟩:=u.there b o e h2;exact ⟨o',(hs.2 b (nC b o e)).trans q⟩
 ·intro b ob e;have hfree:H' C=none:=I2.free;refine (I2.hok b ob e).stay (fun c w' hc q=>(hs.2 c ?_).trans q) (fun _ q=>q) fun _ _ q=>q
  rintro rfl;rcases hc with rfl | hc
  ·rw [hfree] at e; cases e
  ·rw [hfree] at hc; cases hc
 ·obtain ⟨_,f1,_,f3,f4,f5⟩:=hf b hb;exact ⟨f3,f1,f4,f5⟩
end
end L2
namespace L2
open PySem PySem.Spec PySem.W PyProof.Rows
end L2
namespace L2
open PySem PySem.Spec PyProof.Rows
theorem Ga.caught {X:Cx} {scope:Scope} {cl:List (Str × Addr)} (clos:closureFor scope X.env=pure cl) (hkind:scope.kind=.function)
  (hnames:∀ y ∈ scope.names,y.2=.local->scope.names.lookup y.1=some .local) (hcl:∀ y ∈ cl,X.env.cells.lookup y.1=some y.2) (hap:cl.Pairwise fun x y=>x.2 ≠ y.2)
  (hfr:∀ y ∈ scope.names,y.2=.free->∃ c,(y.1,c) ∈ cl):Ga X scope cl:=by
 refine ⟨clos,hkind,hnames,fun x c h=>hcl _ h,hap,fun x h=>?_⟩;have key:∀ k,(relabel scope X.env).names.lookup x=some k->k=.cell\/k=.free->(x,NameKind.cell) ∈ scope.names\/∃ c,(x,c) ∈ cl:=by
  intro k e hk;have m:=Dc e;obtain ⟨⟨n,k'⟩,hm,e'⟩:=YA.mp m;dsimp only at e';by_cases hf:k'=.free
  ·subst hf;have en:n=x:=by
    by_cases hc:(NameKind.free == NameKind.free && X.env.scope.kind == .function && X.env.kindOf n == some .cell)=true
    ·rw [if_pos hc] at e';injection e'
    ·rw [if_neg hc] at e';injection e'
   subst en;exact .inr (hfr _ hm rfl)
  ·have:(k' == NameKind.free)=false:=by
    cases k' <;> first | rfl | exact absurd rfl hf
   rw [this] at e';simp at e';obtain ⟨rfl,rfl⟩:=e';rcases hk with rfl | rfl
   ·exact .inl hm
   ·exact absurd rfl hf
 rcases h with h | h
 ·exact key _ h (.inl rfl)
 ·exact key _ h (.inr rfl)
theorem Ax (K:Y3) {X:Cx} (h:X.K=K):Bl X (.builtin "len") (fun xs H Q=>∃ p vs,xs=[V.ref p]/\(AB K H p vs\/A7 K H p vs)/\Q (.int vs.length) H):=by subst h; exact Ec
theorem Bt (K:Y3) {X:Cx} {tg l:Expr} {tl:TE} (h:X.K=K) (hl:PE X l tl):PI X tg l (Tz K tl):=by subst h; exact Kh hl
theorem AR (K:Y3) {X:Cx} {tg l:Expr} {tl:TE} (h:X.K=K) (hl:PE X l tl):PI X tg l (iTup K tl):=by subst h; exact Q6 hl
def GtAt (A:Around) (s:Shared) (x y:Value) (b:Bool):Prop:=∀ (prog:Program) (w:World) (E Q:Value->Shared->Prop),Q (.bool b) s->wpAny (model prog w) A (richCompare .Gt x y) Q E s
def Gs (h:Heap) (v:Value) (ss:List Str):Prop:=∃ a us,v=.ref a/\IsTup h a us.toArray/\A4 (ss.map V.str) us
def S1 (k:Int × List Str):List Du:=.i k.1 :: k.2.map Du.s
theorem Gs.keep {h h':Heap} {v:Value} {p:List Str} (x:Gs h v p) (k:∀ b o,h.get? b=some o->h'.get? b=some o):Gs h' v p:=by
 obtain ⟨a,us,rfl,⟨o,ho,r⟩,z⟩:=x;exact ⟨a,us,rfl,⟨o,k _ _ ho,r⟩,z⟩
theorem QQ {p q:Int × List Str} (h:S1 p=S1 q):p=q:=by
 unfold S1 at h;injection h with h1 h2;injection h1 with h1;have:p.2=q.2:=by
  have inj:∀ {xs ys:List Str},xs.map Du.s=ys.map Du.s->xs=ys:=by
   intro xs;induction xs with
   | nil=>intro ys e; cases ys with | nil=>rfl | cons y ys=>cases e
   | cons x xs ih=>
    intro ys e;cases ys with
    | nil=>cases e
    | cons y ys=>
     rw [YK,YK] at e;injection e with e1 e2;injection e1 with e1;rw [e1,ih e2]
  exact inj h2
 exact Prod.ext h1 this
theorem Jk {us vs:List Value} {xs:List Str} (r1:A4 (xs.map V.str) us) (j:Nat) (hj:j < us.length):∃ t x,xs[j]? = some x/\us[j]=.str x t:=by
 have l1:=r1.length;rw [Y0] at l1;have e:(xs.map V.str)[j]? = some (V.str (xs[j]'(by lia))):=by rw [Y9,Y1 (by lia)]; rfl
 obtain ⟨u,e1,r⟩:=r1.get e;obtain ⟨t,rfl⟩:=r;rw [Y1 hj] at e1;exact ⟨t,_,Y1 (by lia),YM.inj e1⟩
theorem Jj {us:List Value}:∀ {xs ys:List Str},A4 (xs.map V.str) us->A4 (ys.map V.str) us->xs=ys:=by
 induction us with
 | nil=>
  intro xs ys r1 r2;cases xs with
  | nil=>cases ys with | nil=>rfl | cons _ _=>cases r2
  | cons _ _=>cases r1
 | cons u us ih=>
  intro xs ys r1 r2;cases xs with
  | nil=>cases r1
  | cons x xs=>
   cases ys with
   | nil=>cases r2
   | cons y ys=>
    cases r1 with
    | cons a1 b1=>
     cases r2 with
     | cons a2 b2=>
      obtain ⟨t,e⟩:=a1;obtain ⟨t',e'⟩:=a2;rw [e] at e';cases e'
      rw [ih b1 b2]
theorem NC {A:Around} {s:Shared} {v w:Value} {xs ys:List Str} (hv:Gs s.heap v xs) (hw:Gs s.heap w ys) (hu:A.units < cLine):SeqAt.EqAt A s v w (decide (xs=ys)):=by
 obtain ⟨a,us,rfl,ha,r1⟩:=hv;obtain ⟨b,vs,rfl,hb,r2⟩:=hw;by_cases hab:a=b
 ·subst hab;have e:xs=ys:=by
   obtain ⟨o,ho,hc,n,hd⟩:=ha;obtain ⟨o',IY,Hn,n',LI⟩:=hb;rw [ho] at IY;cases IY
   rw [hd] at LI;injection LI with e1 e2;have e3:=congrArg bx e1;simp only at e3;subst e3;exact Jj r1 r2
  rw [decide_eq_true e];intro prog w E Q h;unfold eqBool;refine wpAny_holding ?_;exact wpAny_ite_split (fun _=>wpAny_bind (wpAny_rule (wpAny_pure h))) (fun hn=>absurd (by simp) hn)
 ·have l1:=r1.length;have l2:=r2.length;rw [Y0] at l1 l2;have key:=SeqAt.RcAt.tuples (A:=A) (s:=s) (e:=fun j=>xs[j]? == ys[j]?) (show s.heap.IsTuple a us.toArray from ha) (show s.heap.IsTuple b vs.toArray from hb) hu (fun j h1 h2=>by
   obtain ⟨t,x,e1,e2⟩:=Jk (vs:=us) r1 j (by simpa using h1);obtain ⟨t',y,e3,e4⟩:=Jk (vs:=vs) r2 j (by simpa using h2);rw [cq,cq,e2,e4,e1,e3];have:=SeqAt.EqAt.str_str x t y t' (A:=A.in1) (s:=s);exact this)
  have e:((ZP (min us.toArray.size vs.toArray.size)).all (fun j=>xs[j]? == ys[j]?) && us.toArray.size == vs.toArray.size)=decide (xs=ys):=by
   rw [Z7,Zn,Z8,decide_eq_true_iff];simp only [ar,YN,beq_iff_eq];constructor
   ·rintro ⟨h1,h2⟩;refine cM fun j=>?_
    by_cases hj:j < us.length
    ·exact h1 j (by lia)
    ·rw [aT (by lia),aT (by lia)]
   ·rintro rfl;exact ⟨fun j _=>rfl,by lia⟩
  rw [e] at key;exact SeqAt.EqAt.of_refs hab key
def CmpsG (A:Around) (s:Shared) (z:Bool):List (Value × Value)->Bool->Prop
 | [],r=>r=z
 | p :: Co,r=>∃ e,SeqAt.EqAt A s p.1 p.2 e/\(e=false->GtAt A s p.1 p.2 r)/\(e=true->CmpsG A s z Co r)
section
open PySem.SeqAt
open PySem.AutoSeq1 (wpAny_loadPart')
open PySem.MeetsSeq PySem.MeetsSeq2 PySem.MeetsSeq3
end
def LG (A:Around) (s:Shared) (z:Bool):List (Value × Value)->Bool->Prop
 | [],r=>r=z
 | p :: Co,r=>∃ e,SeqAt.EqAt A s p.1 p.2 e/\(e=false->CQ A s p.1 p.2 r)/\(e=true->LG A s z Co r)
section
open PySem.SeqAt
open PySem.AutoSeq1 (wpAny_loadPart')
open PySem.MeetsSeq PySem.MeetsSeq2 PySem.MeetsSeq3
theorem Oa (l b:Addr) (xs ys:Array Value) (n n2:Nat) (dd NH:Option Addr) (sl Pn:Array (Option Value)) (r:Bool) :
  Meets (Builtin.«tuple.__lt__» ⟨[.ref l,.ref b],[]⟩)
   (fun A R s=>s.heap.get? l=some { cls:=.type "tuple",dict:=dd,data:=.seq xs n,slots:=sl }/\s.heap.get? b=some { cls:=.type "tuple",dict:=NH,data:=.seq ys n2,slots:=Pn } /\
    LG A.in1 s (decide (xs.size < ys.size)) (xs.toList.zip ys.toList) r/\R (.ok (.ret (.bool r))) s):=
 .of_wp fun prog w A R s h=>by
  obtain ⟨hp,g,d,tk,os⟩:=s; obtain ⟨hl,hb,hc,h⟩:=h;have f2:=AutoSeq1.sub_tuple_tuple;wp_walk using wpAny_loadPart' hl,wpAny_loadPart' hb,wpAny_forIn_list _ (fun Co b s'=>b.1=none/\s'=⟨hp,g,d,tk,os⟩/\LG A.in1 ⟨hp,g,d,tk,os⟩ (decide (xs.size < ys.size)) Co r) _
  case turn=>
   rintro ⟨y,x⟩ Co b s' ⟨Fb,rfl,e,he,h1,h2⟩;refine wpAny_bind (he prog w _ _ ?_);cases ee:e with
   | true=>
    wp_walk
    exact ⟨rfl,rfl,h2 ee⟩
   | false=>
    have hri:=h1 ee prog w;wp_walk using hri;exact ⟨_,rfl,by simpa using h⟩
  case fin=>
   rintro ⟨b1',b2'⟩ s' ⟨Fb,rfl,hz⟩;have Pp:r=decide (xs.size < ys.size):=hz;simp only at Fb;subst Fb Pp;wp_walk;exact ⟨_,rfl,by simpa [Builtin.Tuple.tupleCompareSizes] using h⟩
  case h=>
   exact ⟨rfl,rfl,hc⟩
end
theorem CQ.tupN {A:Around} {s:Shared} {l b:Addr} {xs ys:Array Value} {r:Bool} (hl:IsTup s.heap l xs) (hb:IsTup s.heap b ys) (hu:A.units < cLine) (hc:LG A.in1 s (decide (xs.size < ys.size)) (xs.toList.zip ys.toList) r):CQ A s (.ref l) (.ref b) r:=fun prog w E Q h=>by
 obtain ⟨⟨cls,dd,data,sl⟩,ho,Hn,n,hd⟩:=id hl;obtain ⟨⟨US,NH,data2,Pn⟩,OM,OQ,n2,hd2⟩:=id hb;simp only at Hn hd OQ hd2;subst Hn hd OQ hd2;exact richCompare_meets_room (op:=.Lt) ⟨_,ho,rfl⟩ ⟨_,OM,rfl⟩ PySem.F.slot_tuple_lt PySem.F.entry_tuple_lt (PySem.F.args_tuple_lt_2 _ _) (Oa l b xs ys n n2 dd NH sl Pn r)
  ⟨ho,OM,hc,show Value.bool _ ≠ Value.notImplemented/\Q (.bool _) s from ⟨(fun x=>nomatch x),h⟩⟩ hu
theorem IB {A:Around} {s:Shared}:∀ (xs ys:List Str) {us vs:List Value},A4 (xs.map V.str) us->A4 (ys.map V.str) vs->LG A s (decide (xs.length < ys.length)) (us.zip vs) (Bg (xs.map Du.s) (ys.map Du.s))
 | [],[],_,_,r1,r2=>by cases r1; cases r2; rfl
 | [],y :: ys,_,_,r1,r2=>by cases r1; cases r2; rfl
 | x :: xs,[],_,_,r1,r2=>by cases r1; cases r2; rfl
 | x :: xs,y :: ys,_,_,r1,r2=>by
  cases r1 with
  | cons a1 b1=>
   cases r2 with
   | cons a2 b2=>
    obtain ⟨t,rfl⟩:=a1;obtain ⟨t',rfl⟩:=a2;refine ⟨x == y,SeqAt.EqAt.str_str _ _ _ _,fun e=>?_,fun e=>?_⟩
    ·have e:¬ x=y:=by simpa using e
     have:=CQ.str A s x t y t';rw [YK,YK];unfold Bg;rw [if_neg (by intro z; injection z with z; exact e z)];exact this
    ·have e:x=y:=by simpa using e
     rw [YK,YK];unfold Bg;rw [if_pos (by rw [e])];have:=IB xs ys b1 b2 (A:=A) (s:=s);rw [YX,YX];simp only [Nat.add_lt_add_iff_right];exact this
theorem Ss {A:Around} {s:Shared} {v w:Value} {xs ys:List Str} (hv:Gs s.heap v xs) (hw:Gs s.heap w ys) (hu:A.units < cLine):CQ A s v w (Bg (xs.map Du.s) (ys.map Du.s)):=by
 obtain ⟨a,us,rfl,ha,r1⟩:=hv;obtain ⟨b,vs,rfl,hb,r2⟩:=hw;refine CQ.tupN ha hb hu ?_;have l1:=r1.length;have l2:=r2.length;rw [Y0] at l1 l2;have:=IB (A:=A.in1) (s:=s) xs ys r1 r2;rw [l1,l2] at this;simpa using this
section
variable {prog:Program} {w:World} {A:Around} {R:Result->Shared->Prop} {I:Addr} {fp wr:List Addr} {n:Nat} {P:Nat->Value->Prop} {St:Nat->Heap->Prop} {g0:Heap}
end
section
variable {prog:Program} {w:World} {A:Around} {E:Value->Shared->Prop} {s:Shared}
end
theorem Ti {X:Cx} {pins:List (Addr × Obj)} {σ:St} {H:Hp} {s:Shared} {l:Addr} {ss:List Str} (I:An X pins σ H s) (h:H l=some (.tup (ss.map V.str))):Gs s.heap (.ref l) ss:=by
 obtain ⟨Ap,rv,pl,hz⟩:=I.tuple (A7.of h);exact ⟨l,Ap,rfl,pl,rv⟩
section
variable {X:Cx} {pins:List (Addr × Obj)} {σ:St} {H:Hp} {s:Shared}
end
theorem QG (K:Y3) {X:Cx} (h:X.K=K):En X (binaryOp .Add) (Tr K):=by subst h; exact Sh
inductive Ct (H:Hp):List V->List (List Str)->Prop
 | nil:Ct H [] []
 | cons {t:Addr} {us:List V} {f:List Str} {fs:List (List Str)}:H t=some (.tup (f.map V.str))->Ct H us fs->Ct H (.ref t :: us) (f :: fs)
theorem Ct.len {H:Hp} {us:List V} {fs:List (List Str)} (h:Ct H us fs):us.length=fs.length:=by
 induction h with
 | nil=>rfl
 | cons _ _ ih=>rw [YX,YX,ih]
theorem Ct.keep {H H':Hp} {us:List V} {fs:List (List Str)} (h:Ct H us fs) (s:∀ b xs,H b=some (.tup xs)->H' b=some (.tup xs)):Ct H' us fs:=by
 induction h with
 | nil=>exact .nil
 | cons a _ ih=>exact .cons (s _ _ a) ih
theorem Ct.app {H:Hp} {us vs:List V} {fs gs:List (List Str)} (h:Ct H us fs) (h':Ct H vs gs):Ct H (us ++ vs) (fs ++ gs):=by
 induction h with
 | nil=>exact h'
 | cons a _ ih=>exact .cons a ih
theorem Ct.get {H:Hp} {us:List V} {fs:List (List Str)} (h:Ct H us fs):∀ {i:Nat} {u:V},us[i]? = some u->∃ t f,u=.ref t/\fs[i]? = some f/\H t=some (.tup (f.map V.str)):=by
 induction h with
 | nil=>intro i u e; simp at e
 | cons a _ ih=>
  intro i u e;cases i with
  | zero=>simp at e; subst e; exact ⟨_,_,rfl,rfl,a⟩
  | succ i=>exact ih (by simpa using e)
theorem Ct.mem {H:Hp} {us:List V} {fs:List (List Str)} (h:Ct H us fs) {u:V} (hu:u ∈ us):∃ t f,u=.ref t/\f ∈ fs/\H t=some (.tup (f.map V.str)):=by
 obtain ⟨i,hi⟩:=ZD hu;obtain ⟨t,f,e,ef,ht⟩:=h.get hi;exact ⟨t,f,e,Y5 ef,ht⟩
theorem Ct.perm {H:Hp} {us JV:List V} (p:JV.Perm us):∀ {fs:List (List Str)},Ct H us fs->∃ Vo,Vo.Perm fs/\Ct H JV Vo:=by
 induction p with
 | nil=>intro fs h; cases h; exact ⟨[],.refl _,.nil⟩
 | cons x p ih=>
  intro fs h;cases h with
  | cons a b=>
   obtain ⟨Vo,p',t'⟩:=ih b;exact ⟨_ :: Vo,p'.cons _,.cons a t'⟩
 | swap x y l=>
  intro fs h;cases h with
  | cons a b=>
   cases b with
   | cons c d=>exact ⟨_ :: _ :: _,.swap _ _ _,.cons c (.cons a d)⟩
 | trans p1 p2 UB UA=>
  intro fs h;obtain ⟨f1,q1,t1⟩:=UA h;obtain ⟨f2,q2,t2⟩:=UB t1;exact ⟨f2,q2.trans q1,t2⟩
theorem Ct.kinds {H:Hp} {us:List V} {fs:List (List Str)} (h:Ct H us fs) (ne:∀ f ∈ fs,f ≠ []):∀ v ∈ us,My H (fun _=>true) v:=by
 intro v hv;obtain ⟨t,f,rfl,hf,ht⟩:=h.mem hv;refine ⟨t,_,rfl,ht,by simpa using ne f hf,fun i y e=>?_⟩;rw [Y9] at e;cases z:f[i]? with
 | none=>rw [z] at e; cases e
 | some x=>rw [z] at e; exact ⟨x,(YM.inj e).symm⟩
theorem Rp {xs ys:List Str} (h:xs.map Du.s=ys.map Du.s):xs=ys:=by
 have:=@QQ (0,xs) (0,ys) (by unfold S1; rw [h]);exact (Prod.mk.inj this).2
def C2:V->Nat->Bool
 | .int i,k=>decide ((k:Int)<=i)
 | _,_=>true
def Ru (sites:List Str) (x:V) (os:List (List Str)):Prop:=
 os.Nodup/\True/\∀ ss,ss ∈ os ↔ ss ≠ []/\ss.Sublist sites/\C2 x ss.length=true
theorem Ru.ne {sites:List Str} {x:V} {d:PyData} {os:List (List Str)} (h:Ru sites x os) (hs:sites ≠ []) (l:Lim x d):os ≠ []:=by
 cases sites with
 | nil=>exact absurd rfl hs
 | cons s sites=>
  have:[s] ∈ os:=(h.2.2 [s]).mpr ⟨by simp,(aI _).cons₂ s,by
   rcases l with ⟨rfl,_⟩ | ⟨i,rfl,_,h1,_⟩
   ·rfl
   ·exact decide_eq_true (by simpa using h1)⟩
  intro z;rw [z] at this;cases this
def NP (H:Hp) (c:Addr) (sites:List Str) (x:V) (d:PyData):Prop:=
 ∃ (m t2:V) (t1:Addr) (ER:List V) (Az:List CB),H c=some (.tup [m,.ref t1,t2,x])/\H t1=some (.tup ER)/\Bw H ER (Az.map GP)/\Az.map (·.1)=sites/\sites.Nodup/\sites.length<=10/\Lim x d
theorem Dt.sites {H:Hp} {c m:Addr} {n:Nat} {xs:List Str} {ws:List AG} {Az Bh:List CB} {x:V} {d:PyData} (h:Dt H c m n xs ws Az Bh x d):NP H c (Az.map (·.1)) x d:=by
 obtain ⟨t1,t2,ER,LM,a,b,e,f,g⟩:=h.ex;exact ⟨_,_,t1,ER,Az,a,b,e,rfl,h.ok1.nd,by rw [Y0]; exact h.l1,h.lim⟩
theorem Q4 {X:Cx} (fn:Str->Bool) {ix:Nat} {x:Str} {px spos:Pos} {tg iter elt:Expr} {ifs:List Expr} {scope:Scope} {cl:List (Str × Addr)} {N:List Str} {pos:Pos} {wi:TI} {g:TG} {tt:TT} {te:TE} {σ0:St->St} (hN:X.N.Nodup) (hix:X.N[ix]? = some x) (hlx:UZ X.env.scope x) (hc:X.calm=true) (co:Ga X scope cl) (hfn:∀ x,fn x=true->(x,NameKind.cell) ∈ scope.names)
  (hσ:∀ σ,σ.length=X.N.length->AH X cl scope N σ (σ0 σ)) (hK:∀ (σ:St) (i:Nat) (x:Str) (v:V),N[i]? = some x->(σ0 σ)[i]? = some (some v)->(x,NameKind.cell) ∉ scope.names) (hi:PI X tg iter wi)
  (hb:∀ s2 H C fp,PG (BM X scope (cellsFrom (C + 1) scope.names cl) N s2 H C fp fn) tg g/\TH (BM X scope (cellsFrom (C + 1) scope.names cl) N s2 H C fp fn) ifs tt/\PE (BM X scope (cellsFrom (C + 1) scope.names cl) N s2 H C fp fn) elt te)
  (hsw:swapsWith (.ListComp elt [⟨tg,iter,ifs,0⟩] scope pos) (some (.Name x px)) spos.line X.env=pure true:=by rfl)
  (hs:∀ x,foldedSetIterable iter X.env x=pure x:=by intro _; rfl) (hf:X.fn x=true\/X.env.scope.names.lookup x=some .local:=by first | exact .inl rfl | exact .inr rfl | assumption) :
  PS X (.Assign [.Name x px] (.ListComp elt [⟨tg,iter,ifs,0⟩] scope pos) spos) (PV (MF wi g tt te σ0) (JB ix)):=by
 intro pins s σ H DD I h;rw [exec_Assign_Name_used _ _ _ _ hsw];refine wpAny_bind (wpAny_standAt (wpAny_bind ?_));show wpAny _ X.A (do let _ <- comprehension (.ListComp elt [⟨tg,iter,ifs,0⟩] scope pos) scope X.env _ (newList []) false (eval iter X.env) (some (assign (.Name x px) X.env))) _ _ s
 refine wpAny_bind (wpAny_mono (wpAny_comprehension_free (use:=some (assign (.Name x px) X.env)) (Q:=fun _ s'=>SP X pins DD .next s') rfl hs co.clos co.kind co.names
  (wpAny_mono (hi (pins:=pins) s σ H _ I h) (fun xv s1 h1=>wpAny_mono h1 (fun itv s2 h2=>?_) fun _ _ e=>e) fun _ _ e=>e)) (fun _ s' hq=>wpAny_pure (wpAny_pure hq)) fun _ _ e=>e)
 obtain ⟨it,fp,tn,J,H2,rfl,I2,T,ET,f2,hW⟩:=h2;refine wpAny_newObj_type (IP ?_);dsimp only;generalize Ih:s2.heap.push { cls:=.type "list",dict:=none,data:=.seq ([]:List Value).toArray } = HH;have Bz:HH.objs.size=s2.heap.objs.size + 1:=by rw [<-Ih,Zk]
 obtain ⟨h₁,Lz⟩:∃ h₁,h₁=pushCells (HH.push { cls:=.type "dict",data:=.dict #[] }) scope.names:=⟨_,rfl⟩
 rw [<-Lz];have B4:h₁.Ns HH.objs.size (fun _=>ae):=by
  rw [Lz];exact (Heap.Ns.new HH (.type "dict")).keeps (pushCells_keeps _ _)
 have old:∀ b o,s2.heap.get? b=some o->h₁.get? b=some o:=fun b o e=>by
  rw [Lz];exact pushCells_keeps _ _ _ _ (Y2 _ (Ih ▸ Y2 _ e))
 have newD:∃ n,h₁.get? s2.heap.objs.size=some { cls:=.type "list",data:=.seq ([]:List Value).toArray n }:=by
  refine ⟨0,?_⟩;rw [Lz];exact pushCells_keeps _ _ _ _ (Y2 _ (Ih ▸ YD _ rfl))
 obtain ⟨JH,ecl⟩:∃ JH,JH=cellsFrom (HH.objs.size + 1) scope.names cl:=⟨_,rfl⟩
 have clt:∀ x c,(x,c) ∈ cl->c < s2.heap.objs.size:=fun x c e=>by
  obtain ⟨v,q⟩:=I2.cell x c (co.sub x c e);exact q.lt
 have Ko:∀ x c,(x,c) ∈ JH->(x,c) ∈ cl\/(HH.objs.size + 1<=c/\h₁.IsCell c ae):=fun x c hm=>by
  have hsz:(HH.push { cls:=.type "dict",data:=.dict #[] }).objs.size=HH.objs.size + 1:=Zk ..;rw [ecl,<-hsz] at hm;have q:=Gn scope.names (HH.push { cls:=.type "dict",data:=.dict #[] }) cl (HH.objs.size + 1) (by rw [hsz]; exact Y7 _) (fun y d hy=>.inl (YG (clt y d hy) (by rw [Bz]; lia))) x c hm;rw [Lz];exact q
 have ap':JH.Pairwise fun x y=>x.2 ≠ y.2:=by
  rw [ecl];exact E8 _ _ _ co.apart fun x c hm=>YG (clt x c hm) (by rw [Bz]; lia)
 have Vx:∀ x c,JH.lookup x=some c->X.env.cells.lookup x=some c\/(s2.heap.objs.size<=c/\c ≠ s2.heap.objs.size/\c ≠ HH.objs.size/\h₁.IsCell c ae):=fun x c e=>by
  rcases Ko x c (PySem.mem_of_lookup e) with q | ⟨q1,q2⟩
  ·exact .inl (co.sub x c q)
  ·exact .inr ⟨by rw [Bz] at q1; exact aL (YG (YV (YZ _)) q1),Zx (by rw [Bz] at q1; exact YG (YV (YZ _)) q1),Zx (YG (YZ _) q1),q2⟩
 have Xw:∀ x y c,JH.lookup x=some c->JH.lookup y=some c->x=y:=fun x y c e1 e2=>name_of_addr ap' (PySem.mem_of_lookup e1) (PySem.mem_of_lookup e2)
 have Xg:∀ x c,fn x=true->JH.lookup x=some c->s2.heap.objs.size<=c:=fun x c h e=>by
  rw [ecl] at e;exact Gm s2.heap.objs.size scope.names (HH.objs.size + 1) cl x c (by rw [Bz]; lia) (.inl (hfn x h)) e
 have X9:∀ x,((relabel scope X.env).names.lookup x=some .cell\/(relabel scope X.env).names.lookup x=some .free)->∃ c,JH.lookup x=some c:=fun x h=>by
  obtain ⟨c,hc⟩:=Gp scope.names (HH.objs.size + 1) cl x (co.has x h);rw [ecl];exact CZ hc
 have keepS:∀ (i:Nat) (x:Str) (v:V),N[i]? = some x->(σ0 σ)[i]? = some (some v)->∀ c,JH.lookup x=some c->X.env.cells.lookup x=some c:=fun i x v e1 e2 c e=>by
  rw [ecl] at e;have m2:=Fh scope.names (HH.objs.size + 1) cl x c (PySem.mem_of_lookup e) (hK σ i x v e1 e2);exact co.sub x c m2
 obtain ⟨W,⟨m0,w0⟩,turn⟩:=hW s2.heap.objs.size I2.fresh;have hfo:∀ b ∈ fp,∃ o,s2.heap.get? b=some o:=fun b hb=>let ⟨o,e,_⟩:=T.obj _ _ ET b hb; ⟨o,e⟩
 have Xy:∀ σ,σ.length=X.N.length->AH X JH scope N σ (σ0 σ):=fun σ h=>hσ σ h
 have I3:An (BM X scope JH N s2 H2 HH.objs.size fp fn) [] (σ0 σ) (upd H2 s2.heap.objs.size (.lst [])) { s2 with heap:=h₁,toks:=s2.toks }:=
  L6 I2 f2 hfo co Vx Xw Xg X9 keepS (Xy σ I.len) old (Y7 _) (by rw [Bz]; exact Ze _) (Zx (by rw [Bz]; exact YZ _)) (.inr newD) B4
 have fC:s2.heap.objs.size<=HH.objs.size:=by rw [Bz]; exact Ze _
 obtain ⟨hg,ht,he⟩:=hb s2 H2 HH.objs.size fp;rw [<-ecl] at hg ht he;have loop:∀ BW:Shared,BW = { s2 with heap:=h₁,toks:=s2.toks } ->
   codeAny (model X.prog X.w) X.A (.compLoop (.ListComp elt [⟨tg,iter,ifs,0⟩] scope pos) 0 (.ref it) (.ref s2.heap.objs.size) (compEnvC scope JH HH.objs.size X.env))
    (compPost (model X.prog X.w) X.A X.xe (some (assign (.Name x px) X.env)) (fun _ s'=>SP X pins DD .next s') (.ref s2.heap.objs.size) HH.objs.size) BW:=by
  rintro BW rfl;have stat:∀ {H':Hp} ,(∀ b ∈ fp,H' b=none)->∀ b ∈ fp,Eg (BM X scope JH N s2 H2 HH.objs.size fp fn) [] H' b:=fun hn b hb=>by
   refine ⟨hn b hb,?_,?_,.inl hb,?_,fun p hp=>by cases hp⟩
   ·obtain ⟨o,e⟩:=hfo b hb;exact YF (show b < HH.objs.size by rw [Bz]; exact YV (YC e))
   ·intro hz;obtain ⟨_,q1,q2,_⟩:=f2 b hb;rcases Y4.mp (I2.stkSub b hz) with e | e
    ·exact q1 e
    ·exact q2 e
   ·intro x c e;rcases Vx x c e with z | ⟨z,_⟩
    ·exact (f2 b hb).2.2.2.2.1 x c z
    ·obtain ⟨o,eo⟩:=hfo b hb;exact Zx (YG (YC eo) z)
  refine BS (fun n s'=>∃ i Av H',An (BM X scope JH N s2 H2 HH.objs.size fp fn) [] Av H' s'/\tn i s'.heap/\(∀ b ∈ fp,H' b=none)/\W i n Av H') ?_ m0
   ⟨0,σ0 σ,_,I3,T.keep _ _ _ ET fun b hb o e=>old b o e,fun b hb=>?_,w0⟩
  ·rintro n s4 ⟨i,F3,H4,I4,KH,Lv,w4⟩;rcases turn i n F3 H4 w4 with ⟨stop,qn⟩ | ⟨go,step⟩
   ·refine wpAny_mono (T.done (BM X scope JH N s2 H2 HH.objs.size fp fn) rfl rfl rfl hc i [] s4 F3 H4 (fun _ _=>False) I4 (stat Lv) KH stop) (fun r s5 ⟨hr,I5⟩=>?_) fun _ _ z=>z.elim
    subst hr;obtain ⟨m5,QW,_⟩:=id I5.loc;have I6:An X pins σ H4 s5:=Pj (h':=s5.heap) I2 f2 fC I5 (Heap.SameBut.refl _ _);have cC:∀ y c,X.env.cells.lookup y=some c->c ≠ HH.objs.size:=fun y c e=>by
     obtain ⟨v,q⟩:=I2.cell y c e;exact YF (YG q.lt fC)
    have lC:X.env.locals ≠ HH.objs.size:=YF (YG I2.lt fC);show wpAny _ X.A (assign (.Name x px) X.env (.ref s2.heap.objs.size)) _ X.xe s5
    refine wpAny_assign_Name (EF I6 hN hix hlx (v:=.ref s2.heap.objs.size) rfl (fun s7 I7 ⟨a,sb,ha⟩=>?_) hf);have aC:a ≠ HH.objs.size:=by
     rcases ha with rfl | ha
     ·exact lC
     ·exact cC _ _ ha
    refine ⟨m5,QW.sameBut sb (Ne.symm aC),fun h' JA=>⟨_,H4,?_,qn⟩⟩;exact I7.turned (t':=s7.toks) (it:=HH.objs.size) (fun b o hb e=>(JA.2 b hb).trans e) I5.free (Ne.symm lC) (.inr (YU I2.sz fC)) cC fun p hp z=>by
     have e:=(I2.pin p hp).1;exact absurd (YG (YC e) fC) (by rw [z]; exact Zp _)
   ·refine wpAny_mono (T.item (BM X scope JH N s2 H2 HH.objs.size fp fn) rfl rfl rfl hc i [] s4 F3 H4 (fun _ _=>False) I4 (stat Lv) KH go) (fun r s5 ⟨u,hr,h5⟩=>?_) fun _ _ z=>z.elim
    subst hr;refine wpAny_mono h5 (fun _ s6 ⟨x,H6,I6,r6,y6,Hs,Rf⟩=>?_) fun _ _ z=>z.elim
    have Rx:=I6.pinned (stat Rf) (T.obj _ _ Hs);refine wpAny_mono (hg s6 F3 H6 x u _ Rx r6 (step x H6 y6)) (fun _ s7 ⟨Eh,H7,I7,q7⟩=>?_) fun _ _ z=>z.elim
    refine wpAny_mono (ht s7 Eh H7 _ I7 q7) (fun ok s8 ⟨H8,I8,q8⟩=>?_) fun _ _ z=>z.elim
    have again:∀ {s9:Shared} {F2:St} {H9:Hp} ,An (BM X scope JH N s2 H2 HH.objs.size fp fn) ([] ++ Dw fp s6.heap) F2 H9 s9->(∃ m',m' < n/\W (i + 1) m' F2 H9)->∃ m,m < n/\∃ i Av H',An (BM X scope JH N s2 H2 HH.objs.size fp fn) [] Av H' s9/\tn i s9.heap/\(∀ b ∈ fp,H' b=none)/\W i m Av H':=fun {s9 F2 H9} I9 n9=>by
     obtain ⟨m',hm,w9⟩:=n9;refine ⟨m',hm,i + 1,F2,H9,I9.unpinned,T.keep _ _ _ Hs fun b hb o e=>(I9.pin (b,o) (YH _ (YH _ (AZ hb e)))).1,fun b hb=>?_,w9⟩;obtain ⟨o,e,d⟩:=T.obj _ _ Hs b hb;exact (I9.pin (b,o) (YH _ (YH _ (AZ hb e)))).2.1
    cases ok with
    | false=>
     rw [if_neg YI] at q8 ⊢;exact again I8 q8
    | true=>
     rw [if_pos rfl] at q8 ⊢;refine wpAny_mono (he s8 Eh H8 _ I8 q8) (fun y s9 ⟨v,H9,I9,r9,acc,hacc,hsz,q9⟩=>?_) fun _ _ z=>z.elim
     refine wpAny_mono (BZ (X:=BM X scope JH N s2 H2 HH.objs.size fp fn) s9 Eh H9 (.ref s2.heap.objs.size) [v] (.ref s2.heap.objs.size) [y] (fun _ LF=>∃ m',m' < n/\W (i + 1) m' Eh LF) I9 rfl (.cons r9 .nil) ⟨_,acc,v,rfl,rfl,hacc,hsz,q9⟩) (fun _ MR ⟨_,LF,Ry,_,Qz⟩=>?_) fun _ _ z=>z.elim
     exact again Ry Qz
  ·have z:=(f2 b hb).1;obtain ⟨o,e⟩:=hfo b hb;rw [Af (YF (YC e))];exact z
 subst ecl;exact codeAny_compStart_list (loop _ rfl) (T.self _ 0 _ _ _ (T.keep _ _ _ ET fun b hb o e=>old b o e) (loop _ rfl))
theorem HG {α β:Type} {F G:α->β->Prop}:∀ {Lq:List α} {Lp:List β},Paired F Lq Lp->(∀ a b,F a b->G a b)->Paired G Lq Lp
 | _,_,.nil,_=>.nil
 | _,_,.cons r t,h=>.cons (h _ _ r) (HG t h)
def Td (H:Hp) (a:Addr) (kvs:List (List A6 × V)) (o:Obj) (H':Hp):Prop:=H a=some (.dT kvs)/\H'=upd H a (.frz o (.dT kvs))
def Va (a:Addr) (kvs:List (List A6 × V)) (o:Obj) (ts:List Addr):It:=
 ⟨fun i H=>H a=some (.frz o (.dT kvs))/\i < ts.length,fun i H x H'=>H'=H/\∃ t,ts[i]? = some t/\x=.ref t,fun i H=>H a=some (.frz o (.dT kvs))/\ts.length<=i⟩
theorem Qy {X:Cx} {pins:List (Addr × Obj)} {σ:St} {H:Hp} {s:Shared} {a:Addr} {o:Obj} {kvs:List (List A6 × V)} {es:Array DictEntry} {ep:Nat} (I:An X pins σ H s) (e:H a=some (.frz o (.dT kvs))) (he:o.data=.dict es ep):D6 s.heap a es ep:=by
 obtain ⟨ho,_,_,xs,rel,o',SI,SM,h1,h2,h3,h4⟩:=(show A5 X.prog X.w H s.heap a (.frz o (.dT kvs)) from I.hok a _ e)
 rw [ho] at h1;cases h1
 exact ⟨o,ho,h2,he⟩
theorem RM {P:Program} {w:World} {K:Y3} {tg:Expr} (a it:Addr) {kvs:List (List A6 × V)} {o:Obj} {es:Array DictEntry} {ep:Nat} {ts:List Addr} (he:o.data=.dict es ep) (hk:es.toList.map (·.key)=ts.map Value.ref) :
  LA P w K tg (Va a kvs o ts) [it] it (fun i h=>h.IsKeyIter it a i es.size ep) where
 mem:=by simp
 obj:=fun i h st b hb=>by
  have e:b=it:=by simpa using hb
  subst e;obtain ⟨o,e,c,d⟩:=st;exact ⟨o,e,fun v z=>by rw [d] at z; cases z⟩
 keep:=fun i h h' st k=>st.at fun o e=>k it (by simp) o e
 item:=by
  intro X hP hw hK hc i pins s σ H E I hf st hg;subst hP hw hK;obtain ⟨hq,B0⟩:=hg;have rd:=Qy I hq he;have ex:es[i]?.map (·.key)=some (.ref ts[i]):=by
   have e:=congrArg (fun l:List Value=>l[i]?) hk;rw [Y9,Y9,Y1 B0,Z3] at e;exact e
  obtain ⟨f0,f1,f2,f3,f4,f5⟩:=hf it (by simp);refine KW st rd ex fun h' AM sb=>?_
  have I1:An X pins σ H { s with heap:=h' }:=I.turned (t':=s.toks) (fun b o hb e=>(sb.2 b hb).trans e) f0 f1 f3 f4 f5;obtain ⟨o',e,c,d⟩:=id AM;exact ⟨_,rfl,Ik (s:={ s with heap:=h' }) e c d (by decide) ⟨.ref ts[i],H,I1,rfl,⟨rfl,ts[i],Y1 B0,rfl⟩,AM,fun b hb=>(hf b hb).1⟩⟩
 done:=by
  intro X hP hw hK hc i pins s σ H E I hf st hg;subst hP hw hK;obtain ⟨hq,hle⟩:=hg;have rd:=Qy I hq he;obtain ⟨f0,f1,f2,f3,f4,f5⟩:=hf it (by simp);have hl:es.size=ts.length:=by
   have e:=congrArg Z5 hk;rw [Y0,Y0,YY] at e;exact e
  exact MW (I.ok.hd hc) st rd (by lia) fun h' eb=>⟨rfl,I.turned (t':=s.toks) (fun b o hb e=>eb b o hb e) f0 f1 f3 f4 f5⟩
 self:=fun _ _ _ _ _ st h=>wpAny_pyIter_keyiter st h
def UC (tl:TE):TI:=fun σ H R=>tl σ H fun x H1=>∃ a kvs,x=.ref a/\H1 a=some (.dT kvs)/\∀ o ts H2,Td H1 a kvs o H2->ts.length=kvs.length->(∀ (i:Nat) t p,ts[i]? = some t->kvs[i]? = some p->H2 t=some (.tup (p.1.map kV)))->R (Va a kvs o ts) H2
theorem Tt {X:Cx} {tg l:Expr} {tl:TE} (hl:PE X l tl):PI X tg l (UC tl):=by
 intro pins s σ H R I h;refine B5 (hl (pins:=pins) s σ H _ I h) fun v s1 ⟨x,H1,I1,r1,q1⟩=>?_
 obtain ⟨a,kvs,e,hr,q⟩:=q1;subst e;cases r1
 obtain ⟨z,y,xs,rel,o,es,ep,h1,h2,h3,h4,h5⟩:=(show A5 X.prog X.w H1 s1.heap a (.dT kvs) from I1.hok a _ hr)
 have I2:An X pins σ (upd H1 a (.frz o (.dT kvs))) s1:=by
  have tup:∀ b ys,H1 b=some (.tup ys)->b ≠ a:=fun b ys hb z=>by rw [z,hr] at hb; cases hb
  refine I1.write (x:=a) (e:=a) (h':=s1.heap) (t':=s1.toks) (by rw [hr]; exact True.intro) (.inl rfl) (fun b u _ q=>q) ⟨o,h1⟩ ⟨h1,z,y,xs,?_,o,es,ep,h1,h2,h3,h4,h5⟩;exact HG rel fun p q ⟨e1,e2,e3⟩=>⟨e1,by rw [Af (tup _ _ e2)]; exact e2,e3⟩
 have hk:es.toList.map (·.key)=(xs.map (·.2.1)).map Value.ref:=by rw [h4,Zb,Zb]; rfl
 have rd:D6 s1.heap a es ep:=⟨o,h1,h2,h3⟩
 refine KU y rd ?_;refine ⟨s1.heap.objs.size,[s1.heap.objs.size],_,_,_,rfl,I2.kept (t':=s1.toks) fun b o e=>Y2 _ e,RM a _ h3 hk,⟨_,YD _ rfl,rfl,rfl⟩,fun b hb=>?_,q o (xs.map (·.2.1)) _ ⟨hr,rfl⟩ (by rw [Y0]; exact (Paired.length rel).symm) fun i t p e1 e2=>?_⟩
 ·have e:b=s1.heap.objs.size:=by simpa using hb
  subst e;exact I2.fpOk (Y7 _) (I2.hok.fresh (Y7 _))
 ·obtain ⟨qq,e3,_,e4,_⟩:=Paired.at rel e2;rw [Y9,e3] at e1;cases e1
  show upd H1 a _ qq.2.1=_
  rw [Af (fun z=>by rw [z,hr] at e4; cases e4)];exact e4
theorem Nh {a:Addr} {kvs:List (List A6 × V)} {o:Obj} {ts:List Addr}:M7 (Va a kvs o ts) (ts.map V.ref) (fun H=>H a=some (.frz o (.dT kvs))):=
 ⟨fun i H q B0=>⟨q,by rwa [Y0] at B0⟩,fun i H x H' q ⟨e,t,et,ex⟩=>⟨e,by rw [Y9,et,ex]; rfl⟩,fun H q=>⟨q,by rw [Y0]; exact Y7 _⟩⟩
def LZ (K:Y3):R2:=fun x y H Q=>∃ a b xs ys,x=.ref a/\y=.ref b/\A7 K H a xs/\A7 K H b ys/\xs.length + ys.length<=sizeLine /\
 (xs=[]->Q (.ref b) H)/\(xs ≠ []->ys=[]->Q (.ref a) H)/\(xs ≠ []->ys ≠ []->∀ p,H p=none->Q (.ref p) (upd H p (.tup (xs ++ ys))))
theorem HI (K:Y3) {X:Cx} (hK:X.K=K):En X (binaryOp .Add) (LZ K):=by
 subst hK;intro pins s σ H x y v u Q I rx ry h;obtain ⟨a,b,xs,ys,rfl,rfl,ha,hb,hz,q0,q1,q2⟩:=h;cases rx
 cases ry
 obtain ⟨Ap,r1,p1,_⟩:=I.tuple ha;obtain ⟨HY,r2,p2,_⟩:=I.tuple hb;by_cases hx:xs=[]
 ·obtain ⟨⟨cls,dd,data,sl⟩,ho,hc,n,hd⟩:=id p1;obtain ⟨⟨US,NH,data2,Pn⟩,OM,OQ,n2,hd2⟩:=id p2;simp only at hc hd OQ hd2;subst hc hd OQ hd2;exact concat_meets ⟨_,ho,rfl⟩ ⟨_,OM,rfl⟩ noFill_tuple_add seq_tuple_add PySem.F.slot_tuple_add PySem.F.entry_tuple_add (PySem.F.args_tuple_add_2 _ _)
   (tuple_addW0 a b Ap.toArray HY.toArray n n2 dd NH sl Pn (by simp [r1.nil_iff.mpr hx])) ⟨ho,OM,⟨.ref b,H,I,rfl,q0 hx⟩⟩
 ·refine HT.cat_tup p1 p2 (fun z=>hx (r1.nil_iff.mp z)) (fun z=>⟨.ref a,H,I,rfl,q1 hx (r2.nil_iff.mp z)⟩) (fun z=>?_) (by rw [<-r1.length,<-r2.length]; exact hz);refine ⟨.ref s.heap.objs.size,_,I.laid (t':=s.toks) (o:=.tup (xs ++ ys)) (fun b ob q=>Y2 _ q) (Y7 _) ?_,rfl,q2 hx (fun w=>z (r2.nil_iff.mpr w)) _ (I.hok.fresh (Y7 _))⟩;exact ⟨by rw [Y6]; exact hz,_,r1.append r2,IsTup.new _ _,Mz.new rfl rfl⟩
theorem Fd {X:Cx} (hc:X.calm=true):Bl X (.builtin "min") (fun xs H Q=>∃ (a:Addr) (ns:List Int),xs=[.ref a]/\H a=some (.lst (ns.map V.int))/\ns ≠ [] /\
  ∀ m,m ∈ ns->(∀ x ∈ ns,m<=x)->Q (.int m) H):=by
 intro pins s σ H xs us Q I r h;obtain ⟨a,ns,rfl,ha,hne,q⟩:=h;obtain ⟨u,rfl,ru⟩:=BO r;cases ru
 obtain ⟨Ap,rv,pl,hz⟩:=I.list (AB.of ha);have il:Ap.length=ns.length:=by rw [<-rv.length,Y0]
 have pos:0 < ns.length:=ZF.mpr hne;refine J3 (bt:=fun i j=>decide (ns.getD i 0 < ns.getD j 0)) (I.ok.hd hc) pl.isList (by lia) (fun i j vi vj s' Q' E' g hi hj hQ=>?_) fun v h2 tk hv k2=>?_
 ·obtain ⟨x,t,e1,rfl⟩:=DY rv i vi hi;obtain ⟨y,u,e2,rfl⟩:=DY rv j vj hj;dsimp only at hQ;rw [YW,YW,e1,e2] at hQ;exact CQ.int _ _ _ _ _ _ _ _ _ _ hQ
 ·obtain ⟨x,t,e1,rfl⟩:=DY rv _ v hv;obtain ⟨b1,b2⟩:=IG (fun i j=>decide (ns.getD i 0 < ns.getD j 0)) (fun i=>ns.getD i 0) (fun i j h=>by have:=of_decide_eq_true h; lia) (fun i j h=>by have:=of_decide_eq_false h; lia) (Ap.length - 1);refine ⟨.int x,H,I.kept k2,⟨t,rfl⟩,q x (Y5 e1) fun y hy=>?_⟩;obtain ⟨j,hj,rfl⟩:=YQ hy;have:=b2 j (by lia);have e2:ns.getD j 0=ns[j]:=by simp [hj]
  have e3:ns.getD (argBest (fun i j=>decide (ns.getD i 0 < ns.getD j 0)) (Ap.length - 1)) 0=x:=by
   rw [YW,e1]; rfl
  rw [e2,e3] at this;exact this
def Md (ws:List AG) (ss:List Str) (y:Str) (d:Int):Prop:=(∃ s ∈ ss,Bj ws s y d)/\∀ s ∈ ss,∀ m,Bj ws s y m->d<=m
theorem Md.uniq {ws:List AG} {ss:List Str} {y:Str} {d e:Int} (h:Md ws ss y d) (g:Md ws ss y e):d=e:=by
 obtain ⟨⟨s,hs,h1⟩,h2⟩:=h;obtain ⟨⟨t,ht,g1⟩,g2⟩:=g;have a:=h2 t ht _ g1;have b:=g2 s hs _ h1;lia
def L9 (ws:List AG) (ss:List Str) (rs:List CB) (ds:List Int):Prop:=ds.length=rs.length/\∀ (i:Nat) r d,rs[i]? = some r->ds[i]? = some d->Md ws ss r.1 d
theorem L9.uniq {ws:List AG} {ss:List Str} {rs:List CB} {ds es:List Int} (h:L9 ws ss rs ds) (g:L9 ws ss rs es):ds=es:=by
 refine ZJ (by rw [h.1,g.1]) fun i i1 i2=>?_
 have hr:rs[i]? = some (rs[i]'(by rw [<-h.1]; exact i1)):=Y1 _;exact (h.2 i _ _ hr (Y1 i1)).uniq (g.2 i _ _ hr (Y1 i2))
def Fj (rs:List CB) (ds:List Int):Int:=((rs.zip ds).map fun p=>p.1.2 * p.2).sum
def Ff (ws:List AG) (Az Bh:List CB) (ss:List Str) (t:Int):Prop:=∃ ds,L9 ws ss Bh ds/\t=(ss.map (Dz Az)).sum + Fj Bh ds
theorem Ff.uniq {ws:List AG} {Az Bh:List CB} {ss:List Str} {t u:Int} (h:Ff ws Az Bh ss t) (g:Ff ws Az Bh ss u):t=u:=by
 obtain ⟨ds,a,rfl⟩:=h;obtain ⟨es,b,rfl⟩:=g;rw [a.uniq b]
def OpS (sites:List Str) (x:V) (ss:List Str):Prop:=ss ≠ []/\ss.Sublist sites/\C2 x ss.length=true
def R0 (H:Hp) (v:V) (xs:List Str) (ws:List AG) (s:Str):Prop:=∃ (B:Addr) (nb:List (Str × V)),v=.ref B/\H B=some (.dK (sK nb))/\nb.map (·.1)=xs/\∀ y u,(y,u) ∈ nb->∃ n,u=.int n/\JR ws s y n
def Hu:Sp:=fun vs H Q _=>∃ (c m:Addr) (n:Nat) (xs:List Str) (ws:List AG) (Az Bh:List CB) (x:V) (d:PyData),vs=[.ref c]/\Dt H c m n xs ws Az Bh x d /\
 ∀ (H':Hp) (D:Addr) (nv:List (Str × V)),Ar H H'->H D=none->H' D=some (.dK (sK nv))->nv.map (·.1)=Az.map (·.1)->(∀ s v,(s,v) ∈ nv->R0 H' v xs ws s)->Q (.ref D) H'
def Qe:Sp:=fun vs H Q _=>∃ (c:Addr) (sites:List Str) (x:V) (d:PyData),vs=[.ref c]/\NP H c sites x d /\
 ∀ mo:Int,0<=mo->(∀ k:Nat,k<=sites.length->((k:Int)<=mo ↔ C2 x k=true))->Q (.int mo) H
def Jr:Sp:=fun vs H Q _=>∃ (c e m:Addr) (n:Nat) (xs:List Str) (ws:List AG) (Az Bh:List CB) (x:V) (d:PyData) (us:List V) (os:List (List Str)),vs=[.ref c,.ref e]/\Dt H c m n xs ws Az Bh x d /\
 H e=some (.lst us)/\Ct H us os/\os.Nodup/\(∀ ss ∈ os,Vs (Az.map (·.1)) ss)/\os.length<=1024 /\
 ∀ (H':Hp) (D:Addr) (kvs:List (List A6 × V)),Ar H H'->H D=none->H' D=some (.dT kvs)->kvs.map (·.1)=os.map (fun ss=>ss.map Sum.inr)->(∀ ss v,(ss.map Sum.inr,v) ∈ kvs->∃ t,v=.int t/\Ff ws Az Bh ss t)->Q (.ref D) H'
def GH (l:List Str) (mo:Int) (fs:List (List Str)):Prop:=fs.Nodup/\∀ ss,ss ∈ fs ↔ ss.Sublist l/\(ss.length:Int)<=mo
theorem GH.nil {mo:Int} (h:0<=mo):GH [] mo [[]]:=⟨by simp,fun ss=>by
 constructor
 ·intro z;rw [YJ] at z;subst z;exact ⟨List.Sublist.refl _,by simpa using h⟩
 ·rintro ⟨z,_⟩;rw [bA.mp z];simp⟩
theorem GH.step {a:Str} {l:List Str} {mo:Int} {fs:List (List Str)} (ha:a ∉ l) (h:GH l mo fs):GH (l ++ [a]) mo (fs ++ (fs.filter fun f=>decide ((f.length:Int) < mo)).map (· ++ [a])):=by
 refine ⟨Zr.mpr ⟨h.1,?_,?_⟩,fun ss=>?_⟩
 ·exact ZO.mpr ((h.1.sublist ZG).imp fun {x y} ne e=>ne (List.append_cancel_right e))
 ·rintro x hx y hy rfl;obtain ⟨g,hg,rfl⟩:=YA.mp hy;exact ha (((h.2 _).mp hx).1.subset (by simp))
 ·rw [YR,YA,List.sublist_append_iff];constructor
  ·rintro (h1 | ⟨g,hg,rfl⟩)
   ·exact ⟨⟨ss,[],by simp,((h.2 _).mp h1).1,aI _⟩,((h.2 _).mp h1).2⟩
   ·obtain ⟨g1,g2⟩:=Zh.mp hg;exact ⟨⟨g,[a],rfl,((h.2 _).mp g1).1,List.Sublist.refl _⟩,by have:=of_decide_eq_true g2; rw [Y6,Zt]; lia⟩
  ·rintro ⟨⟨l1,l2,rfl,s1,s2⟩,le⟩;have:l2=[]\/l2=[a]:=by
    cases s2 with
    | cons _ s=>exact .inl (bA.mp s)
    | cons_cons _ s=>rw [bA.mp s]; exact .inr rfl
   rcases this with rfl | rfl
   ·rw [Zq] at le ⊢;exact .inl ((h.2 _).mpr ⟨s1,le⟩)
   ·rw [Y6,Zt] at le;exact .inr ⟨l1,Zh.mpr ⟨(h.2 _).mpr ⟨s1,by lia⟩,decide_eq_true (by lia)⟩,rfl⟩
theorem Ov {J:It} {xs:List V} {S:Hp->Prop} {g:TG} {tk tv:TE} {H:Hp} {σ0:St} {R:Addr->Hp->Prop} (ov:M7 J xs S) (ks:List Str) (hk:ks.length=xs.length) (nd:ks.Nodup) (I:Addr->Nat->St->Hp->List (Str × V)->Prop) (big:xs.length < sizeLine)
  (h0:∀ D,H D=none->I D 0 σ0 (upd H D (.dK (sK []))) [])
  (hs:∀ D i σ H' nv,H D=none->I D i σ H' nv->S H'/\H' D=some (.dK (sK nv))/\nv.map (·.1)=ks.take i)
  (turn:∀ D i σ H' nv x k (B:St->V->V->Hp->Prop),H D=none->xs[i]? = some x->ks[i]? = some k->I D i σ H' nv->(∀ Ay v H6,H6 D=some (.dK (sK nv))->I D (i + 1) Ay (upd H6 D (.dK (sK (nv ++ [(k,v)])))) (nv ++ [(k,v)])->B Ay (.str k) v H6) ->
   g x σ H' fun Ay H3=>tk Ay H3 fun y H5=>tv Ay H5 fun v H6=>B Ay y v H6)
  (fin:∀ D σ H' nv,H D=none->I D xs.length σ H' nv->R D H') :
  ∀ D,H D=none->∃ W:Nat->Nat->St->Hp->Prop,(∃ m,W 0 m σ0 (upd H D (.dK []))) /\
   ∀ i m Av H',W i m Av H'->(J.stop i H'/\R D H')\/(J.go i H'/\∀ x H2,J.yld i H' x H2->g x Av H2 fun Ay H3=>K9 Ay H3 fun b H4=>
    if b=true then tk Ay H4 (fun y H5=>tv Ay H5 fun v H6=>∃ kvs k,y=kV k/\H6 D=some (.dK kvs)/\kvs.length < sizeLine/\∃ m',m' < m/\W (i + 1) m' Ay (upd H6 D (.dK (Br kvs k v)))) else ∃ m',m' < m/\W (i + 1) m' Ay H4):=by
 intro D hD;refine ⟨fun i m σ H'=>m=xs.length - i/\i<=xs.length/\∃ nv,I D i σ H' nv,⟨xs.length,rfl,Zd _,[],h0 D hD⟩,?_⟩;rintro i m σ H' ⟨rfl,hi,nv,p⟩;obtain ⟨s1,s2,s3⟩:=hs D i σ H' nv hD p;by_cases B0:i < xs.length
 ·refine .inr ⟨ov.go i H' s1 B0,fun x H2 y=>?_⟩;obtain ⟨rfl,ex⟩:=ov.yld i H' x H2 s1 y;have hki:i < ks.length:=by lia
  have ek:ks[i]? = some ks[i]:=Y1 hki;have nin:ks[i] ∉ nv.map (·.1):=by
   rw [s3];intro Pq;obtain ⟨j,hj,e⟩:=YQ Pq;rw [Zf] at hj;rw [ab] at e;have:=FH nd (Y1 (show j < ks.length by lia)) (by rw [ek,e]);lia
  have nl:nv.length=i:=by
   have:=congrArg Z5 s3;rw [Y0,Zf] at this;lia
  have e:∀ (F:St->V->V->Hp->Prop) (G:St->Hp->Prop),(fun (Ay:St) (H3:Hp)=>K9 Ay H3 fun b H4=>if b=true then tk Ay H4 (fun y H5=>tv Ay H5 fun v H6=>F Ay y v H6) else G Ay H4)=fun Ay H3=>tk Ay H3 (fun y H5=>tv Ay H5 fun v H6=>F Ay y v H6):=by
   intro F G;funext Ay H3;show (if true=true then tk Ay H3 (fun y H5=>tv Ay H5 fun v H6=>F Ay y v H6) else G Ay H3)=_
   rw [if_pos rfl]
  rw [e (fun Ay y v H6=>∃ kvs k,y=kV k/\H6 D=some (.dK kvs)/\kvs.length < sizeLine/\∃ m',m' < xs.length - i/\(m'=xs.length - (i + 1)/\i + 1<=xs.length/\∃ DE,I D (i + 1) Ay (upd H6 D (.dK (Br kvs k v))) DE)) (fun Ay H4=>∃ m',m' < xs.length - i/\(m'=xs.length - (i + 1)/\i + 1<=xs.length/\∃ DE,I D (i + 1) Ay H4 DE))];refine turn D i σ H2 nv x ks[i] _ hD ex ek p fun Ay v H6 d6 p6=>?_
  exact ⟨_,Sum.inr ks[i],rfl,d6,by rw [CJ]; lia,xs.length - (i + 1),by lia,rfl,B0,nv ++ [(ks[i],v)],by rw [Dv nin]; exact p6⟩
 ·have e:i=xs.length:=by lia
  subst e;exact .inl ⟨ov.stop H' s1,fin D σ H' nv hD p⟩
theorem K4 {α β:Type} {b:β}:∀ {as:List α} {bs:List β} {a:α},as[bs.length]? = some a->as.zip (bs ++ [b])=as.zip bs ++ [(a,b)]
 | [],bs,a,h=>by simp at h
 | x :: as,[],a,h=>by simp at h; subst h; simp
 | x :: as,y :: bs,a,h=>by
  have:=K4 (as:=as) (bs:=bs) (b:=b) (a:=a) (by simpa using h);simp [this]
theorem N1 {a b:List Str} (h:a.map (Sum.inr:Str->A6)=b.map Sum.inr):a=b:=by
 induction a generalizing b with
 | nil=>cases b with | nil=>rfl | cons _ _=>cases h
 | cons x a ih=>
  cases b with
  | nil=>cases h
  | cons y b=>
   rw [YK,YK] at h;injection h with h1 h2;injection h1 with h1;rw [h1,ih h2]
theorem RS (ss:List Str):(ss.map (Sum.inr:Str->A6)).map kV=ss.map V.str:=by rw [Zb]; rfl
theorem K6 {κ:Type} [DecidableEq κ] {kvs:List (κ × V)} {k:κ} (h:k ∉ kvs.map (·.1)):Bc kvs k=none:=by
 cases e:Bc kvs k with
 | none=>rfl
 | some v=>exact absurd (RK e) h
theorem JU {κ:Type} [DecidableEq κ] {k:κ} {v:V}:∀ {kvs:List (κ × V)} {q:Nat},(kvs.map (·.1)).Nodup->kvs[q]? = some (k,v)->Bc kvs k=some v
 | [],q,_,e=>by simp at e
 | p :: kvs,0,_,e=>by
  simp at e;subst e;exact Bx rfl
 | p :: kvs,q + 1,nd,e=>by
  rw [YK] at nd;obtain ⟨n1,n2⟩:=Zl.mp nd;have e':kvs[q]? = some (k,v):=by simpa using e
  rw [Bq (fun z=>n1 (by rw [z]; exact YA.mpr ⟨_,Y5 e',rfl⟩))];exact JU n2 e'
theorem KS {n:Nat} {g:TG} {te:TE} {H:Hp} {σ0:St} {R:Addr->Hp->Prop} (I:Addr->Nat->St->Hp->List V->Prop) (big:n < sizeLine)
  (h0:∀ D,H D=none->I D 0 σ0 (upd H D (.lst [])) [])
  (hs:∀ D i σ H' acc,H D=none->I D i σ H' acc->H' D=some (.lst acc)/\acc.length=i)
  (turn:∀ D i σ H' acc (B:St->V->Hp->Prop),H D=none->i < n->I D i σ H' acc->(∀ Ay v H5,H5 D=some (.lst acc)->I D (i + 1) Ay (upd H5 D (.lst (acc ++ [v]))) (acc ++ [v])->B Ay v H5)->g (.int (0 + (i:Int))) σ H' fun Ay H3=>te Ay H3 (B Ay))
  (fin:∀ D σ H' acc,H D=none->I D n σ H' acc->R D H') :
  ∀ D,H D=none->∃ W:Nat->Nat->St->Hp->Prop,(∃ m,W 0 m σ0 (upd H D (.lst []))) /\
   ∀ i m Av H',W i m Av H'->((RF 0 n).stop i H'/\R D H')\/((RF 0 n).go i H'/\∀ x H2,(RF 0 n).yld i H' x H2->g x Av H2 fun Ay H3=>K9 Ay H3 fun b H4=>
    if b=true then te Ay H4 (fun v H5=>∃ acc,H5 D=some (.lst acc)/\acc.length < sizeLine/\∃ m',m' < m/\W (i + 1) m' Ay (upd H5 D (.lst (acc ++ [v])))) else ∃ m',m' < m/\W (i + 1) m' Ay H4):=by
 intro D hD;refine ⟨fun i m σ H'=>m=n - i/\i<=n/\∃ acc,I D i σ H' acc,⟨n,rfl,Zd _,[],h0 D hD⟩,?_⟩;rintro i m σ H' ⟨rfl,hi,acc,p⟩;obtain ⟨s2,s3⟩:=hs D i σ H' acc hD p;by_cases B0:i < n
 ·refine .inr ⟨B0,fun x H2 ⟨e1,e2⟩=>?_⟩;subst e1 e2;have e:∀ (F:St->V->Hp->Prop) (G:St->Hp->Prop),(fun (Ay:St) (H3:Hp)=>K9 Ay H3 fun b H4=>if b=true then te Ay H4 (F Ay) else G Ay H4)=fun Ay H3=>te Ay H3 (F Ay):=by
   intro F G;funext Ay H3;show (if true=true then te Ay H3 (F Ay) else G Ay H3)=_
   rw [if_pos rfl]
  rw [e (fun Ay v H5=>∃ acc,H5 D=some (.lst acc)/\acc.length < sizeLine/\∃ m',m' < n - i/\(m'=n - (i + 1)/\i + 1<=n/\∃ IH,I D (i + 1) Ay (upd H5 D (.lst (acc ++ [v]))) IH)) (fun Ay H4=>∃ m',m' < n - i/\(m'=n - (i + 1)/\i + 1<=n/\∃ IH,I D (i + 1) Ay H4 IH))];refine turn D i σ H2 acc _ hD B0 p fun Ay v H5 d5 p5=>?_
  exact ⟨acc,d5,by lia,n - (i + 1),by lia,rfl,B0,_,p5⟩
 ·have e:i=n:=by lia
  subst e;exact .inl ⟨Y7 _,fin D σ H' acc hD p⟩
theorem Jt {z:Str} (l u:Option Int) (h:Tc z):Tc (Txt.slice z l u):=by
 unfold Txt.slice;split
 ·exact h
 ·intro c hc;have Hn:c ∈ (Builtin.Str.strSliceIndices l u 1 z.length).filterMap (z.cps[·]?):=by simpa using hc
  obtain ⟨i,_,e⟩:=bo.mp Hn;exact h c (by rw [bR]; exact bN e)
theorem Qk {z:Str} {a:Int} (h0:0<=a) (h1:a<=z.length):(Txt.slice z none (some a)).length<=a.toNat:=by
 have e:(Builtin.Str.strSliceIndices none (some a) 1 z.length).length=a.toNat:=by
  unfold Builtin.Str.strSliceIndices sliceRange;simp only [show (1:Int) > 0 by decide,if_true,Y0,aa];(split <;> (try split) <;> (try split) <;> (try simp only [dq]) <;> lia)
 unfold Txt.slice;split
 ·rename_i q
  rw [e] at q;have:a.toNat=z.length:=by simpa using q
  lia
 ·show (cY _ (Builtin.Str.strSliceIndices none (some a) 1 z.length)).toArray.size<=_
  rw [YN,<-e];exact bL _ _
theorem LU {z:Str} {a:Int} (h0:0<=a) (h1:a<=z.length):(Txt.slice z (some a) none).length<=z.length - a.toNat:=by
 have e:(Builtin.Str.strSliceIndices (some a) none 1 z.length).length=z.length - a.toNat:=by
  unfold Builtin.Str.strSliceIndices sliceRange;simp only [show (1:Int) > 0 by decide,if_true,Y0,aa];(split <;> (try split) <;> (try split) <;> (try simp only [dq]) <;> lia)
 unfold Txt.slice;split
 ·rename_i q
  rw [e] at q;have:z.length - a.toNat=z.length:=by simpa using q
  lia
 ·show (cY _ (Builtin.Str.strSliceIndices (some a) none 1 z.length)).toArray.size<=_
  rw [YN,<-e];exact bL _ _
theorem QF {X:Cx}:En X (binaryOp .Mult) (fun x y H Q=>∃ z n,x=.str z/\y=.int n/\(n=0\/n=1)/\Q (.str (if n=1 then z else Str.empty)) H):=by
 intro pins s σ H x y v u Q I rx ry h;obtain ⟨z,n,rfl,rfl,hn,q⟩:=h;obtain ⟨t,rfl⟩:=rx;obtain ⟨t',rfl⟩:=ry;rcases hn with rfl | rfl
 ·exact PySem.P.mul_str_none (by decide) (by decide) ⟨.str Str.empty,H,I.tok _,⟨_,rfl⟩,q⟩
 ·refine PySem.P.mul_str (by decide) (fun _ z=>by simp at z) (fun _ z=>by simp at z) ?_;rw [if_neg (by decide),if_pos (by simp)];exact ⟨.str z,H,I,⟨_,rfl⟩,q⟩
section
variable {prog:Program} {w:World} {A:Around} {E:Value->Shared->Prop} {s:Shared}
theorem Mt {l:Addr} {vs:List Value} {Q:List Value->Shared->Prop} (hl:s.heap.IsTuple l vs.toArray) (few:vs.toArray.size<=sizeLine)
  (h:∀ h1:Heap,s.heap.objs.size<=h1.objs.size->(∀ b o,s.heap.get? b=some o->h1.get? b=some o)->Q vs { s with heap:=h1 }):wpAny (model prog w) A (collect (.ref l)) Q E s:=by
 obtain ⟨o,ho,hc,n,hd⟩:=hl;obtain ⟨g,eg⟩:∃ g,g=(s.heap.push { cls:=.type "list",data:=.seq ([]:List Value).toArray }).update s.heap.objs.size (Obj.mapSeq (· ++ vs.toArray)):=⟨_,rfl⟩
 have gS:=Zo (Obj.mapSeq (· ++ vs.toArray)) (YD s.heap (o:={ cls:=.type "list",data:=.seq ([]:List Value).toArray }) rfl) rfl;rw [<-eg] at gS;have last:=h g (by rw [eg,bB,Zk]; exact Ze _) fun b o' hb=>by
  rw [eg];exact (Zm _ _ (Zx (YC hb))).trans (Y2 _ hb)
 unfold collect;refine wpAny_bind (wpAny_runValue (codeAny_builtin PySem.F.entry_proto_collect ?_));rw [Around.under_plainId PySem.F.plain_proto_collect _];refine wpAny_bind (wpAny_newObj_type (wpAny_pure ⟨plainId_quiet PySem.F.plain_list_iadd _,codeAny_builtin PySem.F.entry_list_iadd ?_⟩));rw [Around.under_plainId PySem.F.plain_list_iadd _];have fin:∀ s':Shared,s' = { s with heap:=g }->wpAny (model prog w) A (match Value.ref s.heap.objs.size with
   | Value.ref a=>do
    match (<- load a).data with
     | Data.seq xs _=>pure xs.toList
     | _=>unsupported "internal:collect"
   | _=>unsupported "internal:collect") Q E s':=by
  rintro s' rfl;refine wpAny_bind (wpAny_load gS (wpAny_pure ?_));simpa using last
 refine wpAny_mono (wpAny_extend_seq (hsz:=few) (A:=A) (R:=fun r s'=>r=.ok (.ret (.ref s.heap.objs.size))/\s' = { s with heap:=g }) (s:={ s with heap:=s.heap.push { cls:=.type "list",data:=.seq ([]:List Value).toArray } }) _ l _ 0 (.inr rfl) (YD _ rfl) (Y2 _ ho) hc hd ⟨rfl,by rw [eg]⟩) (fun r s' q=>?_) (fun e s' q=>absurd q.1 (by simp));cases r with
 | done f=>
  obtain ⟨e,q⟩:=q;cases e
  exact fin s' q
 | again c=>exact ⟨q.1,codeAny_mono q.2 fun r Ui z=>by obtain ⟨rfl,z⟩:=z; exact fin Ui z⟩
theorem KL {l:Addr} {vs:List Value} {ss:List Str} {Q:Value->Shared->Prop} (hl:s.heap.IsTuple l vs.toArray) (hS:StrsAre vs ss) (IK:vs.length < 64)
  (h:∀ (h':Heap) (a:Addr) (out:Array Value) (Cd:List Str) (e:Nat),s.heap.objs.size<=a->(∀ b o,s.heap.get? b=some o->h'.get? b=some o)->h'.get? a=some (seqObj "list" out e)->StrsAre out.toList Cd->Cd.Perm ss->sortedS Cd=true->Q (.ref a) { s with heap:=h' }) :
  wpAny (model prog w) A (call (.builtin "sorted") [.ref l]) Q E s:=by
 have few:vs.toArray.size<=sizeLine:=by rw [YN,sizeLine_eq]; lia
 refine Calls.call_function_entry kind_sorted plain_sorted entry_sorted (args_sorted1 _) ?_;unfold Builtin.«sorted»;refine wpAny_bind (m:=checkCount "sorted" 1 1 _) (wpAny_pure (wpAny_bind (Mt hl few fun h1 sz k1=>?_)));refine wpAny_bind (wpAny_newList ?_ (by simpa using few));have lies:(h1.push (seqObj "list" vs.toArray 0)).get? h1.objs.size=some (seqObj "list" vs.toArray 0):=YD _ rfl;refine wpAny_bind (wpAny_holding (wpAny_call_entry slot_list_sort ⟨_,lies,rfl⟩ entry_list_sort (list_sort_treeK (s:={ s with heap:=h1.push (seqObj "list" vs.toArray 0) }) strKind_oneLt lies hS.keysOf (fun WL WK Co e=>keyKind_strs (by rw [<-e]; exact hS)) IK fun AM hp hs=>⟨_,rfl,wpAny_pure ⟨_,rfl,?_⟩⟩) (args_list_sort _)));obtain ⟨Cd,q1,q2,q3⟩:=sorted_out_str hS hp hs;obtain ⟨e,he⟩:=sortedHeap_at (out:=(arrOf AM).map (·.2)) lies;refine h _ h1.objs.size _ Cd e sz (fun b o z=>?_) he q1 q2 q3;have hb:=k1 b o z;rw [sortedHeap_old (YF (YC hb)) (by rw [Zk]; exact YV (YC hb))];exact Y2 _ hb
end
theorem J4 (a b:Str):BG a b=BG b a:=by
 unfold BG;split
 ·rename_i h
  rw [if_neg (fun z=>aB h z)]
 ·rename_i h
  split
  ·rfl
  ·rename_i h'
   exact Cu h h'
theorem J5 (a b:Str):BH a b=BH b a:=by
 unfold BH;split
 ·rename_i h
  rw [if_neg (fun z=>aB h z)]
 ·rename_i h
  split
  ·rfl
  ·rename_i h'
   exact (Cu h h').symm
theorem A8 (K:Y3) {X:Cx} (h:X.K=K):Bl X (.type "tuple") (fun xs H Q=>∃ p ys,xs=[.ref p]/\((AB K H p ys/\∀ l,H l=none->Q (.ref l) (upd H l (.tup ys)))\/(A7 K H p ys/\Q (.ref p) H))):=by subst h; exact Fc
end L2
namespace L2
open PySem PySem.Spec PySem.W PyProof.Rows
theorem FR (K:Y3) {X:Cx} (h:X.K=K):Bl X (.builtin "sorted") (fun xs H Q=>∃ (a:Addr) (ss:List Str),xs=[.ref a]/\AB K H a (ss.map V.str)/\ss.length < 64 /\
  ∀ (l:Addr) (Cd:List Str),H l=none->Cd.Perm ss->sortedS Cd=true->Q (.ref l) (upd H l (.lst (Cd.map V.str)))):=by subst h; exact Ca
section
variable {prog:Program} {w:World} {A:Around} {E:Value->Shared->Prop} {s:Shared} {κ:SortKind} {lt:Keyed->Keyed->Bool} {a0:Array Keyed}
theorem FI {n:Nat} (h1:1<=n) (IK:n < 64):(sortPriv% PySem.Builtin.minRun) n n 0=n:=by
 obtain ⟨f,hf⟩:∃ f,n=f + 1:=⟨n - 1,by lia⟩
 have:minRun' (f + 1) n 0=n:=by rw [minRun'_succ,if_pos IK]; rfl
 rw [<-hf] at this;exact this
theorem Hq {st:SortSt} {Q:Unit->SortSt->Prop} (sw:NM lt) (an:Th prog w A s κ lt a0) (hk:kindOf st=κ) (ha:arrOf st=a0) (hf:failedOf st=none) (hpe:pendingOf st=#[]) (h2:1<=a0.size) (IK:a0.size < 64)
  (h:∀ AM,(arrOf AM).Perm a0->failedOf AM=none->(arrOf AM).toList.Pairwise (Nl lt)->Q () AM):wpS (model prog w) A E s sortRuns' Q st:=by
 have hp:(arrOf st).Perm a0:=by rw [ha]
 refine wpS_bind (wpS_get ?_);dsimp only;have ez:((sortPriv% PySem.Builtin.SortState.a) st).size=a0.size:=by rw [show (sortPriv% PySem.Builtin.SortState.a) st=a0 from ha]
 rw [ez];refine wpS_bind (wpS_mono (wpS_forRange (I:=fun x c AM=>(x=0/\c=(none,0)/\AM=st)\/(1<=x/\c=(none,a0.size)/\(arrOf AM).Perm a0/\failedOf AM=none/\(pendingOf AM).size<=1/\SS lt (arrOf AM) 0 a0.size))
  (Q:=fun c AM=>c=(none,a0.size)/\(arrOf AM).Perm a0/\failedOf AM=none/\(pendingOf AM).size<=1/\SS lt (arrOf AM) 0 a0.size) ?step ?fin (.inl ⟨rfl,rfl,rfl⟩)) ?post)
 case fin=>
  rintro c AM (⟨hx,_,_⟩ | ⟨_,r⟩)
  ·lia
  ·exact r
 case step=>
  rintro x c AM _ hx (⟨rfl,rfl,rfl⟩ | ⟨_,rfl,r⟩)
  ·dsimp only;rw [if_neg (by lia)];refine wpS_bind (IM sw an hk hp (by lia) (by lia) fun m ys k1 m1 m2 s1=>?_);dsimp only;have hpd:∀ zs,(pendingOf (setArr AM zs)).back? = none:=fun zs=>by
    show (pendingOf AM).back? = none
    rw [hpe];rfl
   by_cases hm:m < (sortPriv% PySem.Builtin.minRun) a0.size a0.size 0
   ·rw [if_pos hm];refine wpS_bind (wpS_lift (wpAny_rule ⟨rfl,?_⟩));refine wpS_bind (GK (st:=setArr AM ys) sw an hk (k1.1.trans hp) (by lia) m1 (by lia) s1 fun zs k2 s2=>?_);simp only [df,Za,if_false];refine wpS_bind (wpS_get ?_);rw [hpd];dsimp only;have emin:min (a0.size - 0) ((sortPriv% PySem.Builtin.minRun) a0.size a0.size 0)=a0.size:=by rw [FI h2 IK]; lia
    rw [emin];exact wpS_bind (wpS_modify (wpS_pure (.inr ⟨by lia,by rw [ZR],k2.1.trans (k1.1.trans hp),hf,by show ((pendingOf AM).push _).size<=1; rw [hpe]; exact Y7 1 ,by rw [emin,ZR] at s2; exact s2⟩)))
   ·rw [if_neg hm];rw [FI h2 IK] at hm;have em:m=a0.size:=by lia
    refine wpS_bind (wpS_get ?_);rw [hpd];dsimp only;rw [em];exact wpS_bind (wpS_modify (wpS_pure (.inr ⟨by lia,by rw [ZR],k1.1.trans hp,hf,by show ((pendingOf AM).push _).size<=1; rw [hpe]; exact Y7 1 ,by rw [em,ZR] at s1; exact s1⟩)))
  ·dsimp only;rw [if_pos (Y7 _)];exact wpS_pure ⟨rfl,r⟩
 case post=>
  rintro c AM ⟨rfl,r1,r2,r3 ,r4⟩;dsimp only;refine wpS_bind (wpS_mono (wpS_forRange (I:=fun _ c GO=>GO=AM/\c=(none,())) (Q:=fun c GO=>GO=AM/\c=(none,())) ?_ (fun _ _ hh=>hh) ⟨rfl,rfl⟩) ?_)
  ·rintro x c GO _ _ ⟨rfl,rfl⟩;refine wpS_bind (wpS_get ?_);rw [if_pos r3];exact wpS_pure ⟨rfl,rfl⟩
  ·rintro c GO ⟨rfl,rfl⟩;exact wpS_pure (h _ r1 r2 (T9 fun i j hij hj=>r4 i j (Zd _) (aL hij) (by have:=r1.size_eq; lia)))
theorem Fl {a:Addr} {vs:List Value} {n:Nat} {P:Fin->Shared->Prop} (sw:NM lt) (lies:s.heap.get? a=some (seqObj "list" vs.toArray n)) (few:vs.length<=sizeLine) (IK:vs.length < 64)
  (cm:2<=vs.length->∀ h',(∀ b o,b ≠ a->s.heap.get? b=some o->h'.get? b=some o) ->
   ∃ κ,(∀ (Q:SortKind->Shared->Prop) (E:Value->Shared->Prop),Q κ { s with heap:=h' }->wpAny (model prog w) A (keyKind' vs.toArray) Q E { s with heap:=h' })/\Th prog w A { s with heap:=h' } κ lt (pairsOf vs))
  (k:∀ out:List Value,out.Perm vs->out.Pairwise (fun u v=>lt (v,v) (u,u)=false)->P (.done (.ret .none)) { s with heap:=sortedHeap s.heap a vs out.toArray }) :
  wpAny (model prog w) A (Builtin.«list.sort» ⟨[.ref a],[]⟩) P E s:=by
 have alt:=YC lies;rw [list_sort_plain];refine wpAny_bind (listItems_at lies rfl (wpAny_bind (listUpdate_at lies rfl ?_ (by simpa using few) (Zd _))));obtain ⟨c,Tx⟩:∃ c,(s.heap.update a (Obj.mapSeq fun _=>#[])).get? a=some (seqObj "list" #[] c):=⟨_,get?_update_seq lies (fun _=>#[])⟩
 refine wpAny_bind (seqEpoch_at Tx rfl (wpAny_bind (wpAny_newTuple (wpAny_bind (wpAny_newList (wpAny_holding ?_) (Zd _))) (by simpa using few))));obtain ⟨h3,WA⟩:∃ h3,h3=((s.heap.update a (Obj.mapSeq fun _=>(#[]:Array Value))).push (seqObj "tuple" vs.toArray 0)).push (seqObj "list" #[] 0):=⟨_,rfl⟩
 have Nu:h3.get? a=some (seqObj "list" #[] c):=by
  rw [WA];exact Y2 _ (Y2 _ Tx)
 have VF:∀ b o,b ≠ a->s.heap.get? b=some o->h3.get? b=some o:=fun b o hb e=>by
  rw [WA];exact Y2 _ (Y2 _ ((ba _ _ _ _ hb).trans e))
 show wpAny (model prog w) A _ P E { s with heap:=((s.heap.update a (Obj.mapSeq fun _=>(#[]:Array Value))).push (seqObj "tuple" vs.toArray 0)).push (seqObj "list" #[] 0) }
 rw [<-WA];have last:∀ AM:SortSt,(arrOf AM).Perm (pairsOf vs)->(arrOf AM).toList.Pairwise (Nl lt)->P (.done (.ret .none)) { s with heap:=h3.update a (Obj.mapSeq fun _=>(arrOf AM).map (·.2)) }:=fun AM hp hs=>by
  have e:(arrOf AM).map (·.2)=((arrOf AM).toList.map (·.2)).toArray:=by apply b6.mp; simp
  have q:=k _ (QE hp) (QD hp hs);rw [<-e] at q;rw [WA];exact q
 have zl:∀ AM:SortSt,(arrOf AM).Perm (pairsOf vs)->((arrOf AM).map (·.2)).size<=sizeLine + 1:=fun AM hp=>by
  rw [Array.size_map,hp.size_eq,pairsOf_size];lia
 have zv:vs.toArray.size=vs.length:=rfl;dsimp only;rcases aK vs.toArray.size 2 with lo | hi
 ·rw [if_pos lo,if_pos lo];refine wpAny_bind (wpAny_pure ?_);rw [StateT.run_pure];refine wpAny_bind (wpAny_pure (wpAny_bind (seqEpoch_at Nu rfl ?_)));have p0:(arrOf (SortSt.mk' general' (vs.toArray.zip vs.toArray) #[] 7 none)).Perm (pairsOf vs):=Array.Perm.refl _;refine wpAny_bind (listUpdate_at Nu rfl ?_ (Zd _) (zl _ p0));rw [bne_self_eq_false];refine wpAny_pure (last _ p0 (T9 fun i j hij hj=>?_));have:=p0.size_eq;rw [pairsOf_size] at this;have IZ:j < (arrOf (SortSt.mk' general' (vs.toArray.zip vs.toArray) #[] 7 none)).size:=hj;lia
 ·rw [if_neg (by lia),if_neg (by lia)];obtain ⟨κ,k1,k2⟩:=cm (by lia) h3 VF;refine wpAny_bind (k1 _ _ ?_);refine wpAny_bind (wpAny_mono (Hq (a0:=pairsOf vs) (st:=SortSt.mk' κ (vs.toArray.zip vs.toArray) #[] 7 none)
   (Q:=fun _ AM=>(arrOf AM).Perm (pairsOf vs)/\failedOf AM=none/\(arrOf AM).toList.Pairwise (Nl lt)) sw k2 rfl rfl rfl rfl (by rw [pairsOf_size]; lia) (by rw [pairsOf_size]; lia) fun AM a1 a2 a3=>⟨a1,a2,a3⟩) ?_ fun _ _ e=>e)
  rintro ⟨u,AM⟩ s' ⟨rfl,hp,hf,hs⟩;refine wpAny_bind (seqEpoch_at Nu rfl (wpAny_bind (listUpdate_at Nu rfl ?_ (Zd _) (zl _ hp))));dsimp only;rw [hf,bne_self_eq_false];exact wpAny_pure (last AM hp hs)
theorem Qj {l:Addr} {vs:List Value} {Q:Value->Shared->Prop} (sw:NM lt) (hl:s.heap.IsList l vs.toArray) (few:vs.length<=sizeLine) (IK:vs.length < 64) (cm:Cmpd prog w s lt vs)
  (k:∀ out:List Value,out.Perm vs->out.Pairwise (fun u v=>lt (v,v) (u,u)=false)->Q (.ref (s.heap.objs.size + 1)) { s with heap:=sortedAll s.heap vs out.toArray }) :
  wpAny (model prog w) A (call (.builtin "sorted") [.ref l]) Q E s:=by
 refine Calls.call_function_entry kind_sorted plain_sorted entry_sorted (args_sorted1 _) ?_;unfold Builtin.«sorted»;refine wpAny_bind (m:=checkCount "sorted" 1 1 _) (wpAny_pure (wpAny_bind (collect_list hl ?_ few)));refine wpAny_bind (wpAny_newList ?_ (by simpa using few));obtain ⟨h1,SN⟩:∃ h1,h1=(s.heap.push (seqObj "list" #[] 0)).update s.heap.objs.size (Obj.mapSeq (· ++ vs.toArray)):=⟨_,rfl⟩
 have z1:h1.objs.size=s.heap.objs.size + 1:=by rw [SN,bB,size_push']
 have lies:(h1.push (seqObj "list" vs.toArray 0)).get? (s.heap.objs.size + 1)=some (seqObj "list" vs.toArray 0):=by
  rw [<-z1];exact YD _ rfl
 have keep:∀ b o,s.heap.get? b=some o->(h1.push (seqObj "list" vs.toArray 0)).get? b=some o:=fun b o q=>by
  have hb:=YC q;refine Y2 _ ?_;rw [SN,ba _ _ _ _ (YF hb)];exact Y2 _ q
 show wpAny _ _ _ _ _ { s with heap:=((s.heap.push (seqObj "list" #[] 0)).update s.heap.objs.size (Obj.mapSeq (· ++ vs.toArray))).push (seqObj "list" vs.toArray 0) }
 rw [<-SN,z1];refine wpAny_bind (wpAny_holding (wpAny_call_entry slot_list_sort ⟨_,lies,rfl⟩ entry_list_sort (Fl (s:={ s with heap:=h1.push (seqObj "list" vs.toArray 0) }) sw lies few IK ?_ fun out o1 o2=>⟨_,rfl,wpAny_pure ⟨_,rfl,?_⟩⟩) (args_list_sort _)))
 ·intro h2 h' kp;exact cm h2 _ h' fun b o e=>kp b o (YF (YV (YC e))) (keep b o e)
 ·have q:=k out o1 o2;unfold sortedAll at q;rw [<-SN] at q;exact q
end
theorem Fv {X:Cx}:Bl X (.builtin "sorted") (fun xs H Q=>∃ (a:Addr) (vs:List V) (kd:Nat->Bool),xs=[.ref a]/\AB X.K H a vs/\(∀ v ∈ vs,My H kd v)/\vs.length < 64 /\
  ∀ (l:Addr) (Jh:List V),H l=none->Jh.Perm vs->Jh.Pairwise (fun u v=>Bg (QP H v) (QP H u)=false)->Q (.ref l) (upd H l (.lst Jh))):=by
 intro pins s σ H xs us Q I r h;obtain ⟨a,vs,kd,rfl,ha,hk,IK,q⟩:=h;obtain ⟨u,rfl,ru⟩:=BO r;cases ru
 obtain ⟨Ap,rv,pl,hz⟩:=I.list ha;have all:∀ {vs:List V} {Ap:List Value},A4 vs Ap->(∀ v ∈ vs,My H kd v)->(∀ u ∈ Ap,LB s.heap kd u)/\Ap.map (CK s.heap)=vs.map (QP H):=by
  intro vs;induction vs with
  | nil=>intro Ap rv _; cases rv; exact ⟨(fun u hu=>nomatch hu),rfl⟩
  | cons v vs ih=>
   intro Ap rv hk;cases rv with
   | cons r1 r2=>
    obtain ⟨a1,a2⟩:=PM I r1 (hk v YO);obtain ⟨b1,b2⟩:=ih r2 fun v hv=>hk v (YT _ hv)
    refine ⟨fun u hu=>?_,by rw [YK,YK,a2,b2]⟩;rcases Y4.mp hu with rfl | hu
    ·exact a1
    ·exact b1 u hu
 refine Qj (Ks (CK s.heap)) pl.isList (by rw [<-rv.length]; exact hz) (by rw [<-rv.length]; exact IK) (Jp (all rv hk).1) fun out o1 o2=>?_
 obtain ⟨Jh,Vf,pv⟩:=Jl o1 rv;have keys:=(all Vf fun v hv=>hk v (pv.mem_iff.mp hv)).2;obtain ⟨e,he⟩:=sortedAll_at s.heap Ap out.toArray;refine ⟨.ref (s.heap.objs.size + 1),_,I.laid (o:=.lst Jh) (t':=s.toks) (fun b o z=>sortedAll_old z) (Ze _) ⟨by rw [pv.length_eq]; exact hz,out,e,Vf,he⟩,rfl,q _ Jh (I.hok.fresh (Ze _)) pv ?_⟩;have p1:(out.map (CK s.heap)).Pairwise (fun a b=>Bg b a=false):=ZO.mpr o2;rw [keys] at p1;exact ZO.mp p1
theorem EU (K:Y3) {X:Cx} (h:X.K=K):Bl X (.builtin "sorted") (fun xs H Q=>∃ (a:Addr) (vs:List V) (kd:Nat->Bool),xs=[.ref a]/\AB K H a vs/\(∀ v ∈ vs,My H kd v)/\vs.length < 64 /\
  ∀ (l:Addr) (Jh:List V),H l=none->Jh.Perm vs->Q (.ref l) (upd H l (.lst Jh))):=by
 subst h;intro pins s σ H xs us Q I r h;obtain ⟨a,vs,kd,rfl,ha,hk,IK,q⟩:=h;exact Fv (pins:=pins) s σ H _ us Q I r ⟨a,vs,kd,rfl,ha,hk,IK,fun l Jh hl pv _=>q l Jh hl pv⟩
end L2
namespace L2
open PySem PySem.Spec PyProof.Rows
open PySem.W
section
variable {prog:Program} {w:World} {A:Around} {E:Value->Shared->Prop} {s:Shared} {κ:SortKind} {lt:Keyed->Keyed->Bool} {a0:Array Keyed}
theorem Qi {l:Addr} {vs:List Value} {Q:Value->Shared->Prop} (sw:NM lt) (hl:s.heap.IsList l vs.toArray) (few:vs.length<=sizeLine) (IK:vs.length < 64) (cm:2<=vs.length->∀ h':Heap,(∀ b o,s.heap.get? b=some o->h'.get? b=some o)->∃ κ,(∀ (Q:SortKind->Shared->Prop) (E:Value->Shared->Prop),Q κ { s with heap:=h' }->wpAny (model prog w) A.in1.in1 (keyKind' vs.toArray) Q E { s with heap:=h' })/\Th prog w A.in1.in1 { s with heap:=h' } κ lt (pairsOf vs))
  (k:∀ out:List Value,out.Perm vs->out.Pairwise (fun u v=>lt (v,v) (u,u)=false)->Q (.ref (s.heap.objs.size + 1)) { s with heap:=sortedAll s.heap vs out.toArray }) :
  wpAny (model prog w) A (call (.builtin "sorted") [.ref l]) Q E s:=by
 refine Calls.call_function_entry kind_sorted plain_sorted entry_sorted (args_sorted1 _) ?_;unfold Builtin.«sorted»;refine wpAny_bind (m:=checkCount "sorted" 1 1 _) (wpAny_pure (wpAny_bind (collect_list hl ?_ few)));refine wpAny_bind (wpAny_newList ?_ (by simpa using few));obtain ⟨h1,SN⟩:∃ h1,h1=(s.heap.push (seqObj "list" #[] 0)).update s.heap.objs.size (Obj.mapSeq (· ++ vs.toArray)):=⟨_,rfl⟩
 have z1:h1.objs.size=s.heap.objs.size + 1:=by rw [SN,bB,size_push']
 have lies:(h1.push (seqObj "list" vs.toArray 0)).get? (s.heap.objs.size + 1)=some (seqObj "list" vs.toArray 0):=by
  rw [<-z1];exact YD _ rfl
 have keep:∀ b o,s.heap.get? b=some o->(h1.push (seqObj "list" vs.toArray 0)).get? b=some o:=fun b o q=>by
  have hb:=YC q;refine Y2 _ ?_;rw [SN,ba _ _ _ _ (YF hb)];exact Y2 _ q
 show wpAny _ _ _ _ _ { s with heap:=((s.heap.push (seqObj "list" #[] 0)).update s.heap.objs.size (Obj.mapSeq (· ++ vs.toArray))).push (seqObj "list" vs.toArray 0) }
 rw [<-SN,z1];refine wpAny_bind (wpAny_holding (wpAny_call_entry slot_list_sort ⟨_,lies,rfl⟩ entry_list_sort (Fl (s:={ s with heap:=h1.push (seqObj "list" vs.toArray 0) }) sw lies few IK ?_ fun out o1 o2=>⟨_,rfl,wpAny_pure ⟨_,rfl,?_⟩⟩) (args_list_sort _)))
 ·intro h2 h' kp;exact cm h2 h' fun b o e=>kp b o (YF (YV (YC e))) (keep b o e)
 ·have q:=k out o1 o2;unfold sortedAll at q;rw [<-SN] at q;exact q
end
def PxH (H:Hp) (v:V) (k:List Str):Prop:=∃ t e y,v=.ref t/\H t=some (.tup [.ref e,y])/\H e=some (.tup (k.map V.str))/\((∃ n,y=.int n)\/∃ (l:Addr) (ss:List Str),y=.ref l/\H l=some (.tup (ss.map V.str)))
def FY (h:Heap) (v:Value) (k:List Str):Prop:=∃ t e y,v=.ref t/\IsTup h t #[.ref e,y]/\Gs h (.ref e) k/\((∃ n tk,y=.int n tk)\/∃ ss,Gs h y ss)
theorem FY.keep {h h':Heap} {v:Value} {k:List Str} (x:FY h v k) (kp:∀ b o,h.get? b=some o->h'.get? b=some o):FY h' v k:=by
 obtain ⟨t,e,y,rfl,a,b,c⟩:=x;refine ⟨t,e,y,rfl,?_,b.keep kp,c.imp id fun ⟨ss,z⟩=>⟨ss,z.keep kp⟩⟩;obtain ⟨o,h1,r⟩:=a;exact ⟨o,kp _ _ h1,r⟩
theorem PxH.at {X:Cx} {pins:List (Addr × Obj)} {σ:St} {H:Hp} {s:Shared} {v:V} {u:Value} {k:List Str} (I:An X pins σ H s) (r:A3 v u) (h:PxH H v k):FY s.heap u k:=by
 obtain ⟨t,e,y,rfl,ht,he,hy⟩:=h;cases r
 obtain ⟨Ap,rv,pl,hz⟩:=I.tuple (A7.of ht);cases rv with
 | cons a1 b1=>
  cases b1 with
  | @cons _ y' _ _ a2 b2=>
   cases b2
   cases a1
   refine ⟨t,e,y',rfl,pl,Ti I he,?_⟩;rcases hy with ⟨n,rfl⟩ | ⟨l,ss,rfl,hl⟩
   ·obtain ⟨tk,rfl⟩:=a2;exact .inl ⟨n,tk,rfl⟩
   ·cases a2
    exact .inr ⟨ss,Ti I hl⟩
theorem RL {h:Heap} {v:Value} {a b:List Str} (x:Gs h v a) (y:Gs h v b):a=b:=by
 obtain ⟨p,us,rfl,⟨o,h1,h2,n,h3⟩,r1⟩:=x;obtain ⟨q,JV,e,⟨o',OS,T5,n',SF⟩,r2⟩:=y;cases e
 rw [h1] at OS;cases OS
 rw [h3] at SF;injection SF with e _;have e2:us=JV:=by simpa using e
 subst e2;exact Jj r1 r2
theorem Sa {h:Heap} {v:Value} {a b:List Str} (x:FY h v a) (y:FY h v b):a=b:=by
 obtain ⟨t,e,y1,rfl,⟨o,h1,h2,n,h3⟩,x1,_⟩:=x;obtain ⟨t',e',y2,q,⟨o',OS,T5,n',SF⟩,x2,_⟩:=y;cases q
 rw [h1] at OS;cases OS
 rw [h3] at SF;injection SF with q _;have q2:e=e':=by
  have:=congrArg (fun a:Array Value=>a[0]?) q;simpa using this
 subst q2;exact RL x1 x2
open Classical in
noncomputable def Um (h:Heap) (v:Value):List Du:=if p:∃ k,FY h v k then p.choose.map Du.s else []
theorem Ma {h:Heap} {v:Value} {k:List Str} (x:FY h v k):Um h v=k.map Du.s:=by
 unfold Um;rw [dif_pos ⟨k,x⟩,Sa (Exists.choose_spec ⟨k,x⟩) x]
theorem EL {α β:Type} {f:α->β}:∀ {l':List β} {l:List α},l'.Perm (l.map f)->∃ m:List α,m.Perm l/\m.map f=l'
 | [],l,h=>by
  have e:=h.length_eq;rw [Y0] at e;have:l=[]:=Z0.mp e.symm;subst this;exact ⟨[],.refl _,rfl⟩
 | b :: l',l,h=>by
  obtain ⟨a,ha,rfl⟩:=YA.mp (h.mem_iff.mp YO);obtain ⟨l1,l2,rfl⟩:=List.append_of_mem ha;have p1:(l1 ++ a :: l2).Perm (a :: (l1 ++ l2)):=List.perm_middle;have p2:=h.trans (p1.map f);rw [YK] at p2;obtain ⟨m,q1,q2⟩:=EL (List.Perm.cons_inv p2);exact ⟨a :: m,(q1.cons a).trans p1.symm,by rw [YK,q2]⟩
section
variable {prog:Program} {w:World} {A:Around} {s:Shared}
theorem px_lt {E:Value->Shared->Prop} {Q:Bool->Shared->Prop} {u v:Value} {k k':List Str} (hA:A.units + 2 < cLine) (hu:FY s.heap u k) (hv:FY s.heap v k') (same:k=k'->u=v) (h:Q (Bg (k.map Du.s) (k'.map Du.s)) s):wpAny (model prog w) A (keyLt' (tuples' false) u v) Q E s:=by
 obtain ⟨t,e,y,rfl,⟨o,h1,h2,n,h3⟩,x1,hy⟩:=id hu;obtain ⟨t',e',y',rfl,⟨o',OS,T5,n',SF⟩,x1',hy'⟩:=id hv;refine kat_lt h1 h3 OS SF ?_;show KatLex prog w A false _ Q [(.ref e,.ref e'),(y,y')] 0 s
 refine kat_cons (NC x1 x1' (by lia) _ _ _ _ ?_);refine kat_go (fun q=>kat_yes ?_) (fun q=>kat_no ?_)
 ·have q:=of_decide_eq_true q;have z:=same q;cases z
  rw [h1] at OS;cases OS
  rw [h3] at SF;injection SF with q2 _;have q3:y=y':=by
   have:=congrArg (fun a:Array Value=>a[1]?) q2;simpa using this
  subst q3 q;rw [Kt] at h;refine kat_cons ?_;rcases hy with ⟨m,tk,rfl⟩ | ⟨ss,hs⟩
  ·refine SeqAt.EqAt.int_int m tk m tk _ _ _ _ ?_;rw [beq_self_eq_true];exact kat_yes (kat_nil h)
  ·refine NC hs hs (by lia) _ _ _ _ ?_;rw [decide_eq_true rfl];exact kat_yes (kat_nil h)
 ·refine kat_one _ _ ?_;exact Ss x1 x1' (by lia) _ _ _ _ h
theorem Sb {vs:List Value} {ks:List (List Str)} (hA:A.units + 2 < cLine) (hl:vs.length=ks.length) (hk:∀ (i:Nat) v k,vs[i]? = some v->ks[i]? = some k->FY s.heap v k) (nd:ks.Nodup) :
  2<=vs.length->∀ h':Heap,(∀ b o,s.heap.get? b=some o->h'.get? b=some o)->∃ κ,(∀ (Q:SortKind->Shared->Prop) (E:Value->Shared->Prop),Q κ { s with heap:=h' }->wpAny (model prog w) A (keyKind' vs.toArray) Q E { s with heap:=h' })/\Th prog w A { s with heap:=h' } κ (fun x y=>Bg (Um s.heap x.1) (Um s.heap y.1)) (pairsOf vs):=by
 intro h2 h' kp;have WG:∀ v ∈ vs,∃ (i:Nat) (k:List Str),vs[i]? = some v/\ks[i]? = some k/\FY s.heap v k:=fun v hv=>by
  obtain ⟨i,hi,e⟩:=YQ hv;have e1:vs[i]? = some v:=by rw [Y1 hi,e]
  exact ⟨i,ks[i],e1,Y1 (by lia),hk i v _ e1 (Y1 (by lia))⟩
 refine ⟨tuples' false,?_,?_⟩
 ·intro Q E hq;have tups:∀ l:List Value,(∀ v ∈ l,∃ k,FY h' v k)->∃ fs:List Value,KatTups h' l fs/\fs.length=l.length/\∀ f ∈ fs,∃ k,Gs h' f k:=by
   intro l;induction l with
   | nil=>intro _; exact ⟨[],KatTups.nil,rfl,fun f hf=>nomatch hf⟩
   | cons v l ih=>
    intro hl;obtain ⟨fs,k1,k2,k3⟩:=ih fun v hv=>hl v (YT _ hv)
    obtain ⟨k,t,e,y,rfl,⟨o,h1,h2,n,h3⟩,x1,_⟩:=hl v YO;refine ⟨.ref e :: fs,KatTups.cons h1 h2 h3 rfl k1,by rw [YX,YX,k2],fun f hf=>?_⟩;rcases Y4.mp hf with rfl | hf
    ·exact ⟨k,x1⟩
    ·exact k3 f hf
  obtain ⟨fs,k1,k2,k3⟩:=tups vs fun v hv=>let ⟨_,k,_,_,z⟩:=WG v hv; ⟨k,z.keep kp⟩
  refine kat_kind (T:=.type "tuple") k1 (by lia) (fun v hv=>?_) rfl hq;obtain ⟨k,a,us,rfl,⟨o,h1,h2,_⟩,_⟩:=k3 v hv;exact fun A Q E s k q=>wpAny_typeOf (T:="tuple") ⟨o,k _ _ h1,h2⟩ q
 ·intro x y hx hy Q E hq;obtain ⟨ex,mx⟩:=CU (vs:=vs) (p:=x) (by simpa using hx);obtain ⟨ey,my⟩:=CU (vs:=vs) (p:=y) (by simpa using hy);rw [ex,ey] at hq ⊢;dsimp only at hq ⊢;obtain ⟨i,k,e1,e2,z1⟩:=WG _ mx;obtain ⟨j,k',e3,e4,z2⟩:=WG _ my;rw [Ma z1,Ma z2] at hq;refine px_lt hA (z1.keep kp) (z2.keep kp) (fun q=>?_) hq;subst q;have ij:i=j:=FH nd e2 e4;subst ij;rw [e1] at e3;exact YM.inj e3
end
theorem E9 (K:Y3) {X:Cx} (hK:X.K=K) (hu:X.A.units + 64 < cLine):Bl X (.builtin "sorted") (fun xs H Q=>∃ (a:Addr) (ps:List (V × List Str)),xs=[.ref a]/\AB K H a (ps.map (·.1))/\(∀ p ∈ ps,PxH H p.1 p.2)/\(ps.map (·.2)).Nodup/\ps.length < 64 /\
  ∀ (l:Addr) (Oz:List (V × List Str)),H l=none->Oz.Perm ps->(Oz.map (·.2)).Pairwise (fun a b=>Bg (b.map Du.s) (a.map Du.s)=false)->Q (.ref l) (upd H l (.lst (Oz.map (·.1))))):=by
 subst hK;intro pins s σ H xs us Q I r h;obtain ⟨a,ps,rfl,ha,hp,nd,IK,q⟩:=h;obtain ⟨u,rfl,ru⟩:=BO r;cases ru
 obtain ⟨Ap,rv,pl,hz⟩:=I.list ha;have il:Ap.length=ps.length:=by rw [<-rv.length,Y0]
 have at2:∀ (ps:List (V × List Str)) (Ap:List Value),(∀ p ∈ ps,PxH H p.1 p.2)->A4 (ps.map (·.1)) Ap->∀ (i:Nat) v k,Ap[i]? = some v->(ps.map (·.2))[i]? = some k->FY s.heap v k:=fun ps Ap hp rv i v k e1 e2=>by
  rw [Y9] at e2;cases z:ps[i]? with
  | none=>rw [z] at e2; cases e2
  | some p=>
   rw [z] at e2;cases e2
   obtain ⟨v',e3,r3⟩:=rv.get (show (ps.map (·.1))[i]? = some p.1 by rw [Y9,z]; rfl);rw [e1] at e3;cases e3
   exact (hp p (Y5 z)).at I r3
 refine Qi (Ks (Um s.heap)) pl.isList (by rw [<-rv.length]; exact hz) (by lia) (Sb (by rw [PySem.Around.in1_units,PySem.Around.in1_units]; lia) (by rw [Y0]; exact il) (at2 ps Ap hp rv) nd) fun out o1 o2=>?_
 obtain ⟨Jh,Vf,pv⟩:=Jl o1 rv;obtain ⟨Oz,q1,q2⟩:=EL pv;subst q2;obtain ⟨e,he⟩:=sortedAll_at s.heap Ap out.toArray;refine ⟨.ref (s.heap.objs.size + 1),_,I.laid (o:=.lst (Oz.map (·.1))) (t':=s.toks) (fun b o z=>sortedAll_old z) (Ze _) ⟨by rw [Y0,q1.length_eq]; rw [Y0] at hz; exact hz,out,e,Vf,he⟩,rfl,q _ Oz (I.hok.fresh (Ze _)) q1 ?_⟩;have p1:(out.map (Um s.heap)).Pairwise (fun a b=>Bg b a=false):=ZO.mpr o2;have keys:out.map (Um s.heap)=(Oz.map (·.2)).map (cZ Du.s):=by
  refine cM fun i=>?_
  have ol:out.length=Oz.length:=by rw [<-Vf.length,Y0]
  rw [Y9,Y9];cases z:out[i]? with
  | none=>
   have:Oz.length<=i:=by rw [<-ol]; exact bJ.mp z
   rw [aT (by rw [Y0]; exact this)];rfl
  | some v=>
   have hi:i < Oz.length:=by rw [<-ol]; exact (Y8.mp z).1
   have e2:(Oz.map (·.2))[i]? = some (Oz[i]).2:=by rw [Y9,Y1 hi]; rfl
   rw [e2];show some _=some _
   rw [Ma (at2 Oz out (fun p X3=>hp p (q1.mem_iff.mp X3)) Vf i v _ z e2)]
 rw [keys] at p1;exact ZO.mp p1
end L2
namespace L2
open PySem PySem.Spec PyProof.Rows
theorem QO {mask finger moves:Nat} {led plain:Bool} {hs:Array Int} {t:SetTable} {o:Array Nat} (h:SetTable.laid mask finger moves led plain hs=some (t,o)):t.led=led/\t.plain=plain:=by
 unfold SetTable.laid at h;cases e:SetTable.layClean mask hs with
 | none=>rw [e] at h; cases h
 | some ow=>
  rw [e] at h;injection h with h;injection h with h1 h2;subst h1;exact ⟨rfl,rfl⟩
theorem Ot (t:SetTable) (es:Array (Int × Value)) (wanted:Nat):(relayAll t es wanted).2.1.led=t.led/\(t.plain=false->(relayAll t es wanted).2.1.plain=false):=by
 unfold relayAll;split
 ·rename_i t' order e
  have:=QO e;dsimp only;split
  ·exact ⟨this.1,fun z=>this.2.trans z⟩
  ·exact ⟨rfl,fun _=>rfl⟩
 ·exact ⟨rfl,fun _=>rfl⟩
theorem Sz (t:SetTable) (es:Array (Int × Value)) (h:Int) (x:Value):(layNew t es h x).2.1.led=t.led:=by
 unfold layNew;split
 ·dsimp only;unfold SetTable.orStandIn;split <;> rfl
 ·rfl
section
variable {prog:Program} {w:World} {A:Around} {E:Value->Shared->Prop} {s:Shared}
def Tab (w:World) (es:Array (Int × Value)) (t:SetTable):Prop:=t.led=(!w.params.followText "set-order")/\(0 < es.size->t.plain=false)
def Df (prog:Program) (w:World) (h:Heap) (a:Addr) (S:Str->Bool) (n:Nat):Prop:=
 ∃ o es ep t,h.get? a=some o/\o.ExactSet/\o.data=.set es ep t/\ElemsOf (PySem.strKind prog w) es.toList/\(∀ k,S k=true ↔ ∃ e ∈ es.toList,(PySem.strKind prog w).is k e.2=true) /\
  es.size < scanBound/\t.fits es.size=true/\es.size=n/\Tab w es t
theorem Qq {a:Addr} {S:Str->Bool} {n:Nat} {k:Str} {tk:Tok} {Q:Bool->Shared->Prop} (hS:Df prog w s.heap a S n) (room:n + 1 < scanBound)
  (h:∀ h',Heap.SameBut a s.heap h'->Df prog w h' a (fun k'=>S k' || decide (k'=k)) (if S k then n else n + 1)->Q (!S k) { s with heap:=h' }) :
  wpAny (model prog w) A (setAddHashed a (.str k tk) ((PySem.strKind prog w).hash k)) Q E s:=by
 obtain ⟨o,es,ep,t,ho,ex,hd,el,mem,few,fit,hn,tab⟩:=hS;have is:(PySem.strKind prog w).is k (.str k tk)=true:=by simp [PySem.strKind,Value.isStrOf]
 have sc:(Value.str k tk).scannable=true:=rfl;have UM:es.size + 1 < scanBound:=by lia
 unfold setAddHashed setAddHashedIn;refine wpAny_holding (wpAny_bind (wpAny_setState_of ho hd fit ?_));dsimp only;rw [if_pos (byScan_of sc few el)];unfold setAddByScan;refine wpAny_bind (wpAny_bind (wpAny_rule (wpAny_bind (wpAny_setScan_of is ho hd fit el ?_))));cases hr:List.findIdx? (fun e=>(PySem.strKind prog w).is k e.2) es.toList with
 | some j=>
  obtain ⟨hj,pj,_⟩:=List.findIdx?_eq_some_iff_getElem.mp hr;have there:S k=true:=(mem k).mpr ⟨es.toList[j],Zv hj,pj⟩;refine wpAny_pure (wpAny_pure ?_);have q:=h s.heap (Heap.SameBut.refl a s.heap) ⟨o,es,ep,t,ho,ex,hd,el,fun k'=>?_,few,fit,by rw [there]; exact hn,tab⟩
  ·rw [there] at q; exact q
  ·rw [Bool.or_eq_true,decide_eq_true_eq,<-mem k'];exact ⟨fun z=>z.elim id fun e=>e ▸ there,.inl⟩
 | none=>
  have gone:S k=false:=by
   cases z:S k with
   | false=>rfl
   | true=>
    obtain ⟨e,he,hp⟩:=(mem k).mp z;have:=List.findIdx?_eq_none_iff.mp hr e he;rw [hp] at this;cases this
  dsimp only;have pm:=layNew_perm t es ((PySem.strKind prog w).hash k) (.str k tk);have ft:=layNew_fits t es ((PySem.strKind prog w).hash k) (.str k tk);have ld:=Sz t es ((PySem.strKind prog w).hash k) (.str k tk);generalize layNew t es ((PySem.strKind prog w).hash k) (.str k tk)=L at pm ft ld ⊢;obtain ⟨IL,t1,dum,gv⟩:=L;dsimp only at pm ft ld ⊢;rw [cD] at pm;have el1:=(el.push is sc).perm pm;have VD:=mem_push_iff is mem pm;have z1:IL.size=n + 1:=by rw [<-YY,pm.length_eq,Y6,YY,hn]; rfl
  have UL:IL.size < scanBound:=by lia
  have fin:∀ (K2:Array (Int × Value)) (t2:SetTable) (h':Heap) (o':Obj) (SM:Nat),Heap.SameBut a s.heap h'->h'.get? a=some o'->o'.ExactSet->o'.data=.set K2 SM t2->K2.toList.Perm IL.toList->t2.fits K2.size=true->t2.led=t.led->t2.plain=false->Q true { s with heap:=h' }:=by
   intro K2 t2 h' o' SM sb g x d p f l pl;have z2:K2.size=n + 1:=by rw [<-z1,<-YY,p.length_eq,YY]
   have q:=h h' sb ⟨o',K2,SM,t2,g,x,d,el1.perm p,fun k'=>(VD k').trans ⟨fun ⟨e,he,r⟩=>⟨e,p.mem_iff.mpr he,r⟩,fun ⟨e,he,r⟩=>⟨e,p.mem_iff.mp he,r⟩⟩,by lia,f,by rw [gone]; exact z2,l.trans tab.1,fun _=>pl⟩;rw [gone] at q;exact q
  have gw:∀ (b:Bool) {AN:Shared} {R:Unit->Shared->Prop},R () AN->wpAny (model prog w) A (match b with | true=>rule "set.scan.the-table-gave-way" | false=>pure ()) R E AN:=fun b AN R q=>by cases b <;> first | exact wpAny_pure q | exact wpAny_rule q
  refine wpAny_bind (gw gv ?_);have main:∀ t2:SetTable,t2.fits IL.size=true->t2.led=t.led->t2.plain=false->wpAny (model prog w) A (do
    storeSet a IL t2
    if (!dum && t2.tooFull)=true then do
      (match (relayAll t2 IL (SetTable.grown IL.size)).2.2 with | true=>rule "set.scan.the-table-gave-way" | false=>pure ())
      storeSet a (relayAll t2 IL (SetTable.grown IL.size)).1 (relayAll t2 IL (SetTable.grown IL.size)).2.1
      pure (some true)
     else pure (some true)) (fun r s'=>r=some true/\Q true s') E s:=by
   intro t2 f2 l2 p2;refine wpAny_bind (wpAny_storeSet_of ho hd ?_ (fits_of_scanBound UL));obtain ⟨g1,_⟩:=SetOf_store (knd:=PySem.strKind prog w) ho ex hd el1 VD UL f2;have sb1:=Heap.SameBut.update s.heap a (Obj.putSet IL t2);split
   ·have pr:=relayAll_perm t2 IL (SetTable.grown IL.size);have fr:=relayAll_fits t2 IL (SetTable.grown IL.size);have lr:=Ot t2 IL (SetTable.grown IL.size);generalize relayAll t2 IL (SetTable.grown IL.size)=R at pr fr lr ⊢;obtain ⟨K2,t3,gv2⟩:=R;dsimp only at pr fr lr ⊢;have z2:K2.size=IL.size:=by rw [<-YY,pr.length_eq,YY]
    refine wpAny_bind (gw gv2 ?_);refine wpAny_bind (wpAny_storeSet_of g1 rfl ?_ (fits_of_scanBound (by rw [z2]; exact UL)));have g2:=Zo (Obj.putSet K2 t3) g1 (by rw [putSet_of K2 t3 rfl]; rfl);rw [putSet_of K2 t3 rfl] at g2;exact wpAny_pure ⟨rfl,fin K2 t3 _ _ _ (sb1.trans (Heap.SameBut.update _ a _)) g2 ex rfl pr fr (lr.1.trans l2) (lr.2 p2)⟩
   ·exact wpAny_pure ⟨rfl,fin IL t2 _ _ _ sb1 g1 ex rfl (.refl _) f2 l2 p2⟩
  by_cases pl:t1.plain=true
  ·rw [if_pos pl];refine wpAny_bind ?_;rw [hashByValue_scannable 8 sc];refine wpAny_pure ?_;refine wpAny_mono (main { t1 with plain:=false } (SetTable.fits_plain_off ft) ld rfl) (fun r s' z=>?_) fun _ _ z=>z
   obtain ⟨rfl,z⟩:=z;exact wpAny_pure z
  ·rw [if_neg pl];refine wpAny_bind (wpAny_pure ?_);refine wpAny_mono (main t1 ft ld (by simpa using pl)) (fun r s' z=>?_) fun _ _ z=>z
   obtain ⟨rfl,z⟩:=z;exact wpAny_pure z
end
section
variable {prog:Program} {w:World} {A:Around} {R:Result->Shared->Prop} {I:Addr} {fp wr:List Addr} {G:Array GenState->Array GenState->Prop} {n:Nat} {P:Nat->Value->Prop} {St:Nat->Shared->Prop}
theorem Df.kept {h h':Heap} {a:Addr} {S:Str->Bool} {n:Nat} (hS:Df prog w h a S n) (k:∀ o,h.get? a=some o->h'.get? a=some o):Df prog w h' a S n:=by
 obtain ⟨o,es,ep,t,ho,r⟩:=hS;exact ⟨o,es,ep,t,k _ ho,r⟩
theorem Df.as {h:Heap} {a:Addr} {S S':Str->Bool} {n n':Nat} (hS:Df prog w h a S n) (e:∀ k,S' k=S k) (en:n'=n):Df prog w h a S' n':=by
 subst en;have:S'=S:=funext e;rw [this];exact hS
theorem Ol (W:WalksS prog w A.in1 I fp wr G n P St) (D:Addr) (hD:D ∉ fp) (val:Nat->Str) (hv:∀ i v,P i v->∃ tk,v=.str (val i) tk) (few:n + 1 < scanBound) :
  ∀ (k i:Nat) (s:Shared),n - i=k->i<=n->St i s->Df prog w s.heap D (fun k'=>(met val i).any (· == k')) (met val i).length ->
   (∀ s',Moved (D :: wr) G s s'->Df prog w s'.heap D (fun k'=>(met val n).any (· == k')) (met val n).length->R (.ok (.ret .none)) s') ->
   codeAny (model prog w) A (.builtin "set.update.loop" ⟨[.ref D,.ref I],[]⟩) R s:=by
 have hw:D ∉ wr:=fun z=>hD (W.sub _ z)
 have up:∀ b ∈ wr,b ∈ D :: wr:=fun b z=>YT _ z
 intro k;induction k with
 | zero=>
  intro i s hk hi st hS q;have e:i=n:=by lia
  subst e;refine codeAny_builtin F.entry_set_update_loop ?_;rw [Around.under_plainId F.plain_set_update_loop _];refine wpAny_bind (W.done s _ _ st fun s' m=>?_);exact wpAny_pure (q s' (m.mono up) (hS.kept fun o e=>m.heap D _ hw e))
 | succ k ih=>
  intro i s hk hi st hS q;have lt:i < n:=by lia
  refine codeAny_builtin F.entry_set_update_loop ?_;rw [Around.under_plainId F.plain_set_update_loop _];refine wpAny_bind (W.item i s _ _ lt st fun v s' pv AM m=>?_);obtain ⟨tk,rfl⟩:=hv i v pv;have N3:=hS.kept (h':=s'.heap) fun o e=>m.heap D _ hw e
  refine wpAny_bind (wpAny_holding ?_);unfold setAdd;refine wpAny_holding ?_;refine wpAny_bind ((PySem.strKind prog w).pyHash (k:=val i) (by simp [PySem.strKind,Value.isStrOf]) ?_);refine Qq (s:={ s' with toks:=s'.toks + 1 }) N3 (by have:=Dy val i; lia) fun h' sb hS2=>?_
  have nx:Df prog w h' D (fun k'=>(met val (i + 1)).any (· == k')) (met val (i + 1)).length:=
   hS2.as (fun k'=>by rw [HS,Of]) (by rw [HS,F6])
  refine wpAny_pure ⟨plainId_quiet F.plain_set_update_loop _,ih (i + 1) _ (by lia) lt (W.frame _ s' _ _ AM (Ze _) fun b z o e=>?_) nx fun Ui m2 hS3=>?_⟩
  ·rw [sb.2 b fun y:b=D=>hD (y ▸ z)];exact e
  ·refine q Ui (Moved.trans W.gtrans ((m.mono up).then_heap (Ze _) fun b o z e=>?_) m2) hS3;rw [sb.2 b fun y:b=D=>z (y ▸ YO)];exact e
end
section
variable {prog:Program} {w:World} {A:Around} {E:Value->Shared->Prop} {s:Shared}
theorem Qp (a:Value) {Q₁:Value->Shared->Prop}
  (h:Q₁ (.ref s.heap.objs.size) { s with heap:=s.heap.push { cls:=.type "set",dict:=none,data:=.set #[] 0 (.fresh 0 0 (!w.params.followText "set-order")) } }) :
  codeAny (model prog w) A (.call (.builtin "set.__new__") ⟨[.type "set",a],[]⟩) (wants Q₁ E) s:=by
 refine codeAny_of_tree ?_;show wpAny _ A.in1 (checkBuiltinCall "set.__new__" ⟨[.type "set",a],[]⟩ >>= fun _=>again (.builtin "set.__new__" ⟨[.type "set",a],[]⟩)) _ _ s
 refine wpAny_bind (wpAny_of_eq (F.newCall_set_1 a) (wpAny_pure ⟨plainId_quiet F.plain_set_new _,codeAny_builtin F.entry_set_new ?_⟩));rw [Around.under_plainId F.plain_set_new _];unfold Builtin.«set.__new__» Builtin.Frozenset.newClass;have hsub:=sub_set_self;obtain ⟨hp,g,d,tk,os⟩:=s;dsimp only;wp_walk;refine wpAny_askSetting (wpAny_pure ?_);dsimp only;simp only [newObj];refine wpAny_bind (wpAny_alloc (wpAny_pure ?_));exact wpAny_pure h
theorem MP {a:Addr} {T:String} {o:Obj} {oI:Obj} {items:Array Value} {val:Nat->Str} {St:Addr->Nat->Heap->Prop} {Q:Value->Shared->Prop} (hh:A.handled=none)
  (ho:s.heap.get? a=some o) (hc:o.cls=.type T) (hnd:(Value.type T == Value.type "dict")=false) (hs1:isSubtype (.type T) (.type "set")=pure false) (VN:isSubtype (.type T) (.type "frozenset")=pure false)
  (hit:∀ (B:Around) (E':Value->Shared->Prop) (s1:Shared) (Q':Value->Shared->Prop),(∀ b o,s.heap.get? b=some o->s1.heap.get? b=some o)->Q' (.ref s1.heap.objs.size) { s1 with heap:=s1.heap.push oI }->wpAny (model prog w) B (pyIter (.ref a)) Q' E' s1)
  (hW:∀ (B:Around) (I:Addr),B.handled=none->a ≠ I->Walks prog w B I [I,a] [I] items.size (fun i v=>items[i]? = some v) (St I))
  (hst:∀ h:Heap,(∀ b o,s.heap.get? b=some o->h.get? b=some o)->St h.objs.size 0 (h.push oI))
  (hi:∀ (i:Nat) v,items[i]? = some v->∃ tk,v=.str (val i) tk) (few:items.size + 1 < scanBound)
  (h:∀ (h':Heap) (tk:Nat),Df prog w h' s.heap.objs.size (fun k'=>(met val items.size).any (· == k')) (met val items.size).length ->
   (∀ b o,s.heap.get? b=some o->h'.get? b=some o)->Q (.ref s.heap.objs.size) { s with heap:=h',toks:=tk }) :
  wpAny (model prog w) A (call (.type "set") [.ref a]) Q E s:=by
 obtain ⟨c,tl,hmro⟩:=F.called_set.mro;have hmade:=F.called_set.made;have hsub:=F.called_set.sub;refine wpAny_call (codeAny_of_tree ?_);show wpAny _ _ (callAny (.type "set") _) _ _ _
 refine wpAny_pure ⟨Code.quiet_builtin _ (by decide +kernel),codeAny_builtin F.entry_type_call ?_⟩;rw [Around.under_plain (weight_type_call_type "set" [.ref a] []) rfl];have h1:=F.called_set.notType;have h2:=F.called_set.canCreate;have hct:=F.typeCall_set_1 (.ref a);repeat (any_goals (first | assumption | wp_step))
 obtain ⟨fr,efr⟩:∃ fr:Obj,fr = { cls:=.type "set",dict:=none,data:=.set #[] 0 (.fresh 0 0 (!w.params.followText "set-order")) }:=⟨_,rfl⟩
 refine codeAny_mono (Qp (.ref a) (E:=E) (Q₁:=fun obj AN=>obj=.ref s.heap.objs.size/\AN = { s with heap:=s.heap.push fr }) ⟨rfl,by rw [efr]⟩) fun r AN hr=>?_
 have gS:(s.heap.push fr).get? s.heap.objs.size=some fr:=YD _ (by rw [efr]; rfl);have cf:fr.cls=.type "set":=by rw [efr]
 have new:∀ h5:Heap,h5.get? s.heap.objs.size=some fr->Df prog w h5 s.heap.objs.size (fun k'=>(met val 0).any (· == k')) (met val 0).length:=fun h5 g=>
  ⟨fr,#[],0,.fresh 0 0 (!w.params.followText "set-order"),g,by rw [efr]; exact ⟨rfl,rfl,rfl⟩,by rw [efr],fun e he=>by simp at he,fun k=>by simp [met],by decide,rfl,rfl,rfl,fun z=>by simp at z⟩
 cases r with
 | error e=>exact hr
 | ok fl=>
  cases fl with
  | ret obj=>
   obtain ⟨rfl,rfl⟩:=hr;have hT:Shared.TypeIs { s with heap:=s.heap.push fr } (.ref s.heap.objs.size) "set":=⟨_,gS,cf⟩
   have hli:=F.called_set.init.lookup;have hbi:=F.called_set.init.bind (.ref s.heap.objs.size);repeat (any_goals (first | assumption | wp_step))
   refine codeAny_mono (codeAny_call_builtin (R:=wants (fun r El=>r=.none/\∃ h' tk,El = { s with heap:=h',toks:=tk } /\
     Df prog w h' s.heap.objs.size (fun k'=>(met val items.size).any (· == k')) (met val items.size).length /\
     (∀ b o,s.heap.get? b=some o->h'.get? b=some o)) E) F.called_set.init.plain F.entry_set_init (check_set_init_1 hT ?_)) fun WZ El QV=>?_
   ·obtain ⟨ocls,odict,odata,oslots⟩:=o;simp only at hc;subst hc;have lt:a < s.heap.objs.size:=YC ho;have IY:(s.heap.push fr).get? a=some { cls:=.type T,dict:=odict,data:=odata,slots:=oslots }:=Y2 _ ho;subst efr;unfold Builtin.«set.__init__» noKeywords Builtin.Frozenset.updateFrom;generalize hPI:pyIter=PI;wp_walk;subst hPI;refine hit _ _ _ _ (fun b o e=>Y2 _ e) ?_;refine wpAny_bind (wpAny_runValue ?_);have ne:a ≠ (s.heap.push { cls:=.type "set",dict:=none,data:=.set #[] 0 (.fresh 0 0 (!w.params.followText "set-order")) }).objs.size:=by
     rw [Zk]; exact YF (YV lt)
    have nS:s.heap.objs.size ∉ [(s.heap.push { cls:=.type "set",dict:=none,data:=.set #[] 0 (.fresh 0 0 (!w.params.followText "set-order")) }).objs.size,a]:=by
     rw [Zk]; simp only [Y4,YB,or_false,not_or];exact ⟨YF (YZ _),Zx lt⟩
    refine Ol ((hW _ _ (by simp [hh]) ne).toS) s.heap.objs.size nS val hi few (items.size - 0) 0 _ (by lia) (Zd _) (hst _ fun b o e=>Y2 _ e) (new _ (Y2 _ gS)) ?_;intro s' hm N3;obtain ⟨h',g',d',Vd,Xh⟩:=s';have eg:g'=s.gens:=hm.gens;have ed:d'=s.drawn:=hm.drawn;have eo:Xh=s.os:=hm.os;subst eg ed eo;refine wpAny_pure ?_;refine wpAny_pure ⟨rfl,h',Vd,rfl,N3,fun b o e=>?_⟩;have hb:=YC e;have VU:b ≠ s.heap.objs.size:=YF hb;have hb2:b ≠ (s.heap.push { cls:=.type "set",dict:=none,data:=.set #[] 0 (.fresh 0 0 (!w.params.followText "set-order")) }).objs.size:=by
     rw [Zk]; exact YF (YV hb)
    exact hm.heap b o (by simp only [Y4,YB,or_false,not_or]; exact ⟨VU,hb2⟩) (Y2 _ (Y2 _ e))
   ·cases WZ with
    | error e=>exact QV
    | ok We=>
     cases We with
     | ret r=>
      obtain ⟨rfl,h',tk,rfl,N3,OO⟩:=QV;repeat (any_goals (first | assumption | wp_step))
      exact h _ _ N3 OO
     | _=>exact QV.elim
  | _=>exact hr.elim
end
theorem Iq:entryFor table "set.__iter__"=some Builtin.«frozenset.__iter__»:=
 entryFor_alias (id':="frozenset.__iter__") (by kernel_rfl) rfl (by decide +kernel) (by kernel_rfl)
theorem Cm:entryFor table "set_iterator.__next__"=some Builtin.«set_iterator.__next__»:=entryFor_of_tree (by kernel_rfl)
theorem AE:Slot "set_iterator" "__next__" "set_iterator.__next__":=
 .of (owner:="set_iterator") (n:="__next__") (by rw [typeLookup_type,builtinLookup_eq_fast]; kernel_rfl) (by decide +kernel) (by decide +kernel) (by decide +kernel)
  (by first | exact .inl (by decide +kernel) | exact .inr (by decide +kernel)) (by rw [isSubtype_type]; kernel_rfl)
theorem Eo:Slot "set_iterator" "__iter__" "set_iterator.__iter__":=
 .of (owner:="set_iterator") (n:="__iter__") (by rw [typeLookup_type,builtinLookup_eq_fast]; kernel_rfl) (by decide +kernel) (by decide +kernel) (by decide +kernel)
  (by first | exact .inl (by decide +kernel) | exact .inr (by decide +kernel)) (by rw [isSubtype_type]; kernel_rfl)
theorem C1 (a:Value):argsOk "set_iterator.__next__" ⟨[a],[]⟩:=by unfold argsOk; kernel_rfl
theorem IF (a:Value):argsOk "set_iterator.__iter__" ⟨[a],[]⟩:=by unfold argsOk; kernel_rfl
theorem GZ:entryFor table "set_iterator.__iter__"=some Builtin.«dict_keyiterator.__iter__»:=
 entryFor_alias (id':="dict_keyiterator.__iter__") (by kernel_rfl) (by first | rfl | decide +kernel | (unfold String.splitOn; simp +decide [String.splitOnAux])) (by decide +kernel) (by kernel_rfl)
section
variable {prog:Program} {w:World} {A:Around} {E:Value->Shared->Prop} {s:Shared}
def Dh (x:Value) (i:Int) (a:Addr) (n ep:Nat):Obj:={ cls:=.type "set_iterator",data:=.fields #[x,.int i 0,.ref a,.int n 0,.int ep 0] }
theorem Ju {r a:Addr} {x:Value} {i:Int} {n ep:Nat} {Q:Value->Shared->Prop} (hr:s.heap.get? r=some (Dh x i a n ep)) (h:Q (.ref r) s):wpAny (model prog w) A (pyIter (.ref r)) Q E s:=by
 have hT:s.TypeIs (.ref r) "set_iterator":=⟨_,hr,rfl⟩
 refine wpAny_pyIter_slot hT Eo (wpAny_call_entry Eo hT GZ ?_ (IF _));show wpAny _ _ (ret (.ref r)) _ _ s
 exact wpAny_pure ⟨_,rfl,"set_iterator",_,hT,AE.lookup,h⟩
def CI (w:World) (a:Addr) (es:Array (Int × Value)) (ep:Nat) (t:SetTable) (slot given:Nat):Option (Value × Nat):=
 if w.params.followText "set-order"=true then ((pickOrder (w.params.setOrder a ep) es)[given]?).map fun e=>(e.2,slot) else
 match es[SetTable.below t.place slot]?,t.place[SetTable.below t.place slot]? with
  | some (_,x),some j=>some (x,j + 1)
  | _,_=>none
theorem KP {a:Addr} {o:Obj} {es:Array (Int × Value)} {ep:Nat} {t:SetTable} {slot given:Nat} {Q:Option (Value × Nat)->Shared->Prop} (ho:s.heap.get? a=some o) (hd:o.data=.set es ep t) (fit:t.fits es.size=true) (tab:Tab w es t)
  (few:w.params.followText "set-order"=false->es.size<=1) (h:Q (CI w a es ep t slot given) s):wpAny (model prog w) A (setNext a slot given ep) Q E s:=by
 unfold setNext;refine wpAny_bind (wpAny_setState_of ho hd fit ?_);dsimp only;unfold setsByText;refine wpAny_bind (wpAny_bind (wpAny_askSetting (wpAny_pure ?_)));unfold CI at h;show wpAny _ _ (if w.params.followText "set-order"=true then _ else _) _ _ _
 by_cases z:w.params.followText "set-order"=true
 ·rw [if_pos z] at h;rw [if_pos z,if_neg (by simp)];unfold setWalk;refine wpAny_bind (wpAny_bind (wpAny_setState_of ho hd fit ?_));dsimp only;unfold setsByText;refine wpAny_bind (wpAny_bind (wpAny_askSetting (wpAny_pure ?_)));show wpAny _ _ (if w.params.followText "set-order"=true then _ else _) _ _ _
  rw [if_pos z];refine wpAny_bind (wpAny_askSetting (wpAny_pure ?_));exact wpAny_pure h
 ·rw [if_neg z] at h;rw [if_neg z];have z':w.params.followText "set-order"=false:=by simpa using z
  have sm:=few z';show wpAny _ _ (if (!t.plain && decide (es.size > 1))=true then _ else _) _ _ _
  rw [if_neg (by simp; lia)];refine wpAny_bind ?_;show wpAny _ _ (if (!t.led && !es.isEmpty)=true then _ else _) _ _ _
  rw [if_neg (by rw [tab.1,z']; simp)];exact wpAny_pure (wpAny_pure h)
theorem Og {r a:Addr} {slot i:Nat} {o:Obj} {es:Array (Int × Value)} {ep:Nat} {t:SetTable} {x:Value} {nx:Nat} {Q:Option Value->Shared->Prop}
  (hr:s.heap.get? r=some (Dh (.int slot 0) i a es.size ep)) (ho:s.heap.get? a=some o) (hd:o.data=.set es ep t) (fit:t.fits es.size=true) (tab:Tab w es t) (few:w.params.followText "set-order"=false->es.size<=1)
  (hx:CI w a es ep t slot i=some (x,nx))
  (hQ:∀ h',h'.get? r=some (Dh (.int nx 0) (i + 1) a es.size ep)->Heap.SameBut r s.heap h'->Q (some x) { s with heap:=h' }) :
  wpAny (model prog w) A (pyNext (.ref r)) Q E s:=by
 have hT:s.TypeIs (.ref r) "set_iterator":=⟨_,hr,rfl⟩
 obtain ⟨hp,g,d,tk,os⟩:=s;unfold pyNext;refine wpAny_bind (wpAny_attempt (wpAny_callSpecial?_slot (name:=Str.ofString "__next__") hT AE
  (wpAny_call_entry AE hT Cm ?_ (C1 _))))
 unfold Builtin.«set_iterator.__next__»;unfold Dh at hr;repeat (any_goals (first | assumption | (refine wpAny_setEntries_of ho hd fit ?_) | (refine KP (given:=i) (slot:=slot) ho hd fit tab few ?_) | wp_step))
 rw [show ((ep:Nat):Int).toNat=ep by simp,hx];repeat (any_goals (first | assumption | wp_step))
 refine ⟨_,rfl,wpAny_pure (hQ _ ?_ ((Heap.SameBut.update ..).trans (Heap.SameBut.update ..)))⟩;have e1:=Zo (Obj.mapFields fun fs=>fs.setIfInBounds 0 (rawInt nx)) hr rfl;have e2:=Zo (Obj.mapFields fun fs=>fs.setIfInBounds 1 (rawInt (i + 1))) e1 rfl;exact e2
theorem Qm {r a:Addr} {slot i:Nat} {o:Obj} {es:Array (Int × Value)} {ep:Nat} {t:SetTable} {Q:Option Value->Shared->Prop} (hh:A.handled=none)
  (hr:s.heap.get? r=some (Dh (.int slot 0) i a es.size ep)) (ho:s.heap.get? a=some o) (hd:o.data=.set es ep t) (fit:t.fits es.size=true) (tab:Tab w es t) (few:w.params.followText "set-order"=false->es.size<=1)
  (hx:CI w a es ep t slot i=none)
  (hQ:∀ h',Heap.ExtBut r s.heap h'->Q none { s with heap:=h' }) :
  wpAny (model prog w) A (pyNext (.ref r)) Q E s:=by
 have hT:s.TypeIs (.ref r) "set_iterator":=⟨_,hr,rfl⟩
 obtain ⟨hp,g,d,tk,os⟩:=s;unfold pyNext;refine wpAny_bind (wpAny_attempt (wpAny_callSpecial?_slot (name:=Str.ofString "__next__") hT AE
  (wpAny_call_entry AE hT Cm ?_ (C1 _))))
 unfold Builtin.«set_iterator.__next__»;unfold Dh at hr;repeat (any_goals (first | assumption | (refine wpAny_setEntries_of ho hd fit ?_) | (refine KP (given:=i) (slot:=slot) ho hd fit tab few ?_) | wp_step))
 rw [show ((ep:Nat):Int).toNat=ep by simp,hx];repeat (any_goals (first | assumption | wp_step))
 simp only [raiseNew];refine wpAny_bind (wpAny_handled ?_);rw [show A.in1.handled=none from hh];refine wpAny_bind (wpAny_pure (wpAny_throw ?_));refine wpAny_bind (wpAny_isInstance (T:="StopIteration") (b:=true) ⟨_,YD _ rfl,rfl⟩ isSubtype_stop ?_);exact wpAny_pure (hQ _ fun b o hb e=>Y2 _ (Y2 _ ((Heap.SameBut.update ..).extBut b o hb e)))
end
section
variable {prog:Program} {w:World} {A:Around} {E:Value->Shared->Prop} {s:Shared}
def O5 (is:List Nat) (c:Nat):Obj:={ cls:=.type "tuple",data:=.seq (is.map fun (i:Nat)=>rawInt i).toArray c }
theorem Oh {a:Addr} {o:Obj} {es:Array (Int × Value)} {ep:Nat} {t:SetTable} {j:Nat} {h:Int} {x:Value} {Q:Value->Shared->Prop} (ho:s.heap.get? a=some o) (hd:o.data=.set es ep t) (fit:t.fits es.size=true)
  (hx:es[j]? = some (h,x)) (q:Q x s):wpAny (model prog w) A (setNextDrawn a j ep) Q E s:=by
 unfold setNextDrawn;refine wpAny_bind (wpAny_setState_of ho hd fit ?_);dsimp only;rw [if_neg (by simp),hx];exact wpAny_pure q
theorem Oi {r a p:Addr} {i c:Nat} {o:Obj} {es:Array (Int × Value)} {ep:Nat} {t:SetTable} {is:List Nat} {j:Nat} {h:Int} {x:Value} {Q:Option Value->Shared->Prop}
  (hr:s.heap.get? r=some (Dh (.ref p) i a es.size ep)) (hp:s.heap.get? p=some (O5 is c)) (ho:s.heap.get? a=some o) (hd:o.data=.set es ep t) (fit:t.fits es.size=true)
  (hj:is[i]? = some j) (hx:es[j]? = some (h,x))
  (hQ:∀ h',h'.get? r=some (Dh (.ref p) (i + 1) a es.size ep)->Heap.SameBut r s.heap h'->Q (some x) { s with heap:=h' }) :
  wpAny (model prog w) A (pyNext (.ref r)) Q E s:=by
 have hT:s.TypeIs (.ref r) "set_iterator":=⟨_,hr,rfl⟩
 have IZ:((is.map fun (i:Nat)=>rawInt i).toArray)[i]? = some (.int j 0):=by simp [hj,rawInt]
 obtain ⟨hp,g,d,tk,os⟩:=s;unfold pyNext;refine wpAny_bind (wpAny_attempt (wpAny_callSpecial?_slot (name:=Str.ofString "__next__") hT AE
  (wpAny_call_entry AE hT Cm ?_ (C1 _))))
 unfold Builtin.«set_iterator.__next__»;unfold Dh at hr;unfold O5 at hp;repeat (any_goals (first | assumption | (refine wpAny_setEntries_of ho hd fit ?_) | wp_step))
 rw [show ((i:Nat):Int).toNat=i by simp,IZ];dsimp only;refine wpAny_bind (Oh (h:=h) (x:=x) ho hd fit (by simpa using hx) ?_);repeat (any_goals (first | assumption | wp_step))
 refine ⟨_,rfl,wpAny_pure (hQ _ ?_ (Heap.SameBut.update ..))⟩;exact Zo (Obj.mapFields fun fs=>fs.setIfInBounds 1 (rawInt (i + 1))) hr rfl
theorem Qn {r a p:Addr} {i c:Nat} {o:Obj} {es:Array (Int × Value)} {ep:Nat} {t:SetTable} {is:List Nat} {Q:Option Value->Shared->Prop} (hh:A.handled=none)
  (hr:s.heap.get? r=some (Dh (.ref p) i a es.size ep)) (hp:s.heap.get? p=some (O5 is c)) (ho:s.heap.get? a=some o) (hd:o.data=.set es ep t) (fit:t.fits es.size=true)
  (hj:is[i]? = none) (hQ:∀ h',Heap.ExtBut r s.heap h'->Q none { s with heap:=h' }) :
  wpAny (model prog w) A (pyNext (.ref r)) Q E s:=by
 have hT:s.TypeIs (.ref r) "set_iterator":=⟨_,hr,rfl⟩
 have IZ:((is.map fun (i:Nat)=>rawInt i).toArray)[i]? = none:=by simpa using hj
 obtain ⟨hp,g,d,tk,os⟩:=s;unfold pyNext;refine wpAny_bind (wpAny_attempt (wpAny_callSpecial?_slot (name:=Str.ofString "__next__") hT AE
  (wpAny_call_entry AE hT Cm ?_ (C1 _))))
 unfold Builtin.«set_iterator.__next__»;unfold Dh at hr;unfold O5 at hp;repeat (any_goals (first | assumption | (refine wpAny_setEntries_of ho hd fit ?_) | wp_step))
 rw [show ((i:Nat):Int).toNat=i by simp,IZ];repeat (any_goals (first | assumption | wp_step))
 simp only [raiseNew];refine wpAny_bind (wpAny_handled ?_);rw [show A.in1.handled=none from hh];refine wpAny_bind (wpAny_pure (wpAny_throw ?_));refine wpAny_bind (wpAny_isInstance (T:="StopIteration") (b:=true) ⟨_,YD _ rfl,rfl⟩ isSubtype_stop ?_);exact wpAny_pure (hQ _ fun b o hb e=>Y2 _ (Y2 _ ((Heap.SameBut.update ..).extBut b o hb ((Heap.SameBut.update ..).extBut b o hb e))))
theorem LK (hh:A.handled=none) (I a:Addr) (ne:a ≠ I) {o:Obj} {es:Array (Int × Value)} {ep:Nat} {t:SetTable} (hd:o.data=.set es ep t) (fit:t.fits es.size=true) (tab:Tab w es t) (few:w.params.followText "set-order"=false->es.size<=1)
  (vs:List Value) (sl:Nat->Nat) (hs:∀ (i:Nat) (v:Value),vs[i]? = some v->CI w a es ep t (sl i) i=some (v,sl (i + 1))) (he:CI w a es ep t (sl vs.length) vs.length=none) :
  Walks prog w A I [I,a] [I] vs.length (fun i v=>vs[i]? = some v) (fun i h=>h.get? I=some (Dh (.int (sl i:Nat) 0) i a es.size ep)/\h.get? a=some o) where
 sub:=fun b hb=>by simp at hb; simp [hb]
 frame:=fun i h h' st k=>⟨k I (by simp) _ st.1,k a (by simp) _ st.2⟩
 item:=fun i s Q E hi st q=>by
  have e:vs[i]? = some vs[i]:=by simp [hi]
  refine Og st.1 st.2 hd fit tab few (hs i _ e) fun h' hr sb=>q _ h' s.toks e ⟨hr,?_⟩ fun b o hb z=>?_
  ·rw [sb.2 a ne]; exact st.2
  ·rw [sb.2 b (by simpa using hb)]; exact z
 done:=fun s Q E st q=>Qm hh st.1 st.2 hd fit tab few he fun h' eb=>q h' s.toks fun b o hb z=>eb b o (by simpa using hb) z
 self:=fun i s Q E st q=>Ju st.1 q
theorem LL (hh:A.handled=none) (I a p:Addr) (ne:a ≠ I) (np:p ≠ I) {o:Obj} {es:Array (Int × Value)} {ep c:Nat} {t:SetTable} (hd:o.data=.set es ep t) (fit:t.fits es.size=true)
  (is:List Nat) (vs:List Value) (hl:is.length=vs.length) (hs:∀ (i:Nat) (v:Value),vs[i]? = some v->∃ j h,is[i]? = some j/\es[j]? = some (h,v)) :
  Walks prog w A I [I,a,p] [I] vs.length (fun i v=>vs[i]? = some v) (fun i h=>h.get? I=some (Dh (.ref p) i a es.size ep)/\h.get? a=some o/\h.get? p=some (O5 is c)) where
 sub:=fun b hb=>by simp at hb; simp [hb]
 frame:=fun i h h' st k=>⟨k I (by simp) _ st.1,k a (by simp) _ st.2.1,k p (by simp) _ st.2.2⟩
 item:=fun i s Q E hi st q=>by
  have e:vs[i]? = some vs[i]:=by simp [hi]
  obtain ⟨j,h,e1,e2⟩:=hs i _ e;refine Oi st.1 st.2.2 st.2.1 hd fit e1 e2 fun h' hr sb=>q _ h' s.toks e ⟨hr,?_,?_⟩ fun b o hb z=>?_
  ·rw [sb.2 a ne]; exact st.2.1
  ·rw [sb.2 p np]; exact st.2.2
  ·rw [sb.2 b (by simpa using hb)]; exact z
 done:=fun s Q E st q=>Qn hh st.1 st.2.2 st.2.1 hd fit (by simp [hl]) fun h' eb=>q h' s.toks fun b o hb z=>eb b o (by simpa using hb) z
 self:=fun i s Q E st q=>Ju st.1 q
theorem Ip {α:Type} {xs:List α} {i:Nat} {x:α} (h:xs[i]? = some x):(x :: xs.eraseIdx i).Perm xs:=by
 induction xs generalizing i with
 | nil=>simp at h
 | cons y ys ih=>
  cases i with
  | zero=>simp at h; subst h; exact .refl _
  | succ i=>
   simp only [aH] at h;exact (List.Perm.swap _ _ _).trans ((ih h).cons _)
theorem Mw {α:Type} (n:Nat):∀ (xs:List α) (s:Shared) (Q:List α->Shared->Prop),n=xs.length->(∀ ys dr,ys.Perm xs->Q ys { s with drawn:=dr })->wpAny (model prog w) A (drawOrder n xs) Q E s:=by
 induction n with
 | zero=>
  intro xs s Q hn h;cases xs with
  | nil=>exact wpAny_pure (h [] s.drawn (.refl _))
  | cons x xs=>simp at hn
 | succ n ih=>
  intro xs s Q hn h;cases xs with
  | nil=>simp at hn
  | cons x xs=>
   unfold drawOrder;refine wpAny_bind ?_;intro Γ p hΓ;refine ⟨by simp,?_⟩;have lt:w.draws .order (s.drawn.get .order) % (x :: xs).length < (x :: xs).length:=dw _ (by simp);show wpAny (model prog w) A (match (x :: xs)[w.draws .order (s.drawn.get .order) % (x :: xs).length]? with
    | some y=>drawOrder n ((x :: xs).eraseIdx (w.draws .order (s.drawn.get .order) % (x :: xs).length)) >>= fun r=>pure (y :: r)
    | none=>unsupported "internal:drawOrder") Q E { s with drawn:=s.drawn.bump .order }
   generalize w.draws .order (s.drawn.get .order) % (x :: xs).length=i at lt;have e:(x :: xs)[i]? = some (x :: xs)[i]:=by simp
   rw [e];refine wpAny_bind (ih _ _ _ (by rw [cu]; simp only [lt,if_true]; lia) fun ys dr pm=>?_);exact wpAny_pure (h _ dr ((pm.cons _).trans (Ip e)))
theorem Nc {α:Type} (next:Nat->Nat):∀ (fuel k:Nat) (left:List α) (out:Array α),fuel=left.length->(pickOrder.go next fuel k left out).toList.Perm (out.toList ++ left)
 | 0,k,[],out,_=>by unfold pickOrder.go; simp
 | fuel + 1,k,x :: xs,out,h=>by
  unfold pickOrder.go;have lt:next k % (x :: xs).length < (x :: xs).length:=dw _ (by simp);generalize next k % (x :: xs).length=i at lt;have e:(x :: xs)[i]? = some (x :: xs)[i]:=by simp
  rw [e];refine (Nc next fuel (k + 1) _ _ (by rw [cu]; simp only [lt,if_true]; simp at h ⊢; lia)).trans ?_;rw [cD,Zw];exact (Ip e).append_left _
theorem O1 {α:Type} (next:Nat->Nat) (xs:Array α):(pickOrder next xs).toList.Perm xs.toList:=by
 unfold pickOrder;simpa using Nc next xs.size 0 xs.toList #[] (by simp)
end
theorem KD:∀ {vs:List Value},(∀ v ∈ vs,∃ x t,v=Value.str x t)->∃ ks,StrsAre vs ks
 | [],_=>⟨[],.nil⟩
 | v :: vs,h=>by
  obtain ⟨x,t,rfl⟩:=h v (by simp);obtain ⟨ks,r⟩:=KD fun u hu=>h u (YT _ hu)
  exact ⟨x :: ks,.cons x t r⟩
theorem Qa {P:Program} {w:World} {vs:List Value} {ks:List Str} (h:StrsAre vs ks) (k:Str):k ∈ ks ↔ ∃ v ∈ vs,(PySem.strKind P w).is k v=true:=by
 induction h with
 | nil=>simp
 | cons x t r ih=>
  rw [Y4,ih];constructor
  ·rintro (rfl | ⟨v,hv,e⟩)
   ·exact ⟨_,YO,by simp [PySem.strKind,Value.isStrOf]⟩
   ·exact ⟨v,YT _ hv,e⟩
  ·rintro ⟨v,hv,e⟩;rcases Y4.mp hv with rfl | hv
   ·refine .inl ?_;have e':Value.isStrOf k (.str x t)=true:=e;first | exact (eq_of_beq e').symm | exact eq_of_beq e' | exact of_decide_eq_true e' | exact (of_decide_eq_true e').symm
   ·exact .inr ⟨v,hv,e⟩
section
variable {prog:Program} {w:World} {A:Around} {E:Value->Shared->Prop} {s:Shared}
theorem Oj {a:Addr} {o:Obj} {es:Array (Int × Value)} {ep:Nat} {t:SetTable} {Q:Bool->Shared->Prop} (ho:s.heap.get? a=some o) (hd:o.data=.set es ep t) (fit:t.fits es.size=true)
  (h:Q (!w.params.followText "set-order" && (!t.plain && decide (es.size > 1))) s):wpAny (model prog w) A (setDrawn a) Q E s:=by
 unfold setDrawn;refine wpAny_bind (wpAny_setState_of ho hd fit ?_);dsimp only;unfold setsByText;exact wpAny_bind (wpAny_bind (wpAny_askSetting (wpAny_pure (wpAny_pure h))))
theorem Om {a:Addr} {S:Str->Bool} {n:Nat} {Q:Value->Shared->Prop} (hS:Df prog w s.heap a S n)
  (h:∀ (h':Heap) (dr:Drawn) (I:Addr) (fp:List Addr) (vs:List Value) (ks:List Str) (St:Nat->Heap->Prop),(∀ b o,s.heap.get? b=some o->h'.get? b=some o)->s.heap.objs.size<=I->(∀ b ∈ fp,b=a\/s.heap.objs.size<=b) ->
   StrsAre vs ks->(∀ k,S k=true ↔ k ∈ ks)->ks.length=n->(∀ B:Around,B.handled=none->Walks prog w B I fp [I] vs.length (fun i v=>vs[i]? = some v) St)->St 0 h'->Q (.ref I) { s with heap:=h',drawn:=dr }) :
  wpAny (model prog w) A (pyIter (.ref a)) Q E s:=by
 obtain ⟨o,es,ep,t,ho,ex,hd,el,mem,few,fit,hn,tab⟩:=hS;have lt:a < s.heap.objs.size:=YC ho;have strE:∀ e ∈ es.toList,∃ x tk,e.2=Value.str x tk:=fun e he=>by
  obtain ⟨⟨k,hk,_⟩,_⟩:=el e he;have OO:Value.isStrOf k e.2=true:=hk;cases z:e.2 <;> rw [z] at OO <;> first | exact ⟨_,_,rfl⟩ | (simp [Value.isStrOf] at OO)
 have tx:∀ vs:List Value,vs.Perm (es.toList.map (·.2))->∃ ks,StrsAre vs ks/\(∀ k,S k=true ↔ k ∈ ks)/\ks.length=n:=fun vs pm=>by
  obtain ⟨ks,r⟩:=KD (vs:=vs) fun v hv=>by
   obtain ⟨e,he,rfl⟩:=YA.mp (pm.mem_iff.mp hv);exact strE e he
  refine ⟨ks,r,fun k=>?_,by rw [<-r.length,pm.length_eq,Y0,YY]; exact hn⟩;rw [mem,Qa (P:=prog) (w:=w) r];constructor
  ·rintro ⟨e,he,z⟩;exact ⟨e.2,pm.mem_iff.mpr (YA.mpr ⟨e,he,rfl⟩),z⟩
  ·rintro ⟨v,hv,z⟩;obtain ⟨e,he,rfl⟩:=YA.mp (pm.mem_iff.mp hv);exact ⟨e,he,z⟩
 have hT:s.TypeIs (.ref a) "set":=⟨o,ho,ex.1⟩
 refine wpAny_pyIter_slot hT F.slot_set_iter (wpAny_call_entry F.slot_set_iter hT Iq ?_ (F.args_set_iter_1 _));unfold Builtin.«frozenset.__iter__» Builtin.Frozenset.slot0 slotArgs;simp only [List.isEmpty_nil,df,Za,↓reduceIte,bind_assoc,cQ,bne_self_eq_false];unfold Builtin.Frozenset.addrOf Builtin.Frozenset.sizeOf;refine wpAny_bind (wpAny_pure ?_);try dsimp only
 refine wpAny_bind (wpAny_pure ?_);refine wpAny_bind (wpAny_bind (wpAny_setEntries_of ho hd fit (wpAny_pure ?_)));refine wpAny_bind (Oj ho hd fit ?_);by_cases z:(!w.params.followText "set-order" && (!t.plain && decide (es.size > 1)))=true
 ·rw [if_pos z];refine wpAny_bind (Mw es.size (ZP es.size) _ _ (by rw [aa]) fun is dr pm=>?_);refine wpAny_bind (wpAny_newTuple ?_ (by rw [Y0,pm.length_eq,aa]; exact fits_of_scanBound few));refine wpAny_bind (wpAny_setEpoch_of (Y2 _ ho) hd fit ?_);refine wpAny_bind (wpAny_newObj_type (wpAny_pure ⟨_,rfl,"set_iterator",_,⟨_,YD _ rfl,rfl⟩,AE.lookup,?_⟩));have rng:∀ j ∈ is,j < es.size:=fun j hj=>ar.mp (pm.mem_iff.mp hj)
  have pv:(is.map fun j=>((es[j]?).map (·.2)).getD Value.none).Perm (es.toList.map (·.2)):=by
   refine (pm.map _).trans ?_;refine List.Perm.of_eq (ZJ (by simp) fun i h1 h2=>?_);have:i < es.size:=by simpa using h2
   simp [this]
  obtain ⟨ks,r1,r2,r3⟩:=tx _ pv;refine h _ dr _ [(s.heap.push (O5 is 0)).objs.size,a,s.heap.objs.size] _ ks _ (fun b o e=>Y2 _ (Y2 _ e)) (by rw [size_push']; exact Ze _) (fun b hb=>?_) r1 r2 r3
   (fun B hB=>LL hB _ a s.heap.objs.size (by rw [size_push']; exact YF (YV lt)) (by rw [size_push']; exact YF (YZ _)) hd fit is _ (by simp) fun i v e=>?_)
   ⟨YD _ rfl,Y2 _ (Y2 _ ho),Y2 _ (YD _ rfl)⟩
  ·simp only [Y4,YB,or_false] at hb;rcases hb with rfl | rfl | rfl
   ·exact .inr (by rw [size_push']; exact Ze _)
   ·exact .inl rfl
   ·exact .inr (Y7 _)
  ·rw [Y9] at e;cases ej:is[i]? with
   | none=>rw [ej] at e; cases e
   | some j=>
    rw [ej] at e;have hj:=rng j (Y5 ej);have e5:es[j]? = some es[j]:=by simp [hj]
    simp only [ZT,e5,Option.getD_some,YM.injEq] at e;exact ⟨j,es[j].1,rfl,by rw [e5,<-e]⟩
 ·rw [if_neg z];refine wpAny_bind (wpAny_pure ?_);refine wpAny_bind (wpAny_setEpoch_of ho hd fit ?_);refine wpAny_bind (wpAny_newObj_type (wpAny_pure ⟨_,rfl,"set_iterator",_,⟨_,YD _ rfl,rfl⟩,AE.lookup,?_⟩));have UM:w.params.followText "set-order"=false->es.size<=1:=fun q=>by
   rcases aK 1 es.size with y | y
   ·rw [q,tab.2 (by lia)] at z;simp [y] at z
   ·exact y
  have go:∀ (vs:List Value) (sl:Nat->Nat),sl 0=0->vs.Perm (es.toList.map (·.2))->(∀ (i:Nat) (v:Value),vs[i]? = some v->CI w a es ep t (sl i) i=some (v,sl (i + 1)))->CI w a es ep t (sl vs.length) vs.length=none ->
    Q (.ref s.heap.objs.size) { s with heap:=s.heap.push (Dh (rawInt 0) 0 a es.size ep) }:=fun vs sl s0 pm h1 h2=>by
   obtain ⟨ks,r1,r2,r3⟩:=tx _ pm;refine h _ s.drawn _ [s.heap.objs.size,a] vs ks _ (fun b o e=>Y2 _ e) (Y7 _) (fun b hb=>?_) r1 r2 r3 (fun B hB=>LK hB _ a (YF lt) hd fit tab UM vs sl h1 h2) ⟨?_,Y2 _ ho⟩
   ·simp only [Y4,YB,or_false] at hb;rcases hb with rfl | rfl
    ·exact .inr (Y7 _)
    ·exact .inl rfl
   ·rw [s0]; exact YD _ rfl
  by_cases ft:w.params.followText "set-order"=true
  ·refine go ((pickOrder (w.params.setOrder a ep) es).toList.map (·.2)) (fun _=>0) rfl ((O1 _ es).map _) (fun i v e=>?_) ?_
   ·unfold CI;rw [if_pos ft];rw [Y9,Z3] at e;cases y:(pickOrder (w.params.setOrder a ep) es)[i]? with
    | none=>rw [y] at e; cases e
    | some x=>rw [y] at e; cases e; rfl
   ·unfold CI;rw [if_pos ft];simp
  ·have sm:=UM (by simpa using ft);refine go (es.toList.map (·.2)) (fun i=>if i=0 then 0 else t.place.getD 0 0 + 1) rfl (.refl _) (fun i v e=>?_) ?_
   ·unfold CI;rw [if_neg ft];have i0:i < es.size:=by
     have:=(Y8.mp e).1;simpa using this
    have z1:es.size=1:=by lia
    have i1:i=0:=by lia
    subst i1;obtain ⟨x,rfl⟩:∃ x,es=#[x]:=⟨es[0],bM (by simpa using z1) fun j a1 a2=>by
     have:j=0:=by lia
     subst this; rfl⟩
    have pz:t.place.size=1:=by
     simp only [SetTable.fits,Zn,beq_iff_eq] at fit;exact fit.1
    obtain ⟨y,ey⟩:∃ y,t.place=#[y]:=⟨t.place[0],bM (by simpa using pz) fun j a1 a2=>by
     have:j=0:=by lia
     subst this; rfl⟩
    rw [ey];simp at e;subst e;rfl
   ·unfold CI;rw [if_neg ft];rcases cK es.size with z0 | z0
    ·have:es=#[]:=Array.eq_empty_of_size_eq_zero z0;subst this;rfl
    ·have z1:es.size=1:=by lia
     obtain ⟨x,rfl⟩:∃ x,es=#[x]:=⟨es[0],bM (by simpa using z1) fun j a1 a2=>by
      have:j=0:=by lia
      subst this; rfl⟩
     have pz:t.place.size=1:=by
      simp only [SetTable.fits,Zn,beq_iff_eq] at fit;exact fit.1
     obtain ⟨y,ey⟩:∃ y,t.place=#[y]:=⟨t.place[0],bM (by simpa using pz) fun j a1 a2=>by
      have:j=0:=by lia
      subst this; rfl⟩
     rw [ey];simp [SetTable.below,SetTable.below.go]
end
section
variable {prog:Program} {w:World} {A:Around} {E:Value->Shared->Prop} {s:Shared}
theorem Qo {r:Addr} {Q:Bool->Shared->Prop} (hT:s.TypeIs (.ref r) "set") (h:∀ b,Q b s):wpAny (model prog w) A (Builtin.List.listLengthHint (.ref r)) Q E s:=by
 unfold Builtin.List.listLengthHint;refine wpAny_bind (wpAny_specialOf hT PySem.F.slot_set_len.lookup ?_);generalize hid:("set.__len__":String)=id0;wp_delta;rw [show splitId id0=some ("set","__len__") from by subst hid; decide +kernel];subst hid;refine wpAny_bind (wpAny_isInstance (T:="set") (b:=true) hT (by rw [isSubtype_type]; kernel_rfl) ?_);refine wpAny_ite_split (fun z=>absurd z (by decide)) (fun _=>?_);refine wpAny_ite_split (fun _=>?_) (fun z=>absurd (by decide +kernel) z);refine wpAny_bind (wpAny_typeOf hT ?_);exact wpAny_pure (h _)
theorem JZ {a:Addr} {S:Str->Bool} {n:Nat} {R:List Value->Shared->Prop} (hh:A.handled=none) (hS:Df prog w s.heap a S n)
  (h:∀ (h':Heap) (tk:Nat) (dr:Drawn) (vs:List Value) (ks:List Str),(∀ b o,s.heap.get? b=some o->h'.get? b=some o)->StrsAre vs ks->(∀ k,S k=true ↔ k ∈ ks)->ks.length=n->R vs { s with heap:=h',toks:=tk,drawn:=dr }) :
  wpAny (model prog w) A (collect (.ref a)) R E s:=by
 have hn:n < scanBound:=by obtain ⟨o,es,ep,t,ho,ex,hd,el,mem,few,fit,hn,tab⟩:=hS; lia
 have X7:n<=sizeLine:=fits_of_scanBound hn;have lt:a < s.heap.objs.size:=by obtain ⟨o,es,ep,t,ho,r⟩:=hS; exact YC ho
 unfold collect;refine wpAny_bind (wpAny_runValue (codeAny_builtin entry_proto_collect' ?_));rw [Around.under_plainId PySem.F.plain_proto_collect _];show wpAny _ A.in1 (newList [] >>= fun l=>again (.builtin "list.__iadd__" ⟨[l,.ref a],[]⟩)) _ _ s
 refine wpAny_bind (wpAny_newObj_type ?_);refine wpAny_pure ⟨plainId_quiet PySem.F.plain_list_iadd _,codeAny_builtin entry_list_iadd' ?_⟩;rw [Around.under_plainId PySem.F.plain_list_iadd _];have e1:(s.heap.push { cls:=.type "list",data:=.seq ([]:List Value).toArray }).get? s.heap.objs.size=some { cls:=.type "list",data:=.seq #[] }:=YD _ rfl;show wpAny _ A.in1 (Builtin.List.listExtendWith (.ref s.heap.objs.size) (.ref a) (.ref s.heap.objs.size)) _ _ _
 have hS1:Df prog w (s.heap.push { cls:=.type "list",data:=.seq ([]:List Value).toArray }) a S n:=hS.kept fun o e=>Y2 _ e
 unfold Builtin.List.listExtendWith;have hT:Shared.TypeIs { s with heap:=s.heap.push { cls:=.type "list",data:=.seq ([]:List Value).toArray } } (.ref a) "set":=by
  obtain ⟨o,es,ep,t,ho,ex,r⟩:=hS1;exact ⟨o,ho,ex.1⟩
 refine wpAny_bind (wpAny_typeOf hT ?_);have e2:Builtin.List.listSameRef (.ref s.heap.objs.size) (.ref a)=false:=by simp [Builtin.List.listSameRef,Zx lt]
 have e3:(Value.type "set" == Value.type "list")=false:=by decide
 have e4:(Value.type "set" == Value.type "tuple")=false:=by decide
 simp only [e2,e3,e4,dc,Za,if_false];refine wpAny_bind (Om hS1 fun h1 dr I fp vs ks St kk hI hfp sv mem len hW st=>?_);have k1:∀ b o,s.heap.get? b=some o->h1.get? b=some o:=fun b o e=>kk b o (Y2 _ e)
 have eS:=kk _ _ e1;have Ra:Shared.TypeIs { s with heap:=h1,drawn:=dr } (.ref a) "set":=by
  obtain ⟨o,es,ep,t,ho,ex,r⟩:=hS;exact ⟨o,k1 _ _ ho,ex.1⟩
 have szI:(s.heap.push { cls:=.type "list",data:=.seq ([]:List Value).toArray }).objs.size=s.heap.objs.size + 1:=size_push' ..;have nf:s.heap.objs.size ∉ fp:=fun z=>by
  rcases hfp _ z with e | e
  ·exact absurd e (Zx lt)
  ·rw [szI] at e; exact absurd e (Nat.not_le_of_lt (YZ _))
 have vl:vs.length=n:=by rw [sv.length]; exact len
 have key:∀ (h2:Heap) (c tk:Nat),St 0 h2->(∀ b o,b ≠ s.heap.objs.size->h1.get? b=some o->h2.get? b=some o)->h2.get? s.heap.objs.size=some { cls:=.type "list",data:=.seq #[] c } ->
   codeAny (model prog w) A (.builtin "list.extend.loop" ⟨[.ref s.heap.objs.size,.ref I,.ref s.heap.objs.size],[]⟩) (fun (q:Result) (s':Shared)=>∃ (h':Heap) (tk:Nat) (acc:Array Value) (c':Nat),q=.ok (.ret (.ref s.heap.objs.size))/\s' = { s with heap:=h',toks:=tk,drawn:=dr } /\
    (∀ b o,s.heap.get? b=some o->h'.get? b=some o)/\h'.get? s.heap.objs.size=some { cls:=.type "list",dict:=none,data:=.seq acc c',slots:=#[] }/\ItemsOf (fun i v=>vs[i]? = some v) acc vs.length) { s with heap:=h2,toks:=tk,drawn:=dr }:=by
  intro h2 c tk ET k2 g2;refine codeAny_extend_loopS (hW _ (by simp [hh])).toS (by rw [vl]; exact X7) s.heap.objs.size nf (.ref s.heap.objs.size) vs.length 0 _ #[] c rfl (Zd _) ET g2 (ItemsOf.nil _) fun s' acc c' m g' ia=>?_
  refine ⟨s'.heap,s'.toks,acc,c',rfl,?_,fun b o e=>?_,g',ia⟩
  ·rw [Moved.eq_with m]
  ·have lb:=YC e;refine m.heap b o (fun z=>?_) (k2 b o (YF lb) (k1 b o e));rcases Y4.mp z with y | y
   ·exact YF lb y
   ·rw [YJ.mp y] at lb;rw [szI] at hI;exact absurd lb (Nat.not_lt_of_le (Nat.le_of_succ_le hI))
 refine wpAny_mono (Q:=fun fin s'=>match fin with | .done f=>False | .again c'=>c'.quiet=true/\codeAny (model prog w) A c' (fun (q:Result) (s':Shared)=>∃ (h':Heap) (tk:Nat) (acc:Array Value) (c':Nat),q=.ok (.ret (.ref s.heap.objs.size))/\s' = { s with heap:=h',toks:=tk,drawn:=dr } /\
    (∀ b o,s.heap.get? b=some o->h'.get? b=some o)/\h'.get? s.heap.objs.size=some { cls:=.type "list",dict:=none,data:=.seq acc c',slots:=#[] }/\ItemsOf (fun i v=>vs[i]? = some v) acc vs.length) s') (E:=fun _ _=>False) ?_ (fun fin s' x=>?_) fun e s' x=>x.elim
 ·refine wpAny_bind (wpAny_holding (Qo Ra fun b=>?_));refine wpAny_ite_split (fun _=>?_) (fun _=>wpAny_pure ⟨plainId_quiet PySem.F.plain_extend_loop _,key _ _ _ st (fun b o _ e=>e) eS⟩);refine wpAny_bind (wpAny_rule ?_);refine wpAny_bind ?_;show wpAny _ _ (updateSeq s.heap.objs.size (·.push .none) >>= fun _=>updateSeq s.heap.objs.size (·.pop)) _ _ _
  refine wpAny_bind (wpAny_updateSeq eS rfl ?_);have eS2:=Zo (Obj.mapSeq (·.push Value.none)) eS rfl;refine wpAny_updateSeq (hz:=by seq_fits) eS2 rfl ?_;have eS3:=Zo (Obj.mapSeq (·.pop)) eS2 rfl;have oth:∀ b o,b ≠ s.heap.objs.size->h1.get? b=some o->((h1.update s.heap.objs.size (Obj.mapSeq (·.push Value.none))).update s.heap.objs.size (Obj.mapSeq (·.pop))).get? b=some o:=fun b o hb e=>
   (Zm _ _ (Ne.symm hb)).trans ((Zm _ _ (Ne.symm hb)).trans e)
  refine wpAny_pure ⟨plainId_quiet PySem.F.plain_extend_loop _,key _ _ _ ?_ oth eS3⟩;exact (hW A (by simp [hh])).frame 0 _ _ st fun b hb o e=>oth b o (fun z=>nf (z ▸ hb)) e
 ·cases fin with
  | done f=>exact x.elim
  | again c₁=>
   refine ⟨x.1,codeAny_mono x.2 fun q El y=>?_⟩;obtain ⟨h',tk,acc,c',rfl,rfl,hk,N3,ia⟩:=y;show wpAny _ A (load s.heap.objs.size >>= _) _ _ _
   refine wpAny_bind (wpAny_load N3 ?_);have:acc.toList=vs:=ZJ (by rw [YY]; exact ia.1) fun i h1 h2=>by
    have h3:i < acc.size:=by simpa using h1
    have this:vs[i]? = some acc[i]:=ia.2 i acc[i] (by simp [h3]);rw [Y1 h2] at this;simpa using (YM.inj this).symm
   refine wpAny_pure ?_;have q:=h h' tk dr vs ks hk sv mem len;rw [<-this] at q;exact q
theorem KN {a:Addr} {S:Str->Bool} {n:Nat} {Q:Value->Shared->Prop} (hh:A.handled=none) (hS:Df prog w s.heap a S n) (IK:n < 64)
  (h:∀ (h':Heap) (tk:Nat) (dr:Drawn) (l:Addr) (us:List Value) (e:Nat) (ss ks:List Str),(∀ b o,s.heap.get? b=some o->h'.get? b=some o)->s.heap.get? l=none->h'.get? l=some (seqObj "list" us.toArray e)->StrsAre us ss->ss.Perm ks->sortedS ss=true ->
   (∀ k,S k=true ↔ k ∈ ks)->ks.length=n->Q (.ref l) { s with heap:=h',toks:=tk,drawn:=dr }) :
  wpAny (model prog w) A (call (.builtin "sorted") [.ref a]) Q E s:=by
 refine Calls.call_function_entry kind_sorted plain_sorted entry_sorted (args_sorted1 _) ?_;unfold Builtin.«sorted»;refine wpAny_bind (m:=checkCount "sorted" 1 1 _) (wpAny_pure ?_);refine wpAny_bind (JZ (A:=A.in1) hh hS fun h' tk dr vs ks hk sv mem len=>?_);have hl:vs.length=n:=by rw [sv.length]; exact len
 refine wpAny_bind (wpAny_newList ?_ (YU (show vs.length<=64 by lia) (by decide)));have g:(h'.push (seqObj "list" vs.toArray 0)).get? h'.objs.size=some (seqObj "list" vs.toArray 0):=YD _ rfl;show wpAny _ _ _ _ _ { s with heap:=h'.push (seqObj "list" vs.toArray 0),toks:=tk,drawn:=dr }
 refine wpAny_bind (wpAny_holding (wpAny_call_entry slot_list_sort ⟨_,g,rfl⟩ entry_list_sort (list_sort_treeK strKind_oneLt (s:={ s with heap:=h'.push (seqObj "list" vs.toArray 0),toks:=tk,drawn:=dr }) g sv.keysOf (fun WL WK Co e=>keyKind_strs (by rw [<-e]; exact sv)) (by rw [hl]; exact IK) fun AM a1 a2=>⟨_,rfl,?_⟩) (args_list_sort _)));refine wpAny_pure ⟨_,rfl,?_⟩;obtain ⟨ss,b1,b2,b3⟩:=sorted_out_str sv a1 a2;obtain ⟨e,he⟩:=sortedHeap_at (out:=(arrOf AM).map (·.2)) g;refine h _ tk dr h'.objs.size ((arrOf AM).map (·.2)).toList e ss ks (fun b o q=>?_) ?_ (by rw [bT]; exact he) b1 b2 b3 mem len
 ·have q':=hk b o q;have lt:=YC q';rw [sortedHeap_old (YF lt) (by rw [size_push']; exact YV lt)];exact Y2 _ q'
 ·cases z:s.heap.get? h'.objs.size with
  | none=>rfl
  | some o=>exact absurd (YC (hk _ _ z)) (Zp _)
end
def SetW (P:Program) (w:World) (a:Addr) (S:Str->Bool) (n:Nat):HO:=.ext fun h=>Df P w h a S n
theorem IS:isSubtype (.type "tuple") (.type "set")=pure false:=by rw [isSubtype_type]; kernel_rfl
theorem ES:isSubtype (.type "tuple") (.type "frozenset")=pure false:=by rw [isSubtype_type]; kernel_rfl
def setS (P:Program) (w:World) (a:Addr) (ss:List Str):HO:=SetW P w a (fun k=>(ss.foldl step_dedup []).any (· == k)) (ss.foldl step_dedup []).length
theorem RT {X:Cx} {pins:List (Addr × Obj)} {σ:St} {H:Hp} {s:Shared} (I:An X pins σ H s) {h':Heap} {tk:Nat} {ss:List Str} (hS:Df X.prog X.w h' s.heap.objs.size (fun k=>(ss.foldl step_dedup []).any (· == k)) (ss.foldl step_dedup []).length)
  (kk:∀ b o,s.heap.get? b=some o->h'.get? b=some o):An X pins σ (upd H s.heap.objs.size (setS X.prog X.w s.heap.objs.size ss)) { s with heap:=h',toks:=tk }:=by
 obtain ⟨oS,e1,e2,e3,hoS,Co⟩:=id hS;refine I.laid (a:=s.heap.objs.size) (o:=setS X.prog X.w s.heap.objs.size ss) (t':=tk) kk (Y7 _) ⟨hS,⟨_,hoS⟩,fun h1 h2 z st=>?_⟩;exact z.kept fun o e=>st _ e
theorem L8 (K:Y3) {X:Cx} (hK:X.K=K) (hc:X.calm=true):Bl X (.type "set") (fun xs H Q=>∃ (a:Addr) (ss:List Str),xs=[.ref a]/\(AB K H a (ss.map V.str)\/A7 K H a (ss.map V.str))/\ss.length<=1000 /\
  ∀ D,H D=none->Q (.ref D) (upd H D (setS X.prog X.w D ss))):=by
 subst hK;intro pins s σ H xs us Q I r h;obtain ⟨a,ss,rfl,ha,hl,q⟩:=h;obtain ⟨u,rfl,ru⟩:=BO r;cases ru
 have txt:∀ Ap:List Value,A4 (ss.map V.str) Ap->∀ (i:Nat) v,Ap.toArray[i]? = some v->∃ tk,v=.str (ss.getD i (Str.ofString "")) tk:=fun Ap rv i v e=>by
  have il:Ap.length=ss.length:=by rw [<-rv.length,Y0]
  have e':Ap[i]? = some v:=by simpa using e
  have hi:i < Ap.length:=(Y8.mp e').1;have e3:(ss.map V.str)[i]? = some (.str ss[i]):=by rw [Y9,Y1 (by lia)]; rfl
  obtain ⟨v',e4,r4⟩:=rv.get e3;rw [e'] at e4;cases e4
  obtain ⟨t,rfl⟩:=r4;exact ⟨t,by simp [YW,Y1 (show i < ss.length by lia)]⟩
 have fin:∀ Ap:List Value,A4 (ss.map V.str) Ap->∀ (h':Heap) (tk:Nat),Df X.prog X.w h' s.heap.objs.size (fun k'=>(met (fun i=>ss.getD i (Str.ofString "")) Ap.toArray.size).any (· == k')) (met (fun i=>ss.getD i (Str.ofString "")) Ap.toArray.size).length ->
   (∀ b o,s.heap.get? b=some o->h'.get? b=some o)->∃ v H',An X pins σ H' { s with heap:=h',toks:=tk }/\A3 v (.ref s.heap.objs.size)/\Q v H':=fun Ap rv h' tk hS kk=>by
  have es:Ap.toArray.size=ss.length:=by rw [YN,<-rv.length,Y0]
  rw [es,Ln] at hS;exact ⟨.ref s.heap.objs.size,_,RT I hS kk,rfl,q _ (I.hok.fresh (Y7 _))⟩
 have bnd:∀ Ap:List Value,A4 (ss.map V.str) Ap->Ap.toArray.size + 1 < scanBound:=fun Ap rv=>by
  rw [YN,<-rv.length,Y0];unfold scanBound;lia
 rcases ha with ha | ha
 ·obtain ⟨Ap,rv,pl,hz⟩:=I.list ha;have il:=pl.isList;obtain ⟨o,ho,hcl,n,hdat⟩:=id il;refine MP (items:=Ap.toArray) (val:=fun i=>ss.getD i (Str.ofString "")) (St:=fun I' i h=>h.IsListIter I' a i/\h.IsList a Ap.toArray) (I.ok.hd hc) ho hcl (by decide) F.sub_list_set F.sub_list_frozenset
   (fun B E' s1 Q' k q'=>wpAny_pyIter_list ⟨o,k _ _ ho,hcl,n,hdat⟩ q') (fun B I' hB ne=>Walks.list hB I' a ne Ap.toArray) (fun h k=>⟨⟨_,YD _ rfl,rfl,rfl⟩,⟨o,Y2 _ (k _ _ ho),hcl,n,hdat⟩⟩) (txt Ap rv) (bnd Ap rv) fun h' tk hS kk=>?_
  exact fin Ap rv h' tk hS kk
 ·obtain ⟨Ap,rv,pl,hz⟩:=I.tuple ha;obtain ⟨o,ho,hcl,n,hdat⟩:=id pl;refine MP (items:=Ap.toArray) (val:=fun i=>ss.getD i (Str.ofString "")) (St:=fun I' i h=>h.IsTupleIter I' a i/\h.IsTuple a Ap.toArray) (I.ok.hd hc) ho hcl (by decide) IS ES
   (fun B E' s1 Q' k q'=>wpAny_pyIter_tuple ⟨o,k _ _ ho,hcl,n,hdat⟩ q') (fun B I' hB ne=>Walks.tuple hB I' a ne Ap.toArray) (fun h k=>⟨⟨_,YD _ rfl,rfl,rfl⟩,⟨o,Y2 _ (k _ _ ho),hcl,n,hdat⟩⟩) (txt Ap rv) (bnd Ap rv) fun h' tk hS kk=>?_
  exact fin Ap rv h' tk hS kk
theorem Ft (k:Str):∀ (ss σ:List Str),k ∈ ss.foldl step_dedup σ ↔ k ∈ σ\/k ∈ ss
 | [],σ=>by simp
 | x :: xs,σ=>by
  rw [cS,Ft k xs];have:k ∈ step_dedup σ x ↔ k ∈ σ\/k=x:=by
   unfold step_dedup;split
   ·rename_i h
    rw [ZQ] at h;obtain ⟨y,hy,e⟩:=h;have e:=eq_of_beq e;subst e;exact ⟨.inl,fun z=>z.elim id fun e=>e ▸ hy⟩
   ·simp
  rw [this,Y4];exact or_assoc
theorem Eb:∀ (ss σ:List Str),σ.Nodup->(ss.foldl step_dedup σ).Nodup
 | [],σ,h=>h
 | x :: xs,σ,h=>by
  rw [cS];refine Eb xs _ ?_;unfold step_dedup;split
  ·exact h
  ·rename_i hn
   refine Zr.mpr ⟨h,by simp,fun a ha b hb e=>hn ?_⟩;rw [YJ] at hb;subst hb e;exact ZQ.mpr ⟨_,ha,by simp⟩
theorem La:∀ {l m:List Str},l.Nodup->(∀ x ∈ l,x ∈ m)->∃ r,m.Perm (l ++ r)
 | [],m,_,_=>⟨m,.refl _⟩
 | x :: l,m,nd,h=>by
  rw [Zl] at nd;have p:=List.perm_cons_erase (h x (by simp));obtain ⟨r,pr⟩:=La (m:=m.erase x) nd.2 fun y hy=>(cg (fun e:y=x=>nd.1 (e ▸ hy))).mpr (h y (YT _ hy))
  exact ⟨r,p.trans (pr.cons _)⟩
theorem Q7 {l m:List Str} (nd:l.Nodup) (h:∀ x ∈ l,x ∈ m) (e:m.length=l.length):m.Perm l:=by
 obtain ⟨r,p⟩:=La nd h;have:=p.length_eq;rw [Y6] at this;have:r=[]:=Z0.mp (by lia);subst this;simpa using p
theorem An.drew {X:Cx} {pins:List (Addr × Obj)} {σ:St} {H:Hp} {s:Shared} (I:An X pins σ H s) (dr:Drawn):An X pins σ H { s with drawn:=dr }:=
 ⟨I.ok,I.os,I.bare,I.base,I.loc,I.cell,I.free,I.freeC,I.pin,I.hok,I.len⟩
theorem Hf {X:Cx} (hc:X.calm=true):Bl X (.builtin "sorted") (fun xs H Q=>∃ (a:Addr) (ss:List Str),xs=[.ref a]/\H a=some (setS X.prog X.w a ss)/\ss.length < 64 /\
  ∀ (l:Addr) (Cd:List Str),H l=none->Cd.Nodup->(∀ k,k ∈ Cd ↔ k ∈ ss)->sortedS Cd=true->Q (.ref l) (upd H l (.lst (Cd.map V.str)))):=by
 intro pins s σ H xs us Q I r h;obtain ⟨a,ss,rfl,ha,IK,q⟩:=h;obtain ⟨u,rfl,ru⟩:=BO r;cases ru
 have hS:Df X.prog X.w s.heap a (fun k=>(ss.foldl step_dedup []).any (· == k)) (ss.foldl step_dedup []).length:=(I.hok a _ ha).1;have few:(ss.foldl step_dedup []).length<=ss.length:=by rw [<-Ln]; exact Dy _ _
 refine KN (I.ok.hd hc) hS (by lia) fun h' tk dr l us e Cd ks k1 k2 k3 k4 k5 k6 k7 k8=>?_
 obtain ⟨m,hlm⟩:=id I.loc;obtain ⟨oL,esL,epL,hoL,rL⟩:=id hlm.1;have fl:H l=none:=by
  cases z:H l with
  | none=>rfl
  | some u=>
   obtain ⟨ob,e⟩:=A5.there (I.hok l u z);rw [k2] at e;cases e
 have mk:∀ k,k ∈ ks ↔ k ∈ ss:=fun k=>by
  rw [<-k7,ZQ];have:=Ft k ss [];constructor
  ·rintro ⟨x,hx,e⟩;have e:=eq_of_beq e;subst e;exact (this.mp hx).resolve_left (by simp)
  ·intro z;exact ⟨k,this.mpr (.inr z),by simp⟩
 have pm:ks.Perm (ss.foldl step_dedup []):=Q7 (Eb ss [] ZZ) (fun x hx=>(mk x).mpr (((Ft x ss []).mp hx).resolve_left (by simp))) k8;have I2:=I.laidF (h2:=h') (D:=l) (o:=.lst (Cd.map V.str)) hlm ⟨oL,esL,epL,k1 _ _ hoL,rL⟩ (fun b ob _ q=>k1 b ob q) k2 (fun z=>by rw [z,hoL] at k2; cases k2)
  ⟨by rw [Y0,k5.length_eq,k8,sizeLine_eq]; lia,us,e,Hm k4,k3⟩
 exact ⟨.ref l,_,(I2.kept (t':=tk) fun b u q=>q).drew dr,rfl,q l Cd fl (k5.nodup_iff.mpr (pm.nodup_iff.mpr (Eb ss [] ZZ))) (fun k=>k5.mem_iff.trans (mk k)) k6⟩
end L2
namespace L2
open PySem PySem.Spec PySem.W PyProof.Rows
end L2
namespace L2
open PySem PySem.Spec PyProof.Rows
def BB (l:List Str):Prop:=l.Pairwise fun a b=>a.cps.toList < b.cps.toList
theorem BB.nodup {l:List Str} (h:BB l):l.Nodup:=List.Pairwise.imp (fun {a b} z e=>by subst e; exact Ce _ z) h
theorem BB.pw {l:List Str} (h:BB l):l.Pairwise fun a b=>¬ b.cps.toList < a.cps.toList:=List.Pairwise.imp (fun {a b} z=>aB z) h
theorem DC {l:List Str} (h:l.Pairwise fun a b=>¬ b.cps.toList < a.cps.toList) (nd:l.Nodup):BB l:=by
 induction l with
 | nil=>exact .nil
 | cons x l ih=>
  rw [Zs] at h;rw [Zl] at nd;refine Zs.mpr ⟨fun y hy=>?_,ih h.2 nd.2⟩;by_cases z:x.cps.toList < y.cps.toList
  ·exact z
  ·exact absurd (Cu (h.1 y hy) z) (fun e=>nd.1 (e ▸ hy))
theorem CY:∀ {ss l:List Str},BB ss->BB l->(∀ s ∈ ss,s ∈ l)->ss.Sublist l
 | [],l,_,_,_=>aI _
 | x :: ss,[],_,_,h=>absurd (h x (by simp)) (by simp)
 | x :: ss,y :: l,h1,h2,h=>by
  have OS:=Zs.mp h1;have T5:=Zs.mp h2;by_cases e:x=y
  ·subst e;refine (CY OS.2 T5.2 fun s hs=>?_).cons₂ _;rcases Y4.mp (h s (YT _ hs)) with rfl | z
   ·exact absurd (OS.1 _ hs) (Ce _)
   ·exact z
  ·refine (CY h1 T5.2 fun s hs=>?_).cons _;rcases Y4.mp (h s hs) with rfl | z
   ·have hx:=(Y4.mp (h x (by simp))).resolve_left e;rcases Y4.mp hs with rfl | hs
    ·exact absurd rfl e
    ·exact absurd (ZE (OS.1 _ hs) (T5.1 _ hx)) (Ce _)
   ·exact z
theorem BB.sub {ss l:List Str} (h:BB l) (s:ss.Sublist l):BB ss:=List.Pairwise.sublist s h
theorem DQ {ss Cd:List Str} (nd:Cd.Nodup) (mem:∀ k,k ∈ Cd ↔ k ∈ ss) (srt:sortedS Cd=true):Cd=ss ↔ BB ss:=
 ⟨fun e=>e ▸ DC (BX srt) nd,fun h=>Ge (BX srt) h.pw (G4 nd h.nodup mem)⟩
def tyD:PyData->String
 | .none=>"NoneType"
 | .bool _=>"bool"
 | .int _=>"int"
 | .str _=>"str"
 | .list _=>"list"
 | .tuple _=>"tuple"
 | .dict _=>"dict"
theorem Fx.ty {K:Y3} {H:Hp} {v:V} {d:PyData} (h:Fx H v d):EB K H v (.type (tyD d)):=by
 cases h with
 | non=>exact .non
 | bl b=>exact .bl b
 | int i=>exact .int i
 | str x=>exact .str x
 | tup e _=>exact .tup e
 | lst e _=>exact .lst e
theorem Fx.notStr {K:Y3} {H:Hp} {v:V} {d:PyData} (h:Fx H v d) (n:∀ s,d ≠ .str s):Rv K H v:=by
 refine ⟨_,h.ty,?_⟩;cases d with
 | str s=>exact absurd rfl (n s)
 | _=>rfl
def NoTup (K:Y3) (H:Hp) (v:V):Prop:=∃ ty,EB K H v ty/\aM K ty (.type "tuple")=some false
theorem Lx:∀ (ss:List Str) (ds:List PyData),PyData.eqvAll (ss.map PyData.str) ds=true ↔ ds=ss.map PyData.str
 | [],[]=>by simp [PyData.eqvAll]
 | [],d :: ds=>by simp [PyData.eqvAll]
 | x :: ss,[]=>by simp [PyData.eqvAll]
 | x :: ss,d :: ds=>by
  rw [YK,PyData.eqvAll,Zn,Lx ss ds];constructor
  ·rintro ⟨h,rfl⟩;cases d with
   | str y=>
    rw [PyData.eqv] at h;rw [eq_of_beq h]
   | _=>rw [PyData.eqv] at h; cases h
  ·intro e;injection e with e1 e2;subst e1;refine ⟨?_,e2⟩;rw [PyData.eqv];simp
theorem Ly (ss:List Str) (ds:List PyData):PyData.eqv (.list (ss.map PyData.str)) (.list ds)=true ↔ ds=ss.map PyData.str:=by
 rw [PyData.eqv]; exact Lx ss ds
theorem Bw.len {H:Hp}:∀ {xs:List V} {ds:List PyData},Bw H xs ds->xs.length=ds.length
 | _,_,.nil=>rfl
 | _,_,.cons _ r=>congrArg (· + 1) r.len
theorem Bw.at {H:Hp}:∀ {xs:List V} {ds:List PyData},Bw H xs ds->∀ {i:Nat} {v:V},xs[i]? = some v->∃ d,ds[i]? = some d/\Fx H v d
 | _,_,.nil,i,v,e=>by simp at e
 | _,_,.cons h r,0,v,e=>by
  simp only [Zz,YM.injEq] at e;subst e;exact ⟨_,rfl,h⟩
 | _,_,.cons h r,i + 1,v,e=>by
  simp only [aH] at e;obtain ⟨d,e1,e2⟩:=r.at e;exact ⟨d,by simpa using e1,e2⟩
theorem Bw.txt {H:Hp}:∀ {xs:List V} {ss:List Str},Bw H xs (ss.map PyData.str)->xs=ss.map V.str
 | xs,[],h=>by cases h; rfl
 | xs,x :: ss,h=>by
  cases h with
  | cons h1 h2=>
   cases h1
   rw [h2.txt];rfl
def G7:PyData->Bool
 | .str s=>AY s
 | _=>false
theorem Gi:∀ {ds:List PyData},(ds.map G7).all id=true->∃ ss:List Str,ds=ss.map PyData.str/\∀ s ∈ ss,AY s=true
 | [],_=>⟨[],rfl,fun s hs=>nomatch hs⟩
 | d :: ds,h=>by
  rw [YK,bh,Zn] at h;obtain ⟨ss,rfl,hn⟩:=Gi h.2;cases d with
  | str x=>exact ⟨x :: ss,rfl,fun s hs=>(Y4.mp hs).elim (fun e=>e ▸ h.1) (hn s)⟩
  | _=>exact absurd (show false=true from h.1) (by decide)
theorem JO {ss:List Str} (h:∀ s ∈ ss,AY s=true):((ss.map PyData.str).map G7).all id=true:=by
 rw [Zb,bz,Z8];exact fun s hs=>h s hs
theorem EE {ss Cd:List Str} (h:ss.map PyData.str=Cd.map PyData.str):ss=Cd:=by
 induction ss generalizing Cd with
 | nil=>cases Cd with
  | nil=>rfl
  | cons _ _=>cases h
 | cons x ss ih=>cases Cd with
  | nil=>cases h
  | cons y Cd=>
   injection h with h1 h2;injection h1 with h1;rw [h1,ih h2]
def KI (K:Y3):Sp:=fun vs H Q _=>∃ (t:Addr) (xs:List V) (ds:List PyData),vs=[.ref t]/\(H t=some (.lst xs)\/H t=some (.tup xs))/\Bw H xs ds/\(∀ s,PyData.str s ∈ ds->s.length<=1000)/\xs.length<=60 /\
 ∀ (b:Bool) (H':Hp),Ar H H'->(b=true ↔ ∃ ss:List Str,ds=ss.map PyData.str/\(∀ s ∈ ss,AY s=true)/\BB ss)->Q (.bl b) H'
def Rw (sites:List Str) (x:V) (ds:List PyData):Prop:=∃ ss:List Str,ds=ss.map PyData.str/\ss ≠ []/\ss.Sublist sites/\C2 x ss.length=true
def NL (H:Hp) (v:V) (ds:List PyData):Prop:=∃ (t:Addr) (xs:List V),v=.ref t/\H t=some (.tup xs)/\Bw H xs ds/\(∀ s,PyData.str s ∈ ds->s.length<=1000)/\xs.length<=60
def Qf (K:Y3):Sp:=fun vs H Q _=>∃ (c:Addr) (sites:List Str) (x:V) (d:PyData) (v:V),vs=[.ref c,v]/\NP H c sites x d/\BB sites/\(∀ s ∈ sites,AY s=true) /\
 ((∃ ds,NL H v ds/\∀ (b:Bool) (H':Hp),Ar H H'->(b=true ↔ Rw sites x ds)->Q (.bl b) H')\/(NoTup K H v/\∀ H',Ar H H'->Q (.bl false) H'))
end L2
namespace HT
open PySem PySem.Spec PyProof.Rows
section
variable {prog:Program} {w:World} {A:Around} {E:Value->Shared->Prop} {s:Shared}
end
end HT
namespace L2
open PySem PySem.Spec PyProof.Rows
section
variable {X:Cx} {Φ:St->Hp->Prop} {a b:Expr} {pos:Pos} {n m:Nat}
end
section
variable {Φ:St->Hp->Prop} {n:Nat}
end
def oI:Option Int->V
 | none=>.non
 | some n=>.int n
def MV (H:Hp) (A:Addr) (G:Str->Str->Option V) (c:Nat):Prop:=∃ kvs:List (List A6 × V),H A=some (.dT kvs)/\kvs.length<=c/\∀ x y,Bc kvs [Sum.inr x,Sum.inr y]=G x y
theorem MV.same {H H':Hp} {A:Addr} {G:Str->Str->Option V} {c:Nat} (h:MV H A G c) (s:Ar H H'):MV H' A G c:=let ⟨kvs,a,b,d⟩:=h; ⟨kvs,s _ _ a,b,d⟩
theorem MV.up {H:Hp} {A:Addr} {G:Str->Str->Option V} {c c':Nat} (h:MV H A G c) (l:c<=c'):MV H A G c':=let ⟨kvs,a,b,d⟩:=h; ⟨kvs,a,YU b l,d⟩
def LV (G:Str->Str->Option V) (x y:Str) (v:V):Str->Str->Option V:=fun a b=>if a=x/\b=y then some v else G a b
theorem MV.get {H:Hp} {A t:Addr} {G:Str->Str->Option V} {c:Nat} (h:MV H A G c) {x y:Str} (ht:H t=some (.tup [.str x,.str y])):BN H A (.ref t) (G x y):=by
 obtain ⟨kvs,a,_,d⟩:=h;rw [<-d x y];exact BN.t (k:=[Sum.inr x,Sum.inr y]) a ht
theorem MV.put {H:Hp} {A t:Addr} {G:Str->Str->Option V} {c:Nat} (h:MV H A G c) (hc:c < sizeLine) {x y:Str} {v:V} (ht:H t=some (.tup [.str x,.str y])):∃ H',DL H A (.ref t) v H'/\MV H' A (LV G x y v) (c + 1)/\∃ kvs,H'=upd H A (.dT kvs):=by
 obtain ⟨kvs,a,b,d⟩:=h;refine ⟨_,DL.t (k:=[Sum.inr x,Sum.inr y]) a ht (by lia),⟨_,Ab,?_,fun p q=>?_⟩,_,rfl⟩
 ·have:=Cr kvs [Sum.inr x,Sum.inr y] v;lia
 ·rw [PH];unfold LV;by_cases e:p=x/\q=y
  ·obtain ⟨rfl,rfl⟩:=e;simp
  ·have e':¬ ([Sum.inr p,Sum.inr q]:List A6)=[Sum.inr x,Sum.inr y]:=fun z=>by
    simp only [af.injEq,Sum.inr.injEq,and_true] at z;exact e z
   rw [if_neg e',if_neg e,d]
def MO (H:Hp) (A:Addr) (xs:List Str) (M:Str->Str->Option Int) (c:Nat):Prop:=∃ G,MV H A G c/\(∀ x ∈ xs,∀ y ∈ xs,G x y=some (oI (M x y)))/\∀ x y,¬ (x ∈ xs/\y ∈ xs)->G x y=none
theorem MO.same {H H':Hp} {A:Addr} {xs:List Str} {M:Str->Str->Option Int} {c:Nat} (h:MO H A xs M c) (s:Ar H H'):MO H' A xs M c:=let ⟨G,a,b⟩:=h; ⟨G,a.same s,b⟩
theorem MO.up {H:Hp} {A:Addr} {xs:List Str} {M:Str->Str->Option Int} {c c':Nat} (h:MO H A xs M c) (l:c<=c'):MO H A xs M c':=let ⟨G,a,b⟩:=h; ⟨G,a.up l,b⟩
theorem MO.get {H:Hp} {A t:Addr} {xs:List Str} {M:Str->Str->Option Int} {c:Nat} (h:MO H A xs M c) {x y:Str} (hx:x ∈ xs) (hy:y ∈ xs) (ht:H t=some (.tup [.str x,.str y])):BN H A (.ref t) (some (oI (M x y))):=by
 obtain ⟨G,a,b,_⟩:=h;rw [<-b x hx y hy];exact a.get ht
theorem MO.put {H:Hp} {A t:Addr} {xs:List Str} {M:Str->Str->Option Int} {c:Nat} (h:MO H A xs M c) (hc:c < sizeLine) {x y:Str} (hx:x ∈ xs) (hy:y ∈ xs) {n:Int} (ht:H t=some (.tup [.str x,.str y])):∃ H',DL H A (.ref t) (.int n) H'/\MO H' A xs (Ka M x y n) (c + 1)/\∃ kvs,H'=upd H A (.dT kvs):=by
 obtain ⟨G,a,b,d⟩:=h;obtain ⟨H',dp,mv,e⟩:=a.put hc (v:=.int n) ht;refine ⟨H',dp,⟨_,mv,fun p hp q hq=>?_,fun p q hn=>?_⟩,e⟩
 ·unfold LV Ka;split
  ·rfl
  ·exact b p hp q hq
 ·unfold LV;rw [if_neg (fun z=>hn ⟨by rw [z.1]; exact hx,by rw [z.2]; exact hy⟩)];exact d p q hn
theorem MO.md {H:Hp} {A:Addr} {xs:List Str} {M:Str->Str->Option Int} {c:Nat} (h:MO H A xs M c) (full:∀ x ∈ xs,∀ y ∈ xs,∃ n,M x y=some n):MD H A (fun x y=>if x ∈ xs/\y ∈ xs then M x y else none) c:=by
 obtain ⟨G,⟨kvs,a,b,d⟩,e,f⟩:=h;refine ⟨kvs,a,b,fun x y=>?_⟩;rw [d x y];dsimp only;by_cases hxy:x ∈ xs/\y ∈ xs
 ·obtain ⟨n,hn⟩:=full x hxy.1 y hxy.2;rw [e x hxy.1 y hxy.2,if_pos hxy,hn];rfl
 ·rw [f x y hxy,if_neg hxy];rfl
open Classical in
noncomputable def dst (ws:List AG) (x y:Str):Int:=if h:∃ n,JR ws x y n then h.choose else 0
theorem JR.dst {ws:List AG} {x y:Str} {n:Int} (h:JR ws x y n):dst ws x y=n:=by
 unfold L2.dst;rw [dif_pos ⟨n,h⟩];exact JR.uniq (Exists.choose_spec (⟨n,h⟩:∃ n,JR ws x y n)) h
theorem catA {K:Y3} {H:Hp} {a b:Addr} {xs ys:List V} {Q:VK} (ha:H a=some (.tup xs)) (hb:H b=some (.tup ys)) (l:xs.length + ys.length<=sizeLine) (q:∀ T H',Ar H H'->H' T=some (.tup (xs ++ ys))->Q (.ref T) H'):LZ K (.ref a) (.ref b) H Q:=by
 refine ⟨a,b,xs,ys,rfl,rfl,A7.of ha,A7.of hb,l,fun e=>?_,fun _ e=>?_,fun _ _ T hT=>?_⟩
 ·refine q b H (Ar.refl _) ?_;rw [hb,e];rfl
 ·refine q a H (Ar.refl _) ?_;rw [ha,e,Zq]
 ·exact q T _ (Ad hT) Ab
theorem DK.get {H:Hp} {A t:Addr} {xs:List Str} {ws:List AG} {y z:Str} (h:DK H A xs ws) (hy:y ∈ xs) (hz:z ∈ xs) (ht:H t=some (.tup [.str y,.str z])):BN H A (.ref t) (some (.int (dst ws z y)))/\0<=dst ws z y/\dst ws z y < 2 ^ 300:=by
 obtain ⟨M,c,md,hm⟩:=h;obtain ⟨n,e,d,n0,n1⟩:=hm y hy z hz;have:=md.get ht;rw [e] at this;rw [d.symm.dst];exact ⟨this,n0,n1⟩
theorem DK.dst {H:Hp} {A:Addr} {xs:List Str} {ws:List AG} {x y:Str} (h:DK H A xs ws) (hx:x ∈ xs) (hy:y ∈ xs):JR ws x y (L2.dst ws x y):=by
 obtain ⟨M,c,md,hm⟩:=h;obtain ⟨n,_,d,_⟩:=hm x hx y hy;rw [d.dst];exact d
theorem Lk {rs:List CB} {ds:List Int} {i:Nat} {r:CB} {d:Int} (hr:rs[i]? = some r) (hl:ds.length=i):Fj (rs.take (i + 1)) (ds ++ [d])=Fj (rs.take i) ds + r.2 * d:=by
 have hi:=(Y8.mp hr).1;unfold Fj;rw [YS,hr];have e:(rs.take i).length=ds.length:=by rw [Zf,hl]; lia
 show (cZ _ ((rs.take i ++ [r]).zip (ds ++ [d]))).sum=_
 rw [cT e,YE,List.sum_append];simp
end L2
namespace L2
open PySem PySem.Builtin.Str PySem.StrLaws
end L2
namespace L2
open PySem PySem.Spec PyProof.Rows PySem.NumText
theorem Je {X:Cx}:Bl X (.type "int") (fun xs H Q=>∃ (x:Str) (n:Int),xs=[.str x]/\PySem.intText? x=some n/\x.length<=640/\Q (.int n) H):=by
 intro pins s σ H xs us Q I r h;obtain ⟨x,n,rfl,e,l,q⟩:=h;obtain ⟨u,rfl,t,rfl⟩:=BO r;exact PySem.W.KIN.call_text e l ⟨.int n,H,I.tok _,⟨_,rfl⟩,q⟩
end L2
namespace L2
open PySem PySem.Spec PyProof.Rows
theorem QJ {s:Str} (h:AY s=true):s.length<=10:=by
 obtain ⟨_,l,_⟩:=Mj h;lia
section
variable {prog:Program} {w:World} {A:Around} {E:Value->Shared->Prop} {s:Shared}
end
section
variable {prog:Program} {w:World} {A:Around} {E:Value->Shared->Prop} {s:Shared}
end
end L2
namespace HT
open PySem PySem.Spec PyProof.Rows
section
variable {prog:Program} {w:World} {A:Around} {E:Value->Shared->Prop} {s:Shared}
end
end HT
namespace L2
open PySem PySem.Spec PyProof.Rows
theorem NL.strs {H:Hp} {o:Addr} {ss:List Str} (ho:H o=some (.tup (ss.map V.str))) (l:ss.length<=60) (sh:∀ s ∈ ss,s.length<=1000):NL H (.ref o) (ss.map PyData.str):=by
 refine ⟨o,_,rfl,ho,Cs H ss,fun s hs=>?_,by rw [Y0]; exact l⟩;obtain ⟨y,hy,e⟩:=YA.mp hs;cases e
 exact sh _ hy
theorem J0 (K:Y3) {X:Cx} (h:X.K=K):En X (compareOp .NotIn) (fun x y H Q=>∃ p xs,y=.ref p/\(AB K H p xs\/A7 K H p xs)/\Ez x=true/\xs.all Ez=true/\Q (.bl (!inV x xs)) H):=by subst h; exact Kj
def Qh:Sp:=fun vs H Q _=>∃ (c:Addr) (sites:List Str) (x:V) (d:PyData),vs=[.ref c]/\NP H c sites x d/\sites.length<=6 /\
 ∀ (H':Hp) (D:Addr) (us:List V) (os:List (List Str)),Ar H H'->H D=none->H' D=some (.lst us)->Ct H' us os->Ru sites x os->os.length<=1024->Q (.ref D) H'
section
variable {H:Hp} {c m o t T:Addr} {n:Nat} {xs:List Str} {ws:List AG} {Az Bh:List CB} {x:V} {d:PyData} {ss:List Str} {zs:List (Str × Str)} {qs:List CB} {lv:Int}
end
def Kg (a:Addr) (i l:Int):List V:=[.ref a,.int i,.int l]
theorem Nb (a:Addr) (i l:Int):JN (Kg a i l) 0=some (.ref a):=rfl
theorem pn5_1 (a:Addr) (i l:Int):JN (Kg a i l) 1=some (.int i):=rfl
theorem Q5 (a:Addr) (i l:Int):JN (Kg a i l) 2=some (.int l):=rfl
def D8 (K:Y3) (H:Hp) (p:Addr):Prop:=∃ (a:Addr) (ns:List Int) (i l:Int),H p=some (.lst (Kg a i l))/\M3 K H a (ns.map V.int)/\ns.length<=63/\0<=i/\0<=l
theorem D8.ne {K:Y3} {H:Hp} {p q:Addr} (h:D8 K H p) (e:H q=none):q ≠ p:=by
 obtain ⟨a,ns,i,l,h,_⟩:=h;intro z; subst z; rw [h] at e; cases e
theorem M3.keep {K:Y3} {H H':Hp} {a p:Addr} {xs:List V} {ys:List V} (h:M3 K H a xs) (hp:H p=some (.lst ys)) (k:AV p H H'):M3 K H' a xs:=by
 rcases h with ⟨ob,h⟩ | h
 ·refine .inl ⟨ob,k _ _ (fun z=>?_) h⟩;subst z;rw [hp] at h;cases h
 ·exact .inr h
theorem D8.same {K:Y3} {H H':Hp} {p:Addr} (h:D8 K H p) (s:Ar H H'):D8 K H' p:=by
 obtain ⟨a,ns,i,l,h,sc,r⟩:=h;exact ⟨a,ns,i,l,s _ _ h,sc.keep h (AV.of_same s),r⟩
theorem D8.other {K:Y3} {H:Hp} {p D:Addr} {ys zs:List V} (h:D8 K H p) (hD:H D=some (.lst ys)) (ne:D ≠ p):D8 K (upd H D (.lst zs)) p:=by
 obtain ⟨a,ns,i,l,h,sc,r⟩:=h;refine ⟨a,ns,i,l,by rw [Af ne.symm]; exact h,?_,r⟩;rcases sc with ⟨ob,h'⟩ | h'
 ·refine .inl ⟨ob,?_⟩;rw [Af (by intro z; subst z; rw [hD] at h'; cases h')];exact h'
 ·exact .inr h'
theorem D8.put {K:Y3} {H:Hp} {p a:Addr} {ns:List Int} {i l i' l':Int} (hp:H p=some (.lst (Kg a i l))) (sc:M3 K H a (ns.map V.int)) (ln:ns.length<=63) (i0:0<=i') (l0:0<=l'):D8 K (upd H p (.lst (Kg a i' l'))) p:=
 ⟨a,ns,i',l',Ab,sc.keep hp AV.upd,ln,i0,l0⟩
theorem D9 {K:Y3} {H H':Hp} {p:Addr} (hP:D8 K H p) (k:AV p H H'):∀ b ys,H b=some (.tup ys)->H' b=some (.tup ys):=fun b ys z=>k b _ (by
 obtain ⟨_,_,_,_,q,_⟩:=hP;exact BE z q (fun y=>by cases y)) z
def Dg (K:Y3):Sp:=fun vs H Q _=>∃ (p:Addr) (m:Int),vs=[.ref p,.int m]/\D8 K H p/\0 < m/\m < 1073741824/\∀ (d:Int) (H':Hp),D8 K H' p->AV p H H'->0<=d->d < m->Q (.int d) H'
def LR (K:Y3):Sp:=fun vs H Q _=>∃ p:Addr,vs=[.ref p]/\D8 K H p/\∀ (d:Int) (H':Hp),D8 K H' p->AV p H H'->1<=d->d < 10 ^ 30->Q (.int d) H'
def Hv (K:Y3):Sp:=fun vs H Q _=>∃ (p:Addr) (n:Nat),vs=[.ref p,.int n]/\D8 K H p/\n<=26 /\
 ∀ (H':Hp) (D:Addr) (xs:List Str),D8 K H' p->AV p H H'->H D=none->H' D=some (.lst (xs.map V.str))->xs.length=n->xs.Nodup->(∀ x ∈ xs,AY x=true)->Q (.ref D) H'
def JY (K:Y3):Sp:=fun vs H Q _=>∃ (p e:Addr) (xs:List Str) (m:Nat),vs=[.ref p,.ref e,.int m]/\D8 K H p/\H e=some (.lst (xs.map V.str))/\e ≠ p/\xs.length<=30/\m<=xs.length /\
 ∀ (H':Hp) (D:Addr) (ys zs:List Str),D8 K H' p->AV p H H'->H D=none->H' D=some (.lst (ys.map V.str))->(ys ++ zs).Perm xs->ys.length=m->sortedS ys=true->Q (.ref D) H'
def Jf:Nat->Str
 | 0=>Str.empty
 | n + 1=>⟨(Array.replicate (n + 1) 48)⟩
theorem Nz:∀ k:Fin 30,PySem.intText? (Str.ofString "1" ++ Jf k.1)=some (10 ^ k.1)/\(Jf k.1).length=k.1:=by decide +kernel
theorem PR:∀ k:Fin 30,1<=(10:Int) ^ k.1/\(10:Int) ^ k.1 + 10<=10 ^ 30:=by decide +kernel
theorem Pw:∀ k:Fin 30,(⟨(cW k.1 (Str.ofString "0").cps).foldl (· ++ ·) #[]⟩:Str)=Jf k.1:=by decide +kernel
theorem Sg {X:Cx}:En X (binaryOp .Mult) (fun x y H Q=>∃ n:Nat,x=.str (Str.ofString "0")/\y=.int n/\n < 30/\Q (.str (Jf n)) H):=by
 intro pins s σ H x y v u Q I rx ry h;obtain ⟨n,rfl,rfl,hn,q⟩:=h;obtain ⟨t,rfl⟩:=rx;obtain ⟨t',rfl⟩:=ry;have big:1000<=sizeLine:=by decide
 match n,hn,q with
 | 0,_,q=>exact PySem.P.mul_str_none (by decide) (by decide) ⟨.str Str.empty,H,I.tok _,⟨_,rfl⟩,q⟩
 | 1,_,q=>
  refine PySem.P.mul_str (by decide) (fun _ z=>by simp at z) (fun _ z=>by simp at z) ?_;rw [if_neg (by decide),if_pos (by simp)];exact ⟨.str _,H,I,⟨_,rfl⟩,by rw [show Str.ofString "0"=Jf 1 by decide +kernel]; exact q⟩
 | n + 2,hn,q=>
  have l1:(Str.ofString "0").length=1:=by decide +kernel
  have e:((n + 2:Nat):Int).toNat=n + 2:=rfl;refine PySem.P.mul_str (by rw [decide_eq_false (by lia),decide_eq_false (by lia)]; rfl) (fun _ _=>?_) (fun _ _=>?_) ?_
  ·rw [l1];have:(1:Int)<=(2 ^ 63 - 1) / ((n + 2:Nat):Int):=by
    rw [Int.le_ediv_iff_mul_le (by lia)];lia
   lia
  ·rw [l1,e];exact decide_eq_false (by show ¬ _; lia)
  ·rw [if_neg (by lia),if_neg (by rw [l1]; simp; lia),e,Pw ⟨n + 2,hn⟩];refine ⟨?_,⟨.str _,H,I.tok _,⟨_,rfl⟩,q⟩⟩;have:=(Nz ⟨n + 2,hn⟩).2;lia
theorem G5 {α β:Type} (f:α->β) {m out:List β} (p:m.Perm out):∀ xs:List α,m=xs.map f->∃ ys:List α,ys.Perm xs/\out=ys.map f:=by
 induction p with
 | nil=>
  intro xs e;cases xs with
  | nil=>exact ⟨[],.nil,rfl⟩
  | cons a xs=>cases e
 | cons a p ih=>
  intro xs e;cases xs with
  | nil=>cases e
  | cons b xs=>
   simp only [YK,af.injEq] at e;obtain ⟨ys,h1,rfl⟩:=ih xs e.2;exact ⟨b :: ys,h1.cons b,by rw [e.1]; rfl⟩
 | swap a b l=>
  intro xs e;match xs,e with
  | [],e=>cases e
  | [_],e=>cases e
  | x :: y :: xs,e=>
   simp only [YK,af.injEq] at e;exact ⟨y :: x :: xs,.swap _ _ _,by rw [e.1,e.2.1,e.2.2]; rfl⟩
 | trans p q UB UA=>
  intro xs e;obtain ⟨ys,h1,e1⟩:=UB xs e;obtain ⟨zs,h2,e2⟩:=UA ys e1;exact ⟨zs,h2.trans h1,e2⟩
theorem DI {X:Cx}:Bl X (.builtin "sorted") (fun xs H Q=>∃ (t:Addr) (x y:Str),xs=[.ref t]/\H t=some (.lst [.str x,.str y])/\∀ l,H l=none->Q (.ref l) (upd H l (.lst [.str (BG x y),.str (BH x y)]))):=by
 intro pins s σ H xs us Q I r h;obtain ⟨t,x,y,rfl,ht,q⟩:=h;refine Ca (pins:=pins) s σ H _ us Q I r ⟨t,[x,y],rfl,AB.of ht,by show 2 < 64; decide,fun l Cd hl pm so=>?_⟩;have len:=pm.length_eq;match Cd,len with
 | [a,b],_=>
  obtain ⟨rfl,rfl⟩:=LN pm so;exact q l hl
def DG (u:AG):List A6:=[.inr (BG u.1 u.2.1),.inr (BH u.1 u.2.1)]
def OG (u:AG):List A6 × V:=(DG u,.int u.2.2)
theorem HW {u v:AG} (e:DG u=DG v):DM u v:=by
 unfold DG at e;simp only [af.injEq,Sum.inr.injEq,and_true] at e;obtain ⟨e1,e2⟩:=e;unfold BG at e1;unfold BH at e2;by_cases a:u.2.1.cps.toList < u.1.cps.toList <;> by_cases b:v.2.1.cps.toList < v.1.cps.toList
 ·rw [if_pos a,if_pos b] at e1;rw [if_neg (fun z=>Ce _ (ZE a z)),if_neg (fun z=>Ce _ (ZE b z))] at e2;exact .inl ⟨e2,e1⟩
 ·rw [if_pos a,if_neg b] at e1;rw [if_neg (fun z=>Ce _ (ZE a z))] at e2;by_cases c:v.1.cps.toList < v.2.1.cps.toList
  ·rw [if_pos c] at e2;exact .inr ⟨e2,e1⟩
  ·rw [if_neg c] at e2;rw [e1,e2] at a;exact absurd a (Ce _)
 ·rw [if_neg a,if_pos b] at e1;rw [if_neg (fun z=>Ce _ (ZE b z))] at e2;by_cases c:u.1.cps.toList < u.2.1.cps.toList
  ·rw [if_pos c] at e2;exact .inr ⟨e1,e2⟩
  ·rw [if_neg c] at e2;rw [<-e1,<-e2] at b;exact absurd b (Ce _)
 ·rw [if_neg a,if_neg b] at e1;by_cases c:u.1.cps.toList < u.2.1.cps.toList <;> by_cases d:v.1.cps.toList < v.2.1.cps.toList
  ·rw [if_pos c,if_pos d] at e2;exact .inl ⟨e1,e2⟩
  ·rw [if_pos c,if_neg d] at e2;rw [e1,e2] at c;exact absurd c (Ce _)
  ·rw [if_neg c,if_pos d] at e2;rw [<-e1,<-e2] at d;exact absurd d (Ce _)
  ·exact .inl ⟨e1,by rw [<-Cu a c,e1]; exact Cu b d⟩
theorem MY {us:List AG} {x:AG} (no:∀ u ∈ us,¬ DM u x):Br (us.map OG) (DG x) (.int x.2.2)=(us ++ [x]).map OG:=by
 unfold Br;rw [if_neg,YE]
 ·rfl
 ·intro z;obtain ⟨q,hq,e⟩:=ZQ.mp z;obtain ⟨u,hu,rfl⟩:=YA.mp hq;exact no u hu (HW (of_decide_eq_true e))
theorem valW {us:List AG} (sep:us.Pairwise fun u v=>¬ DM u v) {u:AG} (hu:u ∈ us):Bc (us.map OG) (DG u)=some (.int u.2.2):=by
 obtain ⟨v',h1,h2⟩:=K7 (aj (f:=OG) hu);rw [show Bc (us.map OG) (DG u)=Bc (us.map OG) (OG u).1 from rfl];have e1:(OG u).1=DG u:=rfl;obtain ⟨w,hw,e⟩:=YA.mp h2;have ek:DG w=DG u:=congrArg Prod.fst e;have ev:V.int w.2.2=v':=congrArg Prod.snd e;have al:=HW ek;have same:w=u:=by
  by_cases z:w=u
  ·exact z
  ·obtain ⟨i,hi⟩:=ZD hw;obtain ⟨j,hj⟩:=ZD hu;obtain ⟨S4,ei⟩:=Y8.mp hi;obtain ⟨IZ,ej⟩:=Y8.mp hj;rcases cO i j with l | l | l
   ·exact absurd (by rw [ei,ej]; exact al) (Zy.mp sep i j S4 IZ l)
   ·subst l;rw [ei] at ej;exact absurd ej z
   ·refine absurd ?_ (Zy.mp sep j i IZ S4 l);rw [ei,ej];rcases al with ⟨a,b⟩ | ⟨a,b⟩
    ·exact .inl ⟨a.symm,b.symm⟩
    ·exact .inr ⟨b.symm,a.symm⟩
 subst same;rw [<-ev] at h1;exact h1
theorem RJ {us:List AG} {x:AG} (h:(Bc (us.map OG) (DG x)).isSome=false):∀ u ∈ us,¬ DM u x:=by
 intro u hu al;have ek:DG u=DG x:=by
  unfold DG;rcases al with ⟨a,b⟩ | ⟨a,b⟩
  ·rw [a,b]
  ·rw [a,b,J4,J5]
 obtain ⟨v',h1,_⟩:=K7 (aj (f:=OG) hu);have h2:Bc (us.map OG) (DG u)=some v':=h1;rw [ek] at h2;rw [h2] at h;cases h
theorem D8.dict {K:Y3} {H:Hp} {p D:Addr} {ys zs:List (List A6 × V)} (h:D8 K H p) (hD:H D=some (.dT ys)):D8 K (upd H D (.dT zs)) p:=by
 obtain ⟨a,ns,i,l,h,sc,r⟩:=h;refine ⟨a,ns,i,l,by rw [Af (BE h hD (fun z=>by cases z))]; exact h,?_,r⟩;rcases sc with ⟨ob,h'⟩ | h'
 ·refine .inl ⟨ob,?_⟩;rw [Af (BE h' hD (fun z=>by cases z))];exact h'
 ·exact .inr h'
structure M5 (K:Y3) (H H':Hp) (p e W:Addr) (xs:List Str) (us:List AG):Prop where
 pn:D8 K H' p
 he:H' e=some (.lst (xs.map V.str))
 hw:H' W=some (.dT (us.map OG))
 kp:AV p H H'
 ne:e ≠ p
 nw:W ≠ p
 fw:H W=none
theorem M5.step {K:Y3} {H H' Rz:Hp} {p e W:Addr} {xs:List Str} {us:List AG} (h:M5 K H H' p e W xs us) (P:D8 K Rz p) (k:AV p H' Rz):M5 K H Rz p e W xs us:=
 ⟨P,k _ _ h.ne h.he,k _ _ h.nw h.hw,h.kp.trans k,h.ne,h.nw,h.fw⟩
theorem M5.add {K:Y3} {H H':Hp} {p e W q:Addr} {xs:List Str} {us:List AG} (h:M5 K H H' p e W xs us) (hq:H' q=none) (o:HO):M5 K H (upd H' q o) p e W xs us:=
 h.step (h.pn.same (Ad hq)) (AV.of_same (Ad hq))
theorem M5.put {K:Y3} {H H':Hp} {p e W:Addr} {xs:List Str} {us:List AG} (h:M5 K H H' p e W xs us) (JV:List AG):M5 K H (upd H' W (.dT (JV.map OG))) p e W xs JV:=
 ⟨h.pn.dict h.hw,by rw [Af (BE h.he h.hw (fun z=>by cases z))]; exact h.he,Ab,fun b o hb z=>by rw [Af (Ah z h.fw)]; exact h.kp b o hb z,h.ne,h.nw,h.fw⟩
theorem Uz {xs:List Str} {k:Nat} {ws:List AG} (h:Hi xs k ws) (hn:xs.Nodup) {x y:Str} {n:Int} (hy:xs[k]? = some y):∀ u ∈ ws,¬ DM u (x,y,n):=by
 intro u hu al;obtain ⟨i,j,a,b,c,d,_⟩:=h.of u hu;rcases al with ⟨_,e⟩ | ⟨e,_⟩
 ·have e':u.2.1=y:=e;rw [e'] at d;have:=Fi hn d hy;lia
 ·have e':u.1=y:=e;rw [e'] at c;have:=Fi hn c hy;lia
theorem PN {xs:List Str} {k:Nat} {ws:List AG} (h:Hi xs k ws) (hn:xs.Nodup) {x y:Str} {n:Int} {i:Nat} (hi:i < k) (hx:xs[i]? = some x) (hy:xs[k]? = some y) (n1:1<=n):Hi xs (k + 1) (ws ++ [(x,y,n)]):=
 h.more hn (Y8.mp hy).1 [i] (by simp) (by intro z hz; rw [YJ.mp hz]; exact hi) (by simp) rfl (fun q u j e1 e2=>by
  cases q with
  | zero=>
   simp at e1 e2;subst e1 e2;exact ⟨hx,hy,n1⟩
  | succ q=>simp at e2)
theorem NT {xs:List Str} {us:List AG} {x y:Str} {n:Int} (h:Fe xs us) (hx:x ∈ xs) (hy:y ∈ xs) (ne:x ≠ y) (hn:1<=n) (no:∀ u ∈ us,¬ DM u (x,y,n)):Fe xs (us ++ [(x,y,n)]):=by
 refine h.snoc hx hy ne hn fun u hu ⟨a,b⟩=>no u hu ?_
 have uu:=(h.1 u hu).2.2.1;rcases a with a | a <;> rcases b with b | b
 ·exact absurd (a.trans b.symm) ne
 ·exact .inl ⟨a.symm,b.symm⟩
 ·exact .inr ⟨b.symm,a.symm⟩
 ·exact absurd (a.trans b.symm) ne
def LQ (K:Y3):Sp:=fun vs H Q _=>∃ (p e:Addr) (xs:List Str) (sh:Int),vs=[.ref p,.ref e,.int sh]/\D8 K H p/\H e=some (.lst (xs.map V.str))/\e ≠ p/\xs.Nodup/\(∀ x ∈ xs,AY x=true)/\1<=xs.length/\xs.length<=26/\0<=sh/\sh < 4 /\
 ∀ (H':Hp) (m:Addr) (ps:List Str) (ws:List AG),D8 K H' p->AV p H H'->ps.Perm xs->Fw H' m xs.length ps ws->Q (.ref m) H'
structure R5 (K:Y3) (H0 H':Hp) (p R:Addr) (rs:List CB) (vs:List V):Prop where
 pn:D8 K H' p
 kp:∀ b o,b ≠ p->b ≠ R->H0 b=some o->H' b=some o
 hR:H' R=some (.lst vs)
 dd:Bw H' vs (rs.map GP)
 nR:R ≠ p
theorem R5.step {K:Y3} {H0 H' Rz:Hp} {p R:Addr} {rs:List CB} {vs:List V} (h:R5 K H0 H' p R rs vs) (P:D8 K Rz p) (k:AV p H' Rz):R5 K H0 Rz p R rs vs:=
 ⟨P,fun b o hb Fb z=>k b o hb (h.kp b o hb Fb z),k _ _ h.nR h.hR,BC h.dd (D9 h.pn k),h.nR⟩
theorem R5.add {K:Y3} {H0 H':Hp} {p R q:Addr} {rs:List CB} {vs:List V} (h:R5 K H0 H' p R rs vs) (hq:H' q=none) (o:HO):R5 K H0 (upd H' q o) p R rs vs:=
 h.step (h.pn.same (Ad hq)) (AV.of_same (Ad hq))
theorem R5.app {K:Y3} {H0 H':Hp} {p R T:Addr} {rs:List CB} {vs:List V} {y:Str} {l:Int} (h:R5 K H0 H' p R rs vs) (hT:H' T=some (.tup [.str y,.int l])):R5 K H0 (upd H' R (.lst (vs ++ [.ref T]))) p R (rs ++ [(y,l)]) (vs ++ [.ref T]):=by
 refine ⟨h.pn.other h.hR h.nR,fun b o hb Fb z=>by rw [Af Fb]; exact h.kp b o hb Fb z,Ab,?_,h.nR⟩;rw [YE];refine I0 (BC h.dd fun b ys e=>?_) (.cons (MT (u:=(y,l)) (by rw [Af (BE hT h.hR (fun z=>by cases z))]; exact hT)) .nil);rw [Af (BE e h.hR (fun z=>by cases z))];exact e
theorem CO {xs ys zs:List Str} {rs:List CB} {lo:Int} (pm:(ys ++ zs).Perm xs) (nd:xs.Nodup) (rt:rs.map (·.1)=ys) (rl:∀ r ∈ rs,lo<=r.2/\r.2 < 10 ^ 30) (one:1<=rs.length) {ps:List Str} (pp:ps.Perm xs):EC ps lo rs:=
 ⟨fun r hr=>pp.mem_iff.mpr (pm.mem_iff.mp (Z1 _ (by rw [<-rt]; exact aj hr))),by rw [rt]; exact (Zr.mp (pm.nodup_iff.mpr nd)).1,rl,one⟩
structure NQ (H:Hp) (c m:Addr) (n:Nat) (xs:List Str) (ws:List AG) (Az Bh:List CB) (x:V) (d:PyData):Prop where
 cw:Dt H c m n xs ws Az Bh x d
 n9:n<=9
 l6:Az.length<=6
 l8:Bh.length<=8
 so1:sortedS (Az.map (·.1))=true
 so2:sortedS (Bh.map (·.1))=true
theorem NQ.keepT {H H':Hp} {c m:Addr} {n:Nat} {xs:List Str} {ws:List AG} {Az Bh:List CB} {x:V} {d:PyData} (h:NQ H c m n xs ws Az Bh x d) (t:∀ b ys,H b=some (.tup ys)->H' b=some (.tup ys)):NQ H' c m n xs ws Az Bh x d:=⟨h.cw.keepT t,h.n9,h.l6,h.l8,h.so1,h.so2⟩
def MN (K:Y3):Sp:=fun vs H Q _=>∃ (p:Addr) (sh:Int),vs=[.ref p,.int sh]/\D8 K H p/\0<=sh/\sh < 4 /\
 ∀ (H':Hp) (c m:Addr) (n:Nat) (xs:List Str) (ws:List AG) (Az Bh:List CB) (x:V) (d:PyData),D8 K H' p->AV p H H'->NQ H' c m n xs ws Az Bh x d->Q (.ref c) H'
def MJ:Sp:=fun vs H Q _=>∃ (m:Addr) (n:Nat) (xs:List Str) (ws:List AG),vs=[.ref m]/\Fw H m n xs ws/\1<=n/\n<=30/\∀ (H':Hp) (A:Addr),Ar H H'->H A=none->DK H' A xs ws->Q (.ref A) H'
section
open PySem.SeqAt
open PySem.AutoSeq1 (wpAny_loadPart')
open PySem.MeetsSeq PySem.MeetsSeq2 PySem.MeetsSeq3
end
section
variable {X:Cx} {pins:List (Addr × Obj)} {σ:St} {H:Hp} {s:Shared}
end
section
variable {prog:Program} {w:World} {A:Around} {R:Result->Shared->Prop} {I:Addr} {fp wr:List Addr} {n:Nat} {P:Nat->Value->Prop} {St:Nat->Heap->Prop} {g0:Heap} {kw:List (Str × Value)}
end
section
variable {prog:Program} {w:World} {A:Around} {E:Value->Shared->Prop} {s:Shared}
end
theorem Mx {X:Cx} {pins:List (Addr × Obj)} {σ:St} {H:Hp} {s:Shared} {a b:Addr} {k:List A6} {v:V} {u r:Value} {kvs:List (List A6 × V)} {A:Around} {E:Value->Shared->Prop} {Q:Unit->Shared->Prop} (hu:A.units + 1 < cLine) (I:An X pins σ H s) (e:H a=some (.dT kvs)) (eb:H b=some (.tup (k.map kV))) (l:kvs.length < sizeLine) (ry:A3 (.ref b) u) (rv:A3 v r)
  (h:∀ s',An X pins σ (upd H a (.dT (Br kvs k v))) s'->Q () s'):wpAny (model X.prog X.w) A (dictSet a u r) Q E s:=by
 cases (show u=Value.ref b from ry)
 obtain ⟨z,hd,xs,rel,dd⟩:=T8 I.hok e;have hz:xs.length<=sizeLine:=by rw [<-Paired.length rel]; exact z
 have hl:(Br kvs k v).length<=sizeLine:=by have:=Cr kvs k v; lia
 refine wpAny_dictSet_heap (hsz:=hz) (show _ from (show A.units < cLine by lia)) (Fo I.hok eb) dd fun h' LJ hs=>h _ ?_
 obtain ⟨q,es,ep,hq,h2,h3,h4,_,h5⟩:=LJ;refine FQ I (by rw [e]; exact True.intro) hs ⟨q,hq⟩ ⟨hl,hd,_,(rel.put k eb rv).keeps fun c ys ec=>?_,q,es,ep,hq,h2,h3,h4,h5⟩;rw [Af (BE ec e (fun z=>nomatch z))];exact ec
def RQ (wi:TI) (g:TG) (tt:TT) (tk tv:TE) (σ0:St->St):TE:=fun σ H Q=>wi σ H fun J H1=>∀ D,H1 D=none->∃ W:Nat->Nat->St->Hp->Prop,(∃ m,W 0 m (σ0 σ) (upd H1 D (.dT []))) /\
 ∀ i m Av H',W i m Av H'->(J.stop i H'/\Q (.ref D) H')\/(J.go i H'/\∀ x H2,J.yld i H' x H2->g x Av H2 fun Ay H3=>tt Ay H3 fun b H4=>
  if b=true then tk Ay H4 (fun y H5=>tv Ay H5 fun v H6=>∃ kvs k b,y=.ref b/\H6 b=some (.tup (k.map kV))/\H6 D=some (.dT kvs)/\kvs.length < sizeLine/\∃ m',m' < m/\W (i + 1) m' Ay (upd H6 D (.dT (Br kvs k v)))) else ∃ m',m' < m/\W (i + 1) m' Ay H4)
theorem Jy {X:Cx} {tg iter kx vx:Expr} {ifs:List Expr} {scope:Scope} {cl:List (Str × Addr)} {N:List Str} {pos:Pos} {wi:TI} {g:TG} {tt:TT} {tk tv:TE} {σ0:St->St} (hc:X.calm=true) (hu:X.A.units + 1 < cLine) (co:A2 X scope cl)
  (hσ:∀ σ,σ.length=X.N.length->AH X cl scope N σ (σ0 σ)) (hi:PI X tg iter wi)
  (hb:∀ s2 H C fp,PG (Am X scope cl N s2 H C fp) tg g/\TH (Am X scope cl N s2 H C fp) ifs tt/\PE (Am X scope cl N s2 H C fp) kx tk/\PE (Am X scope cl N s2 H C fp) vx tv)
  (hs:∀ x,foldedSetIterable iter X.env x=pure x:=by intro _; rfl):PE X (.DictComp kx vx [⟨tg,iter,ifs,0⟩] scope pos) (RQ wi g tt tk tv σ0):=by
 intro pins s σ H Q I h;rw [arm_eval_DictComp];refine wpAny_comprehension_free (use:=none) rfl hs co.clos co.kind co.names (wpAny_mono (hi (pins:=pins) s σ H _ I h) (fun xv s1 h1=>wpAny_mono h1 (fun itv s2 h2=>?_) fun _ _ e=>e) fun _ _ e=>e);obtain ⟨it,fp,tn,J,H2,rfl,I2,T,ET,f2,hW⟩:=h2;refine wpAny_newObj_type (wpAny_newFunctionEnv co.cell (by intro y hy; cases hy) (fun h₁ B4 Bn=>?_) co.kind);dsimp only at B4 Bn ⊢;generalize Ih:s2.heap.push { cls:=.type "dict",dict:=none,data:=.dict #[] } = HH at B4 Bn ⊢;have Bz:HH.objs.size=s2.heap.objs.size + 1:=by rw [<-Ih,Zk]
 have old:∀ b o,s2.heap.get? b=some o->h₁.get? b=some o:=fun b o e=>
  Bn.extBut b o (YF (by rw [Bz]; exact YV (YC e))) (Y2 _ (Ih ▸ Y2 _ e))
 have newD:A5 X.prog X.w (upd H2 s2.heap.objs.size (.dT [])) h₁ s2.heap.objs.size (.dT []):=
  let ⟨z,hd,vs,rel,o,es,ep,ho,r⟩:=L4 (P:=X.prog) (w:=X.w) (H:=upd H2 s2.heap.objs.size (.dT [])) s2.heap I2.big
  ⟨z,hd,vs,rel,o,es,ep,Bn.extBut _ _ (YF (by rw [Bz]; exact YZ _)) (Y2 _ (Ih ▸ ho)),r⟩
 obtain ⟨W,⟨m0,w0⟩,turn⟩:=hW s2.heap.objs.size I2.fresh;have hfo:∀ b ∈ fp,∃ o,s2.heap.get? b=some o:=fun b hb=>let ⟨o,e,_⟩:=T.obj _ _ ET b hb; ⟨o,e⟩
 have I3:An (Am X scope cl N s2 H2 HH.objs.size fp) [] (σ0 σ) (upd H2 s2.heap.objs.size (.dT [])) { s2 with heap:=h₁,toks:=s2.toks + ([]:List (Str × Value)).length }:=
  E6 I2 f2 hfo co (hσ σ I.len) old (Y7 _) (by rw [Bz]; exact Ze _) (Zx (by rw [Bz]; exact YZ _)) newD B4
 have fC:s2.heap.objs.size<=HH.objs.size:=by rw [Bz]; exact Ze _
 obtain ⟨hg,ht,hk,hv⟩:=hb s2 H2 HH.objs.size fp;have loop:∀ BW:Shared,BW = { s2 with heap:=h₁,toks:=s2.toks + ([]:List (Str × Value)).length } ->
   codeAny (model X.prog X.w) X.A (.compLoop (.DictComp kx vx [⟨tg,iter,ifs,0⟩] scope pos) 0 (.ref it) (.ref s2.heap.objs.size) (compEnvC scope cl HH.objs.size X.env))
    (compPost (model X.prog X.w) X.A X.xe none (EP X pins σ Q) (.ref s2.heap.objs.size) HH.objs.size) BW:=by
  rintro BW rfl;have stat:∀ {H':Hp} ,(∀ b ∈ fp,H' b=none)->∀ b ∈ fp,Eg (Am X scope cl N s2 H2 HH.objs.size fp) [] H' b:=fun hn b hb=>by
   refine ⟨hn b hb,?_,?_,.inl hb,?_,fun p hp=>by cases hp⟩
   ·obtain ⟨o,e⟩:=hfo b hb;exact YF (show b < HH.objs.size by rw [Bz]; exact YV (YC e))
   ·intro hz;obtain ⟨_,q1,q2,_⟩:=f2 b hb;rcases Y4.mp (I2.stkSub b hz) with e | e
    ·exact q1 e
    ·exact q2 e
   ·exact fun x c e=>(f2 b hb).2.2.2.2.1 x c (co.sub x c e)
  refine BJ (fun n s'=>∃ i Av H',An (Am X scope cl N s2 H2 HH.objs.size fp) [] Av H' s'/\tn i s'.heap/\(∀ b ∈ fp,H' b=none)/\W i n Av H') ?_ m0
   ⟨0,σ0 σ,_,I3,T.keep _ _ _ ET fun b hb o e=>old b o e,fun b hb=>?_,w0⟩
  ·rintro n s4 ⟨i,F3,H4,I4,KH,Lv,w4⟩;rcases turn i n F3 H4 w4 with ⟨stop,qn⟩ | ⟨go,step⟩
   ·refine wpAny_mono (T.done (Am X scope cl N s2 H2 HH.objs.size fp) rfl rfl rfl hc i [] s4 F3 H4 (fun _ _=>False) I4 (stat Lv) KH stop) (fun r s5 ⟨hr,I5⟩=>?_) fun _ _ z=>z.elim
    subst hr;obtain ⟨m5,QW,_⟩:=id I5.loc;exact ⟨m5,QW,fun h' JA=>⟨.ref _,H4,E7 I2 f2 fC I5 JA,rfl,qn⟩⟩
   ·refine wpAny_mono (T.item (Am X scope cl N s2 H2 HH.objs.size fp) rfl rfl rfl hc i [] s4 F3 H4 (fun _ _=>False) I4 (stat Lv) KH go) (fun r s5 ⟨u,hr,h5⟩=>?_) fun _ _ z=>z.elim
    subst hr;refine wpAny_mono h5 (fun _ s6 ⟨x,H6,I6,r6,y6,Hs,Rf⟩=>?_) fun _ _ z=>z.elim
    have Rx:=I6.pinned (stat Rf) (T.obj _ _ Hs);refine wpAny_mono (hg s6 F3 H6 x u _ Rx r6 (step x H6 y6)) (fun _ s7 ⟨Eh,H7,I7,q7⟩=>?_) fun _ _ z=>z.elim
    refine wpAny_mono (ht s7 Eh H7 _ I7 q7) (fun ok s8 ⟨H8,I8,q8⟩=>?_) fun _ _ z=>z.elim
    have again:∀ {s9:Shared} {F2:St} {H9:Hp} ,An (Am X scope cl N s2 H2 HH.objs.size fp) ([] ++ Dw fp s6.heap) F2 H9 s9->(∃ m',m' < n/\W (i + 1) m' F2 H9)->∃ m,m < n/\∃ i Av H',An (Am X scope cl N s2 H2 HH.objs.size fp) [] Av H' s9/\tn i s9.heap/\(∀ b ∈ fp,H' b=none)/\W i m Av H':=fun {s9 F2 H9} I9 n9=>by
     obtain ⟨m',hm,w9⟩:=n9;refine ⟨m',hm,i + 1,F2,H9,I9.unpinned,T.keep _ _ _ Hs fun b hb o e=>(I9.pin (b,o) (YH _ (YH _ (AZ hb e)))).1,fun b hb=>?_,w9⟩;obtain ⟨o,e,d⟩:=T.obj _ _ Hs b hb;exact (I9.pin (b,o) (YH _ (YH _ (AZ hb e)))).2.1
    cases ok with
    | false=>
     rw [if_neg YI] at q8 ⊢;exact again I8 q8
    | true=>
     rw [if_pos rfl] at q8 ⊢;refine wpAny_mono (hk s8 Eh H8 _ I8 q8) (fun yk s9 ⟨k,H9,I9,r9,q9⟩=>?_) fun _ _ z=>z.elim
     refine wpAny_mono (hv s9 Eh H9 _ I9 q9) (fun yv MR ⟨v,LF,Ry,V3,kvs,key,b,ek,eb,hacc,hsz,Qz⟩=>?_) fun _ _ z=>z.elim
     subst ek;exact Mx (X:=Am X scope cl N s2 H2 HH.objs.size fp) hu Ry hacc eb hsz r9 V3 fun Wu Wm=>again Wm Qz
  ·have z:=(f2 b hb).1;obtain ⟨o,e⟩:=hfo b hb;rw [Af (YF (YC e))];exact z
 exact codeAny_compStart_dict (loop _ rfl) (T.self _ 0 _ _ _ (T.keep _ _ _ ET fun b hb o e=>old b o e) (loop _ rfl))
section
variable {prog:Program} {w:World} {A:Around} {E:Value->Shared->Prop} {s:Shared}
theorem Oy {it d:Addr} {i ep:Nat} {es:Array DictEntry} {key:Value} {Q:Option Value->Shared->Prop} (hit:s.heap.IsValIter it d i es.size ep)
  (hm:D6 s.heap d es ep) (hx:es[i]?.map (·.val)=some key)
  (hQ:∀ h',h'.IsValIter it d (i + 1) es.size ep->Heap.SameBut it s.heap h'->Q (some key) { s with heap:=h' }) :
  wpAny (model prog w) A (pyNext (.ref it)) Q E s:=by
 obtain ⟨o,ho,hc,hd⟩:=id hit;obtain ⟨od,hod,hcd,hdd⟩:=id hm;unfold pyNext;refine wpAny_bind (wpAny_attempt (wpAny_callSpecial?_slot (name:=Str.ofString "__next__") hit.typeIs F.slot_dict_valueiterator_next
  (wpAny_call_entry F.slot_dict_valueiterator_next hit.typeIs F.entry_dict_valueiterator_next ?_ (F.args_dict_valueiterator_next_1 _))))
 refine wpAny_bind (wpAny_pure ?_);refine wpAny_bind ?_;refine wpAny_bind ?_;first | refine wpAny_bind (wpAny_typeNameOfWhole_valiter hit.typeIs (wpAny_pure ?_)) | refine wpAny_bind (wpAny_typeNameOf_valiter hit.typeIs (wpAny_pure ?_))
 refine wpAny_bind (wpAny_fieldsOf ho hd ?_);have hown:Builtin.Dict_items.ownsTuple "dict_valueiterator"=false:=by decide
 simp only [hown,Za,if_false];show wpAny _ _ (if (Value.ref d == Value.none)=true then _ else _) _ _ s
 rw [if_neg (show ¬ ((Value.ref d == Value.none)=true) from YI)];refine wpAny_bind (wpAny_pure ?_);refine wpAny_bind (wpAny_dictEntries hod hdd ?_);have hsz:es.size=es.size:=rfl;rw [if_neg (by rw [hsz]; simp)];refine wpAny_bind (wpAny_pure ?_);refine wpAny_bind (wpAny_dictEpoch hod hdd ?_);rw [if_neg (by simp)];refine wpAny_pure ?_;have QX:i < es.size:=by
  rcases aK i es.size with h | h
  ·exact h
  ·rw [ZY h] at hx; cases hx
 have hkey:es[i].val=key:=by rw [Z2 QX] at hx; exact YM.inj hx
 simp only [show ¬ ((i:Int) < 0) from by lia,if_false,aF,Z2 QX];refine wpAny_bind ?_;first | refine wpAny_bind (wpAny_typeNameOfWhole_valiter hit.typeIs (wpAny_pure ?_)) | refine wpAny_bind (wpAny_typeNameOf_valiter hit.typeIs (wpAny_pure ?_))
 refine wpAny_bind (wpAny_isOneOf_valiter hit.typeIs ?_);show wpAny _ _ (setField (.ref it) 1 (rawInt ((i:Int) + 1)) >>= _) _ _ s
 refine wpAny_bind (wpAny_setField ho hd (by simp) ?_);have Ja:(s.heap.update it (Obj.mapFields (·.setIfInBounds 1 (rawInt ((i:Int) + 1))))).IsValIter it d (i + 1) es.size ep:=
  ⟨_,Zo _ ho (Obj.isFreed_of_fields (Obj.data_mapFields hd _)),(Obj.cls_mapFields ..).trans hc,by rw [Obj.data_mapFields hd]; simp [rawInt]⟩
 refine wpAny_bind (wpAny_holding ?_);refine wpAny_bind (wpAny_isOneOf_valiter (s:={ s with heap:=s.heap.update it (Obj.mapFields (·.setIfInBounds 1 (rawInt ((i:Int) + 1)))) }) Ja.typeIs ?_);refine wpAny_bind (wpAny_isOneOf_valiter (s:={ s with heap:=s.heap.update it (Obj.mapFields (·.setIfInBounds 1 (rawInt ((i:Int) + 1)))) }) Ja.typeIs ?_);show wpAny _ _ (pure es[i].val) _ _ _
 exact wpAny_pure (wpAny_pure ⟨_,rfl,wpAny_pure (hkey ▸ hQ _ Ja (Heap.SameBut.update ..))⟩)
theorem Qx {it d:Addr} {i ep:Nat} {es:Array DictEntry} {Q:Option Value->Shared->Prop} (hh:A.handled=none) (hit:s.heap.IsValIter it d i es.size ep)
  (hm:D6 s.heap d es ep) (hx:es.size<=i)
  (hQ:∀ h',Heap.ExtBut it s.heap h'->Q none { s with heap:=h' }):wpAny (model prog w) A (pyNext (.ref it)) Q E s:=by
 obtain ⟨o,ho,hc,hd⟩:=id hit;obtain ⟨od,hod,hcd,hdd⟩:=id hm;unfold pyNext;refine wpAny_bind (wpAny_attempt (wpAny_callSpecial?_slot (name:=Str.ofString "__next__") hit.typeIs F.slot_dict_valueiterator_next
  (wpAny_call_entry F.slot_dict_valueiterator_next hit.typeIs F.entry_dict_valueiterator_next ?_ (F.args_dict_valueiterator_next_1 _))))
 refine wpAny_bind (wpAny_pure ?_);refine wpAny_bind ?_;refine wpAny_bind ?_;first | refine wpAny_bind (wpAny_typeNameOfWhole_valiter hit.typeIs (wpAny_pure ?_)) | refine wpAny_bind (wpAny_typeNameOf_valiter hit.typeIs (wpAny_pure ?_))
 refine wpAny_bind (wpAny_fieldsOf ho hd ?_);have hown:Builtin.Dict_items.ownsTuple "dict_valueiterator"=false:=by decide
 simp only [hown,Za,if_false];show wpAny _ _ (if (Value.ref d == Value.none)=true then _ else _) _ _ s
 rw [if_neg (show ¬ ((Value.ref d == Value.none)=true) from YI)];refine wpAny_bind (wpAny_pure ?_);refine wpAny_bind (wpAny_dictEntries hod hdd ?_);have hsz:es.size=es.size:=rfl;rw [if_neg (by rw [hsz]; simp)];refine wpAny_bind (wpAny_pure ?_);refine wpAny_bind (wpAny_dictEpoch hod hdd ?_);rw [if_neg (by simp)];refine wpAny_pure ?_;have hge:es.size<=i:=hx;simp only [show ¬ ((i:Int) < 0) from by lia,if_false,aF,ZY hge];refine wpAny_bind ?_;first | refine wpAny_bind (wpAny_typeNameOfWhole_valiter hit.typeIs (wpAny_pure ?_)) | refine wpAny_bind (wpAny_typeNameOf_valiter hit.typeIs (wpAny_pure ?_))
 show wpAny _ _ (setField (.ref it) 0 .none >>= _) _ _ s
 refine wpAny_bind (wpAny_setField ho hd (by simp) ?_);show wpAny _ _ (newExc (.type "StopIteration") [] >>= _) _ _ _
 refine wpAny_bind ?_;simp only [newExc,newTuple];refine wpAny_bind (wpAny_newObj_type ?_ (by size_fits));refine wpAny_bind (m:=firstArgMember _ _) (wpAny_of_eq (a:=Value.none) (by first | rfl | (simp only [firstArgMember]; rfl)) ?_);refine wpAny_newObj_type ?_ (by size_fits);simp only [raiseNew];refine wpAny_bind (wpAny_handled ?_);rw [show A.in1.handled=none from hh];refine wpAny_bind (wpAny_pure (wpAny_throw ?_));refine wpAny_bind (wpAny_isInstance (T:="StopIteration") (b:=true) ⟨_,YD _ rfl,rfl⟩ isSubtype_stop ?_);exact wpAny_pure (hQ _ (((Heap.SameBut.update ..).extBut.push _).push _))
theorem IsValIter.at'' {h h':Heap} {it d:Addr} {i n ep:Nat} (x:h.IsValIter it d i n ep) (e:∀ o,h.get? it=some o->h'.get? it=some o):h'.IsValIter it d i n ep:=let ⟨o,a,b⟩:=x; ⟨o,e _ a,b⟩
theorem Ox {v d:Addr} {es:Array DictEntry} {ep:Nat} {Q:Value->Shared->Prop} (hv:s.heap.IsValuesView v d) (hm:D6 s.heap d es ep)
  (hQ:Q (.ref s.heap.objs.size) { s with heap:=s.heap.push { cls:=.type "dict_valueiterator",data:=.fields #[.ref d,.int 0 0,.int es.size 0,.int ep 0] } }) :
  wpAny (model prog w) A (pyIter (.ref v)) Q E s:=by
 obtain ⟨ov,hov,hcv,hdv⟩:=id hv;obtain ⟨o,ho,hc,hdat⟩:=id hm;refine wpAny_pyIter_slot hv.typeIs F.slot_dict_values_iter (wpAny_call_entry F.slot_dict_values_iter hv.typeIs F.entry_dict_values_iter ?_ (F.args_dict_values_iter_1 _));unfold Builtin.«dict_values.__iter__» Builtin.Dict_items.dictOf Builtin.Dict_items.newIterator;refine wpAny_bind (wpAny_pure (wpAny_bind (wpAny_bind (wpAny_field hov hdv (x:=.ref d) rfl (wpAny_pure ?_)))));refine wpAny_bind (wpAny_bind (wpAny_dictEntries ho hdat (wpAny_bind (wpAny_dictEpoch ho hdat ?_))));rw [show Builtin.Dict_items.ownsTuple "dict_valueiterator"=false by decide];simp only [Za,if_false];refine wpAny_newObj_type (wpAny_pure ⟨_,rfl,"dict_valueiterator",_,⟨_,YD _ rfl,rfl⟩,F.slot_dict_valueiterator_next.lookup,?_⟩);simpa [rawInt] using hQ
theorem LY (hh:A.handled=none) (I d:Addr) (hne:d ≠ I) (es:Array DictEntry) (ep:Nat) :
  Walks prog w A I [I,d] [I] es.size (fun i v=>es[i]?.map (·.val)=some v) (fun i h=>h.IsValIter I d i es.size ep/\D6 h d es ep) where
 sub:=fun b hb=>by simp at hb; simp [hb]
 frame:=fun _ _ _ st hk=>⟨IsValIter.at'' st.1 fun o e=>hk I (by simp) o e,st.2.at' fun o e=>hk d (by simp) o e⟩
 item:=fun i s Q E hi st hQ=>by
  have hx:es[i]?.map (·.val)=some es[i].val:=by rw [Z2 hi]; rfl
  refine Oy st.1 st.2 hx fun h' Ja JA=>?_
  exact hQ _ h' s.toks hx ⟨Ja,st.2.at' fun o e=>JA.extBut d o hne e⟩ fun b o hb e=>JA.extBut b o (fun h=>hb (by simp [h])) e
 done:=fun s Q E st hQ=>Qx hh st.1 st.2 (Y7 _) fun h' Ig=>hQ h' s.toks fun b o hb e=>Ig b o (fun h=>hb (by simp [h])) e
 self:=fun _ _ _ _ st hQ=>wpAny_pyIter_valiter st.1 hQ
theorem Qw {r d:Addr} {es:Array DictEntry} {ep:Nat}:cJ prog w "dict_values" r d es.size (fun i v=>es[i]?.map (·.val)=some v) (fun h=>h.IsValuesView r d/\D6 h d es ep) where
 type:=fun _ hm=>hm.1.typeIs
 there:=fun _ hm=>⟨let ⟨_,ho,_⟩:=hm.1; YC ho,hm.2.lt⟩
 keep:=fun _ _ hm hk=>⟨let ⟨o,ho,x⟩:=hm.1; ⟨o,hk r (.inl rfl) o ho,x⟩,hm.2.at' fun o e=>hk d (.inr rfl) o e⟩
 notList:=by decide
 notTuple:=by decide
 hint:=fun _ _ _ _ hm hq=>PySem.W.kdl_hint_values hm.1.typeIs hq
 iter:=fun _ _ hh hm=>⟨_,_,(fun _ _ hq=>Ox hm.1 hm.2 hq),LY hh _ d (YF hm.2.lt) es ep,⟨⟨_,YD _ rfl,rfl,rfl⟩,hm.2.at' fun o e=>Y2 _ e⟩⟩
end
def Ji (r d:Addr):HO:=.ext fun h=>h.IsValuesView r d
theorem IV {prog:Program} {w:World} (d:Addr) (hd:(d == sysModules)=false) :
  MeetsIn prog w (Builtin.«dict.values» ⟨[.ref d],[]⟩) (fun _ R s=>(∃ es ep,D6 s.heap d es ep) /\
   R (.ok (.ret (.ref s.heap.objs.size))) { s with heap:=s.heap.push { cls:=.type "dict_values",data:=.fields #[.ref d] } }):=
 .of_wp fun A R s ⟨⟨es,ep,hm⟩,h⟩=>by
  refine wpAny_bind ?_;unfold Builtin.Dict.noArgs;refine wpAny_bind (wpAny_notOrdered_dict hm.typeIs ?_);show wpAny _ _ (pure d) _ _ s
  refine wpAny_pure ?_;show wpAny _ _ (Builtin.Dict.showsAll d >>= _) _ _ s
  unfold Builtin.Dict.showsAll;rw [if_neg (by rw [hd]; exact YI)];refine wpAny_bind (wpAny_pure (wpAny_bind (wpAny_newObj_type (wpAny_pure ⟨_,rfl,h⟩))))
theorem OC {X:Cx}:MtM X "dict.values" (fun x vs H Q=>∃ (d:Addr) (kvs:List (List A6 × V)),x=.ref d/\vs=[]/\H d=some (.dT kvs)/\∀ r,H r=none->Q (.ref r) (upd H r (Ji r d))):=by
 intro pins s σ H x vs v us Q I rx rv h;obtain ⟨d,kvs,rfl,rfl,hd,q⟩:=h;cases rx
 cases rv
 obtain ⟨z,y,xs,rel,o,es,ep,h1,h2,h3,h4,h5⟩:=(show A5 X.prog X.w H s.heap d (.dT kvs) from I.hok d _ hd)
 have rd:D6 s.heap d es ep:=⟨o,h1,h2,h3⟩
 refine call_meetsIn PySem.F.slot_dict_values rd.typeIs PySem.F.entry_dict_values (PySem.F.args_dict_values_1 _) (IV d y) ⟨⟨es,ep,rd⟩,?_⟩;refine ⟨.ref s.heap.objs.size,_,I.laid (a:=s.heap.objs.size) (o:=Ji s.heap.objs.size d) (t':=s.toks) (fun _ _ e=>Y2 _ e) (Y7 _) ?_,rfl,q _ (I.hok.fresh (Y7 _))⟩;refine ⟨⟨_,YD _ rfl,rfl,rfl⟩,⟨_,YD _ rfl⟩,fun h1 h2 ⟨o,a,b⟩ st=>⟨o,st _ a,b⟩⟩
theorem IE {X:Cx} (hc:X.calm=true):Bl X (.type "list") (fun xs H Q=>∃ (r d:Addr) (kvs:List (List A6 × V)),xs=[.ref r]/\H r=some (Ji r d)/\H d=some (.dT kvs) /\
  ∀ l,H l=none->Q (.ref l) (upd H l (.lst (kvs.map (·.2))))):=by
 intro pins s σ H xs us Q I r h;obtain ⟨rr,d,kvs,rfl,hr,hd,q⟩:=h;obtain ⟨u,rfl,ru⟩:=BO r;cases ru
 obtain ⟨z,y,xs,rel,o,es,ep,h1,h2,h3,h4,h5⟩:=(show A5 X.prog X.w H s.heap d (.dT kvs) from I.hok d _ hd)
 have vw:s.heap.IsValuesView rr d:=(I.hok rr _ hr).1;have xl:xs.length=kvs.length:=(Paired.length rel).symm;have hlen:es.size=kvs.length:=by
  rw [<-YY,h4,Y0];exact xl
 refine PySem.W.kdl_call (Qw (es:=es) (ep:=ep)) (I.ok.hd hc) ⟨vw,o,h1,h2,h3⟩ (by rw [hlen]; exact z) fun h' tk acc c' kk hl hacc=>?_
 have al:acc.toList.length=xs.length:=by
  rw [YY,hacc.1,<-YY,h4,Y0]
 have av:acc.toList=xs.map fun q=>q.2.2:=by
  refine ZJ (by rw [al,Y0]) fun i i1 i2=>?_
  have e2:=hacc.2 i acc.toList[i] (by rw [<-Z3]; exact Y1 i1);dsimp only at e2;rw [<-Z3,h4,Y9,Y1 (by rw [<-al]; exact i1)] at e2;rw [Z9];exact (YM.inj e2).symm
 have vals:∀ {l:List (List A6 × V)} {m:List (List A6 × Addr × Value)},Paired (fun (p:List A6 × V) (q:List A6 × Addr × Value)=>p.1=q.1/\H q.2.1=some (.tup (p.1.map kV))/\A3 p.2 q.2.2) l m->A4 (l.map (·.2)) (m.map fun q=>q.2.2):=fun {l m} hp=>by
  induction hp with
  | nil=>exact .nil
  | cons a _ ih=>exact .cons a.2.2 ih
 have rv:=vals rel;rw [<-av] at rv;refine ⟨.ref s.heap.objs.size,_,I.laid (o:=.lst (kvs.map (·.2))) (t':=tk) kk (Y7 _) ⟨by rw [Y0]; exact z,acc.toList,c',rv,by rw [bT]; exact hl⟩,rfl,q _ (I.hok.fresh (Y7 _))⟩
def AX (ss op:List Str):List Str:=ss.filter fun s=>decide (s ∉ op)
abbrev B8:=List Str × Option Str × Option Str
def Em (s:Str):B8:=(["open",s],none,some s)
def E2 (h:Str):B8:=(["shut",h],some h,none)
def Fz (h s:Str):B8:=(["swap",h,s],some h,some s)
def C7 (ss op:List Str) (h:Str):List B8:=E2 h :: (AX ss op).map (Fz h)
def BL (ss op:List Str):List B8:=(AX ss op).map Em ++ op.flatMap (C7 ss op)
def Ba (op:List Str) (out:Option Str):List Str:=op.filter fun h=>decide (some h ≠ out)
def BU (op:List Str) (out more:Option Str) (zs:List Str):Prop:=zs.Perm (Ba op out ++ more.toList)/\sortedS zs=true
theorem BU.uniq {op:List Str} {out more:Option Str} {zs ys:List Str} (h:BU op out more zs) (g:BU op out more ys):zs=ys:=
 Ge (BX h.2) (BX g.2) (h.1.trans g.1.symm)
def Bu (x:V) (op:List Str) (e:B8):Bool:=!(Ba op e.2.1 ++ e.2.2.toList).isEmpty && C2 x (Ba op e.2.1 ++ e.2.2.toList).length
def GB (ss:List Str) (x:V) (op:List Str):List B8:=(BL ss op).filter (Bu x op)
theorem C6 {ss op:List Str} {s:Str}:s ∈ AX ss op ↔ s ∈ ss/\s ∉ op:=by
 unfold AX;rw [Zh];simp
theorem JD {ss op:List Str} {e:B8}:e ∈ BL ss op ↔ (∃ s ∈ AX ss op,e=Em s)\/∃ h ∈ op,e=E2 h\/∃ s ∈ AX ss op,e=Fz h s:=by
 unfold BL C7;rw [YR,YA,bC];constructor
 ·rintro (⟨s,a,b⟩ | ⟨h,a,b⟩)
  ·exact .inl ⟨s,a,b.symm⟩
  ·rcases Y4.mp b with b | b
   ·exact .inr ⟨h,a,.inl b⟩
   ·obtain ⟨s,c,d⟩:=YA.mp b;exact .inr ⟨h,a,.inr ⟨s,c,d.symm⟩⟩
 ·rintro (⟨s,a,b⟩ | ⟨h,a,b | ⟨s,c,d⟩⟩)
  ·exact .inl ⟨s,a,b.symm⟩
  ·exact .inr ⟨h,a,by rw [b]; exact YO⟩
  ·exact .inr ⟨h,a,YT _ (YA.mpr ⟨s,c,d.symm⟩)⟩
structure Hj (ss op:List Str) (e:B8):Prop where
 out:∀ h,e.2.1=some h->h ∈ op
 more:∀ s,e.2.2=some s->s ∈ ss/\s ∉ op
 any:e.2.1 ≠ none\/e.2.2 ≠ none
 key:e=match e.2.1,e.2.2 with
  | none,some s=>Em s
  | some h,none=>E2 h
  | some h,some s=>Fz h s
  | none,none=>e
theorem Io {ss op:List Str} {e:B8} (h:e ∈ BL ss op):Hj ss op e:=by
 rcases JD.mp h with ⟨s,a,rfl⟩ | ⟨h,a,rfl | ⟨s,b,rfl⟩⟩
 ·exact ⟨(fun h z=>nomatch z),(fun s' z=>by cases z; exact C6.mp a),.inr (fun z=>nomatch z),rfl⟩
 ·exact ⟨(fun h' z=>by cases z; exact a),(fun s z=>nomatch z),.inl (fun z=>nomatch z),rfl⟩
 ·exact ⟨(fun h' z=>by cases z; exact a),(fun s' z=>by cases z; exact C6.mp b),.inl (fun z=>nomatch z),rfl⟩
theorem Ci {α β:Type} {f:α->β} (inj:∀ a b,f a=f b->a=b):∀ {l:List α},l.Nodup->(l.map f).Nodup
 | [],_=>ZZ
 | a :: l,h=>by
  rw [Zl] at h;rw [YK,Zl];refine ⟨fun hm=>?_,Ci inj h.2⟩;obtain ⟨b,hb,e⟩:=YA.mp hm;exact h.1 (by rw [<-inj _ _ e]; exact hb)
theorem E3 {ss op:List Str} (sn:ss.Nodup) (on:op.Nodup):((BL ss op).map (·.1)).Nodup:=by
 have hn:(AX ss op).Nodup:=sn.filter _;unfold BL;rw [YE,Zr];refine ⟨?_,?_,fun a ha b hb=>?_⟩
 ·rw [Zb];exact Ci (fun a b e=>by simpa [Em] using e) hn
 ·have key:∀ l:List Str,l.Nodup->((l.flatMap (C7 ss op)).map (·.1)).Nodup:=fun l=>by
   induction l with
   | nil=>intro _; exact ZZ
   | cons h l ih=>
    intro hl;rw [Zl] at hl;rw [aA,YE,Zr];refine ⟨?_,ih hl.2,fun a ha b hb=>?_⟩
    ·unfold C7;rw [YK,Zl];refine ⟨fun hm=>?_,?_⟩
     ·obtain ⟨e,he,q⟩:=YA.mp hm;obtain ⟨s,_,rfl⟩:=YA.mp he;simp [E2,Fz] at q
     ·rw [Zb];exact Ci (fun a b e=>by simpa [Fz] using e) hn
    ·rintro rfl;obtain ⟨e,he,q⟩:=YA.mp ha;obtain ⟨e',Ig,q'⟩:=YA.mp hb;obtain ⟨h',hh',Ig⟩:=bC.mp Ig;have nhh:h ≠ h':=fun z=>hl.1 (by rw [z]; exact hh')
     rw [<-q'] at q;unfold C7 at he Ig;rcases Y4.mp he with rfl | he <;> rcases Y4.mp Ig with rfl | Ig
     ·exact nhh (by simpa [E2] using q)
     ·obtain ⟨s,_,rfl⟩:=YA.mp Ig;simp [E2,Fz] at q
     ·obtain ⟨s,_,rfl⟩:=YA.mp he;simp [E2,Fz] at q
     ·obtain ⟨s,_,rfl⟩:=YA.mp he;obtain ⟨s',_,rfl⟩:=YA.mp Ig;simp [Fz] at q;exact nhh q.1
  exact key op on
 ·rintro rfl;obtain ⟨e,he,q⟩:=YA.mp ha;obtain ⟨e',Ig,q'⟩:=YA.mp hb;obtain ⟨s,_,rfl⟩:=YA.mp he;obtain ⟨h',hh',Ig⟩:=bC.mp Ig;rw [<-q'] at q;unfold C7 at Ig;rcases Y4.mp Ig with rfl | Ig
  ·simp [Em,E2] at q;exact absurd q.1 (by decide +kernel)
  ·obtain ⟨s',_,rfl⟩:=YA.mp Ig;simp [Em,Fz] at q
theorem DH {ss op:List Str} {x:V} (sn:ss.Nodup) (on:op.Nodup):((GB ss x op).map (·.1)).Nodup:=List.Nodup.sublist ((ZG).map _) (E3 sn on)
theorem BU.mem {op:List Str} {out more:Option Str} {zs:List Str} (h:BU op out more zs) {z:Str}:z ∈ zs ↔ (z ∈ op/\some z ≠ out)\/more=some z:=by
 rw [h.1.mem_iff,YR];unfold Ba;rw [Zh];simp only [decide_eq_true_eq,cz]
theorem BU.nodup {ss op:List Str} {e:B8} {zs:List Str} (h:BU op e.2.1 e.2.2 zs) (on:op.Nodup) (i:Hj ss op e):zs.Nodup:=by
 rw [h.1.nodup_iff,Zr];refine ⟨on.filter _,?_,fun a ha b hb=>?_⟩
 ·cases e.2.2 with
  | none=>exact ZZ
  | some s=>exact ZW _ _
 ·rintro rfl;have Fb:e.2.2=some a:=cz.mp hb;exact (i.more a Fb).2 (Zh.mp ha).1
theorem BU.sub {ss op:List Str} {e:B8} {zs:List Str} (h:BU op e.2.1 e.2.2 zs) (os:∀ s ∈ op,s ∈ ss) (i:Hj ss op e):∀ z ∈ zs,z ∈ ss:=fun z hz=>by
 rcases h.mem.mp hz with ⟨a,_⟩ | a
 ·exact os z a
 ·exact (i.more z a).1
theorem BU.rising {ss op:List Str} {e:B8} {zs:List Str} (h:BU op e.2.1 e.2.2 zs) (on:op.Nodup) (i:Hj ss op e):BB zs:=DC (BX h.2) (h.nodup on i)
theorem BU.isOp {ss op:List Str} {e:B8} {zs:List Str} {x:V} (h:BU op e.2.1 e.2.2 zs) (sr:BB ss) (on:op.Nodup) (os:∀ s ∈ op,s ∈ ss) (i:Hj ss op e):Rw ss x (zs.map PyData.str) ↔ Bu x op e=true:=by
 have len:=h.1.length_eq;have emp:zs=[] ↔ (Ba op e.2.1 ++ e.2.2.toList)=[]:=by rw [<-Z0,len,Z0]
 unfold Rw Bu;rw [Zn,<-len];constructor
 ·rintro ⟨ys,e1,e2,_,e4⟩;have:zs=ys:=EE e1;subst this;refine ⟨?_,e4⟩;rw [az,bK];exact fun z=>e2 (emp.mpr z)
 ·rintro ⟨a,b⟩;refine ⟨zs,rfl,fun z=>?_,CY (h.rising on i) sr (h.sub os i),b⟩;rw [emp.mp z] at a;cases a
theorem BU.inj {ss op:List Str} {e e':B8} {zs:List Str} (h:BU op e.2.1 e.2.2 zs) (h':BU op e'.2.1 e'.2.2 zs) (i:Hj ss op e) (i':Hj ss op e'):e=e':=by
 have o1:e.2.1=e'.2.1:=by
  have half:∀ {e e':B8},BU op e.2.1 e.2.2 zs->BU op e'.2.1 e'.2.2 zs->Hj ss op e->Hj ss op e'->∀ a,e.2.1=some a->e'.2.1=some a:=fun {e e'} h h' i i' a ea=>by
   have ao:=i.out a ea;have na:a ∉ zs:=fun hz=>by
    rcases h.mem.mp hz with ⟨_,q⟩ | q
    ·exact q ea.symm
    ·exact (i.more a q).2 ao
   by_cases q:e'.2.1=some a
   ·exact q
   ·exact absurd (h'.mem.mpr (.inl ⟨ao,fun z=>q z.symm⟩)) na
  cases q:e.2.1 with
  | some a=>exact (half h h' i i' a q).symm
  | none=>
   cases q':e'.2.1 with
   | none=>rfl
   | some b=>rw [half h' h i' i b q'] at q; cases q
 have o2:e.2.2=e'.2.2:=by
  have half:∀ {e e':B8},BU op e.2.1 e.2.2 zs->BU op e'.2.1 e'.2.2 zs->Hj ss op e->Hj ss op e'->∀ a,e.2.2=some a->e'.2.2=some a:=fun {e e'} h h' i i' a ea=>by
   rcases h'.mem.mp (h.mem.mpr (.inr ea)) with ⟨q,_⟩ | q
   ·exact absurd q (i.more a ea).2
   ·exact q
  cases q:e.2.2 with
  | some a=>exact (half h h' i i' a q).symm
  | none=>
   cases q':e'.2.2 with
   | none=>rfl
   | some b=>rw [half h' h i' i b q'] at q; cases q
 have k1:=i.key;have k2:=i'.key;obtain ⟨a,b,c⟩:=e;obtain ⟨a',b',c'⟩:=e';have o1':b=b':=o1;have o2':c=c':=o2;subst o1' o2';cases b with
 | none=>
  cases c with
  | none=>exact absurd i.any (by simp)
  | some s=>rw [k1,k2]
 | some h=>
  cases c with
  | none=>rw [k1,k2]
  | some s=>rw [k1,k2]
def Cp (H:Hp) (op:List Str) (kvs:List (List A6 × V)) (L:List B8):Prop:=kvs.map (·.1)=L.map (fun e=>e.1.map Sum.inr) /\
 ∀ (i:Nat) kv e,kvs[i]? = some kv->L[i]? = some e->∃ t zs,kv.2=.ref t/\H t=some (.tup (zs.map V.str))/\BU op e.2.1 e.2.2 zs
theorem Cp.len {H:Hp} {op:List Str} {kvs:List (List A6 × V)} {L:List B8} (h:Cp H op kvs L):kvs.length=L.length:=by
 have:=congrArg Z5 h.1;rwa [Y0,Y0] at this
theorem Cp.keep {H H':Hp} {op:List Str} {kvs:List (List A6 × V)} {L:List B8} (h:Cp H op kvs L) (s:∀ b xs,H b=some (.tup xs)->H' b=some (.tup xs)):Cp H' op kvs L:=
 ⟨h.1,fun i kv e e1 e2=>let ⟨t,zs,a,b,c⟩:=h.2 i kv e e1 e2; ⟨t,zs,a,s _ _ b,c⟩⟩
theorem Cp.nil {H:Hp} {op:List Str}:Cp H op [] []:=⟨rfl,fun i kv e e1=>by cases e1⟩
theorem Cp.snoc {H:Hp} {op:List Str} {kvs:List (List A6 × V)} {L:List B8} (h:Cp H op kvs L) {e:B8} {t:Addr} {zs:List Str} (ht:H t=some (.tup (zs.map V.str))) (o:BU op e.2.1 e.2.2 zs):Cp H op (kvs ++ [(e.1.map Sum.inr,.ref t)]) (L ++ [e]):=by
 refine ⟨by rw [YE,YE,h.1]; rfl,fun i kv e' e1 e2=>?_⟩;have l:=h.len;by_cases hi:i < kvs.length
 ·rw [Zi hi] at e1;rw [Zi (by lia)] at e2;exact h.2 i kv e' e1 e2
 ·have UG:i=kvs.length:=by
   have:=(Y8.mp e1).1;rw [Y6,Zt] at this;lia
  subst UG;rw [Zg (Y7 _),aQ] at e1;rw [l,Zg (Y7 _),aQ] at e2;cases e1
  cases e2
  exact ⟨t,zs,rfl,ht,o⟩
theorem FL:∀ {a b:List Str},a.map (Sum.inr:Str->A6)=b.map Sum.inr->a=b
 | [],[],_=>rfl
 | [],_ :: _,e=>by cases e
 | _ :: _,[],e=>by cases e
 | x :: a,y :: b,e=>by
  rw [YK,YK] at e;injection e with e1 e2;injection e1 with e1;rw [e1,FL e2]
theorem Cp.new {H:Hp} {op:List Str} {kvs:List (List A6 × V)} {L:List B8} (h:Cp H op kvs L) {k:List Str} (n:k ∉ L.map (·.1)) (v:V):Br kvs (k.map Sum.inr) v=kvs ++ [(k.map Sum.inr,v)]:=by
 refine HA v (K6 fun hm=>?_);rw [h.1] at hm;obtain ⟨e,he,q⟩:=YA.mp hm;exact n (YA.mpr ⟨e,he,FL q⟩)
theorem Cp.val {H:Hp} {op:List Str} {kvs:List (List A6 × V)} {L:List B8} (h:Cp H op kvs L) (nd:(L.map (·.1)).Nodup) {i:Nat} {e:B8} (he:L[i]? = some e):∃ t zs,Bc kvs (e.1.map Sum.inr)=some (.ref t)/\H t=some (.tup (zs.map V.str))/\BU op e.2.1 e.2.2 zs:=by
 have hi:i < kvs.length:=by rw [h.len]; exact (Y8.mp he).1
 obtain ⟨t,zs,a,b,c⟩:=h.2 i _ e (Y1 hi) he;refine ⟨t,zs,?_,b,c⟩;have kn:(kvs.map (·.1)).Nodup:=by
  rw [h.1,show (fun e:B8=>e.1.map (Sum.inr:Str->A6))=(fun k:List Str=>k.map Sum.inr) ∘ (fun e:B8=>e.1) from rfl,<-Zb];exact Ci (fun a b e=>FL e) nd
 refine JU (q:=i) kn ?_;rw [Y1 hi];have k:=congrArg (fun l:List (List A6)=>l[i]?) h.1;rw [Y9,Y9,Y1 hi,he] at k;have k':kvs[i].1=e.1.map Sum.inr:=YM.inj k;rw [<-k',<-a]
def oS:Option Str->V
 | none=>.non
 | some s=>.str s
def Js:Sp:=fun vs H Q _=>∃ (o:Addr) (op:List Str) (out more:Option Str),vs=[.ref o,oS out,oS more]/\H o=some (.tup (op.map V.str))/\op.length<=30 /\
 ∀ (H':Hp) (t:Addr) (zs:List Str),Ar H H'->H t=none->H' t=some (.tup (zs.map V.str))->BU op out more zs->Q (.ref t) H'
structure GI (H:Hp) (c o m:Addr) (n:Nat) (xs:List Str) (ws:List AG) (Az Bh:List CB) (x:V) (d:PyData) (op:List Str):Prop where
 cw:Dt H c m n xs ws Az Bh x d
 ri:BB (Az.map (·.1))
 ho:H o=some (.tup (op.map V.str))
 op:OpS (Az.map (·.1)) x op
theorem GI.keepT {H H':Hp} {c o m:Addr} {n:Nat} {xs:List Str} {ws:List AG} {Az Bh:List CB} {x:V} {d:PyData} {op:List Str} (h:GI H c o m n xs ws Az Bh x d op) (t:∀ b ys,H b=some (.tup ys)->H' b=some (.tup ys)):GI H' c o m n xs ws Az Bh x d op:=⟨h.cw.keepT t,h.ri,t _ _ h.ho,h.op⟩
def MH:Sp:=fun vs H Q _=>∃ (c o m:Addr) (n:Nat) (xs:List Str) (ws:List AG) (Az Bh:List CB) (x:V) (d:PyData) (op:List Str),vs=[.ref c,.ref o]/\GI H c o m n xs ws Az Bh x d op /\
 ∀ (H':Hp) (D:Addr) (kvs:List (List A6 × V)),Ar H H'->H D=none->H' D=some (.dT kvs)->Cp H' op kvs (GB (Az.map (·.1)) x op)->Q (.ref D) H'
def R3 (H:Hp) (vs:List V) (ps:List (List Str × Int)):Prop:=vs.length=ps.length/\∀ (i:Nat) v p,vs[i]? = some v->ps[i]? = some p->∃ t e,v=.ref t/\H t=some (.tup [.ref e,.int p.2])/\H e=some (.tup (p.1.map V.str))
def JQ (ws:List AG) (Az Bh:List CB) (x:V) (op:List Str) (ps:List (List Str × Int)):Prop:=(ps.map (·.1)).Perm ((GB (Az.map (·.1)) x op).map (·.1))/\(ps.map (·.1)).Pairwise (fun a b=>Bg (b.map Du.s) (a.map Du.s)=false) /\
 ∀ p ∈ ps,∃ e zs,e ∈ GB (Az.map (·.1)) x op/\e.1=p.1/\BU op e.2.1 e.2.2 zs/\Ff ws Az Bh zs p.2
def Gv:Sp:=fun vs H Q _=>∃ (c o m:Addr) (n:Nat) (xs:List Str) (ws:List AG) (Az Bh:List CB) (x:V) (d:PyData) (op:List Str),vs=[.ref c,.ref o]/\GI H c o m n xs ws Az Bh x d op /\
 ∀ (H':Hp) (L:Addr) (vs:List V) (ps:List (List Str × Int)),Ar H H'->H L=none->H' L=some (.lst vs)->R3 H' vs ps->JQ ws Az Bh x op ps->Q (.ref L) H'
theorem Ar.free0 {H H':Hp} {a:Addr} (s:Ar H H') (h:H' a=none):H a=none:=by
 cases z:H a with
 | none=>rfl
 | some o=>rw [s _ _ z] at h; cases h
section
variable {X:Cx} {pins:List (Addr × Obj)} {σ Av:St} {H H':Hp} {s2 s':Shared} {scope:Scope} {cl:List (Str × Addr)} {N:List Str} {fp:List Addr} {C D:Addr} {h₁ h':Heap} {t':Nat}
end
theorem DK.keep5 {K:Y3} {H H':Hp} {A p:Addr} {xs:List Str} {ws:List AG} (h:DK H A xs ws) (P:D8 K H p) (k:AV p H H'):DK H' A xs ws:=by
 obtain ⟨M,c,⟨kvs,a,b⟩,d⟩:=h;obtain ⟨_,_,_,_,hp,_⟩:=P;exact ⟨M,c,⟨kvs,k _ _ (BE a hp (fun z=>by cases z)) a,b⟩,d⟩
theorem Bd {A B:Hp} {a:Addr} {o:HO} (s:Ar A B) (n:A a=none):Ar A (upd B a o):=fun b u e=>by rw [Af (Ah e n)]; exact s _ _ e
theorem MU {J:It} {xs:List V} {S:Hp->Prop} {g:TG} {tt:TT} {tk tv:TE} {H:Hp} {σ0:St} {R:Addr->Hp->Prop} (ov:M7 J xs S) (I:Addr->Nat->St->Hp->Prop)
  (h0:∀ D,H D=none->I D 0 σ0 (upd H D (.dT [])))
  (hs:∀ D i σ H',H D=none->I D i σ H'->S H')
  (turn:∀ D i σ H' x (B:St->V->V->Hp->Prop) (N:St->Hp->Prop),H D=none->xs[i]? = some x->I D i σ H'->(∀ Ay y v H6,(∃ kvs k b,y=.ref b/\H6 b=some (.tup (k.map kV))/\H6 D=some (.dT kvs)/\kvs.length < sizeLine/\I D (i + 1) Ay (upd H6 D (.dT (Br kvs k v))))->B Ay y v H6) ->
   (∀ Ay H4,I D (i + 1) Ay H4->N Ay H4)->g x σ H' fun Ay H3=>tt Ay H3 fun b H4=>if b=true then tk Ay H4 (fun y H5=>tv Ay H5 fun v H6=>B Ay y v H6) else N Ay H4)
  (fin:∀ D σ H',H D=none->I D xs.length σ H'->R D H') :
  ∀ D,H D=none->∃ W:Nat->Nat->St->Hp->Prop,(∃ m,W 0 m σ0 (upd H D (.dT []))) /\
   ∀ i m Av H',W i m Av H'->(J.stop i H'/\R D H')\/(J.go i H'/\∀ x H2,J.yld i H' x H2->g x Av H2 fun Ay H3=>tt Ay H3 fun b H4=>
    if b=true then tk Ay H4 (fun y H5=>tv Ay H5 fun v H6=>∃ kvs k b,y=.ref b/\H6 b=some (.tup (k.map kV))/\H6 D=some (.dT kvs)/\kvs.length < sizeLine/\∃ m',m' < m/\W (i + 1) m' Ay (upd H6 D (.dT (Br kvs k v)))) else ∃ m',m' < m/\W (i + 1) m' Ay H4):=by
 intro D hD;refine ⟨fun i m σ H'=>m=xs.length - i/\i<=xs.length/\I D i σ H',⟨xs.length,rfl,Zd _,h0 D hD⟩,?_⟩;rintro i m σ H' ⟨rfl,hi,p⟩;have s1:=hs D i σ H' hD p;by_cases B0:i < xs.length
 ·refine .inr ⟨ov.go i H' s1 B0,fun x H2 y=>?_⟩;obtain ⟨rfl,ex⟩:=ov.yld i H' x H2 s1 y;refine turn D i σ H2 x (fun Ay y v H6=>∃ kvs k b,y=.ref b/\H6 b=some (.tup (k.map kV))/\H6 D=some (.dT kvs)/\kvs.length < sizeLine/\∃ m',m' < xs.length - i/\(m'=xs.length - (i + 1)/\i + 1<=xs.length/\I D (i + 1) Ay (upd H6 D (.dT (Br kvs k v))))) (fun Ay H4=>∃ m',m' < xs.length - i/\(m'=xs.length - (i + 1)/\i + 1<=xs.length/\I D (i + 1) Ay H4)) hD ex p (fun Ay y v H6 ⟨kvs,k,b,a1,a2,a3,a4,a5⟩=>?_) fun Ay H4 p4=>?_
  ·exact ⟨kvs,k,b,a1,a2,a3,a4,xs.length - (i + 1),by lia,rfl,B0,a5⟩
  ·exact ⟨xs.length - (i + 1),by lia,rfl,B0,p4⟩
 ·have e:i=xs.length:=by lia
  subst e;exact .inl ⟨ov.stop H' s1,fin D σ H' hD p⟩
theorem EM {ss:List Str} {x:V} {op:List Str} (h:OpS ss x op) (nd:ss.Nodup):op.Nodup/\(∀ s ∈ op,s ∈ ss)/\(AX ss op).length + op.length<=ss.length:=by
 have on:=h.2.1.nodup nd;refine ⟨on,fun s hs=>h.2.1.subset hs,?_⟩;have:(AX ss op ++ op).Nodup:=Zr.mpr ⟨nd.filter _,on,fun a ha b hb e=>(C6.mp ha).2 (e ▸ hb)⟩;have:=List.Nodup.length_le_of_subset this (fun s hs=>by
  rcases YR.mp hs with z | z
  ·exact (C6.mp z).1
  ·exact h.2.1.subset z)
 rwa [Y6] at this
theorem OW {ss op:List Str}:(BL ss op).length=(AX ss op).length + op.length * ((AX ss op).length + 1):=by
 unfold BL;have:∀ l:List Str,(l.flatMap (C7 ss op)).length=l.length * ((AX ss op).length + 1):=fun l=>by
  induction l with
  | nil=>simp
  | cons h l ih=>rw [aA,Y6,ih,YX,dt,Nat.one_mul]; unfold C7; rw [YX,Y0]; lia
 rw [Y6,Y0,this]
theorem FP {ss op:List Str} {x:V} (h:OpS ss x op) (nd:ss.Nodup) (l:ss.length<=10):(BL ss op).length < 64:=by
 rw [OW];have:=(EM h nd).2.2;have h1:∀ a b:Nat,a + b<=10->a + b * (a + 1) < 64:=fun a b hab=>by
  have ha:a<=10:=by lia
  have hb:b<=10 - a:=by lia
  have:b * (a + 1)<=(10 - a) * (a + 1):=ah _ hb;have k:a + (10 - a) * (a + 1) < 64:=by
   rcases a with _ | _ | _ | _ | _ | _ | _ | _ | _ | _ | _ | a <;> first | decide | lia
  lia
 exact h1 _ _ (by lia)
theorem BP {ss:List Str} {i:Nat} {x:V} (h:(ss.map V.str)[i]? = some x):∃ y,ss[i]? = some y/\x=.str y:=by
 rw [Y9] at h;cases q:ss[i]? with
 | none=>rw [q] at h; cases h
 | some y=>rw [q] at h; exact ⟨y,rfl,(YM.inj h).symm⟩
theorem Cp.mem_get {H:Hp} {op:List Str} {kvs:List (List A6 × V)} {L:List B8} (h:Cp H op kvs L) {i:Nat} {p:List A6 × V} (e:kvs[i]? = some p):∃ x,L[i]? = some x/\p.1=x.1.map Sum.inr:=by
 have l:=h.len;have hi:=(Y8.mp e).1;refine ⟨L[i]'(by lia),Y1 _,?_⟩;have k:=congrArg (fun l:List (List A6)=>l[i]?) h.1;rw [Y9,Y9,e,Y1 (by lia)] at k;exact YM.inj k
theorem CC {α β:Type} (f:α->β) {l:List α} {i:Nat} {a:α} (e:l[i]? = some a):(l.take (i + 1)).map f=(l.take i).map f ++ [f a]:=by rw [YS,e,YE]; rfl
theorem Jq {α β:Type} (f:α->List β) {l:List α} {i:Nat} {a:α} (e:l[i]? = some a):(l.take (i + 1)).flatMap f=(l.take i).flatMap f ++ f a:=by
 rw [YS,e,cA];show _ ++ List.flatMap f [a]=_
 rw [aA,bD,Zq]
theorem Il {α β:Type} (f:α->List β) {l:List α} {i:Nat} {a:α} (e:l[i]? = some a):l.flatMap f=(l.take i).flatMap f ++ (f a ++ (l.drop (i + 1)).flatMap f):=by
 obtain ⟨hi,rfl⟩:=Y8.mp e;rw [<-aA,<-cA,bQ,bU]
theorem CT {α:Type} (f:α->Bool) {l:List α} {i:Nat} {a:α} (e:l[i]? = some a):(l.take (i + 1)).filter f=(l.take i).filter f ++ (if f a then [a] else []):=by
 rw [YS,e,ZA];show _ ++ List.filter f [a]=_
 rw [ZI];cases f a <;> rfl
theorem OB {α:Type} {a b:List α} {x:α} (h:(a ++ x :: b).Nodup):x ∉ a:=fun hx=>(Zr.mp h).2.2 x hx x YO rfl
theorem Ky {ss op:List Str} {L R:List B8} {e:B8} (sn:ss.Nodup) (on:op.Nodup) (h:BL ss op=L ++ e :: R):e.1 ∉ L.map (·.1):=by
 have:=E3 sn on;rw [h,YE,YK] at this;exact OB this
theorem Fs {α:Type} {l:List α} {i:Nat} {a:α} (e:l[i]? = some a):l=l.take i ++ a :: l.drop (i + 1):=by
 obtain ⟨hi,rfl⟩:=Y8.mp e;rw [bQ,bU]
theorem Ds {X:Cx}:Bl X (.builtin "sorted") (fun xs H Q=>∃ (t:Addr) (ss:List Str),xs=[.ref t]/\H t=some (.tup (ss.map V.str))/\ss.length < 64/\∀ (l:Addr) (Cd:List Str),H l=none->Cd.Perm ss->sortedS Cd=true->Q (.ref l) (upd H l (.lst (Cd.map V.str)))):=by
 intro pins s σ H xs us Q I r h;obtain ⟨t,ss,rfl,ht,IK,q⟩:=h;obtain ⟨u,rfl,ru⟩:=BO r;cases ru
 obtain ⟨Ap,rv,pl,hz⟩:=I.tuple (A7.of ht);have hl:Ap.length=ss.length:=by rw [<-rv.length,Y0]
 refine KL pl (MG rv) (by lia) fun h' a out Cd e ha kp he h1 h2 h3=>?_
 exact ⟨.ref a,_,I.laid (o:=.lst (Cd.map V.str)) (t':=s.toks) kp ha ⟨by rw [Y0,h2.length_eq,sizeLine_eq]; lia,out.toList,e,Hm h1,by simpa using he⟩,rfl,q a Cd (I.hok.fresh ha) h2 h3⟩
def Gd (H:Hp) (vs:List V) (ps:List (List Str × V)):Prop:=vs.length=ps.length/\∀ (i:Nat) v p,vs[i]? = some v->ps[i]? = some p->∃ t e,v=.ref t/\H t=some (.tup [.ref e,p.2])/\H e=some (.tup (p.1.map V.str))
theorem Gd.nil {H:Hp}:Gd H [] []:=⟨rfl,fun i v p e=>by cases e⟩
theorem Gd.keep {H H':Hp} {vs:List V} {ps:List (List Str × V)} (h:Gd H vs ps) (s:∀ b xs,H b=some (.tup xs)->H' b=some (.tup xs)):Gd H' vs ps:=
 ⟨h.1,fun i v p e1 e2=>let ⟨t,e,a,b,c⟩:=h.2 i v p e1 e2; ⟨t,e,a,s _ _ b,s _ _ c⟩⟩
theorem Gd.app {H:Hp} {vs us:List V} {ps qs:List (List Str × V)} (h:Gd H vs ps) (g:Gd H us qs):Gd H (vs ++ us) (ps ++ qs):=by
 refine ⟨by rw [Y6,Y6,h.1,g.1],fun i v p e1 e2=>?_⟩;by_cases hi:i < vs.length
 ·rw [Zi hi] at e1;rw [Zi (by rw [<-h.1]; exact hi)] at e2;exact h.2 i v p e1 e2
 ·rw [Zg (by lia)] at e1;rw [Zg (by rw [<-h.1]; lia),<-h.1] at e2;exact g.2 _ v p e1 e2
theorem Gd.one {H:Hp} {t e:Addr} {p:List Str × V} (a:H t=some (.tup [.ref e,p.2])) (b:H e=some (.tup (p.1.map V.str))):Gd H [.ref t] [p]:=by
 refine ⟨rfl,fun i v q e1 e2=>?_⟩;cases i with
 | zero=>cases e1; cases e2; exact ⟨t,e,rfl,a,b⟩
 | succ i=>simp at e1
theorem M9 {α β:Type}:∀ {a:List α} {b:List β},a.length=b.length->(a.zip b).map (·.1)=a
 | [],[],_=>rfl
 | [],_ :: _,h=>by simp at h
 | _ :: _,[],h=>by simp at h
 | x :: a,y :: b,h=>by rw [bq,YK,M9 (by simpa using h)]
theorem JT {α β:Type}:∀ {a:List α} {b:List β},a.length=b.length->(a.zip b).map (·.2)=b
 | [],[],_=>rfl
 | [],_ :: _,h=>by simp at h
 | _ :: _,[],h=>by simp at h
 | x :: a,y :: b,h=>by rw [bq,YK,JT (by simpa using h)]
def PyV (H:Hp) (y:V):Prop:=(∃ n,y=.int n)\/∃ (l:Addr) (ss:List Str),y=.ref l/\H l=some (.tup (ss.map V.str))
def KR (vs:List V) (ps:List (List Str × V)):List (V × List Str):=(vs.zip ps).map fun t=>(t.1,t.2.1)
theorem Gd.zip_mem {H:Hp} {vs:List V} {ps:List (List Str × V)} (h:Gd H vs ps) {t:V × (List Str × V)} (m:t ∈ vs.zip ps):∃ a e,t.1=.ref a/\H a=some (.tup [.ref e,t.2.2])/\H e=some (.tup (t.2.1.map V.str))/\t.2 ∈ ps:=by
 obtain ⟨i,hi,e⟩:=YQ m;rw [cP] at e;have l:=h.1;rw [ai] at hi;have h1:vs[i]? = some t.1:=by rw [Y1 (by lia),<-e]
 have h2:ps[i]? = some t.2:=by rw [Y1 (by lia),<-e]
 obtain ⟨a,b,c,d,f⟩:=h.2 i _ _ h1 h2;exact ⟨a,b,c,d,f,Y5 h2⟩
theorem Gd.sort {H:Hp} {vs:List V} {ps:List (List Str × V)} (h:Gd H vs ps) (hy:∀ p ∈ ps,PyV H p.2):(KR vs ps).map (·.1)=vs/\(∀ p ∈ KR vs ps,PxH H p.1 p.2)/\(KR vs ps).map (·.2)=ps.map (·.1)/\(KR vs ps).length=ps.length /\
  ∀ zs:List (V × List Str),zs.Perm (KR vs ps)->∃ qs,Gd H (zs.map (·.1)) qs/\qs.Perm ps/\qs.map (·.1)=zs.map (·.2):=by
 unfold KR;refine ⟨?_,?_,?_,?_,?_⟩
 ·rw [Zb];exact M9 h.1
 ·intro p hp;obtain ⟨t,ht,rfl⟩:=YA.mp hp;obtain ⟨a,e,h1,h2,h3,h4⟩:=h.zip_mem ht;exact ⟨a,e,t.2.2,h1,h2,h3,hy _ h4⟩
 ·rw [Zb];have:=congrArg (cZ (·.1)) (JT h.1);rw [Zb] at this;exact this
 ·rw [Y0,ai,h.1,Nat.min_self]
 ·intro zs pz;obtain ⟨m,pm,rfl⟩:=EL pz;refine ⟨m.map (·.2),⟨by rw [Y0,Y0,Y0],fun i v p e1 e2=>?_⟩,?_,by rw [Zb,Zb]; rfl⟩
  ·rw [Zb,Y9] at e1;rw [Y9] at e2;cases q:m[i]? with
   | none=>rw [q] at e1; cases e1
   | some t=>
    rw [q] at e1 e2;cases e1
    cases e2
    obtain ⟨a,e,h1,h2,h3,_⟩:=h.zip_mem (pm.mem_iff.mp (Y5 q));exact ⟨a,e,h1,h2,h3⟩
  ·have:=pm.map (·.2);rwa [JT h.1] at this
def Kv (p:List Str × Int):List Str × V:=(p.1,.int p.2)
theorem R3.rw {H:Hp} {vs:List V} {ps:List (List Str × Int)}:R3 H vs ps ↔ Gd H vs (ps.map Kv):=by
 unfold R3 Gd;rw [Y0];constructor
 ·rintro ⟨l,h⟩;refine ⟨l,fun i v p e1 e2=>?_⟩;rw [Y9] at e2;cases q:ps[i]? with
  | none=>rw [q] at e2; cases e2
  | some z=>rw [q] at e2; cases e2; exact h i v z e1 q
 ·rintro ⟨l,h⟩;exact ⟨l,fun i v p e1 e2=>h i v (Kv p) e1 (by rw [Y9,e2]; rfl)⟩
theorem ME {H:Hp}:∀ (vs:List V) (Pz:Nat->List Str->Prop),(∀ (i:Nat) v,vs[i]? = some v->∃ t zs,v=.ref t/\H t=some (.tup (zs.map V.str))/\Pz i zs)->∃ os,Ct H vs os/\∀ (i:Nat) zs,os[i]? = some zs->Pz i zs
 | [],_,_=>⟨[],.nil,fun i zs e=>by cases e⟩
 | v :: vs,Pz,h=>by
  obtain ⟨t,zs,rfl,ht,p⟩:=h 0 v rfl;obtain ⟨os,a,b⟩:=ME vs (fun i=>Pz (i + 1)) fun i v e=>h (i + 1) v e
  refine ⟨zs :: os,.cons ht a,fun i ys e=>?_⟩;cases i with
  | zero=>cases e; exact p
  | succ i=>exact b i ys e
theorem Cp.tups {H:Hp} {op:List Str} {kvs:List (List A6 × V)} {L:List B8} (h:Cp H op kvs L):∃ os,Ct H (kvs.map (·.2)) os/\os.length=L.length/\∀ (i:Nat) e zs,L[i]? = some e->os[i]? = some zs->BU op e.2.1 e.2.2 zs:=by
 obtain ⟨os,a,b⟩:=ME (H:=H) (kvs.map (·.2)) (fun i zs=>∀ e,L[i]? = some e->BU op e.2.1 e.2.2 zs) fun i v e=>by
  rw [Y9] at e;cases q:kvs[i]? with
  | none=>rw [q] at e; cases e
  | some p=>
   rw [q] at e;obtain ⟨x,ex,_⟩:=h.mem_get q;obtain ⟨t,zs,h1,h2,h3⟩:=h.2 i p x q ex;refine ⟨t,zs,(YM.inj e).symm.trans h1,h2,fun e' Ig=>?_⟩;rw [ex] at Ig;cases Ig
   exact h3
 refine ⟨os,a,?_,fun i e zs e1 e2=>b i zs e2 e e1⟩;rw [<-a.len,Y0,h.len]
theorem Me {ss op:List Str} {x:V} {os:List (List Str)} (sn:ss.Nodup) (on:op.Nodup) (l:os.length=(GB ss x op).length) (h:∀ (i:Nat) e zs,(GB ss x op)[i]? = some e->os[i]? = some zs->BU op e.2.1 e.2.2 zs):os.Nodup:=by
 rw [au,Zy];intro i j hi hj hij e;have nd:=DH (x:=x) sn on;have i1:(GB ss x op)[i]? = some ((GB ss x op)[i]'(by lia)):=Y1 _;have j1:(GB ss x op)[j]? = some ((GB ss x op)[j]'(by lia)):=Y1 _;have a:=h i _ _ i1 (Y1 hi);have b:=h j _ _ j1 (Y1 hj);rw [e] at a;have mi:∀ {k:Nat} (hk:k < (GB ss x op).length),Hj ss op ((GB ss x op)[k]):=fun hk=>Io (Zh.mp (Zv hk)).1
 have:=a.inj b (mi _) (mi _);rw [au,Zy] at nd;refine nd i j (by rw [Y0]; lia) (by rw [Y0]; lia) hij ?_;rw [Z9,Z9,this]
theorem UN {ss op:List Str} {x:V} {e e':B8} (sn:ss.Nodup) (on:op.Nodup) (h:e ∈ GB ss x op) (h':e' ∈ GB ss x op) (k:e.1=e'.1):e=e':=by
 have nd:=DH (x:=x) sn on;obtain ⟨i,hi,rfl⟩:=YQ h;obtain ⟨j,hj,rfl⟩:=YQ h';rw [au,Zy] at nd;rcases cO i j with q | q | q
 ·exact absurd (by rw [Z9,Z9,k]) (nd i j (by rw [Y0]; exact hi) (by rw [Y0]; exact hj) q)
 ·subst q; rfl
 ·exact absurd (by rw [Z9,Z9,k]) (nd j i (by rw [Y0]; exact hj) (by rw [Y0]; exact hi) q)
theorem JQ.uniq {ws:List AG} {Az Bh:List CB} {x:V} {op:List Str} {ps qs:List (List Str × Int)} (h:JQ ws Az Bh x op ps) (g:JQ ws Az Bh x op qs) (sn:(Az.map (·.1)).Nodup) (on:op.Nodup):ps=qs:=by
 have k:ps.map (·.1)=qs.map (·.1):=Jx (fun k:List Str=>k.map Du.s) (fun a b e=>Rp e) (h.1.trans g.1.symm) h.2.1 g.2.1;have l:ps.length=qs.length:=by have:=congrArg Z5 k; rwa [Y0,Y0] at this
 refine ZJ l fun i i1 i2=>?_
 have ki:ps[i].1=qs[i].1:=by
  have:=congrArg (fun l:List (List Str)=>l[i]?) k;rw [Y9,Y9,Y1 i1,Y1 i2] at this;exact YM.inj this
 obtain ⟨e,zs,a1,a2,a3,a4⟩:=h.2.2 _ (Zv i1);obtain ⟨e',zs',b1,b2,b3,b4⟩:=g.2.2 _ (Zv i2);have ee:e=e':=UN sn on a1 b1 (by rw [a2,b2,ki]);subst ee;rw [b3.uniq a3] at b4;exact Prod.ext ki (a4.uniq b4)
theorem BU.opn {ss op:List Str} {x:V} {e:B8} {zs:List Str} (h:BU op e.2.1 e.2.2 zs) (he:e ∈ GB ss x op) (on:op.Nodup) (os:∀ s ∈ op,s ∈ ss):Vs ss zs:=by
 obtain ⟨m,ok⟩:=Zh.mp he;have i:=Io m;refine ⟨fun z=>?_,h.nodup on i,h.sub os i⟩;have l:=h.1.length_eq;rw [z] at l;unfold Bu at ok;rw [Zn,az,bK] at ok;exact ok.1 (Z0.mp l.symm)
def MM:Sp:=fun vs H Q _=>∃ (c m A o:Addr) (n:Nat) (xs:List Str) (ws:List AG) (Az Bh:List CB) (x:V) (d:PyData) (ss:List Str),vs=[.ref c,.ref A,.ref o]/\Dt H c m n xs ws Az Bh x d/\DK H A xs ws/\H o=some (.tup (ss.map V.str))/\Vs (Az.map (·.1)) ss/\ss.length<=10 /\
 ∀ (H':Hp) (t:Int),Ar H H'->Ff ws Az Bh ss t->Q (.int t) H'
def MK:Sp:=fun vs H Q _=>∃ (c o m:Addr) (n:Nat) (xs:List Str) (ws:List AG) (Az Bh:List CB) (x:V) (d:PyData) (op:List Str),vs=[.ref c,.ref o]/\GI H c o m n xs ws Az Bh x d op /\
 ∀ (H':Hp) (L:Addr) (vs:List V) (ps:List (List Str × V)),Ar H H'->H L=none->H' L=some (.lst vs)->Gd H' vs ps->(ps.map (·.1)).Perm ((GB (Az.map (·.1)) x op).map (·.1))->(ps.map (·.1)).Pairwise (fun a b=>Bg (b.map Du.s) (a.map Du.s)=false) ->
  (∀ p ∈ ps,∃ e t zs,e ∈ GB (Az.map (·.1)) x op/\e.1=p.1/\p.2=.ref t/\H' t=some (.tup (zs.map V.str))/\BU op e.2.1 e.2.2 zs)->Q (.ref L) H'
def KJ:Sp:=fun vs H Q _=>∃ (c A o m:Addr) (n:Nat) (xs:List Str) (ws:List AG) (Az Bh:List CB) (x:V) (d:PyData) (op:List Str),vs=[.ref c,.ref A,.ref o]/\GI H c o m n xs ws Az Bh x d op/\DK H A xs ws/\∀ H',Ar H H'->Q (.bl true) H'
theorem PS.weak {X:Cx} {st:Stmt} {t t':TS} (h:PS X st t) (w:∀ D σ H,t' D σ H->t D σ H):PS X st t':=fun pins s σ H D I q=>h (pins:=pins) s σ H D I (w D σ H q)
theorem Lr {x:V} {j k:Nat} (h:C2 x k=true) (l:j<=k):C2 x j=true:=by
 unfold C2 at h ⊢;split at h
 ·have:=of_decide_eq_true h;exact decide_eq_true (by lia)
 ·rfl
theorem Gj {op:List Str}:Ba op none=op:=by
 unfold Ba;exact ak.mpr fun a _=>by simp
theorem okO {x:V} {op:List Str} {s:Str}:Bu x op (Em s)=C2 x (op.length + 1):=by
 unfold Bu Em;show (!(Ba op none ++ [s]).isEmpty && C2 x (Ba op none ++ [s]).length)=_
 rw [Gj,Y6,Zt];cases op <;> rfl
theorem okS {x:V} {op:List Str} {h:Str} (l:C2 x op.length=true):Bu x op (E2 h) = !(Ba op (some h)).isEmpty:=by
 unfold Bu E2;show (!(Ba op (some h) ++ []).isEmpty && C2 x (Ba op (some h) ++ []).length)=_
 rw [Zq,Lr (j:=(Ba op (some h)).length) l (Zc _ _),bj]
theorem okW {x:V} {op:List Str} {h s:Str} (l:C2 x op.length=true) (hm:h ∈ op):Bu x op (Fz h s)=true:=by
 unfold Bu Fz;show (!(Ba op (some h) ++ [s]).isEmpty && C2 x (Ba op (some h) ++ [s]).length)=_
 have lt:(Ba op (some h)).length < op.length:=aU.mpr ⟨h,hm,by simp⟩;rw [Y6,Zt,Lr l (by lia),bj];cases Ba op (some h) <;> rfl
def Gb (H:Hp) (op:List Str) (vs:List V) (L:List B8):Prop:=∃ ps,Gd H vs ps/\ps.map (·.1)=L.map (·.1)/\∀ p ∈ ps,∃ e t zs,e ∈ L/\e.1=p.1/\p.2=.ref t/\H t=some (.tup (zs.map V.str))/\BU op e.2.1 e.2.2 zs
theorem Gb.nil {H:Hp} {op:List Str}:Gb H op [] []:=⟨[],Gd.nil,rfl,fun p hp=>nomatch hp⟩
theorem Gb.keep {H H':Hp} {op:List Str} {vs:List V} {L:List B8} (h:Gb H op vs L) (s:∀ b xs,H b=some (.tup xs)->H' b=some (.tup xs)):Gb H' op vs L:=by
 obtain ⟨ps,a,b,c⟩:=h;exact ⟨ps,a.keep s,b,fun p hp=>let ⟨e,t,zs,h1,h2,h3,h4,h5⟩:=c p hp; ⟨e,t,zs,h1,h2,h3,s _ _ h4,h5⟩⟩
theorem Gb.app {H:Hp} {op:List Str} {vs us:List V} {L M:List B8} (h:Gb H op vs L) (g:Gb H op us M):Gb H op (vs ++ us) (L ++ M):=by
 obtain ⟨ps,a,b,c⟩:=h;obtain ⟨qs,a',b',c'⟩:=g;refine ⟨ps ++ qs,a.app a',by rw [YE,YE,b,b'],fun p hp=>?_⟩;rcases YR.mp hp with hp | hp
 ·obtain ⟨e,t,zs,h1,h2⟩:=c p hp;exact ⟨e,t,zs,Z1 _ h1,h2⟩
 ·obtain ⟨e,t,zs,h1,h2⟩:=c' p hp;exact ⟨e,t,zs,YH _ h1,h2⟩
theorem Gb.one {H:Hp} {op:List Str} {w k t:Addr} {e:B8} {zs:List Str} (a:H w=some (.tup [.ref k,.ref t])) (b:H k=some (.tup (e.1.map V.str))) (c:H t=some (.tup (zs.map V.str))) (o:BU op e.2.1 e.2.2 zs):Gb H op [.ref w] [e]:=
 ⟨[(e.1,.ref t)],Gd.one (p:=(e.1,.ref t)) a b,rfl,fun p hp=>by rw [YJ.mp hp]; exact ⟨e,t,zs,YO,rfl,rfl,c,o⟩⟩
theorem Gb.len {H:Hp} {op:List Str} {vs:List V} {L:List B8} (h:Gb H op vs L):vs.length=L.length:=by
 obtain ⟨ps,a,b,_⟩:=h;have:=congrArg Z5 b;rw [Y0,Y0] at this;rw [a.1,this]
theorem IC {K:Y3} {H:Hp} {a b:Addr} {ys:List Str} {s:Str} {Q:VK} (ha:H a=some (.tup (ys.map V.str))) (hb:H b=some (.tup [.str s])) (l:ys.length<=30) (q:∀ (t:Addr) (H':Hp) (zs:List Str),Ar H H'->H' t=some (.tup (zs.map V.str))->zs.Perm (ys ++ [s])->sortedS zs=true->Q (.ref t) H') :
  LZ K (.ref a) (.ref b) H (fun v H1=>∃ (t:Addr) (ss:List Str),[v]=[V.ref t]/\H1 t=some (.tup (ss.map V.str))/\ss.length < 64/\∀ (l:Addr) (Cd:List Str),H1 l=none->Cd.Perm ss->sortedS Cd=true ->
   ∃ (p:Addr) (zs:List V),[V.ref l]=[V.ref p]/\((AB K (upd H1 l (.lst (Cd.map V.str))) p zs/\∀ t,(upd H1 l (.lst (Cd.map V.str))) t=none->Q (.ref t) (upd (upd H1 l (.lst (Cd.map V.str))) t (.tup zs)))\/(A7 K (upd H1 l (.lst (Cd.map V.str))) p zs/\Q (.ref p) (upd H1 l (.lst (Cd.map V.str)))))):=by
 have big:1000 < sizeLine:=by decide
 refine catA (K:=K) ha hb (by rw [Y0]; show ys.length + 1<=sizeLine; lia) fun T H' s' hT=>?_
 refine ⟨T,ys ++ [s],rfl,by rw [hT,YE]; rfl,by rw [Y6,Zt]; lia,fun l zs hl pz sz=>⟨l,zs.map V.str,rfl,.inl ⟨AB.of Ab,fun t ht=>?_⟩⟩⟩;exact q t _ zs (s'.trans ((Ad hl).trans (Ad ht))) Ab pz sz
theorem G3:∀ (p:Str) (l:List Str),(p :: l).Pairwise (fun a b=>¬ b.cps.toList < a.cps.toList)->risingS p l=true
 | _,[],_=>rfl
 | p,x :: l,h=>by
  obtain ⟨h1,h2⟩:=Zs.mp h;rw [FD,Zn,ltCps_eq];exact ⟨by simpa using h1 x YO,G3 x l h2⟩
theorem KO {l:List Str} (h:l.Pairwise fun a b=>¬ b.cps.toList < a.cps.toList):sortedS l=true:=by
 cases l with
 | nil=>rfl
 | cons p l=>exact G3 p l h
theorem LS {ss op l:List Str} (h:BB ss) (o:op.Sublist ss) (s:l.Sublist op):sortedS l=true:=KO (h.sub (s.trans o)).pw
theorem OX:∀ ys:List Str,(!PyData.eqv (.tuple (ys.map PyData.str)) (.tuple [])) = !ys.isEmpty
 | []=>rfl
 | _ :: _=>rfl
theorem Od {H:Hp} {c m:Addr} {n:Nat} {xs:List Str} {ws:List AG} {Az Bh:List CB} {x:V} {d:PyData} {ss:List Str} {t:Int} (cw:Dt H c m n xs ws Az Bh x d) (o:Vs (Az.map (·.1)) ss) (l:ss.length<=10) (tt:Ff ws Az Bh ss t):0<=t/\t < 2 ^ 600:=by
 obtain ⟨ds,wd,rfl⟩:=tt;have a:=Ph cw.ok1 (by decide) o.2.2 (by lia);have sx:∀ s ∈ ss,s ∈ xs:=fun s hs=>by
  obtain ⟨r,hr,rfl⟩:=YA.mp (o.2.2 s hs);exact cw.ok1.sub r hr
 have q:=JX (B:=10 ^ 30 * 2 ^ 300) (by decide) (l:=(Bh.zip ds).map fun p=>p.1.2 * p.2) fun t ht=>by
  obtain ⟨p,hp,rfl⟩:=YA.mp ht;obtain ⟨i,hi,ei⟩:=YQ hp;rw [cP] at ei;rw [ai] at hi;have er:Bh[i]? = some p.1:=by rw [Y1 (by lia),<-ei]
  have ed:ds[i]? = some p.2:=by rw [Y1 (by lia),<-ei]
  have rm:=Y5 er;obtain ⟨⟨s,hs,hd⟩,_⟩:=wd.2 i _ _ er ed;have md:=wd.2 i _ _ er ed;have b:0<=p.2/\p.2 < 2 ^ 300:=by
   obtain ⟨k,w,k0,k1⟩:=cw.map.sums cw.n1 cw.n30 s (sx s hs) p.1.1 (cw.ok2.sub _ rm);exact ⟨hd.pos' fun u hu=>(cw.map.at'.wn u hu).2.2.1,cL (md.2 s hs k w) k1⟩
  have cb:=cw.ok2.lo _ rm;exact ⟨Int.mul_nonneg (by lia) b.1,Int.mul_le_mul (by lia) (by lia) b.1 (by decide)⟩
 have l2:=cw.l2;have zl:(Bh.zip ds).length<=30:=by rw [ai]; lia
 rw [Y0] at q;have:((Bh.zip ds).length:Int) * (10 ^ 30 * 2 ^ 300)<=30 * (10 ^ 30 * 2 ^ 300):=ZL (by lia) (by decide);have c:(30:Int) * (10 ^ 30 * 2 ^ 300) < 2 ^ 500:=by decide
 have e:(2:Int) ^ 500 + 2 ^ 500<=2 ^ 600:=by decide +kernel
 unfold Fj;refine ⟨by lia,aw ?_ e⟩;lia
def Im (p:List Str × Int):PyData:=.tuple [.tuple (p.1.map .str),.int p.2]
theorem R3.dats {H:Hp}:∀ {vs:List V} {ps:List (List Str × Int)},R3 H vs ps->Bw H vs (ps.map Im)
 | [],[],_=>.nil
 | [],_ :: _,h=>by have:=h.1; simp at this
 | _ :: _,[],h=>by have:=h.1; simp at this
 | v :: vs,p :: ps,h=>by
  obtain ⟨t,e,rfl,b,c⟩:=h.2 0 v p rfl rfl;exact .cons (.tup b (.cons (.tup c (Cs H _)) (.cons (.int _) .nil))) (R3.dats ⟨by have:=h.1; simpa using this,fun i v p e1 e2=>h.2 (i + 1) v p e1 e2⟩)
theorem Rh {ss op:List Str} {e:B8} (hs:∀ s ∈ ss,AY s=true) (os:∀ s ∈ op,s ∈ ss) (h:e ∈ BL ss op):(∀ s ∈ e.1,AY s=true)/\e.1.length<=3:=by
 have w:AY "open"=true/\AY "shut"=true/\AY "swap"=true:=by decide +kernel
 rcases JD.mp h with ⟨s,a,rfl⟩ | ⟨h,a,rfl | ⟨s,b,rfl⟩⟩
 ·refine ⟨fun y hy=>?_,by show 2<=3; decide⟩;rcases Y4.mp hy with rfl | hy
  ·exact w.1
  ·rw [YJ.mp hy]; exact hs _ (C6.mp a).1
 ·refine ⟨fun y hy=>?_,by show 2<=3; decide⟩;rcases Y4.mp hy with rfl | hy
  ·exact w.2.1
  ·rw [YJ.mp hy]; exact hs _ (os _ a)
 ·refine ⟨fun y hy=>?_,by show 3<=3; decide⟩;rcases Y4.mp hy with rfl | hy
  ·exact w.2.2
  ·rcases Y4.mp hy with rfl | hy
   ·exact hs _ (os _ a)
   ·rw [YJ.mp hy]; exact hs _ (C6.mp b).1
theorem SH {ps:List (List Str × Int)} (l:ps.length < 64) (h:∀ p ∈ ps,(∀ s ∈ p.1,AY s=true)/\p.1.length<=3/\0<=p.2/\p.2 < 2 ^ 600):C3 (.list (ps.map Im)) 3 60000:=by
 refine (C3.list (k:=2) (b:=44) fun d hd=>?_).mono (Y7 _) (by rw [Y0]; lia);obtain ⟨p,hp,rfl⟩:=YA.mp hd;obtain ⟨h1,h2,h3,h4⟩:=h p hp;refine (C3.tuple (k:=1) (b:=21) fun e he=>?_).mono (Y7 _) (Y7 _);rcases Y4.mp he with rfl | he
 ·exact (C3.tuple (OV h1)).mono (Y7 _) (by rw [Y0]; lia)
 ·rw [YJ.mp he];exact (C3.intB h3 h4).mono (by decide) (by decide)
def MI (K:Y3):Sp:=fun vs H Q _=>∃ p:Addr,vs=[.ref p]/\D8 K H p /\
 ∀ (H':Hp) (T c o m:Addr) (n:Nat) (xs:List Str) (ws:List AG) (Az Bh:List CB) (x:V) (d:PyData) (op:List Str),D8 K H' p->AV p H H'->H' T=some (.tup [.ref c,.ref o])->GI H' c o m n xs ws Az Bh x d op->Q (.ref T) H'
section
variable {bb:Bool} {h h':Heap} {a b i l:Addr} {k:Nat} {items:Array Value}
end
section
variable {prog:Program} {w:World} {A:Around} {E:Value->Shared->Prop} {s:Shared}
end
section
variable {prog:Program} {w:World} {A:Around} {E:Value->Shared->Prop} {s:Shared}
end
end L2
namespace K41
open PySem L2
def top (i:Nat):Stmt:=PySem.Challenge.pw_openhouses_k41_exchanges_told.main.body.getD i (.Pass ⟨0,0,0,0⟩)
abbrev EH:Stmt:=top 2
theorem LW:AD ["thing"] ["thing"] (Ao EH):=⟨rfl,rfl,rfl,by decide +kernel,rfl,by decide +kernel,by decide +kernel⟩
abbrev CN:Stmt:=top 3
theorem EZ:AD ["things"] ["things"] (Ao CN):=⟨rfl,rfl,rfl,by decide +kernel,rfl,by decide +kernel,by decide +kernel⟩
abbrev CM:Stmt:=top 5
theorem EY:AD ["case","thing","sites"] ["case","thing"] (Ao CM):=⟨rfl,rfl,rfl,by decide +kernel,rfl,by decide +kernel,by decide +kernel⟩
abbrev C9:Stmt:=top 6
theorem Er:AD ["case","web","sites","folk","limit"] ["case"] (Ao C9):=⟨rfl,rfl,rfl,by decide +kernel,rfl,by decide +kernel,by decide +kernel⟩
abbrev CL:Stmt:=top 8
theorem EW:AD ["web","places","ways","beside","one","other","length"] ["web"] (Ao CL):=⟨rfl,rfl,rfl,by decide +kernel,rfl,by decide +kernel,by decide +kernel⟩
abbrev Kb:Stmt:=top 10
theorem MQ:AD ["web","place","told"] ["web","place"] (Ao Kb):=⟨rfl,rfl,rfl,by decide +kernel,rfl,by decide +kernel,by decide +kernel⟩
abbrev Di:Stmt:=top 11
theorem F7:AD ["case"] ["case"] (Ao Di):=⟨rfl,rfl,rfl,by decide +kernel,rfl,by decide +kernel,by decide +kernel⟩
abbrev EG:Stmt:=top 12
theorem Hx:AD ["web","starts","beside","reached","settled","so_far","start","here","name","by_here"] ["web","starts"] (Ao EG):=⟨rfl,rfl,rfl,by decide +kernel,rfl,by decide +kernel,by decide +kernel⟩
abbrev DP:Stmt:=top 14
theorem Gz:AD ["case","chosen","web","sites","folk","limit","charges","aways","costs","houses","ways"] ["case","chosen"] (Ao DP):=⟨rfl,rfl,rfl,by decide +kernel,rfl,by decide +kernel,by decide +kernel⟩
abbrev Dm:Stmt:=top 16
theorem FC:AD ["case","opening","outcomes","costs"] ["case","opening"] (Ao Dm):=⟨rfl,rfl,rfl,by decide +kernel,rfl,by decide +kernel,by decide +kernel⟩
abbrev C8:Stmt:=top 17
theorem Ep:AD ["case","opening","others","outcomes","house","site"] ["case","opening"] (Ao C8):=⟨rfl,rfl,rfl,by decide +kernel,rfl,by decide +kernel,by decide +kernel⟩
abbrev EI:Stmt:=top 18
theorem Hy:AD ["opening","out","more","kept"] ["opening","out","more"] (Ao EI):=⟨rfl,rfl,rfl,by decide +kernel,rfl,by decide +kernel,by decide +kernel⟩
abbrev AI:Stmt:=top 20
theorem CD:AD ["_law_pen","_law_many","_law_place","_law_cell","_law_number","_law_digit"] ["_law_pen","_law_many"] (Ao AI):=⟨rfl,rfl,rfl,by decide +kernel,rfl,by decide +kernel,by decide +kernel⟩
abbrev CF:Stmt:=top 21
theorem F9:AD ["_law_pen","_law_many","_law_letters","_law_first","_law_base","_law_at","_law_more","_law_found","_law_k","_law_letter"] ["_law_pen","_law_many"] (Ao CF):=⟨rfl,rfl,rfl,by decide +kernel,rfl,by decide +kernel,by decide +kernel⟩
abbrev Cw:Stmt:=top 22
theorem EX:AD ["_law_pen","_law_way"] ["_law_pen"] (Ao Cw):=⟨rfl,rfl,rfl,by decide +kernel,rfl,by decide +kernel,by decide +kernel⟩
abbrev Cq:Stmt:=top 23
theorem Fg:AD ["_law_pen","_law_names_here","_law_shape","_law_ways","_law_k","_law_other","_law_turn","_law_pair"] ["_law_pen","_law_names_here","_law_shape"] (Ao Cq):=⟨rfl,rfl,rfl,by decide +kernel,rfl,by decide +kernel,by decide +kernel⟩
abbrev CW:Stmt:=top 24
theorem Gw:AD ["_law_pen","_law_names_here","_law_many","_law_left","_law_found","_law_k"] ["_law_pen","_law_names_here","_law_many"] (Ao CW):=⟨rfl,rfl,rfl,by decide +kernel,rfl,by decide +kernel,by decide +kernel⟩
abbrev DO:Stmt:=top 25
theorem Gy:AD ["_law_pen","_law_shape","_law_names_here","_law_plan","_law_way","_law_sites","_law_place","_law_folk","_law_limit"] ["_law_pen","_law_shape"] (Ao DO):=⟨rfl,rfl,rfl,by decide +kernel,rfl,by decide +kernel,by decide +kernel⟩
abbrev CA:Stmt:=top 26
theorem Es:AD ["_law_plan","_law_found","_law_one","_law_other","_law_length_here","_law_amid","_law_here","_law_there","_law_old"] ["_law_plan"] (Ao CA):=⟨rfl,rfl,rfl,by decide +kernel,rfl,by decide +kernel,by decide +kernel⟩
abbrev Dl:Stmt:=top 27
theorem FA:AD ["_law_case_here","_law_lengths_here","_law_opening","_law_total","_law_place","_law_many"] ["_law_case_here","_law_lengths_here","_law_opening"] (Ao Dl):=⟨rfl,rfl,rfl,by decide +kernel,rfl,by decide +kernel,by decide +kernel⟩
abbrev Cv:Stmt:=top 28
theorem Ei:AD ["_law_case_here","_law_found","_law_place","_law_amount","_law_most"] ["_law_case_here"] (Ao Cv):=⟨rfl,rfl,rfl,by decide +kernel,rfl,by decide +kernel,by decide +kernel⟩
abbrev Ck:Stmt:=top 29
theorem DA:AD ["_law_case_here","_law_opening","_law_closed","_law_found","_law_house","_law_left"] ["_law_case_here","_law_opening"] (Ao Ck):=⟨rfl,rfl,rfl,by decide +kernel,rfl,by decide +kernel,by decide +kernel⟩
abbrev DN:Stmt:=top 30
theorem Gx:AD ["_law_pen","_law_names_here","_law_plan","_law_some_here","_law_folk","_law_sites"] ["_law_pen"] (Ao DN):=⟨rfl,rfl,rfl,by decide +kernel,rfl,by decide +kernel,by decide +kernel⟩
abbrev Dk:Stmt:=top 31
theorem F8:AD ["_law_case_here","_law_lengths_here","_law_opening","_law_due","_law_turn","_law_told"] ["_law_case_here","_law_lengths_here","_law_opening"] (Ao Dk):=⟨rfl,rfl,rfl,by decide +kernel,rfl,by decide +kernel,by decide +kernel⟩
abbrev Qt:Stmt:=top 32
theorem Qs:AD ["_law_script","_law_pen","_law_turn","_law_case_here","_law_lengths_here","_law_every","_law_longest","_law_some_here","_law_opening"] ["_law_script"] (Ao Qt):=⟨rfl,rfl,rfl,by decide +kernel,rfl,by decide +kernel,by decide +kernel⟩
def ML (K:Y3):Sp:=fun vs H Q _=>∃ (a:Addr) (ns:List Int),vs=[.ref a]/\M3 K H a (ns.map V.int)/\ns.length<=63/\∀ H',Q (.bl true) H'
section
variable {P:Program} {w:World} {K:Y3} {mg:Str->Option Value} {base:Heap}
theorem Uy (h_len:mg "len"=none) (h_max:mg "max"=none) (h_range:mg "range"=none) {fT:Addr} {fdT:FuncData} (XT:Fn K mg "_law_take" AI ["_law_pen","_law_many"] fT fdT) (GT:AJ P w K mg base Cb 1 fT fdT ["_law_pen","_law_many"] (Dg K)) {fCA:Addr} {fdCA:FuncData} (XCA:Fn K mg "_law_case" DO ["_law_pen","_law_shape"] fCA fdCA) (GCA:AJ P w K mg base Cb 4 fCA fdCA ["_law_pen","_law_shape"] (MN K)) {fLE:Addr} {fdLE:FuncData} (XLE:Fn K mg "_law_lengths" CA ["_law_plan"] fLE fdLE) (GLE:AJ P w K mg base Cb 1 fLE fdLE ["_law_plan"] MJ) {fOP:Addr} {fdOP:FuncData} (XOP:Fn K mg "_law_openings" Cv ["_law_case_here"] fOP fdOP) (GOP:AJ P w K mg base Cb 1 fOP fdOP ["_law_case_here"] Qh) {fRI:Addr} {fdRI:FuncData} (XRI:Fn K mg "_law_right" Dk ["_law_case_here","_law_lengths_here","_law_opening"] fRI fdRI) (GRI:AJ P w K mg base Cb 7 fRI fdRI ["_law_case_here","_law_lengths_here","_law_opening"] KJ) {fLO:Addr} {fdLO:FuncData} (XLO:Fn K mg "_law_long" DN ["_law_pen"] fLO fdLO) (GLO:AJ P w K mg base Cb 4 fLO fdLO ["_law_pen"] (MI K)) {f:Addr} {fd:FuncData} (F:EO K "law" "law" Qt f fd):AJ P w K mg base Cb 8 f fd ["_law_script"] (ML K):=by
 refine F.ok Qs (fun vs H Q E h=>?_) (fun cdv A outer s H vs Q E hr h=>?_)
 ·obtain ⟨a,ns,rfl,_⟩:=h;rfl
 ·obtain ⟨a,ns,rfl,hS,hlen,k⟩:=h;have nd:=Qs.nd;have big:100000 < sizeLine:=by decide
  refine ⟨_,(Ae (Aq (i:=1) nd rfl (Or.inr rfl) (B9 (Aa (pv 0) (Aa Ag (Aa Ag Ac)))))
  (Ae (Bs PassesOwn.never rfl (C4 (by rfl) h_range (Aa Ag Ac)) (Ai (i:=2) nd rfl (Or.inl rfl))
  (Ae (Aq (i:=3) nd rfl (Or.inl rfl) (Aj GCA (hr.mono (by decide)) (by rfl) XCA.mg XCA.F.kp XCA.b .nil Au (Aa (pv 1) (Aa (Aj GT (hr.mono (by decide)) (by rfl) XT.mg XT.F.kp XT.b .nil Au (Aa (pv 1) (Aa Ag Ac))) Ac))))
  (Ae (Aq (i:=4) nd rfl (Or.inl rfl) (Aj GLE (hr.mono (by decide)) (by rfl) XLE.mg XLE.F.kp XLE.b .nil Au (Aa (AA (AS K rfl) (pv 3) Ag (fun _ _=>rfl)) Ac)))
  (Ae (Aq (i:=5) nd rfl (Or.inr rfl) (Aj GOP (hr.mono (by decide)) (by rfl) XOP.mg XOP.F.kp XOP.b .nil Au (Aa (pv 3) Ac)))
  (Ae (Aq (i:=6) nd rfl (Or.inr rfl) (Ak (Jd rfl) (by rfl) h_max PyProof.Rows.boot_max (Aa (Bv (N:=["_law_one"]) (σ0:=fun _=>[none]) rfl (A2.plain (by decide +kernel) (by decide +kernel) rfl (by decide +kernel)) (fun σ _=>AH.none _ _ _ ["_law_one"] σ) (Bt K rfl (pv 5))
   (fun s2 H C fp=>⟨(Ai (i:=0) (show (["_law_one"]:List Str).Nodup by decide +kernel) rfl (Or.inl rfl)),AQ,(Ak (Ax K rfl) (by rfl) h_len PySem.boot_len (Aa (pv 0) Ac))⟩)) Ac)))
  (Ae (Aq (i:=7) nd rfl (Or.inl rfl) (B9 (Aa (AA (AL K rfl) (Bv (N:=["_law_one","_law_longest"]) (σ0:=fun σ=>[none,some 6].map fun j=>j.bind fun j=>(σ[j]?).join) rfl (A2.caught (by rfl) (by decide +kernel) rfl (by decide +kernel) (by intro y hy; simp only [Y4,YB,or_false] at hy; rcases hy with rfl <;> rfl)
   (by intro y hy e; simp only [Y4,YB,or_false] at hy; rcases hy with rfl | rfl | rfl | rfl <;> first | exact ⟨_,rfl⟩ | cases e)) (fun σ _=>AH.of [none,some 6] rfl (by
   intro i j x h1 h2;match i,h1,h2 with
   | 0,_,h2=>cases h2
   | 1,h1,h2=>cases h1; cases h2; exact ⟨rfl,.inl rfl,.inl rfl⟩
   | n + 2,h1,_=>cases h1)) (Bt K rfl (pv 5))
   (fun s2 H C fp=>⟨(Ai (i:=0) (show (["_law_one","_law_longest"]:List Str).Nodup by decide +kernel) rfl (Or.inl rfl)),(Dp (By Nm (Ak (Ax K rfl) (by rfl) h_len PySem.boot_len (Aa (pv 0) Ac)) (pv 1) (BF _))),(pv 0)⟩)) Ag (fun _ _=>rfl)) Ac)))
  (Ae (Aq (i:=7) nd rfl (Or.inl rfl) (Aw Mf (pv 7) (Bv (N:=["_law_k","_law_pen","_law_every"]) (σ0:=fun σ=>[none,some 1,some 5].map fun j=>j.bind fun j=>(σ[j]?).join) rfl (A2.caught (by rfl) (by decide +kernel) rfl (by decide +kernel) (by intro y hy; simp only [Y4,YB,or_false] at hy; rcases hy with rfl | rfl <;> rfl)
   (by intro y hy e; simp only [Y4,YB,or_false] at hy; rcases hy with rfl | rfl | rfl | rfl | rfl | rfl <;> first | exact ⟨_,rfl⟩ | cases e)) (fun σ _=>AH.of [none,some 1,some 5] rfl (by
   intro i j x h1 h2;match i,h1,h2 with
   | 0,_,h2=>cases h2
   | 1,h1,h2=>cases h1; cases h2; exact ⟨rfl,.inl rfl,.inl rfl⟩
   | 2,h1,h2=>cases h1; cases h2; exact ⟨rfl,.inl rfl,.inl rfl⟩
   | n + 3,h1,_=>cases h1)) (C4 (by rfl) h_range (Aa Ag Ac))
   (fun s2 H C fp=>⟨(Ai (i:=0) (show (["_law_k","_law_pen","_law_every"]:List Str).Nodup by decide +kernel) rfl (Or.inl rfl)),AQ,(AA (AL K rfl) (pv 2) (Aj GT (hr.mono (by decide)) (by rfl) XT.mg XT.F.kp XT.b .nil Au (Aa (pv 1) (Aa (Ak (Ax K rfl) (by rfl) h_len PySem.boot_len (Aa (pv 2) Ac)) Ac))) (fun _ _=>rfl))⟩))))
  (Al (Bs PassesOwn.never rfl (Bt K rfl (pv 7)) (Ai (i:=8) nd rfl (Or.inl rfl))
  (Al (Dq (HB (Kf (Aj GRI (hr.mono (by decide)) (by rfl) XRI.mg XRI.F.kp XRI.b .nil Au (Aa (pv 3) (Aa (pv 4) (Aa (pv 8) Ac))))))
  (Al (AK Ld))
  BK)))))))))))
  (Ae (Eu (Aj GLO (hr.mono (by decide)) (by rfl) XLO.mg XLO.F.kp XLO.b .nil Au (Aa (pv 1) Ac)) (B7 K rfl rfl (As (Ai (i:=3) nd rfl (Or.inl rfl)) (As (Ai (i:=8) nd rfl (Or.inl rfl)) B6))))
  (Al (AK (Aj GRI (hr.mono (by decide)) (by rfl) XRI.mg XRI.F.kp XRI.b .nil Au (Aa (pv 3) (Aa (Aj GLE (hr.mono (by decide)) (by rfl) XLE.mg XLE.F.kp XLE.b .nil Au (Aa (AA (AS K rfl) (pv 3) Ag (fun _ _=>rfl)) Ac)) (Aa (pv 8) Ac))))))))),?_⟩
  refine ⟨_,rfl,(by show 3<=sizeLine; lia),fun p hp=>?_⟩;have P0:D8 K (upd H p (.lst [.ref a,.int 0,.int 0])) p:=⟨a,ns,0,0,Ab,hS.same (Ad hp),hlen,by decide,by decide⟩
  generalize upd H p (.lst [.ref a,.int 0,.int 0])=H0 at P0;refine ⟨3,rfl,by decide,by decide,CV (n:=3) (fun _ σ H'=>∃ v2 v3 v4 v5 v6 v7 v8,σ=[some (.ref a),some (.ref p),v2,v3,v4,v5,v6,v7,v8]/\D8 K H' p) ⟨_,_,_,_,_,_,_,rfl,P0⟩ ?_ ?_⟩
  ·rintro j σ H1 hj ⟨v2,v3,v4,v5,v6,v7,v8,rfl,P1⟩;refine ⟨_,rfl,_,rfl,p,4,rfl,P1,by decide,by decide,fun sh H2 P2 k2 Wr sh1=>?_⟩;refine ⟨p,sh,rfl,P2,Wr,sh1,fun H3 c m n xs ws Az Bh x d P3 k3 cs=>?_⟩;obtain ⟨t1,t2,ER,LM,hc,Fq,GY,FN,hd2⟩:=id cs.cw.ex;have l6:=cs.l6;have V5:=cs.cw.ok1.one;have n1:=cs.cw.n1;have n9:=cs.n9;have sn:=cs.cw.ok1.nd;refine ⟨_,rfl,c,_,_,_,rfl,rfl,A7.of hc,rfl,m,n,xs,ws,rfl,cs.cw.map,n1,by lia,fun H4 A0 s4 fA kn=>?_⟩;refine ⟨_,rfl,c,Az.map (·.1),x,d,rfl,(cs.keepT fun b ys z=>s4 _ _ z).cw.sites,by rw [Y0]; exact l6,fun H5 EV us os s5 fE hE tU op ol=>?_⟩;have ul:=tU.len;have one:os ≠ []:=op.ne (fun z=>by have:=congrArg Z5 z; rw [Y0] at this; simp at this; rw [this] at V5; simp at V5) cs.cw.lim;have s35:=s4.trans s5;have P5:=P3.same s35;refine ⟨_,rfl,EV,rfl,⟨_,AB.of hE⟩,?_⟩;refine Be Bp (xs:=us) (fun D i Av H' acc=>∃ v0:Option V,Av=[v0]/\Ar H5 H'/\H' D=some (.lst acc)/\acc=((os.take i).map fun f=>(f.length:Int)).map V.int/\acc.length=i)
    (by lia) (fun D hD=>⟨_,rfl,Ad hD,Ab,rfl,rfl⟩) (fun D i Av H' acc hD ⟨v0,_,sa,AF,_,al⟩=>⟨AB.of (sa _ _ hE),AF,al⟩) ?_ ?_
   ·rintro D i Av H' acc x' B hD ex ⟨v0,rfl,sa,AF,ea,al⟩ hB;obtain ⟨t,f',rfl,ef,ht⟩:=tU.get ex;refine ⟨_,rfl,t,_,rfl,.inr (A7.of (sa _ _ ht)),?_⟩;refine hB _ _ _ AF ⟨_,rfl,Bd sa hD,Ab,?_,by rw [Y6,al]; rfl⟩;rw [ea,CC (fun f:List Str=>(f.length:Int)) ef,YE,Y0];rfl
   rintro D Av H6 acc hD ⟨v0,rfl,s6,AF,ea,_⟩;rw [ul,YL] at ea;refine ⟨D,os.map (fun f=>(f.length:Int)),rfl,AB.of (by rw [AF,ea]),fun z=>one (bc.mp z),fun mx hmx _=>?_⟩;obtain ⟨f0,hf0,ef0⟩:=YA.mp hmx;have hE6:=s6 _ _ hE;have tU6:=tU.keep fun b ys z=>s6 _ _ z
   refine ⟨_,rfl,EV,rfl,⟨_,AB.of hE6⟩,?_⟩;refine BR Bp (xs:=us) (fun D i Av H' acc=>∃ v0:Option V,Av=[v0,some (.int mx)]/\Ar H6 H'/\H' D=some (.lst acc)/\Ct H' acc ((os.take i).filter fun f=>decide ((f.length:Int)=mx))/\(∀ v ∈ acc,v ∈ us)/\acc.length<=i)
    (by lia) (fun D hD=>⟨_,rfl,Ad hD,Ab,.nil,(fun v hv=>nomatch hv),Y7 _⟩) (fun D i Av H' acc hD ⟨v0,_,sa,AF,_,_,al⟩=>⟨AB.of (sa _ _ hE6),AF,al⟩) ?_ ?_
   ·rintro D i Av H' acc x' B N hD ex ⟨v0,rfl,sa,AF,tp,sub,al⟩ hB hN;obtain ⟨t,f',rfl,ef,ht⟩:=tU6.get ex;have tk:=CT (fun f:List Str=>decide ((f.length:Int)=mx)) ef;refine ⟨_,rfl,t,_,rfl,.inr (A7.of (sa _ _ ht)),_,rfl,rfl,_,rfl,?_⟩;rw [Y0,show decide (V.int (f'.length:Int)=V.int mx)=decide ((f'.length:Int)=mx) by simp];refine BI (fun z=>?_) (fun z=>?_)
    ·rw [if_pos z] at tk;refine ⟨_,rfl,hB _ _ _ AF ⟨_,rfl,Bd sa hD,Ab,?_,?_,by rw [Y6]; simp; lia⟩⟩
     ·rw [tk];refine (tp.app (.cons (sa _ _ ht) .nil)).keep fun b ys z=>?_
      rw [Af (fun e=>by rw [e,AF] at z; cases z)];exact z
     ·intro v hv;rcases YR.mp hv with hv | hv
      ·exact sub v hv
      ·rw [YJ.mp hv];exact Y5 ex
    ·rw [if_neg z,Zq] at tk;exact hN _ _ ⟨_,rfl,sa,AF,by rw [tk]; exact tp,sub,by lia⟩
   rintro D1 Av H7 K0 SD ⟨v0',rfl,s7,XX,tp1,WT,_⟩;rw [ul,YL] at tp1;obtain ⟨w0,Co,rfl⟩:∃ w0 Co,K0=w0 :: Co:=by
    cases K0 with
    | cons w r=>exact ⟨w,r,rfl⟩
    | nil=>
     have l:=tp1.len;have:f0 ∈ os.filter fun f=>decide ((f.length:Int)=mx):=Zh.mpr ⟨hf0,decide_eq_true ef0⟩
     have:=bP this;rw [<-l] at this;simp at this
   refine ⟨D1,_,_,w0,rfl,rfl,AB.of XX,CP (j:=0) rfl,(by show 1<=sizeLine; lia),fun L1 XQ=>?_⟩;have s8:=s7.trans (Ad (o:=.lst [w0]) XQ);have S8:(upd H7 L1 (.lst [w0])) L1=some (.lst [w0]):=Ab;generalize upd H7 L1 (.lst [w0])=H8 at s8 S8 ⊢;have WW:=s6.trans s8;have P8:=P5.same WW;have hE8:=WW _ _ hE;have nE:EV ≠ p:=fun e=>by
    obtain ⟨_,_,_,_,z,_⟩:=(P3.same s4)
    rw [e,z] at fE;cases fE
   refine ⟨_,rfl,3,rfl,by decide,by decide,?_⟩;refine KS (n:=3) (fun D i Av H' acc=>∃ v0:Option V,Av=[v0,some (.ref p),some (.ref EV)]/\D8 K H' p/\AV p H8 H'/\H' D=some (.lst acc)/\(∀ v ∈ acc,v ∈ us)/\acc.length=i)
    (by lia) (fun D hD=>⟨_,rfl,P8.same (Ad hD),AV.of_same (Ad hD),Ab,(fun v hv=>nomatch hv),rfl⟩) (fun D i Av H' acc hD ⟨v0,_,_,_,AF,_,al⟩=>⟨AF,al⟩) ?_ ?_
   ·rintro D i Av H' acc B hD hi ⟨v0,rfl,Pa,ka,AF,sub,al⟩ hB;have hEa:=ka _ _ nE hE8;have ulp:0 < us.length:=by
     rw [ul];exact ZF.mpr one
    refine ⟨_,rfl,_,rfl,_,rfl,EV,_,rfl,.inl (AB.of hEa),p,_,rfl,Pa,by lia,by lia,fun e1 Hb Pb kb Wh WD=>?_⟩;obtain ⟨q,rfl⟩:∃ q:Nat,e1=q:=⟨e1.toNat,by lia⟩
    have hq:q < us.length:=by lia
    have nDp:D ≠ p:=fun e=>by
     obtain ⟨_,_,_,_,z,_⟩:=P8;rw [e,z] at hD;cases hD
    have hDb:=kb _ _ nDp AF;refine ⟨EV,_,_,us[q],rfl,rfl,AB.of (kb _ _ nE hEa),CP (Y1 hq),?_⟩;refine hB _ _ _ hDb ⟨_,rfl,Pb.other hDb nDp,fun b o hb z=>by rw [Af (Ah z hD)]; exact kb _ _ hb (ka _ _ hb z),Ab,fun v hv=>?_,by rw [Y6,al]; rfl⟩;rcases YR.mp hv with hv | hv
    ·exact sub v hv
    ·rw [YJ.mp hv];exact Zv hq
   rintro D2 Av H9 FX Ij ⟨v0'',rfl,P9,k9,Ms,WS,al2⟩;have nL:L1 ≠ p:=fun e=>by
    obtain ⟨_,_,_,_,z,_⟩:=P8;rw [e,z] at S8;cases S8
   refine ⟨L1,D2,[w0],FX,rfl,rfl,k9 _ _ nL S8,Ms,by show 1 + FX.length<=sizeLine; lia,fun Wl XO=>?_⟩;have MR:=Ad (o:=.lst ([w0] ++ FX)) XO;have hLL:(upd H9 Wl (.lst ([w0] ++ FX))) Wl=some (.lst ([w0] ++ FX)):=Ab;generalize upd H9 Wl (.lst ([w0] ++ FX))=LF at MR hLL ⊢;have Ta:=P9.same MR;have U8:AV p H5 LF:=(AV.of_same WW).trans (k9.trans (AV.of_same MR));have Xv:AV p H3 LF:=(AV.of_same s35).trans U8;have Yu:=cs.keepT (D9 P3 Xv);have Xt:=(kn.same s5).keep5 P5 U8;have WQ:=tU.keep (D9 P5 U8);have suball:∀ v ∈ [w0] ++ FX,v ∈ us:=fun v hv=>by
    rcases YR.mp hv with hv | hv
    ·rw [YJ.mp hv];exact WT w0 YO
    ·exact WS v hv
   refine ⟨_,rfl,Wl,rfl,⟨_,AB.of hLL⟩,?_⟩;refine FO (xs:=[w0] ++ FX) (fun i σ H'=>∃ v8:Option V,σ=[some (.ref a),some (.ref p),some (.int (0 + (j:Int))),some (.ref c),some (.ref A0),some (.ref EV),some (.int mx),some (.ref Wl),v8]/\Ar LF H')
    ⟨_,rfl,Ar.refl _⟩ (fun i σ H' _ ⟨_,_,sa⟩=>AB.of (sa _ _ hLL)) ?_ ?_
   ·rintro i v σ H' hv ⟨v8,rfl,sa⟩;obtain ⟨t,f',rfl,hf',ht⟩:=WQ.mem (suball v (Y5 hv));have ri:BB (Az.map (·.1)):=DC (BX cs.so1) sn;refine ⟨_,rfl,_,rfl,_,rfl,c,A0,t,m,n,xs,ws,Az,Bh,x,d,f',rfl,⟨(Yu.keepT fun b ys z=>sa _ _ z).cw,ri,sa _ _ ht,(op.2.2 f').mp hf'⟩,Xt.same sa,fun Pm Wu=>⟨_,rfl,?_⟩⟩;refine GV ?_;exact ⟨_,rfl,sa.trans Wu⟩
   ·rintro σ H' ⟨v8,rfl,sa⟩;exact ⟨_,_,_,_,_,_,_,rfl,Ta.same sa⟩
  ·rintro σ H1 ⟨v2,v3,v4,v5,v6,v7,v8,rfl,P1⟩;refine ⟨_,rfl,p,rfl,P1,fun H2 T c o m n xs ws Az Bh x d op P2 k2 hT cx=>?_⟩;refine ⟨T,_,rfl,A7.of hT,rfl,_,_,rfl,_,_,rfl,rfl,?_⟩;obtain ⟨t1,t2,ER,LM,hc,Fq,GY,FN,hd2⟩:=id cx.cw.ex;refine ⟨_,rfl,_,rfl,c,_,_,_,rfl,rfl,A7.of hc,rfl,m,n,xs,ws,rfl,cx.cw.map,cx.cw.n1,cx.cw.n30,fun H3 A0 s3 fA kn=>?_⟩;exact ⟨_,rfl,c,A0,o,m,n,xs,ws,Az,Bh,x,d,op,rfl,cx.keepT (fun b ys z=>s3 _ _ z),kn,fun H4 s4=>k H4⟩
end
section
variable {P:Program} {w:World} {K:Y3} {mg:Str->Option Value} {base:Heap}
theorem Lf (h_tuple:mg "tuple"=none) {fLN:Addr} {fdLN:FuncData} (XLN:Fn K mg "_law_names" CF ["_law_pen","_law_many"] fLN fdLN) (GLN:AJ P w K mg base Cb 2 fLN fdLN ["_law_pen","_law_many"] (Hv K)) {fT:Addr} {fdT:FuncData} (XT:Fn K mg "_law_take" AI ["_law_pen","_law_many"] fT fdT) (GT:AJ P w K mg base Cb 1 fT fdT ["_law_pen","_law_many"] (Dg K)) {fLM:Addr} {fdLM:FuncData} (XLM:Fn K mg "_law_map" Cq ["_law_pen","_law_names_here","_law_shape"] fLM fdLM) (GLM:AJ P w K mg base Cb 3 fLM fdLM ["_law_pen","_law_names_here","_law_shape"] (LQ K)) {fS:Addr} {fdS:FuncData} (XS:Fn K mg "_law_some" CW ["_law_pen","_law_names_here","_law_many"] fS fdS) (GS:AJ P w K mg base Cb 2 fS fdS ["_law_pen","_law_names_here","_law_many"] (JY K)) {f:Addr} {fd:FuncData} (F:EO K "_law_long" "_law_long" DN f fd):AJ P w K mg base Cb 4 f fd ["_law_pen"] (MI K):=by
 refine F.ok Gx (fun vs H Q E h=>?_) (fun cdv A outer s H vs Q E hr h=>?_)
 ·obtain ⟨p,rfl,_⟩:=h;rfl
 ·obtain ⟨p,rfl,hP,k⟩:=h;have nd:=Gx.nd;have big:100000 < sizeLine:=by decide
  refine ⟨_,(Ae (Aq (i:=1) nd rfl (Or.inl rfl) (Aj GLN (hr.mono (by decide)) (by rfl) XLN.mg XLN.F.kp XLN.b .nil Au (Aa (pv 0) (Aa (Aw Bi Ag (Aj GT (hr.mono (by decide)) (by rfl) XT.mg XT.F.kp XT.b .nil Au (Aa (pv 0) (Aa Ag Ac)))) Ac))))
  (Ae (Aq (i:=2) nd rfl (Or.inl rfl) (Aj GLM (hr.mono (by decide)) (by rfl) XLM.mg XLM.F.kp XLM.b .nil Au (Aa (pv 0) (Aa (pv 1) (Aa Ag Ac)))))
  (Ae (Aq (i:=3) nd rfl (Or.inl rfl) (Aj GS (hr.mono (by decide)) (by rfl) XS.mg XS.F.kp XS.b .nil Au (Aa (pv 0) (Aa (pv 1) (Aa Ag Ac)))))
  (Ae (DS (ix:=4) (N:=["_law_place","_law_pen"]) (σ0:=fun σ=>[none,some 0].map fun j=>j.bind fun j=>(σ[j]?).join) nd rfl (Or.inl rfl) rfl (A2.caught (by rfl) (by decide +kernel) rfl (by decide +kernel) (by intro y hy; simp only [Y4,YB,or_false] at hy; rcases hy with rfl <;> rfl)
   (by intro y hy e; simp only [Y4,YB,or_false] at hy; rcases hy with rfl | rfl | rfl | rfl <;> first | exact ⟨_,rfl⟩ | cases e)) (fun σ _=>AH.of [none,some 0] rfl (by
   intro i j x h1 h2;match i,h1,h2 with
   | 0,_,h2=>cases h2
   | 1,h1,h2=>cases h1; cases h2; exact ⟨rfl,.inl rfl,.inl rfl⟩
   | n + 2,h1,_=>cases h1)) (Bt K rfl (Aj GS (hr.mono (by decide)) (by rfl) XS.mg XS.F.kp XS.b .nil Au (Aa (pv 0) (Aa (pv 1) (Aa Ag Ac)))))
   (fun s2 H C fp=>⟨(Ai (i:=0) (show (["_law_place","_law_pen"]:List Str).Nodup by decide +kernel) rfl (Or.inl rfl)),AQ,(A9 (Aa (pv 0) (Aa (Aw Bi Ag (Aj GT (hr.mono (by decide)) (by rfl) XT.mg XT.F.kp XT.b .nil Au (Aa (pv 1) (Aa Ag Ac)))) Ac)))⟩))
  (Ae (DS (ix:=5) (N:=["_law_place","_law_pen"]) (σ0:=fun σ=>[none,some 0].map fun j=>j.bind fun j=>(σ[j]?).join) nd rfl (Or.inl rfl) rfl (A2.caught (by rfl) (by decide +kernel) rfl (by decide +kernel) (by intro y hy; simp only [Y4,YB,or_false] at hy; rcases hy with rfl <;> rfl)
   (by intro y hy e; simp only [Y4,YB,or_false] at hy; rcases hy with rfl | rfl | rfl | rfl <;> first | exact ⟨_,rfl⟩ | cases e)) (fun σ _=>AH.of [none,some 0] rfl (by
   intro i j x h1 h2;match i,h1,h2 with
   | 0,_,h2=>cases h2
   | 1,h1,h2=>cases h1; cases h2; exact ⟨rfl,.inl rfl,.inl rfl⟩
   | n + 2,h1,_=>cases h1)) (Bt K rfl (pv 3))
   (fun s2 H C fp=>⟨(Ai (i:=0) (show (["_law_place","_law_pen"]:List Str).Nodup by decide +kernel) rfl (Or.inl rfl)),AQ,(A9 (Aa (pv 0) (Aa (Aj GT (hr.mono (by decide)) (by rfl) XT.mg XT.F.kp XT.b .nil Au (Aa (pv 1) (Aa Ag Ac))) Ac)))⟩))
  (Al (AK (A9 (Aa (A9 (Aa (pv 2) (Aa (A1 (A8 K rfl) (by rfl) h_tuple PyProof.Rows.boot_tuple (Aa (pv 5) Ac)) (Aa (A1 (A8 K rfl) (by rfl) h_tuple PyProof.Rows.boot_tuple (Aa (pv 4) Ac)) (Aa (AA (AL K rfl) (B9 (Aa Gf (Aa Ag (Aa Ag Ac)))) (Aj GT (hr.mono (by decide)) (by rfl) XT.mg XT.F.kp XT.b .nil Au (Aa (pv 0) (Aa Ag Ac))) (fun _ _=>rfl)) Ac))))) (Aa (A1 (A8 K rfl) (by rfl) h_tuple PyProof.Rows.boot_tuple (Aa (Aj GS (hr.mono (by decide)) (by rfl) XS.mg XS.F.kp XS.b .nil Au (Aa (pv 0) (Aa (pv 3) (Aa Ag Ac)))) Ac)) Ac)))))))))),?_⟩
  have t30:(100:Int) < 10 ^ 30:=by decide
  refine ⟨_,rfl,_,rfl,p,5,rfl,hP,by decide,by decide,fun d1 H1 P1 k1 Yt Ys=>⟨_,_,rfl,rfl,?_⟩⟩;obtain ⟨n1,rfl⟩:∃ n:Nat,d1=n:=⟨d1.toNat,by lia⟩
  refine ⟨p,20 + n1,rfl,P1,by lia,fun H2 D xs P2 k2 fD hD xl xnd xnm=>?_⟩;have nD:D ≠ p:=P1.ne fD;refine ⟨_,rfl,_,rfl,p,D,xs,0,rfl,P2,hD,nD,xnd,xnm,by lia,by lia,by decide,by decide,fun H3 m ps ws P3 k3 pp mw=>?_⟩;have Fy:=k3 _ _ nD hD;refine ⟨_,rfl,_,rfl,p,D,xs,10,rfl,P3,Fy,nD,by lia,by lia,fun H4 D2 ys zs P4 k4 Vp Ij pm yl so=>?_⟩;have OR:=k4 _ _ nD Fy;have Sq:D2 ≠ p:=P3.ne Vp;refine ⟨_,rfl,_,rfl,p,D,xs,8,rfl,P4,OR,nD,by lia,by lia,fun H5 D3 fs gs P5 k5 fD3 hF pmf fl sof=>⟨D3,rfl,⟨_,AB.of hF⟩,?_⟩⟩;have nD3:D3 ≠ p:=P4.ne fD3;have Wc:=k5 _ _ Sq Ij;have VA:=mw.keepT (D9 P3 (k4.trans k5));have q5:AV p H H5:=((k1.trans k2).trans k3).trans (k4.trans k5);refine Be Bp (xs:=fs.map V.str) (fun R i σ H' acc=>∃ (v0:Option V) (rs:List CB),σ=[v0,some (.ref p)]/\R5 K H5 H' p R rs acc/\rs.map (·.1)=fs.take i/\acc.length=i/\(∀ r ∈ rs,1<=r.2/\r.2 < 10 ^ 30)/\D3 ≠ R)
   (by rw [Y0]; lia) (fun R hR=>⟨_,[],rfl,⟨P5.same (Ad hR),(fun b o _ _ z=>Ad hR _ _ z),Ab,.nil,P5.ne hR⟩,rfl,rfl,(fun r hr=>nomatch hr),fun e=>by rw [<-e,hF] at hR; cases hR⟩)
   (fun R i σ H' acc hR ⟨v0,rs,_,r5,_,al,_,ne⟩=>⟨AB.of (r5.kp _ _ nD3 ne hF),r5.hR,al⟩) ?_ ?_
  ·rintro R i σ H' acc x' B hR ex ⟨v0,rs,rfl,r5,rt,al,rl,ne⟩ hB;obtain ⟨y,ey,rfl⟩:=BP ex;refine ⟨_,rfl,_,rfl,p,4,rfl,r5.pn,by decide,by decide,fun e1 Ha Pa ka Wh WD=>⟨_,_,rfl,rfl,(by show 2<=sizeLine; lia),fun T hT=>?_⟩⟩;have re:=(r5.step Pa ka).add hT (.tup [.str y,.int (1 + e1)]);refine hB _ _ _ re.hR ⟨_,rs ++ [(y,1 + e1)],rfl,re.app Ab,by rw [YE,rt,YS,ey]; rfl,by rw [Y6,al]; rfl,fun r hr=>?_,ne⟩;rcases YR.mp hr with hr | hr
   ·exact rl r hr
   ·rw [YJ.mp hr];exact ⟨by show 1<=1 + e1; lia,by show 1 + e1 < 10 ^ 30; lia⟩
  rintro R2 σ H6 FX Yf ⟨v0,Bh,rfl,r6,RW,al2,Xc,_⟩;rw [Y0,YL] at RW;rw [Y0] at al2;have P6:=r6.pn;have U0:=r6.nR;have tp6:∀ b xs,H5 b=some (.tup xs)->H6 b=some (.tup xs):=fun b xs z=>r6.kp b _ (by obtain ⟨_,_,_,_,y,_⟩:=P5; exact BE z y (fun q=>by cases q)) (Ah z Yf) z
  have S9:=r6.kp _ _ Sq (Ah Wc Yf) Wc;have mw6:=VA.keepT tp6;have q6:AV p H H6:=fun b o hb z=>r6.kp b o hb (Ah (q5 b o hb z) Yf) (q5 b o hb z)
  have VY:=r6.hR;have dd6:=r6.dd;refine ⟨_,rfl,D2,rfl,⟨_,AB.of S9⟩,?_⟩;refine Be Bp (xs:=ys.map V.str) (fun R i σ H' acc=>∃ (v0:Option V) (rs:List CB),σ=[v0,some (.ref p)]/\R5 K H6 H' p R rs acc/\rs.map (·.1)=ys.take i/\acc.length=i/\(∀ r ∈ rs,0<=r.2/\r.2 < 10 ^ 30)/\D2 ≠ R)
   (by rw [Y0]; lia) (fun R hR=>⟨_,[],rfl,⟨P6.same (Ad hR),(fun b o _ _ z=>Ad hR _ _ z),Ab,.nil,P6.ne hR⟩,rfl,rfl,(fun r hr=>nomatch hr),fun e=>by rw [<-e,S9] at hR; cases hR⟩)
   (fun R i σ H' acc hR ⟨v0,rs,_,r5,_,al,_,ne⟩=>⟨AB.of (r5.kp _ _ Sq ne S9),r5.hR,al⟩) ?_ ?_
  ·rintro R i σ H' acc x' B hR ex ⟨v0,rs,rfl,r5,rt,al,rl,ne⟩ hB;obtain ⟨y,ey,rfl⟩:=BP ex;refine ⟨_,rfl,_,rfl,p,20,rfl,r5.pn,by decide,by decide,fun e1 Ha Pa ka Wh WD=>⟨(by show 2<=sizeLine; lia),fun T hT=>?_⟩⟩;have re:=(r5.step Pa ka).add hT (.tup [.str y,.int e1]);refine hB _ _ _ re.hR ⟨_,rs ++ [(y,e1)],rfl,re.app Ab,by rw [YE,rt,YS,ey]; rfl,by rw [Y6,al]; rfl,fun r hr=>?_,ne⟩;rcases YR.mp hr with hr | hr
   ·exact rl r hr
   ·rw [YJ.mp hr];exact ⟨Wh,by show e1 < 10 ^ 30; lia⟩
  rintro R1 σ H7 K0 Yg ⟨v0',Az,rfl,r7,R8,al1,Xd,Xo⟩;rw [Y0,YL] at R8;rw [Y0] at al1;have P7:=r7.pn;have tp7:∀ b xs,H6 b=some (.tup xs)->H7 b=some (.tup xs):=fun b xs z=>r7.kp b _ (by obtain ⟨_,_,_,_,y,_⟩:=P6; exact BE z y (fun q=>by cases q)) (Ah z Yg) z
  have Ya:=r7.kp _ _ Sq Xo S9;have W0:=mw6.keepT tp7;have q7:AV p H H7:=fun b o hb z=>r7.kp b o hb (Ah (q6 b o hb z) Yg) (q6 b o hb z)
  have XH:=r7.kp _ _ U0 (Ah VY Yg) VY;have Yo:=BC dd6 tp7;have Yp:=r7.dd;have XI:=r7.hR;have Xb:Az.length=ys.length:=by rw [<-R8,Y0]
  have Xa:Bh.length=fs.length:=by rw [<-RW,Y0]
  have ok1:EC ps 0 Az:=CO pm xnd R8 Xd (by lia) pp;have ok2:EC ps 1 Bh:=CO pmf xnd RW Xc (by lia) pp;refine ⟨_,rfl,_,rfl,R1,_,rfl,.inl ⟨AB.of XI,fun t1 Fq=>?_⟩⟩;have s8:=Ad (o:=.tup K0) Fq;refine ⟨_,rfl,R2,_,rfl,.inl ⟨AB.of (s8 _ _ XH),fun t2 FN=>?_⟩⟩;have s9:=Ad (o:=.tup FX) FN;refine ⟨(by show 3<=sizeLine; lia),fun Lm hLm=>?_⟩;have MR:=Ad (o:=.lst [.non,.int 5,.int 9]) hLm;have Uh:=s8.trans (s9.trans MR);have h1:=MR _ _ (s9 _ _ (Ab (H:=H7) (a:=t1) (o:=.tup K0)));have h2:=MR _ _ (Ab (H:=upd H7 t1 (.tup K0)) (a:=t2) (o:=.tup FX));have hL:(upd (upd (upd H7 t1 (.tup K0)) t2 (.tup FX)) Lm (.lst [.non,.int 5,.int 9])) Lm=some (.lst [.non,.int 5,.int 9]):=Ab;have Ta:=P7.same Uh;have hLp:Lm ≠ p:=((P7.same s8).same s9).ne hLm;generalize upd (upd (upd H7 t1 (.tup K0)) t2 (.tup FX)) Lm (.lst [.non,.int 5,.int 9])=LF at Uh h1 h2 hL Ta ⊢;refine ⟨_,rfl,p,3,rfl,Ta,by decide,by decide,fun d3 Pm Wk k11 d30 Yr=>?_⟩;have Vv:=D9 Ta k11;obtain ⟨x,dx,hx,lim,l5⟩:∃ (x:V) (dx:PyData),JN [V.non,V.int 5,V.int 9] d3=some x/\Lim x dx/\C2 x 5=true:=by
   have cc:d3=0\/d3=1\/d3=2:=by lia
   rcases cc with rfl | rfl | rfl
   ·exact ⟨.non,.none,rfl,.inl ⟨rfl,rfl⟩,rfl⟩
   ·exact ⟨.int 5,.int 5,rfl,.inr ⟨5,rfl,rfl,by decide,by decide⟩,rfl⟩
   ·exact ⟨.int 9,.int 9,rfl,.inr ⟨9,rfl,rfl,by decide,by decide⟩,rfl⟩
  refine ⟨Lm,_,_,_,rfl,rfl,AB.of (k11 _ _ hLp hL),hx,(by show 4<=sizeLine; lia),fun c hc=>?_⟩;have KQ:=Ad (o:=.tup [.ref m,.ref t1,.ref t2,x]) hc;have Vr:=Wk.same KQ;have hcc:(upd Pm c (.tup [.ref m,.ref t1,.ref t2,x])) c=some (.tup [.ref m,.ref t1,.ref t2,x]):=Ab;generalize upd Pm c (.tup [.ref m,.ref t1,.ref t2,x])=Wn at KQ Vr hcc ⊢;have U7:AV p H7 Wn:=(AV.of_same Uh).trans (k11.trans (AV.of_same KQ));have PQ:=D9 P7 U7;have Wd:=U7 _ _ Sq Ya;refine ⟨_,rfl,_,rfl,p,D2,ys,5,rfl,Vr,Wd,Sq,by lia,by lia,fun Yz D4 op os Yx k13 fD4 XZ pmo opl soo=>?_⟩;have WO:=D9 Vr k13;refine ⟨D4,_,rfl,.inl ⟨AB.of XZ,fun o ho=>?_⟩⟩;have s14:=Ad (o:=.tup (op.map V.str)) ho;refine ⟨(by show 2<=sizeLine; lia),fun T hT=>?_⟩;have R7:=s14.trans (Ad (o:=.tup [.ref c,.ref o]) hT);have X5:=Ad (o:=.tup [.ref c,.ref o]) hT _ _ (Ab (H:=Yz) (a:=o) (o:=.tup (op.map V.str)));have tpe:∀ b xs,Wn b=some (.tup xs)->(upd (upd Yz o (.tup (op.map V.str))) T (.tup [.ref c,.ref o])) b=some (.tup xs):=fun b xs z=>R7 _ _ (WO _ _ z)
  have ynd:ys.Nodup:=(Zr.mp (pm.nodup_iff.mpr xnd)).1;have ond:op.Nodup:=(Zr.mp (pmo.nodup_iff.mpr ynd)).1;have yri:BB ys:=DC (BX so) ynd;refine k _ T c o m xs.length ps ws Az Bh x dx op (Yx.same R7) (q7.trans (U7.trans (k13.trans (AV.of_same R7)))) Ab ⟨⟨⟨t1,t2,K0,FX,tpe _ _ hcc,tpe _ _ (KQ _ _ (Vv _ _ h1)),BC Yp (fun b xs z=>tpe _ _ (PQ _ _ z)),tpe _ _ (KQ _ _ (Vv _ _ h2)),BC Yo (fun b xs z=>tpe _ _ (PQ _ _ z))⟩,W0.keepT (fun b xs z=>tpe _ _ (PQ _ _ z)),by lia,by lia,ok1,ok2,by lia,by lia,lim⟩,by rw [R8]; exact yri,X5,?_,by rw [R8]; exact CY (DC (BX soo) ond) yri fun s hs=>pmo.mem_iff.mp (Z1 _ hs),by rw [opl]; exact l5⟩;intro z;rw [z] at opl;cases opl
end
section
variable {P:Program} {w:World} {K:Y3} {mg:Str->Option Value} {base:Heap}
theorem Kl (h_range:mg "range"=none) (h_repr:mg "repr"=none) {fLX:Addr} {fdLX:FuncData} (XLX:Fn K mg "_law_exchanges" Ck ["_law_case_here","_law_opening"] fLX fdLX) (GLX:AJ P w K mg base Cb 1 fLX fdLX ["_law_case_here","_law_opening"] MK) {fLC:Addr} {fdLC:FuncData} (XLC:Fn K mg "_law_costs" Dl ["_law_case_here","_law_lengths_here","_law_opening"] fLC fdLC) (GLC:AJ P w K mg base Cb 1 fLC fdLC ["_law_case_here","_law_lengths_here","_law_opening"] MM) {fEX:Addr} {fdEX:FuncData} (XEX:Fn K mg "exchanges" Dm ["case","opening"] fEX fdEX) (GEX:AJ P w K mg base Cb 6 fEX fdEX ["case","opening"] Gv) {f:Addr} {fd:FuncData} (F:EO K "_law_right" "_law_right" Dk f fd):AJ P w K mg base Cb 7 f fd ["_law_case_here","_law_lengths_here","_law_opening"] KJ:=by
 refine F.ok F8 (fun vs H Q E h=>?_) (fun cdv A outer s H vs Q E hr h=>?_)
 ·obtain ⟨c,A0,o,m,n,xs,ws,Az,Bh,x,d,op,rfl,_⟩:=h;rfl
 ·obtain ⟨c,A0,o,m,n,xs,ws,Az,Bh,x,d,op,rfl,cx,kn,k⟩:=h;have nd:=F8.nd;have GX:=hr.units;have big:100000 < sizeLine:=by decide
  refine ⟨_,(Ae (DS (ix:=3) (N:=["_law_one","_law_other","_law_case_here","_law_lengths_here"]) (σ0:=fun σ=>[none,none,some 0,some 1].map fun j=>j.bind fun j=>(σ[j]?).join) nd rfl (Or.inl rfl) rfl (A2.caught (by rfl) (by decide +kernel) rfl (by decide +kernel) (by intro y hy; simp only [Y4,YB,or_false] at hy; rcases hy with rfl | rfl <;> rfl)
   (by intro y hy e; simp only [Y4,YB,or_false] at hy; rcases hy with rfl | rfl | rfl | rfl | rfl | rfl <;> first | exact ⟨_,rfl⟩ | cases e)) (fun σ _=>AH.of [none,none,some 0,some 1] rfl (by
   intro i j x h1 h2;match i,h1,h2 with
   | 0,_,h2=>cases h2
   | 1,_,h2=>cases h2
   | 2,h1,h2=>cases h1; cases h2; exact ⟨rfl,.inl rfl,.inl rfl⟩
   | 3,h1,h2=>cases h1; cases h2; exact ⟨rfl,.inl rfl,.inl rfl⟩
   | n + 4,h1,_=>cases h1)) (Bt K rfl (Aj GLX (hr.mono (by decide)) (by rfl) XLX.mg XLX.F.kp XLX.b .nil Au (Aa (pv 0) (Aa (pv 2) Ac))))
   (fun s2 H C fp=>⟨(B7 K rfl (n:=2) rfl (As (Ai (i:=0) (show (["_law_one","_law_other","_law_case_here","_law_lengths_here"]:List Str).Nodup by decide +kernel) rfl (Or.inl rfl)) (As (Ai (i:=1) (show (["_law_one","_law_other","_law_case_here","_law_lengths_here"]:List Str).Nodup by decide +kernel) rfl (Or.inl rfl)) B6))),AQ,(A9 (Aa (pv 0) (Aa (Aj GLC (hr.mono (by decide)) (by rfl) XLC.mg XLC.F.kp XLC.b .nil Au (Aa (pv 2) (Aa (pv 3) (Aa (pv 1) Ac)))) Ac)))⟩))
  (Ae (Bs PassesOwn.never rfl (C4 (by rfl) h_range (Aa Ag Ac)) (Ai (i:=4) nd rfl (Or.inl rfl))
  (Ae (Aq (i:=5) nd rfl (Or.inl rfl) (Aj GEX (hr.mono (by decide)) (by rfl) XEX.mg XEX.F.kp XEX.b .nil Au (Aa (pv 0) (Aa (pv 2) Ac))))
  (Ae (Dq (By Ni (Ak (JI hr.gd GX) (by rfl) h_repr PyProof.Rows.boot_repr (Aa (pv 5) Ac)) (Ak (JI hr.gd GX) (by rfl) h_repr PyProof.Rows.boot_repr (Aa (pv 3) Ac)) (BF _))
  (Al (AK Ld))
  BK)
  (Al (DR (FF PySem.F.plainAttrs_list PySem.F.slot_list_append PySem.F.type_list_append BZ (pv 5) (Aa Gf Ac)))))))
  (Al (AK Ld)))),?_⟩
  have sn:=cx.cw.ok1.nd;obtain ⟨on,os,oe⟩:=EM cx.op sn;have l1:=cx.cw.l1;have sl:(Az.map (·.1)).length<=10:=by rw [Y0]; exact l1
  have Vq:=FP cx.op sn sl;have nms:∀ s ∈ Az.map (·.1),AY s=true:=fun s hs=>by
   obtain ⟨r,N2,rfl⟩:=YA.mp hs;exact cx.cw.map.at'.nm _ (cx.cw.ok1.sub r N2)
  have o10:∀ {ys:List Str},Vs (Az.map (·.1)) ys->ys.length<=10:=fun {ys} h=>YU (List.Nodup.length_le_of_subset h.2.1 (fun s hs=>h.2.2 s hs)) sl
  have fine:∀ {ps},JQ ws Az Bh x op ps->C3 (.list (ps.map Im)) 3 60000:=fun {ps} h=>by
   have el:(GB (Az.map (·.1)) x op).length<=(BL (Az.map (·.1)) op).length:=Zc _ _;have hl:=h.1.length_eq;rw [Y0,Y0] at hl;refine SH (by lia) fun p hp=>?_
   obtain ⟨e,zs,a1,a2,a3,a4⟩:=h.2.2 p hp;have nm:=Rh nms os (Zh.mp a1).1;have oz:=a3.opn a1 on os;rw [a2] at nm;exact ⟨nm.1,nm.2,Od cx.cw oz (o10 oz) a4⟩
  refine ⟨_,rfl,_,rfl,c,o,m,n,xs,ws,Az,Bh,x,d,op,rfl,cx,fun H1 L vs ps s1 fL hL rr pk pw pd=>?_⟩;refine ⟨L,rfl,⟨_,AB.of hL⟩,?_⟩;have vl:=rr.1;have pl:ps.length < 64:=by
   have el:(GB (Az.map (·.1)) x op).length<=(BL (Az.map (·.1)) op).length:=Zc _ _;have:=pk.length_eq;rw [Y0,Y0] at this;lia
  refine Be Bp (xs:=vs) (fun D i σ H' acc=>∃ (v0 v1:Option V) (qs:List (List Str × Int)),σ=[v0,v1,some (.ref c),some (.ref A0)]/\Ar H1 H'/\H' D=some (.lst acc)/\Gd H' acc (qs.map Kv)/\qs.map (·.1)=(ps.take i).map (·.1)/\(∀ p ∈ qs,∃ e zs,e ∈ GB (Az.map (·.1)) x op/\e.1=p.1/\BU op e.2.1 e.2.2 zs/\Ff ws Az Bh zs p.2)/\acc.length=i)
   (by lia) (fun D hD=>⟨_,_,[],rfl,Ad hD,Ab,Gd.nil,rfl,(fun p hp=>nomatch hp),rfl⟩) (fun D i σ H' acc hD ⟨v0,v1,qs,_,sa,AF,_,_,_,al⟩=>⟨AB.of (sa _ _ hL),AF,al⟩) ?_ ?_
  ·rintro D i σ H' acc v B hD ex ⟨v0,v1,qs,rfl,sa,AF,rq,qk,qd,al⟩ hB;have hi:i < ps.length:=by rw [<-vl]; exact (Y8.mp ex).1
   have ep:ps[i]? = some ps[i]:=Y1 hi;obtain ⟨t,e,rfl,ht,he⟩:=rr.2 i v _ ex ep;obtain ⟨e',tz,zs,a1,a2,a3,a4,a5⟩:=pd _ (Y5 ep);rw [a3] at ht;have oz:=a5.opn a1 on os;refine ⟨t,_,rfl,A7.of (sa _ _ ht),rfl,_,_,rfl,_,_,rfl,rfl,?_⟩;refine ⟨_,rfl,_,rfl,_,rfl,_,rfl,c,m,A0,tz,n,xs,ws,Az,Bh,x,d,zs,rfl,cx.cw.same (s1.trans sa),kn.same (s1.trans sa),sa _ _ a4,oz,o10 oz,fun H5 tt s5 tot=>?_⟩;refine ⟨(by show 2<=sizeLine; lia),fun W hW=>?_⟩;have sW:=s5.trans (Ad (o:=.tup [.ref e,.int tt]) hW);have hDW:=sW _ _ AF;refine hB _ _ _ hDW ⟨_,_,qs ++ [(ps[i].1,tt)],rfl,Bd (sa.trans sW) hD,Ab,?_,?_,?_,by rw [Y6,al]; rfl⟩
   ·rw [YE];refine ((rq.keep fun b ys z=>sW _ _ z).app (Gd.one (p:=Kv (ps[i].1,tt)) (t:=W) (e:=e) Ab (sW _ _ (sa _ _ he)))).keep fun b ys z=>?_
    rw [Af (fun e=>by rw [e,hDW] at z; cases z)];exact z
   ·rw [YE,qk,CC (·.1) ep];rfl
   ·intro p hp;rcases YR.mp hp with hp | hp
    ·exact qd p hp
    ·rw [YJ.mp hp];exact ⟨e',zs,a1,a2,a5,tot⟩
  rintro DU σ H2 acc hD ⟨v0,v1,qs,rfl,s2,hDU,rq,qk,qd,al⟩;rw [vl,YL] at qk;have due:JQ ws Az Bh x op qs:=⟨by rw [qk]; exact pk,by rw [qk]; exact pw,qd⟩
  have erq:R3 H2 acc qs:=R3.rw.mpr rq;have fin:=fine due;have KQ:=s1.trans s2;refine ⟨2,rfl,by decide,by decide,CV (n:=2) (fun _ σ H'=>∃ (v4 v5:Option V),σ=[some (.ref c),some (.ref A0),some (.ref o),some (.ref DU),v4,v5]/\Ar H2 H') ⟨_,_,rfl,Ar.refl _⟩ ?_ ?_⟩
  ·rintro j σ H3 hj ⟨v4,v5,rfl,s3⟩;have s13:=KQ.trans s3;refine ⟨_,rfl,_,rfl,c,o,m,n,xs,ws,Az,Bh,x,d,op,rfl,cx.keepT fun b ys z=>s13 _ _ z,fun H4 T vs4 Xe s4 fT hT er4 Yl=>?_⟩;have e4:Xe=qs:=Yl.uniq due sn on;subst e4;have datT:Fx H4 (.ref T) (.list (Xe.map Im)):=.lst hT er4.dats;have datD:Fx H4 (.ref DU) (.list (Xe.map Im)):=.lst (s4 _ _ (s3 _ _ hDU)) (R3.rw.mpr (rq.keep fun b ys z=>s4 _ _ (s3 _ _ z))).dats;refine ⟨_,rfl,T,_,rfl,datT,fin.sho,fin.nod,YU fin.dp (by decide),fin.len (Y7 _),_,rfl,DU,_,rfl,datD,fin.sho,fin.nod,YU fin.dp (by decide),fin.len (Y7 _),rfl,_,rfl,?_⟩;refine BI (fun z=>by simp at z) (fun _=>?_);have vl4:vs4.length < sizeLine:=by
    have a:=er4.1;have b:=congrArg Z5 qk;rw [Y0,Y0] at b;lia
   refine ⟨_,rfl,.inl ⟨rfl,_,AB.of hT⟩,T,vs4,.non,rfl,rfl,hT,vl4,?_⟩;exact ⟨_,_,rfl,s3.trans (Bd s4 fT)⟩
  ·rintro σ H3 ⟨v4,v5,rfl,s3⟩;exact k _ (KQ.trans s3)
end
section
variable {P:Program} {w:World} {K:Y3} {mg:Str->Option Value} {base:Heap}
theorem Gg (h_len:mg "len"=none) (h_sorted:mg "sorted"=none) (h_tuple:mg "tuple"=none)  {f:Addr} {fd:FuncData} (F:EO K "_law_exchanges" "_law_exchanges" Ck f fd):AJ P w K mg base Cb 1 f fd ["_law_case_here","_law_opening"] MK:=by
 refine F.ok DA (fun vs H Q E h=>?_) (fun cdv A outer s H vs Q E hr h=>?_)
 ·obtain ⟨c,o,m,n,xs,ws,Az,Bh,x,d,op,rfl,_⟩:=h;rfl
 ·obtain ⟨c,o,m,n,xs,ws,Az,Bh,x,d,op,rfl,cx,k⟩:=h;have nd:=DA.nd;have GX:=hr.units;have big:100000 < sizeLine:=by decide
  refine ⟨_,(Ae (DS (ix:=2) (N:=["_law_place","_law_amount","_law_opening"]) (σ0:=fun σ=>[none,none,some 1].map fun j=>j.bind fun j=>(σ[j]?).join) nd rfl (Or.inl rfl) rfl (A2.caught (by rfl) (by decide +kernel) rfl (by decide +kernel) (by intro y hy; simp only [Y4,YB,or_false] at hy; rcases hy with rfl <;> rfl)
   (by intro y hy e; simp only [Y4,YB,or_false] at hy; rcases hy with rfl | rfl | rfl | rfl <;> first | exact ⟨_,rfl⟩ | cases e)) (fun σ _=>AH.of [none,none,some 1] rfl (by
   intro i j x h1 h2;match i,h1,h2 with
   | 0,_,h2=>cases h2
   | 1,_,h2=>cases h2
   | 2,h1,h2=>cases h1; cases h2; exact ⟨rfl,.inl rfl,.inl rfl⟩
   | n + 3,h1,_=>cases h1)) (AR K rfl (AA (AS K rfl) (pv 0) Ag (fun _ _=>rfl)))
   (fun s2 H C fp=>⟨(B7 K rfl (n:=2) rfl (As (Ai (i:=0) (show (["_law_place","_law_amount","_law_opening"]:List Str).Nodup by decide +kernel) rfl (Or.inl rfl)) (As (Ai (i:=1) (show (["_law_place","_law_amount","_law_opening"]:List Str).Nodup by decide +kernel) rfl (Or.inl rfl)) B6))),(Dp (By (J0 K rfl) (pv 0) (pv 2) (by rfl))),(pv 0)⟩))
  (Ae (Aq (i:=3) nd rfl (Or.inl rfl) (B9 Ac))
  (Ae (PS.weak (t':=fun D σ H'=>∃ (OT F0:Addr) (oth:List Str),σ=[some (.ref c),some (.ref o),some (.ref OT),some (.ref F0),none,none]/\oth=AX (Az.map (·.1)) op/\Ar H H'/\H' OT=some (.lst (oth.map V.str))/\H' F0=some (.lst [])/\H F0=none/\F0 ≠ OT/\∀ (H2:Hp) (F:Addr) (vs:List V),Ar H H2->H F=none->F ≠ OT->H2 OT=some (.lst (oth.map V.str))->H2 F=some (.lst vs)->Gb H2 op vs ((oth.map Em).filter (Bu x op))->D.nx [some (.ref c),some (.ref o),some (.ref OT),some (.ref F),none,none] H2) (Dq (KZ (Et (HF (AA (AS K rfl) (pv 0) Ag (fun _ _=>rfl)))) (Hz (By J1 (Ak (Ax K rfl) (by rfl) h_len PySem.boot_len (Aa (pv 1) Ac)) (AA (AS K rfl) (pv 0) Ag (fun _ _=>rfl)) (BF _)))).pt
  (Al (DS (ix:=3) (N:=["_law_place","_law_opening"]) (σ0:=fun σ=>[none,some 1].map fun j=>j.bind fun j=>(σ[j]?).join) nd rfl (Or.inl rfl) rfl (A2.caught (by rfl) (by decide +kernel) rfl (by decide +kernel) (by intro y hy; simp only [Y4,YB,or_false] at hy; rcases hy with rfl <;> rfl)
   (by intro y hy e; simp only [Y4,YB,or_false] at hy; rcases hy with rfl | rfl | rfl | rfl | rfl <;> first | exact ⟨_,rfl⟩ | cases e)) (fun σ _=>AH.of [none,some 1] rfl (by
   intro i j x h1 h2;match i,h1,h2 with
   | 0,_,h2=>cases h2
   | 1,h1,h2=>cases h1; cases h2; exact ⟨rfl,.inl rfl,.inl rfl⟩
   | n + 2,h1,_=>cases h1)) (Bt K rfl (pv 2))
   (fun s2 H C fp=>⟨(Ai (i:=0) (show (["_law_place","_law_opening"]:List Str).Nodup by decide +kernel) rfl (Or.inl rfl)),AQ,(A9 (Aa (A9 (Aa C5 (Aa (pv 0) Ac))) (Aa (A1 (A8 K rfl) (by rfl) h_tuple PyProof.Rows.boot_tuple (Aa (Ak Ds (by rfl) h_sorted PyProof.Rows.boot_sorted (Aa (Aw (HI K rfl) (pv 1) (A9 (Aa (pv 0) Ac))) Ac)) Ac)) Ac)))⟩)))
  BK) ?w1)
  (Ae (Bs PassesOwn.never rfl (AR K rfl (pv 1)) (Ai (i:=4) nd rfl (Or.inr rfl))
  (Ae (Aq (i:=5) nd rfl (Or.inr rfl) (A1 Fc (by rfl) h_tuple PyProof.Rows.boot_tuple (Aa (Bv (N:=["_law_place","_law_house"]) (σ0:=fun σ=>[none,some 4].map fun j=>j.bind fun j=>(σ[j]?).join) rfl (A2.caught (by rfl) (by decide +kernel) rfl (by decide +kernel) (by intro y hy; simp only [Y4,YB,or_false] at hy; rcases hy with rfl <;> rfl)
   (by intro y hy e; simp only [Y4,YB,or_false] at hy; rcases hy with rfl | rfl | rfl <;> first | exact ⟨_,rfl⟩ | cases e)) (fun σ _=>AH.of [none,some 4] rfl (by
   intro i j x h1 h2;match i,h1,h2 with
   | 0,_,h2=>cases h2
   | 1,h1,h2=>cases h1; cases h2; exact ⟨rfl,.inl rfl,.inl rfl⟩
   | n + 2,h1,_=>cases h1)) (AR K rfl (pv 1))
   (fun s2 H C fp=>⟨(Ai (i:=0) (show (["_law_place","_law_house"]:List Str).Nodup by decide +kernel) rfl (Or.inl rfl)),(Dp (By Ni (pv 0) (pv 1) (BF _))),(pv 0)⟩)) Ac)))
  (Ae (PS.weak (t':=fun D σ H'=>∃ (OT F lf:Addr) (h:Str) (vs:List V) (L:List B8),σ=[some (.ref c),some (.ref o),some (.ref OT),some (.ref F),some (.str h),some (.ref lf)]/\H' F=some (.lst vs)/\Gb H' op vs L/\H' lf=some (.tup ((Ba op (some h)).map V.str))/\vs.length<=100/\C2 x op.length=true/\(∀ s ∈ op,AY s=true)/\∀ (H2:Hp) (TM:List V),(∀ b u,b ≠ F->H' b=some u->H2 b=some u)->H2 F=some (.lst TM)->Gb H2 op TM (L ++ [E2 h].filter (Bu x op))->D.nx [some (.ref c),some (.ref o),some (.ref OT),some (.ref F),some (.str h),some (.ref lf)] H2) (Dq (By (O6 GX) (pv 5) (A9 Ac) (BF _))
  (Al (DR (FF PySem.F.plainAttrs_list PySem.F.slot_list_append PySem.F.type_list_append BZ (pv 3) (Aa (A9 (Aa (A9 (Aa C5 (Aa (pv 4) Ac))) (Aa (pv 5) Ac))) Ac))))
  BK) ?w2)
  (Al (DR (FF PySem.F.plainAttrs_list PySem.F.slot_list_extend PySem.F.type_list_extend OD (pv 3) (Aa (Bv (N:=["_law_place","_law_house","_law_left"]) (σ0:=fun σ=>[none,some 4,some 5].map fun j=>j.bind fun j=>(σ[j]?).join) rfl (A2.caught (by rfl) (by decide +kernel) rfl (by decide +kernel) (by intro y hy; simp only [Y4,YB,or_false] at hy; rcases hy with rfl | rfl <;> rfl)
   (by intro y hy e; simp only [Y4,YB,or_false] at hy; rcases hy with rfl | rfl | rfl | rfl | rfl | rfl <;> first | exact ⟨_,rfl⟩ | cases e)) (fun σ _=>AH.of [none,some 4,some 5] rfl (by
   intro i j x h1 h2;match i,h1,h2 with
   | 0,_,h2=>cases h2
   | 1,h1,h2=>cases h1; cases h2; exact ⟨rfl,.inl rfl,.inl rfl⟩
   | 2,h1,h2=>cases h1; cases h2; exact ⟨rfl,.inl rfl,.inl rfl⟩
   | n + 3,h1,_=>cases h1)) (Bt K rfl (pv 2))
   (fun s2 H C fp=>⟨(Ai (i:=0) (show (["_law_place","_law_house","_law_left"]:List Str).Nodup by decide +kernel) rfl (Or.inl rfl)),AQ,(A9 (Aa (A9 (Aa C5 (Aa (pv 1) (Aa (pv 0) Ac)))) (Aa (A1 (A8 K rfl) (by rfl) h_tuple PyProof.Rows.boot_tuple (Aa (Ak Ds (by rfl) h_sorted PyProof.Rows.boot_sorted (Aa (Aw (HI K rfl) (pv 2) (A9 (Aa (pv 0) Ac))) Ac)) Ac)) Ac)))⟩)) Ac)))))))
  (Al (AK (Ak (E9 K rfl GX) (by rfl) h_sorted PyProof.Rows.boot_sorted (Aa (pv 3) Ac)))))))),?_⟩
  case w1=>
   rintro D σ H' ⟨OT,F0,oth,rfl,eoth,s2,hO,UJ,fF0,nFO,kk⟩;obtain ⟨t1,t2,ER,LM,hc,Fq,GY,FN,hd2⟩:=cx.cw.ex;have ho:=cx.ho;have l1:=cx.cw.l1;have sn:=cx.cw.ok1.nd;obtain ⟨on,os,oe⟩:=EM cx.op sn;have sl:(Az.map (·.1)).length<=10:=by rw [Y0]; exact l1
   have otl:oth.length<=10:=by rw [eoth]; lia
   have yes:C2 x (op.length + 1)=true->(oth.map Em).filter (Bu x op)=oth.map Em:=fun z=>ak.mpr fun e he=>by
    obtain ⟨s,_,rfl⟩:=YA.mp he;rw [okO,z]
   have no:C2 x (op.length + 1)=false->(oth.map Em).filter (Bu x op)=[]:=fun z=>List.filter_eq_nil_iff.mpr fun e he=>by
    obtain ⟨s,_,rfl⟩:=YA.mp he;rw [okO,z];decide
   refine ⟨_,rfl,c,_,_,_,rfl,rfl,A7.of (s2 _ _ hc),rfl,_,rfl,?_⟩;by_cases hx:C2 x (op.length + 1)=true
   ·rcases cx.cw.lim with ⟨rfl,_⟩ | ⟨lm,rfl,_,lm1,lm2⟩
    ·refine BI (fun _=>IX ?_) (fun z=>by simp at z);refine ⟨_,rfl,OT,rfl,⟨_,AB.of hO⟩,?_⟩;refine Be Bp (xs:=oth.map V.str) (fun D i σ H2 acc=>∃ v0:Option V,σ=[v0,some (.ref o)]/\Ar H' H2/\H2 D=some (.lst acc)/\Gb H2 op acc ((oth.take i).map Em)/\acc.length=i)
      (by rw [Y0]; lia) (fun D hD=>⟨_,rfl,Ad hD,Ab,Gb.nil,rfl⟩) (fun D i σ H2 acc hD ⟨v0,_,sb,AF,_,al⟩=>⟨AB.of (sb _ _ hO),AF,al⟩) ?_ ?_
     ·rintro D2 j σ H7 acc x' B hD ex ⟨v0,rfl,sc,AF,rwa,al⟩ hB;obtain ⟨y,ey,rfl⟩:=BP ex;refine ⟨_,rfl,(by show 2<=sizeLine; lia),fun T hT=>?_⟩;have sT:=Ad (o:=.tup [V.str "open",V.str y]) hT;refine ⟨_,rfl,_,rfl,(by show 1<=sizeLine; lia),fun T1 Ra=>?_⟩;have Qu:=Ad (o:=.tup [V.str y]) Ra;refine IC (K:=K) (Q:=fun v H9=>[V.ref T,v].length<=sizeLine/\∀ p,H9 p=none->B ([v0,some (V.ref o)].set 0 (some (V.str y))) (V.ref p) (upd H9 p (.tup [V.ref T,v]))) (Qu _ _ (sT _ _ (sc _ _ (s2 _ _ ho)))) Ab (by lia) fun t H8 zs s8 ht pz sz=>?_
      refine ⟨(by show 2<=sizeLine; lia),fun W hW=>?_⟩;have sW:=Ad (o:=.tup [V.ref T,V.ref t]) hW;have LH:=sT.trans (Qu.trans (s8.trans sW));have hDW:=LH _ _ AF;refine hB _ _ _ hDW ⟨_,rfl,Bd (sc.trans LH) hD,Ab,?_,by rw [Y6,al]; rfl⟩;rw [CC Em ey];refine ((rwa.keep fun b ys z=>LH _ _ z).app (Gb.one (w:=W) (k:=T) (t:=t) (e:=Em y) (zs:=zs) Ab (sW _ _ (s8 _ _ (Qu _ _ Ab))) (sW _ _ ht) ⟨by show zs.Perm (Ba op none ++ [y]); rw [Gj]; exact pz,sz⟩)).keep fun b ys z=>?_
      rw [Af (fun e=>by rw [e,hDW] at z; cases z)];exact z
     ·rintro D2 σ H7 acc hD ⟨v0,rfl,sc,AF,rwa,al⟩;rw [Y0,YL] at rwa;exact kk H7 D2 acc (s2.trans sc) (s2.free0 hD) (fun e=>by rw [e,hO] at hD; cases hD) (sc _ _ hO) AF (by rw [yes hx]; exact rwa)
    ·refine BI (fun z=>by simp at z) (fun _=>?_);have Kw:=of_decide_eq_true hx;refine ⟨_,rfl,o,_,rfl,.inr (A7.of (s2 _ _ ho)),_,rfl,c,_,_,_,rfl,rfl,A7.of (s2 _ _ hc),rfl,_,_,rfl,rfl,_,rfl,?_⟩;refine BI (fun _=>?_) (fun z=>by rw [Y0] at z; simp at z; lia);refine ⟨_,rfl,OT,rfl,⟨_,AB.of hO⟩,?_⟩;refine Be Bp (xs:=oth.map V.str) (fun D i σ H2 acc=>∃ v0:Option V,σ=[v0,some (.ref o)]/\Ar H' H2/\H2 D=some (.lst acc)/\Gb H2 op acc ((oth.take i).map Em)/\acc.length=i)
      (by rw [Y0]; lia) (fun D hD=>⟨_,rfl,Ad hD,Ab,Gb.nil,rfl⟩) (fun D i σ H2 acc hD ⟨v0,_,sb,AF,_,al⟩=>⟨AB.of (sb _ _ hO),AF,al⟩) ?_ ?_
     ·rintro D2 j σ H7 acc x' B hD ex ⟨v0,rfl,sc,AF,rwa,al⟩ hB;obtain ⟨y,ey,rfl⟩:=BP ex;refine ⟨_,rfl,(by show 2<=sizeLine; lia),fun T hT=>?_⟩;have sT:=Ad (o:=.tup [V.str "open",V.str y]) hT;refine ⟨_,rfl,_,rfl,(by show 1<=sizeLine; lia),fun T1 Ra=>?_⟩;have Qu:=Ad (o:=.tup [V.str y]) Ra;refine IC (K:=K) (Q:=fun v H9=>[V.ref T,v].length<=sizeLine/\∀ p,H9 p=none->B ([v0,some (V.ref o)].set 0 (some (V.str y))) (V.ref p) (upd H9 p (.tup [V.ref T,v]))) (Qu _ _ (sT _ _ (sc _ _ (s2 _ _ ho)))) Ab (by lia) fun t H8 zs s8 ht pz sz=>?_
      refine ⟨(by show 2<=sizeLine; lia),fun W hW=>?_⟩;have sW:=Ad (o:=.tup [V.ref T,V.ref t]) hW;have LH:=sT.trans (Qu.trans (s8.trans sW));have hDW:=LH _ _ AF;refine hB _ _ _ hDW ⟨_,rfl,Bd (sc.trans LH) hD,Ab,?_,by rw [Y6,al]; rfl⟩;rw [CC Em ey];refine ((rwa.keep fun b ys z=>LH _ _ z).app (Gb.one (w:=W) (k:=T) (t:=t) (e:=Em y) (zs:=zs) Ab (sW _ _ (s8 _ _ (Qu _ _ Ab))) (sW _ _ ht) ⟨by show zs.Perm (Ba op none ++ [y]); rw [Gj]; exact pz,sz⟩)).keep fun b ys z=>?_
      rw [Af (fun e=>by rw [e,hDW] at z; cases z)];exact z
     ·rintro D2 σ H7 acc hD ⟨v0,rfl,sc,AF,rwa,al⟩;rw [Y0,YL] at rwa;exact kk H7 D2 acc (s2.trans sc) (s2.free0 hD) (fun e=>by rw [e,hO] at hD; cases hD) (sc _ _ hO) AF (by rw [yes hx]; exact rwa)
   ·have Kw:C2 x (op.length + 1)=false:=by simpa using hx
    rcases cx.cw.lim with ⟨rfl,_⟩ | ⟨lm,rfl,_,lm1,lm2⟩
    ·exact absurd rfl hx
    ·refine BI (fun z=>by simp at z) (fun _=>?_);refine ⟨_,rfl,o,_,rfl,.inr (A7.of (s2 _ _ ho)),_,rfl,c,_,_,_,rfl,rfl,A7.of (s2 _ _ hc),rfl,_,_,rfl,rfl,_,rfl,?_⟩;have hx2:=of_decide_eq_false Kw;refine BI (fun z=>by rw [Y0] at z; simp at z; lia) (fun _=>?_);exact kk H' F0 [] s2 fF0 nFO hO UJ (by rw [no Kw]; exact Gb.nil)
  case w2=>
   rintro D σ H' ⟨OT,F,lf,h,vs,L,rfl,hF,rx,hlf,vl,lim,nms,kk⟩;have nl:F ≠ lf:=fun e=>by rw [e,hlf] at hF; cases hF
   refine ⟨_,rfl,(by show 0<=sizeLine; lia),fun E0 hE0=>?_⟩;have sE:=Ad (o:=.tup []) hE0;have kn:∀ s ∈ Ba op (some h),AY s=true:=fun s hs=>nms s (Zh.mp hs).1
   refine ⟨.tuple ((Ba op (some h)).map PyData.str),.tuple [],.tup (sE _ _ hlf) (Cs _ _),.tup Ab .nil,by rw [PyData.canLay0]; exact Dd kn,rfl,by rw [PyData.depth,DZ]; decide,_,rfl,?_⟩;rw [OX,<-okS (x:=x) lim];have hF1:=sE _ _ hF;refine BI (fun z=>?_) (fun z=>?_)
   ·refine ⟨_,rfl,.inl ⟨rfl,_,AB.of hF1⟩,_,rfl,(by show 2<=sizeLine; lia),fun T hT=>?_⟩;have sT:=Ad (o:=.tup [V.str "shut",V.str h]) hT;refine ⟨_,rfl,(by show 2<=sizeLine; lia),fun W hW=>?_⟩;have sW:=Ad (o:=.tup [V.ref T,V.ref lf]) hW;have LH:=sE.trans (sT.trans sW);have hFW:=LH _ _ hF;refine ⟨F,vs,.ref W,rfl,rfl,hFW,by lia,?_⟩;refine kk _ _ (fun b u e q=>by rw [Af e]; exact LH _ _ q) Ab ?_;rw [show [E2 h].filter (Bu x op)=[E2 h] by rw [ZI,if_pos z]; rfl];refine ((rx.keep fun b ys z=>LH _ _ z).app (Gb.one (w:=W) (k:=T) (t:=lf) (e:=E2 h) (zs:=Ba op (some h)) Ab (sW _ _ Ab) (LH _ _ hlf) ⟨?_,?_⟩)).keep fun b ys z=>?_
    ·show (Ba op (some h)).Perm (Ba op (some h) ++ [])
     rw [Zq]
    ·exact LS cx.ri cx.op.2.1 (ZG)
    ·rw [Af (fun e=>by rw [e,hFW] at z; cases z)];exact z
   ·refine kk _ vs (fun b u e q=>sE _ _ q) hF1 ?_;rw [show [E2 h].filter (Bu x op)=[] by rw [ZI,if_neg z]; rfl,Zq];exact rx.keep fun b ys z=>sE _ _ z
  obtain ⟨t1,t2,ER,LM,hc,Fq,GY,FN,hd2⟩:=cx.cw.ex;have TN:=BQ GY;have l1:=cx.cw.l1;have sn:=cx.cw.ok1.nd;obtain ⟨on,os,oe⟩:=EM cx.op sn;have ho:=cx.ho;have sl:(Az.map (·.1)).length<=10:=by rw [Y0]; exact l1
  have Vq:=FP cx.op sn sl;have oll:op.length<=10:=by lia
  have otl:(AX (Az.map (·.1)) op).length<=10:=by lia
  have lim:=cx.op.2.2;refine ⟨_,rfl,c,_,_,_,rfl,rfl,A7.of hc,rfl,t1,rfl,⟨_,A7.of Fq⟩,?_⟩;refine BR BD (xs:=ER) (fun D i σ H' acc=>∃ v0 v1:Option V,σ=[v0,v1,some (.ref o)]/\Ar H H'/\H' D=some (.lst acc)/\acc=(AX ((Az.map (·.1)).take i) op).map V.str)
   (by lia) (fun D hD=>⟨_,_,rfl,Ad hD,Ab,rfl⟩) (fun D i σ H' acc hD ⟨v0,v1,_,sa,AF,ea⟩=>⟨A7.of (sa _ _ Fq),AF,by rw [ea,Y0]; exact YU (Zc _ _) (by rw [Zf]; exact ZU _ _)⟩) ?_ ?_
  ·rintro D i σ H' acc x' B N hD ex ⟨v0,v1,rfl,sa,AF,rfl⟩ hB hN;obtain ⟨u,t,eu,rfl,ht⟩:=C0 GY ex;have ey:(Az.map (·.1))[i]? = some u.1:=by rw [Y9,eu]; rfl
   have tk:=CT (fun s=>decide (s ∉ op)) ey;refine ⟨t,_,rfl,A7.of (sa _ _ ht),rfl,_,_,rfl,_,_,rfl,rfl,?_⟩;refine ⟨_,rfl,_,rfl,o,_,rfl,.inr (A7.of (sa _ _ ho)),rfl,Gk _,_,rfl,?_⟩;rw [Ie,show (!decide (u.1 ∈ op))=decide (u.1 ∉ op) by simp];refine BI (fun z=>?_) (fun z=>?_)
   ·rw [if_pos z] at tk;exact ⟨_,rfl,hB _ _ _ AF ⟨_,_,rfl,Bd sa hD,Ab,by unfold AX; rw [tk,YE]; rfl⟩⟩
   ·rw [if_neg z,Zq] at tk;exact hN _ _ ⟨_,_,rfl,sa,AF,by unfold AX; rw [tk]⟩
  rintro OT σ H1 acc fOT ⟨v0,v1,rfl,s1,hOT,rfl⟩;rw [TN,show Az.length=(Az.map (·.1)).length by rw [Y0],YL] at hOT;obtain ⟨oth,eoth⟩:∃ l,l=AX (Az.map (·.1)) op:=⟨_,rfl⟩
  obtain ⟨ss,ess⟩:∃ l,l=Az.map (·.1):=⟨_,rfl⟩
  rw [<-eoth] at hOT otl;have eall:BL ss op=oth.map Em ++ op.flatMap (C7 ss op):=by rw [eoth,ess]; rfl
  have Uc:ss.Nodup:=ess ▸ sn;refine ⟨(by show 0<=sizeLine; lia),fun F0 UJ=>?_⟩;have s2:=s1.trans (Ad (o:=.lst []) UJ);have hO2:=Ad (o:=.lst []) UJ _ _ hOT;have nFO:F0 ≠ OT:=fun e=>by rw [e,hOT] at UJ; cases UJ
  have nms:∀ s ∈ op,AY s=true:=fun s hs=>by
   obtain ⟨r,N2,rfl⟩:=YA.mp (os s hs);exact cx.cw.map.at'.nm _ (cx.cw.ok1.sub r N2)
  refine ⟨OT,F0,oth,rfl,eoth,s2,hO2,Ab,s1.free0 UJ,nFO,fun H3 F vs s3 fF nF hO3 hF3 rw3=>?_⟩;refine ⟨_,rfl,o,rfl,⟨_,A7.of (s3 _ _ ho)⟩,?_⟩;refine Cz (xs:=op.map V.str) (fun i σ H'=>∃ (v4 v5:Option V) (vs:List V),σ=[some (.ref c),some (.ref o),some (.ref OT),some (.ref F),v4,v5]/\Ar H H'/\H' OT=some (.lst (oth.map V.str))/\H' F=some (.lst vs)/\Gb H' op vs ((oth.map Em ++ (op.take i).flatMap (C7 ss op)).filter (Bu x op)))
   ⟨_,_,vs,rfl,s3,hO3,hF3,by rw [bH,bD,Zq]; exact rw3⟩ (fun i σ H' _ ⟨_,_,_,_,sa,_⟩=>A7.of (sa _ _ ho)) ?_ ?_
  ·rintro i v σ H' hv ⟨v4,v5,vs,rfl,sa,hO,hF,rx⟩ rt bk NN hN;obtain ⟨h,eh,rfl⟩:=BP hv;have hm:=Y5 eh;have hat:C7 ss op h=E2 h :: oth.map (Fz h):=by unfold C7; rw [eoth,ess]
   have lens:((oth.map Em ++ (op.take i).flatMap (C7 ss op)).filter (Bu x op)).length + 1 + oth.length<=63:=by
    have:=congrArg Z5 eall;rw [Il _ eh,hat] at this;rw [<-ess] at Vq;simp only [Y6,YX,Y0] at this;have f:=Zc (Bu x op) (oth.map Em ++ (op.take i).flatMap (C7 ss op));rw [Y6,Y0] at f;lia
   have vl:=rx.len;refine ⟨_,rfl,o,rfl,⟨_,A7.of (sa _ _ ho)⟩,?_⟩;refine BR BD (xs:=op.map V.str) (fun D i σ H2 acc=>∃ v0:Option V,σ=[v0,some (.str h)]/\Ar H' H2/\H2 D=some (.lst acc)/\acc=(Ba (op.take i) (some h)).map V.str)
    (by rw [Y0]; lia) (fun D hD=>⟨_,rfl,Ad hD,Ab,rfl⟩) (fun D i σ H2 acc hD ⟨v0,_,sb,AF,ea⟩=>⟨A7.of (sb _ _ (sa _ _ ho)),AF,by rw [ea,Y0]; exact YU (Zc _ _) (by rw [Zf]; exact ZU _ _)⟩) ?_ ?_
   ·rintro D i σ H2 acc x' B N hD ex ⟨v0,rfl,sb,AF,rfl⟩ hB hN;obtain ⟨y,ey,rfl⟩:=BP ex;have tk:=CT (fun h'=>decide (some h' ≠ some h)) ey;refine ⟨_,rfl,_,rfl,rfl,_,rfl,?_⟩;rw [show (!decide (V.str y=V.str h))=decide (some y ≠ some h) by simp];refine BI (fun z=>?_) (fun z=>?_)
    ·rw [if_pos z] at tk;exact ⟨_,rfl,hB _ _ _ AF ⟨_,rfl,Bd sb hD,Ab,by unfold Ba; rw [tk,YE]; rfl⟩⟩
    ·rw [if_neg z,Zq] at tk;exact hN _ _ ⟨_,rfl,sb,AF,by unfold Ba; rw [tk]⟩
   rintro D σ H2 acc hD ⟨v0,rfl,sb,AF,rfl⟩;rw [Y0,YL] at AF;have kl:(Ba op (some h)).length<=op.length:=Zc _ _;refine ⟨D,_,rfl,.inl ⟨AB.of AF,fun lf hlf=>?_⟩⟩;have s5:=sb.trans (Ad (o:=.tup ((Ba op (some h)).map V.str)) hlf);have QY:(upd H2 lf (.tup ((Ba op (some h)).map V.str))) lf=some (.tup ((Ba op (some h)).map V.str)):=Ab;generalize upd H2 lf (.tup ((Ba op (some h)).map V.str))=H5 at s5 QY ⊢;refine ⟨OT,F,lf,h,vs,_,rfl,s5 _ _ hF,rx.keep fun b ys z=>s5 _ _ z,QY,(by lia),lim,nms,fun H6 vs6 s6 hF6 rw6=>?_⟩;have X8:=s6 _ _ (fun e=>by rw [e,s5 _ _ hF] at QY; cases QY) QY;have UH:=s6 _ _ (fun e=>nF e.symm) (s5 _ _ hO);have s06:Ar H H6:=fun b u z=>s6 _ _ (Ah z fF) (s5 _ _ (sa _ _ z))
   have vl6:=rw6.len;have fl1:=Zc (Bu x op) [E2 h];rw [Y6] at vl6;rw [Zt] at fl1;refine ⟨_,rfl,.inl ⟨rfl,_,AB.of hF6⟩,_,rfl,OT,rfl,⟨_,AB.of UH⟩,?_⟩;refine Be Bp (xs:=oth.map V.str) (fun D i σ H2 acc=>∃ v0:Option V,σ=[v0,some (.str h),some (.ref lf)]/\Ar H6 H2/\H2 D=some (.lst acc)/\Gb H2 op acc ((oth.take i).map (Fz h))/\acc.length=i)
    (by rw [Y0]; lia) (fun D hD=>⟨_,rfl,Ad hD,Ab,Gb.nil,rfl⟩) (fun D i σ H2 acc hD ⟨v0,_,sb,AF,_,al⟩=>⟨AB.of (sb _ _ UH),AF,al⟩) ?_ ?_
   ·rintro D j σ H7 acc x' B hD ex ⟨v0,rfl,sc,AF,rwa,al⟩ hB;obtain ⟨y,ey,rfl⟩:=BP ex;refine ⟨_,rfl,_,rfl,(by show 3<=sizeLine; lia),fun T hT=>?_⟩;have sT:=Ad (o:=.tup [V.str "swap",V.str h,V.str y]) hT;refine ⟨_,rfl,_,rfl,(by show 1<=sizeLine; lia),fun T1 Ra=>?_⟩;have Qu:=Ad (o:=.tup [V.str y]) Ra;refine IC (K:=K) (Q:=fun v H9=>[V.ref T,v].length<=sizeLine/\∀ p,H9 p=none->B ([v0,some (V.str h),some (V.ref lf)].set 0 (some (V.str y))) (V.ref p) (upd H9 p (.tup [V.ref T,v]))) (Qu _ _ (sT _ _ (sc _ _ X8))) Ab (by lia) fun t H8 zs s8 ht pz sz=>?_
    refine ⟨(by show 2<=sizeLine; lia),fun W hW=>?_⟩;have sW:=Ad (o:=.tup [V.ref T,V.ref t]) hW;have LH:=sT.trans (Qu.trans (s8.trans sW));have hDW:=LH _ _ AF;refine hB _ _ _ hDW ⟨_,rfl,Bd (sc.trans LH) hD,Ab,?_,by rw [Y6,al]; rfl⟩;rw [CC (Fz h) ey];refine ((rwa.keep fun b ys z=>LH _ _ z).app (Gb.one (w:=W) (k:=T) (t:=t) (e:=Fz h y) (zs:=zs) Ab (sW _ _ (s8 _ _ (Qu _ _ Ab))) (sW _ _ ht) ⟨pz,sz⟩)).keep fun b ys z=>?_
    rw [Af (fun e=>by rw [e,hDW] at z; cases z)];exact z
   ·rintro D σ H7 acc hD ⟨v0,rfl,sc,AF,rwa,al⟩;rw [Y0,YL] at rwa;rw [Y0] at al;have hF7:=sc _ _ hF6;refine ⟨F,D,vs6,acc,rfl,rfl,hF7,AF,by lia,?_⟩;refine hN _ _ ⟨_,_,vs6 ++ acc,rfl,Bd (s06.trans sc) fF,by rw [Af (fun e=>nF e.symm)]; exact sc _ _ UH,Ab,?_⟩;have eL:(oth.map Em ++ (op.take (i + 1)).flatMap (C7 ss op)).filter (Bu x op)=((oth.map Em ++ (op.take i).flatMap (C7 ss op)).filter (Bu x op) ++ [E2 h].filter (Bu x op)) ++ oth.map (Fz h):=by
     have fw:(oth.map (Fz h)).filter (Bu x op)=oth.map (Fz h):=ak.mpr fun e he=>by
      obtain ⟨s,_,rfl⟩:=YA.mp he;exact okW lim hm
     rw [Jq _ eh,<-Zw,hat];generalize oth.map Em ++ (op.take i).flatMap (C7 ss op)=M;rw [ZA,show E2 h :: oth.map (Fz h)=[E2 h] ++ oth.map (Fz h) from rfl,ZA,fw,Zw]
    rw [eL];refine ((rw6.keep fun b ys z=>sc _ _ z).app rwa).keep fun b ys z=>?_
    rw [Af (fun e=>by rw [e,hF7] at z; cases z)];exact z
  ·rintro σ H' ⟨v4,v5,vs,rfl,sa,hO,hF,rx⟩;rw [Y0,YL,<-eall] at rx;have vl:=rx.len;obtain ⟨ps,r1,r2,r3⟩:=rx;obtain ⟨z1,z2,z3,z4,z5⟩:=r1.sort fun p hp=>by
    obtain ⟨e,t,zs,_,_,h3,h4,_⟩:=r3 p hp;exact .inr ⟨t,zs,h3,h4⟩
   rw [r2] at z3;have fl:=Zc (Bu x op) (BL ss op);rw [<-ess] at Vq;refine ⟨_,rfl,F,KR vs ps,rfl,AB.of (by rw [z1]; exact hF),z2,by rw [z3]; exact DH Uc on,by rw [z4,<-r1.1]; lia,fun l' zs VS pz pw=>?_⟩;obtain ⟨qs,q1,q2,q3⟩:=z5 zs pz;have Ql:=Ad (o:=.lst (zs.map (·.1))) VS;refine k _ l' (zs.map (·.1)) qs (sa.trans Ql) (sa.free0 VS) Ab (q1.keep fun b ys z=>Ql _ _ z) ?_ (by rw [q3]; exact pw) fun p hp=>?_
   ·rw [<-ess];have:=q2.map (·.1);rw [r2] at this;exact this
   ·obtain ⟨e,t,zs,h1,h2,h3,h4,h5⟩:=r3 p (q2.mem_iff.mp hp);rw [<-ess];exact ⟨e,t,zs,h1,h2,h3,Ql _ _ h4,h5⟩
end
section
variable {P:Program} {w:World} {K:Y3} {mg:Str->Option Value} {base:Heap}
theorem Kn (h_list:mg "list"=none) (h_sorted:mg "sorted"=none) {fOC:Addr} {fdOC:FuncData} (XOC:Fn K mg "outcomes_of" C8 ["case","opening"] fOC fdOC) (GOC:AJ P w K mg base Cb 4 fOC fdOC ["case","opening"] MH) {fCO:Addr} {fdCO:FuncData} (XCO:Fn K mg "costs_of" DP ["case","chosen"] fCO fdCO) (GCO:AJ P w K mg base Cb 5 fCO fdCO ["case","chosen"] Jr) {f:Addr} {fd:FuncData} (F:EO K "exchanges" "exchanges" Dm f fd):AJ P w K mg base Cb 6 f fd ["case","opening"] Gv:=by
 refine F.ok FC (fun vs H Q E h=>?_) (fun cdv A outer s H vs Q E hr h=>?_)
 ·obtain ⟨c,o,m,n,xs,ws,Az,Bh,x,d,op,rfl,_⟩:=h;rfl
 ·obtain ⟨c,o,m,n,xs,ws,Az,Bh,x,d,op,rfl,cx,k⟩:=h;have nd:=FC.nd;have hu:=Ey hr;have GX:=hr.units;have big:100000 < sizeLine:=by decide
  refine ⟨_,(Ae (Aq (i:=2) nd rfl (Or.inr rfl) (Aj GOC (hr.mono (by decide)) (by rfl) XOC.mg XOC.F.kp XOC.b .nil Au (Aa (pv 0) (Aa (pv 1) Ac))))
  (Ae (Aq (i:=3) nd rfl (Or.inr rfl) (Aj GCO (hr.mono (by decide)) (by rfl) XCO.mg XCO.F.kp XCO.b .nil Au (Aa (pv 0) (Aa (A1 (IE rfl) (by rfl) h_list PyProof.Rows.boot_list (Aa (Us PySem.F.plainAttrs_dict PySem.F.slot_dict_values PySem.F.type_dict_values OC (pv 2)) Ac)) Ac))))
  (Al (AK (Ak (E9 K rfl GX) (by rfl) h_sorted PyProof.Rows.boot_sorted (Aa (Bv (N:=["exchange","outcomes","costs"]) (σ0:=fun σ=>[none,some 2,some 3].map fun j=>j.bind fun j=>(σ[j]?).join) rfl (A2.caught (by rfl) (by decide +kernel) rfl (by decide +kernel) (by intro y hy; simp only [Y4,YB,or_false] at hy; rcases hy with rfl | rfl <;> rfl)
   (by intro y hy e; simp only [Y4,YB,or_false] at hy; rcases hy with rfl | rfl | rfl | rfl <;> first | exact ⟨_,rfl⟩ | cases e)) (fun σ _=>AH.of [none,some 2,some 3] rfl (by
   intro i j x h1 h2;match i,h1,h2 with
   | 0,_,h2=>cases h2
   | 1,h1,h2=>cases h1; cases h2; exact ⟨rfl,.inl rfl,.inl rfl⟩
   | 2,h1,h2=>cases h1; cases h2; exact ⟨rfl,.inl rfl,.inl rfl⟩
   | n + 3,h1,_=>cases h1)) (Tt (pv 2))
   (fun s2 H C fp=>⟨(Ai (i:=0) (show (["exchange","outcomes","costs"]:List Str).Nodup by decide +kernel) rfl (Or.inl rfl)),AQ,(A9 (Aa (pv 0) (Aa (Bm hu (pv 2) (Bm hu (pv 1) (pv 0) (fun _ _=>rfl)) (fun _ _=>rfl)) Ac)))⟩)) Ac)))))),?_⟩
  have sn:=cx.cw.ok1.nd;obtain ⟨on,os,oe⟩:=EM cx.op sn;have l1:=cx.cw.l1;have sl:(Az.map (·.1)).length<=10:=by rw [Y0]; exact l1
  have Vq:=FP cx.op sn sl;have el:(GB (Az.map (·.1)) x op).length<=(BL (Az.map (·.1)) op).length:=Zc _ _;refine ⟨_,rfl,_,rfl,c,o,m,n,xs,ws,Az,Bh,x,d,op,rfl,cx,fun H1 D kvs s1 fD hD oc=>?_⟩;have kl:=oc.len;obtain ⟨outs,tu,ol,oo⟩:=oc.tups;refine ⟨_,rfl,_,rfl,.inr (.inr (.inl ⟨rfl,.inr ⟨_,hD⟩⟩)),D,kvs,rfl,rfl,hD,fun r N2=>?_⟩;have sr:=Ad (o:=Ji r D) N2;refine ⟨r,D,kvs,rfl,Ab,sr _ _ hD,fun l hl=>?_⟩;have s2:=sr.trans (Ad (o:=.lst (kvs.map (·.2))) hl);have hll:(upd (upd H1 r (Ji r D)) l (.lst (kvs.map (·.2)))) l=some (.lst (kvs.map (·.2))):=Ab;generalize upd (upd H1 r (Ji r D)) l (.lst (kvs.map (·.2)))=H2 at s2 hll ⊢;have und:=Me sn on ol oo;have opn:∀ ys ∈ outs,Vs (Az.map (·.1)) ys:=fun ys hy=>by
   obtain ⟨i,hi,e⟩:=YQ hy;have ee:(GB (Az.map (·.1)) x op)[i]? = some ((GB (Az.map (·.1)) x op)[i]'(by lia)):=Y1 _;exact (oo i _ ys ee (by rw [Y1 hi,e])).opn (Y5 ee) on os
  refine ⟨c,l,m,n,xs,ws,Az,Bh,x,d,kvs.map (·.2),outs,rfl,cx.cw.same (s1.trans s2),hll,tu.keep fun b ys z=>s2 _ _ z,und,opn,by lia,fun H3 C ckv s3 fC hC ck cv=>?_⟩;have WX:=s2.trans s3;have Fy:=WX _ _ hD;have nDC:C ≠ D:=fun e=>by rw [e,s2 _ _ hD] at fC; cases fC
  refine ⟨_,rfl,D,kvs,rfl,Fy,fun ob ts H4 fz tl tt=>?_⟩;have OR:H4 D=some (.frz ob (.dT kvs)):=by rw [fz.2]; exact Ab
  have s4:∀ b u,b ≠ D->H3 b=some u->H4 b=some u:=fun b u e z=>by rw [fz.2,Af e]; exact z
  have Ve:Ar H H4:=fun b u z=>s4 _ _ (Ah z fD) (WX _ _ (s1 _ _ z))
  have Vg:Cp H4 op kvs (GB (Az.map (·.1)) x op):=oc.keep fun b ys z=>s4 _ _ (fun e=>by rw [e,hD] at z; cases z) (WX _ _ z)
  have hC4:=s4 _ _ nDC hC;have cnd:(ckv.map (·.1)).Nodup:=by
   rw [ck];exact Ci (fun a b e=>FL e) und
  refine Be Nh (xs:=ts.map V.ref) (fun L i σ H' acc=>∃ (v0:Option V) (ps:List (List Str × Int)),σ=[v0,some (.ref D),some (.ref C)]/\Ar H4 H'/\H' L=some (.lst acc)/\Gd H' acc (ps.map Kv)/\ps.map (·.1)=((GB (Az.map (·.1)) x op).take i).map (·.1)/\(∀ p ∈ ps,∃ e zs,e ∈ GB (Az.map (·.1)) x op/\e.1=p.1/\BU op e.2.1 e.2.2 zs/\Ff ws Az Bh zs p.2)/\acc.length=i)
   (by rw [Y0]; lia) (fun L hL=>⟨_,[],rfl,Ad hL,Ab,Gd.nil,rfl,(fun p hp=>nomatch hp),rfl⟩) (fun L i σ H' acc hL ⟨v0,ps,_,sa,hLL,_,_,_,al⟩=>⟨sa _ _ OR,hLL,al⟩) ?_ ?_
  ·rintro L i σ H' acc x' B hL ex ⟨v0,ps,rfl,sa,hLL,rr,pk,pd,al⟩ hB;obtain ⟨T,eT,rfl⟩:∃ T,ts[i]? = some T/\x'=.ref T:=by
    rw [Y9] at ex;cases q:ts[i]? with
    | none=>rw [q] at ex; cases ex
    | some y=>rw [q] at ex; exact ⟨y,rfl,(YM.inj ex).symm⟩
   have hi:i < kvs.length:=by rw [<-tl]; exact (Y8.mp eT).1
   have ek:kvs[i]? = some kvs[i]:=Y1 hi;obtain ⟨e,ee,ke⟩:=Vg.mem_get ek;have hT:=tt i T _ eT ek;rw [ke] at hT;have hTs:H4 T=some (.tup (e.1.map V.str)):=by rw [hT,Zb]; rfl
   obtain ⟨t,zs,vv,hz,ocz⟩:=Vg.val (DH sn on) ee;have dgD:BN H' D (.ref T) (some (.ref t)):=.inr ⟨kvs,e.1.map Sum.inr,T,.inr ⟨ob,sa _ _ OR⟩,rfl,sa _ _ hT,vv.symm⟩;have ez:outs[i]? = some zs:=by
    have S4:i < outs.length:=by lia
    have:=oo i e _ ee (Y1 S4);rw [Y1 S4,this.uniq ocz]
   have ekc:(ckv.map (·.1))[i]? = some (zs.map Sum.inr):=by rw [ck,Y9,ez]; rfl
   rw [Y9] at ekc;obtain ⟨cp,ecp,kcp⟩:∃ cp,ckv[i]? = some cp/\cp.1=zs.map Sum.inr:=by
    cases q:ckv[i]? with
    | none=>rw [q] at ekc; cases ekc
    | some cp=>rw [q] at ekc; exact ⟨cp,rfl,YM.inj ekc⟩
   obtain ⟨cpk,cpv⟩:=cp;have Xu:cpk=zs.map Sum.inr:=kcp;subst Xu;obtain ⟨nn,rfl,tot⟩:=cv zs cpv (Y5 ecp);have hzk:H' t=some (.tup ((zs.map (Sum.inr:Str->A6)).map kV)):=by rw [sa _ _ hz,Zb]; rfl
   have dgC:BN H' C (.ref t) (some (.int nn)):=.inr ⟨ckv,zs.map Sum.inr,t,.inl (sa _ _ hC4),rfl,hzk,(JU cnd ecp).symm⟩;refine ⟨_,rfl,_,rfl,_,rfl,_,rfl,D,.ref t,rfl,dgD,C,.int nn,rfl,dgC,(by show 2<=sizeLine; lia),fun W hW=>?_⟩;have sW:=Ad (o:=.tup [.ref T,.int nn]) hW;have hLW:=sW _ _ hLL;refine hB _ _ _ hLW ⟨_,ps ++ [(e.1,nn)],rfl,Bd (sa.trans sW) hL,Ab,?_,?_,?_,by rw [Y6,al]; rfl⟩
   ·rw [YE];refine ((rr.keep fun b ys z=>sW _ _ z).app (Gd.one (p:=Kv (e.1,nn)) (t:=W) (e:=T) Ab (sW _ _ (sa _ _ hTs)))).keep fun b ys z=>?_
    rw [Af (fun e=>by rw [e,hLW] at z; cases z)];exact z
   ·rw [YE,pk,CC (·.1) ee];rfl
   ·intro p hp;rcases YR.mp hp with hp | hp
    ·exact pd p hp
    ·rw [YJ.mp hp];exact ⟨e,zs,Y5 ee,rfl,ocz,tot⟩
  ·rintro L σ H' acc hL ⟨v0,ps,rfl,sa,hLL,rr,pk,pd,al⟩;rw [Y0,tl,kl,YL] at pk;obtain ⟨z1,z2,z3,z4,z5⟩:=rr.sort fun p hp=>by
    obtain ⟨q,_,rfl⟩:=YA.mp hp;exact .inl ⟨_,rfl⟩
   have mk:(ps.map Kv).map (·.1)=ps.map (·.1):=by rw [Zb]; rfl
   rw [mk,pk] at z3;refine ⟨L,KR acc (ps.map Kv),rfl,AB.of (by rw [z1]; exact hLL),z2,by rw [z3]; exact DH sn on,?_,fun l' zs VS pz pw=>?_⟩
   ·rw [z4,Y0];have:=congrArg Z5 pk;rw [Y0,Y0] at this;lia
   ·obtain ⟨qs,q1,q2,q3⟩:=z5 zs pz;obtain ⟨Xf,p2,rfl⟩:=EL q2;have Ql:=Ad (o:=.lst (zs.map (·.1))) VS;have mk2:(Xf.map Kv).map (·.1)=Xf.map (·.1):=by rw [Zb]; rfl
    rw [mk2] at q3;refine k _ l' (zs.map (·.1)) Xf (Ve.trans (sa.trans Ql)) ((Ve.trans sa).free0 VS) Ab (R3.rw.mpr (q1.keep fun b ys z=>Ql _ _ z)) ⟨?_,by rw [q3]; exact pw,fun p hp=>pd p (p2.mem_iff.mp hp)⟩;rw [<-pk];exact p2.map _
end
section
variable {P:Program} {w:World} {K:Y3} {mg:Str->Option Value} {base:Heap}
theorem HJ  {fCH:Addr} {fdCH:FuncData} (XCH:Fn K mg "changed" EI ["opening","out","more"] fCH fdCH) (GCH:AJ P w K mg base Cb 1 fCH fdCH ["opening","out","more"] Js) {fIO:Addr} {fdIO:FuncData} (XIO:Fn K mg "is_opening" CM ["case","thing"] fIO fdIO) (GIO:AJ P w K mg base Cb 3 fIO fdIO ["case","thing"] (Qf K)) {f:Addr} {fd:FuncData} (F:EO K "outcomes_of" "outcomes_of" C8 f fd):AJ P w K mg base Cb 4 f fd ["case","opening"] MH:=by
 refine F.ok Ep (fun vs H Q E h=>?_) (fun cdv A outer s H vs Q E hr h=>?_)
 ·obtain ⟨c,o,m,n,xs,ws,Az,Bh,x,d,op,rfl,_⟩:=h;rfl
 ·obtain ⟨c,o,m,n,xs,ws,Az,Bh,x,d,op,rfl,cx,k⟩:=h;have nd:=Ep.nd;have hu:=Ey hr;have big:100000 < sizeLine:=by decide
  refine ⟨_,(Ae (DS (ix:=2) (N:=["place","charge","opening"]) (σ0:=fun σ=>[none,none,some 1].map fun j=>j.bind fun j=>(σ[j]?).join) nd rfl (Or.inl rfl) rfl (A2.caught (by rfl) (by decide +kernel) rfl (by decide +kernel) (by intro y hy; simp only [Y4,YB,or_false] at hy; rcases hy with rfl <;> rfl)
   (by intro y hy e; simp only [Y4,YB,or_false] at hy; rcases hy with rfl | rfl | rfl | rfl <;> first | exact ⟨_,rfl⟩ | cases e)) (fun σ _=>AH.of [none,none,some 1] rfl (by
   intro i j x h1 h2;match i,h1,h2 with
   | 0,_,h2=>cases h2
   | 1,_,h2=>cases h2
   | 2,h1,h2=>cases h1; cases h2; exact ⟨rfl,.inl rfl,.inl rfl⟩
   | n + 3,h1,_=>cases h1)) (AR K rfl (AA (AS K rfl) (pv 0) Ag (fun _ _=>rfl)))
   (fun s2 H C fp=>⟨(B7 K rfl (n:=2) rfl (As (Ai (i:=0) (show (["place","charge","opening"]:List Str).Nodup by decide +kernel) rfl (Or.inl rfl)) (As (Ai (i:=1) (show (["place","charge","opening"]:List Str).Nodup by decide +kernel) rfl (Or.inl rfl)) B6))),(Dp (By (J0 K rfl) (pv 0) (pv 2) (by rfl))),(pv 0)⟩))
  (Ae (Aq (i:=3) nd rfl (Or.inr rfl) (Jy (N:=["site","opening"]) (σ0:=fun σ=>[none,some 1].map fun j=>j.bind fun j=>(σ[j]?).join) rfl hu (A2.caught (by rfl) (by decide +kernel) rfl (by decide +kernel) (by intro y hy; simp only [Y4,YB,or_false] at hy; rcases hy with rfl <;> rfl)
   (by intro y hy e; simp only [Y4,YB,or_false] at hy; rcases hy with rfl | rfl | rfl | rfl <;> first | exact ⟨_,rfl⟩ | cases e)) (fun σ _=>AH.of [none,some 1] rfl (by
   intro i j x h1 h2;match i,h1,h2 with
   | 0,_,h2=>cases h2
   | 1,h1,h2=>cases h1; cases h2; exact ⟨rfl,.inl rfl,.inl rfl⟩
   | n + 2,h1,_=>cases h1)) (Bt K rfl (pv 2))
   (fun s2 H C fp=>⟨(Ai (i:=0) (show (["site","opening"]:List Str).Nodup by decide +kernel) rfl (Or.inl rfl)),AQ,(A9 (Aa C5 (Aa (pv 0) Ac))),(Aj GCH (hr.mono (by decide)) (by rfl) XCH.mg XCH.F.kp XCH.b .nil Au (Aa (pv 1) (Aa Gf (Aa (pv 0) Ac))))⟩)))
  (Ae (Bs PassesOwn.never rfl (AR K rfl (pv 1)) (Ai (i:=4) nd rfl (Or.inl rfl))
  (Ae (BY hu (pv 3) (A9 (Aa C5 (Aa (pv 4) Ac))) (Aj GCH (hr.mono (by decide)) (by rfl) XCH.mg XCH.F.kp XCH.b .nil Au (Aa (pv 1) (Aa (pv 4) (Aa Gf Ac)))) rfl)
  (Al (Bs PassesOwn.never rfl (Bt K rfl (pv 2)) (Ai (i:=5) nd rfl (Or.inl rfl))
  (Al (BY hu (pv 3) (A9 (Aa C5 (Aa (pv 4) (Aa (pv 5) Ac)))) (Aj GCH (hr.mono (by decide)) (by rfl) XCH.mg XCH.F.kp XCH.b .nil Au (Aa (pv 1) (Aa (pv 4) (Aa (pv 5) Ac)))) rfl))))))
  (Al (AK (Jy (N:=["exchange","case","outcomes"]) (σ0:=fun σ=>[none,some 0,some 3].map fun j=>j.bind fun j=>(σ[j]?).join) rfl hu (A2.caught (by rfl) (by decide +kernel) rfl (by decide +kernel) (by intro y hy; simp only [Y4,YB,or_false] at hy; rcases hy with rfl | rfl <;> rfl)
   (by intro y hy e; simp only [Y4,YB,or_false] at hy; rcases hy with rfl | rfl | rfl | rfl | rfl <;> first | exact ⟨_,rfl⟩ | cases e)) (fun σ _=>AH.of [none,some 0,some 3] rfl (by
   intro i j x h1 h2;match i,h1,h2 with
   | 0,_,h2=>cases h2
   | 1,h1,h2=>cases h1; cases h2; exact ⟨rfl,.inl rfl,.inl rfl⟩
   | 2,h1,h2=>cases h1; cases h2; exact ⟨rfl,.inl rfl,.inl rfl⟩
   | n + 3,h1,_=>cases h1)) (Tt (pv 3))
   (fun s2 H C fp=>⟨(Ai (i:=0) (show (["exchange","case","outcomes"]:List Str).Nodup by decide +kernel) rfl (Or.inl rfl)),(Dp (Kf (Aj GIO (hr.mono (by decide)) (by rfl) XIO.mg XIO.F.kp XIO.b .nil Au (Aa (pv 1) (Aa (Bm hu (pv 2) (pv 0) (fun _ _=>rfl)) Ac))))),(pv 0),(Bm hu (pv 2) (pv 0) (fun _ _=>rfl))⟩))))))),?_⟩
  obtain ⟨t1,t2,ER,LM,hc,Fq,GY,FN,hd2⟩:=cx.cw.ex;have TN:=BQ GY;have l1:=cx.cw.l1;have sn:=cx.cw.ok1.nd;obtain ⟨on,os,oe⟩:=EM cx.op sn;have ho:=cx.ho;have sl:(Az.map (·.1)).length<=10:=by rw [Y0]; exact l1
  have Vq:=FP cx.op sn sl;have oll:op.length<=10:=by lia
  have otl:(AX (Az.map (·.1)) op).length<=10:=by lia
  refine ⟨_,rfl,c,_,_,_,rfl,rfl,A7.of hc,rfl,t1,rfl,⟨_,A7.of Fq⟩,?_⟩;refine BR BD (xs:=ER) (fun D i σ H' acc=>∃ v0 v1:Option V,σ=[v0,v1,some (.ref o)]/\Ar H H'/\H' D=some (.lst acc)/\acc=(AX ((Az.map (·.1)).take i) op).map V.str)
   (by lia) (fun D hD=>⟨_,_,rfl,Ad hD,Ab,rfl⟩) (fun D i σ H' acc hD ⟨v0,v1,_,sa,AF,ea⟩=>⟨A7.of (sa _ _ Fq),AF,by rw [ea,Y0]; exact YU (Zc _ _) (by rw [Zf]; exact ZU _ _)⟩) ?_ ?_
  ·rintro D i σ H' acc x' B N hD ex ⟨v0,v1,rfl,sa,AF,rfl⟩ hB hN;obtain ⟨u,t,eu,rfl,ht⟩:=C0 GY ex;have ey:(Az.map (·.1))[i]? = some u.1:=by rw [Y9,eu]; rfl
   have tk:=CT (fun s=>decide (s ∉ op)) ey;refine ⟨t,_,rfl,A7.of (sa _ _ ht),rfl,_,_,rfl,_,_,rfl,rfl,?_⟩;refine ⟨_,rfl,_,rfl,o,_,rfl,.inr (A7.of (sa _ _ ho)),rfl,Gk _,_,rfl,?_⟩;rw [Ie,show (!decide (u.1 ∈ op))=decide (u.1 ∉ op) by simp];refine BI (fun z=>?_) (fun z=>?_)
   ·rw [if_pos z] at tk;exact ⟨_,rfl,hB _ _ _ AF ⟨_,_,rfl,Bd sa hD,Ab,by unfold AX; rw [tk,YE]; rfl⟩⟩
   ·rw [if_neg z,Zq] at tk;exact hN _ _ ⟨_,_,rfl,sa,AF,by unfold AX; rw [tk]⟩
  rintro OT σ H1 acc fOT ⟨v0,v1,rfl,s1,hOT,rfl⟩;rw [TN,show Az.length=(Az.map (·.1)).length by rw [Y0],YL] at hOT;obtain ⟨oth,eoth⟩:∃ l,l=AX (Az.map (·.1)) op:=⟨_,rfl⟩
  obtain ⟨ss,ess⟩:∃ l,l=Az.map (·.1):=⟨_,rfl⟩
  rw [<-eoth] at hOT otl;have eall:BL ss op=oth.map Em ++ op.flatMap (C7 ss op):=by rw [eoth,ess]; rfl
  have Uc:ss.Nodup:=ess ▸ sn;refine ⟨_,rfl,OT,rfl,⟨_,AB.of hOT⟩,?_⟩;refine MU Bp (xs:=oth.map V.str) (fun D i σ H'=>∃ (v0:Option V) (kvs:List (List A6 × V)),σ=[v0,some (.ref o)]/\Ar H1 H'/\H' D=some (.dT kvs)/\Cp H' op kvs ((oth.take i).map Em))
   (fun D hD=>⟨_,[],rfl,Ad hD,Ab,Cp.nil⟩) (fun D i σ H' hD ⟨v0,kvs,_,sa,_,_⟩=>AB.of (sa _ _ hOT)) ?_ ?_
  ·rintro D i σ H' x' B N hD ex ⟨v0,kvs,rfl,sa,AF,oc⟩ hB hN;obtain ⟨y,ey,rfl⟩:=BP ex;refine IX (B:=N ([v0,some (V.ref o)].set 0 (some (V.str y))) H') ⟨_,rfl,(by show 2<=sizeLine; lia),fun T hT=>?_⟩;have sT:=Ad (o:=.tup [V.str "open",V.str y]) hT;refine ⟨_,rfl,_,rfl,o,op,none,some y,rfl,sT _ _ (sa _ _ (s1 _ _ ho)),by lia,fun H5 t zs s5 ft ht ocz=>?_⟩;have R7:=sa.trans (sT.trans s5);have Lu:=s5 _ _ (sT _ _ AF);have QH:Cp H5 op kvs ((oth.take i).map Em):=oc.keep fun b ys z=>s5 _ _ (sT _ _ z)
   have nw:(Em y).1 ∉ ((oth.take i).map Em).map (·.1):=by
    refine Ky (ss:=ss) (op:=op) (R:=(oth.drop (i + 1)).map Em ++ op.flatMap (C7 ss op)) Uc on ?_;rw [eall];conv=>lhs; rw [Fs ey,YE,YK,Zw,ZH]
   have len:=QH.len;rw [Y0,Zf] at len;refine hB _ _ _ _ ⟨kvs,(Em y).1.map Sum.inr,T,rfl,s5 _ _ Ab,Lu,by lia,_,kvs ++ [((Em y).1.map Sum.inr,.ref t)],rfl,Bd R7 hD,?_,?_⟩
   ·rw [QH.new nw];exact Ab
   ·rw [CC Em ey];refine (QH.snoc ht ocz).keep fun b ys z=>?_
    rw [Af (fun e=>by rw [e,Lu] at z; cases z)];exact z
  rintro D σ H2 fD ⟨v0,kvs,rfl,s2,hD,oc⟩;rw [Y0,YL] at oc;have Yh:H D=none:=s1.free0 fD;have nOD:OT ≠ D:=Ah hOT fD;refine ⟨_,rfl,o,rfl,⟨_,A7.of ((s1.trans s2) _ _ ho)⟩,?_⟩;refine Cz (xs:=op.map V.str) (fun i σ H'=>∃ (v4 v5:Option V) (kvs:List (List A6 × V)),σ=[some (.ref c),some (.ref o),some (.ref OT),some (.ref D),v4,v5]/\Ar H H'/\H' OT=some (.lst (oth.map V.str))/\H' D=some (.dT kvs)/\Cp H' op kvs (oth.map Em ++ (op.take i).flatMap (C7 ss op)))
   ⟨_,_,kvs,rfl,s1.trans s2,s2 _ _ hOT,hD,by rw [bH,bD,Zq]; exact oc⟩ (fun i σ H' _ ⟨_,_,_,_,sa,_⟩=>A7.of (sa _ _ ho)) ?_ ?_
  ·rintro i v σ H' hv ⟨v4,v5,kv,rfl,sa,hO,AF,oc⟩ rt bk NN hN;obtain ⟨h,eh,rfl⟩:=BP hv;have hall:BL ss op=(oth.map Em ++ (op.take i).flatMap (C7 ss op)) ++ E2 h :: (oth.map (Fz h) ++ (op.drop (i + 1)).flatMap (C7 ss op)):=by
    rw [eall,Il _ eh,show C7 ss op h=E2 h :: oth.map (Fz h) by unfold C7; rw [eoth,ess]];simp only [Zw,ZH]
   obtain ⟨L0,eL0⟩:∃ l,l=oth.map Em ++ (op.take i).flatMap (C7 ss op):=⟨_,rfl⟩
   rw [<-eL0] at oc hall;have lens:L0.length + 1 + oth.length<=63:=by
    have:=congrArg Z5 hall;rw [ess] at this;rw [Y6,YX,Y6,Y0] at this;lia
   refine ⟨_,rfl,_,rfl,o,op,some h,none,rfl,sa _ _ ho,by lia,fun H5 t zs s5 ft ht ocz=>?_⟩;refine ⟨_,rfl,_,rfl,(by show 2<=sizeLine; lia),fun T hT=>?_⟩;have sT:=Ad (o:=.tup [V.str "shut",V.str h]) hT;have R7:=sa.trans (s5.trans sT);have Lu:=sT _ _ (s5 _ _ AF);have hO5:=sT _ _ (s5 _ _ hO);have QH:Cp (upd H5 T (.tup [V.str "shut",V.str h])) op kv L0:=oc.keep fun b ys z=>sT _ _ (s5 _ _ z)
   have nw:(E2 h).1 ∉ L0.map (·.1):=Ky Uc on hall;have len:=QH.len;refine ⟨D,_,rfl,DL.t (k:=(E2 h).1.map Sum.inr) Lu Ab (by lia),?_⟩;rw [QH.new nw];have Xk:=(QH.snoc (e:=E2 h) (sT _ _ ht) ocz).keep (H':=upd (upd H5 T (.tup [V.str "shut",V.str h])) D (.dT (kv ++ [((E2 h).1.map Sum.inr,.ref t)]))) fun b ys z=>by
    rw [Af (fun e=>by rw [e,Lu] at z; cases z)];exact z
   have s6:Ar H (upd (upd H5 T (.tup [V.str "shut",V.str h])) D (.dT (kv ++ [((E2 h).1.map Sum.inr,.ref t)]))):=Bd R7 Yh;have XY:(upd (upd H5 T (.tup [V.str "shut",V.str h])) D (.dT (kv ++ [((E2 h).1.map Sum.inr,.ref t)]))) D=some (.dT (kv ++ [((E2 h).1.map Sum.inr,.ref t)])):=Ab;have UH:(upd (upd H5 T (.tup [V.str "shut",V.str h])) D (.dT (kv ++ [((E2 h).1.map Sum.inr,.ref t)]))) OT=some (.lst (oth.map V.str)):=by rw [Af nOD]; exact hO5
   generalize upd (upd H5 T (.tup [V.str "shut",V.str h])) D (.dT (kv ++ [((E2 h).1.map Sum.inr,.ref t)]))=H6 at Xk s6 XY UH;generalize kv ++ [((E2 h).1.map Sum.inr,V.ref t)]=kv6 at Xk XY;refine ⟨_,rfl,OT,rfl,⟨_,AB.of UH⟩,?_⟩;refine JC (xs:=oth.map V.str) (fun j σ H'=>∃ (v5:Option V) (kvs:List (List A6 × V)),σ=[some (.ref c),some (.ref o),some (.ref OT),some (.ref D),some (.str h),v5]/\Ar H H'/\H' OT=some (.lst (oth.map V.str))/\H' D=some (.dT kvs)/\Cp H' op kvs (L0 ++ E2 h :: (oth.take j).map (Fz h)))
    ⟨_,kv6,rfl,s6,UH,XY,Xk⟩ (fun j σ H' _ ⟨_,_,_,_,hO,_⟩=>AB.of hO) ?_ ?_
   ·rintro j v σ H7 hv ⟨v5,Xs,rfl,s7,XJ,Vm,Wx⟩ RW bk2 NN2 hN2;obtain ⟨y,ey,rfl⟩:=BP hv;refine ⟨_,rfl,_,rfl,_,rfl,o,op,some h,some y,rfl,s7 _ _ ho,by lia,fun H8 t2 zs2 s8 ft2 FN Xi=>?_⟩;refine ⟨_,rfl,_,rfl,_,rfl,(by show 3<=sizeLine; lia),fun T2 Pr=>?_⟩;have V1:=Ad (o:=.tup [V.str "swap",V.str h,V.str y]) Pr;have Wt:=s7.trans (s8.trans V1);have Vl:=V1 _ _ (s8 _ _ Vm);have hO8:=V1 _ _ (s8 _ _ XJ);have Xj:Cp (upd H8 T2 (.tup [V.str "swap",V.str h,V.str y])) op Xs (L0 ++ E2 h :: (oth.take j).map (Fz h)):=Wx.keep fun b ys z=>V1 _ _ (s8 _ _ z)
    have nw2:(Fz h y).1 ∉ (L0 ++ E2 h :: (oth.take j).map (Fz h)).map (·.1):=by
     refine Ky (ss:=ss) (op:=op) (R:=(oth.drop (j + 1)).map (Fz h) ++ (op.drop (i + 1)).flatMap (C7 ss op)) Uc on ?_;rw [hall];conv=>lhs; rw [Fs ey]
     rw [YE,YK];simp only [Zw,ZH]
    have Sy:=Xj.len;rw [Y6,YX,Y0,Zf] at Sy;refine ⟨D,_,rfl,DL.t (k:=(Fz h y).1.map Sum.inr) Vl Ab (by lia),?_⟩;rw [Xj.new nw2];refine hN2 _ _ ⟨_,_,rfl,Bd Wt Yh,by rw [Af nOD]; exact hO8,Ab,?_⟩;rw [CC (Fz h) ey,<-ZH,<-Zw];refine (Xj.snoc (e:=Fz h y) (V1 _ _ FN) Xi).keep fun b ys z=>?_
    rw [Af (fun e=>by rw [e,Vl] at z; cases z)];exact z
   ·rintro σ H7 ⟨v5,Xs,rfl,s7,XJ,Vm,Wx⟩;rw [Y0,YL] at Wx;refine hN _ _ ⟨_,_,Xs,rfl,s7,XJ,Vm,?_⟩;rw [Jq _ eh,<-Zw,<-eL0];unfold C7;rw [<-ess] at eoth;rw [<-eoth];exact Wx
  rintro σ H3 ⟨v4,v5,kv,rfl,s3,hO3,Fy,oc3⟩;rw [Y0,YL,<-eall] at oc3;refine ⟨_,rfl,D,kv,rfl,Fy,fun ob ts H4 fz tl tt=>?_⟩;have OR:H4 D=some (.frz ob (.dT kv)):=by rw [fz.2]; exact Ab
  have s4:∀ b u,b ≠ D->H3 b=some u->H4 b=some u:=fun b u e z=>by rw [fz.2,Af e]; exact z
  have Ve:Ar H H4:=fun b u z=>s4 _ _ (Ah z Yh) (s3 _ _ z)
  have Vg:Cp H4 op kv (BL ss op):=oc3.keep fun b ys z=>s4 _ _ (fun e=>by rw [e,Fy] at z; cases z) z
  have kl:=Vg.len;have cs:=cx.cw.sites;have nms:∀ s ∈ Az.map (·.1),AY s=true:=fun s hs=>by
   obtain ⟨r,N2,rfl⟩:=YA.mp hs;exact cx.cw.map.at'.nm _ (cx.cw.ok1.sub r N2)
  refine MU Nh (fun D2 i σ H'=>∃ (v0:Option V) (kvs:List (List A6 × V)),σ=[v0,some (.ref c),some (.ref D)]/\Ar H4 H'/\H' D2=some (.dT kvs)/\Cp H' op kvs (((BL ss op).take i).filter (Bu x op)))
   (fun D2 Ij=>⟨_,[],rfl,Ad Ij,Ab,Cp.nil⟩) (fun D2 i σ H' Ij ⟨v0,kvs,_,sa,_,_⟩=>sa _ _ OR) ?_ ?_
  ·rintro D2 i σ H' x' B N Ij ex ⟨v0,kvs,rfl,sa,AF,oc⟩ hB hN;obtain ⟨T,eT,rfl⟩:∃ T,ts[i]? = some T/\x'=.ref T:=by
    rw [Y9] at ex;cases q:ts[i]? with
    | none=>rw [q] at ex; cases ex
    | some y=>rw [q] at ex; exact ⟨y,rfl,(YM.inj ex).symm⟩
   have hi:i < kv.length:=by rw [<-tl]; exact (Y8.mp eT).1
   have ek:kv[i]? = some kv[i]:=Y1 hi;obtain ⟨e,ee,ke⟩:=Vg.mem_get ek;have hT:=tt i T _ eT ek;rw [ke] at hT;obtain ⟨t,zs,vv,hz,ocz⟩:=Vg.val (E3 Uc on) ee;have em:=Y5 ee;have ein:=Io em;have dg:∀ {Rz:Hp},Ar H4 Rz->BN Rz D (.ref T) (some (.ref t)):=fun {Rz} s=>.inr ⟨kv,e.1.map Sum.inr,T,.inr ⟨ob,s _ _ OR⟩,rfl,s _ _ hT,vv.symm⟩
   have ocr:=ocz.nodup on ein;have zsub:=ocz.sub (fun s hs=>ess ▸ os s hs) ein;have zl:zs.length<=10:=by
    have:=List.Nodup.length_le_of_subset ocr zsub;rw [ess] at this;lia
   refine ⟨_,rfl,_,rfl,_,rfl,D,.ref t,rfl,dg sa,?_⟩;refine ⟨c,Az.map (·.1),x,d,.ref t,rfl,(cx.cw.same (Ve.trans sa)).sites,cx.ri,nms,.inl ⟨_,NL.strs (sa _ _ hz) (by lia) (fun s hs=>YU (QJ (nms _ (ess ▸ zsub s hs))) (by decide)),fun b H5 s5 hb=>?_⟩⟩
   ·have Fb:b=true ↔ Bu x op e=true:=hb.trans (ocz.isOp cx.ri on os (ess ▸ ein));have tk:=CT (Bu x op) ee;have Vz:=sa.trans s5;refine ⟨_,rfl,?_⟩;refine BI (fun z=>?_) (fun z=>?_)
    ·rw [if_pos (Fb.mp z)] at tk;refine ⟨_,rfl,_,rfl,_,rfl,D,.ref t,rfl,dg Vz,?_⟩;have QH:Cp H5 op kvs (((BL ss op).take i).filter (Bu x op)):=oc.keep fun b ys z=>s5 _ _ z
     have Lu:=s5 _ _ AF;have nw:e.1 ∉ (((BL ss op).take i).filter (Bu x op)).map (·.1):=fun hm=>by
      have:=Ky Uc on (Fs ee);obtain ⟨e',Ig,q⟩:=YA.mp hm;exact this (YA.mpr ⟨e',(Zh.mp Ig).1,q⟩)
     have len:=QH.len;have lf:(((BL ss op).take i).filter (Bu x op)).length<=(BL ss op).length:=YU (Zc _ _) (by rw [Zf]; exact Nat.min_le_right _ _);rw [<-ess] at Vq;refine hB _ _ _ _ ⟨kvs,e.1.map Sum.inr,T,rfl,Vz _ _ hT,Lu,by lia,_,kvs ++ [(e.1.map Sum.inr,.ref t)],rfl,Bd Vz Ij,?_,?_⟩
     ·rw [QH.new nw];exact Ab
     ·rw [tk];refine (QH.snoc (Vz _ _ hz) ocz).keep fun b ys z=>?_
      rw [Af (fun e=>by rw [e,Lu] at z; cases z)];exact z
    ·rw [if_neg (fun w=>z (Fb.mpr w)),Zq] at tk;exact hN _ _ ⟨_,kvs,rfl,Vz,s5 _ _ AF,by rw [tk]; exact oc.keep fun b ys z=>s5 _ _ z⟩
  ·rintro D2 σ H' Ij ⟨v0,kvs,rfl,sa,AF,oc⟩;rw [Y0,tl,kl,YL] at oc;exact k _ D2 kvs (Ve.trans sa) (Ve.free0 Ij) AF (by rw [<-ess]; exact oc)
end
section
variable {P:Program} {w:World} {K:Y3} {mg:Str->Option Value} {base:Heap}
theorem Mh (h_sorted:mg "sorted"=none) (h_tuple:mg "tuple"=none)  {f:Addr} {fd:FuncData} (F:EO K "changed" "changed" EI f fd):AJ P w K mg base Cb 1 f fd ["opening","out","more"] Js:=by
 refine F.ok Hy (fun vs H Q E h=>?_) (fun cdv A outer s H vs Q E hr h=>?_)
 ·obtain ⟨o,op,out,more,rfl,_⟩:=h;rfl
 ·obtain ⟨o,op,out,more,rfl,ho,ol,k⟩:=h;have nd:=Hy.nd;have big:100000 < sizeLine:=by decide
  refine ⟨_,(Ae (DS (ix:=3) (N:=["house","out"]) (σ0:=fun σ=>[none,some 1].map fun j=>j.bind fun j=>(σ[j]?).join) nd rfl (Or.inl rfl) rfl (A2.caught (by rfl) (by decide +kernel) rfl (by decide +kernel) (by intro y hy; simp only [Y4,YB,or_false] at hy; rcases hy with rfl <;> rfl)
   (by intro y hy e; simp only [Y4,YB,or_false] at hy; rcases hy with rfl | rfl | rfl <;> first | exact ⟨_,rfl⟩ | cases e)) (fun σ _=>AH.of [none,some 1] rfl (by
   intro i j x h1 h2;match i,h1,h2 with
   | 0,_,h2=>cases h2
   | 1,h1,h2=>cases h1; cases h2; exact ⟨rfl,.inl rfl,.inl rfl⟩
   | n + 2,h1,_=>cases h1)) (AR K rfl (pv 0))
   (fun s2 H C fp=>⟨(Ai (i:=0) (show (["house","out"]:List Str).Nodup by decide +kernel) rfl (Or.inl rfl)),(Dp (By Ni (pv 0) (pv 1) (BF _))),(pv 0)⟩))
  (Al (AK (A1 (A8 K rfl) (by rfl) h_tuple PyProof.Rows.boot_tuple (Aa (Ak (FR K rfl) (by rfl) h_sorted PyProof.Rows.boot_sorted (Aa (Lb (Et (HF (pv 2))) (pv 3) (Aw Mf (pv 3) (B9 (Aa (pv 2) Ac)))) Ac)) Ac))))),?_⟩
  have sc:∀ (h:Str) (q:Option Str),Ue (.str h) (oS q)=true:=fun h q=>by cases q <;> rfl
  have nq:∀ (h:Str) (q:Option Str),(!decide (V.str h=oS q))=decide (some h ≠ q):=fun h q=>by cases q <;> simp [oS]
  refine ⟨_,rfl,o,rfl,⟨_,A7.of ho⟩,?_⟩;refine BR BD (xs:=op.map V.str) (fun D i σ H' acc=>∃ v0:Option V,σ=[v0,some (oS out)]/\Ar H H'/\H' D=some (.lst acc)/\acc=(Ba (op.take i) out).map V.str)
   (by rw [Y0]; lia) (fun D hD=>⟨_,rfl,Ad hD,Ab,rfl⟩) (fun D i σ H' acc hD ⟨v0,_,sa,AF,ea⟩=>⟨A7.of (sa _ _ ho),AF,by rw [ea,Y0]; exact YU (Zc _ _) (by rw [Zf]; exact ZU _ _)⟩) ?_ ?_
  ·rintro D i σ H' acc x' B N hD ex ⟨v0,rfl,sa,AF,rfl⟩ hB hN;obtain ⟨y,ey,rfl⟩:=BP ex;have tk:=CT (fun h=>decide (some h ≠ out)) ey;refine ⟨_,rfl,_,rfl,sc _ _,_,rfl,?_⟩;rw [nq];refine BI (fun z=>?_) (fun z=>?_)
   ·rw [if_pos z] at tk;exact ⟨_,rfl,hB _ _ _ AF ⟨_,rfl,Bd sa hD,Ab,by unfold Ba; rw [tk,YE]; rfl⟩⟩
   ·rw [if_neg z,Zq] at tk;exact hN _ _ ⟨_,rfl,sa,AF,by unfold Ba; rw [tk]⟩
  ·rintro D σ H' acc hD ⟨v0,rfl,sa,AF,rfl⟩;rw [Y0,YL] at AF;have kl:(Ba op out).length<=op.length:=Zc _ _;have Co:∀ (H2:Hp) (L:Addr) (ys:List Str),Ar H H2->H2 L=some (.lst (ys.map V.str))->ys=Ba op out ++ more.toList->∃ (a:Addr) (ss:List Str),[V.ref L]=[.ref a]/\AB K H2 a (ss.map V.str)/\ss.length < 64/\∀ (l:Addr) (Cd:List Str),H2 l=none->Cd.Perm ss->PyProof.Rows.sortedS Cd=true->∃ (p:Addr) (ys:List V),[V.ref l]=[.ref p]/\((AB K (upd H2 l (.lst (Cd.map V.str))) p ys/\∀ t,(upd H2 l (.lst (Cd.map V.str))) t=none->Q (.ref t) (upd (upd H2 l (.lst (Cd.map V.str))) t (.tup ys)))\/(A7 K (upd H2 l (.lst (Cd.map V.str))) p ys/\Q (.ref p) (upd H2 l (.lst (Cd.map V.str))))):=fun H2 L ys s2 hL ey=>by
    refine ⟨L,ys,rfl,AB.of hL,?_,fun l zs hl pz sz=>⟨l,zs.map V.str,rfl,.inl ⟨AB.of Ab,fun t ht=>?_⟩⟩⟩
    ·rw [ey,Y6];have:more.toList.length<=1:=by cases more <;> simp
     lia
    ·have s3:=s2.trans (Ad (o:=.lst (zs.map V.str)) hl);exact k _ t zs (s3.trans (Ad ht)) (s3.free0 ht) Ab ⟨ey ▸ pz,sz⟩
   refine ⟨_,rfl,_,rfl,?_⟩;cases more with
   | none=>
    refine BI (fun _=>⟨_,rfl,?_⟩) (fun z=>by simp [oS] at z);exact Co _ D _ sa AF (by simp)
   | some s=>
    refine BI (fun z=>by simp [oS] at z) (fun _=>⟨_,rfl,_,rfl,(by show 1<=sizeLine; lia),fun L1 XQ=>?_⟩);have s2:=Ad (o:=.lst [V.str s]) XQ;refine ⟨D,L1,_,_,rfl,rfl,s2 _ _ AF,Ab,by rw [Y0]; show _ + 1<=sizeLine; lia,fun L2 XO=>?_⟩;exact Co _ L2 (Ba op out ++ [s]) ((sa.trans s2).trans (Ad XO)) (by rw [YE]; exact Ab) rfl
end
section
variable {P:Program} {w:World} {K:Y3} {mg:Str->Option Value} {base:Heap}
theorem GQ (h_int:mg "int"=none) (h_len:mg "len"=none) (h_sorted:mg "sorted"=none) {f:Addr} {fd:FuncData} (F:EO K "_law_openings" "_law_openings" Cv f fd):AJ P w K mg base Cb 1 f fd ["_law_case_here"] Qh:=by
 refine F.ok Ei (fun vs H Q E h=>?_) (fun cdv A outer s H vs Q E hr h=>?_)
 ·obtain ⟨c,sites,x,d,rfl,_⟩:=h;rfl
 ·obtain ⟨c,sites,x,d,rfl,cs,s6,k⟩:=h;have nd:=Ei.nd;have big:100000 < sizeLine:=by decide
  refine ⟨_,(Ae (Aq (i:=1) nd rfl (Or.inl rfl) (B9 (Aa (A9 Ac) Ac)))
  (Ae (Bs PassesOwn.never rfl (AR K rfl (AA (AS K rfl) (pv 0) Ag (fun _ _=>rfl))) (B7 K rfl rfl (As (Ai (i:=2) nd rfl (Or.inr rfl)) (As (Ai (i:=3) nd rfl (Or.inl rfl)) B6)))
  (Al (Aq (i:=1) nd rfl (Or.inl rfl) (Aw Mf (pv 1) (Bv (N:=["_law_one","_law_place"]) (σ0:=fun σ=>[none,some 2].map fun j=>j.bind fun j=>(σ[j]?).join) rfl (A2.caught (by rfl) (by decide +kernel) rfl (by decide +kernel) (by intro y hy; simp only [Y4,YB,or_false] at hy; rcases hy with rfl <;> rfl)
   (by intro y hy e; simp only [Y4,YB,or_false] at hy; rcases hy with rfl | rfl | rfl <;> first | exact ⟨_,rfl⟩ | cases e)) (fun σ _=>AH.of [none,some 2] rfl (by
   intro i j x h1 h2;match i,h1,h2 with
   | 0,_,h2=>cases h2
   | 1,h1,h2=>cases h1; cases h2; exact ⟨rfl,.inl rfl,.inl rfl⟩
   | n + 2,h1,_=>cases h1)) (Kh (pv 1))
   (fun s2 H C fp=>⟨(Ai (i:=0) (show (["_law_one","_law_place"]:List Str).Nodup by decide +kernel) rfl (Or.inl rfl)),AQ,(Aw (HI K rfl) (pv 0) (A9 (Aa (pv 1) Ac)))⟩))))))
  (Ae (Aq (i:=4) nd rfl (Or.inr rfl) (AA Nw (B9 (Aa (AA (AS K rfl) (pv 0) Ag (fun _ _=>rfl)) (Aa (Ak Ec (by rfl) h_len PySem.boot_len (Aa (AA (AS K rfl) (pv 0) Ag (fun _ _=>rfl)) Ac)) Ac))) (A1 EN (by rfl) h_int PyProof.Rows.boot_int (Aa (QA (HF (AA (AS K rfl) (pv 0) Ag (fun _ _=>rfl)))) Ac)) (fun _ _=>rfl)))
  (Al (AK (Ak (EU K rfl) (by rfl) h_sorted PyProof.Rows.boot_sorted (Aa (Bv (N:=["_law_one","_law_most"]) (σ0:=fun σ=>[none,some 4].map fun j=>j.bind fun j=>(σ[j]?).join) rfl (A2.caught (by rfl) (by decide +kernel) rfl (by decide +kernel) (by intro y hy; simp only [Y4,YB,or_false] at hy; rcases hy with rfl <;> rfl)
   (by intro y hy e; simp only [Y4,YB,or_false] at hy; rcases hy with rfl | rfl | rfl | rfl <;> first | exact ⟨_,rfl⟩ | cases e)) (fun σ _=>AH.of [none,some 4] rfl (by
   intro i j x h1 h2;match i,h1,h2 with
   | 0,_,h2=>cases h2
   | 1,h1,h2=>cases h1; cases h2; exact ⟨rfl,.inl rfl,.inl rfl⟩
   | n + 2,h1,_=>cases h1)) (Kh (pv 1))
   (fun s2 H C fp=>⟨(Ai (i:=0) (show (["_law_one","_law_most"]:List Str).Nodup by decide +kernel) rfl (Or.inl rfl)),(Dp (HC J1 Le Ag (Ak (Ax K rfl) (by rfl) h_len PySem.boot_len (Aa (pv 0) Ac)) (pv 1))),(pv 0)⟩)) Ac))))))),?_⟩
  obtain ⟨mV,t2V,t1,ER,Az,hc,Fq,GY,rfl,snd,sl,lim⟩:=cs;have ul:=BQ GY;rw [Y0] at sl;refine ⟨(by show 0<=sizeLine; lia),fun T0 hT0=>⟨(by show 1<=sizeLine; lia),fun L0 XU=>?_⟩⟩;have s0:=(Ad (o:=.tup []) hT0).trans (Ad (o:=.lst [.ref T0]) XU);refine ⟨_,rfl,c,_,_,_,rfl,rfl,A7.of (s0 _ _ hc),rfl,t1,rfl,⟨_,A7.of (s0 _ _ Fq)⟩,?_⟩;refine Lw (xs:=ER) (fun i σ H'=>∃ (L:Addr) (us:List V) (fs:List (List Str)) (v2 v3 v4:Option V),σ=[some (.ref c),some (.ref L),v2,v3,v4]/\Ar H H'/\H' L=some (.lst us)/\Ct H' us fs/\GH ((Az.map (·.1)).take i) 100 fs/\fs.length<=2 ^ i)
   ⟨L0,[.ref T0],[[]],_,_,_,rfl,s0,Ab,.cons (by rw [Af (by intro z; subst z; rw [Ab] at XU; cases XU)]; exact Ab) .nil,GH.nil (by decide),Y7 _⟩
   (fun i σ H' _ ⟨_,_,_,_,_,_,_,sa,_⟩=>A7.of (sa _ _ Fq)) ?_ ?_
  ·rintro i xx σ H' ex ⟨L,us,fs,v2,v3,v4,rfl,sa,hL,tU,sub,fl⟩ rt bk;obtain ⟨u,t,eu,rfl,ht⟩:=C0 GY ex;have hi:i < Az.length:=(Y8.mp eu).1;have f512:fs.length<=512:=YU fl (YU (aX (by decide) (show i<=9 by lia)) (by decide));have hul:=tU.len;have Wf:∀ f ∈ fs,f.length<=10:=fun f hf=>by
    have:=((sub.2 f).mp hf).1.length_le;rw [Zf,Y0] at this;lia
   refine ⟨t,_,rfl,A7.of (sa _ _ ht),rfl,_,_,rfl,_,_,rfl,rfl,?_⟩;refine ⟨_,rfl,_,rfl,L,rfl,⟨_,AB.of hL⟩,?_⟩;refine Be Bp (xs:=us) (fun D j Av H2 acc=>∃ v0:Option V,Av=[v0,some (.str u.1)]/\Ar H' H2/\H2 D=some (.lst acc)/\Ct H2 acc ((fs.take j).map (· ++ [u.1]))/\acc.length=j)
    (by lia) (fun D hD=>⟨_,rfl,Ad hD,Ab,.nil,rfl⟩) (fun D j Av H2 acc hD ⟨v0,_,sb,AF,_,al⟩=>⟨AB.of (sb _ _ hL),AF,al⟩) ?_ ?_
   ·rintro D j Av H2 acc x' B hD T6 ⟨v0,rfl,sb,AF,tp,al⟩ hB;obtain ⟨tf,f,rfl,ef,htf⟩:=tU.get T6;have fm:=Wf f (Y5 ef);refine ⟨_,rfl,_,rfl,(by show 1<=sizeLine; lia),fun T1 Ra=>?_⟩;have q1:=Ad (o:=.tup [.str u.1]) Ra;have XC:(upd H2 T1 (.tup [.str u.1])) T1=some (.tup [.str u.1]):=Ab;refine catA (K:=K) (q1 _ _ (sb _ _ htf)) XC (by rw [Y0]; show f.length + 1<=sizeLine; lia) fun T H5 s5 hT=>?_
    have q5:=q1.trans s5;refine hB _ _ _ (q5 _ _ AF) ⟨_,rfl,fun b o' z=>by rw [Af (Ah z hD)]; exact q5 _ _ (sb _ _ z),Ab,?_,by rw [Y6,al]; rfl⟩;rw [YS,ef,YE];have hT':H5 T=some (.tup ((f ++ [u.1]).map V.str)):=by rw [hT,YE]; rfl
    refine ((tp.keep fun b ys z=>q5 _ _ z).app (.cons hT' .nil)).keep fun b ys z=>?_
    rw [Af (BE z (q5 _ _ AF) (fun q=>by cases q))];exact z
   ·rintro D Av H2 acc hD ⟨v0,rfl,sb,AF,tp,al⟩;refine ⟨L,D,us,acc,rfl,rfl,sb _ _ hL,AF,by lia,fun p hp=>?_⟩;have sp:=Ad (o:=.lst (us ++ acc)) hp;rw [hul,YL] at tp;have e0:(Az.map (·.1))[i]? = some u.1:=by rw [Y9,eu]; rfl
    have e1:(Az.map (·.1)).take (i + 1)=(Az.map (·.1)).take i ++ [u.1]:=by rw [YS,e0]; rfl
    have nin:u.1 ∉ (Az.map (·.1)).take i:=by
     have:=snd.sublist (cG (i + 1) _);rw [e1] at this;exact fun z=>(Zr.mp this).2.2 _ z _ (by simp) rfl
    have ef:(fs.filter fun f=>decide ((f.length:Int) < 100))=fs:=ak.mpr fun f hf=>decide_eq_true (by have:=Wf f hf; lia)
    refine ⟨p,us ++ acc,fs ++ fs.map (· ++ [u.1]),_,_,_,rfl,(sa.trans sb).trans sp,Ab,((tU.keep fun b ys z=>sb _ _ z).app tp).keep (fun b ys z=>sp _ _ z),?_,?_⟩
    ·rw [e1];have:=GH.step nin sub;rw [ef] at this;exact this
    ·rw [Y6,Y0,Nat.pow_succ];lia
  ·rintro σ H' ⟨L,us,fs,v2,v3,v4,rfl,sa,hL,tU,sub,fl⟩;rw [ul,aJ (by rw [Y0]; exact Y7 _)] at sub;rw [ul] at fl;have f64:fs.length<=64:=YU fl (YU (aX (by decide) (by rw [Y0] at s6; exact s6)) (by decide));have Wg:fs.length<=1024:=YU fl (YU (aX (by decide) sl) (by decide));have hul:=tU.len;have Hn:=sa _ _ hc;have X2:=sa _ _ Fq;obtain ⟨mo,hmo,mok⟩:∃ mo:Int,JN [x,V.int (ER.length:Int)] (if decide (x=.non)=true then 1 else 0)=some (.int mo)/\∀ f ∈ fs,((f.length:Int)<=mo ↔ C2 x f.length=true):=by
    rcases lim with ⟨rfl,_⟩ | ⟨i,rfl,_,i1,i2⟩
    ·refine ⟨ER.length,rfl,fun f hf=>⟨fun _=>rfl,fun _=>?_⟩⟩;have:=((sub.2 f).mp hf).1.length_le;rw [Y0] at this;lia
    ·exact ⟨i,rfl,fun f hf=>⟨fun h=>decide_eq_true h,fun h=>of_decide_eq_true h⟩⟩
   refine ⟨_,rfl,c,_,_,_,rfl,rfl,A7.of Hn,rfl,_,rfl,c,_,_,_,rfl,rfl,A7.of Hn,rfl,t1,_,rfl,.inr (A7.of X2),(by show 2<=sizeLine; lia),fun M hM=>?_⟩;have sM:=Ad (o:=.lst [x,.int (ER.length:Int)]) hM;have hMM:(upd H' M (.lst [x,.int (ER.length:Int)])) M=some (.lst [x,.int (ER.length:Int)]):=Ab;generalize upd H' M (.lst [x,.int (ER.length:Int)])=H1 at sM hMM ⊢;refine ⟨_,rfl,c,_,_,_,rfl,rfl,A7.of (sM _ _ Hn),rfl,.inr ⟨_,rfl,M,_,_,_,rfl,rfl,AB.of hMM,hmo,?_⟩⟩;refine ⟨_,rfl,L,rfl,⟨_,AB.of (sM _ _ hL)⟩,?_⟩;refine BR Bp (xs:=us) (fun D i Av H2 acc=>∃ v0:Option V,Av=[v0,some (.int mo)]/\Ar H1 H2/\H2 D=some (.lst acc)/\Ct H2 acc ((fs.take i).filter fun f=>decide (0 < f.length) && C2 x f.length)/\acc.length<=i)
    (by lia) (fun D hD=>⟨_,rfl,Ad hD,Ab,.nil,Y7 _⟩) (fun D i Av H2 acc hD ⟨v0,_,sb,AF,_,al⟩=>⟨AB.of (sb _ _ (sM _ _ hL)),AF,al⟩) ?_ ?_
   ·rintro D i Av H2 acc x' B N hD ex ⟨v0,rfl,sb,AF,tp,al⟩ hB hN;obtain ⟨tf,f,rfl,ef,htf⟩:=tU.get ex;have VH:=sb _ _ (sM _ _ htf);have mk:=mok f (Y5 ef);have yes:(decide (0 < f.length) && C2 x f.length)=true->B [some (.ref tf),some (.int mo)] (.ref tf) H2:=fun z=>by
     refine hB _ _ _ AF ⟨_,rfl,fun b o' z=>by rw [Af (Ah z hD)]; exact sb _ _ z,Ab,?_,by rw [Y6]; simp; lia⟩;rw [YS,ef,ZA];simp only [cU,ZI,z,if_true,cV];refine (tp.app (.cons VH .nil)).keep fun b ys z=>?_
     rw [Af (BE z AF (fun q=>by cases q))];exact z
    have no:(decide (0 < f.length) && C2 x f.length)=false->N [some (.ref tf),some (.int mo)] H2:=fun z=>by
     refine hN _ _ ⟨_,rfl,sb,AF,?_,by lia⟩;rw [YS,ef,ZA];simp only [cU,ZI,z,Za,if_false,cV,Zq];exact tp
    refine ⟨_,rfl,tf,_,rfl,.inr (A7.of VH),_,_,rfl,rfl,_,rfl,?_⟩;rw [Y0];refine BI (fun z1=>?_) (fun z1=>?_)
    ·have Wo:0 < f.length:=by have:=of_decide_eq_true z1; lia
     refine ⟨_,rfl,_,_,rfl,rfl,_,rfl,?_⟩;refine BI (fun z=>?_) (fun z=>?_)
     ·exact ⟨_,rfl,yes (by rw [decide_eq_true Wo,mk.mp (of_decide_eq_true z)]; rfl)⟩
     ·refine no ?_;rw [decide_eq_true Wo,Bool.true_and];cases hb:C2 x f.length with
      | false=>rfl
      | true=>exact absurd (decide_eq_true (mk.mpr hb)) z
    ·have z0:¬ ((0:Int) < f.length):=by simpa using z1
     have Wo:¬ 0 < f.length:=by lia
     refine ⟨_,rfl,?_⟩;refine GV ?_;exact no (by rw [decide_eq_false Wo]; rfl)
   ·rintro D Av H2 acc hD ⟨v0,rfl,sb,AF,tp,al⟩;rw [hul,YL] at tp;refine ⟨D,acc,fun _=>true,rfl,AB.of AF,tp.kinds (fun f hf=>?_),?_,fun l Jh hl pm=>?_⟩
    ·have:=(Zh.mp hf).2;simp only [Zn,decide_eq_true_eq] at this;intro z;rw [z] at this;simp at this
    ·have e1:=tp.len;have e2:=(aU (p:=fun f:List Str=>decide (0 < f.length) && C2 x f.length) (l:=fs)).mpr ⟨[],(sub.2 []).mpr ⟨aI _,by decide⟩,by simp⟩;lia
    ·obtain ⟨os,po,to⟩:=Ct.perm pm tp;have Ql:=Ad (o:=.lst Jh) hl;refine k _ l Jh os (((sa.trans sM).trans sb).trans Ql) ?_ Ab (to.keep fun b ys z=>Ql _ _ z) ⟨po.nodup_iff.mpr (sub.1.sublist ZG),?_,fun ss=>?_⟩ (by rw [po.length_eq]; exact YU (Zc _ _) Wg)
     ·exact ((sa.trans sM).trans sb).free hl
     ·trivial
     ·rw [po.mem_iff,Zh,sub.2,Zn,decide_eq_true_eq];constructor
      ·rintro ⟨⟨h1,_⟩,h2,h3⟩;exact ⟨by intro z; rw [z] at h2; simp at h2,h1,h3⟩
      ·rintro ⟨h1,h2,h3⟩;refine ⟨⟨h2,?_⟩,ZF.mpr h1,h3⟩;have:=h2.length_le;rw [Y0] at this;lia
end
section
variable {P:Program} {w:World} {K:Y3} {mg:Str->Option Value} {base:Heap}
theorem Km (h_min:mg "min"=none) (h_sum:mg "sum"=none) {f:Addr} {fd:FuncData} (F:EO K "_law_costs" "_law_costs" Dl f fd):AJ P w K mg base Cb 1 f fd ["_law_case_here","_law_lengths_here","_law_opening"] MM:=by
 refine F.ok FA (fun vs H Q E h=>?_) (fun cdv A outer s H vs Q E hr h=>?_)
 ·obtain ⟨c,m,A0,o,n,xs,ws,Az,Bh,x,d,ss,rfl,_⟩:=h;rfl
 ·obtain ⟨c,m,A0,o,n,xs,ws,Az,Bh,x,d,ss,rfl,cw,kn,ho,Ww,MR,k⟩:=h;have nd:=FA.nd;have hu:=Ey hr;have big:100000 < sizeLine:=by decide
  refine ⟨_,(Ae (Aq (i:=3) nd rfl (Or.inl rfl) (Ak (D5 rfl) (by rfl) h_sum PyProof.Rows.boot_sum (Aa (Bv (N:=["_law_place","_law_amount","_law_opening"]) (σ0:=fun σ=>[none,none,some 2].map fun j=>j.bind fun j=>(σ[j]?).join) rfl (A2.caught (by rfl) (by decide +kernel) rfl (by decide +kernel) (by intro y hy; simp only [Y4,YB,or_false] at hy; rcases hy with rfl <;> rfl)
   (by intro y hy e; simp only [Y4,YB,or_false] at hy; rcases hy with rfl | rfl | rfl | rfl <;> first | exact ⟨_,rfl⟩ | cases e)) (fun σ _=>AH.of [none,none,some 2] rfl (by
   intro i j x h1 h2;match i,h1,h2 with
   | 0,_,h2=>cases h2
   | 1,_,h2=>cases h2
   | 2,h1,h2=>cases h1; cases h2; exact ⟨rfl,.inl rfl,.inl rfl⟩
   | n + 3,h1,_=>cases h1)) (AR K rfl (AA (AS K rfl) (pv 0) Ag (fun _ _=>rfl)))
   (fun s2 H C fp=>⟨(B7 K rfl (n:=2) rfl (As (Ai (i:=0) (show (["_law_place","_law_amount","_law_opening"]:List Str).Nodup by decide +kernel) rfl (Or.inl rfl)) (As (Ai (i:=1) (show (["_law_place","_law_amount","_law_opening"]:List Str).Nodup by decide +kernel) rfl (Or.inl rfl)) B6))),(Dp (By (Uw K rfl) (pv 0) (pv 2) (by rfl))),(pv 1)⟩)) Ac)))
  (Ae (Bs PassesOwn.never rfl (AR K rfl (AA (AS K rfl) (pv 0) Ag (fun _ _=>rfl))) (B7 K rfl rfl (As (Ai (i:=4) nd rfl (Or.inr rfl)) (As (Ai (i:=5) nd rfl (Or.inl rfl)) B6)))
  (Al (Aq (i:=3) nd rfl (Or.inl rfl) (Aw Bi (pv 3) (Aw Nj (pv 5) (Ak (Fd rfl) (by rfl) h_min PyProof.Rows.boot_min (Aa (Bv (N:=["_law_house","_law_lengths_here","_law_place"]) (σ0:=fun σ=>[none,some 1,some 4].map fun j=>j.bind fun j=>(σ[j]?).join) rfl (A2.caught (by rfl) (by decide +kernel) rfl (by decide +kernel) (by intro y hy; simp only [Y4,YB,or_false] at hy; rcases hy with rfl | rfl <;> rfl)
   (by intro y hy e; simp only [Y4,YB,or_false] at hy; rcases hy with rfl | rfl | rfl | rfl <;> first | exact ⟨_,rfl⟩ | cases e)) (fun σ _=>AH.of [none,some 1,some 4] rfl (by
   intro i j x h1 h2;match i,h1,h2 with
   | 0,_,h2=>cases h2
   | 1,h1,h2=>cases h1; cases h2; exact ⟨rfl,.inl rfl,.inl rfl⟩
   | 2,h1,h2=>cases h1; cases h2; exact ⟨rfl,.inl rfl,.inl rfl⟩
   | n + 3,h1,_=>cases h1)) (AR K rfl (pv 2))
   (fun s2 H C fp=>⟨(Ai (i:=0) (show (["_law_house","_law_lengths_here","_law_place"]:List Str).Nodup by decide +kernel) rfl (Or.inl rfl)),AQ,(Bm hu (pv 1) (A9 (Aa (pv 2) (Aa (pv 0) Ac))) (fun _ _=>rfl))⟩)) Ac)))))))
  (Al (AK (pv 3))))),?_⟩
  obtain ⟨t1,t2,ER,LM,hc,Fq,GY,FN,hd2⟩:=cw.ex;have TN:=BQ GY;have ul2:=BQ hd2;have l1:=cw.l1;have l2:=cw.l2;have ssx:∀ s ∈ ss,s ∈ xs:=fun s hs=>by
   obtain ⟨r,hr,e⟩:=YA.mp (Ww.2.2 s hs);have e':r.1=s:=e;rw [<-e'];exact cw.ok1.sub r hr
  refine ⟨_,rfl,c,_,_,_,rfl,rfl,A7.of hc,rfl,t1,rfl,⟨_,A7.of Fq⟩,?_⟩;refine BR BD (xs:=ER) (fun D i σ H' acc=>∃ v0 v1:Option V,σ=[v0,v1,some (.ref o)]/\Ar H H'/\H' D=some (.lst acc)/\acc=(((Az.take i).filter fun r=>decide (r.1 ∈ ss)).map (·.2)).map V.int/\acc.length<=i)
   (by lia) (fun D hD=>⟨_,_,rfl,Ad hD,Ab,rfl,Y7 _⟩)
   (fun D i σ H' acc hD ⟨v0,v1,_,sa,AF,_,al⟩=>⟨A7.of (sa _ _ Fq),AF,al⟩) ?_ ?_
  ·rintro D i σ H' acc x' B N hD ex ⟨v0,v1,rfl,sa,AF,ea,al⟩ hB hN;obtain ⟨u,t,eu,rfl,ht⟩:=C0 GY ex;refine ⟨t,_,rfl,A7.of (sa _ _ ht),rfl,_,_,rfl,_,_,rfl,rfl,?_⟩;refine ⟨_,rfl,_,rfl,o,_,rfl,.inr (A7.of (sa _ _ ho)),rfl,Gk ss,_,rfl,?_⟩;rw [Ie];refine BI (fun hz=>?_) (fun hz=>?_)
   ·have Pp:u.1 ∈ ss:=by simpa using hz
    refine ⟨_,rfl,?_⟩;refine hB _ _ _ AF ⟨_,_,rfl,fun b o' z=>by rw [Af (Ah z hD)]; exact sa _ _ z,Ab,?_,by rw [Y6]; simp; lia⟩;rw [ea,YS,eu,ZA,YE,YE];simp [Pp]
   ·have Pp:¬ u.1 ∈ ss:=by simpa using hz
    refine hN _ _ ⟨_,_,rfl,sa,AF,?_,by lia⟩;rw [ea,YS,eu,ZA,YE,YE];simp [Pp]
  rintro D σ H1 acc hD ⟨v0,v1,rfl,s1,AF,ea,al⟩;rw [TN,YL] at ea;refine ⟨D,_,rfl,AB.of (by rw [AF,ea]),?_⟩;rw [Oe cw.ok1.nd Ww.2.1 Ww.2.2];refine ⟨_,rfl,c,_,_,_,rfl,rfl,A7.of (s1 _ _ hc),rfl,t2,rfl,⟨_,A7.of (s1 _ _ FN)⟩,Cz (xs:=LM) (fun i σ H'=>∃ (v4 v5:Option V) (ds:List Int),σ=[some (.ref c),some (.ref A0),some (.ref o),some (.int ((ss.map (Dz Az)).sum + Fj (Bh.take i) ds)),v4,v5]/\Ar H H'/\ds.length=i/\∀ (j:Nat) r d,Bh[j]? = some r->ds[j]? = some d->Md ws ss r.1 d)
   ⟨_,_,[],by have e:Fj (Bh.take 0) []=0:=(by rw [bH]; rfl); rw [e,b8]; rfl,s1,rfl,fun j r d _ e=>(by cases e)⟩ (fun i σ H' _ ⟨_,_,_,_,sa,_⟩=>A7.of (sa _ _ FN)) (fun i v σ H' hv hP rt bk N hN=>?_) (fun σ H' hP=>?_)⟩
  ·obtain ⟨v4,v5,ds,rfl,sa,dl,md⟩:=hP;obtain ⟨r,tt,er,rfl,htt⟩:=C0 hd2 hv;have rm:=Y5 er;have rx:=cw.ok2.sub r rm;have r4:=(cw.ok2.lo r rm).2;have r1:=(cw.ok2.lo r rm).1;refine ⟨tt,_,rfl,A7.of (sa _ _ htt),rfl,_,_,rfl,_,_,rfl,rfl,?_⟩;refine ⟨_,rfl,_,rfl,_,rfl,o,rfl,⟨_,A7.of (sa _ _ ho)⟩,?_⟩;refine Be BD (xs:=ss.map V.str) (fun D i Av H2 acc=>∃ v0:Option V,Av=[v0,some (.ref A0),some (.str r.1)]/\Ar H' H2/\H2 D=some (.lst acc)/\acc=((ss.take i).map fun s=>dst ws s r.1).map V.int/\acc.length=i)
    (by rw [Y0]; lia) (fun D hD=>⟨_,rfl,Ad hD,Ab,rfl,rfl⟩) (fun D i Av H2 acc hD ⟨v0,_,sb,AF,_,al⟩=>⟨A7.of (sb _ _ (sa _ _ ho)),AF,al⟩) ?_ ?_
   ·rintro D j Av H2 acc x' B hD T6 ⟨v0,rfl,sb,AF,ea,al⟩ hB;obtain ⟨s,es,rfl⟩:∃ s,ss[j]? = some s/\x'=.str s:=by
     rw [Y9] at T6;cases z:ss[j]? with
     | none=>rw [z] at T6; cases T6
     | some s=>rw [z] at T6; exact ⟨s,rfl,(YM.inj T6).symm⟩
    refine ⟨_,rfl,_,rfl,_,rfl,(by show 2<=sizeLine; lia),fun T hT=>?_⟩;have q2:=Ad (o:=.tup [.str r.1,.str s]) hT;have Mr:(upd H2 T (.tup [.str r.1,.str s])) T=some (.tup [.str r.1,.str s]):=Ab;generalize upd H2 T (.tup [.str r.1,.str s])=H3 at q2 Mr ⊢;obtain ⟨g2,_,_⟩:=(((kn.same sa).same sb).same q2).get rx (ssx s (Y5 es)) Mr;refine ⟨A0,_,rfl,g2,?_⟩;refine hB _ _ _ (q2 _ _ AF) ⟨_,rfl,fun b o e=>by rw [Af (Ah e hD)]; exact q2 _ _ (sb _ _ e),Ab,?_,by rw [Y6,al]; rfl⟩;rw [ea,YS,es,YE,YE];rfl
   ·rintro D Av H2 acc hD ⟨v0,rfl,sb,AF,ea,al⟩;rw [Y0,YL] at ea;refine ⟨D,ss.map fun s=>dst ws s r.1,rfl,by rw [AF,ea],by rw [Ne,bc]; exact Ww.1,fun mn hm hle=>?_⟩;obtain ⟨s,hs,es⟩:=YA.mp hm;have kd:=kn.dst (ssx s hs) rx;have kb:=cw.map.bound cw.n1 cw.n30 (ssx s hs) rx kd;rw [es] at kb;refine ⟨_,_,rfl,rfl,⟨⟨aw (by decide +kernel) r1,bV r4 (by decide +kernel)⟩,aw (by decide +kernel) kb.1,kb.2⟩,_,_,rfl,rfl,?_⟩;refine hN _ _ ⟨some (.str r.1),some (.int r.2),ds ++ [mn],?_,sa.trans sb,by rw [Y6,dl]; rfl,fun j r' d' e1 e2=>?_⟩
    ·rw [Lk er dl,<-br];rfl
    ·by_cases ej:j < ds.length
     ·rw [Zi ej] at e2;exact md j r' d' e1 e2
     ·rw [Zg (by lia)] at e2;have hj:j=i:=by
       have:=(Y8.mp e2).1;simp at this;lia
      subst hj;rw [er] at e1;cases e1
      rw [dl,aQ] at e2;cases e2
      refine ⟨⟨s,hs,by rw [<-es]; exact kd.1⟩,fun s' JA m' g=>?_⟩;have a1:=hle _ (YA.mpr ⟨s',JA,rfl⟩);have a2:=(kn.dst (ssx s' JA) rx).2 m' g;exact dk a1 a2
  ·obtain ⟨v4,v5,ds,rfl,sa,dl,md⟩:=hP;rw [ul2,YL];exact ⟨_,rfl,k H' _ sa ⟨ds,⟨by lia,md⟩,rfl⟩⟩
end
section
variable {P:Program} {w:World} {K:Y3} {mg:Str->Option Value} {base:Heap}
theorem HK {f:Addr} {fd:FuncData} (F:EO K "neighbours" "neighbours" CL f fd):AJ P w K mg base Cb 1 f fd ["web"] (Qc K):=by
 refine F.ok EW (fun vs H Q E h=>?_) (fun cdv A outer s H vs Q E hr h=>?_)
 ·obtain ⟨q,ps,ws,r,rfl,_⟩:=h;rfl
 ·obtain ⟨q,ps,ws,r,rfl,ok,k⟩:=h;obtain ⟨tp,tw,us,hq,htp,htw,hD⟩:=ok.web.ex;have nd:=EW.nd;have hu:=Ey hr;have big:1000 < sizeLine:=by decide
  have l30:=ok.l30;have l64:=ok.l64;refine ⟨_,Ae (Eu (pv 0) (B7 K rfl rfl (As (Ai (i:=1) nd rfl (Or.inl rfl)) (As (Ai (i:=2) nd rfl (Or.inl rfl)) B6))))
   (Ae (Q3 (ix:=3) (N:=["place"]) (σ0:=fun _=>[none]) nd rfl (Or.inl rfl) rfl (A2.plain (by decide +kernel) (by decide +kernel) rfl (by decide +kernel)) (fun σ _=>AH.none _ _ _ ["place"] σ) (AR K rfl (pv 1))
    (fun s2 H C fp=>⟨Ai (i:=0) (show (["place"]:List Str).Nodup by decide +kernel) rfl (Or.inl rfl),AQ,pv 0,Lc⟩))
   (Ae (Bs PassesOwn.never rfl (AR K rfl (pv 2)) (B7 K rfl rfl (As (Ai (i:=4) nd rfl (Or.inl rfl)) (As (Ai (i:=5) nd rfl (Or.inl rfl)) (As (Ai (i:=6) nd rfl (Or.inl rfl)) B6))))
    (Ae (BY hu (Bm hu (pv 3) (pv 4) (fun _ _=>rfl)) (pv 5) (pv 6) rfl) (Al (BY hu (Bm hu (pv 3) (pv 5) (fun _ _=>rfl)) (pv 4) (pv 6) rfl))))
   (Al (AK (pv 3))))),?_⟩
  refine ⟨_,rfl,q,_,rfl,A7.of hq,rfl,_,_,rfl,_,_,rfl,rfl,?_⟩;refine ⟨_,rfl,tp,rfl,⟨_,A7.of htp⟩,fun C hC=>⟨fun i m Av H'=>m=ps.length - i/\i<=ps.length/\(∃ v,Av=[v])/\∃ ds:List Addr,Ar H H'/\ds.length=i/\ds.Nodup/\C ∉ ds/\(∀ d ∈ ds,H d=none/\H' d=some (.dK []))/\H' C=some (.dK (sK (Np (ps.take i) ds))),
   ⟨_,rfl,Zd _,⟨_,rfl⟩,[],Ad hC,rfl,.nil,by simp,by simp,Ab⟩,?_⟩⟩
  rintro i m Av H' ⟨rfl,hi,⟨v,rfl⟩,ds,s1,dl,dn,dC,dH,N4⟩;have Mp:=s1 _ _ htp;by_cases B0:i < ps.length
  ·refine .inr ⟨⟨_,V.str ps[i],A7.of Mp,by rw [Y9,Y1 B0]; rfl⟩,?_⟩;rintro x H6 ⟨rfl,hx⟩;have Kw:=hx _ (A7.of Mp);rw [Y9,Y1 B0] at Kw;cases Kw
   have tl:(ps.take i).length=i:=by rw [Zf]; lia
   have np:ps[i] ∉ (Np (ps.take i) ds).map (·.1):=by
    rw [HQ (by lia)];intro hm;obtain ⟨j,hj,e⟩:=YQ hm;rw [ab] at e;have:=FH ok.nd (Y1 (show j < ps.length by lia)) (by rw [Y1 B0,e]);lia
   refine ⟨_,rfl,fun d hd=>⟨_,Sum.inr ps[i],rfl,Ad hd _ _ N4,?_,_,by lia,rfl,B0,⟨_,rfl⟩,ds ++ [d],fun b o z=>?_,by simp [dl],?_,?_,fun c hc=>?_,?_⟩⟩
   ·rw [CJ];unfold Np;rw [Y0,ai];lia
   ·rw [Af (Ah z hC)];exact Ad hd _ _ (s1 _ _ z)
   ·refine Zr.mpr ⟨dn,Zl.mpr ⟨by simp,.nil⟩,fun a ha b hb=>?_⟩;have e:b=d:=by simpa using hb
    subst e;rintro rfl;rw [(dH _ ha).2] at hd;cases hd
   ·rw [YR,not_or];refine ⟨dC,fun hm=>?_⟩;have e:C=d:=by simpa using hm
    rw [<-e,N4] at hd;cases hd
   ·rcases YR.mp hc with hc | hc
    ·refine ⟨(dH c hc).1,?_⟩;rw [Af (fun z=>dC (by rw [<-z]; exact hc))];exact Ad hd _ _ (dH c hc).2
    ·have e:c=d:=by simpa using hc
     subst e;refine ⟨s1.free hd,?_⟩;rw [Af (fun z=>by rw [z,N4] at hd; cases hd)];exact Ab
   ·rw [Ab,Dv np];have e1:ps.take (i + 1)=ps.take i ++ [ps[i]]:=by rw [YS,Y1 B0]; rfl
    have e2:Np (ps.take (i + 1)) (ds ++ [d])=Np (ps.take i) ds ++ [(ps[i],.ref d)]:=by
     unfold Np;rw [e1,cT (by lia),YE];rfl
    rw [e2]
  ·have e0:i=ps.length:=by lia
   subst e0;rw [YL] at N4;refine .inl ⟨⟨_,A7.of Mp,by rw [Y0]; exact Y7 _⟩,?_⟩;have NB0:NB H' C ps ds (K3 (ws.take 0)) 0:=⟨N4,dl,dn,dC,fun j p d e1 e2=>⟨[],(dH d (Y5 e2)).2,Y7 _,fun y=>⟨fun z=>absurd z YB,fun ⟨u,hu,_⟩=>absurd hu YB⟩⟩⟩
   have Yy:RD H' ps ds (BV (ws.take 0)):=fun j p d nv e1 e2 hr y v hy=>by
    have:nv=[]:=Rd.inj hr (.inl (dH d (Y5 e2)).2);subst this;cases hy
   have hwl:us.length=ws.length:=by rw [Iz hD,Y0]
   refine ⟨_,rfl,tw,rfl,⟨_,A7.of (s1 _ _ htw)⟩,Lw (xs:=us) (fun i σ H2=>(∃ v4 v5 v6,σ=[some (.ref q),some (.ref tp),some (.ref tw),some (.ref C),v4,v5,v6])/\Ar H H2/\NB H2 C ps ds (K3 (ws.take i)) (2 * i)/\RD H2 ps ds (BV (ws.take i))) ⟨⟨_,_,_,rfl⟩,s1,NB0,Yy⟩ (fun i σ H2 _ hP=>A7.of (hP.2.1 _ _ htw)) (fun i x σ H2 hx hP rt bk=>?_) (fun σ H2 hP=>?_)⟩
   ·obtain ⟨⟨v4,v5,v6,rfl⟩,s2,nb,nbv⟩:=hP;obtain ⟨u,t,gu,rfl,ht⟩:=Iy hD hx;have UG:i < ws.length:=(Y8.mp gu).1;have hu2:=ok.ends u (Y5 gu);refine ⟨t,_,rfl,A7.of (s2 _ _ ht),rfl,_,_,rfl,_,_,rfl,_,_,rfl,rfl,?_⟩;obtain ⟨j,d,nv,a1,a2,a3,a4,a5,a6⟩:=nb.get ok.nd hu2.1;obtain ⟨DE,b1,b2,b3⟩:=LX nv u.2.1 (.int u.2.2);have dH1:∀ c ∈ ds,H c=none:=fun c hc=>(dH c hc).1
    refine ⟨_,rfl,_,rfl,_,rfl,C,_,rfl,?_,_,rfl,d,_,rfl,DL.k (k:=Sum.inr u.2.1) a4 (by rw [CJ]; lia),?_⟩
    ·have:=BN.k (k:=Sum.inr u.1) nb.top;rw [a3] at this;exact this
    rw [b1];have Tv:=nb.put ok.nd a1 a2 a4 b2 b3 a6 a5;have V8:=nbv.put ok.nd nb.nd a1 a2 a4 b1 (fun _ _ _=>OZ) (L3 gu);have s3:Ar H (upd H2 d (.dK (sK DE))):=fun b o z=>by
     rw [Af (Ah z (dH1 d (Y5 a2)))];exact s2 _ _ z
    generalize upd H2 d (.dK (sK DE))=H3 at Tv V8 s3 ⊢;obtain ⟨j',d',mv,c1,c2,c3,c4,c5,c6⟩:=Tv.get ok.nd hu2.2;obtain ⟨mv',e1,e2,e3⟩:=LX mv u.1 (.int u.2.2);refine ⟨_,rfl,_,rfl,_,rfl,C,_,rfl,?_,_,rfl,d',_,rfl,DL.k (k:=Sum.inr u.1) c4 (by rw [CJ]; lia),?_⟩
    ·have:=BN.k (k:=Sum.inr u.2.1) Tv.top;rw [c3] at this;exact this
    rw [e1];have nb3:=Tv.put ok.nd c1 c2 c4 e2 e3 c6 c5;have Xm:=V8.put (Ed':=BV (ws.take (i + 1))) ok.nd Tv.nd c1 c2 c4 e1 (fun _ _ _ h=>h) (L3 gu).symm;refine ⟨⟨_,_,_,rfl⟩,fun b o z=>?_,nb3.mono (fun a b=>(Rr gu a b).symm) (by lia),Xm⟩;rw [Af (Ah z (dH1 d' (Y5 c2)))];exact s3 _ _ z
   ·obtain ⟨⟨v4,v5,v6,rfl⟩,s2,nb,nbv⟩:=hP;rw [hwl,YL] at nb nbv;exact ⟨_,rfl,k H2 C ds s2 (nb.mono (fun _ _=>Iff.rfl) (by lia)) nbv hC fun d hd=>(dH d hd).1⟩
end
section
variable {P:Program} {w:World} {K:Y3} {mg:Str->Option Value} {base:Heap}
structure NbF (K:Y3) (mg:Str->Option Value) (f:Addr) (fd:FuncData):Prop where
 F:EO K "neighbours" "neighbours" CL f fd
 mg:mg "neighbours"=some (.ref f)
 b:GJ K fd ["web"] []
theorem Mg {f fN:Addr} {fd fdN:FuncData} (NK:NbF K mg fN fdN) (hmi:mg "min"=none) (F:EO K "nearest" "nearest" EG f fd):AJ P w K mg base Cb 2 f fd ["web","starts"] (Qb K):=by
 have GN:AJ P w K mg base Cb 1 fN fdN ["web"] (Qc K):=HK NK.F;refine F.ok Hx (fun vs H Q E h=>?_) (fun cdv A outer s H vs Q E hr h=>?_)
 ·obtain ⟨q,st,ps,ss,ws,r,rfl,_⟩:=h;rfl
 ·obtain ⟨q,st,ps,ss,ws,r,rfl,ok,pos,uniq,hst,ssne,ssn,sssub,k⟩:=h;have nd:=Hx.nd;have hu:=Ey hr;have GX:=hr.units;have big:1000 < sizeLine:=by decide
  have l30:=ok.l30;have ssl:ss.length<=30:=by
   have:=Cj ssn sssub;lia
  refine ⟨_,Ae (Aq (i:=2) nd rfl (Or.inl rfl) (Aj GN hr (by rfl) NK.mg NK.F.kp NK.b .nil Au (Aa (pv 0) Ac)))
   (Ae (Aq (i:=3) nd rfl (Or.inr rfl) (HE (N:=["start"]) (σ0:=fun _=>[none]) rfl (A2.plain (by decide +kernel) (by decide +kernel) rfl (by decide +kernel)) (fun σ _=>AH.none _ _ _ ["start"] σ) (PI.or (Bt K rfl (pv 1)) (AR K rfl (pv 1)))
    (fun s2 H C fp=>⟨Ai (i:=0) (show (["start"]:List Str).Nodup by decide +kernel) rfl (Or.inl rfl),AQ,pv 0,A9 (Aa Ag (Aa (pv 0) Ac))⟩)))
   (Ae (Aq (i:=4) nd rfl (Or.inl rfl) Lc)
   (Ae (Q2 PassesOwn.never (Q0 (pv 3) (fun _=>rfl))
    (Ae (Eu (Se (Ak (ID rfl GX) (by rfl) hmi PyProof.Rows.boot_min (Aa
      (Bv (N:=["name","reached"]) (σ0:=fun σ=>[none,some 3].map fun j=>j.bind fun j=>(σ[j]?).join) rfl
       (A2.caught (by rfl) (by decide +kernel) rfl (by decide +kernel) (by intro y hy; simp only [Y4,YB,or_false] at hy; rcases hy with rfl <;> rfl)
        (by intro y hy e; simp only [Y4,YB,or_false] at hy; rcases hy with rfl | rfl | rfl <;> first | exact ⟨_,rfl⟩ | cases e))
       (fun σ _=>AH.of [none,some 3] rfl (by
        intro i j x h1 h2;match i,h1,h2 with
        | 0,_,h2=>cases h2
        | 1,h1,h2=>cases h1; cases h2; exact ⟨rfl,.inl rfl,.inl rfl⟩
        | n + 2,h1,_=>cases h1)) (Nd (pv 3))
       (fun s2 H C fp=>⟨Ai (i:=0) (show (["name","reached"]:List Str).Nodup by decide +kernel) rfl (Or.inl rfl),AQ,A9 (Aa (Bm hu (pv 1) (pv 0) (fun _ _=>rfl)) (Aa (pv 0) Ac))⟩)) Ac)))
      (B7 K rfl rfl (As (B7 K rfl rfl (As (Ai (i:=5) nd rfl (Or.inl rfl)) (As (Ai (i:=6) nd rfl (Or.inl rfl)) B6))) (As (Ai (i:=7) nd rfl (Or.inl rfl)) B6))))
    (Ae (Sd (pv 3) (pv 7))
    (Ae (BY hu (pv 4) (pv 7) (A9 (Aa (pv 5) (Aa (pv 6) Ac))) rfl)
    (Al (Bs PassesOwn.never rfl (Nd (Bm hu (pv 2) (pv 7) (fun _ _=>rfl))) (Ai (i:=8) nd rfl (Or.inl rfl))
     (Al (Dq (Et (Jz hu (pv 8) (pv 4)))
      (Ae (Aq (i:=9) nd rfl (Or.inl rfl) (A9 (Aa (Aw Bi (pv 5) (Bm hu (Bm hu (pv 2) (pv 7) (fun _ _=>rfl)) (pv 8) (fun _ _=>rfl))) (Aa (pv 6) Ac))))
      (Al (BY hu (pv 3) (pv 8) (Ak (Jc rfl GX) (by rfl) hmi PyProof.Rows.boot_min (Aa (pv 9) (Aa (Q9 hu (pv 3) (pv 8) (pv 9) ⟨rfl,rfl,rfl,rfl⟩) Ac))) rfl))) BK))))))))
   (Al (AK (pv 4)))))),?_⟩
  refine ⟨_,rfl,q,ps,ws,r,rfl,ok,fun H1 B ds s1 nb nbv hB hds=>?_⟩;have nbAt:∀ a,a ∈ ds->∃ u,H1 a=some u:=fun a hm=>by
   obtain ⟨i,hi,e⟩:=YQ hm;have UG:i < ps.length:=by rw [<-nb.len]; exact hi
   obtain ⟨nv,a1,_⟩:=nb.inner i ps[i] a (Y1 UG) (by rw [Y1 hi,e]);exact ⟨_,a1⟩
  have Vn:=nb.top;rcases hst with hst | hst
  case' inl=>
   refine .inl ⟨_,rfl,st,rfl,⟨_,AB.of (s1 _ _ hst)⟩,fun RA hRA=>?_⟩
  case' inr=>
   refine .inr ⟨_,rfl,st,rfl,⟨_,A7.of (s1 _ _ hst)⟩,fun RA hRA=>?_⟩
  all_goals
   refine ⟨fun i m Av H'=>m=ss.length - i/\i<=ss.length/\(∃ v,Av=[v])/\∃ nv:List (Str × V),Ar H1 H'/\H' RA=some (.dK (sK nv))/\nv.map (·.1)=ss.take i/\∀ y v,(y,v) ∈ nv->JP H' v (0,y),
    ⟨_,rfl,Zd _,⟨_,rfl⟩,[],Ad hRA,Ab,rfl,fun y v hy=>absurd hy YB⟩,?_⟩
   rintro i m Av H' ⟨rfl,hi,⟨v,rfl⟩,nv,s2,N4,nk,np⟩;have Mq:=s2 _ _ (s1 _ _ hst);by_cases B0:i < ss.length
   ·refine .inr ⟨⟨_,V.str ss[i],by first | exact AB.of Mq | exact A7.of Mq,by rw [Y9,Y1 B0]; rfl⟩,?_⟩;rintro x H6 ⟨rfl,hx⟩;have Kw:=hx _ (by first | exact AB.of Mq | exact A7.of Mq);rw [Y9,Y1 B0] at Kw;cases Kw
    have nn:ss[i] ∉ nv.map (·.1):=by
     rw [nk];intro hm;obtain ⟨j,hj,e⟩:=YQ hm;rw [Zf] at hj;rw [ab] at e;have:=FH ssn (Y1 (show j < ss.length by lia)) (by rw [Y1 B0,e]);lia
    have nl:nv.length=i:=by
     have:=congrArg Z5 nk;rw [Y0,Zf] at this;lia
    refine ⟨_,rfl,_,rfl,(by show 2<=sizeLine; lia),fun t ht=>⟨_,Sum.inr ss[i],rfl,Ad ht _ _ N4,by rw [CJ]; lia,_,by lia,rfl,B0,⟨_,rfl⟩,nv ++ [(ss[i],.ref t)],fun b o z=>?_,by rw [Ab,Dv nn],?_,fun y v hy=>?_⟩⟩
    ·rw [Af (Ah z hRA)];exact Ad ht _ _ (s2 _ _ z)
    ·rw [YE,nk,YS,Y1 B0]; rfl
    ·have tk:∀ b xs,(upd H6 t (.tup [.int 0,.str ss[i]])) b=some (.tup xs)->(upd (upd H6 t (.tup [.int 0,.str ss[i]])) RA (.dK (Br (sK nv) (Sum.inr ss[i]:A6) (.ref t)))) b=some (.tup xs):=fun b xs z=>by
      rw [Af (BE z (Ad ht _ _ N4) (by intro z; cases z))]; exact z
     rcases YR.mp hy with hy | hy
     ·exact (np y v hy).same fun b xs z=>tk b xs (Ad ht _ _ z)
     ·simp only [YJ,Prod.mk.injEq] at hy;obtain ⟨rfl,rfl⟩:=hy;exact ⟨t,rfl,tk _ _ Ab⟩
   ·have e0:i=ss.length:=by lia
    subst e0;rw [YL] at nk;refine .inl ⟨⟨_,by first | exact AB.of Mq | exact A7.of Mq,by rw [Y0]; exact Y7 _⟩,fun SA hSA=>?_⟩;have sS:=Ad (o:=.dK []) hSA;have aR:RA ∉ ds/\RA ≠ B/\RA ≠ SA/\H RA=none:=⟨(fun hm=>by obtain ⟨u,e⟩:=nbAt RA hm; rw [hRA] at e; cases e),(fun z=>by rw [z,Vn] at hRA; cases hRA),(fun z=>by rw [<-z,N4] at hSA; cases hSA),s1.free hRA⟩
    have aS:SA ∉ ds/\SA ≠ B/\SA ≠ RA/\H SA=none:=⟨(fun hm=>by obtain ⟨u,e⟩:=nbAt SA hm; rw [s2 _ _ e] at hSA; cases hSA),(fun z=>by rw [z,s2 _ _ Vn] at hSA; cases hSA),(fun z=>aR.2.2.1 z.symm),(s1.trans s2).free hSA⟩
    have s3:Ar H1 (upd H' SA (.dK [])):=s2.trans sS;have N0:NI H (upd H' SA (.dK [])) ps ws B RA SA ds nv [] (fun _ _=>False) (fun y p=>y ∈ ss/\p=(0,y)):=by
     refine ⟨s1.trans s3,nb.r.same s3,nbv.of nb.r (fun d _ nv z=>by rcases z with a | ⟨o,a⟩; exact .inl (s3 _ _ a); exact .inr ⟨o,s3 _ _ a⟩),sS _ _ N4,Ab,⟨by rw [nk]; exact ssn,fun y v hy=>⟨(0,y),(np y v hy).same fun b xs z=>sS _ _ z,by rw [<-nk]; exact YA.mpr ⟨_,hy,rfl⟩,rfl⟩,fun y p hp=>?_⟩,⟨.nil,fun y v hy=>absurd hy YB,fun y p hp=>hp.elim⟩,fun y hy=>sssub y (by rw [<-nk]; exact hy),fun y hy=>absurd hy YB⟩;obtain ⟨hy,rfl⟩:=hp;rw [<-nk] at hy;obtain ⟨⟨z,v⟩,a,b⟩:=YA.mp hy;have b':z=y:=b;subst b';exact ⟨v,a,(np z v a).same fun b xs z=>sS _ _ z⟩
    have D0:Tf ws ss (fun _ _=>False) (fun y p=>y ∈ ss/\p=(0,y)):=⟨fun _ _ h=>h.elim,fun y p ⟨h1,h2⟩=>by subst h2; exact ⟨h1,.nil y⟩,fun _ _ _ _ h=>h.elim,fun s hs=>.inr ⟨(0,s),⟨hs,rfl⟩,Dr.refl _⟩⟩
    clear N4 Mq np;generalize upd H' SA (.dK [])=H5 at N0 ⊢;refine ⟨fun m σ H2=>∃ nvR nvS S R v5 v6 v7 v8 v9,m=ps.length - nvS.length/\σ=[some (.ref q),some (.ref st),some (.ref B),some (.ref RA),some (.ref SA),v5,v6,v7,v8,v9]/\NI H H2 ps ws B RA SA ds nvR nvS S R/\Tf ws ss S R/\∀ y p,R y p->∀ q,¬ S y q,
     ⟨_,nv,[],_,_,_,_,_,_,_,rfl,rfl,N0,D0,fun _ _ _ _ h=>h⟩,?_⟩
    clear N0 D0 hSA sS s3 s2 nk;rintro m σ H2 ⟨nvR,nvS,S,R,v5,v6,v7,v8,v9,rfl,rfl,N,Dj,dis⟩;refine ⟨_,rfl,_,.inr (.inr ⟨_,N.dR,rfl⟩),?_⟩;by_cases hne:nvR=[]
    ·subst hne;refine GV ?_;have all:∀ x ∈ ps,∃ q,S x q:=Dj.done (fun y p h=>by obtain ⟨v,a,_⟩:=N.pR.2.2 y p h; cases a) ssne ok.con (fun T x hx tx cl=>ok.con (fun z=>T z->T r) (fun h=>h) (fun a b hab h tb=>h (cl b a hab.symm tb)) x hx tx) sssub;refine ⟨_,rfl,k H2 SA nvS N.same aS.2.2.2 N.dS N.pS.1 (fun x=>⟨N.subS x,fun hx=>N.inS.mpr (all x hx)⟩) fun y v hy=>?_⟩;obtain ⟨p,h1,h2⟩:=N.pS.2.1 y v hy;exact ⟨p,h1,Dj.near y p h2⟩
    ·have X6:(!(sK nvR).isEmpty)=true:=by cases nvR with
      | nil=>exact absurd rfl hne
      | cons=>rfl
     rw [X6];refine IX ?_;obtain ⟨NN,hNN⟩:∃ NN:St->Hp->Prop,NN=fun Av H'=>∃ m',m' < ps.length - nvS.length/\∃ nvR nvS S R v5 v6 v7 v8 v9,m'=ps.length - nvS.length/\Av=[some (.ref q),some (.ref st),some (.ref B),some (.ref RA),some (.ref SA),v5,v6,v7,v8,v9]/\NI H H' ps ws B RA SA ds nvR nvS S R/\Tf ws ss S R/\∀ y p,R y p->∀ q,¬ S y q:=⟨_,rfl⟩
     refine ⟨NN,fun Av H' z=>by rw [hNN] at z; exact z,?_⟩;have lR:=N.lenR;have lS:=N.lenS;refine ⟨_,rfl,RA,_,rfl,.inl N.dR,fun o H3 fz C hC=>?_⟩;have fz':H3=upd H2 RA (.frz o (.dK (sK nvR))):=by
      rcases fz with ⟨_,e⟩ | ⟨e,_⟩
      ·exact e
      ·rw [N.dR] at e; cases e
     have hR3:=fz.at;have WR:∀ b xs,H2 b=some (.tup xs)->H3 b=some (.tup xs):=fun b xs z=>by
      rw [fz.ne (BE z N.dR (by intro z; cases z))]; exact z
     refine ⟨fun i m Av H'=>m=nvR.length - i/\i<=nvR.length/\(∃ v,Av=[v,some (.ref RA)])/\∃ (acc:List V) (ks:List ((Int × Str) × Str)),Ar H3 H'/\H' C=some (.lst acc)/\acc.length=i/\ks.length=i/\(∀ (j:Nat) v k,acc[j]? = some v->ks[j]? = some k->TJ H' v k)/\(∀ (j:Nat) y v,j < i->nvR[j]? = some (y,v)->∃ p,JP H3 v p/\ks[j]? = some (p,y)),
      ⟨_,rfl,Zd _,⟨_,rfl⟩,[],[],Ad hC,Ab,rfl,rfl,fun j v k h=>(by simp at h),fun j y v hj=>absurd hj (ZV _)⟩,?_⟩
     rintro i m Av H' ⟨rfl,hi,⟨v,rfl⟩,acc,ks,s4,N4,al,kl,hky,hks⟩;have VX:=s4 _ _ hR3;have nCR:RA ≠ C:=Ah hR3 hC;by_cases B0:i < nvR.length
     ·refine .inr ⟨⟨VX,by rw [CJ]; exact B0⟩,?_⟩;rintro z H6 ⟨rfl,key,v2,ek,rfl⟩;obtain ⟨y,ey,rfl⟩:=To ek;have hm:=Y5 ey;obtain ⟨p,hp,hRp⟩:=N.pR.2.1 y v2 hm;have hp3:=hp.same WR;refine ⟨_,rfl,_,rfl,RA,v2,rfl,.inl ⟨_,Sum.inr y,.inr ⟨o,VX⟩,rfl,(Dn N.pR.1 hm).symm⟩,_,rfl,(by show 2<=sizeLine; lia),fun t ht=>?_⟩;have st:=Ad (o:=.tup [v2,.str y]) ht;have hC2:=st _ _ N4;have tC:∀ b xs,(upd H6 t (.tup [v2,.str y])) b=some (.tup xs)->(upd (upd H6 t (.tup [v2,.str y])) C (.lst (acc ++ [.ref t]))) b=some (.tup xs):=fun b xs z=>by
       rw [Af (BE z hC2 (by intro z; cases z))]; exact z
      refine ⟨acc,hC2,by lia,_,by lia,rfl,B0,⟨_,rfl⟩,acc ++ [.ref t],ks ++ [(p,y)],fun b u z=>?_,Ab,by simp [al],by simp [kl],fun j v k h1 h2=>?_,fun j y' v' hj h=>?_⟩
      ·rw [Af (Ah z hC)];exact st _ _ (s4 _ _ z)
      ·by_cases hj:j < acc.length
       ·rw [Zi hj] at h1;rw [Zi (by lia)] at h2;exact (hky j v k h1 h2).same fun b xs z=>tC b xs (st _ _ z)
       ·rw [Zg (by lia)] at h1;rw [Zg (by lia)] at h2;have j0:j - acc.length=0:=by
         have:=(Y8.mp h1).1;simp at this;lia
        have j1:j - ks.length=0:=by lia
        rw [j0] at h1;rw [j1] at h2;cases h1
        cases h2
        obtain ⟨t2,e2,g2⟩:=hp3;subst e2;exact ⟨t,t2,rfl,tC _ _ Ab,t2,rfl,tC _ _ (st _ _ (s4 _ _ g2))⟩
      ·by_cases ej:j=i
       ·subst ej;rw [ey] at h;cases h
        exact ⟨p,hp3,by rw [Zg (by lia),kl,aQ]; rfl⟩
       ·obtain ⟨p',a1,a2⟩:=hks j y' v' (by lia) h;exact ⟨p',a1,by rw [Zi (by lia)]; exact a2⟩
     ·have e0:i=nvR.length:=by lia
      subst e0;have ksne:ks ≠ []:=by
       intro z;rw [z] at kl;exact hne (Z0.mp kl.symm)
      refine .inl ⟨⟨VX,by rw [CJ]; exact Y7 _⟩,C,acc,ks,rfl,N4,by lia,ksne,hky,fun v kk hk hKy hmin=>?_⟩;refine ⟨RA,o,sK nvR,VX,fun ob w z=>?_,?_⟩
      ·have z':H RA=some (.frz ob w):=z;rw [aR.2.2.2] at z';cases z'
      obtain ⟨⟨d0,Ht⟩,here⟩:=kk;obtain ⟨t,t2,rfl,ht,t2',e2,FN⟩:=hKy;cases e2
      have t45:∀ b xs,H' b=some (.tup xs)->(upd H' RA (.dK (sK nvR))) b=some (.tup xs):=fun b xs z=>by
       rw [Af (BE z VX (by intro z; cases z))]; exact z
      have s25:Ar H2 (upd H' RA (.dK (sK nvR))):=fun b u z=>by
       by_cases eb:b=RA
       ·subst eb;rw [N.dR] at z;cases z
        exact Ab
       ·rw [Af eb];refine s4 _ _ ?_;rw [fz.ne eb]; exact z
      have N5:=N.grow s25;have ht5:=t45 _ _ ht;have VM:=t45 _ _ FN;have inR:∀ j y p,ks[j]? = some (p,y)->R y p:=fun j y p h=>by
       have hj:j < nvR.length:=by
        have:=(Y8.mp h).1;lia
       obtain ⟨p',a1,a2⟩:=hks j nvR[j].1 nvR[j].2 hj (Y1 hj);rw [h] at a2;cases a2
       obtain ⟨p'',b1,b2⟩:=N.pR.2.1 _ _ (Zv hj);rw [a1.fn (b1.same WR)];exact b2
      have hRh:R here (d0,Ht):=by
       obtain ⟨j,hj,ej⟩:=YQ hk;exact inR j here (d0,Ht) (by rw [Y1 hj,ej])
      have least:∀ z p,R z p->Dr (d0,Ht) p:=fun z p hz=>by
       obtain ⟨v,a,b⟩:=N.pR.2.2 z p hz;obtain ⟨j,hj,ej⟩:=YQ a;obtain ⟨p',a1,a2⟩:=hks j z v hj (by rw [Y1 hj,ej]);have:=a1.fn (b.same WR);subst this;exact hmin _ (Y5 a2)
      have nSh:∀ q,¬ S here q:=dis here _ hRh;have nearH:M8 ws ss here (d0,Ht):=Dj.pick pos hRh nSh least;refine ⟨t,_,rfl,A7.of ht5,rfl,_,_,rfl,t2,_,rfl,A7.of VM,rfl,_,_,rfl,_,_,rfl,rfl,_,_,rfl,rfl,?_⟩;generalize upd H' RA (.dK (sK nvR))=H5 at N5 ht5 VM s25 ⊢;have hin:here ∈ nvR.map (·.1):=N5.inR.mpr ⟨_,hRh⟩;have hps:here ∈ ps:=N5.subR here hin;refine ⟨_,rfl,_,rfl,RA,_,Sum.inr here,rfl,N5.dR,rfl,by rw [G2,decide_eq_true hin],?_⟩;rw [RV];have N6:=N5.setR aR (N5.pR.drop here) (fun y hy=>by
       obtain ⟨e,he,ee⟩:=YA.mp hy;exact N5.subR y (YA.mpr ⟨e,(Zh.mp he).1,ee⟩))
      generalize upd H5 RA (.dK (sK (nvR.filter fun q=>decide (q.1 ≠ here))))=H6 at N6 ⊢;have nhS:here ∉ nvS.map (·.1):=fun h=>by
       obtain ⟨q,hq⟩:=N6.inS.mp h;exact nSh q hq
      refine ⟨_,rfl,_,rfl,(by show 2<=sizeLine; lia),fun t3 X1=>?_⟩;have N7:=N6.grow (Ad (o:=.tup [.int d0,.str Ht]) X1);have VL:(upd H6 t3 (.tup [.int d0,.str Ht])) t3=some (.tup [.int d0,.str Ht]):=Ab;generalize upd H6 t3 (.tup [.int d0,.str Ht])=H7 at N7 VL ⊢;refine ⟨_,rfl,_,rfl,SA,_,rfl,DL.k (k:=Sum.inr here) N7.dS (by rw [CJ]; have:=N7.lenS; lia),?_⟩;rw [Dv nhS];have N8:=N7.setS aS (N7.pS.put (Dv nhS) (p:=(d0,Ht)) ⟨t3,rfl,VL⟩) (fun y hy=>by
       rw [YE] at hy;rcases YR.mp hy with hy | hy
       ·exact N7.subS y hy
       ·have:y=here:=by simpa using hy
        rw [this]; exact hps)
      generalize upd H7 SA (.dK (sK (nvS ++ [(here,.ref t3)])))=H8 at N8 ⊢;obtain ⟨S',N3⟩:∃ S':Str->Int × Str->Prop,S'=fun z q=>(z=here/\q=(d0,Ht))\/(z ≠ here/\S z q):=⟨_,rfl⟩
      obtain ⟨OA,hnvS⟩:∃ OA:List (Str × V),OA=nvS ++ [(here,.ref t3)]:=⟨_,rfl⟩
      rw [<-N3,<-hnvS] at N8;have nSl:OA.length=nvS.length + 1:=by rw [hnvS]; simp
      have nearS:∀ y q,S' y q->M8 ws ss y q:=fun y q h=>by
       rw [N3] at h;rcases h with ⟨rfl,rfl⟩ | ⟨_,h⟩
       ·exact nearH
       ·exact Dj.near y q h
      have hSh:S' here (d0,Ht):=by rw [N3]; exact .inl ⟨rfl,rfl⟩
      have toS:∀ y q,S y q->∃ q',S' y q':=fun y q h=>by
       by_cases e:y=here
       ·rw [e]; exact ⟨_,hSh⟩
       ·exact ⟨q,by rw [N3]; exact .inr ⟨e,h⟩⟩
      obtain ⟨i0,d,So,a1,a2,a3,a4,a5⟩:=N8.nr.get ok.nd hps;have dm:=Y5 a2;refine ⟨_,rfl,_,rfl,B,.ref d,rfl,?_,d,sK So,rfl,a4,fun o9 H9 fz9=>?_⟩
      ·have:=BN.k (k:=Sum.inr here) N8.nr.top;rw [a3] at this;exact this
      have N9:=N8.frz aR.1 aS.1 hds a1 a2 fz9 a5;obtain ⟨Pv,hPv⟩:∃ Pv:Nat->St->Hp->Prop,Pv=fun i σ H'=>∃ GU R' v8 v9,σ=[some (.ref q),some (.ref st),some (.ref B),some (.ref RA),some (.ref SA),some (.int d0),some (.str Ht),some (.str here),v8,v9]/\NI H H' ps ws B RA SA ds GU OA S' R'/\H' d=some (.frz o9 (.dK (sK So))) /\
        (∀ y p,R' y p->p.2 ∈ ss/\Bj ws p.2 y p.1)/\(∀ s ∈ ss,(∃ q,S' s q)\/∃ q,R' s q/\Dr q (0,s)) /\
        (∀ x q y l,S' x q->BV ws x y l->(∃ q',S' y q')\/(∃ q',R' y q'/\Dr q' (q.1 + l,q.2))\/(x=here/\∀ (j:Nat) (v:V),j < i->So[j]? ≠ some (y,v)))/\(∀ y p,R' y p->∀ q,¬ S' y q):=⟨_,rfl⟩
      refine OU (a:=d) (o:=o9) (kvs:=sK So) Pv ?_ (fun i σ H' _ hP=>by rw [hPv] at hP; obtain ⟨_,_,_,_,_,_,z,_⟩:=hP; exact z) (fun i key v σ H' hx hP rt bk=>?_) (fun σ H' hP=>?_)
      ·rw [hPv];refine ⟨_,_,_,_,rfl,N9,fz9.at,fun y p h=>Dj.reach y p h.2,fun s hs=>?_,fun x qq y l hx he=>?_,fun y p h qq hq=>?_⟩
       ·rcases Dj.start s hs with ⟨qq,h⟩ | ⟨qq,h,le⟩
        ·exact .inl (toS s qq h)
        ·by_cases e:s=here
         ·rw [e]; exact .inl ⟨_,hSh⟩
         ·exact .inr ⟨qq,⟨e,h⟩,le⟩
       ·by_cases ex:x=here
        ·exact .inr (.inr ⟨ex,fun j v hj=>absurd hj (ZV _)⟩)
        ·rw [N3] at hx;rcases hx with ⟨h,_⟩ | ⟨_,hx⟩
         ·exact absurd h ex
         ·rcases Dj.relax x qq y l hx he with ⟨q',h⟩ | ⟨q',h,le⟩
          ·exact .inl (toS y q' h)
          ·by_cases e:y=here
           ·rw [e]; exact .inl ⟨_,hSh⟩
           ·exact .inr (.inl ⟨q',⟨e,h⟩,le⟩)
       ·rw [N3] at hq;rcases hq with ⟨h2,_⟩ | ⟨_,h2⟩
        ·exact h.1 h2
        ·exact dis y p h.2 qq h2
      ·rw [hPv] at hP;obtain ⟨GU,R',v8,v9,rfl,RE,hf,rch,sta,rel,SO⟩:=hP;obtain ⟨y,e1,rfl⟩:=To hx;have hym:=Y5 e1;obtain ⟨w0,hw0⟩:∃ w0,Bc (sK So) (Sum.inr y:A6)=some w0:=by
        have:(Bc (sK So) (Sum.inr y:A6)).isSome=true:=by rw [G2,decide_eq_true (YA.mpr ⟨_,hym,rfl⟩)]
        exact ay.mp this
       obtain ⟨l,rfl,ed⟩:=RE.nbv i0 here d So a1 a2 (.inr ⟨o9,hf⟩) y w0 (Jv hw0);have hyp:y ∈ ps:=by
        obtain ⟨u,hu,e⟩:=ed.adj;obtain ⟨q1,q2⟩:=ok.ends u hu;rcases e with ⟨_,e⟩ | ⟨e,_⟩
        ·rw [<-e]; exact q2
        ·rw [<-e]; exact q1
       refine ⟨_,rfl,_,rfl,SA,_,rfl,BN.k (k:=Sum.inr y) RE.dS,_,rfl,?_⟩;rw [G2];have step:∀ {z:Str},(∀ (j:Nat) (v:V),j < i->So[j]? ≠ some (z,v))->z ≠ y->∀ (j:Nat) (v:V),j < i + 1->So[j]? ≠ some (z,v):=fun h2 hz j v hj e=>by
        by_cases ej:j=i
        ·subst ej;rw [e1] at e;cases e
         exact hz rfl
        ·exact h2 j v (by lia) e
       by_cases hy:y ∈ OA.map (·.1)
       ·rw [decide_eq_true hy];refine GV ?_;show Pv (i + 1) _ _
        rw [hPv];refine ⟨GU,R',_,_,rfl,RE,hf,rch,sta,fun x qq z l' Kw he=>?_,SO⟩;rcases rel x qq z l' Kw he with h | h | ⟨h1,h2⟩
        ·exact .inl h
        ·exact .inr (.inl h)
        ·by_cases ez:z=y
         ·rw [ez]; exact .inl (RE.inS.mp hy)
         ·exact .inr (.inr ⟨h1,step h2 ez⟩)
       ·rw [decide_eq_false hy];refine IX ?_;have nSy:∀ qq,¬ S' y qq:=fun qq h=>hy (RE.inS.mpr ⟨qq,h⟩)
        have dgT:BN H' B (.str here) (some (.ref d)):=by
         have:=BN.k (k:=Sum.inr here) RE.nr.top;rw [a3] at this;exact this
        refine ⟨_,rfl,_,rfl,_,rfl,B,.ref d,rfl,dgT,_,rfl,d,.int l,rfl,.inl ⟨_,Sum.inr y,.inr ⟨o9,hf⟩,rfl,hw0.symm⟩,_,_,rfl,rfl,_,rfl,(by show 2<=sizeLine; lia),fun t4 ht4=>?_⟩;have s4':=Ad (o:=.tup [.int (d0 + l),.str Ht]) ht4;have Pt:=RE.grow s4';have VT:=s4' _ _ hf;have VJ:(upd H' t4 (.tup [.int (d0 + l),.str Ht])) t4=some (.tup [.int (d0 + l),.str Ht]):=Ab;generalize upd H' t4 (.tup [.int (d0 + l),.str Ht])=Pm at Pt VT VJ ⊢;have cand:JP Pm (.ref t4) (d0 + l,Ht):=⟨t4,rfl,VJ⟩
        have candW:Ht ∈ ss/\Bj ws Ht y (d0 + l):=⟨nearH.1.1,nearH.1.2.snoc ed⟩
        have lR':=Pt.lenR;have fin:∀ (x:V) (pn:Int × Str),JP Pm x pn->Dr pn (d0 + l,Ht)->(∀ old,R' y old->Dr pn old)->(pn.2 ∈ ss/\Bj ws pn.2 y pn.1) ->
          Pv (i + 1) [some (.ref q),some (.ref st),some (.ref B),some (.ref RA),some (.ref SA),some (.int d0),some (.str Ht),some (.str here),some (.str y),some (.ref t4)] (upd Pm RA (.dK (Br (sK GU) (Sum.inr y:A6) x))):=by
         intro x pn hx1 hle hold hW;obtain ⟨nv2,p1,p2,p3⟩:=LX GU y x;rw [p1,hPv];have N12:=Pt.setR aR (Pt.pR.put p1 hx1) (fun z hz=>by
          rcases (p3 z).mp hz with hz | rfl
          ·exact Pt.subR z hz
          ·exact hyp)
         refine ⟨nv2,_,_,_,rfl,N12,?_,fun z p hz=>?_,fun s hs=>?_,fun x' qq z l' Kw he=>?_,fun z p hz qq hq=>?_⟩
         ·rw [Af (fun z=>aR.1 (by rw [<-z]; exact dm))]; exact VT
         ·rcases hz with ⟨rfl,rfl⟩ | ⟨_,hz⟩
          ·exact hW
          ·exact rch z p hz
         ·rcases sta s hs with h | ⟨qq,h,le⟩
          ·exact .inl h
          ·by_cases e:s=y
           ·subst e;exact .inr ⟨pn,.inl ⟨rfl,rfl⟩,(hold qq h).trans le⟩
           ·exact .inr ⟨qq,.inr ⟨e,h⟩,le⟩
         ·rcases rel x' qq z l' Kw he with h | ⟨q',h,le⟩ | ⟨h1,h2⟩
          ·exact .inl h
          ·by_cases e:z=y
           ·subst e;exact .inr (.inl ⟨pn,.inl ⟨rfl,rfl⟩,(hold q' h).trans le⟩)
           ·exact .inr (.inl ⟨q',.inr ⟨e,h⟩,le⟩)
          ·by_cases e:z=y
           ·subst e;subst h1;have e2:=uniq _ _ _ _ he ed;subst e2;have e3:=Pt.pS.fn Kw hSh;subst e3;exact .inr (.inl ⟨pn,.inl ⟨rfl,rfl⟩,hle⟩)
           ·exact .inr (.inr ⟨h1,step h2 e⟩)
         ·rcases hz with ⟨rfl,rfl⟩ | ⟨_,hz⟩
          ·exact nSy qq hq
          ·exact SO z p hz qq hq
        have put:∀ {x:V},DL Pm RA (.str y) x (upd Pm RA (.dK (Br (sK GU) (Sum.inr y:A6) x))):=fun {x}=>DL.k (k:=Sum.inr y) Pt.dR (by rw [CJ]; lia)
        obtain ⟨w1,pq,ew,hw1,hold,hWq⟩:∃ w1 pq,(Bc (sK GU) (Sum.inr y:A6)).getD (.ref t4)=w1/\JP Pm w1 pq/\(∀ old,R' y old->Dr pq old)/\(pq.2 ∈ ss/\Bj ws pq.2 y pq.1):=by
         cases hv:Bc (sK GU) (Sum.inr y:A6) with
         | none=>
          refine ⟨_,_,rfl,cand,fun old h=>?_,candW⟩;have h1:y ∈ GU.map (·.1):=Pt.inR.mpr ⟨old,h⟩;have h2:(Bc (sK GU) (Sum.inr y:A6)).isSome=true:=by rw [G2,decide_eq_true h1]
          rw [hv] at h2;cases h2
         | some w1=>
          obtain ⟨pq,h1,h2⟩:=Pt.pR.2.1 y w1 (Jv hv);exact ⟨w1,pq,rfl,h1,fun old h=>by rw [Pt.pR.fn h2 h]; exact Dr.refl _,rch y pq h2⟩
        refine ⟨_,rfl,_,rfl,RA,rfl,.inl ⟨_,.inl Pt.dR⟩,_,rfl,_,rfl,_,BN.k (k:=Sum.inr y) Pt.dR,_,_,(d0 + l,Ht),pq,rfl,cand,(by rw [ew]; exact hw1),fun le=>⟨_,rfl,_,rfl,RA,_,rfl,put,?_⟩,fun le=>⟨_,rfl,_,rfl,RA,_,rfl,put,?_⟩⟩
        ·rw [ew];exact fin w1 pq hw1 le hold hWq
        ·exact fin (.ref t4) _ cand (Dr.refl _) (fun old h=>le.trans (hold old h)) candW
      ·rw [hPv] at hP;obtain ⟨GU,R',v8,v9,rfl,RE,hf,rch,sta,rel,SO⟩:=hP;show NN _ _
       rw [hNN];refine ⟨_,?_,GU,OA,S',R',_,_,_,_,_,rfl,rfl,RE,⟨nearS,rch,fun x qq y l hx he=>?_,sta⟩,SO⟩
       ·have:=RE.lenS;lia
       ·rcases rel x qq y l hx he with h | h | ⟨rfl,h2⟩
        ·exact .inl h
        ·exact .inr h
        ·exfalso
         obtain ⟨⟨z,v⟩,Pq,e⟩:=YA.mp ((a5 y).mpr he.adj);have e':z=y:=e;subst e';obtain ⟨j,hj,e2⟩:=YQ Pq;exact h2 j v (by rw [CJ]; exact hj) (by rw [Y1 hj,e2])
end
section
variable {P:Program} {w:World} {K:Y3} {mg:Str->Option Value} {base:Heap}
structure NeF (K:Y3) (mg:Str->Option Value) (fN:Addr) (fdN:FuncData) (f:Addr) (fd:FuncData):Prop where
 N:NbF K mg fN fdN
 mi:mg "min"=none
 F:EO K "nearest" "nearest" EG f fd
 mg:mg "nearest"=some (.ref f)
 b:GJ K fd ["web","starts"] []
theorem Sl {f fN fE:Addr} {fd fdN fdE:FuncData} (EK:NeF K mg fN fdN fE fdE) (F:EO K "fars" "fars" Kb f fd):AJ P w K mg base Cb 3 f fd ["web","place"] (Qg K):=by
 have GE:AJ P w K mg base Cb 2 fE fdE ["web","starts"] (Qb K):=Mg EK.N EK.mi EK.F;refine F.ok MQ (fun vs H Q E h=>?_) (fun cdv A outer s H vs Q E hr h=>?_)
 ·obtain ⟨q,ps,ws,r,x,rfl,_⟩:=h;rfl
 ·obtain ⟨q,ps,ws,r,x,rfl,ok,pos,uniq,hx,k⟩:=h;have hu:=Ey hr;have nd:=MQ.nd;have big:1000 < sizeLine:=by decide
  have l30:=ok.l30;refine ⟨_,Ae (Aq (i:=2) nd rfl (Or.inr rfl) (Aj GE hr (by rfl) EK.mg EK.F.kp EK.b .nil Au (Aa (pv 0) (Aa (B9 (Aa (pv 1) Ac)) Ac))))
   (Al (AK (HE (N:=["name","told"]) (σ0:=fun σ=>[none,some 2].map fun j=>j.bind fun j=>(σ[j]?).join) rfl
      (A2.caught (by rfl) (by decide +kernel) rfl (by decide +kernel) (by intro y hy; simp only [Y4,YB,or_false] at hy; rcases hy with rfl <;> rfl)
       (by intro y hy e; simp only [Y4,YB,or_false] at hy; rcases hy with rfl | rfl | rfl <;> first | exact ⟨_,rfl⟩ | cases e))
      (fun σ _=>AH.of [none,some 2] rfl (by
       intro i j x h1 h2;match i,h1,h2 with
       | 0,_,h2=>cases h2
       | 1,h1,h2=>cases h1; cases h2; exact ⟨rfl,.inl rfl,.inl rfl⟩
       | n + 2,h1,_=>cases h1)) (AR K rfl (AA (AS K rfl) (pv 0) Ag (fun _ _=>rfl)))
      (fun s2 H C fp=>⟨Ai (i:=0) (show (["name","told"]:List Str).Nodup by decide +kernel) rfl (Or.inl rfl),AQ,pv 0,AA (AS K rfl) (Bm hu (pv 1) (pv 0) (fun _ _=>rfl)) Ag (fun _ _=>rfl)⟩)))),?_⟩
  refine ⟨_,rfl,_,rfl,(by show 1<=sizeLine; lia),fun st hst=>?_⟩;have s0:=Ad (o:=.lst [.str x]) hst;refine ⟨q,st,ps,[x],ws,r,rfl,ok.same s0,pos,uniq,.inl Ab,by simp,Zl.mpr ⟨by simp,.nil⟩,by simpa using hx,fun H1 B nv s1 hB Vn nn nk nr=>?_⟩;have V2:=s0.trans s1;obtain ⟨tp,tw,us,hq,htp,htw,hD⟩:=ok.web.ex;refine ⟨_,rfl,q,_,0,.ref tp,rfl,rfl,A7.of (V2 _ _ hq),CP (j:=0) rfl,tp,rfl,⟨_,A7.of (V2 _ _ htp)⟩,fun C hC=>?_⟩;refine ⟨fun i m Av H2=>m=ps.length - i/\i<=ps.length/\(∃ v,Av=[v,some (.ref B)])/\∃ nc:List (Str × V),H2=upd H1 C (.dK (sK nc))/\nc.map (·.1)=ps.take i/\∀ y v,(y,v) ∈ nc->∃ n,v=.int n/\JR ws x y n,⟨_,rfl,Zd _,⟨_,rfl⟩,[],rfl,rfl,fun y v hy=>absurd hy YB⟩,?_⟩;rintro i m Av H2 ⟨rfl,hi,⟨v,rfl⟩,nc,rfl,ncK,ncV⟩;have sC:=Ad (o:=.dK (sK nc)) hC;have Mp:=sC _ _ (V2 _ _ htp);by_cases B0:i < ps.length
  ·refine .inr ⟨⟨_,V.str ps[i],A7.of Mp,by rw [Y9,Y1 B0]; rfl⟩,?_⟩;rintro z H6 ⟨rfl,hz⟩;have Pp:=hz _ (A7.of Mp);rw [Y9,Y1 B0] at Pp;cases Pp
   obtain ⟨⟨y,v2⟩,hm,e⟩:=YA.mp ((nk ps[i]).mpr (Zv B0));have e':y=ps[i]:=e;subst e';obtain ⟨p,⟨t,e2,ht⟩,hnr⟩:=nr ps[i] v2 hm;subst e2;have Yd:=sC _ _ Vn;have FN:=sC _ _ ht;have nn':ps[i] ∉ nc.map (·.1):=by
    rw [ncK];intro Pq;obtain ⟨j,hj,e⟩:=YQ Pq;rw [Zf] at hj;rw [ab] at e;have:=FH ok.nd (Y1 (show j < ps.length by lia)) (by rw [Y1 B0,e]);lia
   have ncl:nc.length=i:=by
    have:=congrArg Z5 ncK;rw [Y0,Zf] at this;lia
   refine ⟨_,rfl,_,rfl,_,rfl,B,.ref t,rfl,.inl ⟨_,Sum.inr ps[i],.inl Yd,rfl,(Dn nn hm).symm⟩,t,_,0,.int p.1,rfl,rfl,A7.of FN,CP (j:=0) rfl,_,Sum.inr ps[i],rfl,Ab,by rw [CJ]; lia,_,by lia,rfl,B0,⟨_,rfl⟩,nc ++ [(ps[i],.int p.1)],by rw [JW,Dv nn'],?_,fun y v hy=>?_⟩
   ·rw [YE,ncK,YS,Y1 B0]; rfl
   ·rcases YR.mp hy with hy | hy
    ·exact ncV y v hy
    ·simp only [YJ,Prod.mk.injEq] at hy;obtain ⟨rfl,rfl⟩:=hy;exact ⟨p.1,rfl,hnr.dst.2⟩
  ·have e0:i=ps.length:=by lia
   subst e0;rw [YL] at ncK;exact .inl ⟨⟨_,A7.of Mp,by rw [Y0]; exact Y7 _⟩,k _ C nc (V2.trans sC) (V2.free hC) Ab ncK ncV⟩
end
structure TxtN (K:Y3) (mg:Str->Option Value):Prop where
 len:mg "len"=none
 isin:mg "isinstance"=none
 str:mg "str"=none
 all:mg "all"=none
 most:∃ t,mg "MOST_LETTERS"=some (.int 6 t)
section
variable {P:Program} {w:World} {K:Y3} {mg:Str->Option Value} {base:Heap}
theorem Sk {f:Addr} {fd:FuncData} (T:TxtN K mg) (F:EO K "is_name" "is_name" EH f fd):AJ P w K mg base Cb 1 f fd ["thing"] (Qd K):=by
 refine F.ok LW (fun vs H Q E h=>?_) (fun cdv A outer s H vs Q E hr h=>?_)
 ·obtain ⟨x,rfl,_⟩:=h;rfl
 ·obtain ⟨x,rfl,h⟩:=h;obtain ⟨tk,hmost⟩:=T.most;refine ⟨_,Ae (Dq (KZ (HB (Kf (Ak GC (by rfl) T.isin PyProof.Rows.boot_isinstance (Aa (pv 0) (Aa (Nf (v:=.ty "str") (by rfl) T.str PyProof.Rows.boot_str rfl) Ac)))))
    (Hz (HB (HC Le Le Ag (Ak FU (by rfl) T.len PySem.boot_len (Aa (pv 0) Ac)) (Sf (v:=.int 6) (by rfl) hmost ⟨_,rfl⟩))))).pt
    (Al (AK Ld)) BK)
   (Al (AK (Ak (EA rfl) (by rfl) T.all PyProof.Rows.boot_all (Aa
    (Bv (N:=["letter"]) (σ0:=fun _=>[none]) rfl (A2.plain (by decide +kernel) (by decide +kernel) rfl (by decide +kernel)) (fun σ _=>AH.none _ _ _ ["letter"] σ) (Uo (pv 0))
     (fun s2 H C fp=>⟨Ai (i:=0) (show (["letter"]:List Str).Nodup by decide +kernel) rfl (Or.inl rfl),AQ,QB J2 J2 C5 (pv 0) C5⟩)) Ac)))),?_⟩
  rcases h with ⟨t,rfl,ht,k⟩ | ⟨⟨ty,h1,h2⟩,k⟩
  ·refine ⟨_,rfl,_,"str",_,_,rfl,EB.str t,rfl,_,rfl,?_⟩;refine GV ?_;refine ⟨_,rfl,t,rfl,YU ht (by decide),_,_,rfl,rfl,_,rfl,?_⟩;have last:∀ (h1:1<=t.length) (h2:t.length<=6),MF (iStr (RN 0)) (JB 0) K9 (LP (fun x y H Q=>∃ i j,x=.str i/\y=.str j/\Q (.bl (!(decide (j.cps.toList < i.cps.toList)))) H) (fun x y H Q=>∃ i j,x=.str i/\y=.str j/\Q (.bl (!(decide (j.cps.toList < i.cps.toList)))) H) (tC (.str "a")) (RN 0) (tC (.str "z"))) (fun _=>[none]) [some (V.str t)] H
     (fun x H1=>∃ (p:Addr) (bs:List Bool),[x]=[V.ref p]/\AB K H1 p (bs.map V.bl)/\Q (.bl (bs.all id)) H1):=by
    intro h1 h2;refine ⟨_,rfl,t,rfl,fun D hD=>⟨fun i m Av H'=>m=t.cps.size - i/\i<=t.cps.size/\(∃ v,Av=[v])/\H'=upd H D (.lst ((t.cps.toList.take i).map fun c=>V.bl (FJ c))),⟨_,rfl,Zd _,⟨_,rfl⟩,rfl⟩,?_⟩⟩;rintro i m Av H' ⟨rfl,hi,⟨v,rfl⟩,rfl⟩;by_cases B0:i < t.cps.size
    ·refine .inr ⟨B0,?_⟩;rintro x H2 ⟨rfl,c,hc,rfl⟩;have Hn:t.cps.toList[i]? = some c:=by simpa using hc
     have step:∀ b,b=FJ c->∃ acc,(upd H D (.lst ((t.cps.toList.take i).map fun c=>V.bl (FJ c)))) D=some (.lst acc)/\acc.length < sizeLine/\∃ m',m' < t.cps.size - i/\(m'=t.cps.size - (i + 1)/\i + 1<=t.cps.size/\(∃ v,[some (V.str ⟨#[c]⟩)]=[v]) /\
       upd (upd H D (.lst ((t.cps.toList.take i).map fun c=>V.bl (FJ c)))) D (.lst (acc ++ [V.bl b]))=upd H D (.lst ((t.cps.toList.take (i + 1)).map fun c=>V.bl (FJ c)))):=by
      rintro b rfl;refine ⟨_,Ab,?_,_,?_,rfl,B0,⟨_,rfl⟩,?_⟩
      ·rw [Y0,Zf];have:t.length=t.cps.size:=rfl;have:1000 < sizeLine:=by decide
       lia
      ·lia
      ·rw [JW,IQ _ _ _ _ Hn]
     refine ⟨_,rfl,_,_,rfl,rfl,_,rfl,?_⟩;rw [leA];refine BI (fun ha=>?_) (fun ha=>?_)
     ·refine ⟨_,_,rfl,rfl,?_⟩;rw [leZ];exact step _ (by unfold FJ; rw [ha]; rfl)
     ·exact step _ (by unfold FJ; rw [Bool.not_eq_true] at ha; rw [ha]; rfl)
    ·have e:i=t.cps.size:=by lia
     subst e;refine .inl ⟨Y7 _,D,t.cps.toList.map FJ,rfl,.inl (.inl ?_),?_⟩
     ·rw [Ab,aJ (by simp),Zb];rfl
     ·have e2:(t.cps.toList.map FJ).all id=AY t:=by
       unfold AY;rw [bz,decide_eq_true h1,decide_eq_true h2];rfl
      rw [e2];exact k _ (Ad hD)
   refine BI (fun h1=>?_) (fun h1=>?_)
   ·refine ⟨_,_,rfl,rfl,_,rfl,?_⟩;rw [decide_eq_true_eq] at h1;refine BI (fun h2=>?_) (fun h2=>?_)
    ·have e:AY t=false:=by
      unfold AY;have:¬ t.length<=6:=by
       intro z;rw [decide_eq_true (show ((t.length:Nat):Int)<=6 by lia)] at h2;cases h2
      rw [decide_eq_false this,cX,aV]
     rw [<-e];exact k _ (Ar.refl _)
    ·refine last (by lia) ?_;by_cases z:t.length<=6
     ·exact z
     ·rw [decide_eq_false (show ¬ ((t.length:Nat):Int)<=6 by lia)] at h2;exact absurd rfl h2
   ·refine ⟨_,rfl,?_⟩;refine IX ?_;have e:AY t=false:=by
     unfold AY;rw [decide_eq_true_eq] at h1;rw [decide_eq_false (show ¬ 1<=t.length by lia),aV,aV]
    show Q (.bl false) H
    rw [<-e];exact k _ (Ar.refl _)
  ·refine ⟨_,rfl,_,"str",_,_,rfl,h1,h2,_,rfl,?_⟩;exact k
end
section
variable {P:Program} {w:World} {K:Y3} {mg:Str->Option Value} {base:Heap}
theorem IU (h_all:mg "all"=none) (h_list:mg "list"=none) (h_sorted:mg "sorted"=none) (h_set:mg "set"=none) {fN:Addr} {fdN:FuncData} (XN:Fn K mg "is_name" EH ["thing"] fN fdN) (GN:AJ P w K mg base Cb 1 fN fdN ["thing"] (Qd K)) {f:Addr} {fd:FuncData} (F:EO K "are_rising" "are_rising" CN f fd):AJ P w K mg base Cb 2 f fd ["things"] (KI K):=by
 refine F.ok EZ (fun vs H Q E h=>?_) (fun cdv A outer s H vs Q E hr h=>?_)
 ·obtain ⟨t,xs,ds,rfl,_⟩:=h;rfl
 ·obtain ⟨t,xs,ds,rfl,ht,dx,short,few,k⟩:=h;have nd:=EZ.nd;have GX:=hr.units;have big:100000 < sizeLine:=by decide
  refine ⟨_,(Al (AK (QC (Ak (EA rfl) (by rfl) h_all PyProof.Rows.boot_all (Aa (Bv (N:=["thing"]) (σ0:=fun _=>[none]) rfl (A2.plain (by decide +kernel) (by decide +kernel) rfl (by decide +kernel)) (fun σ _=>AH.none _ _ _ ["thing"] σ) (Up (pv 0))
   (fun s2 H C fp=>⟨Ai (i:=0) (show (["thing"]:List Str).Nodup by decide +kernel) rfl (Or.inl rfl),AQ,(Aj GN (hr.mono (by decide)) (by rfl) XN.mg XN.F.kp XN.b .nil Au (Aa (pv 0) Ac))⟩)) Ac))
   (Q8 (Hl (O8 GX) (A1 FT (by rfl) h_list PyProof.Rows.boot_list (Aa (pv 0) Ac)) (Ak (Hf rfl) (by rfl) h_sorted PyProof.Rows.boot_sorted (Aa (A1 (L8 K rfl rfl) (by rfl) h_set PyProof.Rows.boot_set (Aa (pv 0) Ac)) Ac)) (BF _)))))),?_⟩
  have seq:∀ H',Ar H H'->AB K H' t xs\/A7 K H' t xs:=fun H' sa=>ht.imp (fun z=>AB.of (sa _ _ z)) (fun z=>A7.of (sa _ _ z))
  have dl:=dx.len;refine ⟨_,rfl,t,rfl,?_⟩;rcases ht with ht | ht
  ·refine .inl ⟨⟨_,AB.of ht⟩,Be Bp (xs:=xs) (fun D i σ H' acc=>∃ v0:Option V,σ=[v0]/\Ar H H'/\H' D=some (.lst acc)/\acc=((ds.take i).map G7).map V.bl/\acc.length=i)
    (by lia) (fun D hD=>⟨_,rfl,Ad hD,Ab,rfl,rfl⟩) (fun D i σ H' acc hD ⟨v0,_,sa,AF,_,al⟩=>⟨AB.of (sa _ _ ht),AF,al⟩) ?_ ?_⟩
   ·rintro D i σ H' acc x B hD ex ⟨v0,rfl,sa,AF,rfl,al⟩ hB;obtain ⟨d,ed,hd⟩:=dx.at ex;have LI:=hd.same sa;have step:∀ H5,Ar H' H5->B [some x] (.bl (G7 d)) H5:=fun H5 s5=>by
     refine hB _ _ _ (s5 _ _ AF) ⟨_,rfl,fun b o e=>?_,Ab,?_,by rw [Y6,al]; rfl⟩
     ·rw [Af (Ah e hD)];exact s5 _ _ (sa _ _ e)
     ·rw [YS,ed,YE,YE];rfl
    refine ⟨_,rfl,x,rfl,?_⟩;cases d with
    | str y=>
     cases hd
     exact .inl ⟨y,rfl,short y (Y5 ed),step⟩
    | _=>exact .inr ⟨LI.notStr (fun s=>by intro z; cases z),step _ (Ar.refl _)⟩
   ·rintro D σ H' acc hD ⟨v0,rfl,sa,AF,rfl,al⟩;rw [dl,YL] at AF;refine ⟨D,ds.map G7,rfl,AB.of AF,_,rfl,?_⟩;refine BI (fun z=>?_) (fun z=>?_)
    ·obtain ⟨ss,rfl,hn⟩:=Gi z;obtain rfl:=dx.txt;rw [Y0] at few;refine ⟨_,rfl,t,_,rfl,seq _ sa,fun l hl=>?_⟩;have s1:=Ad (o:=.lst (ss.map V.str)) hl;refine ⟨_,rfl,t,ss,rfl,seq _ (sa.trans s1),by lia,fun D2 Ij=>⟨D2,ss,rfl,Ab,by lia,fun l2 Cd ON V7 Ko srt=>?_⟩⟩;have s2:=Ad (o:=setS P w D2 ss) Ij;have s3:=Ad (o:=.lst (Cd.map V.str)) ON;refine ⟨_,_,.lst (s3 _ _ (s2 _ _ Ab)) (Cs _ ss),.lst Ab (Cs _ Cd),by simp only [PyData.canLay0]; exact Dd hn,by simp only [PyData.canLay0]; exact Dd (fun s hs=>hn s ((Ko s).mp hs)),?_,?_⟩
     ·simp only [PyData.depth,DZ];decide
     ·refine k _ _ (sa.trans (s1.trans (s2.trans s3))) ?_;rw [Ly];refine ⟨fun e=>⟨ss,rfl,hn,(DQ V7 Ko srt).mp (EE e)⟩,?_⟩;rintro ⟨s5,e5,_,r5⟩;obtain rfl:=EE e5;rw [(DQ V7 Ko srt).mpr r5]
    ·refine k _ _ sa ⟨fun q=>absurd q (by decide),fun ⟨ss,e,hn,_⟩=>?_⟩;rw [e] at z;exact absurd (JO hn) z
  ·refine .inr ⟨⟨_,A7.of ht⟩,Be BD (xs:=xs) (fun D i σ H' acc=>∃ v0:Option V,σ=[v0]/\Ar H H'/\H' D=some (.lst acc)/\acc=((ds.take i).map G7).map V.bl/\acc.length=i)
    (by lia) (fun D hD=>⟨_,rfl,Ad hD,Ab,rfl,rfl⟩) (fun D i σ H' acc hD ⟨v0,_,sa,AF,_,al⟩=>⟨A7.of (sa _ _ ht),AF,al⟩) ?_ ?_⟩
   ·rintro D i σ H' acc x B hD ex ⟨v0,rfl,sa,AF,rfl,al⟩ hB;obtain ⟨d,ed,hd⟩:=dx.at ex;have LI:=hd.same sa;have step:∀ H5,Ar H' H5->B [some x] (.bl (G7 d)) H5:=fun H5 s5=>by
     refine hB _ _ _ (s5 _ _ AF) ⟨_,rfl,fun b o e=>?_,Ab,?_,by rw [Y6,al]; rfl⟩
     ·rw [Af (Ah e hD)];exact s5 _ _ (sa _ _ e)
     ·rw [YS,ed,YE,YE];rfl
    refine ⟨_,rfl,x,rfl,?_⟩;cases d with
    | str y=>
     cases hd
     exact .inl ⟨y,rfl,short y (Y5 ed),step⟩
    | _=>exact .inr ⟨LI.notStr (fun s=>by intro z; cases z),step _ (Ar.refl _)⟩
   ·rintro D σ H' acc hD ⟨v0,rfl,sa,AF,rfl,al⟩;rw [dl,YL] at AF;refine ⟨D,ds.map G7,rfl,AB.of AF,_,rfl,?_⟩;refine BI (fun z=>?_) (fun z=>?_)
    ·obtain ⟨ss,rfl,hn⟩:=Gi z;obtain rfl:=dx.txt;rw [Y0] at few;refine ⟨_,rfl,t,_,rfl,seq _ sa,fun l hl=>?_⟩;have s1:=Ad (o:=.lst (ss.map V.str)) hl;refine ⟨_,rfl,t,ss,rfl,seq _ (sa.trans s1),by lia,fun D2 Ij=>⟨D2,ss,rfl,Ab,by lia,fun l2 Cd ON V7 Ko srt=>?_⟩⟩;have s2:=Ad (o:=setS P w D2 ss) Ij;have s3:=Ad (o:=.lst (Cd.map V.str)) ON;refine ⟨_,_,.lst (s3 _ _ (s2 _ _ Ab)) (Cs _ ss),.lst Ab (Cs _ Cd),by simp only [PyData.canLay0]; exact Dd hn,by simp only [PyData.canLay0]; exact Dd (fun s hs=>hn s ((Ko s).mp hs)),?_,?_⟩
     ·simp only [PyData.depth,DZ];decide
     ·refine k _ _ (sa.trans (s1.trans (s2.trans s3))) ?_;rw [Ly];refine ⟨fun e=>⟨ss,rfl,hn,(DQ V7 Ko srt).mp (EE e)⟩,?_⟩;rintro ⟨s5,e5,_,r5⟩;obtain rfl:=EE e5;rw [(DQ V7 Ko srt).mpr r5]
    ·refine k _ _ sa ⟨fun q=>absurd q (by decide),fun ⟨ss,e,hn,_⟩=>?_⟩;rw [e] at z;exact absurd (JO hn) z
end
section
variable {P:Program} {w:World} {K:Y3} {mg:Str->Option Value} {base:Heap}
theorem IT (h_all:mg "all"=none) (h_dict:mg "dict"=none) (h_isinstance:mg "isinstance"=none) (h_len:mg "len"=none) (h_tuple:mg "tuple"=none) {fM fR:Addr} {fdM fdR:FuncData} (XM:Fn K mg "most_houses" C9 ["case"] fM fdM) (GM:AJ P w K mg base Cb 1 fM fdM ["case"] Qe) (XR:Fn K mg "are_rising" CN ["things"] fR fdR) (GR:AJ P w K mg base Cb 2 fR fdR ["things"] (KI K)) {f:Addr} {fd:FuncData} (F:EO K "is_opening" "is_opening" CM f fd):AJ P w K mg base Cb 3 f fd ["case","thing"] (Qf K):=by
 refine F.ok EY (fun vs H Q E h=>?_) (fun cdv A outer s H vs Q E hr h=>?_)
 ·obtain ⟨c,sites,x,d,v,rfl,_⟩:=h;rfl
 ·obtain ⟨c,sites,x,d,v,rfl,cs,rise,names,k⟩:=h;have nd:=EY.nd;have hu:=Ey hr;have big:1000 < sizeLine:=by decide
  refine ⟨_,(Ae (Dq (KZ (HB (Kf (Ak GC (by rfl) h_isinstance PyProof.Rows.boot_isinstance (Aa (pv 1) (Aa (Nf (v:=.ty "tuple") (by rfl) h_tuple PyProof.Rows.boot_tuple rfl) Ac))))) (Hz (HB (HC Le Le Ag (Ak Ec (by rfl) h_len PySem.boot_len (Aa (pv 1) Ac)) (Aj GM (hr.mono (by decide)) (by rfl) XM.mg XM.F.kp XM.b .nil Au (Aa (pv 0) Ac)))))).pt
  (Al (AK Ld))
  BK)
  (Ae (Aq (i:=2) nd rfl (Or.inr rfl) (A1 (DJ rfl) (by rfl) h_dict PyProof.Rows.boot_dict (Aa (AA QS (pv 0) Ag (fun _ _=>rfl)) Ac)))
  (Al (AK (QC (Aj GR (hr.mono (by decide)) (by rfl) XR.mg XR.F.kp XR.b .nil Au (Aa (pv 1) Ac)) (Q8 (Ak (EA rfl) (by rfl) h_all PyProof.Rows.boot_all (Aa (Bv (N:=["place","sites"]) (σ0:=fun σ=>[none,some 2].map fun j=>j.bind fun j=>(σ[j]?).join) rfl (A2.caught (by rfl) (by decide +kernel) rfl (by decide +kernel) (by intro y hy; simp only [Y4,YB,or_false] at hy; rcases hy with rfl <;> rfl)
   (by intro y hy e; simp only [Y4,YB,or_false] at hy; rcases hy with rfl | rfl | rfl <;> first | exact ⟨_,rfl⟩ | cases e)) (fun σ _=>AH.of [none,some 2] rfl (by
   intro i j x h1 h2;match i,h1,h2 with
   | 0,_,h2=>cases h2
   | 1,h1,h2=>cases h1; cases h2; exact ⟨rfl,.inl rfl,.inl rfl⟩
   | n + 2,h1,_=>cases h1)) (Q6 (pv 1))
   (fun s2 H C fp=>⟨(Ai (i:=0) (show (["place","sites"]:List Str).Nodup by decide +kernel) rfl (Or.inl rfl)),AQ,(QA (Ut hu (pv 0) (pv 1)))⟩)) Ac)))))))),?_⟩
  rcases k with ⟨ds,⟨t,xs,rfl,ht,dx,short,few⟩,k⟩ | ⟨⟨ty,t1,t2⟩,k⟩
  ·refine ⟨_,rfl,_,"tuple",_,_,rfl,.tup ht,rfl,_,rfl,?_⟩;refine GV ?_;refine ⟨_,rfl,t,_,rfl,.inr (A7.of ht),_,_,rfl,rfl,_,rfl,?_⟩;have dl:=dx.len;refine BI (fun z1=>?_) (fun z1=>?_)
   ·refine ⟨_,rfl,c,sites,x,d,rfl,cs,fun mo mo0 mok=>?_⟩;obtain ⟨mV,t2V,t1,ER,Az,hc,Fq,GY,rfl,snd,sl,lim⟩:=cs;have ul:=BQ GY;rw [Y0] at sl mok;refine ⟨_,_,rfl,rfl,_,rfl,?_⟩;refine BI (fun z2=>?_) (fun z2=>?_)
    ·refine k _ _ (Ar.refl _) ⟨fun q=>absurd q (by decide),fun ⟨ss,e,_,sub,lb⟩=>?_⟩;have l1:=sub.length_le;rw [Y0] at l1;have:=(mok _ l1).mpr lb;rw [dl,e,Y0] at z2;simp [this] at z2
    ·have z3:(xs.length:Int)<=mo:=by simpa using z2
     refine ⟨_,rfl,c,_,_,_,rfl,rfl,A7.of hc,rfl,t1,ER,DB Az,rfl,Fq,by unfold DB; rw [Y0]; exact ul,MS GY,by rw [EJ]; exact snd,by unfold DB; rw [Y0]; lia,fun B hB=>?_⟩;have s1:=Ad (o:=.dK (sK (DB Az))) hB;have SE:(upd H B (.dK (sK (DB Az)))) B=some (.dK (sK (DB Az))):=Ab;generalize upd H B (.dK (sK (DB Az)))=H1 at s1 SE;refine ⟨_,rfl,t,xs,ds,rfl,.inr (s1 _ _ ht),dx.mono (fun a o e _=>s1 a o e),short,few,fun b H2 s2 hb=>⟨_,rfl,?_⟩⟩;refine BI (fun z=>?_) (fun z=>?_)
     ·obtain ⟨ss,rfl,hn,ri⟩:=hb.mp z;obtain rfl:=dx.txt;rw [Y0] at few z1 z3;have ne:ss ≠ []:=fun e=>by subst e; simp at z1
      have Yd:=s2 _ _ SE;have FN:=s2 _ _ (s1 _ _ ht);refine ⟨_,rfl,t,rfl,⟨_,A7.of FN⟩,?_⟩;refine Be BD (xs:=ss.map V.str) (fun D i σ H' acc=>∃ v0:Option V,σ=[v0,some (.ref B)]/\Ar H2 H'/\H' D=some (.lst acc)/\acc=((ss.take i).map fun y=>decide (y ∈ Az.map (·.1))).map V.bl/\acc.length=i)
       (by rw [Y0]; lia) (fun D hD=>⟨_,rfl,Ad hD,Ab,rfl,rfl⟩) (fun D i σ H' acc hD ⟨v0,_,sa,AF,_,al⟩=>⟨A7.of (sa _ _ FN),AF,al⟩) ?_ ?_
      ·rintro D i σ H' acc x' Bk hD ex ⟨v0,rfl,sa,AF,rfl,al⟩ hBk;obtain ⟨y,ey,rfl⟩:∃ y,ss[i]? = some y/\x'=.str y:=by
        rw [Y9] at ex;cases q:ss[i]? with
        | none=>rw [q] at ex; cases ex
        | some y=>rw [q] at ex; exact ⟨y,rfl,(YM.inj ex).symm⟩
       refine ⟨_,rfl,_,rfl,B,_,rfl,BN.k (k:=Sum.inr y) (sa _ _ Yd),?_⟩;rw [G2,EJ];refine hBk _ _ _ AF ⟨_,rfl,fun b o e=>?_,Ab,?_,by rw [Y6,al]; rfl⟩
       ·rw [Af (Ah e hD)];exact sa _ _ e
       ·rw [YS,ey,YE,YE];rfl
      ·rintro D σ H' acc hD ⟨v0,rfl,sa,AF,rfl,al⟩;rw [Y0,YL] at AF;refine ⟨D,_,rfl,AB.of AF,?_⟩;refine k _ _ (s1.trans (s2.trans sa)) ?_;rw [bz,Z8];constructor
       ·intro h;have sub:=CY ri rise fun y hy=>by simpa using h y hy
        have l1:=sub.length_le;rw [Y0] at l1;exact ⟨ss,rfl,ne,sub,(mok _ l1).mp z3⟩
       ·rintro ⟨s5,e5,_,sub,_⟩ y hy;rw [EE e5] at hy;simpa using sub.subset hy
     ·refine k _ _ (s1.trans s2) ⟨fun q=>absurd q (by decide),fun ⟨ss,e,_,sub,_⟩=>absurd (hb.mpr ⟨ss,e,fun y hy=>names y (sub.subset hy),rise.sub sub⟩) z⟩
   ·refine ⟨_,rfl,?_⟩;refine IX ?_;refine k _ _ (Ar.refl _) ⟨fun q=>absurd q (by decide),fun ⟨ss,e,ne,_⟩=>?_⟩;rw [dl,e,Y0,decide_eq_true_eq] at z1;exact absurd (Z0.mp (by lia)) ne
  ·refine ⟨_,rfl,_,"tuple",_,_,rfl,t1,t2,_,rfl,?_⟩;exact k _ (Ar.refl _)
end
section
variable {P:Program} {w:World} {K:Y3} {mg:Str->Option Value} {base:Heap}
theorem Kk {fF:Addr} {fdF:FuncData} (XF:Fn K mg "fars" Kb ["web","place"] fF fdF) (GF:AJ P w K mg base Cb 3 fF fdF ["web","place"] (Qg K)) {f:Addr} {fd:FuncData} (F:EO K "site_fars" "site_fars" Di f fd):AJ P w K mg base Cb 4 f fd ["case"] Hu:=by
 refine F.ok F7 (fun vs H Q E h=>?_) (fun cdv A outer s H vs Q E hr h=>?_)
 ·obtain ⟨c,m,n,xs,ws,Az,Bh,x,d,rfl,_⟩:=h;rfl
 ·obtain ⟨c,m,n,xs,ws,Az,Bh,x,d,rfl,cw,k⟩:=h;have nd:=F7.nd;have big:100000 < sizeLine:=by decide
  refine ⟨_,(Al (AK (HE (N:=["place","price","case"]) (σ0:=fun σ=>[none,none,some 0].map fun j=>j.bind fun j=>(σ[j]?).join) rfl (A2.caught (by rfl) (by decide +kernel) rfl (by decide +kernel) (by intro y hy; simp only [Y4,YB,or_false] at hy; rcases hy with rfl <;> rfl)
   (by intro y hy e; simp only [Y4,YB,or_false] at hy; rcases hy with rfl | rfl | rfl | rfl | rfl <;> first | exact ⟨_,rfl⟩ | cases e)) (fun σ _=>AH.of [none,none,some 0] rfl (by
   intro i j x h1 h2;match i,h1,h2 with
   | 0,_,h2=>cases h2
   | 1,_,h2=>cases h2
   | 2,h1,h2=>cases h1; cases h2; exact ⟨rfl,.inl rfl,.inl rfl⟩
   | n + 3,h1,_=>cases h1)) (AR K rfl (AA (AS K rfl) (pv 0) Ag (fun _ _=>rfl)))
   (fun s2 H C fp=>⟨(B7 K rfl (n:=2) rfl (As (Ai (i:=0) (show (["place","price","case"]:List Str).Nodup by decide +kernel) rfl (Or.inl rfl)) (As (Ai (i:=1) (show (["place","price","case"]:List Str).Nodup by decide +kernel) rfl (Or.inl rfl)) B6))),AQ,(pv 0),(Aj GF (hr.mono (by decide)) (by rfl) XF.mg XF.F.kp XF.b .nil Au (Aa (AA (AS K rfl) (pv 2) Ag (fun _ _=>rfl)) (Aa (pv 0) Ac)))⟩)))),?_⟩
  obtain ⟨t1,t2,ER,LM,hc,Fq,GY,FN,hd2⟩:=cw.ex;obtain ⟨r,okw,pos,uni⟩:=cw.map.web cw.n1 cw.n30;have ul:=BQ GY;have l1:=cw.l1;refine ⟨_,rfl,c,_,_,_,rfl,rfl,A7.of hc,rfl,t1,rfl,⟨_,A7.of Fq⟩,?_⟩;refine Ov BD (xs:=ER) (Az.map (·.1)) (by rw [Y0,ul]) cw.ok1.nd (fun D i σ H' nv=>∃ (v0 v1:Option V),σ=[v0,v1,some (.ref c)]/\Ar H H'/\H' D=some (.dK (sK nv))/\nv.map (·.1)=(Az.map (·.1)).take i/\∀ s v,(s,v) ∈ nv->R0 H' v xs ws s)
   (by lia) (fun D hD=>⟨_,_,rfl,Ad hD,Ab,rfl,fun s v hm=>nomatch hm⟩) (fun D i σ H' nv hD ⟨v0,v1,_,sa,AF,nk,_⟩=>⟨A7.of (sa _ _ Fq),AF,nk⟩) ?_ ?_
  ·rintro D i σ H' nv x' kk B hD ex ek ⟨v0,v1,rfl,sa,AF,nk,nf⟩ hB;obtain ⟨u,t,eu,rfl,ht⟩:=C0 GY ex;have e:kk=u.1:=by
    rw [Y9,eu] at ek;exact (YM.inj ek).symm
   subst e;refine ⟨t,_,rfl,A7.of (sa _ _ ht),rfl,_,_,rfl,_,_,rfl,rfl,?_⟩;refine ⟨_,rfl,_,rfl,c,_,_,_,rfl,rfl,A7.of (sa _ _ hc),rfl,_,rfl,m,xs,ws,r,u.1,rfl,okw.same sa,pos,uni,cw.ok1.sub u (Y5 eu),fun H1 B1 nb s1 fB Vn nbK nbV=>?_⟩;have SD:=s1 _ _ AF;refine hB _ _ _ SD ⟨_,_,rfl,fun b o' z=>by rw [Af (Ah z hD)]; exact s1 _ _ (sa _ _ z),Ab,?_,fun s v hm=>?_⟩
   ·rw [YE,nk,YS,ek];rfl
   ·have nB:∀ {b:Addr} {kv:List (A6 × V)},b ≠ D->H1 b=some (.dK kv)->(upd H1 D (.dK (sK (nv ++ [(u.1,.ref B1)])))) b=some (.dK kv):=fun nb z=>by rw [Af nb]; exact z
    rcases YR.mp hm with hm | hm
    ·obtain ⟨B2,Tv,rfl,z1,z2,z3⟩:=nf s v hm;by_cases e:B2=D
     ·subst e;rw [AF] at z1;have e:=HO.dK.inj (YM.inj z1);have W5:((Sum.inr s:A6),V.ref B2) ∈ sK Tv:=by rw [<-e]; exact YA.mpr ⟨_,hm,rfl⟩
      obtain ⟨⟨y,u'⟩,h1,h2⟩:=YA.mp W5;cases h2
      obtain ⟨n',e',_⟩:=z3 _ _ h1;cases e'
     ·exact ⟨B2,Tv,rfl,nB e (s1 _ _ z1),z2,z3⟩
    ·simp only [YJ,Prod.mk.injEq] at hm;obtain ⟨rfl,rfl⟩:=hm;exact ⟨B1,nb,rfl,nB (fun z=>by rw [z,AF] at fB; cases fB) Vn,nbK,nbV⟩
  ·rintro D σ H' nv hD ⟨v0,v1,rfl,sa,AF,nk,nf⟩;rw [ul,show Az.length=(Az.map (·.1)).length by rw [Y0],YL] at nk;exact k H' D nv sa hD AF nk nf
end
section
variable {P:Program} {w:World} {K:Y3} {mg:Str->Option Value} {base:Heap}
theorem HL (h_len:mg "len"=none) (h_min:mg "min"=none) {f:Addr} {fd:FuncData} (F:EO K "most_houses" "most_houses" C9 f fd):AJ P w K mg base Cb 1 f fd ["case"] Qe:=by
 refine F.ok Er (fun vs H Q E h=>?_) (fun cdv A outer s H vs Q E hr h=>?_)
 ·obtain ⟨c,sites,x,d,rfl,_⟩:=h;rfl
 ·obtain ⟨c,sites,x,d,rfl,cs,k⟩:=h;have nd:=Er.nd;have big:100000 < sizeLine:=by decide
  refine ⟨_,(Ae (Eu (pv 0) (B7 K rfl rfl (As (Ai (i:=1) nd rfl (Or.inl rfl)) (As (Ai (i:=2) nd rfl (Or.inl rfl)) (As (Ai (i:=3) nd rfl (Or.inl rfl)) (As (Ai (i:=4) nd rfl (Or.inl rfl)) B6))))))
  (Al (AK (Lb (Et (HF (pv 4))) (Ak (Ax K rfl) (by rfl) h_len PySem.boot_len (Aa (pv 2) Ac)) (Ak (Gq rfl) (by rfl) h_min PyProof.Rows.boot_min (Aa (pv 4) (Aa (Ak (Ax K rfl) (by rfl) h_len PySem.boot_len (Aa (pv 2) Ac)) Ac))))))),?_⟩
  obtain ⟨mV,t2V,t1,ER,Az,hc,Fq,GY,rfl,snd,sl,lim⟩:=cs;have ul:=BQ GY;refine ⟨_,rfl,c,_,rfl,A7.of hc,rfl,_,_,rfl,_,_,rfl,_,_,rfl,_,_,rfl,rfl,?_⟩;refine ⟨_,rfl,_,rfl,?_⟩;rcases lim with ⟨rfl,_⟩ | ⟨lm,rfl,_,lm1,lm2⟩
  ·refine BI (fun _=>?_) (fun z=>by simp at z);refine ⟨_,rfl,t1,_,rfl,.inr (A7.of Fq),?_⟩;refine k _ (by lia) fun j hj=>?_
   rw [Y0] at hj;simp only [C2,iff_true];lia
  ·refine BI (fun z=>by simp at z) (fun _=>?_);refine ⟨_,rfl,_,rfl,t1,_,rfl,.inr (A7.of Fq),_,_,rfl,?_⟩;refine k _ (by split <;> lia) fun j hj=>?_
   rw [Y0] at hj;simp only [C2,decide_eq_true_eq];split <;> lia
end
section
variable {P:Program} {w:World} {K:Y3} {mg:Str->Option Value} {base:Heap}
theorem Lh (h_dict:mg "dict"=none) (h_min:mg "min"=none) (h_sum:mg "sum"=none) {fS:Addr} {fdS:FuncData} (XS:Fn K mg "site_fars" Di ["case"] fS fdS) (GS:AJ P w K mg base Cb 4 fS fdS ["case"] Hu) {f:Addr} {fd:FuncData} (F:EO K "costs_of" "costs_of" DP f fd):AJ P w K mg base Cb 5 f fd ["case","chosen"] Jr:=by
 refine F.ok Gz (fun vs H Q E h=>?_) (fun cdv A outer s H vs Q E hr h=>?_)
 ·obtain ⟨c,e,m,n,xs,ws,Az,Bh,x,d,us,os,rfl,_⟩:=h;rfl
 ·obtain ⟨c,e,m,n,xs,ws,Az,Bh,x,d,us,os,rfl,cw,he,tU,ond,opn,ol,k⟩:=h;have nd:=Gz.nd;have hu:=Ey hr;have big:100000 < sizeLine:=by decide
  refine ⟨_,(Ae (Eu (pv 0) (B7 K rfl rfl (As (Ai (i:=2) nd rfl (Or.inl rfl)) (As (Ai (i:=3) nd rfl (Or.inl rfl)) (As (Ai (i:=4) nd rfl (Or.inl rfl)) (As (Ai (i:=5) nd rfl (Or.inl rfl)) B6))))))
  (Ae (Aq (i:=6) nd rfl (Or.inr rfl) (A1 (DJ rfl) (by rfl) h_dict PyProof.Rows.boot_dict (Aa (pv 3) Ac)))
  (Ae (Aq (i:=7) nd rfl (Or.inr rfl) (Aj GS (hr.mono (by decide)) (by rfl) XS.mg XS.F.kp XS.b .nil Au (Aa (pv 0) Ac)))
  (Ae (Aq (i:=8) nd rfl (Or.inl rfl) HD)
  (Ae (Bs PassesOwn.never rfl (Bt K rfl (pv 1)) (Ai (i:=9) nd rfl (Or.inr rfl))
  (Ae (Q4 (fun x=>decide (x=("place":Str))) (ix:=10) (N:=["place","many","aways","houses"]) (σ0:=fun σ=>[none,none,some 7,some 9].map fun j=>j.bind fun j=>(σ[j]?).join) nd rfl (Or.inl rfl) rfl (Ga.caught (by rfl) rfl (by decide +kernel) (by intro y hy; simp only [Y4,YB,or_false] at hy; rcases hy with rfl | rfl <;> rfl) (by refine List.Pairwise.cons (fun y hy=>?_) (ZW _ _); rw [YJ.mp hy]; show @Ne Nat _ _; lia)
   (by intro y hy e; simp only [Y4,YB,or_false] at hy; rcases hy with rfl | rfl | rfl | rfl | rfl | rfl <;> first | exact ⟨_,YO⟩ | exact ⟨_,YT _ YO⟩ | cases e)) (by intro x h; have h':=of_decide_eq_true h; subst h'; decide +kernel) (fun σ _=>AH.of [none,none,some 7,some 9] rfl (by
   intro i j x h1 h2;match i,h1,h2 with
   | 0,_,h2=>cases h2
   | 1,_,h2=>cases h2
   | 2,h1,h2=>cases h1; cases h2; exact ⟨rfl,.inl rfl,.inl rfl⟩
   | 3,h1,h2=>cases h1; cases h2; exact ⟨rfl,.inl rfl,.inl rfl⟩
   | n + 4,h1,_=>cases h1)) (by
   intro σ i x v h1 h2;match i,h1,h2 with
   | 0,_,h2=>cases h2
   | 1,_,h2=>cases h2
   | 2,h1,h2=>cases h1; decide +kernel
   | 3,h1,h2=>cases h1; decide +kernel
   | n + 4,h1,_=>cases h1) (AR K rfl (pv 4))
   (fun s2 H C fp=>⟨(B7 K rfl (n:=2) rfl (As (Ai (i:=0) (show (["place","many","aways","houses"]:List Str).Nodup by decide +kernel) rfl (Or.inr rfl) (.inl (by dsimp only; exact decide_eq_true rfl))) (As (Ai (i:=1) (show (["place","many","aways","houses"]:List Str).Nodup by decide +kernel) rfl (Or.inl rfl)) B6))),AQ,(Aw Nj (pv 1) (Ak (Fd rfl) (by rfl) h_min PyProof.Rows.boot_min (Aa (Bv (N:=["house","place","aways"]) (σ0:=fun σ=>[none,some 0,some 2].map fun j=>j.bind fun j=>(σ[j]?).join) rfl (A2.caught (by rfl) (by decide +kernel) rfl (by decide +kernel) (by intro y hy; simp only [Y4,YB,or_false] at hy; rcases hy with rfl | rfl <;> rfl)
   (by intro y hy e; simp only [Y4,YB,or_false] at hy; rcases hy with rfl | rfl | rfl | rfl <;> first | exact ⟨_,rfl⟩ | cases e)) (fun σ _=>AH.of [none,some 0,some 2] rfl (by
   intro i j x h1 h2;match i,h1,h2 with
   | 0,_,h2=>cases h2
   | 1,h1,h2=>cases h1; cases h2; exact ⟨rfl,.inl rfl,.inl rfl⟩
   | 2,h1,h2=>cases h1; cases h2; exact ⟨rfl,.inl rfl,.inl rfl⟩
   | n + 3,h1,_=>cases h1)) (AR K rfl (pv 3))
   (fun s2 H C fp=>⟨(Ai (i:=0) (show (["house","place","aways"]:List Str).Nodup by decide +kernel) rfl (Or.inl rfl)),AQ,(Bm hu (Bm hu (pv 2) (pv 0) (fun _ _=>rfl)) (pv 1) (fun _ _=>rfl))⟩)) Ac)))⟩))
  (Al (BY hu (pv 8) (pv 9) (Aw Bi (Ak (D5 rfl) (by rfl) h_sum PyProof.Rows.boot_sum (Aa (Bv (N:=["house","charges"]) (σ0:=fun σ=>[none,some 6].map fun j=>j.bind fun j=>(σ[j]?).join) rfl (A2.caught (by rfl) (by decide +kernel) rfl (by decide +kernel) (by intro y hy; simp only [Y4,YB,or_false] at hy; rcases hy with rfl <;> rfl)
   (by intro y hy e; simp only [Y4,YB,or_false] at hy; rcases hy with rfl | rfl | rfl <;> first | exact ⟨_,rfl⟩ | cases e)) (fun σ _=>AH.of [none,some 6] rfl (by
   intro i j x h1 h2;match i,h1,h2 with
   | 0,_,h2=>cases h2
   | 1,h1,h2=>cases h1; cases h2; exact ⟨rfl,.inl rfl,.inl rfl⟩
   | n + 2,h1,_=>cases h1)) (AR K rfl (pv 9))
   (fun s2 H C fp=>⟨(Ai (i:=0) (show (["house","charges"]:List Str).Nodup by decide +kernel) rfl (Or.inl rfl)),AQ,(Bm hu (pv 1) (pv 0) (fun _ _=>rfl))⟩)) Ac)) (Ak (D5 rfl) (by rfl) h_sum PyProof.Rows.boot_sum (Aa (pv 10) Ac))) rfl))))
  (Al (AK (pv 8)))))))),?_⟩
  obtain ⟨t1,t2,ER,LM,hc,Fq,GY,FN,hd2⟩:=cw.ex;have TN:=BQ GY;have ul2:=BQ hd2;have l1:=cw.l1;have l2:=cw.l2;have hul:=tU.len;refine ⟨_,rfl,c,_,rfl,A7.of hc,rfl,_,_,rfl,_,_,rfl,_,_,rfl,_,_,rfl,rfl,?_⟩;refine ⟨_,rfl,t1,ER,DB Az,rfl,Fq,by unfold DB; rw [Y0]; exact TN,MS GY,by rw [EJ]; exact cw.ok1.nd,by unfold DB; rw [Y0]; lia,fun CH hCH=>?_⟩;have s1:=Ad (o:=.dK (sK (DB Az))) hCH;have hCC:(upd H CH (.dK (sK (DB Az)))) CH=some (.dK (sK (DB Az))):=Ab;generalize upd H CH (.dK (sK (DB Az)))=H1 at s1 hCC;refine ⟨_,rfl,c,m,n,xs,ws,Az,Bh,x,d,rfl,cw.same s1,fun H2 AW nv s2 fA hA nk nf=>?_⟩;have KQ:=s1.trans s2;intro D hD;have s3:=Ad (o:=.dT []) hD;have fD:H D=none:=by
   cases z:H D with
   | none=>rfl
   | some o'=>rw [KQ _ _ z] at hD; cases hD
  refine ⟨_,rfl,e,rfl,⟨_,AB.of (s3 _ _ (KQ _ _ he))⟩,?_⟩;refine JC (xs:=us) (fun i σ H'=>∃ (v9 v10:Option V) (kvs:List (List A6 × V)),σ=[some (.ref c),some (.ref e),some (.ref m),some (.ref t1),some (.ref t2),some x,some (.ref CH),some (.ref AW),some (.ref D),v9,v10]/\Ar H2 H'/\H' D=some (.dT kvs)/\kvs.map (·.1)=(os.take i).map (fun ss=>ss.map Sum.inr)/\(∀ ss v,(ss.map Sum.inr,v) ∈ kvs->∃ t,v=.int t/\Ff ws Az Bh ss t))
   ⟨_,_,[],rfl,s3,Ab,rfl,fun ss v hm=>nomatch hm⟩ (fun i σ H' _ ⟨_,_,_,_,sa,_⟩=>AB.of (sa _ _ (KQ _ _ he))) ?_ ?_
  ·rintro i v σ H' hv ⟨v9,v10,kvs,rfl,sa,AF,kk,kt⟩ rt bk NN hN;obtain ⟨o,ss,rfl,es,ho⟩:=tU.get hv;have hsm:=Y5 es;have hi:i < os.length:=(Y8.mp es).1;obtain ⟨sne,snd,ssub⟩:=opn ss hsm;have sl:ss.length<=Az.length:=by
    have:=List.Nodup.length_le_of_subset snd (fun s hs=>ssub s hs);rw [Y0] at this;exact this
   have VP:=KQ _ _ ho;have sx:∀ s ∈ ss,s ∈ xs:=fun s hs=>by
    obtain ⟨r,N2,rfl⟩:=YA.mp (ssub s hs);exact cw.ok1.sub r N2
   have nnd:(nv.map (·.1)).Nodup:=by rw [nk]; exact cw.ok1.nd
   refine ⟨_,rfl,t2,rfl,⟨_,A7.of (sa _ _ (KQ _ _ FN))⟩,?_⟩;refine Be BD (xs:=LM) (fun D2 j Av H3 acc=>∃ (v0 v1:Option V) (ds:List Int),Av=[v0,v1,some (.ref AW),some (.ref o)]/\Ar H' H3/\H3 D2=some (.lst acc)/\acc=((Bh.zip ds).map fun p=>p.1.2 * p.2).map V.int/\ds.length=j/\acc.length=j/\∀ (q:Nat) r d,Bh[q]? = some r->ds[q]? = some d->Md ws ss r.1 d)
    (by lia) (fun D2 Ij=>⟨_,_,[],rfl,Ad Ij,Ab,by rw [List.zip_nil_right]; rfl,rfl,rfl,fun q r d _ e=>by simp at e⟩)
    (fun D2 j Av H3 acc Ij ⟨v0,v1,ds,_,sb,Ms,_,_,al,_⟩=>⟨A7.of (sb _ _ (sa _ _ (KQ _ _ FN))),Ms,al⟩) ?_ ?_
   ·rintro D2 j Av H3 acc x' B Ij ex ⟨v0,v1,ds,rfl,sb,Ms,ea,dl,al,dm⟩ hB;obtain ⟨u,t,eu,rfl,ht⟩:=C0 hd2 ex;have um:=Y5 eu;have ux:u.1 ∈ xs:=cw.ok2.sub u um;have ub:=cw.ok2.lo u um;have sab:=sa.trans sb;have hA3:=sab _ _ hA;refine ⟨t,_,rfl,A7.of (sab _ _ (KQ _ _ ht)),rfl,_,_,rfl,_,_,rfl,rfl,?_⟩;refine ⟨_,rfl,_,rfl,o,rfl,⟨_,A7.of (sab _ _ VP)⟩,?_⟩;refine Be BD (xs:=ss.map V.str) (fun D3 q JS H4 Gr=>∃ (w0:Option V) (ns:List Int),JS=[w0,some (.str u.1),some (.ref AW)]/\Ar H3 H4/\H4 D3=some (.lst Gr)/\Gr=ns.map V.int/\ns.length=q/\Gr.length=q/\∀ (a:Nat) n' s,ns[a]? = some n'->ss[a]? = some s->JR ws s u.1 n')
     (by rw [Y0]; lia) (fun D3 Fy=>⟨_,[],rfl,Ad Fy,Ab,rfl,rfl,rfl,fun a n' s e=>by simp at e⟩)
     (fun D3 q JS H4 Gr Fy ⟨w0,ns,_,sc,Ii,_,_,SX,_⟩=>⟨A7.of (sc _ _ (sab _ _ VP)),Ii,SX⟩) ?_ ?_
    ·rintro D3 q JS H4 Gr x3 B3 Fy Ri ⟨w0,ns,rfl,sc,Ii,T7,nl,SX,nm⟩ Yc;obtain ⟨s,ey,rfl⟩:∃ s,ss[q]? = some s/\x3=.str s:=by
      rw [Y9] at Ri;cases z:ss[q]? with
      | none=>rw [z] at Ri; cases Ri
      | some y=>rw [z] at Ri; exact ⟨y,rfl,(YM.inj Ri).symm⟩
     have hs:=Y5 ey;obtain ⟨⟨s',vB⟩,hm,SI⟩:=YA.mp (show s ∈ nv.map (·.1) by rw [nk]; exact ssub s hs);have SI:s'=s:=SI;subst SI;obtain ⟨Bf,nb,rfl,hBf,nbk,nbv⟩:=nf _ _ hm;obtain ⟨⟨y',vy⟩,hmy,Yi⟩:=YA.mp (show u.1 ∈ nb.map (·.1) by rw [nbk]; exact ux);have Yi:y'=u.1:=Yi;subst Yi;obtain ⟨nn,rfl,dst⟩:=nbv _ _ hmy;have nbnd:(nb.map (·.1)).Nodup:=by rw [nbk]; exact cw.map.at'.nd
     have dg1:BN H4 AW (.str s') (some (.ref Bf)):=.inl ⟨_,Sum.inr s',.inl (sc _ _ hA3),rfl,(Dn nnd hm).symm⟩;have dg2:BN H4 Bf (.str u.1) (some (.int nn)):=.inl ⟨_,Sum.inr u.1,.inl (sc _ _ (sab _ _ hBf)),rfl,(Dn nbnd hmy).symm⟩;refine ⟨_,rfl,_,rfl,AW,.ref Bf,rfl,dg1,_,rfl,Bf,.int nn,rfl,dg2,?_⟩;refine Yc _ _ _ Ii ⟨_,ns ++ [nn],rfl,fun b o' z=>by rw [Af (Ah z Fy)]; exact sc _ _ z,Ab,by rw [T7,YE]; rfl,by rw [Y6,nl]; rfl,by rw [Y6,SX]; rfl,fun a n' s e1 e2=>?_⟩;by_cases ha:a < ns.length
     ·rw [Zi ha] at e1;exact nm a n' s e1 e2
     ·have XA:=(Y8.mp e1).1;rw [Y6,Zt] at XA;have hqa:a=q:=by lia
      subst hqa;rw [Zg (by lia),show a - ns.length=0 by lia,Zz] at e1;cases e1
      rw [ey] at e2;cases e2
      exact dst
    ·rintro D3 JS H4 Gr Fy ⟨w0,ns,rfl,sc,Ii,T7,nl,SX,nm⟩;rw [Y0] at nl;have nne:ns ≠ []:=fun z=>by rw [z] at nl; exact sne (Z0.mp nl.symm)
     refine ⟨D3,ns,rfl,by rw [Ii,T7],nne,fun mn hmn hle=>?_⟩;have md:Md ws ss u.1 mn:=by
      obtain ⟨a,ha⟩:=ZD hmn;have ha':=(Y8.mp ha).1;have K2:ss[a]? = some (ss[a]'(by lia)):=Y1 _;refine ⟨⟨_,Y5 K2,(nm a _ _ ha K2).1⟩,fun s hs mm g=>?_⟩;obtain ⟨b,hb⟩:=ZD hs;have Fb:=(Y8.mp hb).1;have en:ns[b]? = some (ns[b]'(by lia)):=Y1 _;have z1:=hle _ (Y5 en);have z2:=(nm b _ _ en hb).2 mm g;lia
     have bd:0<=mn/\mn < 2 ^ 300:=by
      obtain ⟨a,ha⟩:=ZD hmn;have ha':=(Y8.mp ha).1;have K2:ss[a]? = some (ss[a]'(by lia)):=Y1 _;exact cw.map.bound cw.n1 cw.n30 (sx _ (Y5 K2)) ux (nm a _ _ ha K2)
     refine ⟨_,_,rfl,rfl,⟨⟨by lia,by lia⟩,⟨by lia,by lia⟩⟩,?_⟩;have Yb:=sc _ _ Ms;refine hB _ _ _ Yb ⟨_,_,ds ++ [mn],rfl,fun b o' z=>by rw [Af (Ah z Ij)]; exact sc _ _ (sb _ _ z),Ab,?_,by rw [Y6,dl]; rfl,by rw [Y6,al]; rfl,fun q r d e1 e2=>?_⟩
     ·rw [K4 (a:=u) (by rw [dl]; exact eu),YE,YE,ea];rfl
     ·by_cases ha:q < ds.length
      ·rw [Zi ha] at e2;exact dm q r d e1 e2
      ·have XA:=(Y8.mp e2).1;rw [Y6,Zt] at XA;have hqa:q=j:=by lia
       subst hqa;rw [Zg (by lia),show q - ds.length=0 by lia,Zz] at e2;cases e2
       rw [eu] at e1;cases e1
       exact md
   ·rintro D2 Av H3 acc Ij ⟨v0,v1,ds,rfl,sb,Ms,ea,dl,al,dm⟩;have sab:=sa.trans sb;have wd:L9 ws ss Bh ds:=⟨by lia,dm⟩
    refine ⟨_,rfl,o,rfl,⟨_,A7.of (sab _ _ VP)⟩,?_⟩;refine Be BD (xs:=ss.map V.str) (fun D3 q JS H4 Gr=>∃ w0:Option V,JS=[w0,some (.ref CH)]/\Ar H3 H4/\H4 D3=some (.lst Gr)/\Gr=((ss.take q).map (Dz Az)).map V.int/\Gr.length=q)
     (by rw [Y0]; lia) (fun D3 Fy=>⟨_,rfl,Ad Fy,Ab,rfl,rfl⟩)
     (fun D3 q JS H4 Gr Fy ⟨w0,_,sc,Ii,_,SX⟩=>⟨A7.of (sc _ _ (sab _ _ VP)),Ii,SX⟩) ?_ ?_
    ·rintro D3 q JS H4 Gr x3 B3 Fy Ri ⟨w0,rfl,sc,Ii,T7,SX⟩ Yc;obtain ⟨s,ey,rfl⟩:∃ s,ss[q]? = some s/\x3=.str s:=by
      rw [Y9] at Ri;cases z:ss[q]? with
      | none=>rw [z] at Ri; cases Ri
      | some y=>rw [z] at Ri; exact ⟨y,rfl,(YM.inj Ri).symm⟩
     obtain ⟨r,N2,rfl⟩:=YA.mp (ssub s (Y5 ey));have hm:(r.1,V.int r.2) ∈ DB Az:=by unfold DB; exact YA.mpr ⟨r,N2,rfl⟩
     have dg:BN H4 CH (.str r.1) (some (.int r.2)):=.inl ⟨_,Sum.inr r.1,.inl (sc _ _ (sab _ _ (s2 _ _ hCC))),rfl,(Dn (by rw [EJ]; exact cw.ok1.nd) hm).symm⟩;refine ⟨_,rfl,_,rfl,CH,.int r.2,rfl,dg,?_⟩;refine Yc _ _ _ Ii ⟨_,rfl,fun b o' z=>by rw [Af (Ah z Fy)]; exact sc _ _ z,Ab,?_,by rw [Y6,SX]; rfl⟩;rw [T7,YS,ey,YE,YE];simp [Fu cw.ok1.nd N2]
    ·rintro D3 JS H4 Gr Fy ⟨w0,rfl,sc,Ii,T7,SX⟩;rw [Y0,YL] at T7;have XW:=sc _ _ (sb _ _ AF);have sall:=sab.trans sc;refine ⟨D3,_,rfl,AB.of (by rw [Ii,T7]),_,rfl,D2,_,rfl,AB.of (by rw [sc _ _ Ms,ea]),_,_,rfl,rfl,_,rfl,_,rfl,D,_,rfl,DL.t (k:=ss.map Sum.inr) XW (by rw [RS]; exact sall _ _ VP) ?_,?_⟩
     ·have:=congrArg Z5 kk;rw [Y0,Y0,Zf] at this;lia
     have nin:ss.map Sum.inr ∉ kvs.map (·.1):=by
      rw [kk];intro hm;obtain ⟨s2,VN,e2⟩:=YA.mp hm;have e2:=N1 e2;subst e2;obtain ⟨b,hb,eb⟩:=YQ VN;rw [Zf] at hb;rw [ab] at eb;have Fb:b < os.length:=by lia
      have e5:os[b]=os[i]:=eb.trans (YM.inj ((Y1 hi).symm.trans es)).symm;have:=(b9 (i:=b) (j:=i) (h₀:=Fb) (h₁:=hi) ond).mp e5;lia
     rw [HA _ (K6 nin)];refine hN _ _ ⟨_,_,kvs ++ [(ss.map Sum.inr,_)],rfl,fun b o' z=>by rw [Af (Ah z hD)]; exact sall _ _ z,Ab,?_,fun s2 v2 hm=>?_⟩
     ·rw [YE,kk,YS,es,YE];rfl
     ·rcases YR.mp hm with hm | hm
      ·exact kt s2 v2 hm
      ·simp only [YJ,Prod.mk.injEq] at hm;obtain ⟨e1,rfl⟩:=hm;have e1:=N1 e1;subst e1;exact ⟨_,rfl,ds,wd,rfl⟩
  ·rintro σ H' ⟨v9,v10,kvs,rfl,sa,AF,kk,kt⟩;rw [hul,YL] at kk;exact ⟨_,rfl,k H' D kvs (KQ.trans sa) fD AF kk kt⟩
end
section
variable {P:Program} {w:World} {K:Y3} {mg:Str->Option Value} {base:Heap}
theorem HN (h_int:mg "int"=none) {f:Addr} {fd:FuncData} (F:EO K "_law_lengths" "_law_lengths" CA f fd):AJ P w K mg base Cb 1 f fd ["_law_plan"] MJ:=by
 refine F.ok Es (fun vs H Q E h=>?_) (fun cdv A outer s H vs Q E hr h=>?_)
 ·obtain ⟨q,n,xs,ws,rfl,_⟩:=h;rfl
 ·obtain ⟨q,n,xs,ws,rfl,mw,Wz,Sn,k⟩:=h;have hu:=Ey hr;have nd:=Es.nd;have big:16000000 < sizeLine:=by decide
  have two:2<=sizeLine:=by decide
  obtain ⟨r0,okw,pos,uni⟩:=mw.web Wz Sn;obtain ⟨D,e,us,hq,hD,hE,hW⟩:=mw.at'.ex;have ends:=okw.ends;have x30:xs.length<=30:=okw.l30;have w64:=okw.l64;have wof:∀ u ∈ ws,u.1 ∈ xs/\u.2.1 ∈ xs/\u.1 ≠ u.2.1/\1<=u.2.2:=fun u hu=>⟨(ends u hu).1,(ends u hu).2,mw.apart hu,pos u hu⟩
  have hwl:us.length=ws.length:=by rw [Iz hW,Y0]
  refine ⟨_,(Ae (Aq (i:=1) nd rfl (Or.inl rfl) HD)
  (Ae (Bs PassesOwn.never rfl (AR K rfl (AA (AS K rfl) (pv 0) Ag (fun _ _=>rfl))) (Ai (i:=2) nd rfl (Or.inl rfl))
  (Al (Bs PassesOwn.never rfl (AR K rfl (AA (AS K rfl) (pv 0) Ag (fun _ _=>rfl))) (Ai (i:=3) nd rfl (Or.inl rfl))
  (Al (BY hu (pv 1) (A9 (Aa (pv 2) (Aa (pv 3) Ac))) (AA (AL K rfl) (B9 (Aa Gf (Aa Ag Ac))) (A1 EN (by rfl) h_int PyProof.Rows.boot_int (Aa (Hl Nm (pv 2) (pv 3) (BF _)) Ac)) (fun _ _=>rfl)) rfl)))))
  (Ae (Bs PassesOwn.never rfl (AR K rfl (AA (AS K rfl) (pv 0) Ag (fun _ _=>rfl))) (B7 K rfl rfl (As (Ai (i:=2) nd rfl (Or.inl rfl)) (As (Ai (i:=3) nd rfl (Or.inl rfl)) (As (Ai (i:=4) nd rfl (Or.inl rfl)) B6))))
  (Ae (BY hu (pv 1) (A9 (Aa (pv 2) (Aa (pv 3) Ac))) (pv 4) rfl)
  (Al (BY hu (pv 1) (A9 (Aa (pv 3) (Aa (pv 2) Ac))) (pv 4) rfl))))
  (Ae (Bs PassesOwn.never rfl (AR K rfl (AA (AS K rfl) (pv 0) Ag (fun _ _=>rfl))) (Ai (i:=5) nd rfl (Or.inl rfl))
  (Al (Bs PassesOwn.never rfl (AR K rfl (AA (AS K rfl) (pv 0) Ag (fun _ _=>rfl))) (Ai (i:=2) nd rfl (Or.inl rfl))
  (Al (Bs PassesOwn.never rfl (AR K rfl (AA (AS K rfl) (pv 0) Ag (fun _ _=>rfl))) (Ai (i:=3) nd rfl (Or.inl rfl))
  (Ae (Aq (i:=6) nd rfl (Or.inl rfl) (Bm hu (pv 1) (A9 (Aa (pv 2) (Aa (pv 5) Ac))) (fun _ _=>rfl)))
  (Ae (Aq (i:=7) nd rfl (Or.inl rfl) (Bm hu (pv 1) (A9 (Aa (pv 5) (Aa (pv 3) Ac))) (fun _ _=>rfl)))
  (Ae (Aq (i:=8) nd rfl (Or.inl rfl) (Bm hu (pv 1) (A9 (Aa (pv 2) (Aa (pv 3) Ac))) (fun _ _=>rfl)))
  (Al (Dq (Mb (Et (Ng (pv 6))) (Mb (Et (Ng (pv 7))) (MX (KZ (Et (HF (pv 8))) (Hz (By J1 (Aw Bi (pv 6) (pv 7)) (pv 8) (BF _)))).pt))).pt
  (Al (BY hu (pv 1) (A9 (Aa (pv 2) (Aa (pv 3) Ac))) (Aw Bi (pv 6) (pv 7)) rfl))
  BK))))))))))
  (Al (AK (pv 1))))))),?_⟩
  intro A hA;have V0:MV (upd H A (.dT [])) A (fun _ _=>none) 0:=⟨[],Ab,Y7 _,fun x y=>rfl⟩
  have nAD:∀ {b:Addr} {u:HO},H b=some u->b ≠ A:=fun z=>Ah z hA
  have strAt:∀ {i:Nat} {v:V},(xs.map V.str)[i]? = some v->∃ x,xs[i]? = some x/\v=.str x/\i < xs.length:=fun {i v} h=>by
   rw [Y9] at h;cases ex:xs[i]? with
   | none=>rw [ex] at h; cases h
   | some x=>rw [ex] at h; exact ⟨x,rfl,(YM.inj h).symm,(Y8.mp ex).1⟩
  refine ⟨_,rfl,q,_,_,_,rfl,rfl,A7.of (Ad hA _ _ hq),rfl,D,rfl,⟨_,A7.of (Ad hA _ _ hD)⟩,Cz (xs:=xs.map V.str) (fun i σ H2=>(∃ v4 v5 v6 v7 v8 v9 v10,σ=[some (.ref q),some (.ref A),v4,v5,v6,v7,v8,v9,v10])/\Ar H H2/\∃ G,MV H2 A G (i * 30)/\(∀ x y v,G x y=some v->x ∈ xs/\y ∈ xs/\v=oI (if x=y then some 0 else none))/\∀ (a:Nat) x,a < i->xs[a]? = some x->∀ y ∈ xs,∃ v,G x y=some v)
   ⟨⟨_,_,_,_,_,_,_,rfl⟩,Ad hA,_,V0.up (Zd _),fun x y v h=>(by cases h),fun j x hj=>absurd hj (ZV _)⟩ (fun i σ H2 _ hP=>A7.of (hP.2.1 _ _ hD)) (fun i v σ H2 hv hP rt bk N hNi=>?_) (fun σ H2 hP=>?_)⟩
  ·obtain ⟨⟨v4,v5,v6,v7,v8,v9,v10,rfl⟩,s2,G0,hG0,m1,m2⟩:=hP;obtain ⟨one,eone,rfl,ilt⟩:=strAt hv;refine ⟨_,rfl,q,_,_,_,rfl,rfl,A7.of (s2 _ _ hq),rfl,D,rfl,⟨_,A7.of (s2 _ _ hD)⟩,Cz (xs:=xs.map V.str) (fun j σ H3=>(∃ v5 v6 v7 v8 v9 v10,σ=[some (.ref q),some (.ref A),some (.str one),v5,v6,v7,v8,v9,v10])/\Ar H H3/\∃ G,MV H3 A G (i * 30 + j)/\(∀ x y v,G x y=some v->x ∈ xs/\y ∈ xs/\v=oI (if x=y then some 0 else none))/\(∀ (a:Nat) x,a < i->xs[a]? = some x->∀ y ∈ xs,∃ v,G x y=some v)/\∀ (b:Nat) y,b < j->xs[b]? = some y->∃ v,G one y=some v)
    ⟨⟨_,_,_,_,_,_,rfl⟩,s2,G0,hG0.up (by lia),m1,m2,fun b y hb=>absurd hb (ZV _)⟩ (fun i σ H3 _ hP=>A7.of (hP.2.1 _ _ hD)) (fun j v σ H3 hv hP rt bk N hNj=>?_) (fun σ H3 hP=>?_)⟩
   ·obtain ⟨⟨v5,v6,v7,v8,v9,v10,rfl⟩,s3,G1,W7,m3,m4,m5⟩:=hP;obtain ⟨oth,eoth,rfl,jlt⟩:=strAt hv;have cb:i * 30 + j < 16000000:=by
     have:i * 30<=30 * 30:=ah _ (by lia);lia
    refine ⟨(by show 2<=sizeLine; lia),fun L hL=>?_⟩;have q1:=Ad (o:=.lst [.non,.int 0]) hL;have hL':(upd H3 L (.lst [.non,.int 0])) L=some (.lst [.non,.int 0]):=Ab;generalize upd H3 L (.lst [.non,.int 0])=H4 at q1 hL' ⊢;have ix:JN [V.non,.int 0] (if decide (V.str one=V.str oth)=true then 1 else 0)=some (oI (if one=oth then some 0 else none)):=by
     by_cases z:one=oth
     ·subst z;rw [if_pos (decide_eq_true rfl),if_pos rfl];rfl
     ·rw [if_neg (fun h=>z (by have:=of_decide_eq_true h; injection this)),if_neg z];rfl
    refine ⟨_,rfl,_,rfl,rfl,.inr ⟨_,rfl,L,_,_,_,rfl,rfl,AB.of hL',ix,?_⟩⟩;refine ⟨_,rfl,_,rfl,_,rfl,two,fun t ht=>?_⟩;have q2:=q1.trans (Ad (o:=.tup [.str one,.str oth]) ht);obtain ⟨H5,dp,hG5,kvs,e5⟩:=(W7.same q2).put (by lia) (v:=oI (if one=oth then some 0 else none)) (t:=t) (x:=one) (y:=oth) Ab;refine ⟨A,H5,rfl,dp,hNj _ _ ⟨⟨_,_,_,_,_,_,rfl⟩,fun b u z=>?_,_,hG5.up (by lia),fun x y v h=>?_,fun a x ha ex y hy=>?_,fun b y hb ey=>?_⟩⟩
    ·rw [e5,Af (nAD z)];exact q2 _ _ (s3 _ _ z)
    ·unfold LV at h;split at h
     ·rename_i hc
      obtain ⟨rfl,rfl⟩:=hc;cases h
      exact ⟨Y5 eone,Y5 eoth,rfl⟩
     ·exact m3 x y v h
    ·unfold LV;split
     ·exact ⟨_,rfl⟩
     ·exact m4 a x ha ex y hy
    ·unfold LV;split
     ·exact ⟨_,rfl⟩
     ·rename_i hc
      refine m5 b y ?_ ey;have:b ≠ j:=by
       rintro rfl;rw [eoth] at ey;exact hc ⟨rfl,(YM.inj ey).symm⟩
      lia
   ·obtain ⟨⟨v5,v6,v7,v8,v9,v10,rfl⟩,s3,G1,W7,m3,m4,m5⟩:=hP;rw [Y0] at W7 m5;refine hNi _ _ ⟨⟨_,_,_,_,_,_,_,rfl⟩,s3,G1,W7.up (by lia),m3,fun a x ha ex y hy=>?_⟩;by_cases ea:a=i
    ·subst ea;rw [eone] at ex;cases ex
     obtain ⟨b,hb,eb⟩:=YQ hy;exact m5 b y hb (by rw [Y1 hb,eb])
    ·exact m4 a x (by lia) ex y hy
  obtain ⟨⟨v4,v5,v6,v7,v8,v9,v10,rfl⟩,s2,G,hG,m1,m2⟩:=hP;rw [Y0] at hG m2;obtain ⟨M,hMe⟩:∃ M:Str->Str->Option Int,M=fun x y=>if x=y/\x ∈ xs then some 0 else none:=⟨_,rfl⟩
  have hM:MO H2 A xs M 1000:=by
   refine ⟨G,hG.up (by lia),fun x hx y hy=>?_,fun x y hn=>?_⟩
   ·obtain ⟨a,ha,ea⟩:=YQ hx;obtain ⟨v,hv⟩:=m2 a x ha (by rw [Y1 ha,ea]) y hy;rw [hv,(m1 x y v hv).2.2,hMe];by_cases z:x=y
    ·rw [if_pos z];show _=some (oI (if x=y/\x ∈ xs then some 0 else none))
     rw [if_pos ⟨z,hx⟩]
    ·rw [if_neg z];show _=some (oI (if x=y/\x ∈ xs then some 0 else none))
     rw [if_neg (fun h=>z h.1)]
   ·cases hg:G x y with
    | none=>rfl
    | some v=>exact absurd ⟨(m1 x y v hg).1,(m1 x y v hg).2.1⟩ hn
  have m1:∀ x y n,M x y=some n->x=y/\n=0:=fun x y n h=>by
   rw [hMe] at h;dsimp only at h;split at h
   ·rename_i hc
    cases h
    exact ⟨hc.1,rfl⟩
   ·cases h
  have Wi:∀ x ∈ xs,M x x=some 0:=fun x hx=>by
   rw [hMe];exact if_pos ⟨rfl,hx⟩
  refine ⟨_,rfl,q,_,_,_,rfl,rfl,A7.of (s2 _ _ hq),rfl,e,rfl,⟨_,A7.of (s2 _ _ hE)⟩,Cz (xs:=us) (fun i σ H3=>(∃ v4 v5 v6 v7 v8 v9 v10,σ=[some (.ref q),some (.ref A),v4,v5,v6,v7,v8,v9,v10])/\Ar H H3/\∃ M,MO H3 A xs M (1000 + 2 * i)/\(∀ x y n,M x y=some n->(x=y/\n=0)\/BV ws x y n)/\(∀ x ∈ xs,M x x=some 0)/\∀ x y n,BV (ws.take i) x y n->M x y=some n)
   ⟨⟨_,_,_,_,_,_,_,rfl⟩,s2,M,(hM.up (by lia)),fun x y n h=>.inl (m1 x y n h),Wi,fun x y n h=>(by obtain ⟨u,hu,_⟩:=h; exact absurd hu YB)⟩ (fun i σ H3 _ hP=>A7.of (hP.2.1 _ _ hE)) (fun i v σ H3 hv hP rt bk N hN=>?_) (fun σ H3 hP=>?_)⟩
  ·obtain ⟨⟨v4,v5,v6,v7,v8,v9,v10,rfl⟩,s3,M,hM,n1,n2,n3⟩:=hP;obtain ⟨u,tt,gu,rfl,htt⟩:=Iy hW hv;have um:=Y5 gu;have une:u.1 ≠ u.2.1:=(wof u um).2.2.1;have hi:i < ws.length:=(Y8.mp gu).1;refine ⟨tt,_,rfl,A7.of (s3 _ _ htt),rfl,_,_,rfl,_,_,rfl,_,_,rfl,rfl,?_⟩;refine ⟨_,rfl,_,rfl,_,rfl,_,rfl,two,fun t ht=>?_⟩;obtain ⟨H4,dp,hM4,kvs,e4⟩:=(hM.same (Ad (o:=.tup [.str u.1,.str u.2.1]) ht)).put (by lia) (wof u um).1 (wof u um).2.1 (n:=u.2.2) (t:=t) (x:=u.1) (y:=u.2.1) Ab;have s4:Ar H H4:=fun b o z=>by
    rw [e4,Af (nAD z)];exact Ad ht _ _ (s3 _ _ z)
   refine ⟨A,H4,rfl,dp,?_⟩;refine ⟨_,rfl,_,rfl,_,rfl,_,rfl,two,fun t2 FN=>?_⟩;obtain ⟨H5,dp2,hM5,kvs2,e5⟩:=(hM4.same (Ad (o:=.tup [.str u.2.1,.str u.1]) FN)).put (by lia) (wof u um).2.1 (wof u um).1 (n:=u.2.2) (t:=t2) (x:=u.2.1) (y:=u.1) Ab;refine ⟨A,H5,rfl,dp2,hN _ _ ⟨⟨_,_,_,_,_,_,_,rfl⟩,fun b o z=>?_,_,(hM5.up (by lia)),fun a b n h=>?_,fun x hx=>?_,fun a b n h=>?_⟩⟩
   ·rw [e5,Af (nAD z)];exact Ad FN _ _ (s4 _ _ z)
   ·unfold Ka at h;split at h
    ·rename_i hc
     cases h
     exact .inr ⟨u,um,.inr ⟨hc.2.symm,hc.1.symm⟩,rfl⟩
    ·split at h
     ·rename_i hc
      cases h
      exact .inr ⟨u,um,.inl ⟨hc.1.symm,hc.2.symm⟩,rfl⟩
     ·exact n1 a b n h
   ·unfold Ka;rw [if_neg (fun z=>une (z.2.symm.trans z.1)),if_neg (fun z=>une (z.1.symm.trans z.2))];exact n2 x hx
   ·have hE':BV ws a b n:=by
     obtain ⟨v,hv,r⟩:=h;exact ⟨v,List.mem_of_mem_take hv,r⟩
    unfold Ka;split
    ·rename_i hc
     have:=uni _ _ _ _ hE' ⟨u,um,.inr ⟨hc.2.symm,hc.1.symm⟩,rfl⟩;rw [this]
    ·rename_i hc1
     split
     ·rename_i hc
      have:=uni _ _ _ _ hE' ⟨u,um,.inl ⟨hc.1.symm,hc.2.symm⟩,rfl⟩;rw [this]
     ·rename_i OQ
      refine n3 a b n ?_;obtain ⟨v,hv,ev,el⟩:=h;rw [YS,gu] at hv;rcases YR.mp hv with hv | hv
      ·exact ⟨v,hv,ev,el⟩
      ·have:v=u:=by simpa using hv
       subst this;rcases ev with ⟨x1,x2⟩ | ⟨x1,x2⟩
       ·exact absurd ⟨x1.symm,x2.symm⟩ OQ
       ·exact absurd ⟨x2.symm,x1.symm⟩ hc1
  obtain ⟨⟨v4,v5,v6,v7,v8,v9,v10,rfl⟩,s3,M,hM,n1,n2,n3⟩:=hP;rw [hwl,YL] at n3;have FW0:FW ws xs 0 M:=by
   refine ⟨fun x y n h=>?_,fun x y m g=>?_,fun x hx=>⟨0,n2 x hx,Z6 _⟩⟩
   ·rcases n1 x y n h with ⟨rfl,rfl⟩ | h
    ·exact .nil x
    ·have:=Bj.cons h (.nil y);rwa [b8] at this
   ·cases g with
    | edge e=>exact ⟨m,n3 x y m e,Z6 _⟩
    | cons _ h _=>exact absurd h YB
  refine ⟨_,rfl,q,_,_,_,rfl,rfl,A7.of (s3 _ _ hq),rfl,D,rfl,⟨_,A7.of (s3 _ _ hD)⟩,Cz (xs:=xs.map V.str) (fun t σ H4=>(∃ v4 v5 v6 v7 v8 v9 v10,σ=[some (.ref q),some (.ref A),v4,v5,v6,v7,v8,v9,v10])/\Ar H H4/\∃ M,MO H4 A xs M (2000 + t * 1000)/\FW ws xs t M)
   ⟨⟨_,_,_,_,_,_,_,rfl⟩,s3,M,(hM.up (by lia)),FW0⟩ (fun i σ H4 _ hP=>A7.of (hP.2.1 _ _ hD)) (fun t v σ H4 hv hP rt bk N hNt=>?_) (fun σ H4 hP=>?_)⟩
  ·obtain ⟨⟨v4,v5,v6,v7,v8,v9,v10,rfl⟩,s4,M0,hM0,fw⟩:=hP;have strAt:∀ {i:Nat} {v:V},(xs.map V.str)[i]? = some v->∃ x,xs[i]? = some x/\v=.str x/\i < xs.length:=fun {i v} h=>by
    rw [Y9] at h;cases ex:xs[i]? with
    | none=>rw [ex] at h; cases h
    | some x=>rw [ex] at h; exact ⟨x,rfl,(YM.inj h).symm,(Y8.mp ex).1⟩
   obtain ⟨mid,emid,rfl,tlt⟩:=strAt hv;refine ⟨_,rfl,q,_,_,_,rfl,rfl,A7.of (s4 _ _ hq),rfl,D,rfl,⟨_,A7.of (s4 _ _ hD)⟩,Cz (xs:=xs.map V.str) (fun i σ H5=>(∃ v4 v5 v6 v8 v9 v10,σ=[some (.ref q),some (.ref A),v4,v5,v6,some (.str mid),v8,v9,v10])/\Ar H H5/\∃ M,MO H5 A xs M (2000 + t * 1000 + i * 30)/\FZ M0 M/\(∀ x y n,M x y=some n->Bj ws x y n)/\∀ (a:Nat) x,a < i->xs[a]? = some x->∀ y ∈ xs,∀ p1 p2,M0 x mid=some p1->M0 mid y=some p2->∃ n,M x y=some n/\n<=p1 + p2)
    ⟨⟨_,_,_,_,_,_,rfl⟩,s4,M0,(hM0.up (by lia)),FZ.refl _,fw.sound,fun a x ha=>absurd ha (ZV _)⟩ (fun i σ H5 _ hP=>A7.of (hP.2.1 _ _ hD)) (fun i v σ H5 hv hP rt bk N hNi=>?_) (fun σ H5 hP=>?_)⟩
   ·obtain ⟨⟨v4,v5,v6,v8,v9,v10,rfl⟩,s5,M1,UI,VC,so1,RI⟩:=hP;obtain ⟨one,eone,rfl,ilt⟩:=strAt hv;refine ⟨_,rfl,q,_,_,_,rfl,rfl,A7.of (s5 _ _ hq),rfl,D,rfl,⟨_,A7.of (s5 _ _ hD)⟩,Cz (xs:=xs.map V.str) (fun j σ H6=>(∃ v5 v6 v8 v9 v10,σ=[some (.ref q),some (.ref A),some (.str one),v5,v6,some (.str mid),v8,v9,v10])/\Ar H H6/\∃ M,MO H6 A xs M (2000 + t * 1000 + i * 30 + j)/\FZ M1 M/\(∀ x y n,M x y=some n->Bj ws x y n)/\∀ (b:Nat) y,b < j->xs[b]? = some y->∀ p1 p2,M0 one mid=some p1->M0 mid y=some p2->∃ n,M one y=some n/\n<=p1 + p2)
     ⟨⟨_,_,_,_,_,rfl⟩,s5,M1,(UI.up (by lia)),FZ.refl _,so1,fun b y hb=>absurd hb (ZV _)⟩ (fun i σ H6 _ hP=>A7.of (hP.2.1 _ _ hD)) (fun j v σ H6 hv hP rt bk N hNj=>?_) (fun σ H6 hP=>?_)⟩
    ·obtain ⟨⟨v5,v6,v8,v9,v10,rfl⟩,s6,M2,T4,Vh,so2,PD⟩:=hP;obtain ⟨oth,eoth,rfl,jlt⟩:=strAt hv;have cb:2000 + t * 1000 + i * 30 + j < 16000000:=by
      have:t * 1000<=30 * 1000:=ah _ (by lia);have:i * 30<=30 * 30:=ah _ (by lia);lia
     have moAll:=VC.trans Vh;have hone:one ∈ xs:=Y5 eone;have hoth:oth ∈ xs:=Y5 eoth;have hmid:mid ∈ xs:=Y5 emid;have keepM:∀ {H7:Hp} (v8 v9 v10:Option V),Ar H6 H7->(∀ p1 p2,M0 one mid=some p1->M0 mid oth=some p2->∃ n,M2 one oth=some n/\n<=p1 + p2) ->
       (∃ w5 w6 w8 w9 WJ,([some (.ref q),some (.ref A),some (.str one),some (.str oth),v6,some (.str mid),v8,v9,v10]:St)=[some (.ref q),some (.ref A),some (.str one),w5,w6,some (.str mid),w8,w9,WJ])/\Ar H H7/\∃ M,MO H7 A xs M (2000 + t * 1000 + i * 30 + (j + 1))/\FZ M1 M/\(∀ x y n,M x y=some n->Bj ws x y n)/\∀ (b:Nat) y,b < j + 1->xs[b]? = some y->∀ p1 p2,M0 one mid=some p1->M0 mid y=some p2->∃ n,M one y=some n/\n<=p1 + p2:=by
      intro H7 v8 v9 v10 s7 hv2;refine ⟨⟨_,_,_,_,_,rfl⟩,s6.trans s7,M2,((T4.same s7).up (by lia)),Vh,so2,fun b y hb ey p1 p2 q1 q2=>?_⟩;by_cases eb:b=j
      ·subst eb;rw [eoth] at ey;cases ey
       exact hv2 p1 p2 q1 q2
      ·exact PD b y (by lia) ey p1 p2 q1 q2
     refine ⟨_,rfl,_,rfl,_,rfl,two,fun t1 Fq=>?_⟩;have z1:=Ad (o:=.tup [.str one,.str mid]) Fq;refine ⟨A,_,rfl,(T4.same z1).get hone hmid Ab,?_⟩;refine ⟨_,rfl,_,rfl,_,rfl,two,fun t2 FN=>?_⟩;have z2:=z1.trans (Ad (o:=.tup [.str mid,.str oth]) FN);refine ⟨A,_,rfl,(T4.same z2).get hmid hoth Ab,?_⟩;refine ⟨_,rfl,_,rfl,_,rfl,two,fun t3 X1=>?_⟩;have z3:=z2.trans (Ad (o:=.tup [.str one,.str oth]) X1);refine ⟨A,_,rfl,(T4.same z3).get hone hoth Ab,?_⟩;generalize upd (upd (upd H6 t1 (.tup [.str one,.str mid])) t2 (.tup [.str mid,.str oth])) t3 (.tup [.str one,.str oth])=H7 at z3;refine ⟨_,rfl,_,rfl,?_⟩;cases eo:M2 one mid with
     | none=>
      refine GV (GV ?_);refine hNj _ _ (keepM _ _ _ z3 fun p1 p2 q1 _=>?_);obtain ⟨n',e',_⟩:=moAll one mid p1 q1;rw [eo] at e';cases e'
     | some a1=>
      refine IX ?_;refine ⟨_,rfl,_,rfl,?_⟩;cases em:M2 mid oth with
      | none=>
       refine GV (GV ?_);refine hNj _ _ (keepM _ _ _ z3 fun p1 p2 _ q2=>?_);obtain ⟨n',e',_⟩:=moAll mid oth p2 q2;rw [em] at e';cases e'
      | some a2=>
       refine IX ?_;have low:∀ p1 p2,M0 one mid=some p1->M0 mid oth=some p2->a1 + a2<=p1 + p2:=fun p1 p2 q1 q2=>by
        obtain ⟨n1',UQ,l1'⟩:=moAll one mid p1 q1;obtain ⟨n2',WC,l2'⟩:=moAll mid oth p2 q2;rw [eo] at UQ;rw [em] at WC;cases UQ
        cases WC
        lia
       have putM:∀ (v10:Option V),(∀ n,M2 one oth=some n->a1 + a2<=n)->∀ t6,H7 t6=none->∃ a H8,V.ref A=.ref a/\DL (upd H7 t6 (.tup [.str one,.str oth])) a (.ref t6) (.int (a1 + a2)) H8 /\
         ((∃ w5 w6 w8 w9 WJ,([some (.ref q),some (.ref A),some (.str one),some (.str oth),v6,some (.str mid),some (.int a1),some (.int a2),v10]:St)=[some (.ref q),some (.ref A),some (.str one),w5,w6,some (.str mid),w8,w9,WJ])/\Ar H H8/\∃ M,MO H8 A xs M (2000 + t * 1000 + i * 30 + (j + 1))/\FZ M1 M/\(∀ x y n,M x y=some n->Bj ws x y n)/\∀ (b:Nat) y,b < j + 1->xs[b]? = some y->∀ p1 p2,M0 one mid=some p1->M0 mid y=some p2->∃ n,M one y=some n/\n<=p1 + p2):=by
        intro v10 hle t6 VI;have hws:=(so2 _ _ _ eo).app (so2 _ _ _ em);have z6:=z3.trans (Ad (o:=.tup [.str one,.str oth]) VI);obtain ⟨H8,dp,hM8,kvs,e8⟩:=(T4.same z6).put (by lia) hone hoth (n:=a1 + a2) (t:=t6) (x:=one) (y:=oth) Ab;have mo8:FZ M2 (Ka M2 one oth (a1 + a2)):=fun x y n h=>by
         unfold Ka;split
         ·rename_i hc
          obtain ⟨rfl,rfl⟩:=hc;exact ⟨_,rfl,hle n h⟩
         ·exact ⟨n,h,Z6 _⟩
        refine ⟨A,H8,rfl,dp,⟨_,_,_,_,_,rfl⟩,fun b o z=>?_,_,hM8,Vh.trans mo8,fun x y n h=>?_,fun b y hb ey p1 p2 q1 q2=>?_⟩
        ·rw [e8,Af (nAD z)];exact z6 _ _ (s6 _ _ z)
        ·unfold Ka at h;split at h
         ·rename_i hc
          obtain ⟨rfl,rfl⟩:=hc;cases h
          exact hws
         ·exact so2 x y n h
        ·by_cases eb:b=j
         ·subst eb;rw [eoth] at ey;cases ey
          refine ⟨a1 + a2,?_,low p1 p2 q1 q2⟩;unfold Ka;rw [if_pos ⟨rfl,rfl⟩]
         ·obtain ⟨n,en,ln⟩:=PD b y (by lia) ey p1 p2 q1 q2;obtain ⟨n',Yj,ln'⟩:=mo8 one y n en;exact ⟨n',Yj,by lia⟩
       refine ⟨_,rfl,_,rfl,?_⟩;cases ez:M2 one oth with
       | none=>
        refine IX (IX ?_);refine ⟨_,rfl,_,rfl,_,_,rfl,rfl,_,rfl,_,rfl,_,rfl,two,fun t6 VI=>?_⟩;exact (putM _ (fun n h=>by rw [ez] at h; cases h) t6 VI).imp fun _ h=>h.imp fun _ h=>⟨h.1,h.2.1,hNj _ _ h.2.2⟩
       | some a3=>
        refine GV ?_;refine ⟨_,rfl,_,rfl,_,_,rfl,rfl,_,rfl,_,_,rfl,rfl,_,rfl,?_⟩;refine BI (fun B0=>?_) (fun B0=>?_)
        ·have B0:=of_decide_eq_true B0;refine ⟨_,rfl,_,rfl,_,_,rfl,rfl,_,rfl,_,rfl,_,rfl,two,fun t6 VI=>?_⟩;exact (putM _ (fun n h=>by rw [ez] at h; cases h; lia) t6 VI).imp fun _ h=>h.imp fun _ h=>⟨h.1,h.2.1,hNj _ _ h.2.2⟩
        ·have B0:¬ a1 + a2 < a3:=fun z=>B0 (decide_eq_true z)
         refine hNj _ _ (keepM _ _ _ z3 fun p1 p2 q1 q2=>⟨a3,ez,?_⟩);have:=low p1 p2 q1 q2;lia
    ·obtain ⟨⟨v5,v6,v8,v9,v10,rfl⟩,s6,M2,T4,Vh,so2,PD⟩:=hP;rw [Y0] at T4 PD;refine hNi _ _ ⟨⟨_,_,_,_,_,_,rfl⟩,s6,M2,(T4.up (by lia)),VC.trans Vh,so2,fun a x ha ex y hy p1 p2 q1 q2=>?_⟩;by_cases ea:a=i
     ·subst ea;rw [eone] at ex;cases ex
      obtain ⟨b,hb,eb⟩:=YQ hy;exact PD b y hb (by rw [Y1 hb,eb]) p1 p2 q1 q2
     ·obtain ⟨n,en,ln⟩:=RI a x (by lia) ex y hy p1 p2 q1 q2;obtain ⟨n',Yj,ln'⟩:=Vh x y n en;exact ⟨n',Yj,by lia⟩
   ·obtain ⟨⟨v4,v5,v6,v8,v9,v10,rfl⟩,s5,M1,UI,VC,so1,RI⟩:=hP;rw [Y0] at UI RI;refine hNt _ _ ⟨⟨_,_,_,_,_,_,_,rfl⟩,s5,M1,(UI.up (by lia)),fw.next pos ends emid VC so1 fun x hx y hy p1 p2 q1 q2=>?_⟩;obtain ⟨a,ha,ea⟩:=YQ hx;exact RI a x ha (by rw [Y1 ha,ea]) y hy p1 p2 q1 q2
  ·obtain ⟨⟨v4,v5,v6,v7,v8,v9,v10,rfl⟩,s4,M1,UI,fw⟩:=hP;rw [Y0] at UI fw;exact ⟨_,rfl,k H4 A s4 hA ⟨_,_,UI.md (fun x hx y hy=>let ⟨nn,e,_⟩:=fw.doneW ends (fun x hx y hy=>let ⟨kk,a,_⟩:=mw.sums Wz Sn x hx y hy; ⟨kk,a⟩) x hx y hy; ⟨nn,e⟩),fun x hx y hy=>(fw.doneW ends (fun x hx y hy=>let ⟨kk,a,_⟩:=mw.sums Wz Sn x hx y hy; ⟨kk,a⟩) x hx y hy).imp fun nn h=>⟨by rw [if_pos ⟨hx,hy⟩]; exact h.1,h.2,mw.bound Wz Sn hx hy h.2⟩⟩⟩
end
section
variable {P:Program} {w:World} {K:Y3} {mg:Str->Option Value} {base:Heap}
theorem Lg (h_int:mg "int"=none) (h_len:mg "len"=none) (h_min:mg "min"=none) (h_tuple:mg "tuple"=none) {fT:Addr} {fdT:FuncData} (XT:Fn K mg "_law_take" AI ["_law_pen","_law_many"] fT fdT) (GT:AJ P w K mg base Cb 1 fT fdT ["_law_pen","_law_many"] (Dg K)) {fN:Addr} {fdN:FuncData} (XN:Fn K mg "_law_names" CF ["_law_pen","_law_many"] fN fdN) (GN:AJ P w K mg base Cb 2 fN fdN ["_law_pen","_law_many"] (Hv K)) {fL:Addr} {fdL:FuncData} (XL:Fn K mg "_law_length" Cw ["_law_pen"] fL fdL) (GL:AJ P w K mg base Cb 2 fL fdL ["_law_pen"] (LR K)) {fS:Addr} {fdS:FuncData} (XS:Fn K mg "_law_some" CW ["_law_pen","_law_names_here","_law_many"] fS fdS) (GS:AJ P w K mg base Cb 2 fS fdS ["_law_pen","_law_names_here","_law_many"] (JY K)) {fM:Addr} {fdM:FuncData} (XM:Fn K mg "_law_map" Cq ["_law_pen","_law_names_here","_law_shape"] fM fdM) (GM:AJ P w K mg base Cb 3 fM fdM ["_law_pen","_law_names_here","_law_shape"] (LQ K)) {f:Addr} {fd:FuncData} (F:EO K "_law_case" "_law_case" DO f fd):AJ P w K mg base Cb 4 f fd ["_law_pen","_law_shape"] (MN K):=by
 refine F.ok Gy (fun vs H Q E h=>?_) (fun cdv A outer s H vs Q E hr h=>?_)
 ·obtain ⟨p,sh,rfl,_⟩:=h;rfl
 ·obtain ⟨p,sh,rfl,hP,Wr,sh4,k⟩:=h;have nd:=Gy.nd;have big:100000 < sizeLine:=by decide
  refine ⟨_,(Ae (Aq (i:=2) nd rfl (Or.inl rfl) (Aj GN (hr.mono (by decide)) (by rfl) XN.mg XN.F.kp XN.b .nil Au (Aa (pv 0) (Aa (Aw Bi Ag (Aj GT (hr.mono (by decide)) (by rfl) XT.mg XT.F.kp XT.b .nil Au (Aa (pv 0) (Aa Ag Ac)))) Ac))))
  (Ae (Aq (i:=3) nd rfl (Or.inl rfl) (Aj GM (hr.mono (by decide)) (by rfl) XM.mg XM.F.kp XM.b .nil Au (Aa (pv 0) (Aa (pv 2) (Aa (pv 1) Ac)))))
  (Ae (Aq (i:=4) nd rfl (Or.inl rfl) (Aj GT (hr.mono (by decide)) (by rfl) XT.mg XT.F.kp XT.b .nil Au (Aa (pv 0) (Aa Ag Ac))))
  (Ae (Aq (i:=5) nd rfl (Or.inl rfl) (B9 Ac))
  (Ae (Bs PassesOwn.never rfl (Bt K rfl (Aj GS (hr.mono (by decide)) (by rfl) XS.mg XS.F.kp XS.b .nil Au (Aa (pv 0) (Aa (pv 2) (Aa (Aw Bi Ag (Aj GT (hr.mono (by decide)) (by rfl) XT.mg XT.F.kp XT.b .nil Au (Aa (pv 0) (Aa (Ak (Gq rfl) (by rfl) h_min PyProof.Rows.boot_min (Aa Ag (Aa (Ak (Ax K rfl) (by rfl) h_len PySem.boot_len (Aa (pv 2) Ac)) Ac))) Ac)))) Ac))))) (Ai (i:=6) nd rfl (Or.inl rfl))
  (Al (DR (FF PySem.F.plainAttrs_list PySem.F.slot_list_append PySem.F.type_list_append BZ (pv 5) (Aa (A9 (Aa (pv 6) (Aa (AA (AL K rfl) (B9 (Aa Ag (Aa (Aj GT (hr.mono (by decide)) (by rfl) XT.mg XT.F.kp XT.b .nil Au (Aa (pv 0) (Aa Ag Ac))) (Aa (Aj GT (hr.mono (by decide)) (by rfl) XT.mg XT.F.kp XT.b .nil Au (Aa (pv 0) (Aa Ag Ac))) (Aa (Aw Ki (Aj GL (hr.mono (by decide)) (by rfl) XL.mg XL.F.kp XL.b .nil Au (Aa (pv 0) Ac)) Ag) Ac))))) (pv 4) (fun _ _=>rfl)) Ac))) Ac)))))
  (Ae (Aq (i:=7) nd rfl (Or.inl rfl) (B9 Ac))
  (Ae (Bs PassesOwn.never rfl (Bt K rfl (Aj GS (hr.mono (by decide)) (by rfl) XS.mg XS.F.kp XS.b .nil Au (Aa (pv 0) (Aa (pv 2) (Aa (Aw Bi Ag (Aj GT (hr.mono (by decide)) (by rfl) XT.mg XT.F.kp XT.b .nil Au (Aa (pv 0) (Aa (Ak (Gq rfl) (by rfl) h_min PyProof.Rows.boot_min (Aa Ag (Aa (Ak (Ax K rfl) (by rfl) h_len PySem.boot_len (Aa (pv 2) Ac)) Ac))) Ac)))) Ac))))) (Ai (i:=6) nd rfl (Or.inl rfl))
  (Al (DR (FF PySem.F.plainAttrs_list PySem.F.slot_list_append PySem.F.type_list_append BZ (pv 7) (Aa (A9 (Aa (pv 6) (Aa (AA (AL K rfl) (B9 (Aa (Aw Bi Ag (Aj GT (hr.mono (by decide)) (by rfl) XT.mg XT.F.kp XT.b .nil Au (Aa (pv 0) (Aa Ag Ac)))) (Aa (Aj GL (hr.mono (by decide)) (by rfl) XL.mg XL.F.kp XL.b .nil Au (Aa (pv 0) Ac)) Ac))) (A1 EN (by rfl) h_int PyProof.Rows.boot_int (Aa (Hl Nm (Aj GT (hr.mono (by decide)) (by rfl) XT.mg XT.F.kp XT.b .nil Au (Aa (pv 0) (Aa Ag Ac))) Ag (BF _)) Ac)) (fun _ _=>rfl)) Ac))) Ac)))))
  (Ae (Aq (i:=8) nd rfl (Or.inl rfl) (AA (AL K rfl) (B9 (Aa Gf (Aa (Aw Bi Ag (Aj GT (hr.mono (by decide)) (by rfl) XT.mg XT.F.kp XT.b .nil Au (Aa (pv 0) (Aa (Ak (Ax K rfl) (by rfl) h_len PySem.boot_len (Aa (pv 5) Ac)) Ac)))) (Aa (Aw Bi Ag (Aj GT (hr.mono (by decide)) (by rfl) XT.mg XT.F.kp XT.b .nil Au (Aa (pv 0) (Aa Ag Ac)))) Ac)))) (Aj GT (hr.mono (by decide)) (by rfl) XT.mg XT.F.kp XT.b .nil Au (Aa (pv 0) (Aa Ag Ac))) (fun _ _=>rfl)))
  (Al (AK (A9 (Aa (pv 3) (Aa (A1 (A8 K rfl) (by rfl) h_tuple PyProof.Rows.boot_tuple (Aa (pv 5) Ac)) (Aa (A1 (A8 K rfl) (by rfl) h_tuple PyProof.Rows.boot_tuple (Aa (pv 7) Ac)) (Aa (pv 8) Ac))))))))))))))),?_⟩
  have t30:(100:Int) < 10 ^ 30:=by decide
  refine ⟨_,rfl,_,rfl,p,9,rfl,hP,by decide,by decide,fun d1 H1 P1 k1 Yt Ys=>⟨_,_,rfl,rfl,?_⟩⟩;obtain ⟨n1,rfl⟩:∃ n:Nat,d1=n:=⟨d1.toNat,by lia⟩
  refine ⟨p,1 + n1,rfl,P1,by lia,fun H2 D xs P2 k2 fD hD xl xnd xnm=>?_⟩;have nD:D ≠ p:=P1.ne fD;refine ⟨_,rfl,_,rfl,_,rfl,p,D,xs,sh,rfl,P2,hD,nD,xnd,xnm,by lia,by lia,Wr,sh4,fun H3 m ps ws P3 k3 pp mw=>?_⟩;have Fy:=k3 _ _ nD hD;have q3:=(k1.trans k2).trans k3;refine ⟨_,rfl,p,4,rfl,P3,by decide,by decide,fun wy H4 P4 k4 wy0 wy4=>?_⟩;have q4:=q3.trans k4;have mw4:=mw.keepT (D9 P3 k4);have OR:=k4 _ _ nD Fy;clear mw Fy hD k1 k2 k3 k4 q3 P1 P2 P3 fD;refine ⟨(by show 0<=sizeLine; lia),fun R hR=>?_⟩;have nR:R ≠ p:=P4.ne hR;have nRD:R ≠ D:=fun z=>by rw [z,OR] at hR; cases hR
  have s5:=Ad (o:=.lst []) hR;have P5:=P4.same s5;have VA:=mw4.keepT (fun b ys z=>s5 _ _ z);have Lu:=s5 _ _ OR;have W6:(upd H4 R (.lst [])) R=some (.lst []):=Ab;have q5:AV p H (upd H4 R (.lst [])):=q4.trans (AV.of_same s5);have frR:H R=none:=by
   cases z:H R with
   | none=>rfl
   | some o=>rw [q4 _ _ nR z] at hR; cases hR
  generalize upd H4 R (.lst [])=H5 at P5 VA Lu W6 q5;clear mw4 OR hR s5 P4 q4;have lx:((xs.map V.str).length:Int)=1 + (n1:Int):=by rw [Y0,xl]; lia
  refine ⟨_,rfl,_,rfl,_,rfl,_,rfl,D,_,rfl,.inl (AB.of Lu),_,_,rfl,p,_,rfl,P5,by rw [lx]; split <;> lia,by rw [lx]; split <;> lia,fun d2 H6 P6 k6 d20 WE=>⟨_,_,rfl,rfl,?_⟩⟩;rw [lx] at WE;obtain ⟨n2,rfl⟩:∃ n:Nat,d2=n:=⟨d2.toNat,by lia⟩
  have n2b:1 + n2<=xs.length/\n2 < 6:=by
   rw [xl];split at WE <;> lia
  refine ⟨p,D,xs,1 + n2,rfl,P6,k6 _ _ nD Lu,nD,by lia,n2b.1,fun H7 D1 ys zs P7 k7 W9 SD pm yl so=>⟨D1,rfl,⟨_,AB.of SD⟩,?_⟩⟩;have VG:=k6.trans k7;have W0:=VA.keepT (D9 P5 VG);have Vm:=VG _ _ nD Lu;have XG:=VG _ _ nR W6;have q7:=q5.trans VG;have nD1:D1 ≠ p:=P6.ne W9;have nDR:D1 ≠ R:=fun z=>by rw [z,k6 _ _ nR W6] at W9; cases W9
  clear VA Lu W6 q5 k6 k7 VG P5 P6 W9;refine FO (xs:=ys.map V.str) (fun i σ H'=>∃ (v6:Option V) (rs:List CB) (vs:List V),σ=[some (.ref p),some (.int sh),some (.ref D),some (.ref m),some (.int wy),some (.ref R),v6,none,none]/\R5 K H7 H' p R rs vs/\rs.map (·.1)=ys.take i/\vs.length=i/\∀ r ∈ rs,0<=r.2/\r.2 < 10 ^ 30)
   ⟨_,[],[],rfl,⟨P7,fun b o _ _ z=>z,XG,.nil,nR⟩,rfl,rfl,fun r hr=>nomatch hr⟩ (fun i σ H' _ ⟨_,_,_,_,r5,_⟩=>AB.of (r5.kp _ _ nD1 nDR SD)) ?_ ?_
  ·rintro i v σ H' hv ⟨v6,rs,vs,rfl,r5,rt,vl,rl⟩;obtain ⟨y,ey,rfl⟩:∃ y,ys[i]? = some y/\v=.str y:=by
    rw [Y9] at hv;cases ex:ys[i]? with
    | none=>rw [ex] at hv; cases hv
    | some x=>rw [ex] at hv; exact ⟨x,rfl,(YM.inj hv).symm⟩
   have ii:=(Y8.mp ey).1;refine ⟨_,rfl,.inl ⟨rfl,_,AB.of r5.hR⟩,_,rfl,_,rfl,p,5,rfl,r5.pn,by decide,by decide,fun e1 Ha Pa ka Wh WD=>?_⟩;refine ⟨_,rfl,p,40,rfl,Pa,by decide,by decide,fun e2 Hb Pb kb e20 e21=>?_⟩;refine ⟨_,rfl,p,rfl,Pb,fun le Hc Pc kc le1 VE=>⟨_,_,rfl,rfl,(by show 4<=sizeLine; lia),fun T hT=>?_⟩⟩;have rc:=r5.step Pc ((ka.trans kb).trans kc);obtain ⟨a,ha,a0,Yw⟩:∃ a:Int,JN [V.int 0,V.int e1,V.int e2,V.int (le - 1)] wy=some (.int a)/\0<=a/\a < 10 ^ 30:=by
    have c:wy=0\/wy=1\/wy=2\/wy=3:=by lia
    rcases c with rfl | rfl | rfl | rfl
    ·exact ⟨0,rfl,by lia,by lia⟩
    ·exact ⟨e1,rfl,by lia,by lia⟩
    ·exact ⟨e2,rfl,by lia,by lia⟩
    ·exact ⟨le - 1,rfl,by lia,by lia⟩
   have rd:=rc.add hT (.lst [.int 0,.int e1,.int e2,.int (le - 1)]);refine ⟨_,rfl,T,_,_,_,rfl,rfl,AB.of Ab,ha,(by show 2<=sizeLine; lia),fun T2 Pr=>?_⟩;have re:=rd.add Pr (.tup [.str y,.int a]);refine ⟨R,_,_,rfl,rfl,re.hR,by lia,?_⟩;refine ⟨_,rs ++ [(y,a)],_,rfl,re.app Ab,by rw [YE,rt,YS,ey]; rfl,by rw [Y6,vl]; rfl,fun r hr=>?_⟩;rcases YR.mp hr with hr | hr
   ·exact rl r hr
   ·rw [YJ.mp hr]; exact ⟨a0,Yw⟩
  rintro σ H8 ⟨v6,Az,WM,rfl,r8,R8,vl1,Xd⟩;rw [Y0,YL] at R8;rw [Y0] at vl1;have Xb:Az.length=ys.length:=by rw [<-R8,Y0]
  have tp8:∀ b xs,H7 b=some (.tup xs)->H8 b=some (.tup xs):=fun b xs z=>r8.kp b _ (by obtain ⟨_,_,_,_,y,_⟩:=P7; exact BE z y (fun q=>by cases q)) (BE z XG (fun q=>by cases q)) z
  have mw8:=W0.keepT tp8;have Vl:=r8.kp _ _ nD nRD.symm Vm;have q8:AV p H H8:=fun b o hb z=>r8.kp b o hb (Ah z frR) (q7 b o hb z)
  have P8:=r8.pn;have XE:=r8.hR;have dd8:=r8.dd;have ok1:EC ps 0 Az:=CO pm xnd R8 Xd (by lia) pp;clear r8 W0 Vm XG tp8 SD nDR nD1 q7 P7;refine ⟨(by show 0<=sizeLine; lia),fun R2 S7=>?_⟩;have U0:R2 ≠ p:=P8.ne S7;have nR2D:R2 ≠ D:=fun z=>by rw [z,Vl] at S7; cases S7
  have nRR:R ≠ R2:=fun z=>by rw [<-z,XE] at S7; cases S7
  have s9:=Ad (o:=.lst []) S7;have P9:=P8.same s9;have Xp:=mw8.keepT (fun b ys z=>s9 _ _ z);have W8:=s9 _ _ Vl;have XD:=s9 _ _ XE;have Yn:=BC dd8 (fun b ys z=>s9 _ _ z);have S6:(upd H8 R2 (.lst [])) R2=some (.lst []):=Ab;have q9:AV p H (upd H8 R2 (.lst [])):=q8.trans (AV.of_same s9);have Ye:H R2=none:=by
   cases z:H R2 with
   | none=>rfl
   | some o=>rw [q8 _ _ U0 z] at S7; cases S7
  generalize upd H8 R2 (.lst [])=H9 at P9 Xp W8 XD Yn S6 q9;clear mw8 Vl XE dd8 q8 P8 s9 S7;refine ⟨_,rfl,_,rfl,_,rfl,_,rfl,D,_,rfl,.inl (AB.of W8),_,_,rfl,p,_,rfl,P9,by rw [lx]; split <;> lia,by rw [lx]; split <;> lia,fun d3 LF Ta k10 d30 Yr=>⟨_,_,rfl,rfl,?_⟩⟩;rw [lx] at Yr;obtain ⟨n3,rfl⟩:∃ n:Nat,d3=n:=⟨d3.toNat,by lia⟩
  have n3b:1 + n3<=xs.length/\n3 < 8:=by
   rw [xl];split at Yr <;> lia
  refine ⟨p,D,xs,1 + n3,rfl,Ta,k10 _ _ nD W8,nD,by lia,n3b.1,fun Pm D2 Vu zs2 Wk k11 Vp Ij Wv yl2 so2=>⟨D2,rfl,⟨_,AB.of Ij⟩,?_⟩⟩;have OJ:=k10.trans k11;have VB:=Xp.keepT (D9 P9 OJ);have Wb:=OJ _ _ nR XD;have Wj:=BC Yn (D9 P9 OJ);have Rb:=OJ _ _ U0 S6;have q11:=q9.trans OJ;have Sq:D2 ≠ p:=Ta.ne Vp;have V9:D2 ≠ R2:=fun z=>by rw [z,k10 _ _ U0 S6] at Vp; cases Vp
  clear Xp W8 XD Yn S6 q9 P9 Ta k10 k11 OJ Vp;refine FO (xs:=Vu.map V.str) (fun i σ H'=>∃ (v6:Option V) (rs:List CB) (vs:List V),σ=[some (.ref p),some (.int sh),some (.ref D),some (.ref m),some (.int wy),some (.ref R),v6,some (.ref R2),none]/\R5 K Pm H' p R2 rs vs/\rs.map (·.1)=Vu.take i/\vs.length=i/\∀ r ∈ rs,1<=r.2/\r.2 < 10 ^ 30)
   ⟨_,[],[],rfl,⟨Wk,fun b o _ _ z=>z,Rb,.nil,U0⟩,rfl,rfl,fun r hr=>nomatch hr⟩ (fun i σ H' _ ⟨_,_,_,_,r5,_⟩=>AB.of (r5.kp _ _ Sq V9 Ij)) ?_ ?_
  ·rintro i v σ H' hv ⟨v6,rs,vs,rfl,r5,rt,vl,rl⟩;obtain ⟨y,ey,rfl⟩:∃ y,Vu[i]? = some y/\v=.str y:=by
    rw [Y9] at hv;cases ex:Vu[i]? with
    | none=>rw [ex] at hv; cases hv
    | some x=>rw [ex] at hv; exact ⟨x,rfl,(YM.inj hv).symm⟩
   have ii:=(Y8.mp ey).1;refine ⟨_,rfl,.inl ⟨rfl,_,AB.of r5.hR⟩,_,rfl,_,rfl,p,4,rfl,r5.pn,by decide,by decide,fun e1 Ha Pa ka Wh WD=>⟨_,_,rfl,rfl,?_⟩⟩;refine ⟨_,rfl,p,rfl,Pa,fun le Hc Pc kc le1 VE=>⟨(by show 2<=sizeLine; lia),fun T hT=>?_⟩⟩;have rd:=(r5.step Pc (ka.trans kc)).add hT (.lst [.int (1 + e1),.int le]);have nT:T ≠ p:=Pc.ne hT;have Mr:(upd Hc T (.lst [.int (1 + e1),.int le])) T=some (.lst [.int (1 + e1),.int le]):=Ab;generalize upd Hc T (.lst [.int (1 + e1),.int le])=Hd at rd Mr;refine ⟨_,rfl,p,5,rfl,rd.pn,by decide,by decide,fun e3 He Pe ke e30 e31=>⟨rfl,.inr ⟨_,rfl,?_⟩⟩⟩;have re:=rd.step Pe ke;have hTe:=ke _ _ nT Mr;obtain ⟨a,ha,a0,Yw⟩:∃ a:Int,JN [V.int (1 + e1),V.int le] (if decide (V.int e3=V.int 0)=true then 1 else 0)=some (.int a)/\1<=a/\a < 10 ^ 30:=by
    split
    ·exact ⟨le,rfl,le1,VE⟩
    ·exact ⟨1 + e1,rfl,by lia,by lia⟩
   refine ⟨T,_,_,_,rfl,rfl,AB.of hTe,ha,(by show 2<=sizeLine; lia),fun T2 Pr=>?_⟩;have rf:=re.add Pr (.tup [.str y,.int a]);refine ⟨R2,_,_,rfl,rfl,rf.hR,by lia,?_⟩;refine ⟨_,rs ++ [(y,a)],_,rfl,rf.app Ab,by rw [YE,rt,YS,ey]; rfl,by rw [Y6,vl]; rfl,fun r hr=>?_⟩;rcases YR.mp hr with hr | hr
   ·exact rl r hr
   ·rw [YJ.mp hr]; exact ⟨a0,Yw⟩
  rintro σ Wn ⟨v6',Bh,TM,rfl,Ul,RW,vl2,Xc⟩;rw [Y0,YL] at RW;rw [Y0] at vl2;have Xa:Bh.length=Vu.length:=by rw [<-RW,Y0]
  have TU:∀ b xs,Pm b=some (.tup xs)->Wn b=some (.tup xs):=fun b xs z=>Ul.kp b _ (by obtain ⟨_,_,_,_,y,_⟩:=Wk; exact BE z y (fun q=>by cases q)) (BE z Rb (fun q=>by cases q)) z
  have Xq:=VB.keepT TU;have Wa:=Ul.kp _ _ nR nRR Wb;have Yq:=BC Wj TU;have q12:AV p H Wn:=fun b o hb z=>Ul.kp b o hb (Ah z Ye) (q11 b o hb z)
  have Vr:=Ul.pn;have VZ:=Ul.hR;have Ym:=Ul.dd;have ok2:EC ps 1 Bh:=CO Wv xnd RW Xc (by lia) pp;clear Ul VB Wb Wj Rb q11 Wk TU Ij Sq V9;refine ⟨_,rfl,_,rfl,R,_,rfl,.inl (AB.of Wa),p,_,rfl,Vr,by lia,by lia,fun f1 Yz Yx k13 f10 f11=>⟨_,_,rfl,rfl,?_⟩⟩;refine ⟨_,rfl,p,12,rfl,Yx,by decide,by decide,fun f2 H14 P14 k14 f20 f21=>⟨_,_,rfl,rfl,(by show 3<=sizeLine; lia),fun T hT=>?_⟩⟩;have R7:=Ad (o:=.lst [.non,.int (1 + f1),.int (1 + f2)]) hT;have P15:=P14.same R7;have nT:T ≠ p:=P14.ne hT;have Mr:(upd H14 T (.lst [.non,.int (1 + f1),.int (1 + f2)])) T=some (.lst [.non,.int (1 + f1),.int (1 + f2)]):=Ab;have k15:=(k13.trans k14).trans (AV.of_same R7);generalize upd H14 T (.lst [.non,.int (1 + f1),.int (1 + f2)])=H15 at P15 Mr k15;refine ⟨_,rfl,p,3,rfl,P15,by decide,by decide,fun f3 H16 P16 k16 f30 f31=>?_⟩;obtain ⟨x,d,hx,lim⟩:∃ (x:V) (d:PyData),JN [V.non,V.int (1 + f1),V.int (1 + f2)] f3=some x/\Lim x d:=by
   have c:f3=0\/f3=1\/f3=2:=by lia
   rcases c with rfl | rfl | rfl
   ·exact ⟨_,_,rfl,.inl ⟨rfl,rfl⟩⟩
   ·exact ⟨_,_,rfl,.inr ⟨1 + f1,rfl,rfl,by lia,by lia⟩⟩
   ·exact ⟨_,_,rfl,.inr ⟨1 + f2,rfl,rfl,by lia,by lia⟩⟩
  refine ⟨T,_,_,x,rfl,rfl,AB.of (k16 _ _ nT Mr),hx,?_⟩;have kk:=k15.trans k16;have tt:=D9 Vr kk;have q16:=q12.trans kk;refine ⟨_,rfl,_,rfl,R,_,rfl,.inl ⟨AB.of (kk _ _ nR Wa),fun t1 Fq=>?_⟩⟩;have s17:=Ad (o:=.tup WM) Fq;refine ⟨_,rfl,R2,_,rfl,.inl ⟨AB.of (s17 _ _ (kk _ _ U0 VZ)),fun t2 FN=>?_⟩⟩;have Wt:=Ad (o:=.tup TM) FN;refine ⟨_,rfl,(by show 4<=sizeLine; lia),fun c hc=>?_⟩;have WY:=Ad (o:=.tup [.ref m,.ref t1,.ref t2,x]) hc;have sa:=s17.trans (Wt.trans WY);refine k _ c m (1 + n1) ps ws Az Bh x d (P16.same sa) (q16.trans (AV.of_same sa)) ⟨⟨⟨t1,t2,WM,TM,Ab,WY _ _ (Wt _ _ Ab),BC Yq fun b ys z=>sa _ _ (tt _ _ z),WY _ _ Ab,BC Ym fun b ys z=>sa _ _ (tt _ _ z)⟩,by rw [<-xl]; exact Xq.keepT fun b ys z=>sa _ _ (tt _ _ z),by lia,by lia,ok1,ok2,by lia,by lia,lim⟩,by lia,by lia,by lia,by rw [R8]; exact so,by rw [RW]; exact so2⟩
end
end K41
namespace L2
open PySem PySem.Spec PyProof.Rows
theorem Hg {X:Cx} (hc:X.calm=true):Bl X (.builtin "sorted") (fun xs H Q=>∃ (d:Addr) (kvs:List (List A6 × V)) (kd:Nat->Bool),xs=[.ref d]/\H d=some (.dT kvs)/\(∀ p ∈ kvs,p.1 ≠ []/\∀ (i:Nat) k,p.1[i]? = some k->LD (kd i) (kV k))/\kvs.length < 64 /\
  ∀ (l:Addr) (ts:List Addr) (ks:List (List A6)),H l=none->ks.Perm (kvs.map (·.1))->ts.length=ks.length->(∀ (i:Nat) t k,ts[i]? = some t->ks[i]? = some k->H t=some (.tup (k.map kV)))->Q (.ref l) (upd H l (.lst (ts.map V.ref)))):=by
 intro pins s σ H xs us Q I r h;obtain ⟨d,kvs,kd,rfl,hd,hk,IK,q⟩:=h;obtain ⟨u,rfl,ru⟩:=BO r;cases ru
 obtain ⟨z,y,xs,rel,o,es,ep,h1,h2,h3,h4,h5⟩:=(show A5 X.prog X.w H s.heap d (.dT kvs) from I.hok d _ hd)
 have rl:=Paired.length rel;have hlen:es.size=kvs.length:=by
  rw [<-YY,h4,Y0];exact rl.symm
 have sm:∀ {l:List (List A6 × V)} {m:List (List A6 × Addr × Value)},Paired (fun (p:List A6 × V) (q:List A6 × Addr × Value)=>p.1=q.1/\H q.2.1=some (.tup (p.1.map kV))/\A3 p.2 q.2.2) l m->l.map (·.1)=m.map (·.1)/\∀ q ∈ m,H q.2.1=some (.tup (q.1.map kV)):=by
  intro l m r;induction r with
  | nil=>exact ⟨rfl,fun q hq=>nomatch hq⟩
  | cons a b ih=>
   refine ⟨by rw [YK,YK,a.1,ih.1],fun q hq=>?_⟩;rcases Y4.mp hq with rfl | hq
   ·rw [<-a.1]; exact a.2.1
   ·exact ih.2 q hq
 obtain ⟨keq,kat⟩:=sm rel;have vals:∀ l:List (List A6 × Addr × Value),A4 ((l.map (·.2.1)).map V.ref) (l.map fun q=>Value.ref q.2.1):=by
  intro l;induction l with
  | nil=>exact .nil
  | cons q l ih=>exact .cons rfl ih
 have tk:∀ v ∈ (xs.map (·.2.1)).map V.ref,My H kd v:=fun v hv=>by
  obtain ⟨t,ht,rfl⟩:=YA.mp hv;obtain ⟨q,hq,rfl⟩:=YA.mp ht;have hm:q.1 ∈ kvs.map (·.1):=by rw [keq]; exact aj hq
  obtain ⟨p,hp,e⟩:=YA.mp hm;obtain ⟨n1,n2⟩:=hk p hp;rw [e] at n1 n2;refine ⟨_,_,rfl,kat q hq,fun z=>n1 (bc.mp z),fun i y e=>?_⟩;rw [Y9] at e;cases w:q.1[i]? with
  | none=>rw [w] at e; cases e
  | some k=>rw [w] at e; rw [<-YM.inj e]; exact n2 i k w
 have tu:=MC I (vals xs) tk;refine Calls.call_function_entry kind_sorted plain_sorted entry_sorted (args_sorted1 _) ?_;unfold Builtin.«sorted»;refine wpAny_bind (m:=checkCount "sorted" 1 1 _) (wpAny_pure ?_);refine wpAny_bind (PySem.W.kdu_collect (RX (es:=es) (ep:=ep) y) (I.ok.hd hc) ⟨o,h1,h2,h3⟩ (by rw [hlen]; exact z) fun h' tk acc OO hacc=>?_);have key:∀ (i:Nat) v,acc.toList[i]? = some v->∃ q,xs[i]? = some q/\v=.ref q.2.1:=fun i v e=>by
  have e2:=hacc.2 i v (by rw [<-Z3]; exact e);dsimp only at e2;rw [<-Z3,h4,Y9] at e2;cases z:xs[i]? with
  | none=>rw [z] at e2; cases e2
  | some q=>
   rw [z] at e2;exact ⟨q,rfl,(YM.inj e2).symm⟩
 have al:acc.toList.length=xs.length:=by
  rw [YY,hacc.1,<-YY,h4,Y0]
 have av:acc.toList=xs.map fun q=>Value.ref q.2.1:=by
  refine ZJ (by rw [al,Y0]) fun i i1 i2=>?_
  obtain ⟨q,e1,e2⟩:=key i _ (Y1 i1);rw [Z9];rw [Y1 (by rw [<-al]; exact i1)] at e1;rw [e2,YM.inj e1]
 have big:100000 < sizeLine:=by decide
 refine wpAny_bind (wpAny_newList ?_ (by rw [al]; lia));have hoL:(h'.push (seqObj "list" acc.toList.toArray 0)).get? h'.objs.size=some (seqObj "list" acc.toList.toArray 0):=YD _ rfl;have keep:∀ b o,s.heap.get? b=some o->(h'.push (seqObj "list" acc.toList.toArray 0)).get? b=some o:=fun b o q=>Y2 _ (OO b o q)
 show wpAny _ _ _ _ _ { s with heap:=h'.push (seqObj "list" acc.toList.toArray 0),toks:=tk }
 refine wpAny_bind (wpAny_holding (wpAny_call_entry slot_list_sort ⟨_,hoL,rfl⟩ entry_list_sort (Fl (sw:=Ks (CK s.heap)) (s:={ s with heap:=h'.push (seqObj "list" acc.toList.toArray 0),toks:=tk }) hoL (by rw [al]; lia) (by rw [al]; lia) ?_ fun out o1 _=>⟨_,rfl,wpAny_pure ⟨_,rfl,?_⟩⟩) (args_list_sort _)))
 ·intro z2 h'' kp;exact Jp (s:={ s with toks:=tk }) (by rw [av]; exact tu) z2 _ h'' fun b o e=>kp b o (YF (YC (OO b o e))) (keep b o e)
 ·rw [av] at o1;obtain ⟨Px,px,rfl⟩:=G5 _ o1.symm xs rfl;obtain ⟨e,he⟩:=sortedHeap_at (out:=(Px.map fun q=>Value.ref q.2.1).toArray) hoL;have gone:s.heap.get? h'.objs.size=none:=by
   cases z:s.heap.get? h'.objs.size with
   | none=>rfl
   | some o=>exact absurd (YC (OO _ _ z)) (Zp _)
  have fl:H h'.objs.size=none:=by
   cases z:H h'.objs.size with
   | none=>rfl
   | some u=>
    obtain ⟨ob,e⟩:=A5.there (I.hok _ u z);rw [gone] at e;cases e
  obtain ⟨m,hlm⟩:=id I.loc;obtain ⟨oL,esL,epL,VQ,rL⟩:=id hlm.1;have old:∀ b o,s.heap.get? b=some o->(sortedHeap (h'.push (seqObj "list" acc.toList.toArray 0)) h'.objs.size acc.toList (Px.map fun q=>Value.ref q.2.1).toArray).get? b=some o:=fun b o q=>by
   have q':=OO b o q;have lt:=YC q';rw [sortedHeap_old (YF lt) (by rw [size_push']; exact YV lt)];exact Y2 _ q'
  have pl:=px.length_eq;have I2:=I.laidF (D:=h'.objs.size) (o:=.lst ((Px.map (·.2.1)).map V.ref)) hlm ⟨oL,esL,epL,old _ _ VQ,rL⟩ (fun b ob _ q=>old b ob q) gone (fun z=>by rw [z,VQ] at gone; cases gone)
   ⟨by rw [Y0,Y0,pl,<-rl]; exact z,_,e,vals Px,he⟩
  refine ⟨.ref h'.objs.size,_,I2.kept (t':=tk) fun b u q=>q,rfl,q h'.objs.size (Px.map (·.2.1)) (Px.map (·.1)) fl ?_ (by rw [Y0,Y0]) fun i t k e1 e2=>?_⟩
  ·rw [keq]; exact px.map _
  ·rw [Y9] at e1 e2;cases w:Px[i]? with
   | none=>rw [w] at e1; cases e1
   | some q=>
    rw [w] at e1 e2;rw [<-YM.inj e1,<-YM.inj e2];exact kat q (px.mem_iff.mp (Y5 w))
end L2
namespace K41
open PySem L2
section
variable {P:Program} {w:World} {K:Y3} {mg:Str->Option Value} {base:Heap}
theorem U1 (h_sorted:mg "sorted"=none) (h_tuple:mg "tuple"=none) {f:Addr} {cdv:Value} {A:Around} {outer:List Env} {s:Shared} {H:Hp} {E:XK} (hr:Ee 2 (A.deeper (PyProof.Rows.envOfC "_law_map" (Ao Cq) s.heap.objs.size f cdv))) :
  ∃ tl,LC (Jb Cb P w K mg base ["_law_pen","_law_names_here","_law_shape","_law_ways","_law_k","_law_other","_law_turn","_law_pair"] "_law_map" (Ao Cq) f cdv A outer s H E).nox ((Cn Cq).drop 3) tl /\
   ∀ (W:ED) (H0 H1:Hp) (p e D:Addr) (xs:List Str) (us:List AG) (v2 v4 v5 v6 v7:Option V),M5 K H0 H1 p e D xs us->Fe xs us->us.length<=31->(∀ u ∈ us,u.2.2 < 10 ^ 30)->xs.Nodup->(∀ x ∈ xs,AY x=true)->xs.length<=26 ->
    (∀ (H':Hp) (m:Addr) (ps:List Str) (ws:List AG),D8 K H' p->AV p H0 H'->ps.Perm xs->Fw H' m xs.length ps ws->W.rt (.ref m) H')->tl W [some (.ref p),some (.ref e),v2,some (.ref D),v4,v5,v6,v7] H1:=by
 have nd:=Fg.nd;have hu:=Ey hr;have big:100000 < sizeLine:=by decide
 refine ⟨_,(Al (AK (A9 (Aa (A1 (A8 K rfl) (by rfl) h_tuple PyProof.Rows.boot_tuple (Aa (Ak Ca (by rfl) h_sorted PyProof.Rows.boot_sorted (Aa (pv 1) Ac)) Ac)) (Aa (A1 (A8 K rfl) (by rfl) h_tuple PyProof.Rows.boot_tuple (Aa (Bv (N:=["_law_pair","_law_ways"]) (σ0:=fun σ=>[none,some 3].map fun j=>j.bind fun j=>(σ[j]?).join) rfl (A2.caught (by rfl) (by decide +kernel) rfl (by decide +kernel) (by intro y hy; simp only [Y4,YB,or_false] at hy; rcases hy with rfl <;> rfl)
   (by intro y hy e; simp only [Y4,YB,or_false] at hy; rcases hy with rfl | rfl | rfl <;> first | exact ⟨_,rfl⟩ | cases e)) (fun σ _=>AH.of [none,some 3] rfl (by
   intro i j x h1 h2;match i,h1,h2 with
   | 0,_,h2=>cases h2
   | 1,h1,h2=>cases h1; cases h2; exact ⟨rfl,.inl rfl,.inl rfl⟩
   | n + 2,h1,_=>cases h1)) (Bt K rfl (Ak (Hg rfl) (by rfl) h_sorted PyProof.Rows.boot_sorted (Aa (pv 3) Ac)))
   (fun s2 H C fp=>⟨(Ai (i:=0) (show (["_law_pair","_law_ways"]:List Str).Nodup by decide +kernel) rfl (Or.inl rfl)),AQ,(Aw (QG K rfl) (pv 0) (A9 (Aa (Bm hu (pv 1) (pv 0) (fun _ _=>rfl)) Ac)))⟩)) Ac)) Ac))))),?_⟩
 intro W H0 H1 p e D xs us v2 v4 v5 v6 v7 mi wc ul R6 xnd xnm x26 k;refine ⟨_,rfl,e,xs,rfl,AB.of mi.he,by lia,fun l ps hl pm so=>⟨l,_,rfl,.inl ⟨AB.of Ab,fun T1 Ra=>?_⟩⟩⟩;have m1:=(mi.add hl (.lst (ps.map V.str))).add Ra (.tup (ps.map V.str));have VW:(upd (upd H1 l (.lst (ps.map V.str))) T1 (.tup (ps.map V.str))) T1=some (.tup (ps.map V.str)):=Ab;generalize upd (upd H1 l (.lst (ps.map V.str))) T1 (.tup (ps.map V.str))=H2 at m1 VW;refine ⟨_,rfl,D,_,fun _=>true,rfl,m1.hw,fun q hq=>?_,by rw [Y0]; lia,fun l2 ts ks ON pk tl tt=>⟨l2,rfl,⟨_,AB.of Ab⟩,?_⟩⟩
 ·obtain ⟨u,_,rfl⟩:=YA.mp hq;refine ⟨(fun z=>by cases z),fun i y ey=>?_⟩;have hm:=Y5 ey;have W5:y ∈ [Sum.inr (BG u.1 u.2.1),Sum.inr (BH u.1 u.2.1)]:=hm;simp only [Y4,YB,or_false] at W5;rcases W5 with rfl | rfl
  ·exact ⟨_,rfl⟩
  ·exact ⟨_,rfl⟩
 have m2:=m1.add ON (.lst (ts.map V.ref));have VR:(upd H2 l2 (.lst (ts.map V.ref))) l2=some (.lst (ts.map V.ref)):=Ab;have s2:=Ad (o:=.lst (ts.map V.ref)) ON;have VV:=s2 _ _ VW;generalize upd H2 l2 (.lst (ts.map V.ref))=H3 at m2 VR s2 VV;rw [Zb] at pk;obtain ⟨JV,pu,rfl⟩:=G5 _ pk.symm us rfl;have ulen:=pu.length_eq;rw [Y0] at tl;refine Be Bp (xs:=ts.map V.ref) (fun B i σ H' acc=>∃ v0:Option V,σ=[v0,some (.ref D)]/\Ar H3 H'/\H' B=some (.lst acc)/\acc.length=i/\Bw H' acc (((JV.take i).map Ew).map NU))
  (by rw [Y0]; lia) (fun B hB=>⟨_,rfl,Ad hB,Ab,rfl,.nil⟩) (fun B i σ H' acc hB ⟨v0,_,kp,SE,al,_⟩=>⟨AB.of (kp _ _ VR),SE,al⟩) ?_ ?_
 ·rintro B i σ H' acc x' Y hB ex ⟨v0,rfl,kp,SE,al,dd⟩ hY;obtain ⟨t,et,rfl⟩:∃ t,ts[i]? = some t/\x'=.ref t:=by
   rw [Y9] at ex;cases z:ts[i]? with
   | none=>rw [z] at ex; cases ex
   | some t=>rw [z] at ex; exact ⟨t,rfl,(YM.inj ex).symm⟩
  have hi:i < JV.length:=by rw [<-tl]; exact (Y8.mp et).1
  obtain ⟨u,eu⟩:∃ u,JV[i]? = some u:=⟨_,Y1 hi⟩
  have ht:H2 t=some (.tup [.str (BG u.1 u.2.1),.str (BH u.1 u.2.1)]):=tt i t (DG u) et (by rw [Y9,eu]; rfl);have ht':=kp _ _ (s2 _ _ ht);have um:u ∈ us:=pu.mem_iff.mp (Y5 eu);have dg:BN H' D (.ref t) (some (.int u.2.2)):=by
   rw [<-valW wc.2.1 um];exact BN.t (k:=DG u) (kp _ _ m2.hw) ht'
  refine ⟨_,rfl,_,rfl,_,rfl,D,_,rfl,dg,(by show 1<=sizeLine; lia),fun T2 Pr=>?_⟩;refine ⟨t,T2,_,_,rfl,rfl,A7.of (Ad Pr _ _ ht'),A7.of Ab,by simp,by show 2 + 1<=sizeLine; lia,(fun z=>by cases z),fun _ T hT=>?_⟩;have s4:=(Ad (o:=.tup [.int u.2.2]) Pr).trans (Ad (o:=.tup [.str (BG u.1 u.2.1),.str (BH u.1 u.2.1),.int u.2.2]) hT);have Mr:(upd (upd H' T2 (.tup [.int u.2.2])) T (.tup [.str (BG u.1 u.2.1),.str (BH u.1 u.2.1),.int u.2.2])) T=some (.tup [.str (BG u.1 u.2.1),.str (BH u.1 u.2.1),.int u.2.2]):=Ab;show Y _ _ (upd (upd H' T2 (.tup [.int u.2.2])) T (.tup [.str (BG u.1 u.2.1),.str (BH u.1 u.2.1),.int u.2.2]))
  generalize upd (upd H' T2 (.tup [.int u.2.2])) T (.tup [.str (BG u.1 u.2.1),.str (BH u.1 u.2.1),.int u.2.2])=H5 at s4 Mr;have hB5:=s4 _ _ SE;have nT:T ≠ B:=BE Mr hB5 (fun z=>by cases z);refine hY _ _ _ hB5 ⟨_,rfl,fun b o z=>by rw [Af (Ah z hB)]; exact s4 _ _ (kp _ _ z),Ab,by rw [Y6,al]; rfl,?_⟩;rw [YS,eu,Option.toList_some,YE,YE];refine I0 (F5 dd fun b ys z=>?_) (.cons (.tup (vs:=[.str (BG u.1 u.2.1),.str (BH u.1 u.2.1),.int u.2.2]) (by rw [Af nT]; exact Mr) ?_) .nil)
  ·rw [Af (BE z SE (fun y=>by cases y))];exact s4 _ _ z
  ·exact .cons (.str _) (.cons (.str _) (.cons (.int _) .nil))
 ·rintro B σ H' acc hB ⟨v0,rfl,kp,SE,al,dd⟩;rw [Y0,tl,YL] at dd;refine ⟨B,_,rfl,.inl ⟨AB.of SE,fun T hT=>⟨(by show 2<=sizeLine; lia),fun m hm=>?_⟩⟩⟩;have s5:=(Ad (o:=.tup acc) hT).trans (Ad (o:=.tup [.ref T1,.ref T]) hm);have s6:=kp.trans s5;have m6:=m2.step (m2.pn.same s6) (AV.of_same s6);have pw:(JV.map Ew).Perm (us.map Ew):=pu.map _;refine k _ m ps (JV.map Ew) m6.pn m6.kp pm ⟨⟨⟨T1,T,acc,Ab,s6 _ _ VV,Ad hm _ _ Ab,F5 dd fun b ys z=>s5 _ _ z⟩,pm.length_eq,pm.nodup_iff.mpr xnd,fun x hx=>xnm x (pm.mem_iff.mp hx),by rw [Y0]; lia,fun w hw=>?_⟩,⟨xs,us,pm,pw,wc⟩,so,by rw [Y0]; lia⟩;have hn:=JE pw (fun u hu=>⟨(wc.1 u hu).1,(wc.1 u hu).2.1⟩) w hw;obtain ⟨u,X0,rfl⟩:=YA.mp hw;have um:=pu.mem_iff.mp X0;exact ⟨xnm _ hn.1,xnm _ hn.2,(wc.1 u um).2.2.2,R6 u um⟩
theorem HM (h_int:mg "int"=none) (h_len:mg "len"=none) (h_max:mg "max"=none) (h_range:mg "range"=none) (h_sorted:mg "sorted"=none) (h_tuple:mg "tuple"=none) {fT:Addr} {fdT:FuncData} (XT:Fn K mg "_law_take" AI ["_law_pen","_law_many"] fT fdT) (GT:AJ P w K mg base Cb 1 fT fdT ["_law_pen","_law_many"] (Dg K)) {fL:Addr} {fdL:FuncData} (XL:Fn K mg "_law_length" Cw ["_law_pen"] fL fdL) (GL:AJ P w K mg base Cb 2 fL fdL ["_law_pen"] (LR K)) {f:Addr} {fd:FuncData} (F:EO K "_law_map" "_law_map" Cq f fd):AJ P w K mg base Cb 3 f fd ["_law_pen","_law_names_here","_law_shape"] (LQ K):=by
 refine F.ok Fg (fun vs H Q E h=>?_) (fun cdv A outer s H vs Q E hr h=>?_)
 ·obtain ⟨p,e,xs,sh,rfl,_⟩:=h;rfl
 ·obtain ⟨p,e,xs,sh,rfl,P0,he,nep,xnd,xnm,x1,x26,Wr,sh4,k⟩:=h;have nd:=Fg.nd;have hu:=Ey hr;have big:100000 < sizeLine:=by decide
  obtain ⟨tE,hE,kE⟩:=U1 (P:=P) (w:=w) (K:=K) (mg:=mg) (base:=base) h_sorted h_tuple (f:=f) (cdv:=cdv) (A:=A) (outer:=outer) (s:=s) (H:=H) (E:=E) hr;refine ⟨_,(Ae (Aq (i:=3) nd rfl (Or.inr rfl) HD)
  (Ae (Bs PassesOwn.never rfl (O2 (by rfl) h_range (Aa Ag (Aa (Ak (Ax K rfl) (by rfl) h_len PySem.boot_len (Aa (pv 1) Ac)) Ac))) (Ai (i:=4) nd rfl (Or.inl rfl))
  (Ae (Aq (i:=5) nd rfl (Or.inl rfl) (AA (AL K rfl) (B9 (Aa (Aw Ki (pv 4) Ag) (Aa (Aj GT (hr.mono (by decide)) (by rfl) XT.mg XT.F.kp XT.b .nil Au (Aa (pv 0) (Aa (pv 4) Ac))) (Aa (Ak (Pk rfl) (by rfl) h_max PyProof.Rows.boot_max (Aa Ag (Aa (Aw Ki (Aw Ki (pv 4) Ag) (Aj GT (hr.mono (by decide)) (by rfl) XT.mg XT.F.kp XT.b .nil Au (Aa (pv 0) (Aa Ag Ac)))) Ac))) (Aa Ag Ac))))) (pv 2) (fun _ _=>rfl)))
  (Al (BY hu (pv 3) (A1 (A8 K rfl) (by rfl) h_tuple PyProof.Rows.boot_tuple (Aa (Ak DI (by rfl) h_sorted PyProof.Rows.boot_sorted (Aa (B9 (Aa (AA (AL K rfl) (pv 1) (pv 4) (fun _ _=>rfl)) (Aa (AA (AL K rfl) (pv 1) (pv 5) (fun _ _=>rfl)) Ac))) Ac)) Ac)) (Aj GL (hr.mono (by decide)) (by rfl) XL.mg XL.F.kp XL.b .nil Au (Aa (pv 0) Ac)) rfl))))
  (Ae (Bs PassesOwn.never rfl (C4 (by rfl) h_range (Aa (Aw DT (Aj GT (hr.mono (by decide)) (by rfl) XT.mg XT.F.kp XT.b .nil Au (Aa (pv 0) (Aa Ag Ac))) (A1 EN (by rfl) h_int PyProof.Rows.boot_int (Aa (Hl Tu (pv 2) Ag (BF _)) Ac))) Ac)) (Ai (i:=6) nd rfl (Or.inl rfl))
  (Ae (Aq (i:=7) nd rfl (Or.inl rfl) (A1 (A8 K rfl) (by rfl) h_tuple PyProof.Rows.boot_tuple (Aa (Ak DI (by rfl) h_sorted PyProof.Rows.boot_sorted (Aa (B9 (Aa (AA (AL K rfl) (pv 1) (Aj GT (hr.mono (by decide)) (by rfl) XT.mg XT.F.kp XT.b .nil Au (Aa (pv 0) (Aa (Ak (Ax K rfl) (by rfl) h_len PySem.boot_len (Aa (pv 1) Ac)) Ac))) (fun _ _=>rfl)) (Aa (AA (AL K rfl) (pv 1) (Aj GT (hr.mono (by decide)) (by rfl) XT.mg XT.F.kp XT.b .nil Au (Aa (pv 0) (Aa (Ak (Ax K rfl) (by rfl) h_len PySem.boot_len (Aa (pv 1) Ac)) Ac))) (fun _ _=>rfl)) Ac))) Ac)) Ac)))
  (Al (Dq (Mb (By Ni (AA (AS K rfl) (pv 7) Ag (fun _ _=>rfl)) (AA (AS K rfl) (pv 7) Ag (fun _ _=>rfl)) (BF _)) (MX (Et (Jz hu (pv 7) (pv 3))))).pt
  (Al (BY hu (pv 3) (pv 7) (Aj GL (hr.mono (by decide)) (by rfl) XL.mg XL.F.kp XL.b .nil Au (Aa (pv 0) Ac)) rfl))
  BK))))
  hE))),?_⟩
  intro D hD;have m0:M5 K H (upd H D (.dT [])) p e D xs []:=⟨P0.same (Ad hD),Ad hD _ _ he,Ab,AV.of_same (Ad hD),nep,P0.ne hD,hD⟩
  generalize upd H D (.dT [])=H1 at m0;refine ⟨_,rfl,e,_,rfl,.inl (AB.of m0.he),_,_,rfl,⟨by lia,by lia,by rw [Y0]; lia,by rw [Y0]; lia⟩,?_⟩;refine CV (lo:=1) (fun j σ H'=>∃ (v4 v5 v6 v7:Option V) (us:List AG),σ=[some (.ref p),some (.ref e),some (.int sh),some (.ref D),v4,v5,v6,v7]/\M5 K H H' p e D xs us/\us.length=j/\Hi xs (j + 1) us/\∀ u ∈ us,u.2.2 < 10 ^ 30)
   ⟨_,_,_,_,[],rfl,m0,rfl,Hi.nil xs,fun u hu=>nomatch hu⟩ ?_ ?_
  ·rintro j σ H' hj ⟨v4,v5,v6,v7,us,rfl,mi,ul,tr,R6⟩;rw [Y0] at hj;have IZ:j + 1 < xs.length:=by lia
   refine ⟨_,rfl,_,_,rfl,rfl,_,rfl,_,rfl,p,_,rfl,mi.pn,by lia,by lia,fun d H2 P2 k2 d0 d1=>?_⟩;refine ⟨_,rfl,_,_,rfl,rfl,_,rfl,p,2,rfl,P2,by decide,by decide,fun d' H3 P3 k3 d'0 d'1=>⟨_,_,rfl,rfl,_,_,rfl,?_⟩⟩;have Vj:=mi.step P3 (k2.trans k3);clear mi P2 k2 k3;refine ⟨(by show 4<=sizeLine; lia),fun T hT=>?_⟩;have Vi:=Vj.add hT (.lst [.int (1 + (j:Int) - 1),.int d,.int (if 1 + (j:Int) - 1 - d' > 0 then 1 + (j:Int) - 1 - d' else 0),.int 0]);have Mr:(upd H3 T (.lst [.int (1 + (j:Int) - 1),.int d,.int (if 1 + (j:Int) - 1 - d' > 0 then 1 + (j:Int) - 1 - d' else 0),.int 0])) T=some (.lst [.int (1 + (j:Int) - 1),.int d,.int (if 1 + (j:Int) - 1 - d' > 0 then 1 + (j:Int) - 1 - d' else 0),.int 0]):=Ab;obtain ⟨o,hv,o0⟩:∃ o:Nat,JN [V.int (1 + (j:Int) - 1),V.int d,V.int (if 1 + (j:Int) - 1 - d' > 0 then 1 + (j:Int) - 1 - d' else 0),V.int 0] sh=some (.int (o:Int))/\o < j + 1:=by
    have c:sh=0\/sh=1\/sh=2\/sh=3:=by lia
    rcases c with rfl | rfl | rfl | rfl
    ·exact ⟨j,by show some (V.int _)=_; rw [show 1 + (j:Int) - 1=(j:Int) by lia],by lia⟩
    ·exact ⟨d.toNat,by show some (V.int _)=_; rw [cE d0],by lia⟩
    ·refine ⟨(if 1 + (j:Int) - 1 - d' > 0 then 1 + (j:Int) - 1 - d' else 0).toNat,?_,?_⟩
     ·show some (V.int _)=_
      rw [cE (by split <;> lia)]
     ·split <;> lia
    ·exact ⟨0,rfl,by lia⟩
   generalize upd H3 T (.lst [.int (1 + (j:Int) - 1),.int d,.int (if 1 + (j:Int) - 1 - d' > 0 then 1 + (j:Int) - 1 - d' else 0),.int 0])=H4 at Vi Mr;refine ⟨_,rfl,T,_,_,_,rfl,rfl,AB.of Mr,hv,?_⟩;refine ⟨_,rfl,p,rfl,Vi.pn,fun le H5 P5 k5 l1 l30=>?_⟩;have Xr:=Vi.step P5 k5;have ea:(xs.map V.str)[j + 1]? = some (.str xs[j + 1]):=by rw [Y9,Y1 IZ]; rfl
   have eo:(xs.map V.str)[o]? = some (.str (xs[o]'(by lia))):=by rw [Y9,Y1 (by lia)]; rfl
   have e1j:(1 + (j:Int))=((j + 1:Nat):Int):=by lia
   have xo:xs[o]? = some (xs[o]'(by lia)):=Y1 _;have xj:xs[j + 1]? = some xs[j + 1]:=Y1 _;generalize (xs[o]'(by lia))=x at eo xo;generalize xs[j + 1]=y at ea xj;refine ⟨_,rfl,_,rfl,_,rfl,e,_,_,_,rfl,rfl,AB.of Xr.he,(by rw [e1j]; exact CP ea),_,rfl,_,rfl,e,_,_,_,rfl,rfl,AB.of Xr.he,CP eo,(by show 2<=sizeLine; lia),fun T2 Pr=>⟨T2,y,x,rfl,Ab,fun l hl=>⟨l,_,rfl,.inl ⟨AB.of Ab,fun T3 XB=>?_⟩⟩⟩⟩;have R9:=((Xr.add Pr (.lst [.str y,.str x])).add hl (.lst [.str (BG y x),.str (BH y x)])).add XB (.tup [.str (BG y x),.str (BH y x)]);have pn:=MY (Uz tr xnd (x:=x) (n:=le) xj);have hk:(upd (upd (upd H5 T2 (.lst [.str y,.str x])) l (.lst [.str (BG y x),.str (BH y x)])) T3 (.tup [.str (BG y x),.str (BH y x)])) T3=some (.tup ((DG (x,y,le)).map kV)):=by
    rw [J4 y x,J5 y x];exact Ab
   generalize upd (upd (upd H5 T2 (.lst [.str y,.str x])) l (.lst [.str (BG y x),.str (BH y x)])) T3 (.tup [.str (BG y x),.str (BH y x)])=H6 at R9 hk;refine ⟨D,_,rfl,DL.t R9.hw hk (by rw [Y0]; lia),?_⟩;rw [show V.int le=V.int (x,y,le).2.2 from rfl,pn];refine ⟨_,_,_,_,us ++ [(x,y,le)],rfl,R9.put _,by rw [Y6,ul]; rfl,PN tr xnd o0 xo xj l1,fun u hu=>?_⟩;rcases YR.mp hu with hu | hu
   ·exact R6 u hu
   ·rw [YJ.mp hu]; exact l30
  ·rintro σ H' ⟨v4,v5,v6,v7,us,rfl,mi,ul,tr,R6⟩;rw [Y0] at ul tr;rw [show ((xs.length:Int) - 1).toNat + 1=xs.length by lia] at tr;have wc:=(tr.ways xnd).c;refine ⟨_,rfl,p,6,rfl,mi.pn,by decide,by decide,fun d H2 P2 k2 d0 d1=>?_⟩;have mi2:=mi.step P2 k2;clear mi P2 k2;refine ⟨_,rfl,_,_,rfl,rfl,.inr ⟨_,rfl,?_⟩⟩;have i01:∀ b:Bool,(if b=true then (1:Int) else 0)=0\/(if b=true then (1:Int) else 0)=1:=fun b=>by cases b <;> simp
   have i1:=i01 (decide (1 < sh));generalize (if decide (1 < sh)=true then (1:Int) else 0)=i at i1;have mb:0<=d * i/\d * i<=5:=by rcases i1 with rfl | rfl <;> lia
   refine ⟨_,_,rfl,rfl,.inl ⟨by lia,by lia⟩,_,rfl,by lia,by lia,?_⟩;generalize d * i=m at mb;refine CV (lo:=0) (fun j σ H'=>∃ (v4 v5 v6 v7:Option V) (us:List AG),σ=[some (.ref p),some (.ref e),some (.int sh),some (.ref D),v4,v5,v6,v7]/\M5 K H H' p e D xs us/\us.length<=26 + j/\Fe xs us/\∀ u ∈ us,u.2.2 < 10 ^ 30)
    ⟨_,_,_,_,us,rfl,mi2,by lia,wc,R6⟩ ?_ ?_
   ·rintro j σ H' hj ⟨v4,v5,v6,v7,us,rfl,mi,ul,wc,R6⟩;have xl0:(0:Int) < ((xs.map V.str).length:Int):=by rw [Y0]; lia
    have xlB:((xs.map V.str).length:Int) < 1073741824:=by rw [Y0]; lia
    refine ⟨_,rfl,_,rfl,_,rfl,e,_,rfl,.inl (AB.of mi.he),p,_,rfl,mi.pn,xl0,xlB,fun g H3 P3 k3 g0 g1=>?_⟩;rw [Y0] at g1;have Vj:=mi.step P3 k3;obtain ⟨gn,rfl⟩:∃ n:Nat,g=n:=⟨g.toNat,by lia⟩
    have hgn:gn < xs.length:=by lia
    have eg:(xs.map V.str)[gn]? = some (.str xs[gn]):=by rw [Y9,Y1 hgn]; rfl
    refine ⟨e,_,_,_,rfl,rfl,AB.of Vj.he,CP eg,?_⟩;refine ⟨_,rfl,_,rfl,_,rfl,e,_,rfl,.inl (AB.of Vj.he),p,_,rfl,Vj.pn,xl0,xlB,fun h H4 P4 k4 h0 h1=>?_⟩;rw [Y0] at h1;have Vi:=Vj.step P4 k4;obtain ⟨hn,rfl⟩:∃ n:Nat,h=n:=⟨h.toNat,by lia⟩
    have hhn:hn < xs.length:=by lia
    have eh:(xs.map V.str)[hn]? = some (.str xs[hn]):=by rw [Y9,Y1 hhn]; rfl
    refine ⟨e,_,_,_,rfl,rfl,AB.of Vi.he,CP eh,(by show 2<=sizeLine; lia),fun T2 Pr=>?_⟩;have mx:xs[gn] ∈ xs:=Zv hgn;have my:xs[hn] ∈ xs:=Zv hhn;generalize xs[gn]=x at mx;generalize xs[hn]=y at my;refine ⟨T2,x,y,rfl,Ab,fun l hl=>⟨l,_,rfl,.inl ⟨AB.of Ab,fun T3 XB=>?_⟩⟩⟩;have R9:=((Vi.add Pr (.lst [.str x,.str y])).add hl (.lst [.str (BG x y),.str (BH x y)])).add XB (.tup [.str (BG x y),.str (BH x y)]);have hk:(upd (upd (upd H4 T2 (.lst [.str x,.str y])) l (.lst [.str (BG x y),.str (BH x y)])) T3 (.tup [.str (BG x y),.str (BH x y)])) T3=some (.tup [.str (BG x y),.str (BH x y)]):=Ab;generalize upd (upd (upd H4 T2 (.lst [.str x,.str y])) l (.lst [.str (BG x y),.str (BH x y)])) T3 (.tup [.str (BG x y),.str (BH x y)])=H6 at R9 hk;refine ⟨_,rfl,T3,_,_,_,rfl,rfl,A7.of hk,rfl,_,rfl,T3,_,_,_,rfl,rfl,A7.of hk,rfl,rfl,_,rfl,?_⟩;have stay:∀ v4 v5 v6 v7:Option V,∃ (v4' v5' v6' v7':Option V) (us:List AG),[some (.ref p),some (.ref e),some (.int sh),some (.ref D),v4,v5,v6,v7]=[some (.ref p),some (.ref e),some (.int sh),some (.ref D),v4',v5',v6',v7']/\M5 K H H6 p e D xs us/\us.length<=26 + (j + 1)/\Fe xs us/\∀ u ∈ us,u.2.2 < 10 ^ 30:=fun v4 v5 v6 v7=>⟨_,_,_,_,us,rfl,R9,by lia,wc,R6⟩
    refine BI (fun z1=>?_) (fun _=>GV (stay _ _ _ _));have ne:x ≠ y:=by
     intro z;subst z;simp [BG,BH] at z1
    refine ⟨_,rfl,_,rfl,D,_,rfl,BN.t (k:=DG (x,y,1)) R9.hw hk,_,rfl,?_⟩;refine BI (fun z2=>?_) (fun _=>stay _ _ _ _);refine ⟨_,rfl,p,rfl,R9.pn,fun le H7 P7 k7 l1 l30=>?_⟩;have mi7:=R9.step P7 k7;have hk7:=D9 R9.pn k7 _ _ hk;have no:∀ u ∈ us,¬ DM u (x,y,le):=fun u X0 al=>RJ (x:=(x,y,1)) (by simpa using z2) u X0 al
    have pn:=MY no;refine ⟨_,rfl,_,rfl,D,_,rfl,DL.t (k:=DG (x,y,le)) mi7.hw hk7 (by rw [Y0]; lia),?_⟩;rw [show V.int le=V.int (x,y,le).2.2 from rfl,pn];refine ⟨_,_,_,_,us ++ [(x,y,le)],rfl,mi7.put _,by rw [Y6]; simp; lia,NT wc mx my ne l1 no,fun u hu=>?_⟩;rcases YR.mp hu with hu | hu
    ·exact R6 u hu
    ·rw [YJ.mp hu]; exact l30
   ·rintro σ H' ⟨v4,v5,v6,v7,us,rfl,mi,ul,wc,R6⟩;exact kE _ H H' p e D xs us _ _ _ _ _ mi wc (by lia) R6 xnd xnm x26 fun H' m ps ws a b c d=>k H' m ps ws a b c d
end
section
variable {P:Program} {w:World} {K:Y3} {mg:Str->Option Value} {base:Heap}
theorem FG (h_len:mg "len"=none) (h_range:mg "range"=none) {fT:Addr} {fdT:FuncData} (XT:Fn K mg "_law_take" AI ["_law_pen","_law_many"] fT fdT) (GT:AJ P w K mg base Cb 1 fT fdT ["_law_pen","_law_many"] (Dg K)) {f:Addr} {fd:FuncData} (F:EO K "_law_names" "_law_names" CF f fd):AJ P w K mg base Cb 2 f fd ["_law_pen","_law_many"] (Hv K):=by
 refine F.ok F9 (fun vs H Q E h=>?_) (fun cdv A outer s H vs Q E hr h=>?_)
 ·obtain ⟨p,n,rfl,_⟩:=h;rfl
 ·obtain ⟨p,n,rfl,hP,hn,k⟩:=h;have nd:=F9.nd;have big:100000 < sizeLine:=by decide
  refine ⟨_,(Ae (Aq (i:=2) nd rfl (Or.inr rfl) C5)
  (Ae (Aq (i:=3) nd rfl (Or.inl rfl) (Aj GT (hr.mono (by decide)) (by rfl) XT.mg XT.F.kp XT.b .nil Au (Aa (pv 0) (Aa Ag Ac))))
  (Ae (Aq (i:=4) nd rfl (Or.inl rfl) (FF PySem.F.plainAttrs_str PySem.F.slot_str_join PySem.F.type_str_join Sr C5 (Aa (Bv (N:=["_law_k","_law_pen","_law_letters"]) (σ0:=fun σ=>[none,some 0,some 2].map fun j=>j.bind fun j=>(σ[j]?).join) rfl (A2.caught (by rfl) (by decide +kernel) rfl (by decide +kernel) (by intro y hy; simp only [Y4,YB,or_false] at hy; rcases hy with rfl | rfl <;> rfl)
   (by intro y hy e; simp only [Y4,YB,or_false] at hy; rcases hy with rfl | rfl | rfl | rfl | rfl <;> first | exact ⟨_,rfl⟩ | cases e)) (fun σ _=>AH.of [none,some 0,some 2] rfl (by
   intro i j x h1 h2;match i,h1,h2 with
   | 0,_,h2=>cases h2
   | 1,h1,h2=>cases h1; cases h2; exact ⟨rfl,.inl rfl,.inl rfl⟩
   | 2,h1,h2=>cases h1; cases h2; exact ⟨rfl,.inl rfl,.inl rfl⟩
   | n + 3,h1,_=>cases h1)) (C4 (by rfl) h_range (Aa (Aj GT (hr.mono (by decide)) (by rfl) XT.mg XT.F.kp XT.b .nil Au (Aa (pv 0) (Aa Ag Ac))) Ac))
   (fun s2 H C fp=>⟨(Ai (i:=0) (show (["_law_k","_law_pen","_law_letters"]:List Str).Nodup by decide +kernel) rfl (Or.inl rfl)),AQ,(AA QT (pv 2) (Aj GT (hr.mono (by decide)) (by rfl) XT.mg XT.F.kp XT.b .nil Au (Aa (pv 1) (Aa Ag Ac))) (fun _ _=>rfl))⟩)) Ac)))
  (Ae (Aq (i:=5) nd rfl (Or.inl rfl) (Aj GT (hr.mono (by decide)) (by rfl) XT.mg XT.F.kp XT.b .nil Au (Aa (pv 0) (Aa (Aw Bi (Ak FU (by rfl) h_len PySem.boot_len (Aa (pv 4) Ac)) Ag) Ac))))
  (Ae (Aq (i:=6) nd rfl (Or.inl rfl) (Aj GT (hr.mono (by decide)) (by rfl) XT.mg XT.F.kp XT.b .nil Au (Aa (pv 0) (Aa Ag Ac))))
  (Ae (Aq (i:=7) nd rfl (Or.inl rfl) (B9 Ac))
  (Ae (Bs PassesOwn.never rfl (C4 (by rfl) h_range (Aa (pv 1) Ac)) (Ai (i:=8) nd rfl (Or.inl rfl))
  (Ae (Aq (i:=9) nd rfl (Or.inl rfl) (AA QT (pv 2) (Aw DV (Aw Bi (pv 3) (Aw DT Ag (pv 8))) Ag) (fun _ _=>rfl)))
  (Al (DR (FF PySem.F.plainAttrs_list PySem.F.slot_list_append PySem.F.type_list_append BZ (pv 7) (Aa (Aw DW (Aw DW (Aw DW (FE (pv 4) Na (MZ (pv 5))) (pv 9)) (FE (pv 4) (MZ (pv 5)) Na)) (Aw QF C5 (Aw DT (pv 6) (Aw DV (pv 8) Ag)))) Ac))))))
  (Al (AK (pv 7)))))))))),?_⟩
  refine ⟨_,rfl,p,26,rfl,hP,by decide,by decide,fun st H0 P0 k0 Ht st1=>?_⟩;refine ⟨rfl,_,rfl,p,5,rfl,P0,by decide,by decide,fun d H1 P1 k1 da db=>⟨_,rfl,by lia,by lia,?_⟩⟩;have q1:=k0.trans k1;refine KS (n:=d.toNat) (fun D i σ H' acc=>∃ (v0:Option V) (ss:List Str),σ=[v0,some (.ref p),some (.str FK)]/\D8 K H' p/\AV p H1 H'/\H' D=some (.lst acc)/\acc=ss.map V.str/\acc.length=i/\∀ s ∈ ss,s.length=1/\Tc s)
   (by lia) (fun D hD=>⟨_,[],rfl,P1.same (Ad hD),AV.of_same (Ad hD),Ab,rfl,rfl,fun s hs=>nomatch hs⟩) (fun D i σ H' acc hD ⟨v0,ss,_,_,_,AF,_,al,_⟩=>⟨AF,al⟩) ?_ ?_
  ·rintro D i σ H' acc B hD hi ⟨v0,ss,rfl,P2,q2,AF,ea,al,lo⟩ hB;have nD:=P1.ne hD;refine ⟨_,rfl,_,rfl,p,26,rfl,P2,by decide,by decide,fun e H3 P3 k3 Yk WB=>?_⟩;have lc:=G9 _ (Rq (DX Yk WB));have Fy:=k3 _ _ nD AF;refine ⟨_,_,_,rfl,rfl,by decide,DX Yk WB,?_⟩;refine hB _ _ _ Fy ⟨_,ss ++ [⟨#[97 + e.toNat]⟩],rfl,P3.other Fy nD,fun b' o hb z=>?_,Ab,by rw [ea,YE]; rfl,by rw [Y6,al]; rfl,fun s hs=>?_⟩
   ·rw [Af (Ah z hD)];exact k3 _ _ hb (q2 b' o hb z)
   ·rcases YR.mp hs with hs | hs
    ·exact lo s hs
    ·rw [YJ] at hs;subst hs;refine ⟨rfl,fun c hc=>?_⟩;have:c=97 + e.toNat:=by simpa using hc
     subst this;exact lc
  rintro D0 σ0 H2 acc hD0 ⟨v0,ss,rfl,P2,q2,AF,ea,al,lo⟩;obtain ⟨j1,j2,j3⟩:=QR lo;have sl:ss.length=d.toNat:=by rw [<-al,ea,Y0]
  refine ⟨_,D0,ss,rfl,rfl,by rw [AF,ea],by decide,by lia,?_⟩;generalize Txt.join (Str.ofString "") ss=bs at j1 j2;have bl:bs.length<=4:=by lia
  refine ⟨_,rfl,_,rfl,bs,rfl,by lia,_,_,rfl,rfl,p,_,rfl,P2,by lia,by lia,fun at' H3 P3 k3 at0 WG=>?_⟩;refine ⟨_,rfl,p,2,rfl,P3,by decide,by decide,fun mo H5 P5 k5 mo0 VC=>?_⟩;have q5:AV p H H5:=((q1.trans q2).trans k3).trans k5;refine ⟨(by show 0<=sizeLine; lia),fun D hD=>?_⟩;have nD:D ≠ p:=P5.ne hD;have fD:H D=none:=by
   cases z:H D with
   | none=>rfl
   | some o=>rw [q5 _ _ nD z] at hD; cases hD
  have spm:(7:Int) ∈ ([1,3,5,7,9,11,15,17]:List Int):=by simp
  refine ⟨_,rfl,n,rfl,by lia,by lia,?_⟩;refine CV (n:=n) (lo:=0) (fun j σ H'=>∃ (xs:List Str) (v9 v10:Option V),σ=[some (.ref p),some (.int n),some (.str FK),some (.int st),some (.str bs),some (.int at'),some (.int mo),some (.ref D),v9,v10]/\H'=upd H5 D (.lst (xs.map V.str))/\xs.length=j/\(∀ x ∈ xs,AY x=true)/\∀ (i:Nat) x,xs[i]? = some x->∃ tl,x.cps.toList=(Txt.slice bs none (some at')).cps.toList ++ (O4 n st 7 i ++ tl))
   ⟨[],_,_,rfl,rfl,rfl,(fun x hx=>nomatch hx),(fun i x e=>by simp at e)⟩ ?_ ?_
  ·rintro j σ H' hj ⟨xs,v9,v10,rfl,rfl,xl,nm,sh⟩;have r0:0<=(st + 7 * (0 + (j:Int))) % 26:=ZC _ (by decide);have r1:(st + 7 * (0 + (j:Int))) % 26 < 26:=ZM _ (by decide);refine ⟨_,rfl,_,rfl,_,rfl,_,_,rfl,rfl,.inl ⟨by decide,by decide⟩,_,_,rfl,rfl,_,_,rfl,rfl,(by show (0:Int) < 26; decide),_,_,_,rfl,rfl,by decide,DX r0 r1,?_⟩;have lc:=G9 _ (Rq (DX r0 r1));have s1:=Qk (z:=bs) at0 (by lia);have s2:=LU (z:=bs) at0 (by lia);have w1:=Jt (z:=bs) none (some at') j1;have w2:=Jt (z:=bs) (some at') none j1;have dD:(upd H5 D (.lst (xs.map V.str))) D=some (.lst (xs.map V.str)):=Ab;have m01:mo * ((0 + (j:Int)) % 2)=0\/mo * ((0 + (j:Int)) % 2)=1:=by
    have e1:mo=0\/mo=1:=by lia
    have e2:(0 + (j:Int)) % 2=0\/(0 + (j:Int)) % 2=1:=by lia
    rcases e1 with rfl | rfl <;> rcases e2 with e2 | e2 <;> rw [e2] <;> simp
   have hz:∀ z:Str,z=(if mo * ((0 + (j:Int)) % 2)=1 then Str.ofString "z" else Str.empty)->z.length<=1/\Tc z:=fun z e=>by
    subst e;split
    ·refine ⟨by decide,fun c hc=>?_⟩;have e:(Str.ofString "z").cps.toList=[122]:=by decide +kernel
     rw [e,YJ] at hc;subst hc;decide
    ·exact ⟨by decide,fun c hc=>by cases hc⟩
   obtain ⟨zz,ezz⟩:∃ zz,zz=(if mo * ((0 + (j:Int)) % 2)=1 then Str.ofString "z" else Str.empty):=⟨_,rfl⟩
   obtain ⟨z1,z2⟩:=hz zz ezz;have fin:∀ (x:Str),x=Txt.slice bs none (some at') ++ ⟨#[97 + ((st + 7 * (0 + (j:Int))) % 26).toNat]⟩ ++ Txt.slice bs (some at') none ++ zz->AY x=true/\∃ tl,x.cps.toList=(Txt.slice bs none (some at')).cps.toList ++ (O4 n st 7 j ++ tl):=fun x e=>by
    have ec:x.cps.toList=(Txt.slice bs none (some at')).cps.toList ++ ([97 + ((st + 7 * (0 + (j:Int))) % 26).toNat] ++ ((Txt.slice bs (some at') none).cps.toList ++ zz.cps.toList)):=by
     rw [e,Str.cps_append,Str.cps_append,Str.cps_append,aY,aY,aY,Zw,Zw]
    have el:x.length=(Txt.slice bs none (some at')).length + 1 + (Txt.slice bs (some at') none).length + zz.length:=by
     rw [e,Str.length_append,Str.length_append,Str.length_append];rfl
    refine ⟨QK (by lia) (by lia) fun c hc=>?_,?_⟩
    ·rw [ec,YR,YR,YR,YJ] at hc;rcases hc with hc | hc | hc | hc
     ·exact w1 c hc
     ·rw [hc]; exact lc
     ·exact w2 c hc
     ·exact z2 c hc
    ·refine ⟨(Txt.slice bs (some at') none).cps.toList ++ zz.cps.toList,?_⟩;rw [ec];unfold O4;rw [if_neg (by lia),b7]
   refine ⟨_,rfl,.inl ⟨rfl,_,AB.of dD⟩,_,rfl,_,rfl,_,rfl,bs,rfl,by lia,_,rfl,_,_,rfl,rfl,?_,_,rfl,_,rfl,_,rfl,bs,rfl,by lia,_,_,rfl,rfl,?_,_,rfl,_,rfl,_,_,rfl,rfl,(by show (0:Int) < 2; decide),_,_,rfl,rfl,.inl ⟨by lia,by lia⟩,_,_,rfl,rfl,m01,_,_,rfl,rfl,?_,D,_,_,rfl,rfl,dD,(by rw [Y0]; lia),?_⟩
   ·show (Txt.slice bs none (some at')).length + 1<=sizeLine
    lia
   ·rw [Str.length_append];show (Txt.slice bs none (some at')).length + 1 + _<=sizeLine
    lia
   ·rw [<-ezz,Str.length_append,Str.length_append];show (Txt.slice bs none (some at')).length + 1 + _ + _<=sizeLine
    lia
   rw [<-ezz];obtain ⟨f1,f2⟩:=fin _ rfl;refine ⟨xs ++ [_],_,_,rfl,by rw [JW,YE]; rfl,by rw [Y6,xl]; rfl,fun x hx=>?_,fun i x e=>?_⟩
   ·rcases YR.mp hx with hx | hx
    ·exact nm x hx
    ·rw [YJ.mp hx];exact f1
   ·by_cases hi:i < xs.length
    ·rw [Zi hi] at e;exact sh i x e
    ·have UG:i=j:=by
      have:=(Y8.mp e).1;rw [Y6,Zt] at this;lia
     subst UG;rw [Zg (by lia),xl,aQ,Zz] at e;rw [<-YM.inj e];exact f2
  ·rintro σ H' ⟨xs,v9,v10,rfl,rfl,xl,nm,sh⟩;exact ⟨_,rfl,k _ D xs (P5.same (Ad hD)) (fun b' o hb z=>by rw [Af (Ah z fD)]; exact q5 _ _ hb z) fD Ab xl (Lj sh fun i j hij hj tl TV=>Uu (by lia) spm hij (by lia) tl TV) nm⟩
end
section
variable {P:Program} {w:World} {K:Y3} {mg:Str->Option Value} {base:Heap}
theorem Dx (h_int:mg "int"=none) {fT:Addr} {fdT:FuncData} (XT:Fn K mg "_law_take" AI ["_law_pen","_law_many"] fT fdT) (GT:AJ P w K mg base Cb 1 fT fdT ["_law_pen","_law_many"] (Dg K)) {f:Addr} {fd:FuncData} (F:EO K "_law_length" "_law_length" Cw f fd):AJ P w K mg base Cb 2 f fd ["_law_pen"] (LR K):=by
 refine F.ok EX (fun vs H Q E h=>?_) (fun cdv A outer s H vs Q E hr h=>?_)
 ·obtain ⟨p,rfl,_⟩:=h;rfl
 ·obtain ⟨p,rfl,hP,k⟩:=h;have nd:=EX.nd;have big:100000 < sizeLine:=by decide
  refine ⟨_,(Ae (Aq (i:=1) nd rfl (Or.inl rfl) (Aj GT (hr.mono (by decide)) (by rfl) XT.mg XT.F.kp XT.b .nil Au (Aa (pv 0) (Aa Ag Ac))))
  (Ae (Dq (By J1 (pv 1) Ag (BF _))
  (Al (AK (Aw Bi Ag (Aj GT (hr.mono (by decide)) (by rfl) XT.mg XT.F.kp XT.b .nil Au (Aa (pv 0) (Aa Ag Ac))))))
  BK)
  (Ae (Dq (By J1 (pv 1) Ag (BF _))
  (Al (AK (Aw Bi Ag (Aj GT (hr.mono (by decide)) (by rfl) XT.mg XT.F.kp XT.b .nil Au (Aa (pv 0) (Aa Ag Ac))))))
  BK)
  (Al (AK (Aw Bi (A1 Je (by rfl) h_int PyProof.Rows.boot_int (Aa (Aw DW C5 (Aw Sg C5 (Aj GT (hr.mono (by decide)) (by rfl) XT.mg XT.F.kp XT.b .nil Au (Aa (pv 0) (Aa Ag Ac))))) Ac)) (Aj GT (hr.mono (by decide)) (by rfl) XT.mg XT.F.kp XT.b .nil Au (Aa (pv 0) (Aa Ag Ac))))))))),?_⟩
  have ten:(100:Int) < 10 ^ 30:=by decide
  refine ⟨_,rfl,p,12,rfl,hP,by decide,by decide,fun d H1 P1 k1 d0 d1=>?_⟩;refine ⟨_,rfl,_,_,rfl,rfl,_,rfl,?_⟩;refine BI (fun _=>?_) (fun _=>?_)
  ·exact ⟨_,rfl,p,3,rfl,P1,by decide,by decide,fun e H2 P2 k2 e0 e1=>⟨_,_,rfl,rfl,k _ H2 P2 (k1.trans k2) (by lia) (by lia)⟩⟩
  refine ⟨_,rfl,_,_,rfl,rfl,_,rfl,?_⟩;refine BI (fun _=>?_) (fun _=>?_)
  ·exact ⟨_,rfl,p,30,rfl,P1,by decide,by decide,fun e H2 P2 k2 e0 e1=>⟨_,_,rfl,rfl,k _ H2 P2 (k1.trans k2) (by lia) (by lia)⟩⟩
  refine ⟨_,rfl,p,30,rfl,P1,by decide,by decide,fun e H2 P2 k2 e0 e1=>?_⟩;obtain ⟨n,rfl⟩:∃ n:Nat,e=(n:Int):=⟨e.toNat,by lia⟩
  have hn:n < 30:=by lia
  have it:=Nz ⟨n,hn⟩;have l1:(Str.ofString "1").length=1:=by decide +kernel
  have zl:(Jf n).length=n:=it.2;refine ⟨n,rfl,rfl,hn,_,_,rfl,rfl,(by lia),_,_,rfl,it.1,(by rw [Str.length_append,l1,zl]; lia),_,rfl,p,10,rfl,P2,by decide,by decide,fun e2 H3 P3 k3 e20 e21=>⟨_,_,rfl,rfl,k _ H3 P3 (k1.trans (k2.trans k3)) ?_ ?_⟩⟩
  ·have:(1:Int)<=10 ^ n:=(PR ⟨n,hn⟩).1;show 1<=(10:Int) ^ n + e2
   lia
  ·have h1:(10:Int) ^ n + 10<=10 ^ 30:=(PR ⟨n,hn⟩).2;show (10:Int) ^ n + e2 < 10 ^ 30
   lia
theorem G6 (h_len:mg "len"=none) (h_list:mg "list"=none) (h_range:mg "range"=none) (h_sorted:mg "sorted"=none) {fT:Addr} {fdT:FuncData} (XT:Fn K mg "_law_take" AI ["_law_pen","_law_many"] fT fdT) (GT:AJ P w K mg base Cb 1 fT fdT ["_law_pen","_law_many"] (Dg K)) {f:Addr} {fd:FuncData} (F:EO K "_law_some" "_law_some" CW f fd):AJ P w K mg base Cb 2 f fd ["_law_pen","_law_names_here","_law_many"] (JY K):=by
 refine F.ok Gw (fun vs H Q E h=>?_) (fun cdv A outer s H vs Q E hr h=>?_)
 ·obtain ⟨p,e,xs,m,rfl,_⟩:=h;rfl
 ·obtain ⟨p,e,xs,m,rfl,P0,he,nep,x30,mx,k⟩:=h;have nd:=Gw.nd;have big:100000 < sizeLine:=by decide
  refine ⟨_,(Ae (Aq (i:=3) nd rfl (Or.inl rfl) (A1 FT (by rfl) h_list PyProof.Rows.boot_list (Aa (pv 1) Ac)))
  (Ae (Aq (i:=4) nd rfl (Or.inl rfl) (B9 Ac))
  (Ae (Bs PassesOwn.never rfl (C4 (by rfl) h_range (Aa (pv 2) Ac)) (Ai (i:=5) nd rfl (Or.inl rfl))
  (Al (DR (FF PySem.F.plainAttrs_list PySem.F.slot_list_append PySem.F.type_list_append BZ (pv 4) (Aa (FF PySem.F.plainAttrs_list PySem.F.slot_list_pop PySem.F.type_list_pop QL (pv 3) (Aa (Aj GT (hr.mono (by decide)) (by rfl) XT.mg XT.F.kp XT.b .nil Au (Aa (pv 0) (Aa (Ak (Ax K rfl) (by rfl) h_len PySem.boot_len (Aa (pv 3) Ac)) Ac))) Ac)) Ac)))))
  (Al (AK (Ak Ca (by rfl) h_sorted PyProof.Rows.boot_sorted (Aa (pv 4) Ac))))))),?_⟩
  refine ⟨_,rfl,e,_,rfl,.inl (AB.of he),fun PL hPL=>?_⟩;have s0:=Ad (o:=.lst (xs.map V.str)) hPL;have nPL:PL ≠ p:=P0.ne hPL;have P1:=P0.same s0;have hPP:(upd H PL (.lst (xs.map V.str))) PL=some (.lst (xs.map V.str)):=Ab;generalize upd H PL (.lst (xs.map V.str))=H1 at s0 P1 hPP ⊢;refine ⟨(by show 0<=sizeLine; lia),fun D hD=>?_⟩;have s1:=Ad (o:=.lst []) hD;have AF:(upd H1 D (.lst [])) D=some (.lst []):=Ab;have nD:D ≠ p:=P1.ne hD;have nDP:D ≠ PL:=fun z=>by rw [z,hPP] at hD; cases hD
  have P2:=P1.same s1;have frD:H D=none:=s0.free hD;generalize upd H1 D (.lst [])=H2 at s1 AF P2 ⊢;refine ⟨_,rfl,m,rfl,by lia,by lia,CV (n:=m) (fun i σ H'=>∃ (v5:Option V) (ys left:List Str),σ=[some (.ref p),some (.ref e),some (.int (m:Int)),some (.ref PL),some (.ref D),v5]/\D8 K H' p/\(∀ b o,b ≠ p->H b=some o->H' b=some o)/\H' PL=some (.lst (left.map V.str))/\H' D=some (.lst (ys.map V.str))/\ys.length=i/\(ys ++ left).Perm xs)
   ⟨_,[],xs,rfl,P2,fun b o _ z=>s1 _ _ (s0 _ _ z),s1 _ _ hPP,AF,rfl,List.Perm.refl _⟩ ?_ (fun σ H' hP=>?_)⟩
  ·rintro i σ H3 hi ⟨v5,ys,left,rfl,P3,k3,h3,Fy,yl,pm⟩;have ll:ys.length + left.length=xs.length:=by rw [<-Y6]; exact pm.length_eq
   refine ⟨_,rfl,.inl ⟨rfl,_,AB.of Fy⟩,_,rfl,.inl ⟨rfl,_,AB.of h3⟩,_,rfl,_,rfl,PL,_,rfl,.inl (AB.of h3),p,_,rfl,P3,?_,?_,fun e' H4 P4 k4 Yk WB=>?_⟩
   ·rw [Y0]; lia
   ·rw [Y0]; lia
   rw [Y0] at WB;obtain ⟨q,rfl⟩:∃ q:Nat,e'=(q:Int):=⟨e'.toNat,by lia⟩
   have hq:q < left.length:=by lia
   have hget:left[q]? = some left[q]:=Y1 hq;have h4:=k4 _ _ nPL h3;have OR:=k4 _ _ nD Fy;refine ⟨PL,_,_,q,.str left[q],rfl,rfl,h4,by lia,by lia,?_,by rw [Y9,hget]; rfl,?_⟩
   ·rw [Y0];exact (Ku (by show S2 left.length (q:Int)=some q; unfold S2; rw [if_pos (by lia),if_pos (by lia)]; rfl)).1
   rw [J6];have P5:=P4.other (zs:=(left.eraseIdx q).map V.str) h4 nPL;have Lu:(upd H4 PL (.lst ((left.eraseIdx q).map V.str))) D=some (.lst (ys.map V.str)):=by rw [Af nDP]; exact OR
   refine ⟨D,_,_,rfl,rfl,Lu,by rw [Y0]; lia,?_⟩;refine ⟨_,ys ++ [left[q]],left.eraseIdx q,rfl,P5.other Lu nD,fun b' o hb z=>?_,?_,by rw [Ab,YE]; rfl,by rw [Y6,yl]; rfl,?_⟩
   ·rw [Af (Ah z frD),Af (Ah z hPL)];exact k4 _ _ hb (k3 b' o hb z)
   ·rw [Af nDP.symm];exact Ab
   ·refine List.Perm.trans ?_ pm;rw [Zw];exact List.Perm.append_left _ (Ej hget)
  ·obtain ⟨v5,ys,left,rfl,P3,k3,h3,Fy,yl,pm⟩:=hP;have ll:ys.length + left.length=xs.length:=by rw [<-Y6]; exact pm.length_eq
   refine ⟨_,rfl,D,ys,rfl,AB.of Fy,by lia,fun l ss hl Wv srt=>?_⟩;have sl:=Ad (o:=.lst (ss.map V.str)) hl;exact k _ l ss left (P3.same sl) (fun b o hb z=>sl _ _ (k3 b o hb z)) (by
    cases z:H l with
    | none=>rfl
    | some o=>
     by_cases hb:l=p
     ·subst hb;obtain ⟨_,_,_,_,q,_⟩:=P3;rw [q] at hl;cases hl
     ·rw [k3 l o hb z] at hl;cases hl) Ab ((Wv.append_right left).trans pm) (by rw [Wv.length_eq]; exact yl) srt
end
section
variable {P:Program} {w:World} {K:Y3} {mg:Str->Option Value} {base:Heap}
theorem takeB {f:Addr} {cdv:Value} {A:Around} {outer:List Env} {s:Shared} {H:Hp} {E:XK} :
  ∃ tl,LC (Jb Cb P w K mg base ["_law_pen","_law_many","_law_place","_law_cell","_law_number","_law_digit"] "_law_take" (Ao AI) f cdv A outer s H E).nox ((Cn AI).drop 1) tl /\
   ∀ (W:ED) (H6:Hp) (p a:Addr) (ns:List Int) (i l m:Int) (v2 v3 v4 v5:Option V),H6 p=some (.lst (Kg a i l))->M3 K H6 a (ns.map V.int)->ns.length<=63->0<=i->0<=l->0 < m->m < 1073741824->(∀ (d:Int) (H':Hp),D8 K H' p->AV p H6 H'->0<=d->d < m->W.rt (.int d) H')->tl W [some (.ref p),some (.int m),v2,v3,v4,v5] H6:=by
 have nd:=CD.nd;refine ⟨_,(Ae (Aq (i:=5) nd rfl (Or.inl rfl) (Aw DV (AA (AL K rfl) (pv 0) Ag (fun _ _=>rfl)) (pv 1)))
  (Ae (Eu (Aw Nk (AA (AL K rfl) (pv 0) Ag (fun _ _=>rfl)) (pv 1)) (Mc (pv 0) Ag Hw))
  (Al (AK (pv 5))))),?_⟩
 intro W H6 p a ns i l m v2 v3 v4 v5 hp sc ln i0 l0 hm Pq k;have sq:∀ {H':Hp} {a:Addr} {i l:Int},H' p=some (.lst (Kg a i l))->AB K H' p (Kg a i l):=fun h=>.inl (.inl h)
 refine ⟨_,rfl,p,_,_,_,rfl,rfl,sq hp,Q5 _ _ _,_,rfl,_,_,rfl,rfl,hm,?_⟩;refine ⟨_,rfl,p,_,_,_,rfl,rfl,sq hp,Q5 _ _ _,_,rfl,_,_,rfl,rfl,⟨hm,Pq⟩,_,rfl,p,_,_,2,rfl,rfl,hp,rfl,_,rfl,?_⟩;exact k _ _ (D8.put hp sc ln i0 (Int.ediv_nonneg l0 (by lia))) AV.upd (ZC _ (by lia)) (ZM _ hm)
theorem takeD {f:Addr} {cdv:Value} {A:Around} {outer:List Env} {s:Shared} {H:Hp} {E:XK} :
  ∃ tl,LC (Jb Cb P w K mg base ["_law_pen","_law_many","_law_place","_law_cell","_law_number","_law_digit"] "_law_take" (Ao AI) f cdv A outer s H E).nox (Mm ((Mm ((Cn AI).getD 0 (.Pass ⟨0,0,0,0⟩))).getD 4 (.Pass ⟨0,0,0,0⟩))) tl /\
   ∀ (W:ED) (H6:Hp) (p:Addr) (m i c:Int) (v4 v5:Option V),0 < m->0<=i->(∀ d:Int,0<=d->d < m->W.rt (.int d) H6)->tl W [some (.ref p),some (.int m),some (.int i),some (.int c),v4,v5] H6:=by
 have nd:=CD.nd;refine ⟨_,(Ae (Aq (i:=4) nd rfl (Or.inl rfl) (Aw DV (Aw DT (Aw Bi (Aw Bi (Aw DV (pv 3) Ag) (Aw DT Ag (pv 2))) Ag) Ag) Ag))
  (Ae (Aq (i:=4) nd rfl (Or.inl rfl) (Aw DV (Aw Bi (Aw Bi (Aw DT (pv 4) (pv 4)) (Aw DT Ag (pv 4))) (pv 2)) Ag))
  (Al (AK (Aw DV (Aw Nk (Aw DV (Aw Bi (Aw Bi (Aw DT (pv 4) (pv 4)) (Aw DT Ag (pv 4))) Ag) Ag) Ag) (pv 1)))))),?_⟩
 intro W H6 p m i c v4 v5 hm i0 k;refine ⟨_,rfl,_,_,rfl,rfl,(by show (0:Int) < 2147483629; decide),_,rfl,_,_,rfl,rfl,.inl ⟨by decide,by decide⟩,_,_,rfl,rfl,_,_,rfl,rfl,_,_,rfl,rfl,.inr ⟨by decide,by decide⟩,_,_,rfl,rfl,(by show (0:Int) < 2147483647; decide),?_⟩;have h0:0<=(c % 2147483629 + 40503 * i + 977) * 48271 % 2147483647:=ZC _ (by decide);have h1:(c % 2147483629 + 40503 * i + 977) * 48271 % 2147483647 < 2147483647:=ZM _ (by decide);have big:∀ z:Int,0<=z->z < 2147483647->-(2 ^ 64) < z/\z < 2 ^ 64:=fun z a b=>⟨aw (b:=0) (by decide) a,bV b (by decide)⟩
 refine ⟨_,rfl,_,rfl,_,_,rfl,rfl,.inl (big _ h0 h1),_,rfl,_,_,rfl,rfl,.inl ⟨by decide,by decide⟩,_,_,rfl,rfl,_,rfl,_,_,rfl,rfl,_,_,rfl,rfl,(by show (0:Int) < 2147483587; decide),?_⟩;obtain ⟨u,eu,u0,u1⟩:∃ u:Int,((c % 2147483629 + 40503 * i + 977) * 48271 % 2147483647 * ((c % 2147483629 + 40503 * i + 977) * 48271 % 2147483647) + 69621 * ((c % 2147483629 + 40503 * i + 977) * 48271 % 2147483647) + i) % 2147483587=u/\0<=u/\u < 2147483647:=⟨_,rfl,ZC _ (by decide),bV (ZM _ (by decide)) (by decide)⟩
 refine ⟨_,rfl,_,rfl,_,_,rfl,rfl,.inl (big _ (by rw [eu]; exact u0) (by rw [eu]; exact u1)),_,rfl,_,_,rfl,rfl,.inl ⟨by decide,by decide⟩,_,_,rfl,rfl,_,_,rfl,rfl,_,_,rfl,rfl,(by show (0:Int) < 2147483563; decide),_,_,rfl,rfl,⟨by decide,by decide⟩,_,rfl,_,_,rfl,rfl,hm,?_⟩;exact k _ (ZC _ (by lia)) (ZM _ hm)
theorem takeC (h_len:mg "len"=none) {f:Addr} {cdv:Value} {A:Around} {outer:List Env} {s:Shared} {H:Hp} {E:XK} :
  ∃ tl,LC (Jb Cb P w K mg base ["_law_pen","_law_many","_law_place","_law_cell","_law_number","_law_digit"] "_law_take" (Ao AI) f cdv A outer s H E).nox ((Mm ((Cn AI).getD 0 (.Pass ⟨0,0,0,0⟩))).drop 4) tl /\
   ∀ (W:ED) (H6:Hp) (p a:Addr) (ns:List Int) (i l m c:Int) (v4 v5:Option V),H6 p=some (.lst (Kg a (i + 1) l))->M3 K H6 a (ns.map V.int)->ns.length<=63->0<=i->0<=l->0 < m->m < 1073741824->0<=c->(∀ d:Int,0<=d->d < m->W.rt (.int d) H6)->(∀ (c':Int) (v4:Option V),0<=c'->W.nx [some (.ref p),some (.int m),some (.int i),some (.int c),v4,v5] (upd H6 p (.lst (Kg a (i + 1) c'))))->tl W [some (.ref p),some (.int m),some (.int i),some (.int c),v4,v5] H6:=by
 have nd:=CD.nd;obtain ⟨tlD,htD,rdD⟩:=takeD (P:=P) (w:=w) (K:=K) (mg:=mg) (base:=base) (f:=f) (cdv:=cdv) (A:=A) (outer:=outer) (s:=s) (H:=H) (E:=E);refine ⟨_,(Ae (Dq (KZ (By op_ge (pv 2) (Ak (Ax K rfl) (by rfl) h_len PySem.boot_len (Aa (AA (AL K rfl) (pv 0) Ag (fun _ _=>rfl)) Ac)) (BF _)) (Hz (By J1 (pv 3) (Aw Uv Ag Ag) (BF _)))).pt
  htD
  BK)
  (Al (Eu (pv 3) (Mc (pv 0) Ag Hw)))),?_⟩
 intro W H6 p a ns i l m c v4 v5 hp sc ln i0 l0 hm Pq c0 kr kn;have sq:∀ {H':Hp} {a:Addr} {i l:Int},H' p=some (.lst (Kg a i l))->AB K H' p (Kg a i l):=fun h=>.inl (.inl h)
 refine ⟨_,rfl,_,rfl,p,_,_,_,rfl,rfl,sq hp,Nb _ _ _,a,_,rfl,.inl sc.sq,_,_,rfl,rfl,_,rfl,?_⟩;refine BI (fun _=>rdD _ H6 p m i c v4 v5 hm i0 kr) (fun _=>?_);refine ⟨_,rfl,_,_,rfl,rfl,⟨by decide,by decide,by decide⟩,_,_,rfl,rfl,_,rfl,?_⟩;refine BI (fun _=>rdD _ H6 p m i c v4 v5 hm i0 kr) (fun _=>?_);refine ⟨_,rfl,_,rfl,p,_,_,2,rfl,rfl,hp,rfl,?_⟩;exact kn c _ c0
theorem Bb (h_abs:mg "abs"=none) (h_len:mg "len"=none) {f:Addr} {fd:FuncData} (F:EO K "_law_take" "_law_take" AI f fd):AJ P w K mg base Cb 1 f fd ["_law_pen","_law_many"] (Dg K):=by
 refine F.ok CD (fun vs H Q E h=>?_) (fun cdv A outer s H vs Q E hr h=>?_)
 ·obtain ⟨p,m,rfl,_⟩:=h;rfl
 ·obtain ⟨p,m,rfl,⟨a,ns,i,l,hp,sc,ln,i0,l0⟩,hm,Pq,k⟩:=h;have nd:=CD.nd;have big:100000 < sizeLine:=by decide
  obtain ⟨tlC,htC,rdC⟩:=takeC (P:=P) (w:=w) (K:=K) (mg:=mg) (base:=base) h_len (f:=f) (cdv:=cdv) (A:=A) (outer:=outer) (s:=s) (H:=H) (E:=E);obtain ⟨tlB,htB,rdB⟩:=takeB (P:=P) (w:=w) (K:=K) (mg:=mg) (base:=base) (f:=f) (cdv:=cdv) (A:=A) (outer:=outer) (s:=s) (H:=H) (E:=E);refine ⟨_,(Ae (Dq (By Nm (AA (AL K rfl) (pv 0) Ag (fun _ _=>rfl)) Ag (BF _))
  (Ae (Aq (i:=2) nd rfl (Or.inl rfl) (AA (AL K rfl) (pv 0) Ag (fun _ _=>rfl)))
  (Ae (Eu (Aw Bi (pv 2) Ag) (Mc (pv 0) Ag Hw))
  (Ae (Aq (i:=3) nd rfl (Or.inl rfl) Ag)
  (Ae (Dq (By Tu (Ak (Ax K rfl) (by rfl) h_len PySem.boot_len (Aa (AA (AL K rfl) (pv 0) Ag (fun _ _=>rfl)) Ac)) Ag (BF _))
  (Al (Aq (i:=3) nd rfl (Or.inl rfl) (Ak Ro (by rfl) h_abs PyProof.Rows.boot_abs (Aa (AA (AL K rfl) (AA (AL K rfl) (pv 0) Ag (fun _ _=>rfl)) (Aw DV (pv 2) (Ak (Ax K rfl) (by rfl) h_len PySem.boot_len (Aa (AA (AL K rfl) (pv 0) Ag (fun _ _=>rfl)) Ac))) (fun _ _=>rfl)) Ac))))
  BK)
  htC))))
  BK)
  htB),?_⟩
  have sq:∀ {H':Hp} {a:Addr} {i l:Int},H' p=some (.lst (Kg a i l))->AB K H' p (Kg a i l):=fun h=>.inl (.inl h)
  refine ⟨_,rfl,p,_,_,_,rfl,rfl,sq hp,Q5 _ _ _,rfl,_,rfl,?_⟩;refine BI (fun z0=>?_) (fun _=>rdB _ H p a ns i l m _ _ _ _ hp sc ln i0 l0 hm Pq k);refine ⟨_,rfl,p,_,_,_,rfl,rfl,sq hp,pn5_1 _ _ _,?_⟩;refine ⟨_,rfl,_,_,rfl,rfl,_,rfl,p,_,_,1,rfl,rfl,hp,rfl,?_⟩;have VO:(upd H p (.lst (Kg a (i + 1) l))) p=some (.lst (Kg a (i + 1) l)):=Ab;have Vy:M3 K (upd H p (.lst (Kg a (i + 1) l))) a (ns.map V.int):=sc.keep hp AV.upd;have fin:∀ (c:Int),0<=c->tlC ⟨fun σ H'=>tlB ⟨fun _ H'=>Q .non H',Q,fun _ _=>False,fun _ _=>False⟩ σ H',Q,fun _ _=>False,fun _ _=>False⟩ [some (.ref p),some (.int m),some (.int i),some (.int c),none,none] (upd H p (.lst (Kg a (i + 1) l))):=fun c c0=>by
   refine rdC _ _ p a ns i l m c _ _ VO Vy ln i0 l0 hm Pq c0 (fun d d0 d1=>?_) fun c' v4 c0'=>?_
   ·exact k d _ (D8.put hp sc ln (by lia) l0) AV.upd d0 d1
   ·refine rdB _ _ p a ns (i + 1) c' m _ _ _ _ Ab (Vy.keep VO AV.upd) ln (by lia) c0' hm Pq fun d H' P' k' d0 d1=>k d H' P' ((AV.upd.trans AV.upd).trans k') d0 d1
  refine ⟨_,rfl,p,_,_,_,rfl,rfl,sq VO,Nb _ _ _,a,_,rfl,.inl Vy.sq,_,_,rfl,rfl,_,rfl,?_⟩;refine BI (fun zl=>?_) (fun _=>fin 0 (Z6 _));have zl':0 < ns.length:=by have:=of_decide_eq_true zl; rw [Y0] at this; lia
  have j0:0<=i % ((ns.map V.int).length:Int):=ZC _ (by rw [Y0]; lia);have j1:i % ((ns.map V.int).length:Int) < (ns.map V.int).length:=ZM _ (by rw [Y0]; lia);obtain ⟨j,ej⟩:∃ j:Nat,i % ((ns.map V.int).length:Int)=(j:Int):=⟨(i % ((ns.map V.int).length:Int)).toNat,by lia⟩
  have jl:j < ns.length:=by rw [ej,Y0] at j1; lia
  refine ⟨_,rfl,p,_,_,_,rfl,rfl,sq VO,Nb _ _ _,_,rfl,_,rfl,p,_,_,_,rfl,rfl,sq VO,Nb _ _ _,a,_,rfl,.inl Vy.sq,_,_,rfl,rfl,(by show (0:Int) < ((ns.map V.int).length:Int); rw [Y0]; lia),a,_,_,.int ns[j],rfl,rfl,Vy.sq,(by rw [ej]; exact CP (by rw [Y9,Y1 jl]; rfl)),?_⟩;refine ⟨_,rfl,?_⟩;exact fin _ (by first | exact Int.natCast_nonneg _ | exact Int.ofNat_nonneg _ | (split <;> lia))
end
end K41
namespace L2
open PySem PySem.Spec PyProof.Rows
def At (K:Y3) (n:Str) (st:Stmt) (f:Addr) (fd:FuncData):Prop:=Zu K mainGlobals n=some (some (.ref f))/\EO K n n st f fd
section
variable {K:Y3} {h:Heap} {mg:Str->Option Value} {n p q r t u:Str} {st:Stmt} {f:Addr} {fd:FuncData}
theorem at_mk {oc:Value} {od an:Option Addr} {osl:Array (Option Value)} {kV doc pm cdv ct:Value} (a:Zu K mainGlobals n=some (some (.ref f))) (l:K.lookup f=some ⟨oc,od,.func (ZK n n (Ea st) (Cn st) (Ao st) .none kV doc pm an cdv ct),osl⟩)
  (c:aO K cdv n=true) (k:aN K (.ref f)=true):At K n st f (ZK n n (Ea st) (Cn st) (Ao st) .none kV doc pm an cdv ct):=⟨a,UK l c k⟩
abbrev BA (n:Str) (st:Stmt) (us:List Value) (ps:List (Str × Value)):Prop:=∀ (kV doc pm:Value) (an:Option Addr) (cdv ct:Value),bindArgs (ZK n n (Ea st) (Cn st) (Ao st) .none kV doc pm an cdv ct) ⟨us,[]⟩=pure ps
theorem SG (X:K.In h) (G:h.Ns mainGlobals mg) (A:At K n st f fd) (hb:∀ x,BA n st [x] [(p,x)]):Fn K mg n st [p] f fd:=⟨A.2,ax X G A.1,A.2.binds fun _ _ _ _ _ _ us hl=>by obtain ⟨x,rfl⟩:=len1 hl; exact hb ..⟩
theorem RC (X:K.In h) (G:h.Ns mainGlobals mg) (A:At K n st f fd) (hb:∀ x y,BA n st [x,y] [(p,x),(q,y)]):Fn K mg n st [p,q] f fd:=⟨A.2,ax X G A.1,A.2.binds fun _ _ _ _ _ _ us hl=>by obtain ⟨x,y,rfl⟩:=Sy hl; exact hb ..⟩
theorem fa3 (X:K.In h) (G:h.Ns mainGlobals mg) (A:At K n st f fd) (hb:∀ x y z,BA n st [x,y,z] [(p,x),(q,y),(r,z)]):Fn K mg n st [p,q,r] f fd:=⟨A.2,ax X G A.1,A.2.binds fun _ _ _ _ _ _ us hl=>by obtain ⟨x,y,z,rfl⟩:=len3 hl; exact hb ..⟩
end
end L2
namespace K41
open PySem L2
theorem all_mk {l:b5} {w:World} {K:Y3} {h:Heap} {mg:Str->Option Value} {fa f1 f2 f3 f4 f5 f6 f7 f8 f9 f10 f11 f12 f13 f14 f15 f16 f17 f18 f19 f20 f21 f22 f23 f24 f25:Addr} {d1 d2 d3 d4 d5 d6 d7 d8 d9 Yt Ys d12 d13 d14 d15 d16 d17 d18 d19 d20 WE d22 d23 d24 d25:FuncData} (X:K.In h) (G:h.Ns mainGlobals mg) (hfa:mg "law"=some (.ref fa))
  (a1:At K "is_name" EH f1 d1) (a2:At K "are_rising" CN f2 d2) (a3:At K "is_opening" CM f3 d3) (a4:At K "most_houses" C9 f4 d4) (a5:At K "neighbours" CL f5 d5) (a6:At K "fars" Kb f6 d6) (a7:At K "site_fars" Di f7 d7) (a8:At K "nearest" EG f8 d8) (a9:At K "costs_of" DP f9 d9) (a10:At K "exchanges" Dm f10 Yt) (a11:At K "outcomes_of" C8 f11 Ys) (a12:At K "changed" EI f12 d12) (a13:At K "_law_take" AI f13 d13) (a14:At K "_law_names" CF f14 d14) (a15:At K "_law_length" Cw f15 d15) (a16:At K "_law_map" Cq f16 d16) (a17:At K "_law_some" CW f17 d17) (a18:At K "_law_case" DO f18 d18) (a19:At K "_law_lengths" CA f19 d19) (a20:At K "_law_costs" Dl f20 d20) (a21:At K "_law_openings" Cv f21 WE) (a22:At K "_law_exchanges" Ck f22 d22) (a23:At K "_law_long" DN f23 d23) (a24:At K "_law_right" Dk f24 d24) (a25:At K "law" Qt f25 d25)
  (z1:Zu K mainGlobals "len"=some none) (z2:Zu K mainGlobals "max"=some none) (z3:Zu K mainGlobals "range"=some none) (z4:Zu K mainGlobals "abs"=some none) (z5:Zu K mainGlobals "int"=some none) (z6:Zu K mainGlobals "min"=some none) (z7:Zu K mainGlobals "tuple"=some none) (z8:Zu K mainGlobals "list"=some none) (z9:Zu K mainGlobals "sorted"=some none) (z10:Zu K mainGlobals "repr"=some none) (z11:Zu K mainGlobals "sum"=some none) (z12:Zu K mainGlobals "all"=some none) (z13:Zu K mainGlobals "dict"=some none) (z14:Zu K mainGlobals "isinstance"=some none) (z15:Zu K mainGlobals "set"=some none) (z16:Zu K mainGlobals "str"=some none) {tc1:Tok} (w1:Zu K mainGlobals "MOST_LETTERS"=some (some (.int 6 tc1))) :
  ∃ fd:FuncData,(∀ (s:Shared) (v:Value),BindsTo s fd ⟨[v],[]⟩ [("_law_script",v)])/\∀ base:Heap,K.In base->base.Ns mainGlobals mg->AJ l.prog w K mg base Cb 8 fa fd ["_law_script"] (ML K):=by
 cases hfa.symm.trans (ax X G a25.1)
 have y1:=Zj X G z1;have y2:=Zj X G z2;have y3:=Zj X G z3;have y4:=Zj X G z4;have y5:=Zj X G z5;have y6:=Zj X G z6;have y7:=Zj X G z7;have y8:=Zj X G z8;have y9:=Zj X G z9;have y10:=Zj X G z10;have y11:=Zj X G z11;have WH:=Zj X G z12;have y13:=Zj X G z13;have y14:=Zj X G z14;have y15:=Zj X G z15;have y16:=Zj X G z16;have n1:=SG X G a1 (p:="thing") fun _ _ _ _ _ _ _=>rfl
 have n2:=SG X G a2 (p:="things") fun _ _ _ _ _ _ _=>rfl
 have n3:=RC X G a3 (p:="case") (q:="thing") fun _ _ _ _ _ _ _ _=>rfl
 have n4:=SG X G a4 (p:="case") fun _ _ _ _ _ _ _=>rfl
 have n5:=SG X G a5 (p:="web") fun _ _ _ _ _ _ _=>rfl
 have n6:=RC X G a6 (p:="web") (q:="place") fun _ _ _ _ _ _ _ _=>rfl
 have n7:=SG X G a7 (p:="case") fun _ _ _ _ _ _ _=>rfl
 have n8:=RC X G a8 (p:="web") (q:="starts") fun _ _ _ _ _ _ _ _=>rfl
 have n9:=RC X G a9 (p:="case") (q:="chosen") fun _ _ _ _ _ _ _ _=>rfl
 have n10:=RC X G a10 (p:="case") (q:="opening") fun _ _ _ _ _ _ _ _=>rfl
 have n11:=RC X G a11 (p:="case") (q:="opening") fun _ _ _ _ _ _ _ _=>rfl
 have Xo:=fa3 X G a12 (p:="opening") (q:="out") (r:="more") fun _ _ _ _ _ _ _ _ _=>rfl
 have Po:=RC X G a13 (p:="_law_pen") (q:="_law_many") fun _ _ _ _ _ _ _ _=>rfl
 have n14:=RC X G a14 (p:="_law_pen") (q:="_law_many") fun _ _ _ _ _ _ _ _=>rfl
 have Xn:=SG X G a15 (p:="_law_pen") fun _ _ _ _ _ _ _=>rfl
 have n16:=fa3 X G a16 (p:="_law_pen") (q:="_law_names_here") (r:="_law_shape") fun _ _ _ _ _ _ _ _ _=>rfl
 have n17:=fa3 X G a17 (p:="_law_pen") (q:="_law_names_here") (r:="_law_many") fun _ _ _ _ _ _ _ _ _=>rfl
 have n18:=RC X G a18 (p:="_law_pen") (q:="_law_shape") fun _ _ _ _ _ _ _ _=>rfl
 have n19:=SG X G a19 (p:="_law_plan") fun _ _ _ _ _ _ _=>rfl
 have n20:=fa3 X G a20 (p:="_law_case_here") (q:="_law_lengths_here") (r:="_law_opening") fun _ _ _ _ _ _ _ _ _=>rfl
 have n21:=SG X G a21 (p:="_law_case_here") fun _ _ _ _ _ _ _=>rfl
 have n22:=RC X G a22 (p:="_law_case_here") (q:="_law_opening") fun _ _ _ _ _ _ _ _=>rfl
 have n23:=SG X G a23 (p:="_law_pen") fun _ _ _ _ _ _ _=>rfl
 have n24:=fa3 X G a24 (p:="_law_case_here") (q:="_law_lengths_here") (r:="_law_opening") fun _ _ _ _ _ _ _ _ _=>rfl
 obtain ⟨oc,od,kV,doc,pm,an,cdv,ct,osl,e,lk,hcd⟩:=a25.2.ex;exact ⟨d25,fun s v=>by subst e; exact .of_eq rfl,fun base _ _=>Uy y1 y2 y3 Po (Bb y4 y1 a13.2) n18 (Lg y5 y1 y6 y7 Po (Bb y4 y1 a13.2) n14 (FG y1 y3 Po (Bb y4 y1 a13.2) a14.2) Xn (Dx y5 Po (Bb y4 y1 a13.2) a15.2) n17 (G6 y1 y8 y3 y9 Po (Bb y4 y1 a13.2) a17.2) n16 (HM y5 y1 y2 y3 y9 y7 Po (Bb y4 y1 a13.2) Xn (Dx y5 Po (Bb y4 y1 a13.2) a15.2) a16.2) a18.2) n19 (HN y5 a19.2) n21 (GQ y5 y1 y9 a21.2) n24 (Kl y3 y10 n22 (Gg y1 y9 y7 a22.2) n20 (Km y6 y11 a20.2) n10 (Kn y8 y9 n11 (HJ Xo (Mh y9 y7 a12.2) n3 (IT WH y13 y14 y1 y7 n4 (HL y1 y6 a4.2) n2 (IU WH y8 y9 y15 n1 (Sk ⟨y1,y14,y16,WH,⟨_,ax X G w1⟩⟩ a1.2) a2.2) a3.2) a11.2) n9 (Lh y13 y6 y11 n7 (Kk n6 (Sl ⟨⟨n5.F,n5.mg,n5.b⟩,y6,n8.F,n8.mg,n8.b⟩ a6.2) a7.2) a9.2) a10.2) a24.2) n23 (Lf y7 n14 (FG y1 y3 Po (Bb y4 y1 a13.2) a14.2) Po (Bb y4 y1 a13.2) n16 (HM y5 y1 y2 y3 y9 y7 Po (Bb y4 y1 a13.2) Xn (Dx y5 Po (Bb y4 y1 a13.2) a15.2) a16.2) n17 (G6 y1 y8 y3 y9 Po (Bb y4 y1 a13.2) a17.2) a23.2) a25.2⟩
theorem Ud {K:Y3} {H:Hp} {a:Addr} {xs:List V} (o:Tb H) (h:AB K H a xs):M3 K H a xs:=by
 rcases h with (h | ⟨ob,h⟩) | h
 ·rcases o a with z | ⟨ob,ys,z⟩ <;> (rw [h] at z; cases z)
 ·exact .inl ⟨ob,h⟩
 ·exact .inr h
theorem walk {l:b5} {q:Program} {loose:List Str} {XP:(Str->Option Value)->Heap->Prop} {YP:World->Heap->Prop} {d:DefRec} {K:Params->Y3} (hn:l.most=some 63) (hdf:d.params.defaults=[])
  (hY:∀ (w:World) (h:Heap),YP w h->(K w.params).In h)
  (F:∀ (w:World) (mg:Str->Option Value) (fa:Addr) (h:Heap),(K w.params).In h->h.Ns mainGlobals mg->mg d.name=some (.ref fa) ->
   ∃ fd:FuncData,(∀ (s:Shared) (u:Value),BindsTo s fd ⟨[u],[]⟩ [("_law_script",u)])/\∀ base:Heap,(K w.params).In base->base.Ns mainGlobals mg->AJ l.prog w (K w.params) mg base Cb 8 fa fd ["_law_script"] (ML (K w.params))) :
  cN q loose XP YP l.row.toRowW d [] (fun f vs=>PySem.call f vs):=
 L2.walk_of (n:=63) (k:=8) (x:="_law_script") (CX:=fun _=>Cb) (sp:=fun w=>ML (K w.params)) hn (by decide) hdf ⟨rfl,by decide,by decide,rfl⟩ hY F (fun _ _ a ns hl ho hS=>⟨a,ns,rfl,Ud ho hS,hl,fun _=>rfl⟩) fun _ _ _ _ _ z=>z
end K41
structure PySem.W.Fast:Prop where
  (tw10227053286109287468 tw5890385653661705425 tw18380895659673220287 tw10462954943642984738 tw12382674244045021013 tw18048471252446685293 tw7170048356525598447 tw12900509956058482002 tw9029466663236047832 tw9111942866572643959 tw15149084553717422381 tw13341299598962976372 tw9229228469911352289 tw13620547708273463358 tw15276970268919495905 tw6571664394033737179 tw3709325867884620937 tw3112580119722042714 tw6973373329240201223 tw15254143340075188551 tw2334500557750633161 tw1388258929216836258 tw173801027681879751 tw7503903647119755696 tw16625975925853108672 tw9681872470842869197 tw12037058769152899080 tw12384618709043030889 tw17880147924879434940 tw3995548245758237214 tw2505375273853674477 tw2380761976736298949 tw14410457157248153093 tw15286781589873323897 tw1535979583659440400 tw4143903720670495413 tw7532396657741935351 tw5600815097310623420 tw11963134099369931858 tw7351857745908683635 tw5920981723138072902 tw7000347201924674849 tw15454470649537950267 tw2142636609248229295 tw3012768104943815949 tw9060689997496909636 tw3877373497956156679 tw2980835332980119468 tw15898178765036422560 tw16794107037011723096 tw13587790558787491927 tw4627847384337254959 tw15368586490266698979 tw15783790209879154522 tw4497500811351437047 tw9530841704725767011 tw14748392959052318560 tw13258352823509595817 tw13591665001237054832 tw8488112019330950173 tw16415881956107276768 tw6713778551867267202 tw2120107098577615515 tw16903167705842754554 tw7512182688287777053 tw12567975692473101018 tw6308119616062361180 tw6827934623035707773 tw13296958826367761781 tw14139398275774536468 tw14101396915195948788 tw6689876816130818207 tw16176732023743590745 tw17818737703783592242 tw7505713692611807623 tw11426211127139385043 tw10435748454637223414 tw16697509698227175633:True)
open PySem PySem.W PyProof.Rows
set_option maxRecDepth 100000 in
set_option maxHeartbeats 0 in
theorem PySem.Challenge.cw_openhouses_k41_exchanges_told_holds : PySem.Challenge.rw_openhouses_k41_exchanges_told.Holds := by
 w_on; o_law; k_head; (case hw=>w_witness2)
 k_fill
 refine K41.walk (l:=PySem.Challenge.rw_openhouses_k41_exchanges_told) rfl rfl (fun w h Y=>PySem.W.kIn_of Y) ?F
 case F=>
  intro w mg fa h KX G hmg;refine' K41.all_mk KX G hmg (L2.at_mk ?a1 ?l1 ?c1 ?k1) (L2.at_mk ?a2 ?l2 ?c2 ?k2) (L2.at_mk ?a3 ?l3 ?c3 ?k3) (L2.at_mk ?a4 ?l4 ?c4 ?k4) (L2.at_mk ?a5 ?l5 ?c5 ?k5) (L2.at_mk ?a6 ?l6 ?c6 ?k6) (L2.at_mk ?a7 ?l7 ?c7 ?k7) (L2.at_mk ?a8 ?l8 ?c8 ?k8) (L2.at_mk ?a9 ?l9 ?c9 ?k9) (L2.at_mk ?a10 ?l10 ?c10 ?k10) (L2.at_mk ?a11 ?l11 ?c11 ?k11) (L2.at_mk ?a12 ?l12 ?c12 ?k12) (L2.at_mk ?a13 ?l13 ?c13 ?k13) (L2.at_mk ?a14 ?l14 ?c14 ?k14) (L2.at_mk ?a15 ?l15 ?c15 ?k15) (L2.at_mk ?a16 ?l16 ?c16 ?k16) (L2.at_mk ?a17 ?l17 ?c17 ?k17) (L2.at_mk ?a18 ?l18 ?c18 ?k18) (L2.at_mk ?a19 ?l19 ?c19 ?k19) (L2.at_mk ?a20 ?l20 ?c20 ?k20) (L2.at_mk ?a21 ?l21 ?c21 ?k21) (L2.at_mk ?a22 ?l22 ?c22 ?k22) (L2.at_mk ?a23 ?l23 ?c23 ?k23) (L2.at_mk ?a24 ?l24 ?c24 ?k24) (L2.at_mk ?a25 ?l25 ?c25 ?k25) ?z1 ?z2 ?z3 ?z4 ?z5 ?z6 ?z7 ?z8 ?z9 ?z10 ?z11 ?z12 ?z13 ?z14 ?z15 ?z16 ?w1;any_goals k_is
