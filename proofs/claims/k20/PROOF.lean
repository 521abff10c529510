import PyProof.Rows.All
import Wide.All
import OpenK.AllK
import Wide.FinOn
import Lean
import PyProof.EqAt
import PyProof.EqKinds
import PyProof.TupleCall
import PyProof.P3Eq
import PyProof.NeData
import PyProof.P3In
import PyProof.StrLawsChain
import KE.KIntText
import KE.IntTextLaws
import PyProof.Rows.StrJoinMade
import PyProof.Rows.FStr
import PyProof.ListMulRoad
import PySem.Challenge.RW_openhouses_k20_papers_let_by
open List renaming getElem?_eq_getElem→Zy,length_map→Z0,mem_of_getElem?→Z2,mem_cons→Z3,getElem?_map→Z6,length_append→Z7,not_mem_nil→Z8,getElem?_eq_some_iff→ZA,map_append→ZC,mem_map→ZD,mem_append_right→ZF,size_toArray→ZG,take_add_one→ZH,getD_eq_getElem?_getD→ZJ,map_cons→ZL,mem_append→ZM,mem_singleton→ZN,mem_cons_of_mem→ZO,take_length→ZP,getElem_of_mem→ZQ,length_take→ZS,mem_cons_self→ZU,range→ai,all_eq_true→aj,getElem?_append_right→ao,length_cons→aq,getElem_mem→ar,getElem?_cons_zero→au,mem_append_left→av,nodup_cons→ax,map_map→az,getElem?_append_left→aE,length_drop→aG,length_range→aH,nodup_append→aI,mem_filter→aJ,pairwise_cons→aM,pairwise_iff_getElem→aN,pairwise_map→aO,append_assoc→aP,filter_cons→aT,length_eq_zero_iff→aU,all_map→aW,take_of_length_le→aX,find?_cons→aY,length_singleton→aZ,mem_range→ba,length→bg,length_pos_iff→bh,length_reverse→bj,getElem?_cons_succ→br,not_lt→bu,getElem?_eq_none→bz,any_eq_true→b0,any_cons→b8,lt_asymm→bA,append_nil→bC,filterMap_cons→bD,map_congr_left→bE,filter_append→bG,getElem?_zip_eq_some→bJ,getElem_take→bK,all_cons→bM,of_mem_zip→bQ,length_zip→bU,lt_irrefl→bW,length_eraseIdx→bX,drop_zero→bY,getElem?_of_mem→bZ,mem_of_mem_take→cg,mem_of_mem_drop→cj,cons→ck,filter_sublist→cx,lt_trans→cz,mem_filterMap→c0,map_nil→cD,cons_append→cK,ext_getElem→cL,sublist_nil→cM,nil_sublist→cN,nodup_nil→cQ,drop_eq_getElem_cons→cT,sum_cons→cV,length_filterMap_le→cX,pairwise_singleton→cY,getElem?_set_self→df,length_filter_le→dk,getElem?_set_ne→dv,mem_erase_of_ne→dA,pairwise_append→dB,getElem_toArray→dF,take_succ_cons→dI,drop_succ_cons→dJ,mem_map_of_mem→dN,zip_cons_cons→dO,map_inj_right→dP,take_sublist→dZ,flatten_cons→e6,ext_getElem?→e7,reverse_cons→eA,getElem_inj→eC,zipIdx_cons→eG,mem_reverse→eI,length_nil→eJ,nil_append→eK,foldl_cons→eL,zipIdx_nil→eM,forIn_cons→eN,filter_nil→eP,filterMap→eQ,take_zero→eR,forIn_nil→eT,le_trans→eW,take_nil→eY,drop_nil→eZ,map_drop→fc,filter→fh
open PySem.Heap renaming get?_push_of_some→Zz,lt_size→Z5,get?_push_size→Z9,get?_update_other→ab,size_push→ae,get?_update_self→ah,get?_update_ne→dM,size_update→eF
open PySem.W renaming Frag→Z1,mg_none_of→ZW,nsIn→ag,kia_one→aF,mg_of→aL,fnOf→aV,kitOne→bq,keepIn→bP,codeIn→bR,methodObj→cy,instObj→cE,OpenLaw→cH,lookIn→cO,cellsFrom_some→cS,kitx_list→dy,kitx_dict→dz,plainGet→dG,findIn→dY,WalkO→eD
open Nat renaming le_refl→Z4,ne_of_lt→ZE,lt_of_lt_of_le→ZK,le_trans→ZV,zero_le→ZX,le_succ→ZZ,lt_succ_of_lt→aa,lt_succ_self→ak,lt_irrefl→ay,ne_of_gt→aD,not_lt_zero→aK,zero_add→aQ,lt_of_succ_lt→bN,not_lt→bT,mul_le_mul_right→cq,pow_le_pow_right→cv,le_of_lt→cF,lt_or_ge→di,sub_self→dt,add_sub_cancel→et,pos_of_ne_zero→eB,le_succ_of_le→eE,min_self→fg,mod_lt→fj,succ→fk
open Bool renaming false_ne_true→ZI,false_eq_true→ZY,and_eq_true→af,eq_iff_iff→aA,false_and→bV,not_eq_true'→dX,or_false→eU,and_true→eV,not_true→eX
open Option renaming some→ZR,map_some→bo,isSome_iff_exists→bI,isSome_map→cA,none→dh,toList→eO
open Array renaming length_toList→ZT,getElem?_toList→bx,perm_iff_toList_perm→bF,toList→bO,toList_append→cu,toList_inj→cI,getD_eq_getD_getElem?→cP,getElem?_eq_getElem→cR,ext→cW,mem_of_getElem?→dc,mem_toList_iff→dj,toList_push→dQ,getD→fe
open Int renaming le_refl→aB,emod_nonneg→bp,mul_le_mul_of_nonneg_right→bB,emod_lt_of_pos→bH,toNat_natCast→bL,mul_le_mul→cn,lt_of_le_of_lt→cB,ediv_one→cG,zero_add→cJ,mul_nonneg→cU,add_assoc→cZ,add_zero→dq,natAbs_dvd_natAbs→dE,toNat_of_nonneg→dU,le_trans→ff,max_def→fi
local macro_rules|`(tactic|exists $es,*)=>`(tactic|refine ⟨$es,*, ?_⟩)
set_option Elab.async false
set_option linter.all false
set_option maxRecDepth 100000
set_option maxHeartbeats 4000000
namespace L2
open PySem PySem.W PyProof.Rows
structure PR (lt:Keyed->Keyed->Bool):Prop where
 irr:∀ a,lt a a=false
 tra:∀ a b c,lt a b=true->lt b c=true->lt a c=true
 neg:∀ a b c,lt a c=true->lt a b=true\/lt b c=true
def Nl (lt:Keyed->Keyed->Bool) (a b:Keyed):Prop:=lt b a=false
section
variable {lt:Keyed->Keyed->Bool}
theorem PR.rfl' (h:PR lt) (a:Keyed):Nl lt a a:=h.irr a
theorem PR.of_lt (h:PR lt) {a b:Keyed} (e:lt a b=true):Nl lt a b:=by
 unfold Nl;cases z:lt b a
 ·rfl
 ·have:=h.tra _ _ _ e z;rw [h.irr] at this;cases this
theorem PR.trans (h:PR lt) {a b c:Keyed} (x:Nl lt a b) (y:Nl lt b c):Nl lt a c:=by
 unfold Nl at *;cases z:lt c a
 ·rfl
 ·rcases h.neg _ b _ z with q | q
  ·rw [y] at q; cases q
  ·rw [x] at q; cases q
end
def Cd (xs:Array Keyed) (i:Nat):Keyed:=xs.getD i (Value.none,Value.none)
theorem Of {xs:Array Keyed} {i:Nat} (h:i < xs.size):xs[i]? = some (Cd xs i):=by
 unfold Cd;simp [fe,h]
theorem IW {xs ys:Array Keyed} {i j:Nat} (h:xs[i]? = ys[j]?):Cd xs i=Cd ys j:=by
 unfold Cd;rw [cP,cP,h]
theorem Oe {xs:Array Keyed} {i:Nat} (h:i < xs.size):Cd xs i ∈ xs:=dc (Of h)
def VH (prog:Program) (w:World) (A:Around) (s:Shared) (κ:SortKind) (lt:Keyed->Keyed->Bool) (a0:Array Keyed):Prop:=
 ∀ x y,x ∈ a0->y ∈ a0->∀ (Q:Bool->Shared->Prop) (E:Value->Shared->Prop),Q (lt x y) s->wpAny (model prog w) A (keyLt' κ x.1 y.1) Q E s
section
variable {prog:Program} {w:World} {A:Around} {E:Value->Shared->Prop} {s:Shared} {κ:SortKind} {lt:Keyed->Keyed->Bool} {a0:Array Keyed}
theorem JP {xs:Array Keyed} {i:Nat} {Q:Keyed->SortSt->Prop} {st:SortSt} (hi:i < xs.size) (h:Q (Cd xs i) st):wpS (model prog w) A E s (elem' xs i) Q st:=by
 rw [elem'_eq,Of hi];exact wpS_pure h
theorem RZ {x y:Keyed} {Q:Option Bool->SortSt->Prop} {st:SortSt} (an:VH prog w A s κ lt a0) (hk:kindOf st=κ) (hx:x ∈ a0) (hy:y ∈ a0) (h:Q (some (lt x y)) st) :
  wpS (model prog w) A E s (lt' x y) Q st:=by
 rw [lt'_eq];refine wpS_bind (wpS_get ?_);rw [hk];refine wpS_bind (wpS_lift (wpAny_attempt (an x y hx hy _ _ ⟨rfl,?_⟩)));exact wpS_pure h
theorem Dh {i j:Nat} {Q:Option Bool->SortSt->Prop} {st:SortSt} (an:VH prog w A s κ lt a0) (hk:kindOf st=κ) (hp:(arrOf st).Perm a0) (hi:i < a0.size) (hj:j < a0.size)
  (h:Q (some (lt (Cd (arrOf st) i) (Cd (arrOf st) j))) st):wpS (model prog w) A E s (ltAt' i j) Q st:=by
 rw [ltAt'_eq];refine wpS_bind (wpS_get ?_);have e:=hp.size_eq;refine wpS_bind (JP (by lia) (wpS_bind (JP (by lia) ?_)));exact RZ an hk ((Array.Perm.mem_iff hp).mp (Oe (by lia))) ((Array.Perm.mem_iff hp).mp (Oe (by lia))) h
theorem Lu {ρ:Type} {body:Nat->Option ρ × Nat × Nat->StateT SortSt Sem (ForInStep (Option ρ × Nat × Nat))} {f:Nat->Bool} {n lo hi:Nat} {st:SortSt}
  (hs:∀ x l (R:ForInStep (Option ρ × Nat × Nat)->SortSt->Prop),R (.done (none,l,l)) st->wpS (model prog w) A E s (body x (none,l,l)) R st)
  (hg:∀ x l r (R:ForInStep (Option ρ × Nat × Nat)->SortSt->Prop),l < r->r<=n ->
   (f (l + (r - l) / 2)=true->R (.yield (none,l + (r - l) / 2 + 1,r)) st)->(f (l + (r - l) / 2)=false->R (.yield (none,l,l + (r - l) / 2)) st)->wpS (model prog w) A E s (body x (none,l,r)) R st)
  (hl:lo<=hi) (hn:hi<=n) (mono:∀ i j,i<=j->j < n->f j=true->f i=true)
  (h1:∀ i,i < lo->f i=true) (h2:∀ i,hi<=i->i < n->f i=false) :
  wpS (model prog w) A E s (forIn [0:n] (none,lo,hi) body) (fun c AZ=>AZ=st/\∃ r,c=(none,r,r)/\r<=n/\(∀ i,i < r->f i=true)/\(∀ i,r<=i->i < n->f i=false)) st:=by
 refine wpS_forRange (I:=fun x c AZ=>AZ=st/\∃ l r,c=(none,l,r)/\l<=r/\r<=n/\r - l<=n - x/\(∀ i,i < l->f i=true)/\(∀ i,r<=i->i < n->f i=false)) ?_ ?_ ⟨rfl,lo,hi,rfl,hl,hn,by lia,h1,h2⟩
 ·rintro x c AZ _ hx ⟨rfl,l,r,rfl,q1,q2,q3,q4,q5⟩;by_cases hlr:l < r
  ·have hm:l + (r - l) / 2 < r:=by lia
   refine hg _ _ _ _ hlr q2 (fun e=>?_) (fun e=>?_)
   ·exact ⟨rfl,_,r,rfl,by lia,by lia,by lia,fun i i1=>mono _ _ (by lia) (by lia) e,q5⟩
   ·refine ⟨rfl,l,_,rfl,by lia,by lia,by lia,q4,fun i i1 i2=>?_⟩;cases z:f i
    ·rfl
    ·rw [mono _ _ i1 i2 z] at e; cases e
  ·have:l=r:=by lia
   subst this;exact hs _ _ _ ⟨rfl,l,rfl,q2,q4,q5⟩
 ·rintro c AZ ⟨rfl,l,r,rfl,q1,q2,q3,q4,q5⟩;have:l=r:=by lia
  subst this;exact ⟨rfl,l,rfl,q2,q4,q5⟩
end
section lists
variable {lt:Keyed->Keyed->Bool}
theorem IV {xs:Array Keyed} {i:Nat} (h:i < xs.toList.length):xs.toList[i]=Cd xs i:=by
 have h':i < xs.size:=by simpa using h
 unfold Cd;simp [fe,h']
theorem Ut {xs:Array Keyed} (h:∀ i j,i < j->j < xs.size->Nl lt (Cd xs i) (Cd xs j)):xs.toList.Pairwise (Nl lt):=by
 rw [aN];intro i j hi hj hij;rw [IV,IV];exact h i j hij (by simpa using hj)
end lists
section
variable {prog:Program} {w:World} {A:Around} {E:Value->Shared->Prop} {s:Shared} {κ:SortKind} {lt:Keyed->Keyed->Bool} {a0:Array Keyed}
end
section
variable {prog:Program} {w:World} {A:Around} {E:Value->Shared->Prop} {s:Shared} {κ:SortKind} {lt:Keyed->Keyed->Bool} {a0:Array Keyed}
end
section segs
variable {lt:Keyed->Keyed->Bool}
def SS (lt:Keyed->Keyed->Bool) (xs:Array Keyed) (lo hi:Nat):Prop:=∀ i j,lo<=i->i<=j->j < hi->Nl lt (Cd xs i) (Cd xs j)
def NS (lt:Keyed->Keyed->Bool) (xs:Array Keyed) (lo hi:Nat):Prop:=∀ i j,lo<=i->i<=j->j < hi->Nl lt (Cd xs j) (Cd xs i)
theorem Dw {xs:Array Keyed} {i j:Nat} (hj:j<=xs.size) (k:Nat):Cd (mirror xs i j ((j - i) / 2)) k=if i<=k/\k < j then Cd xs (i + j - 1 - k) else Cd xs k:=by
 have e:=getElem?_mirror_all (i:=i) hj k;split at e
 ·rw [if_pos ‹_›]; exact IW e
 ·rw [if_neg ‹_›]; exact IW e
theorem F2 {xs:Array Keyed} {src d:Nat} (hs:src < xs.size) (hd:d<=src) (k:Nat) :
  Cd (bubble xs src d) k=if k=src - d then Cd xs src else if src - d < k/\k<=src then Cd xs (k - 1) else Cd xs k:=by
 have e:=getElem?_bubble hs d hd k;by_cases h1:k=src - d
 ·rw [if_pos h1] at e ⊢; exact IW e
 ·by_cases h2:src - d < k/\k<=src
  ·rw [if_neg h1,if_pos h2] at e ⊢; exact IW e
  ·rw [if_neg h1,if_neg h2] at e ⊢; exact IW e
theorem NS.mirror {xs:Array Keyed} {lo hi:Nat} (h:NS lt xs lo hi) (hs:hi<=xs.size):SS lt (mirror xs lo hi ((hi - lo) / 2)) lo hi:=by
 intro i j h1 h2 h3;rw [Dw hs,Dw hs,if_pos ⟨h1,by lia⟩,if_pos ⟨by lia,h3⟩];exact h _ _ (by lia) (by lia) (by lia)
theorem NS.even {xs:Array Keyed} {lo p hi:Nat} (h:NS lt xs lo hi) (hs:hi<=xs.size) (hp:lo<=p) (e:∀ i j,p<=i->i < hi->p<=j->j < hi->Nl lt (Cd xs i) (Cd xs j)) {top:Nat} (ht:hi<=top) (h':NS lt xs lo top) :
  NS lt (PyProof.Rows.mirror xs p hi ((hi - p) / 2)) lo top:=by
 intro i j h1 h2 h3;rw [Dw hs,Dw hs];by_cases c1:p<=j/\j < hi
 ·rw [if_pos c1];by_cases c2:p<=i/\i < hi
  ·rw [if_pos c2];exact e _ _ (by lia) (by lia) (by lia) (by lia)
  ·rw [if_neg c2];exact h' _ _ h1 (by lia) (by lia)
 ·rw [if_neg c1];by_cases c2:p<=i/\i < hi
  ·rw [if_pos c2];exact h' _ _ (by lia) (by lia) h3
  ·rw [if_neg c2];exact h' _ _ h1 h2 h3
def Kp (xs ys:Array Keyed) (lo:Nat):Prop:=ys.Perm xs/\∀ k,k < lo->Cd ys k=Cd xs k
theorem Kp.refl (xs:Array Keyed) (lo:Nat):Kp xs xs lo:=⟨Array.Perm.refl _,fun _ _=>rfl⟩
theorem Kp.size {xs ys:Array Keyed} {lo:Nat} (h:Kp xs ys lo):ys.size=xs.size:=h.1.size_eq
theorem Kp.mirror {xs ys:Array Keyed} {lo i j:Nat} (h:Kp xs ys lo) (hj:j<=xs.size) (hi:lo<=i):Kp xs (PyProof.Rows.mirror ys i j ((j - i) / 2)) lo:=by
 refine ⟨(mirror_perm _ _ _ _).trans h.1,fun k hk=>?_⟩;rw [Dw (by rw [h.size]; exact hj),if_neg (by lia)];exact h.2 k hk
theorem Kp.bubble {xs ys:Array Keyed} {lo src d:Nat} (h:Kp xs ys lo) (hs:src < xs.size) (hd:lo + d<=src):Kp xs (PyProof.Rows.bubble ys src d) lo:=by
 refine ⟨(bubble_perm _ _ _).trans h.1,fun k hk=>?_⟩;rw [F2 (by rw [h.size]; exact hs) (by lia),if_neg (by lia),if_neg (by lia)];exact h.2 k hk
end segs
section
variable {prog:Program} {w:World} {A:Around} {E:Value->Shared->Prop} {s:Shared} {κ:SortKind} {lt:Keyed->Keyed->Bool} {a0:Array Keyed}
theorem FC {i j:Nat} {Q:Unit->SortSt->Prop} {st:SortSt} (h:Q () (setArr st (mirror (arrOf st) i j ((j - i) / 2)))):wpS (model prog w) A E s (reverseSlice' i j) Q st:=by
 rw [reverseSlice'_eq];exact wpS_modify h
theorem Ny {body:Nat->Option (Option Nat) × Nat->StateT SortSt Sem (ForInStep (Option (Option Nat) × Nat))} {f:Nat->Bool} {a nrem:Nat} {st:SortSt} (ha:a<=nrem)
  (hb:∀ x n (R:ForInStep (Option (Option Nat) × Nat)->SortSt->Prop),a<=n->n < nrem->(f n=true->R (.done (none,n)) st)->(f n=false->R (.yield (none,n + 1)) st)->wpS (model prog w) A E s (body x (none,n)) R st) :
  wpS (model prog w) A E s (forIn [a:nrem] (none,a) body) (fun c AZ=>AZ=st/\∃ n,c=(none,n)/\a<=n/\n<=nrem/\(∀ i,a<=i->i < n->f i=false)/\(n=nrem\/f n=true)) st:=by
 refine wpS_forRange (I:=fun x c AZ=>AZ=st/\c=(none,x)/\(∀ i,a<=i->i < x->f i=false)) ?_ ?_ ⟨rfl,rfl,fun i h1 h2=>by lia⟩
 ·rintro x c AZ h1 h2 ⟨rfl,rfl,q⟩;refine hb _ _ _ h1 h2 (fun e=>⟨rfl,x,rfl,h1,by lia,q,.inr e⟩) (fun e=>⟨rfl,rfl,fun i i1 i2=>?_⟩);by_cases z:i=x
  ·rw [z]; exact e
  ·exact q i i1 (by lia)
 ·rintro c AZ ⟨rfl,rfl,q⟩;rw [Nat.max_eq_right ha] at q ⊢;exact ⟨rfl,nrem,rfl,ha,Z4 _,q,.inl rfl⟩
theorem Tx {xs:Array Keyed} (sw:PR lt) {lo a n:Nat} (h:SS lt xs lo (lo + a)) (ha:1<=a) (q:∀ i,a<=i->i < n->lt (Cd xs (lo + i)) (Cd xs (lo + i - 1))=false):SS lt xs lo (lo + n):=by
 have step:∀ d,a + d<=n->SS lt xs lo (lo + (a + d)):=by
  intro d;induction d with
  | zero=>intro _; exact h
  | succ d ih=>
   intro hd i j h1 h2 h3;by_cases hj:j < lo + (a + d)
   ·exact ih (by lia) i j h1 h2 hj
   ·have ej:j=lo + (a + d):=by lia
    by_cases hi:i=j
    ·rw [hi]; exact sw.rfl' _
    ·have q1:=q (a + d) (by lia) (by lia);rw [<-ej] at q1;exact sw.trans (ih (by lia) i (j - 1) h1 (by lia) (by lia)) q1
 rcases di n a with B5 | hge
 ·exact fun i j h1 h2 h3=>h i j h1 h2 (by lia)
 ·have:=step (n - a) (by lia);rw [show a + (n - a)=n by lia] at this;exact this
theorem J3 {lo nrem:Nat} {Q:Option Nat->SortSt->Prop} {st:SortSt} (sw:PR lt) (an:VH prog w A s κ lt a0) (hk:kindOf st=κ) (hp:(arrOf st).Perm a0) (hn:lo + nrem<=a0.size) (h1:1<=nrem)
  (h:∀ m ys,Kp (arrOf st) ys lo->1<=m->m<=nrem->SS lt ys lo (lo + m)->Q (some m) (setArr st ys)):wpS (model prog w) A E s (countRun' lo nrem) Q st:=by
 have hz:=hp.size_eq;refine wpS_bind (wpS_mono (Ny (f:=fun n=>lt (Cd (arrOf st) (lo + n)) (Cd (arrOf st) (lo + n - 1))) h1 ?_) ?_)
 ·intro x n R n1 n2 y1 y2;dsimp only;refine wpS_bind (Dh an hk hp (by lia) (by lia) ?_);dsimp only;cases e:lt (Cd (arrOf st) (lo + n)) (Cd (arrOf st) (lo + n - 1))
  ·exact wpS_pure (y2 e)
  ·exact wpS_pure (y1 e)
 rintro c AZ ⟨rfl,n,rfl,n1,n2,q,hor⟩;dsimp only;have s0:SS lt (arrOf AZ) lo (lo + 1):=fun i j a1 a2 a3=>by
  have:i=j:=by lia
  rw [this];exact sw.rfl' _
 have sn:SS lt (arrOf AZ) lo (lo + n):=Tx sw s0 (Z4 _) q;by_cases hnn:n=nrem
 ·rw [if_pos (by simpa using hnn)];exact wpS_pure (h n _ (Kp.refl _ _) n1 n2 sn)
 rw [if_neg (by simpa using hnn)];have B5:lt (Cd (arrOf AZ) (lo + n)) (Cd (arrOf AZ) (lo + n - 1))=true:=hor.resolve_left hnn;by_cases hgt:n > 1
 case' pos=>
  rw [if_pos hgt];refine wpS_bind (Dh an hk hp (by lia) (by lia) ?_);dsimp only;cases hrose:lt (Cd (arrOf AZ) lo) (Cd (arrOf AZ) (lo + n - 1))
  case' true=>
   simp only [if_true];exact wpS_pure (h n _ (Kp.refl _ _) n1 n2 sn)
  case' false=>
   simp only [ZY,if_false];refine wpS_bind (FC ?_);have even:∀ i j,lo<=i->i < lo + n->lo<=j->j < lo + n->Nl lt (Cd (arrOf AZ) i) (Cd (arrOf AZ) j):=by
    intro i j a1 a2 a3 a4;have b1:=sn lo j (Z4 _) a3 a4;have b2:=sn i (lo + n - 1) a1 (by lia) (by lia);exact sw.trans (sw.trans b2 hrose) b1
   have ns0:NS lt (arrOf AZ) lo (lo + n):=fun i j a1 a2 a3=>even j i (by lia) a3 a1 (by lia)
   have ns1:NS lt (arrOf AZ) lo (lo + (n + 1)):=by
    intro i j a1 a2 a3;by_cases hj:j < lo + n
    ·exact ns0 i j a1 a2 hj
    ·have ej:j=lo + n:=by lia
     by_cases hi:i=j
     ·rw [hi]; exact sw.rfl' _
     ·rw [ej];exact sw.trans (sw.of_lt B5) (even _ _ (by lia) (by lia) a1 (by lia))
   have kp:Kp (arrOf AZ) (mirror (arrOf AZ) lo (lo + n) ((lo + n - lo) / 2)) lo:=(Kp.refl _ _).mirror (by lia) (Z4 _);have ns:NS lt (mirror (arrOf AZ) lo (lo + n) ((lo + n - lo) / 2)) lo (lo + (n + 1)):=ns0.even (by lia) (Z4 _) even (by lia) ns1;obtain ⟨ys,ey⟩:∃ ys,ys=mirror (arrOf AZ) lo (lo + n) ((lo + n - lo) / 2):=⟨_,rfl⟩
   rw [<-ey] at kp ns;show wpS (model prog w) A E s _ Q (setArr AZ (mirror (arrOf AZ) lo (lo + n) ((lo + n - lo) / 2)))
   rw [<-ey]
 case' neg=>
  rw [if_neg hgt];have en:n=1:=by lia
  have kp:Kp (arrOf AZ) (arrOf AZ) lo:=Kp.refl _ _;have ns:NS lt (arrOf AZ) lo (lo + (n + 1)):=by
   intro i j a1 a2 a3;by_cases hi:i=j
   ·rw [hi]; exact sw.rfl' _
   ·have e1:j=lo + n:=by lia
    have e2:i=lo + n - 1:=by lia
    rw [e1,e2];exact sw.of_lt B5
  obtain ⟨ys,ey⟩:∃ ys,ys=arrOf AZ:=⟨_,rfl⟩
  rw [<-ey] at ns;have kp:Kp (arrOf AZ) ys lo:=by rw [ey]; exact Kp.refl _ _
  show wpS (model prog w) A E s _ Q (setArr AZ (arrOf AZ))
  rw [<-ey]
 all_goals
  refine wpS_bind (wpS_lift (wpAny_rule ⟨rfl,?_⟩));refine wpS_bind (wpS_mono (wpS_forRange (I:=fun x c HA=>∃ neq ys,c=(none,x,neq)/\HA=setArr AZ ys/\Kp (arrOf AZ) ys lo/\NS lt ys lo (lo + x)/\neq + 1<=x /\
    (∀ i j,lo + x - (neq + 1)<=i->i < lo + x->lo + x - (neq + 1)<=j->j < lo + x->Nl lt (Cd ys i) (Cd ys j)))
   (Q:=fun c HA=>∃ m neq ys,c=(none,m,neq)/\HA=setArr AZ ys/\Kp (arrOf AZ) ys lo/\n + 1<=m/\m<=nrem/\NS lt ys lo (lo + m)/\neq + 1<=m /\
    (∀ i j,lo + m - (neq + 1)<=i->i < lo + m->lo + m - (neq + 1)<=j->j < lo + m->Nl lt (Cd ys i) (Cd ys j))) ?dstep ?dfin ?dinit) ?dpost)
  case dinit=>
   refine ⟨0,ys,rfl,rfl,kp,ns,by lia,fun i j a1 a2 a3 a4=>?_⟩;have:i=j:=by lia
   rw [this];exact sw.rfl' _
  case dfin=>
   rintro c HA ⟨neq,ys,rfl,rfl,kp,ns,a1,a2⟩;have e:max (n + 1) nrem=nrem:=by lia
   rw [e] at ns a1 a2 ⊢;exact ⟨nrem,neq,ys,rfl,rfl,kp,by lia,Z4 _,ns,a1,a2⟩
  case dstep=>
   rintro x c HA x1 x2 ⟨neq,ys,rfl,rfl,kp,ns,a1,a2⟩;dsimp only;have hzy:=kp.size;have hpy:(arrOf (setArr AZ ys)).Perm a0:=kp.1.trans hp;refine wpS_bind (Dh (st:=setArr AZ ys) an hk hpy (by lia) (by lia) ?_);dsimp only;cases hless:lt (Cd ys (lo + x)) (Cd ys (lo + x - 1))
   ·simp only [ZY,if_false];refine wpS_bind (Dh (st:=setArr AZ ys) an hk hpy (by lia) (by lia) ?_);dsimp only;cases hlarger:lt (Cd ys (lo + x - 1)) (Cd ys (lo + x))
    ·simp only [ZY,if_false];refine wpS_pure ⟨neq + 1,ys,rfl,rfl,kp,?_,by lia,?_⟩
     ·intro i j b1 b2 b3;by_cases hj:j < lo + x
      ·exact ns i j b1 b2 hj
      ·have ej:j=lo + x:=by lia
       by_cases hi:i=j
       ·rw [hi]; exact sw.rfl' _
       ·rw [ej];exact sw.trans hlarger (ns _ _ b1 (by lia) (by lia))
     ·have pin:∀ i,lo + (x + 1) - (neq + 1 + 1)<=i->i < lo + (x + 1)->Nl lt (Cd ys i) (Cd ys (lo + x - 1))/\Nl lt (Cd ys (lo + x - 1)) (Cd ys i):=by
       intro i b1 b2;by_cases hi:i=lo + x
       ·rw [hi];exact ⟨hlarger,hless⟩
       ·exact ⟨a2 _ _ (by lia) (by lia) (by lia) (by lia),a2 _ _ (by lia) (by lia) (by lia) (by lia)⟩
      intro i j b1 b2 b3 b4;exact sw.trans (pin i b1 b2).1 (pin j b3 b4).2
    ·simp only [if_true];exact wpS_pure ⟨x,neq,ys,rfl,rfl,kp,x1,by lia,ns,a1,a2⟩
   ·simp only [if_true];have ns':NS lt ys lo (lo + (x + 1)):=by
     intro i j b1 b2 b3;by_cases hj:j < lo + x
     ·exact ns i j b1 b2 hj
     ·have ej:j=lo + x:=by lia
      by_cases hi:i=j
      ·rw [hi]; exact sw.rfl' _
      ·rw [ej];exact sw.trans (sw.of_lt hless) (ns _ _ b1 (by lia) (by lia))
    have one:∀ (zs:Array Keyed) i j,lo + (x + 1) - (0 + 1)<=i->i < lo + (x + 1)->lo + (x + 1) - (0 + 1)<=j->j < lo + (x + 1)->Nl lt (Cd zs i) (Cd zs j):=by
     intro zs i j b1 b2 b3 b4;have:i=j:=by lia
     rw [this];exact sw.rfl' _
    by_cases hq:neq > 0
    ·rw [if_pos hq];refine wpS_bind (FC (wpS_pure ⟨0,_,rfl,rfl,kp.mirror (by lia) (by lia),?_,by lia,one _⟩));exact ns.even (by show _<=ys.size; lia) (by lia) a2 (by lia) ns'
    ·rw [if_neg hq];exact wpS_pure ⟨0,ys,rfl,rfl,kp,ns',by lia,one _⟩
  case dpost=>
   rintro c HA ⟨m,neq,zs,rfl,rfl,kz,m1,m2,nz,a1,a2⟩;dsimp only;have hzz:=kz.size;by_cases hq:neq > 0
   case' pos=>
    rw [if_pos hq];refine wpS_bind (FC ?_);have X8:Kp (arrOf AZ) (mirror zs (lo + m - (neq + 1)) (lo + m) ((lo + m - (lo + m - (neq + 1))) / 2)) lo:=kz.mirror (by lia) (by lia);have Y8:NS lt (mirror zs (lo + m - (neq + 1)) (lo + m) ((lo + m - (lo + m - (neq + 1))) / 2)) lo (lo + m):=nz.even (by lia) (by lia) a2 (Z4 _) nz;obtain ⟨us,eu⟩:∃ us,us=mirror zs (lo + m - (neq + 1)) (lo + m) ((lo + m - (lo + m - (neq + 1))) / 2):=⟨_,rfl⟩
    rw [<-eu] at X8 Y8;show wpS (model prog w) A E s _ Q (setArr AZ (mirror zs (lo + m - (neq + 1)) (lo + m) ((lo + m - (lo + m - (neq + 1))) / 2)))
    rw [<-eu]
   case' neg=>
    rw [if_neg hq];obtain ⟨us,eu⟩:∃ us,us=zs:=⟨_,rfl⟩
    have X8:Kp (arrOf AZ) us lo:=by rw [eu]; exact kz
    have Y8:NS lt us lo (lo + m):=by rw [eu]; exact nz
    rw [<-eu]
   all_goals
    have hzu:=X8.size;refine wpS_bind (FC ?_);show wpS (model prog w) A E s _ Q (setArr AZ (mirror us lo (lo + m) ((lo + m - lo) / 2)))
    have kv:Kp (arrOf AZ) (mirror us lo (lo + m) ((lo + m - lo) / 2)) lo:=X8.mirror (by lia) (Z4 _);have sv:SS lt (mirror us lo (lo + m) ((lo + m - lo) / 2)) lo (lo + m):=Y8.mirror (by lia);obtain ⟨vs,ev⟩:∃ vs,vs=mirror us lo (lo + m) ((lo + m - lo) / 2):=⟨_,rfl⟩
    rw [<-ev] at kv sv;rw [<-ev];have hzv:=kv.size;refine wpS_bind (wpS_mono (Ny (f:=fun n=>lt (Cd vs (lo + n)) (Cd vs (lo + n - 1))) m2 ?_) ?_)
    ·intro x n R n1 n2 y1 y2;dsimp only;refine wpS_bind (Dh (st:=setArr AZ vs) an hk (kv.1.trans hp) (by lia) (by lia) ?_);dsimp only;cases e:lt (Cd vs (lo + n)) (Cd vs (lo + n - 1))
     ·exact wpS_pure (y2 e)
     ·exact wpS_pure (y1 e)
    rintro c Yv ⟨rfl,n',rfl,b1,b2,b3,_⟩;exact wpS_pure (h n' vs kv (by lia) b2 (Tx sw sv (by lia) b3))
theorem Hy {lo n ok:Nat} {Q:Bool->SortSt->Prop} {st:SortSt} (sw:PR lt) (an:VH prog w A s κ lt a0) (hk:kindOf st=κ) (hp:(arrOf st).Perm a0) (hn:lo + n<=a0.size) (h1:1<=ok) (hok:ok<=n)
  (hs:SS lt (arrOf st) lo (lo + ok)) (h:∀ ys,Kp (arrOf st) ys lo->SS lt ys lo (lo + n)->Q true (setArr st ys)):wpS (model prog w) A E s (binarySort' lo n ok) Q st:=by
 have hz:=hp.size_eq;refine wpS_bind (wpS_mono (wpS_forRange (I:=fun k c AZ=>c=(none,())/\∃ ys,AZ=setArr st ys/\Kp (arrOf st) ys lo/\SS lt ys lo (lo + k))
  (Q:=fun c AZ=>c=(none,())/\∃ ys,AZ=setArr st ys/\Kp (arrOf st) ys lo/\SS lt ys lo (lo + n)) ?step ?fin ?init) ?post)
 case init=>
  rw [Nat.max_eq_left h1];exact ⟨rfl,arrOf st,rfl,Kp.refl _ _,hs⟩
 case fin=>
  rintro c AZ ⟨rfl,ys,rfl,kp,ss⟩;rw [show max (max ok 1) n=n by lia] at ss;exact ⟨rfl,ys,rfl,kp,ss⟩
 case post=>
  rintro c AZ ⟨rfl,ys,rfl,kp,ss⟩;exact wpS_pure (h ys kp ss)
 case step=>
  rintro k c AZ k1 k2 ⟨rfl,ys,rfl,kp,ss⟩;dsimp only;have hzy:=kp.size;have hpy:(arrOf (setArr st ys)).Perm a0:=kp.1.trans hp;refine wpS_bind (wpS_mono (Lu (f:=fun m=>!(lt (Cd ys (lo + k)) (Cd ys (lo + m)))) (n:=k) ?_ ?_ (ZX _) (Z4 _) ?_ ?_ ?_) ?_)
  ·intro x l R hR;dsimp only;rw [if_pos (Z4 _)];exact wpS_pure hR
  ·intro x l r R hlr hrk y1 y2;dsimp only;rw [if_neg (by lia),show (l + r) / 2=l + (r - l) / 2 by lia];refine wpS_bind (Dh (st:=setArr st ys) an hk hpy (by lia) (by lia) ?_);dsimp only;cases e:lt (Cd ys (lo + k)) (Cd ys (lo + (l + (r - l) / 2)))
   ·exact wpS_pure (y1 (by rw [e]; rfl))
   ·exact wpS_pure (y2 (by rw [e]; rfl))
  ·intro i j hij hj e;simp only [dX] at e ⊢;exact sw.trans (ss _ _ (by lia) (by lia) (by lia)) e
  ·intro i hi;lia
  ·intro i hi1 WD;lia
  ·rintro c Hz ⟨rfl,r,rfl,r1,r2,r3⟩;refine wpS_bind ?_;rw [show (sortPriv% PySem.Builtin.moveDown)=moveDown' from rfl,moveDown'_eq];refine wpS_modify (wpS_pure ⟨rfl,bubble ys (lo + k) (lo + k - (lo + r)),rfl,kp.bubble (by lia) (by lia),?_⟩);intro i j a1 a2 a3;rw [F2 (by lia) (by lia),F2 (by lia) (by lia)];have g1:∀ m,lo<=m->m < lo + r->Nl lt (Cd ys m) (Cd ys (lo + k)):=fun m b1 b2=>by
    have q:=r2 (m - lo) (by lia);simp only [dX] at q;rw [show lo + (m - lo)=m by lia] at q;exact q
   have g2:∀ m,lo + r<=m->m < lo + k->Nl lt (Cd ys (lo + k)) (Cd ys m):=fun m b1 b2=>by
    have q:=r3 (m - lo) (by lia) (by lia);simp only [Bool.not_eq_false'] at q;rw [show lo + (m - lo)=m by lia] at q;exact sw.of_lt q
   repeat' split
   all_goals first
    | exact sw.rfl' _
    | exact g1 _ (by lia) (by lia)
    | exact g2 _ (by lia) (by lia)
    | exact ss _ _ (by lia) (by lia) (by lia)
    | (exfalso; lia)
end
section
variable {lt:Keyed->Keyed->Bool}
end
section
variable {prog:Program} {w:World} {A:Around} {E:Value->Shared->Prop} {s:Shared} {κ:SortKind} {lt:Keyed->Keyed->Bool} {a0:Array Keyed}
end
section
variable {prog:Program} {w:World} {A:Around} {E:Value->Shared->Prop} {s:Shared} {κ:SortKind} {lt:Keyed->Keyed->Bool} {a0:Array Keyed}
end
end L2
namespace L2
open PySem PySem.Spec PyProof.Rows
abbrev Bm:=Sum Int Str
def IU:Bm->Value->Bool
 | .inl k,v=>Value.isInt k v
 | .inr x,v=>Value.isStrOf x v
def keyH (w:World):Bm->Int
 | .inl k=>hashInt k
 | .inr x=>hashStr w x
theorem Bu:∀ {k:Bm} {v:Value},IU k v=true->(∃ i t,k=Sum.inl i/\v=Value.int i t)\/(∃ x t,k=Sum.inr x/\v=Value.str x t)
 | .inl i,v,h=>by
  obtain ⟨t,e⟩:=Value.isInt_shape (k:=i) (v:=v) h;exact .inl ⟨i,t,rfl,e⟩
 | .inr x,v,h=>by
  obtain ⟨t,e⟩:=Value.isStrOf_shape (x:=x) (v:=v) h;exact .inr ⟨x,t,rfl,e⟩
theorem Po (i:Int) (t:Tok):IU (.inl i) (.int i t)=true:=by simp [IU,Value.isInt]
theorem Pn (x:Str) (t:Tok):IU (.inr x) (.str x t)=true:=by simp [IU,Value.isStrOf]
theorem Vn (a b:Int):decide ((Sum.inl a:Bm)=Sum.inl b)=(a == b):=by
 by_cases e:a=b
 ·subst e; simp
 ·have h:¬ (Sum.inl a:Bm)=Sum.inl b:=fun q=>e (Sum.inl.inj q)
  rw [decide_eq_false h];exact (beq_eq_false_iff_ne.mpr e).symm
theorem Vk (a b:Str):decide ((Sum.inr a:Bm)=Sum.inr b)=decide (a=b):=by
 by_cases e:a=b
 ·subst e; simp
 ·have h:¬ (Sum.inr a:Bm)=Sum.inr b:=fun q=>e (Sum.inr.inj q)
  rw [decide_eq_false h,decide_eq_false e]
theorem Vm (a:Int) (b:Str):decide ((Sum.inl a:Bm)=Sum.inr b)=false:=decide_eq_false (fun q=>nomatch q)
theorem Vl (a:Str) (b:Int):decide ((Sum.inr a:Bm)=Sum.inl b)=false:=decide_eq_false (fun q=>nomatch q)
def AX (prog:Program) (w:World):PySem.KeyKind prog w Bm where
 is:=IU
 hash:=keyH w
 inj:=fun v a b ha hb=>by
  rcases Bu ha with ⟨i,t,rfl,rfl⟩ | ⟨x,t,rfl,rfl⟩
  ·rcases Bu hb with ⟨j,u,rfl,e⟩ | ⟨y,u,rfl,e⟩
   ·injection e with e1 _; rw [e1]
   ·exact nomatch e
  ·rcases Bu hb with ⟨j,u,rfl,e⟩ | ⟨y,u,rfl,e⟩
   ·exact nomatch e
   ·injection e with e1 _; rw [e1]
 byValue:=fun k v h=>by
  rcases Bu h with ⟨i,t,rfl,rfl⟩ | ⟨x,t,rfl,rfl⟩ <;> rfl
 pyHash:=fun hv h=>by
  rcases Bu hv with ⟨i,t,rfl,rfl⟩ | ⟨x,t,rfl,rfl⟩
  ·exact wpAny_pyHash_int h
  ·exact wpAny_pyHash_str h
 eqBool:=fun hu hv h=>by
  rcases Bu hu with ⟨i,t,rfl,rfl⟩ | ⟨x,t,rfl,rfl⟩
  ·rcases Bu hv with ⟨j,u,rfl,rfl⟩ | ⟨y,u,rfl,rfl⟩
   ·rw [Vn] at h; exact wpAny_eqBool_int h
   ·rw [Vm] at h; exact SeqAt.EqAt.int_str i t y u _ _ _ _ h
  ·rcases Bu hv with ⟨j,u,rfl,rfl⟩ | ⟨y,u,rfl,rfl⟩
   ·rw [Vl] at h; exact SeqAt.EqAt.str_int x t j u _ _ _ _ h
   ·rw [Vk] at h; exact wpAny_eqBool_str h
 «strs»:=fun k x t v h=>by
  rcases Bu h with ⟨i,u,rfl,e⟩ | ⟨y,u,rfl,e⟩
  ·exact nomatch e
  ·injection e with e1 _;subst e1;cases v <;> rfl
theorem Mb (prog:Program) (w:World) (i:Int) (t:Tok):(AX prog w).is (.inl i) (.int i t)=true:=Po i t
theorem Hn (prog:Program) (w:World) (x:Str) (t:Tok):(AX prog w).is (.inr x) (.str x t)=true:=Pn x t
inductive V where
 | non | bl (b:Bool) | int (i:Int) | str (x:Str) | byt (b:Array UInt8) | flt (b:UInt64) | ref (a:Addr) | ty (n:String)
 deriving DecidableEq
def AG:V->Value->Prop
 | .non,u=>u=Value.none
 | .bl b,u=>u=Value.bool b
 | .int i,u=>∃ t,u=Value.int i t
 | .str x,u=>∃ t,u=Value.str x t
 | .byt b,u=>∃ t,u=Value.bytes b t
 | .flt b,u=>∃ t,u=Value.float b t
 | .ref a,u=>u=Value.ref a
 | .ty n,u=>u=Value.type n
abbrev AD:List V->List Value->Prop:=Paired AG
theorem AD.length {xs:List V} {us:List Value} (r:AD xs us):xs.length=us.length:=Paired.length r
theorem AD.get:∀ {xs:List V} {us:List Value} {i:Nat} {x:V},AD xs us->xs[i]? = some x->∃ u,us[i]? = some u/\AG x u
 | _,_,_,_,.nil,e=>by simp at e
 | _,_,0,_,.cons r _,e=>by simp at e; subst e; exact ⟨_,rfl,r⟩
 | _,_,i + 1,x,.cons _ t,e=>by
  obtain ⟨u,h1,h2⟩:=AD.get (i:=i) (x:=x) t (by simpa using e);exact ⟨u,by simpa using h1,h2⟩
theorem AD.set {x:V} {u:Value} (r:AG x u):∀ {xs:List V} {us:List Value} (i:Nat),AD xs us->AD (xs.set i x) (us.set i u)
 | _,_,_,.nil=>.nil
 | _,_,0,.cons _ t=>.cons r t
 | _,_,i + 1,.cons q t=>.cons q (AD.set r i t)
theorem AD.append:∀ {xs ys:List V} {us ws:List Value},AD xs us->AD ys ws->AD (xs ++ ys) (us ++ ws)
 | _,_,_,_,.nil,s=>s
 | _,_,_,_,.cons r t,s=>.cons r (AD.append t s)
theorem AD.take:∀ {xs:List V} {us:List Value} (n:Nat),AD xs us->AD (xs.take n) (us.take n)
 | _,_,0,_=>.nil
 | _,_,_ + 1,.nil=>.nil
 | _,_,n + 1,.cons r t=>.cons r (AD.take n t)
theorem AD.drop:∀ {xs:List V} {us:List Value} (n:Nat),AD xs us->AD (xs.drop n) (us.drop n)
 | _,_,0,r=>r
 | _,_,_ + 1,.nil=>.nil
 | _,_,n + 1,.cons _ t=>AD.drop n t
def GH:Option V->Option Value->Prop
 | some v,some u=>AG v u
 | none,none=>True
 | _,_=>False
def KV {κ:Type}:List (κ × V)->List (κ × Value)->Prop:=Paired fun (p:κ × V) (q:κ × Value)=>p.1=q.1/\AG p.2 q.2
def kV:Bm->V
 | .inl i=>.int i
 | .inr x=>.str x
inductive HO where
 /-- a list -/
 | lst (xs:List V)
 /-- a tuple (never changes) -/
 | tup (xs:List V)
 /-- a dict whose keys are ints and texts; one whose keys are tuples of ints and texts (the empty one is both) -/
 | dK (kvs:List (Bm × V)) | dT (kvs:List (List Bm × V))
 /-- a set of ints: Ar members,Ar size -/
 | set (S:Int->Bool) (n:Nat)
 /-- an instance of the class at C,Ar dict at dx,Ar attributes -/
 | ins (C dx:Addr) (fs:List (Str × V))
 /-- the dict of the instance at x -/
 | own (x:Addr)
 /-- the dict of an exception -/
 | xd (fs:List (Str × V))
 /-- a bound method,f of x -/
 | met (f x:Addr)
 /-- a range object lo,lo + 1,.. below hi -/
 | rng (lo hi:Int)
 /-- a thing that is known to the object (the script; a dict while a loop walks it): read,never written while it is so -/
 | frz (o:Obj) (u:HO)
 /-- a code Wq table -/
 | tbl (ps:Array Value)
 /-- any other thing,by what is true of Ar one object (a def of one's own: SetO a S n:=HO.ext fun h=>..) -/
 | ext (φ:Heap->Prop)
abbrev Hp:=Addr->Option HO
def upd (H:Hp) (a:Addr) (o:HO):Hp:=fun b=>if b=a then some o else H b
theorem Ab {H:Hp} {a:Addr} {o:HO}:upd H a o a=some o:=by unfold upd; rw [if_pos rfl]
theorem Ae {H:Hp} {a b:Addr} {o:HO} (h:b ≠ a):upd H a o b=H b:=by unfold upd; rw [if_neg h]
theorem FE {H:Hp} {a:Addr} {o u:HO}:upd (upd H a o) a u=upd H a u:=by
 funext b; unfold upd; split <;> rfl
theorem CB {H:Hp} {a b:Addr} {o u:HO} (h:H a=some o) (h':H b=some u) (d:o ≠ u):a ≠ b:=by
 intro e; subst e; rw [h] at h'; exact d (ZR.inj h')
theorem Ah {H:Hp} {a b:Addr} {o:HO} (h:H a=some o) (h':H b=none):a ≠ b:=by
 intro e; subst e; rw [h] at h'; cases h'
def Ll (h:Heap) (a:Addr):Prop:=∀ o,h.get? a=some o->o.dict=none
theorem Ll.new {h:Heap} {o:Obj} (hd:o.dict=none) (hf:o.isFreed=false):Ll (h.push o) h.objs.size:=fun o' e=>by
 rw [Z9 _ hf] at e;cases e
 exact hd
section
variable (P:Program) (w:World)
def AM (H:Hp) (h:Heap) (a:Addr):HO->Prop
 | .lst xs=>xs.length<=sizeLine/\∃ (Ar:List Value) (n:Nat),AD xs Ar/\h.get? a=some { cls:=.type "list",data:=.seq Ar.toArray n }
 | .tup xs=>xs.length<=sizeLine/\∃ Ar:List Value,AD xs Ar/\IsTup h a Ar.toArray/\Ll h a
 | .dK kvs=>kvs.length<=sizeLine/\(a == sysModules)=false/\∃ vs,KV kvs vs/\h.DictOf (AX P w) a vs
 | .dT kvs=>kvs.length<=sizeLine/\(a == sysModules)=false/\∃ xs:List (List Bm × Addr × Value),
   Paired (fun (p:List Bm × V) (q:List Bm × Addr × Value)=>p.1=q.1/\H q.2.1=some (.tup (p.1.map kV))/\AG p.2 q.2.2) kvs xs /\
   ∃ o es ep,h.get? a=some o/\o.ExactDict/\o.data=.dict es ep/\es.toList=xs.map (entryOfKey (tupleKind (AX P w)))/\(xs.map (·.1)).Nodup
 | .set S n=>h.SetOf (intKind P w) a S n
 | .ins C dx fs=>H dx=some (.own a)/\fs.length<=1000/\dx ≠ a/\h.get? a=some (cE C dx) /\
   ∃ mA,h.Ns1 dx mA/\(∀ f,GH (fs.lookup f) (mA f))/\PySem.Within mA (fs.map (·.1))
 | .own _=>∃ o,h.get? a=some o
 | .xd fs=>∃ mA,h.Ns1 a mA/\∀ f,GH (fs.lookup f) (mA f)
 | .rng lo hi=>∃ t u v,h.get? a=some { cls:=.type "range",data:=.fields #[.int lo t,.int hi u,.int 1 v] }
 | .frz o u=>h.get? a=some o/\AM H h a u
 | .tbl ps=>h.get? a=some { cls:=.none,data:=.fields ps }
 | .met f x=>h.get? a=some (cy (.ref f) (.ref x))
 | .ext φ=>φ h/\(∃ o,h.get? a=some o)/\∀ h1 h2:Heap,φ h1->(∀ o,h1.get? a=some o->h2.get? a=some o)->φ h2
def F9 (H:Hp) (h:Heap):Prop:=∀ a o,H a=some o->AM P w H h a o
end
section
variable {P:Program} {w:World} {H H':Hp} {h h':Heap} {a:Addr} {o:HO}
theorem AM.lt (x:AM P w H h a o):a < h.objs.size:=by
 cases o with
 | lst xs=>obtain ⟨_,_,_,_,e⟩:=x; exact Z5 e
 | tup xs=>obtain ⟨_,_,_,p,_⟩:=x; exact p.lt
 | dK kvs=>obtain ⟨_,_,_,_,o,_,_,e,_⟩:=x; exact Z5 e
 | dT kvs=>obtain ⟨_,_,_,_,o,_,_,e,_⟩:=x; exact Z5 e
 | set S n=>obtain ⟨o,_,_,_,e,_⟩:=x; exact Z5 e
 | ins C dx fs=>obtain ⟨_,_,_,e,_⟩:=x; exact Z5 e
 | own y=>obtain ⟨_,e⟩:=x; exact Z5 e
 | xd fs=>obtain ⟨_,⟨_,_,_,e,_⟩,_⟩:=x; exact Z5 e
 | rng lo hi=>obtain ⟨_,_,_,e⟩:=x; exact Z5 e
 | frz ob u=>obtain ⟨e,_⟩:=x; exact Z5 e
 | tbl ps=>exact Z5 (show h.get? a=some _ from x)
 | met f y=>exact Z5 (show h.get? a=some _ from x)
 | ext φ=>obtain ⟨_,⟨_,e⟩,_⟩:=x; exact Z5 e
theorem Paired.mapP {α β:Type} {F G:α->β->Prop}:∀ {Ro:List α} {Rn:List β},Paired F Ro Rn->(∀ a b,F a b->G a b)->Paired G Ro Rn
 | _,_,.nil,_=>.nil
 | _,_,.cons r t,f=>.cons (f _ _ r) (Paired.mapP t f)
theorem AM.stay (x:AM P w H h a o) (k:∀ b u,(b=a\/H b=some (.own a))->h.get? b=some u->h'.get? b=some u)
  (ho:∀ b,H b=some (.own a)->H' b=some (.own a)) (ht:∀ b xs,H b=some (.tup xs)->H' b=some (.tup xs)):AM P w H' h' a o:=by
 induction o with
 | lst xs=>obtain ⟨z,Ar,n,r,e⟩:=x; exact ⟨z,Ar,n,r,k _ _ (.inl rfl) e⟩
 | tup xs=>
  obtain ⟨z,Ar,r,⟨ob,e,c⟩,dn⟩:=x;have e':=k _ _ (.inl rfl) e;exact ⟨z,Ar,r,⟨ob,e',c⟩,fun o q=>by rw [e'] at q; cases q; exact dn _ e⟩
 | dK kvs=>obtain ⟨z,y,vs,r,ob,es,ep,e,c⟩:=x; exact ⟨z,y,vs,r,ob,es,ep,k _ _ (.inl rfl) e,c⟩
 | dT kvs=>
  obtain ⟨z,y,xs,r,ob,es,ep,e,c⟩:=x;exact ⟨z,y,xs,Paired.mapP r fun p q z=>⟨z.1,ht _ _ z.2.1,z.2.2⟩,ob,es,ep,k _ _ (.inl rfl) e,c⟩
 | set S n=>obtain ⟨ob,es,ep,t,e,c⟩:=x; exact ⟨ob,es,ep,t,k _ _ (.inl rfl) e,c⟩
 | ins C dx fs=>
  obtain ⟨d,z,ne,e,mA,⟨od,es,ep,e2,c⟩,r⟩:=x;exact ⟨ho _ d,z,ne,k _ _ (.inl rfl) e,mA,⟨od,es,ep,k _ _ (.inr d) e2,c⟩,r⟩
 | own y=>obtain ⟨ob,e⟩:=x; exact ⟨ob,k _ _ (.inl rfl) e⟩
 | xd fs=>obtain ⟨mA,⟨od,es,ep,e,c⟩,r⟩:=x; exact ⟨mA,⟨od,es,ep,k _ _ (.inl rfl) e,c⟩,r⟩
 | rng lo hi=>obtain ⟨t,u,v,e⟩:=x; exact ⟨t,u,v,k _ _ (.inl rfl) e⟩
 | frz ob u ih=>obtain ⟨e,q⟩:=x; exact ⟨k _ _ (.inl rfl) e,ih q⟩
 | tbl ps=>
  have e:h.get? a=some { cls:=.none,data:=.fields ps }:=x;show h'.get? a=some { cls:=.none,data:=.fields ps }
  exact k a _ (.inl rfl) e
 | met f y=>
  have e:h.get? a=some (cy (.ref f) (.ref y)):=x;show h'.get? a=some (cy (.ref f) (.ref y))
  exact k a _ (.inl rfl) e
 | ext φ=>obtain ⟨p,⟨o,e⟩,st⟩:=x; exact ⟨st _ _ p fun o q=>k _ _ (.inl rfl) q,⟨o,k _ _ (.inl rfl) e⟩,st⟩
theorem F9.lt (x:F9 P w H h) (e:H a=some o):a < h.objs.size:=(x a o e).lt
theorem F9.fresh (x:F9 P w H h) (e:h.objs.size<=a):H a=none:=by
 cases q:H a with
 | none=>rfl
 | some u=>exact absurd (ZK (x.lt q) e) (ay _)
theorem F9.kept (x:F9 P w H h) (k:∀ b u,h.get? b=some u->h'.get? b=some u):F9 P w H h':=fun a o e=>
 (x a o e).stay (fun b u _ q=>k b u q) (fun _ q=>q) fun _ _ q=>q
theorem F9.laid (x:F9 P w H h) (k:∀ b u,h.get? b=some u->h'.get? b=some u) (hp:h.objs.size<=a) (new:AM P w (upd H a o) h' a o):F9 P w (upd H a o) h':=fun b u e=>by
 have hn:=x.fresh hp;by_cases hb:b=a
 ·subst hb; rw [Ab] at e; cases e; exact new
 ·rw [Ae hb] at e;exact (x b u e).stay (fun c v _ q=>k c v q) (fun c q=>by rw [Ae (Ah q hn)]; exact q) fun c xs q=>by rw [Ae (Ah q hn)]; exact q
end
def Rd (H:Hp) (a:Addr) (u:HO):Prop:=H a=some u\/∃ o,H a=some (.frz o u)
theorem Rd.ok {P:Program} {w:World} {H:Hp} {h:Heap} {a:Addr} {u:HO} (r:Rd H a u) (x:F9 P w H h):AM P w H h a u:=by
 rcases r with r | ⟨o,r⟩
 ·exact x a u r
 ·obtain ⟨_,q⟩:=x a _ r;exact q
def Mut:Option HO->Prop
 | some (.lst _)=>True
 | some (.dK _)=>True
 | some (.dT _)=>True
 | some (.set _ _)=>True
 | some (.ins _ _ _)=>True
 | some (.ext _)=>True
 | _=>False
section
variable {P:Program} {w:World} {H:Hp} {h h':Heap} {x e:Addr} {o':HO}
theorem F9.write (ok:F9 P w H h) (mu:Mut (H x)) (he:e=x\/H e=some (.own x)) (k:∀ b u,b ≠ e->h.get? b=some u->h'.get? b=some u) (heo:∃ u,h'.get? e=some u)
  (new:AM P w (upd H x o') h' x o'):F9 P w (upd H x o') h':=fun b u q=>by
 have nown:∀ c y,H c=some (.own y)->c ≠ x:=fun c y r z=>by subst z; rw [r] at mu; exact mu
 have ntup:∀ c xs,H c=some (.tup xs)->c ≠ x:=fun c xs r z=>by subst z; rw [r] at mu; exact mu
 by_cases hb:b=x
 ·subst hb; rw [Ab] at q; cases q; exact new
 ·rw [Ae hb] at q;by_cases hbe:b=e
  ·have q':H b=some (.own x):=by
    rcases he with z | z
    ·exact absurd (hbe.trans z) hb
    ·rw [hbe]; exact z
   rw [q] at q'; cases q';obtain ⟨v,hv⟩:=heo;exact ⟨v,by rw [hbe]; exact hv⟩
  ·refine (ok b u q).stay (fun c v hc r=>k c v ?_ r) (fun c r=>by rw [Ae (nown c b r)]; exact r) fun c xs r=>by rw [Ae (ntup c xs r)]; exact r
   rcases hc with rfl | hc
   ·exact hbe
   ·rintro rfl;rcases he with z | z
    ·exact nown c b hc z
    ·rw [hc] at z; cases z; exact hb rfl
end
structure Un (fs ex:List Addr) (H H':Hp) (h h':Heap):Prop where
 keep:∀ b o,h.get? b=some o->H b=none->b ∉ fs->b ∉ ex->h'.get? b=some o
 slot:∀ b o,h.get? b=some o->H b=none->b ∈ fs->b ∉ ex->∃ sl,h'.get? b=some { o with slots:=sl }
 free:∀ b o,h.get? b=some o->H b=none->b ∉ ex->H' b=none
 there:∀ b o,h.get? b=some o->b ∉ ex->∃ o',h'.get? b=some o'
 tups:∀ b xs,H b=some (.tup xs)->H' b=some (.tup xs)
 frzs:∀ b o u,H b=some (.frz o u)->H' b=some (.frz o u)
 tbls:∀ b ps,H b=some (.tbl ps)->∃ more,H' b=some (.tbl (ps ++ more))
section
variable {fs Wa ex Uo:List Addr} {H H1 H2:Hp} {h h1 h2 h':Heap} {a x e:Addr} {o:HO}
theorem Un.any (u:Un fs ex H H1 h h1) {b:Addr} {ob:Obj} (q:h.get? b=some ob) (n:H b=none) (hx:b ∉ ex):∃ sl,h1.get? b=some { ob with slots:=sl }:=by
 by_cases hb:b ∈ fs
 ·exact u.slot b ob q n hb hx
 ·exact ⟨ob.slots,u.keep b ob q n hb hx⟩
theorem Un.kept (k:∀ b u,h.get? b=some u->h'.get? b=some u):Un fs ex H H h h':=
 ⟨fun b ob q _ _ _=>k b ob q,fun b ob q _ _ _=>⟨ob.slots,k b ob q⟩,fun _ _ _ n _=>n,fun b ob q _=>⟨ob,k b ob q⟩,fun _ _ q=>q,fun _ _ _ q=>q,fun _ ps q=>⟨#[],by rw [q]; simp⟩⟩
theorem Un.refl:Un fs ex H H h h:=Un.kept fun _ _ q=>q
theorem Un.laid (k:∀ b u,h.get? b=some u->h'.get? b=some u) (hp:h.objs.size<=a) (hn:H a=none):Un fs ex H (upd H a o) h h' where
 keep:=fun b u q _ _ _=>k b u q
 slot:=fun b u q _ _ _=>⟨u.slots,k b u q⟩
 free:=fun b u q n _=>by rw [Ae (ZE (ZK (Z5 q) hp))]; exact n
 there:=fun b u q _=>⟨u,k b u q⟩
 tups:=fun b xs q=>by rw [Ae (Ah q hn)]; exact q
 frzs:=fun b u xs q=>by rw [Ae (Ah q hn)]; exact q
 tbls:=fun b ps q=>⟨#[],by rw [Ae (Ah q hn),q]; simp⟩
theorem Un.write (mu:Mut (H x)) (he:e=x\/H e=some (.own x)) (k:∀ b u,b ≠ e->h.get? b=some u->h'.get? b=some u) (heo:∃ u,h'.get? e=some u):Un fs ex H (upd H x o) h h':=by
 have hx:∀ b,H b=none->b ≠ x:=fun b n z=>by subst z; rw [n] at mu; exact mu
 have hb:∀ b,H b=none->b ≠ e:=fun b n z=>by
  subst z;rcases he with r | r
  ·exact hx b n r
  ·rw [n] at r; cases r
 have hm:∀ b u,H b=some u->¬ Mut (some u)->b ≠ x:=fun b u q nm z=>by subst z; rw [q] at mu; exact nm mu
 refine ⟨fun b u q n _ _=>k b u (hb b n) q,fun b u q n _ _=>⟨u.slots,k b u (hb b n) q⟩,fun b u q n _=>by rw [Ae (hx b n)]; exact n,fun b u q _=>?_,
  fun b xs q=>by rw [Ae (hm b _ q fun z=>z)]; exact q,fun b u xs q=>by rw [Ae (hm b _ q fun z=>z)]; exact q,fun b ps q=>⟨#[],by rw [Ae (hm b _ q fun z=>z),q]; simp⟩⟩
 by_cases hbe:b=e
 ·subst hbe; exact heo
 ·exact ⟨u,k b u hbe q⟩
end
def trk (h:Heap) (H:Hp):List Addr:=(ai h.objs.size).filter fun a=>(H a).isSome
def Le (h:Heap) (H:Hp):Heap:=PySem.W.hideAll h (trk h H)
theorem Pt (h:Heap) (H:Hp):(Le h H).objs.size=h.objs.size:=PySem.W.hideAll_size _ _
theorem R4 {h:Heap} {H:Hp} {b:Addr} {o:Obj} (e:h.get? b=some o) (n:H b=none):(Le h H).get? b=some o:=
 PySem.W.hideAll_get _ e fun hm=>by
  have q:(H b).isSome=true:=(aJ.mp hm).2;rw [n] at q; simp at q
theorem S3 {h:Heap} {H:Hp} {b:Addr} {o:Obj} (e:(Le h H).get? b=some o):h.get? b=some o/\H b=none:=by
 have e':h.get? b=some o:=PySem.W.of_hideAll (trk h H) e;exists e';cases q:H b with
 | none=>rfl
 | some x=>
  have hm:b ∈ trk h H:=aJ.mpr ⟨ba.mpr (Z5 e'),by simp [q]⟩;have z:(Le h H).get? b=none:=PySem.W.hideAll_none (trk h H) hm;rw [z] at e; cases e
structure Mod (K:Z1) (mg:Str->Option Value) (base:Heap):Prop where
 kin:K.In base
 glob:base.Ns mainGlobals mg
 blt:∃ mb,base.Ns builtinsNs mb/\∀ x:Str,x ≠ "__name__"->mb x=bootBuiltins x
 nolimit:base.NoLimit
structure Cx where
 prog:Program
 w:World
 K:Z1
 mg:Str->Option Value
 base:Heap
 A:Around
 N:List Str
 s₀:Shared
 H₀:Hp
 env:Env
 outer:List Env
 stack:List Env
 ex:List Addr
 fn:Str->Bool
 calm:Bool
 pn:List (Addr × Obj)
 xe:Value->Shared->Prop
def RB (l:List Env):List Addr:=l.filterMap (·.frame)
abbrev Cx.fs (X:Cx):List Addr:=RB X.outer
def Vis (sc:Scope) (x:Str):Prop:=sc.names.lookup x=some .local\/sc.names.lookup x=some .cell\/sc.names.lookup x=some .free
def Wd (sc:Scope) (x:Str):Prop:=sc.names.lookup x=some .local\/sc.names.lookup x=some .cell
def Look (env:Env) (h:Heap) (m:Str->Option Value) (x:Str) (u:Value):Prop:=
 (env.kindOf x=some .local/\m x=some u)\/((env.kindOf x=some .cell\/env.kindOf x=some .free)/\∃ c,env.cells.lookup x=some c/\h.IsCell c (some u))
structure Cx.Ok (X:Cx):Prop where
 mod:Mod X.K X.mg X.base
 kind:X.env.scope.kind=.function
 glob:X.env.globals=mainGlobals
 blt:X.env.builtins=builtinsNs
 above:X.s₀.heap.objs.size<=X.env.locals
 inj:∀ x y c,X.env.cells.lookup x=some c->X.env.cells.lookup y=some c->x=y
 has:∀ x,(X.env.kindOf x=some .cell\/X.env.kindOf x=some .free)->∃ c,X.env.cells.lookup x=some c
 cab:∀ x c,X.fn x=true->X.env.cells.lookup x=some c->X.s₀.heap.objs.size<=c
 hd:X.calm=true->X.A.handled=none
 frames:X.A.frames=some X.stack
 stk:X.stack=X.outer\/(X.stack=X.env :: X.outer/\X.env.frame=some X.env.locals)
 exf:∀ b ∈ X.ex,b ≠ X.env.locals/\∀ x c,X.env.cells.lookup x=some c->c ≠ b
 bs:∀ b o,X.base.get? b=some o->X.s₀.heap.get? b=some o/\X.H₀ b=none
 bsz:X.base.objs.size<=X.s₀.heap.objs.size
 noex:∀ b o,X.base.get? b=some o->b ∉ X.ex
 exfs:∀ b ∈ X.ex,b ∉ X.fs
 funs:X.s₀.heap.FunFrames X.base X.outer
 frf:∀ b ∈ X.fs,X.H₀ b=none
structure Aw (X:Cx) (pins:List (Addr × Obj)) (σ:List (Option V)) (H:Hp) (s:Shared):Prop where
 ok:X.Ok
 os:s.os=X.s₀.os
 bare:AllBare s.gens
 base:Un X.fs X.ex X.H₀ H X.s₀.heap s.heap
 loc:∃ m,s.heap.Ns X.env.locals m/\∀ (i:Nat) (x:Str) (v:V),X.N[i]? = some x->σ[i]? = some (some v)->Vis X.env.scope x->∃ u,AG v u/\Look X.env s.heap m x u
 cell:∀ x c,X.env.cells.lookup x=some c->∃ v,s.heap.IsCell c v
 free:H X.env.locals=none
 freeC:∀ x c,X.env.cells.lookup x=some c->H c=none
 pin:∀ p ∈ X.pn ++ pins,s.heap.get? p.1=some p.2/\H p.1=none/\p.1 ≠ X.env.locals/\p.1 ∉ X.fs/\∀ v,p.2.data ≠ .cell v
 hok:F9 X.prog X.w H s.heap
 len:σ.length=X.N.length
section
variable {X:Cx} {pins:List (Addr × Obj)} {σ:List (Option V)} {H H':Hp} {s:Shared} {h':Heap}
theorem Cx.Ok.nofr (ok:X.Ok) {b:Addr} {o:Obj} (e:X.base.get? b=some o):b ∉ X.fs:=fun hb=>by
 have:=(ok.funs.mem hb).1;rw [e] at this; cases this
theorem Aw.bs (I:Aw X pins σ H s):∀ b o,X.base.get? b=some o->s.heap.get? b=some o/\H b=none:=fun b o e=>
 ⟨I.base.keep b o (I.ok.bs b o e).1 (I.ok.bs b o e).2 (I.ok.nofr e) (I.ok.noex b o e),I.base.free b o (I.ok.bs b o e).1 (I.ok.bs b o e).2 (I.ok.noex b o e)⟩
theorem Aw.bk (I:Aw X pins σ H s):∀ b o,X.base.get? b=some o->s.heap.get? b=some o:=fun b o e=>(I.bs b o e).1
theorem Aw.mod (I:Aw X pins σ H s):Mod X.K X.mg X.base:=I.ok.mod
theorem Aw.kIn (I:Aw X pins σ H s):X.K.In s.heap:=I.ok.mod.kin.keeps I.bk
theorem Aw.lt (I:Aw X pins σ H s):X.env.locals < s.heap.objs.size:=let ⟨_,hn,_⟩:=I.loc; hn.lt
theorem Aw.sz (I:Aw X pins σ H s):X.s₀.heap.objs.size<=s.heap.objs.size:=ZV I.ok.above (cF I.lt)
theorem Aw.nofs (I:Aw X pins σ H s) {a:Addr} (h:s.heap.objs.size<=a):a ∉ X.fs:=fun hb=>by
 obtain ⟨_,o,ho,_⟩:=I.ok.funs.mem hb;exact absurd (ZK (Z5 ho) (ZV I.sz h)) (ay _)
theorem Aw.cne (I:Aw X pins σ H s):∀ x c,X.env.cells.lookup x=some c->c ≠ X.env.locals:=fun x c e z=>by
 obtain ⟨v,o,ho,hd⟩:=I.cell x c e;obtain ⟨m,⟨o',es,ep,HZ,Lf,_⟩,_⟩:=I.loc;rw [z,HZ] at ho; cases ho; rw [Lf] at hd; cases hd
theorem Aw.funs (I:Aw X pins σ H s):s.heap.FunFrames X.base X.outer:=by
 have all:∀ (l:List Env),(∀ b ∈ RB l,b ∈ X.fs)->X.s₀.heap.FunFrames X.base l->s.heap.FunFrames X.base l:=by
  intro l;induction l with
  | nil=>intro _ _; trivial
  | cons env r ih=>
   intro hs hl;obtain ⟨hk,⟨L,o,hf,hn,ho,hd⟩,hr⟩:=hl;have hL:L ∈ X.fs:=hs L (by unfold RB; rw [bD,hf]; exact ZU);obtain ⟨sl,e⟩:=I.base.slot L o ho (I.ok.frf L hL) hL fun z=>I.ok.exfs L z hL
   exact ⟨hk,⟨L,_,hf,hn,e,hd⟩,ih (fun b hb=>hs b (by unfold RB; rw [bD,hf]; exact ZO _ hb)) hr⟩
 exact all X.outer (fun _ hb=>hb) I.ok.funs
theorem Aw.stack (I:Aw X pins σ H s):s.heap.FunFrames X.base X.stack:=by
 rcases I.ok.stk with e | ⟨e,hf⟩
 ·rw [e]; exact I.funs
 ·rw [e];obtain ⟨m,hn,_⟩:=I.loc;refine .cons (by rw [I.ok.kind]; decide) hf hn ?_ I.funs;exact Heap.get?_none_of_le (ZV I.ok.bsz I.ok.above)
theorem Aw.stkSub (I:Aw X pins σ H s):∀ b ∈ RB X.stack,b ∈ X.env.locals :: X.fs:=fun b hb=>by
 rcases I.ok.stk with e | ⟨e,hf⟩
 ·rw [e] at hb; exact ZO _ hb
 ·rw [e] at hb;unfold RB at hb;rw [bD,hf] at hb;exact hb
theorem Aw.stkFree (I:Aw X pins σ H s):∀ b ∈ RB X.stack,H b=none:=fun b hb=>by
 rcases Z3.mp (I.stkSub b hb) with e | hb
 ·rw [e]; exact I.free
 ·obtain ⟨_,o,ho,_⟩:=I.ok.funs.mem hb;exact I.base.free b o ho (I.ok.frf b hb) fun z=>I.ok.exfs b z hb
theorem Aw.step {g':Array GenState} {t':Nat} {d':Drawn} {ch:List Addr} (I:Aw X pins σ H s)
  (hch:∀ b ∈ ch,(b ∈ X.ex\/X.s₀.heap.objs.size<=b)/\b ≠ X.env.locals/\(∀ x c,X.env.cells.lookup x=some c->c ≠ b)/\∀ p ∈ X.pn ++ pins,p.1 ≠ b)
  (keep:∀ b o,b ≠ X.env.locals->b ∉ X.fs->b ∉ ch->s.heap.get? b=some o->H b=none->h'.get? b=some o)
  (slot:∀ b o,b ≠ X.env.locals->b ∈ X.fs->b ∉ ch->s.heap.get? b=some o->H b=none->∃ sl,h'.get? b=some { o with slots:=sl }) (free:∀ b o,b ∉ ch->s.heap.get? b=some o->H b=none->H' b=none)
  (there:∀ b o,b ∉ ch->s.heap.get? b=some o->∃ o',h'.get? b=some o')
  (tups:∀ b xs,H b=some (.tup xs)->H' b=some (.tup xs)) (frzs:∀ b o u,H b=some (.frz o u)->H' b=some (.frz o u)) (tbls:∀ b ps,H b=some (.tbl ps)->∃ more,H' b=some (.tbl (ps ++ more)))
  (ns:∀ m,s.heap.Ns X.env.locals m->h'.Ns X.env.locals m) (hok:F9 X.prog X.w H' h') (hg:AllBare g') :
  Aw X pins σ H' { s with heap:=h',gens:=g',drawn:=d',toks:=t' }:=by
 have neL:∀ b o,X.s₀.heap.get? b=some o->b ≠ X.env.locals:=fun b o e=>ZE (ZK (Z5 e) I.ok.above)
 have neC:∀ b o,X.s₀.heap.get? b=some o->b ∉ X.ex->b ∉ ch:=fun b o e hx hb=>by
  rcases (hch b hb).1 with z | z
  ·exact hx z
  ·exact absurd (ZK (Z5 e) z) (ay _)
 have cellK:∀ x c,X.env.cells.lookup x=some c->∀ v,s.heap.IsCell c v->h'.IsCell c v:=fun x c e v ⟨o,ho,hd⟩=>by
  have nch:c ∉ ch:=fun z=>(hch c z).2.2.1 x c e rfl
  by_cases hc:c ∈ X.fs
  ·obtain ⟨sl,q⟩:=slot c o (I.cne x c e) hc nch ho (I.freeC x c e);exact ⟨_,q,hd⟩
  ·exact ⟨o,keep c o (I.cne x c e) hc nch ho (I.freeC x c e),hd⟩
 refine ⟨I.ok,I.os,hg,⟨fun b o e n hb hx=>?_,fun b o e n hb hx=>?_,fun b o e n hx=>?_,fun b o e hx=>?_,fun b xs e=>tups b xs (I.base.tups b xs e),fun b o xs e=>frzs b o xs (I.base.frzs b o xs e),fun b ps e=>?_⟩,?_,fun x c e=>?_,?_,fun x c e=>?_,fun p hp=>?_,hok,I.len⟩
 ·exact keep b o (neL b o e) hb (neC b o e hx) (I.base.keep b o e n hb hx) (I.base.free b o e n hx)
 ·obtain ⟨sl,e1⟩:=I.base.slot b o e n hb hx;obtain ⟨Xx,e2⟩:=slot b _ (neL b o e) hb (neC b o e hx) e1 (I.base.free b o e n hx);exact ⟨Xx,e2⟩
 ·obtain ⟨o',e1⟩:=I.base.there b o e hx;exact free b o' (neC b o e hx) e1 (I.base.free b o e n hx)
 ·obtain ⟨o',e1⟩:=I.base.there b o e hx;exact there b o' (neC b o e hx) e1
 ·obtain ⟨m1,e1⟩:=I.base.tbls b ps e;obtain ⟨m2,e2⟩:=tbls b _ e1;exact ⟨m1 ++ m2,by rw [e2,Array.append_assoc]⟩
 ·obtain ⟨m,hn,hl⟩:=I.loc;refine ⟨m,ns m hn,fun i x v e1 e2 e3=>?_⟩;obtain ⟨u,r,l⟩:=hl i x v e1 e2 e3;exists u,r;rcases l with l | ⟨k,c,e,z⟩
  ·exact .inl l
  ·exact .inr ⟨k,c,e,cellK x c e _ z⟩
 ·obtain ⟨v,z⟩:=I.cell x c e;exact ⟨v,cellK x c e v z⟩
 ·obtain ⟨m,⟨o,_,_,ho,_⟩,_⟩:=I.loc;exact free _ o (fun z=>(hch _ z).2.1 rfl) ho I.free
 ·obtain ⟨v,o,ho,hd⟩:=I.cell x c e;exact free c o (fun z=>(hch c z).2.2.1 x c e rfl) ho (I.freeC x c e)
 ·obtain ⟨e,n,ne,nf,d⟩:=I.pin p hp;have nch:p.1 ∉ ch:=fun z=>(hch p.1 z).2.2.2 p hp rfl
  exact ⟨keep p.1 p.2 ne nf nch e n,free p.1 p.2 nch e n,ne,nf,d⟩
theorem Aw.un {t':Nat} (I:Aw X pins σ H s) (u:Un X.fs [] H H' s.heap h') (hok:F9 X.prog X.w H' h'):Aw X pins σ H' { s with heap:=h',toks:=t' }:=by
 obtain ⟨m,⟨o,es,ep,ho,r⟩,_⟩:=id I.loc;obtain ⟨sl,hL⟩:=u.any ho I.free (by simp);exact I.step (g':=s.gens) (d':=s.drawn) (ch:=[]) (fun _ z=>nomatch z) (fun b o _ hb _ e n=>u.keep b o e n hb (by simp)) (fun b o _ hb _ e n=>u.slot b o e n hb (by simp)) (fun b o _ e n=>u.free b o e n (by simp)) (fun b o _ e=>u.there b o e (by simp)) u.tups u.frzs u.tbls (fun m' hm=>by
  obtain ⟨o',Yi,Up,HZ,r'⟩:=hm;rw [ho] at HZ; cases HZ;exact ⟨_,Yi,Up,hL,r'⟩) hok I.bare
theorem Aw.call {g':Array GenState} {t':Nat} {d':Drawn} {ch:List Addr} (I:Aw X pins σ H s) (u:Un (RB X.stack) ch H H' s.heap h') (hok:F9 X.prog X.w H' h') (hg:AllBare g')
  (hch:∀ b ∈ ch,(b ∈ X.ex\/X.s₀.heap.objs.size<=b)/\b ≠ X.env.locals/\(∀ x c,X.env.cells.lookup x=some c->c ≠ b)/\∀ p ∈ X.pn ++ pins,p.1 ≠ b) :
  Aw X pins σ H' { s with heap:=h',gens:=g',drawn:=d',toks:=t' }:=by
 obtain ⟨m,⟨o,es,ep,ho,r⟩,_⟩:=id I.loc;obtain ⟨sl,hL⟩:=u.any ho I.free fun z=>(hch _ z).2.1 rfl
 exact I.step (ch:=ch) hch (fun b o hL hb hc e n=>u.keep b o e n (fun z=>(Z3.mp (I.stkSub b z)).elim hL hb) hc) (fun b o _ _ hc e n=>u.any e n hc) (fun b o hc e n=>u.free b o e n hc) (fun b o hc e=>u.there b o e hc) u.tups u.frzs u.tbls (fun m' hm=>by
  obtain ⟨o',Yi,Up,HZ,r'⟩:=hm;rw [ho] at HZ; cases HZ;exact ⟨_,Yi,Up,hL,r'⟩) hok hg
theorem Aw.turned {t':Nat} {it:Addr} (I:Aw X pins σ H s) (k:∀ b o,b ≠ it->s.heap.get? b=some o->h'.get? b=some o) (hn:H it=none) (hL:it ≠ X.env.locals)
  (h1:it ∈ X.ex\/X.s₀.heap.objs.size<=it) (h2:∀ x c,X.env.cells.lookup x=some c->c ≠ it) (h3:∀ p ∈ X.pn ++ pins,p.1 ≠ it):Aw X pins σ H { s with heap:=h',toks:=t' }:=by
 have nit:∀ b u,H b=some u->b ≠ it:=fun b u e z=>by rw [z,hn] at e; cases e
 refine I.step (g':=s.gens) (d':=s.drawn) (ch:=[it]) (fun b hb=>?_) (fun b o _ _ hc e _=>k b o (fun z=>hc (by simp [z])) e) (fun b o _ _ hc e _=>⟨o.slots,k b o (fun z=>hc (by simp [z])) e⟩) (fun _ _ _ _ n=>n)
  (fun b o hc e=>⟨o,k b o (fun z=>hc (by simp [z])) e⟩) (fun _ _ e=>e) (fun _ _ _ e=>e) (fun b ps e=>⟨#[],by rw [e]; simp⟩) (fun m hm=>?_) (fun b u e=>?_) I.bare
 ·have e:b=it:=by simpa using hb
  subst e;exact ⟨h1,hL,h2,h3⟩
 ·obtain ⟨o,es,ep,ho,r⟩:=hm;exact ⟨o,es,ep,k _ o (Ne.symm hL) ho,r⟩
 ·refine (I.hok b u e).stay (fun c v hc q=>k c v ?_ q) (fun _ q=>q) fun _ _ q=>q
  rcases hc with z | z
  ·rw [z]; exact nit b u e
  ·exact nit c _ z
theorem Aw.tok (I:Aw X pins σ H s) (t:Nat):Aw X pins σ H { s with toks:=t }:=I.un (h':=s.heap) (t':=t) Un.refl I.hok
theorem Aw.kept {t':Nat} (I:Aw X pins σ H s) (k:∀ b u,s.heap.get? b=some u->h'.get? b=some u):Aw X pins σ H { s with heap:=h',toks:=t' }:=I.un (Un.kept k) (I.hok.kept k)
theorem Aw.laid {a:Addr} {o:HO} {t':Nat} (I:Aw X pins σ H s) (k:∀ b u,s.heap.get? b=some u->h'.get? b=some u) (hp:s.heap.objs.size<=a) (new:AM X.prog X.w (upd H a o) h' a o) :
  Aw X pins σ (upd H a o) { s with heap:=h',toks:=t' }:=I.un (Un.laid k hp (I.hok.fresh hp)) (I.hok.laid k hp new)
theorem Aw.write {x e:Addr} {o:HO} {t':Nat} (I:Aw X pins σ H s) (mu:Mut (H x)) (he:e=x\/H e=some (.own x)) (k:∀ b u,b ≠ e->s.heap.get? b=some u->h'.get? b=some u) (heo:∃ u,h'.get? e=some u)
  (new:AM X.prog X.w (upd H x o) h' x o):Aw X pins σ (upd H x o) { s with heap:=h',toks:=t' }:=I.un (Un.write mu he k heo) (I.hok.write mu he k heo new)
theorem Aw.pins_of {TQ:List (Addr × Obj)} (I:Aw X pins σ H s) (h:∀ p ∈ TQ,s.heap.get? p.1=some p.2/\H p.1=none/\p.1 ≠ X.env.locals/\p.1 ∉ X.fs/\∀ v,p.2.data ≠ .cell v):Aw X TQ σ H s:=
 ⟨I.ok,I.os,I.bare,I.base,I.loc,I.cell,I.free,I.freeC,fun p hp=>(ZM.mp hp).elim (fun z=>I.pin p (av _ z)) (h p),I.hok,I.len⟩
theorem II {N:List Str} (hN:N.Nodup) {i j:Nat} {x:Str} (a:N[i]? = some x) (b:N[j]? = some x):i=j:=by
 obtain ⟨h1,e1⟩:=ZA.mp a;obtain ⟨h2,e2⟩:=ZA.mp b;exact (eC hN).mp (e1.trans e2.symm)
theorem Gm {M:Model} {A:Around} {E:Value->Shared->Prop} {i:Nat} {x:Str} {v:V} {u:Value} {Q:Unit->Shared->Prop} (I:Aw X pins σ H s) (hN:X.N.Nodup) (hi:X.N[i]? = some x) (hx:Wd X.env.scope x) (r:AG v u)
  (h:∀ s',Aw X pins (σ.set i (some v)) H s'->(∃ a,Heap.SameBut a s.heap s'.heap/\(a=X.env.locals\/X.env.cells.lookup x=some a))->Q () s') (hf:X.fn x=true\/X.env.scope.names.lookup x=some .local:=by first | exact .inl rfl | exact .inr rfl | assumption):wpAny M A (storeName X.env x u) Q E s:=by
 obtain ⟨m,hn,hl⟩:=id I.loc;have hcls:(X.env.scope.kind == .class || (X.env.scope.kind == .module && X.env.locals != X.env.globals))=false:=by rw [I.ok.kind]; rfl
 have hiσ:i < σ.length:=by rw [I.len]; exact (ZA.mp hi).1
 have cne:=I.cne;have tracked:∀ {a:Addr} {h':Heap},(∃ o,s.heap.get? a=some o/\H a=none)->Heap.SameBut a s.heap h'->F9 X.prog X.w H h':=fun {a h'} ha hs b ob e=>by
  obtain ⟨_,_,hfree⟩:=ha;refine (I.hok b ob e).stay (fun c w' hc q=>(hs.2 c ?_).trans q) (fun _ q=>q) fun _ _ q=>q
  rintro rfl;rcases hc with rfl | hc
  ·rw [hfree] at e; cases e
  ·rw [hfree] at hc; cases hc
 rcases hx with hk | hk
 ·refine wpAny_storeName_local hk hn (fun h' Yc hs=>?_) hcls;obtain ⟨oL,_,_,hoL,_⟩:=id hn;refine h _ ⟨I.ok,I.os,I.bare,⟨fun b o e n hb hx=>?_,fun b o e n hb hx=>?_,I.base.free,fun b o e hx=>?_,I.base.tups,I.base.frzs,I.base.tbls⟩,⟨_,Yc,fun j y v' e1 e2 e3=>?_⟩,fun y c e=>?_,I.free,I.freeC,fun p hp=>?_,tracked ⟨oL,hoL,I.free⟩ hs,by simpa using I.len⟩ ⟨_,hs,.inl rfl⟩
  ·exact (hs.2 b (ZE (ZK (Z5 e) I.ok.above))).trans (I.base.keep b o e n hb hx)
  ·obtain ⟨sl,e1⟩:=I.base.slot b o e n hb hx;exact ⟨sl,(hs.2 b (ZE (ZK (Z5 e) I.ok.above))).trans e1⟩
  ·obtain ⟨o',e1⟩:=I.base.there b o e hx;exact ⟨o',(hs.2 b (ZE (ZK (Z5 e) I.ok.above))).trans e1⟩
  ·by_cases hj:j=i
   ·subst hj;rw [hi] at e1; cases e1;rw [df hiσ] at e2;cases e2
    exact ⟨u,r,.inl ⟨hk,by simp⟩⟩
   ·rw [dv (Ne.symm hj)] at e2;obtain ⟨u',r',q⟩:=hl j y v' e1 e2 e3;exists u',r';rcases q with ⟨k,e⟩ | ⟨k,c,e,z⟩
    ·refine .inl ⟨k,?_⟩;have:y ≠ x:=fun e=>hj (II hN e1 (e ▸ hi))
     simp [this,e]
    ·exact .inr ⟨k,c,e,z.sameBut hs (cne y c e)⟩
  ·obtain ⟨w',z⟩:=I.cell y c e;exact ⟨w',z.sameBut hs (cne y c e)⟩
  ·obtain ⟨e,n,ne,nf,d⟩:=I.pin p hp;exact ⟨(hs.2 p.1 ne).trans e,n,ne,nf,d⟩
 ·have hfn:X.fn x=true:=by
   rcases hf with z | z
   ·exact z
   ·rw [z] at hk; cases hk
  obtain ⟨c,hc⟩:=I.ok.has x (.inl hk);obtain ⟨w',z⟩:=I.cell x c hc;refine wpAny_storeName_cell I.ok.kind hk hc z (fun h' Kl hs=>?_);obtain ⟨oc,hoc,hocd⟩:=id z;refine h { s with heap:=h' } ⟨I.ok,I.os,I.bare,⟨fun b o e n hb hx=>?_,fun b o e n hb hx=>?_,I.base.free,fun b o e hx=>?_,I.base.tups,I.base.frzs,I.base.tbls⟩,⟨m,hn.sameBut hs (Ne.symm (cne x c hc)),fun j y v' e1 e2 e3=>?_⟩,fun y c' e=>?_,I.free,I.freeC,fun p hp=>?_,tracked ⟨oc,hoc,I.freeC x c hc⟩ hs,by simpa using I.len⟩ ⟨c,hs,.inr hc⟩
  ·exact (hs.2 b (ZE (ZK (Z5 e) (I.ok.cab x c hfn hc)))).trans (I.base.keep b o e n hb hx)
  ·obtain ⟨sl,e1⟩:=I.base.slot b o e n hb hx;exact ⟨sl,(hs.2 b (ZE (ZK (Z5 e) (I.ok.cab x c hfn hc)))).trans e1⟩
  ·obtain ⟨o',e1⟩:=I.base.there b o e hx;exact ⟨o',(hs.2 b (ZE (ZK (Z5 e) (I.ok.cab x c hfn hc)))).trans e1⟩
  ·by_cases hj:j=i
   ·subst hj;rw [hi] at e1; cases e1;rw [df hiσ] at e2;cases e2
    exact ⟨u,r,.inr ⟨.inl hk,c,hc,Kl⟩⟩
   ·rw [dv (Ne.symm hj)] at e2;obtain ⟨u',r',q⟩:=hl j y v' e1 e2 e3;exists u',r';rcases q with q | ⟨k,c',e,z'⟩
    ·exact .inl q
    ·refine .inr ⟨k,c',e,z'.sameBut hs ?_⟩;rintro rfl;exact hj (II hN e1 (I.ok.inj _ _ _ e hc ▸ hi))
  ·by_cases hcc:c'=c
   ·subst hcc; exact ⟨_,Kl⟩
   ·obtain ⟨w2,z2⟩:=I.cell y c' e;exact ⟨w2,z2.sameBut hs hcc⟩
  ·obtain ⟨e,n,ne,nf,d⟩:=I.pin p hp;refine ⟨(hs.2 p.1 ?_).trans e,n,ne,nf,d⟩;intro q;rw [q,hoc] at e;have q':oc=p.2:=ZR.inj e;exact d w' (by rw [<-q']; exact hocd)
theorem L7 {M:Model} {A:Around} {E:Value->Shared->Prop} {i:Nat} {x:Str} {v:V} {u:Value} {Q:Unit->Shared->Prop} (I:Aw X pins σ H s) (hN:X.N.Nodup) (hi:X.N[i]? = some x) (hx:Wd X.env.scope x) (r:AG v u)
  (h:∀ s',Aw X pins (σ.set i (some v)) H s'->Q () s') (hf:X.fn x=true\/X.env.scope.names.lookup x=some .local:=by first | exact .inl rfl | exact .inr rfl | assumption):wpAny M A (storeName X.env x u) Q E s:=
 Gm I hN hi hx r (fun s' I' _=>h s' I') hf
theorem Aw.call' {s':Shared} {ch:List Addr} (I:Aw X pins σ H s) (ho:s'.os=s.os) (u:Un (RB X.stack) ch H H' s.heap s'.heap) (hok:F9 X.prog X.w H' s'.heap) (hg:AllBare s'.gens)
  (hch:∀ b ∈ ch,(b ∈ X.ex\/X.s₀.heap.objs.size<=b)/\b ≠ X.env.locals/\(∀ x c,X.env.cells.lookup x=some c->c ≠ b)/\∀ p ∈ X.pn ++ pins,p.1 ≠ b):Aw X pins σ H' s':=by
 obtain ⟨h',g',d',t',o'⟩:=s';have e:o'=s.os:=ho;subst e;exact I.call (g':=g') (t':=t') (d':=d') u hok hg hch
end
abbrev XK:=Value->Option Addr->Hp->Prop
abbrev St:=List (Option V)
abbrev VK:=V->Hp->Prop
abbrev TE:=St->Hp->VK->Prop
abbrev TT:=St->Hp->(Bool->Hp->Prop)->Prop
abbrev TA:=St->Hp->(List V->Hp->Prop)->Prop
structure EV where
 nx:St->Hp->Prop
 rt:VK
 bk:St->Hp->Prop:=fun _ _=>False
 ct:St->Hp->Prop:=fun _ _=>False
abbrev TS:=EV->St->Hp->Prop
def EP (X:Cx) (pins:List (Addr × Obj)) (σ:St) (Q:VK) (u:Value) (s':Shared):Prop:=∃ v H',Aw X pins σ H' s'/\AG v u/\Q v H'
def TP (X:Cx) (pins:List (Addr × Obj)) (σ:St) (Q:Bool->Hp->Prop) (b:Bool) (s':Shared):Prop:=∃ H',Aw X pins σ H' s'/\Q b H'
def AP (X:Cx) (pins:List (Addr × Obj)) (σ:St) (Q:List V->Hp->Prop) (us:List Value) (s':Shared):Prop:=∃ vs H',Aw X pins σ H' s'/\AD vs us/\Q vs H'
def SP (X:Cx) (pins:List (Addr × Obj)) (D:EV) (f:Flow) (s':Shared):Prop:=
 match f with
 | .next=>∃ A3 H',Aw X pins A3 H' s'/\D.nx A3 H'
 | .brk=>∃ A3 H',Aw X pins A3 H' s'/\D.bk A3 H'
 | .cont=>∃ A3 H',Aw X pins A3 H' s'/\D.ct A3 H'
 | .ret u=>∃ v A3 H',Aw X pins A3 H' s'/\AG v u/\D.rt v H'
def PE (X:Cx) (e:Expr) (t:TE):Prop:=
 ∀ ⦃pins:List (Addr × Obj)⦄ (s:Shared) (σ:St) (H:Hp) (Q:VK),Aw X pins σ H s->t σ H Q->wpAny (model X.prog X.w) X.A (eval e X.env) (EP X pins σ Q) X.xe s
def PT (X:Cx) (e:Expr) (t:TT):Prop:=
 ∀ ⦃pins:List (Addr × Obj)⦄ (s:Shared) (σ:St) (H:Hp) (Q:Bool->Hp->Prop),Aw X pins σ H s->t σ H Q->wpAny (model X.prog X.w) X.A (isTrue e X.env (eval e X.env)) (TP X pins σ Q) X.xe s
def PW (X:Cx) (e:Expr) (t:TT):Prop:=
 ∀ ⦃whole:Sem Value⦄ (pins:List (Addr × Obj)) (s:Shared) (σ:St) (H:Hp) (Q:Bool->Hp->Prop),Aw X pins σ H s->t σ H Q->wpAny (model X.prog X.w) X.A (isTrue e X.env whole) (TP X pins σ Q) X.xe s
theorem PW.pt {X:Cx} {e:Expr} {t:TT} (h:PW X e t):PT X e t:=@h _
def PA (X:Cx) (es:List Expr) (t:TA):Prop:=
 ∀ ⦃pos:Pos⦄ (pins:List (Addr × Obj)) (s:Shared) (σ:St) (H:Hp) (Q:List V->Hp->Prop),Aw X pins σ H s->t σ H Q->wpAny (model X.prog X.w) X.A (spliced (backTo pos (starEach es X.env))) (AP X pins σ Q) X.xe s
def PS (X:Cx) (st:Stmt) (t:TS):Prop:=
 ∀ ⦃pins:List (Addr × Obj)⦄ (s:Shared) (σ:St) (H:Hp) (D:EV),Aw X pins σ H s->t D σ H->wpAny (model X.prog X.w) X.A (exec st X.env) (SP X pins D) X.xe s
def Mt (X:Cx) (st:List Stmt) (t:TS):Prop:=
 ∀ ⦃pins:List (Addr × Obj)⦄ (s:Shared) (σ:St) (H:Hp) (D:EV),Aw X pins σ H s->t D σ H->wpAny (model X.prog X.w) X.A (execs st X.env) (SP X pins D) X.xe s
theorem Bx {α:Type} {t:Sem α} {Q Q':α->Shared->Prop} {M:Model} {A:Around} {E:Value->Shared->Prop} {s:Shared} (h:wpAny M A t Q E s) (hQ:∀ a s,Q a s->Q' a s):wpAny M A t Q' E s:=wpAny_mono h hQ fun _ _ x=>x
section
variable {X:Cx}
def Sf (i:Nat):TE:=fun σ H Q=>∃ v,σ[i]? = some (some v)/\Q v H
def tC (v:V):TE:=fun _ H Q=>Q v H
theorem UT {i:Nat} {x:Str} {pos:Pos} (hN:X.N[i]? = some x) (hv:Vis X.env.scope x) (hd:(x == ("__debug__":Str))=false:=by decide) (hcd:(x == ("__classdict__":Str))=false:=by decide):PE X (.Name x pos) (Sf i):=by
 intro pins s σ H Q I h;obtain ⟨v,e,h⟩:=h;obtain ⟨m,hn,hl⟩:=I.loc;obtain ⟨u,r,l⟩:=hl i x v hN e hv;have fin:EP X pins σ Q u s:=⟨v,H,I,r,h⟩
 rcases l with ⟨hk,hm⟩ | ⟨hk,c,hc,hcell⟩
 ·exact wpAny_Name (wpAny_loadName_local I.ok.kind hk hn hm fin) hd
 ·rcases hk with hk | hk
  ·exact wpAny_Name (wpAny_loadName_cell I.ok.kind hk hc hcell fin) hd
  ·exact wpAny_Name (wpAny_loadName_free I.ok.kind hk hc hcell fin hcd) hd
theorem Af {i j pos}:PE X (.Constant (.int i) j pos) (tC (.int i)):=fun _ _ _ H _ I h=>wpAny_Constant_int ⟨.int i,H,I.tok _,⟨_,rfl⟩,h⟩
theorem Du {b j pos}:PE X (.Constant (.bool b) j pos) (tC (.bl b)):=fun _ _ _ H _ I h=>Constant_bool ⟨.bl b,H,I,rfl,h⟩
theorem QV {j pos}:PE X (.Constant .none j pos) (tC .non):=fun _ _ _ H _ I h=>Constant_none ⟨.non,H,I,rfl,h⟩
theorem Fy {x j pos}:PE X (.Constant (.str x) j pos) (tC (.str x)):=fun _ _ _ H _ I h=>Calls.Constant_str ⟨.str x,H,I.tok _,⟨_,rfl⟩,h⟩
def Gl (X:Cx) (x:Str):Prop:=X.env.kindOf x=some .globalImplicit
theorem Od {E:Value->Shared->Prop} {pins:List (Addr × Obj)} {s:Shared} {σ:St} {H:Hp} {x:Str} {u:Value} {pos:Pos} {Q:Value->Shared->Prop} (I:Aw X pins σ H s) (hg:Gl X x) (hm:X.mg x=some u) (h:Q u s)
  (hd:(x == ("__debug__":Str))=false:=by decide):wpAny (model X.prog X.w) X.A (eval (.Name x pos) X.env) Q E s:=
 Calls.Name_function_global I.ok.kind hg (Calls.loadGlobal_global (by rw [I.ok.glob]; exact I.mod.glob.keeps I.bk) hm h) hd
theorem G3 {E:Value->Shared->Prop} {pins:List (Addr × Obj)} {s:Shared} {σ:St} {H:Hp} {x:Str} {u:Value} {pos:Pos} {Q:Value->Shared->Prop} (I:Aw X pins σ H s) (hg:Gl X x) (hm:X.mg x=none) (hv:bootBuiltins x=some u) (h:Q u s)
  (hn:x ≠ "__name__":=by decide) (hd:(x == ("__debug__":Str))=false:=by decide):wpAny (model X.prog X.w) X.A (eval (.Name x pos) X.env) Q E s:=by
 obtain ⟨mb,h1,h2⟩:=I.mod.blt;exact Calls.Name_function_global I.ok.kind hg (Calls.loadGlobal_builtin (by rw [I.ok.glob]; exact I.mod.glob.keeps I.bk) hm (by rw [I.ok.blt]; exact h1.keeps I.bk) ((h2 x hn).trans hv) h) hd
theorem Sx {x:Str} {v:V} {u:Value} {pos:Pos} (hg:Gl X x) (hm:X.mg x=some u) (r:AG v u) (hd:(x == ("__debug__":Str))=false:=by decide):PE X (.Name x pos) (tC v):=
 fun _ _ _ H _ I h=>Od I hg hm ⟨v,H,I,r,h⟩ hd
theorem BI {x:Str} {v:V} {u:Value} {pos:Pos} (hg:Gl X x) (hm:X.mg x=none) (hv:bootBuiltins x=some u) (r:AG v u) (hn:x ≠ "__name__":=by decide) (hd:(x == ("__debug__":Str))=false:=by decide):PE X (.Name x pos) (tC v):=
 fun _ _ _ H _ I h=>G3 I hg hm hv ⟨v,H,I,r,h⟩ hn hd
variable {a b:Expr} {ta tb:TE} {pos:Pos}
def PC (X:Cx) (op:CmpOp) (a b:Expr) (t:TE):Prop:=
 ∀ ⦃pins:List (Addr × Obj)⦄ (s:Shared) (σ:St) (H:Hp) (Q:VK),Aw X pins σ H s->t σ H Q ->
  wpAny (model X.prog X.w) X.A (eval a X.env) (fun v AU=>wpAny (model X.prog X.w) X.A (eval b X.env) (fun u E9=>wpAny (model X.prog X.w) X.A (compareOp op v u) (EP X pins σ Q) X.xe E9) X.xe AU) X.xe s
theorem LX (b:Expr) {op:CmpOp} (h:op ≠ .In) (h2:op ≠ .NotIn):behindInMarks op b=false:=by
 have e1:(op == CmpOp.In)=false:=by cases op <;> first | rfl | exact absurd rfl h
 have e2:(op == CmpOp.NotIn)=false:=by cases op <;> first | rfl | exact absurd rfl h2
 cases b <;> simp [behindInMarks,e1,e2]
def tIsN (ta:TE):TE:=fun σ H Q=>ta σ H fun x H1=>Q (.bl (decide (x=.non))) H1
def tNotN (ta:TE):TE:=fun σ H Q=>ta σ H fun x H1=>Q (.bl (!decide (x=.non))) H1
theorem AG.none_iff {x:V} {v:Value} (r:AG x v):(v == Value.none)=decide (x=.non):=by
 cases x with
 | non=>cases r; rfl
 | bl _=>cases r; rfl
 | int _=>obtain ⟨t,rfl⟩:=r; rfl
 | str _=>obtain ⟨t,rfl⟩:=r; rfl
 | byt _=>obtain ⟨t,rfl⟩:=r; rfl
 | flt _=>obtain ⟨t,rfl⟩:=r; rfl
 | ref _=>cases r; rfl
 | ty _=>cases r; rfl
theorem MJ {j pos'} (ha:PE X a ta):PC X .Is a (.Constant .none j pos') (tIsN ta):=by
 intro pins s σ H Q I h;refine Bx (ha (pins:=pins) s σ H _ I h) fun v s1 ⟨x,H1,I1,r1,q1⟩=>?_
 exact Constant_none (is_none_gen ⟨.bl _,H1,I1,by rw [r1.none_iff]; rfl,q1⟩)
theorem FP {j pos'} (ha:PE X a ta):PC X .IsNot a (.Constant .none j pos') (tNotN ta):=by
 intro pins s σ H Q I h;refine Bx (ha (pins:=pins) s σ H _ I h) fun v s1 ⟨x,H1,I1,r1,q1⟩=>?_
 exact Constant_none (isnot_none_gen ⟨.bl _,H1,I1,by rw [r1.none_iff]; rfl,q1⟩)
def tB (t:TE):TT:=fun σ H Q=>t σ H fun x H1=>∃ c,x=.bl c/\Q c H1
theorem IE {op:CmpOp} {t:TE} (h:PC X op a b t) (h1:behindInMarks op b=false:=by first | exact LX _ (by decide) (by decide) | rfl):PE X (.Compare a [op] [b] pos) t:=fun pins s σ H Q I hw=>wpAny_Compare1 (h (pins:=pins) s σ H Q I hw) h1
theorem IB {op:CmpOp} {t:TE} (h:PC X op a b t) (h1:behindInMarks op b=false:=by first | exact LX _ (by decide) (by decide) | rfl):PT X (.Compare a [op] [b] pos) (tB t):=by
 intro pins s σ H Q I hw;refine wpAny_isTrue_Compare1 (Bx (h (pins:=pins) s σ H _ I hw) fun v s1 h1=>Bx h1 fun u s2 h2=>Bx h2 fun c s3 ⟨x,H1,I1,r1,q1⟩=>?_) h1;obtain ⟨d,rfl,q⟩:=q1;cases r1
 exact wpAny_truthy_bool ⟨H1,I1,q⟩
theorem Cq {e:Expr} {t:TE} (h:PE X e t) (he:∀ whole,isTrue e X.env whole=(do let v <- whole; standAt e.pos; holding [v] (truthy v)):=by intro _; rfl):PT X e (tB t):=by
 intro pins s σ H Q I hw;refine isTrue_plain (Bx (h (pins:=pins) s σ H _ I hw) fun v s1 ⟨x,H1,I1,r1,q1⟩=>?_) (he _);obtain ⟨d,rfl,q⟩:=q1;cases r1
 exact wpAny_truthy_bool ⟨H1,I1,q⟩
variable {tA Xu:TT} {rest:List Expr}
def tAnd (t u:TT):TT:=fun σ H Q=>t σ H fun c H1=>if c=true then u σ H1 Q else Q false H1
def tOr (t u:TT):TT:=fun σ H Q=>t σ H fun c H1=>if c=true then Q true H1 else u σ H1 Q
def tNot (t:TT):TT:=fun σ H Q=>t σ H fun c H1=>Q (!c) H1
theorem KJ (ha:PT X a tA):PW X (.BoolOp .And [a] pos) tA:=by
 intro wh pins s σ H Q I h;refine isTrue_and (Bx (ha (pins:=pins) s σ H Q I h) fun c s1 e=>?_);cases c with
 | true=>exact isTrue_and_nil e
 | false=>exact e
theorem CD (ha:PT X a tA):PW X (.BoolOp .Or [a] pos) tA:=by
 intro wh pins s σ H Q I h;refine isTrue_or (Bx (ha (pins:=pins) s σ H Q I h) fun c s1 e=>?_);cases c with
 | false=>exact isTrue_or_nil e
 | true=>exact e
theorem I0 (ha:PT X a tA) (hb:PW X (.BoolOp .And (b :: rest) pos) Xu):PW X (.BoolOp .And (a :: b :: rest) pos) (tAnd tA Xu):=by
 intro wh pins s σ H Q I h;refine isTrue_and (Bx (ha (pins:=pins) s σ H _ I h) fun c s1 ⟨H1,I1,q1⟩=>?_);cases c with
 | true=>exact hb (whole:=wh) (pins:=pins) s1 σ H1 Q I1 q1
 | false=>exact ⟨H1,I1,q1⟩
theorem DL (ha:PT X a tA) (hb:PW X (.BoolOp .Or (b :: rest) pos) Xu):PW X (.BoolOp .Or (a :: b :: rest) pos) (tOr tA Xu):=by
 intro wh pins s σ H Q I h;refine isTrue_or (Bx (ha (pins:=pins) s σ H _ I h) fun c s1 ⟨H1,I1,q1⟩=>?_);cases c with
 | true=>exact ⟨H1,I1,q1⟩
 | false=>exact hb (whole:=wh) (pins:=pins) s1 σ H1 Q I1 q1
theorem BL (ha:PT X a tA):PT X (.UnaryOp .Not a pos) (tNot tA):=by
 intro pins s σ H Q I h;exact isTrue_not (ha (pins:=pins) s σ H (fun c H1=>Q (!c) H1) I h)
def tAndV (ta tb:TE):TE:=fun σ H Q=>ta σ H fun x H1=>∃ c,x=.bl c/\if c=true then tb σ H1 Q else Q (.bl false) H1
def tOrV (ta tb:TE):TE:=fun σ H Q=>ta σ H fun x H1=>∃ c,x=.bl c/\if c=true then Q (.bl true) H1 else tb σ H1 Q
def tNotV (ta:TE):TE:=fun σ H Q=>ta σ H fun x H1=>∃ c,x=.bl c/\Q (.bl (!c)) H1
theorem C4 {op} {t:TE} (h:PE X a t):PE X (.BoolOp op [a] pos) t:=fun pins s σ H Q I hw=>BoolOp_one (h (pins:=pins) s σ H Q I hw)
theorem Ca (ha:PE X a ta) (hb:PE X (.BoolOp .And (b :: rest) pos) tb):PE X (.BoolOp .And (a :: b :: rest) pos) (tAndV ta tb):=by
 intro pins s σ H Q I h;refine BoolOp_and (Bx (ha (pins:=pins) s σ H _ I h) fun v s1 ⟨x,H1,I1,r1,q1⟩=>?_);obtain ⟨c,rfl,q1⟩:=q1;cases r1
 refine wpAny_truthy_bool ?_;cases c with
 | true=>exact hb (pins:=pins) s1 σ H1 Q I1 q1
 | false=>exact ⟨.bl false,H1,I1,rfl,q1⟩
theorem TU (ha:PE X a ta) (hb:PE X (.BoolOp .Or (b :: rest) pos) tb):PE X (.BoolOp .Or (a :: b :: rest) pos) (tOrV ta tb):=by
 intro pins s σ H Q I h;refine BoolOp_or (Bx (ha (pins:=pins) s σ H _ I h) fun v s1 ⟨x,H1,I1,r1,q1⟩=>?_);obtain ⟨c,rfl,q1⟩:=q1;cases r1
 refine wpAny_truthy_bool ?_;cases c with
 | false=>exact hb (pins:=pins) s1 σ H1 Q I1 q1
 | true=>exact ⟨.bl true,H1,I1,rfl,q1⟩
theorem QU (ha:PE X a ta):PE X (.UnaryOp .Not a pos) (tNotV ta):=by
 intro pins s σ H Q I h;refine UnaryOp_ (Bx (ha (pins:=pins) s σ H _ I h) fun v s1 ⟨x,H1,I1,r1,q1⟩=>?_);obtain ⟨c,rfl,q1⟩:=q1;cases r1
 exact not_of (wpAny_truthy_bool ⟨.bl (!c),H1,I1,rfl,q1⟩)
def tIf (t:TT) (ta tb:TE):TE:=fun σ H Q=>t σ H fun c H1=>if c=true then ta σ H1 Q else tb σ H1 Q
theorem QW {c:Expr} (hc:PT X c tA) (ha:PE X a ta) (hb:PE X b tb):PE X (.IfExp c a b pos) (tIf tA ta tb):=by
 intro pins s σ H Q I h;refine wpAny_IfExp (Bx (hc (pins:=pins) s σ H _ I h) fun d s1 ⟨H1,I1,q1⟩=>?_);cases d with
 | true=>exact ha (pins:=pins) s1 σ H1 Q I1 q1
 | false=>exact hb (pins:=pins) s1 σ H1 Q I1 q1
end
def AS (K:Z1) (H:Hp) (a:Addr) (xs:List V):Prop:=
 Rd H a (.lst xs) \/
  ∃ (o:Obj) (Ar:Array Value) (n:Nat),K.lookup a=some o/\o.cls=.type "list"/\o.dict=none/\o.data=.seq Ar n/\Ar.size<=sizeLine/\AD xs Ar.toList
def A1 (K:Z1) (H:Hp) (a:Addr) (xs:List V):Prop:=
 Rd H a (.tup xs) \/
  ∃ (o:Obj) (Ar:Array Value) (n:Nat),K.lookup a=some o/\o.cls=.type "tuple"/\o.data=.seq Ar n/\Ar.size<=sizeLine/\AD xs Ar.toList
def absV:Value->Option V
 | .none=>some .non
 | .bool b=>some (.bl b)
 | .int i _=>some (.int i)
 | .str x _=>some (.str x)
 | .bytes b _=>some (.byt b)
 | .float b _=>some (.flt b)
 | .ref a=>some (.ref a)
 | .type n=>some (.ty n)
 | _=>none
theorem AG.abs {x:V} {u:Value} (r:AG x u):absV u=some x:=by
 cases x with
 | non=>cases r; rfl
 | bl _=>cases r; rfl
 | int _=>obtain ⟨t,rfl⟩:=r; rfl
 | str _=>obtain ⟨t,rfl⟩:=r; rfl
 | byt _=>obtain ⟨t,rfl⟩:=r; rfl
 | flt _=>obtain ⟨t,rfl⟩:=r; rfl
 | ref _=>cases r; rfl
 | ty _=>cases r; rfl
theorem AG.inj {x y:V} {u:Value} (r:AG x u) (q:AG y u):x=y:=ZR.inj (r.abs.symm.trans q.abs)
theorem AD.inj:∀ {xs ys:List V} {us:List Value},AD xs us->AD ys us->xs=ys
 | _,_,_,.nil,.nil=>rfl
 | _,_,_,.cons r t,.cons r' t'=>by rw [r.inj r',AD.inj t t']
section
variable {X:Cx} {pins:List (Addr × Obj)} {σ:St} {H:Hp} {s:Shared} {a:Addr} {xs ys:List V}
theorem AS.of {K:Z1} (h:H a=some (.lst xs)):AS K H a xs:=.inl (.inl h)
theorem A1.of {K:Z1} (h:H a=some (.tup xs)):A1 K H a xs:=.inl (.inl h)
theorem Aw.list (I:Aw X pins σ H s) (h:AS X.K H a xs):∃ Ar:List Value,AD xs Ar/\PlainL s.heap a Ar.toArray/\xs.length<=sizeLine:=by
 rcases h with h | ⟨o,Ar,n,hk,hc,hd,hs,hz,r⟩
 ·obtain ⟨z,Ar,n,r,e⟩:=h.ok I.hok;exact ⟨Ar,r,⟨_,n,e,rfl,rfl,rfl⟩,z⟩
 ·exists Ar.toList,r,⟨o,n,I.kIn a o hk,hc,hd,by simpa using hs⟩
  have e:=r.length;simp only [ZT] at e;lia
theorem Aw.tuple (I:Aw X pins σ H s) (h:A1 X.K H a xs):∃ Ar:List Value,AD xs Ar/\IsTup s.heap a Ar.toArray/\xs.length<=sizeLine:=by
 rcases h with h | ⟨o,Ar,n,hk,hc,hs,hz,r⟩
 ·obtain ⟨z,Ar,r,p,_⟩:=h.ok I.hok;exact ⟨Ar,r,p,z⟩
 ·exists Ar.toList,r,⟨o,I.kIn a o hk,hc,n,by simpa using hs⟩
  have e:=r.length;simp only [ZT] at e;lia
theorem Aw.list_inj (I:Aw X pins σ H s) (h:AS X.K H a xs) (h':AS X.K H a ys):xs=ys:=by
 obtain ⟨Ar,r,⟨o,n,e,_,_,d⟩,_⟩:=I.list h;obtain ⟨its',r',⟨o',n',e',_,_,d'⟩,_⟩:=I.list h';rw [e] at e'; cases e';rw [d] at d';injection d' with d1 _;have:Ar=its':=by simpa using congrArg bO d1
 subst this;exact r.inj r'
theorem Aw.tuple_inj (I:Aw X pins σ H s) (h:A1 X.K H a xs) (h':A1 X.K H a ys):xs=ys:=by
 obtain ⟨Ar,r,⟨o,e,_,n,d⟩,_⟩:=I.tuple h;obtain ⟨its',r',⟨o',e',_,n',d'⟩,_⟩:=I.tuple h';rw [e] at e'; cases e';rw [d] at d';injection d' with d1 _;have:Ar=its':=by simpa using congrArg bO d1
 subst this;exact r.inj r'
end
abbrev Cx.wish (X:Cx) (E:Value->Shared->Prop):Cx:={ X with xe:=E }
abbrev Cx.nox (X:Cx):Cx:=X.wish fun _ _=>False
theorem Cx.Ok.wish {X:Cx} (ok:X.Ok) (E:Value->Shared->Prop):(X.wish E).Ok:=
 ⟨ok.mod,ok.kind,ok.glob,ok.blt,ok.above,ok.inj,ok.has,ok.cab,ok.hd,ok.frames,ok.stk,ok.exf,ok.bs,ok.bsz,ok.noex,ok.exfs,ok.funs,ok.frf⟩
theorem Cx.Ok.unwish {X:Cx} {E:Value->Shared->Prop} (ok:(X.wish E).Ok):X.Ok:=
 ⟨ok.mod,ok.kind,ok.glob,ok.blt,ok.above,ok.inj,ok.has,ok.cab,ok.hd,ok.frames,ok.stk,ok.exf,ok.bs,ok.bsz,ok.noex,ok.exfs,ok.funs,ok.frf⟩
section
variable {X:Cx} {pins:List (Addr × Obj)} {σ:St} {H:Hp} {s:Shared} {E:Value->Shared->Prop}
theorem Aw.wish (I:Aw X pins σ H s) (E:Value->Shared->Prop):Aw (X.wish E) pins σ H s:=⟨I.ok.wish E,I.os,I.bare,I.base,I.loc,I.cell,I.free,I.freeC,I.pin,I.hok,I.len⟩
theorem Aw.unwish (I:Aw (X.wish E) pins σ H s):Aw X pins σ H s:=⟨I.ok.unwish,I.os,I.bare,I.base,I.loc,I.cell,I.free,I.freeC,I.pin,I.hok,I.len⟩
theorem SP.unwish {D:EV} {f:Flow} {s':Shared} (h:SP (X.wish E) pins D f s'):SP X pins D f s':=by
 cases f with
 | next=>obtain ⟨A3,H',I,q⟩:=h; exact ⟨A3,H',I.unwish,q⟩
 | brk=>obtain ⟨A3,H',I,q⟩:=h; exact ⟨A3,H',I.unwish,q⟩
 | cont=>obtain ⟨A3,H',I,q⟩:=h; exact ⟨A3,H',I.unwish,q⟩
 | ret u=>obtain ⟨v,A3,H',I,r,q⟩:=h; exact ⟨v,A3,H',I.unwish,r,q⟩
theorem Mt.nox {st:List Stmt} {t:TS} (h:Mt X.nox st t):Mt X st t:=fun pins s σ H D I hw=>
 wpAny_mono (h (pins:=pins) s σ H D (I.wish _) hw) (fun _ _ q=>q.unwish) fun _ _ z=>False.elim z
end
section
variable {X:Cx} {st:Stmt} {rest:List Stmt} {t u:TS} {e:Expr} {te:TE} {pos:Pos}
def tNext:TS:=fun D σ H=>D.nx σ H
def tSeq (t u:TS):TS:=fun D σ H=>t { D with nx:=u D } σ H
theorem AR:Mt X [] tNext:=fun _ _ σ H _ I h=>wpAny_execs_nil ⟨σ,H,I,h⟩
theorem Ag (h1:PS X st t) (h2:Mt X rest u):Mt X (st :: rest) (tSeq t u):=by
 intro pins s σ H D I h;refine wpAny_execs_cons (Bx (h1 (pins:=pins) s σ H { D with nx:=u D } I h) fun f s1 q=>?_);cases f with
 | next=>
  obtain ⟨A3,H',I',q⟩:=q;exact h2 (pins:=pins) s1 A3 H' D I' q
 | ret v=>exact q
 | brk=>exact q
 | cont=>exact q
theorem Ak (h1:PS X st t):Mt X [st] t:=by
 intro pins s σ H D I h;refine wpAny_execs_cons (Bx (h1 (pins:=pins) s σ H D I h) fun f s1 q=>?_);cases f with
 | next=>exact wpAny_execs_nil q
 | ret v=>exact q
 | brk=>exact q
 | cont=>exact q
theorem Aw.quiet {pins:List (Addr × Obj)} {σ:St} {H:Hp} {s:Shared} (I:Aw X pins σ H s):interactive X.env=false:=by simp [interactive,I.ok.kind]
def tDrop (te:TE):TS:=fun D σ H=>te σ H fun _ H1=>D.nx σ H1
theorem FN (he:PE X e te) (hs:swapsWith e none pos.line X.env=pure false:=by rfl):PS X (.Expr e pos) (tDrop te):=by
 intro pins s σ H D I h;exact wpAny_Expr_any (Bx (he (pins:=pins) s σ H _ I h) fun v s1 ⟨x,H1,I1,r1,q1⟩=>⟨σ,H1,I1,q1⟩) I.quiet hs
def tRet (te:TE):TS:=fun D σ H=>te σ H D.rt
theorem A4 (he:PE X e te):PS X (.Return (some e) pos) (tRet te):=by
 intro pins s σ H D I h;exact wpAny_Return_some (Bx (he (pins:=pins) s σ H _ I h) fun v s1 ⟨x,H1,I1,r1,q1⟩=>⟨x,σ,H1,I1,r1,q1⟩)
def tIfS (c:TT) (t u:TS):TS:=fun D σ H=>c σ H fun b H1=>if b=true then t D σ H1 else u D σ H1
theorem B7 {c:Expr} {a b:List Stmt} {tc:TT} (hc:PT X c tc) (ha:Mt X a t) (hb:Mt X b u):PS X (.If c a b pos) (tIfS tc t u):=by
 intro pins s σ H D I h;refine wpAny_If (Bx (hc (pins:=pins) s σ H _ I h) fun d s1 ⟨H1,I1,q1⟩=>?_);cases d with
 | true=>exact ha (pins:=pins) s1 σ H1 D I1 q1
 | false=>exact hb (pins:=pins) s1 σ H1 D I1 q1
end
abbrev TG:=V->St->Hp->(St->Hp->Prop)->Prop
abbrev Uw:=List V->St->Hp->(St->Hp->Prop)->Prop
def PG (X:Cx) (target:Expr) (t:TG):Prop:=
 ∀ ⦃pins:List (Addr × Obj)⦄ (s:Shared) (σ:St) (H:Hp) (v:V) (u:Value) (Q:St->Hp->Prop),Aw X pins σ H s->AG v u->t v σ H Q ->
  wpAny (model X.prog X.w) X.A (assign target X.env u) (fun _ s'=>∃ A3 H',Aw X pins A3 H' s'/\Q A3 H') X.xe s
def PGs (X:Cx) (ts:List Expr) (t:Uw):Prop:=
 ∀ ⦃pins:List (Addr × Obj)⦄ (s:Shared) (σ:St) (H:Hp) (vs:List V) (us:List Value) (Q:St->Hp->Prop),Aw X pins σ H s->AD vs us->t vs σ H Q ->
  wpAny (model X.prog X.w) X.A (assignInOrder ((assignEach ts X.env).map (·.2)) us) (fun _ s'=>∃ A3 H',Aw X pins A3 H' s'/\Q A3 H') X.xe s
abbrev VA:=V->V->V->Hp->(Hp->Prop)->Prop
def PSet (X:Cx) (t:VA):Prop:=
 ∀ ⦃pins:List (Addr × Obj)⦄ (s:Shared) (σ:St) (H:Hp) (o i v:V) (ov iv u:Value) (Q:Hp->Prop),Aw X pins σ H s->AG o ov->AG i iv->AG v u->t o i v H Q ->
  wpAny (model X.prog X.w) X.A (setItem ov iv u) (fun _ s'=>∃ H',Aw X pins σ H' s'/\Q H') X.xe s
section
variable {X:Cx} {pos:Pos}
def Mh (i:Nat):TG:=fun v σ H Q=>Q (σ.set i (some v)) H
theorem Ai {i:Nat} {x:Str} (hN:X.N.Nodup) (hi:X.N[i]? = some x) (hx:Wd X.env.scope x) (hf:X.fn x=true\/X.env.scope.names.lookup x=some .local:=by first | exact .inl rfl | exact .inr rfl | assumption):PG X (.Name x pos) (Mh i):=by
 intro pins s σ H v u Q I r h;exact wpAny_assign_Name (L7 I hN hi hx r (fun s' I'=>⟨_,H,I',h⟩) hf)
def gNil:Uw:=fun vs σ H Q=>vs=[]/\Q σ H
def gCons (t:TG) (u:Uw):Uw:=fun vs σ H Q=>∃ v r,vs=v :: r/\t v σ H fun A3 H'=>u r A3 H' Q
theorem AV:PGs X [] gNil:=by
 intro pins s σ H vs us Q I r h;obtain ⟨e,h⟩:=h;subst e;cases r
 exact assignInOrder_nil ⟨σ,H,I,h⟩
theorem Am {e:Expr} {es:List Expr} {t:TG} {u:Uw} (h1:PG X e t) (h2:PGs X es u)
  (hs:(assignEach (e :: es) X.env).map (·.2)=assign e X.env :: (assignEach es X.env).map (·.2):=by rfl):PGs X (e :: es) (gCons t u):=by
 intro pins s σ H vs us Q I r h;obtain ⟨v,vr,e1,h⟩:=h;subst e1;cases r with
 | cons r rr=>
  rw [hs];refine assignInOrder_cons (Bx (h1 (pins:=pins) s σ H _ _ _ I r h) fun _ s1 ⟨VI,H1,I1,q1⟩=>?_);exact h2 (pins:=pins) s1 VI H1 _ _ Q I1 rr q1
def gTup (K:Z1) (n:Nat) (t:Uw):TG:=fun v σ H Q=>∃ a xs,v=.ref a/\A1 K H a xs/\xs.length=n/\t xs σ H Q
theorem UR {es:List Expr} {k:Nat} {t:Uw} {n:Nat} (hc:X.calm=true) (h:PGs X es t)
  (hn:(assignEach es X.env).length=n:=by rfl) (hst:(assignEach es X.env).findIdx? (·.1)=none:=by rfl):PG X (.Tuple es k pos) (gTup X.K n t):=by
 intro pins s σ H v u Q I r hw;obtain ⟨a,xs,e1,hq,hl,hw⟩:=hw;subst e1;cases r
 obtain ⟨Ar,rv,ht,hz⟩:=I.tuple hq;refine assign_Tuple_tuple (I.ok.hd hc) ht (by simp [hn,<-hl,rv.length]) hst fun h' hx=>?_
 have I1:Aw X pins σ H { s with heap:=h' }:=I.kept (t':=s.toks) fun b o e=>hx b o (ZE (Z5 e)) e
 exact h (pins:=pins) _ σ H xs _ Q I1 (by simpa using rv) hw
def gSub (to ti:TE) (t:VA):TG:=fun v σ H Q=>to σ H fun o H1=>ti σ H1 fun i H2=>t o i v H2 fun H3=>Q σ H3
theorem MH {o i:Expr} {to ti:TE} {t:VA} (ho:PE X o to) (hi:PE X i ti) (hs:PSet X t)
  (ha:∀ v,assign (.Subscript o i pos) X.env v=(do
   let ov <- holding [v] (eval o X.env)
   let iv <- holding [v,ov] (eval i X.env)
   standAt pos
   holding [v,ov,iv] (setItem ov iv v)
   release [v,ov,iv] []):=by intro _; rfl):PG X (.Subscript o i pos) (gSub to ti t):=by
 intro pins s σ H v u Q I r h;rw [ha];refine wpAny_bind (wpAny_holding (Bx (ho (pins:=pins) s σ H _ I h) fun ov s1 ⟨x,H1,I1,r1,q1⟩=>?_));refine wpAny_bind (wpAny_holding (Bx (hi (pins:=pins) s1 σ H1 _ I1 q1) fun iv s2 ⟨y,H2,I2,r2,q2⟩=>?_));refine wpAny_bind (wpAny_standAt (wpAny_bind (wpAny_holding (Bx (hs (pins:=pins) s2 σ H2 x y v ov iv u _ I2 r1 r2 r q2) fun _ s3 ⟨H3,I3,q3⟩=>?_))));exact wpAny_release ⟨σ,H3,I3,q3⟩
def Sh (te:TE) (g:TG):TS:=fun D σ H=>te σ H fun x H1=>g x σ H1 D.nx
theorem DP {tg e:Expr} {te:TE} {g:TG} (he:PE X e te) (hg:PG X tg g) (hs:swapsWithSole [tg] e pos.line X.env=pure false:=by rfl) (hw:swappedStores [tg] e X.env=pure none:=by rfl)
  (h1:(assignEach [tg] X.env).map (·.2)=[assign tg X.env]:=by rfl):PS X (.Assign [tg] e pos) (Sh te g):=by
 intro pins s σ H D I h;refine wpAny_Assign_stores (Bx (he (pins:=pins) s σ H _ I h) fun v s1 ⟨x,H1,I1,r1,q1⟩=>?_) hs hw;rw [h1];exact Bx (hg (pins:=pins) s1 σ H1 x v _ I1 r1 q1) fun _ s2 q=>q
theorem Ap {i:Nat} {x:Str} {e:Expr} {te:TE} {pos':Pos} (hN:X.N.Nodup) (hi:X.N[i]? = some x) (hx:Wd X.env.scope x) (he:PE X e te) (hs:swapsWith e (some (.Name x pos')) pos.line X.env=pure false:=by rfl) (hf:X.fn x=true\/X.env.scope.names.lookup x=some .local:=by first | exact .inl rfl | exact .inr rfl | assumption) :
  PS X (.Assign [.Name x pos'] e pos) (Sh te (Mh i)):=by
 intro pins s σ H D I h;refine wpAny_Assign_Name (Bx (he (pins:=pins) s σ H _ I h) fun v s1 ⟨y,H1,I1,r1,q1⟩=>?_) hs;exact L7 I1 hN hi hx r1 (fun s2 I2=>⟨_,H1,I2,q1⟩) hf
end
section
variable {X:Cx} {pos:Pos}
def UB (c:TT) (tb:TS):TS:=fun D σ H=>∃ W:Nat->St->Hp->Prop,(∃ m,W m σ H)/\∀ m σ H,W m σ H ->
 c σ H fun b H1=>if b=true then ∃ N:St->Hp->Prop,(∀ A3 H',N A3 H'->∃ m',m' < m/\W m' A3 H')/\tb { D with nx:=N,ct:=N,bk:=D.nx } σ H1 else D.nx σ H1
theorem QP {c:Expr} {body:List Stmt} {tc:TT} {tb:TS} (hp:PassesOwn (model X.prog X.w) X.A X.env X.xe) (hc:PT X c tc) (hb:Mt X body tb):PS X (.While c body [] pos) (UB tc tb):=by
 intro pins s σ H D I h;obtain ⟨W,⟨m0,w0⟩,turn⟩:=h;refine wpAny_While (codeAny_whileLoop (fun n s'=>∃ A3 H',Aw X pins A3 H' s'/\W n A3 H') ?_ m0 ⟨σ,H,I,w0⟩);rintro n s1 ⟨VI,H1,I1,w1⟩;refine wpAny_passesOwn hp (Bx (hc (pins:=pins) s1 VI H1 _ I1 (turn n VI H1 w1)) fun b s2 ⟨H2,I2,q2⟩=>?_);cases b with
 | true=>
  obtain ⟨N,hN,q2⟩:=q2;rw [if_pos rfl];refine wpAny_passesOwn hp (Bx (hb (pins:=pins) s2 VI H2 _ I2 q2) fun f s3 q3=>?_);cases f with
  | next=>
   obtain ⟨Qe,H3,I3,n3⟩:=q3;obtain ⟨m',hm,w3⟩:=hN Qe H3 n3;exact ⟨m',hm,Qe,H3,I3,w3⟩
  | cont=>
   obtain ⟨Qe,H3,I3,n3⟩:=q3;obtain ⟨m',hm,w3⟩:=hN Qe H3 n3;exact ⟨m',hm,Qe,H3,I3,w3⟩
  | brk=>exact q3
  | ret v=>exact q3
 | false=>
  rw [if_neg ZI];exact wpAny_execs_nil ⟨VI,H2,I2,q2⟩
end
structure It where
 go:Nat->Hp->Prop
 yld:Nat->Hp->V->Hp->Prop
 stop:Nat->Hp->Prop
def EU (X:Cx) (pins:List (Addr × Obj)) (H:Hp) (b:Addr):Prop:=
 H b=none/\b ≠ X.env.locals/\b ∉ X.fs/\(b ∈ X.ex\/X.s₀.heap.objs.size<=b)/\(∀ x c,X.env.cells.lookup x=some c->c ≠ b)/\∀ p ∈ X.pn ++ pins,p.1 ≠ b
theorem Aw.fpOk {X:Cx} {pins:List (Addr × Obj)} {σ:St} {H H':Hp} {s:Shared} {b:Addr} (I:Aw X pins σ H s) (hb:s.heap.objs.size<=b) (hn:H' b=none):EU X pins H' b:=by
 refine ⟨hn,aD (ZK I.lt hb),I.nofs hb,.inr (ZV I.sz hb),fun x c e z=>?_,fun p hp z=>?_⟩
 ·obtain ⟨v,q⟩:=I.cell x c e;exact absurd (ZK q.lt (by rw [z]; exact hb)) (ay _)
 ·exact absurd (ZK (Z5 (I.pin p hp).1) (by rw [z]; exact hb)) (ay _)
structure Mr (P:Program) (w:World) (K:Z1) (tg:Expr) (J:It) (fp:List Addr) (it:Addr) (tn:Nat->Heap->Prop):Prop where
 mem:it ∈ fp
 obj:∀ i h,tn i h->∀ b ∈ fp,∃ o,h.get? b=some o/\∀ v,o.data ≠ .cell v
 keep:∀ i h h',tn i h->(∀ b ∈ fp,∀ o,h.get? b=some o->h'.get? b=some o)->tn i h'
 item:∀ (X:Cx),X.prog=P->X.w=w->X.K=K->X.calm=true->∀ (i:Nat) (pins:List (Addr × Obj)) (s:Shared) (σ:St) (H:Hp) (E:Value->Shared->Prop),Aw X pins σ H s->(∀ b ∈ fp,EU X pins H b)->tn i s.heap->J.go i H ->
  wpAny (model P w) X.A (pyNext (.ref it)) (fun r s1=>∃ u,r=some u /\
   wpAny (model P w) X.A (letOwnedTupleGo tg (.ref it) u) (fun _ s2=>∃ x H',Aw X pins σ H' s2/\AG x u/\J.yld i H x H'/\tn (i + 1) s2.heap/\∀ b ∈ fp,H' b=none) E s1) E s
 done:∀ (X:Cx),X.prog=P->X.w=w->X.K=K->X.calm=true->∀ (i:Nat) (pins:List (Addr × Obj)) (s:Shared) (σ:St) (H:Hp) (E:Value->Shared->Prop),Aw X pins σ H s->(∀ b ∈ fp,EU X pins H b)->tn i s.heap->J.stop i H ->
  wpAny (model P w) X.A (pyNext (.ref it)) (fun r s1=>r=none/\Aw X pins σ H s1) E s
 self:∀ (A:Around) (i:Nat) (s:Shared) (Q:Value->Shared->Prop) (E:Value->Shared->Prop),tn i s.heap->Q (.ref it) s->wpAny (model P w) A (pyIter (.ref it)) Q E s
abbrev TI:=St->Hp->(It->Hp->Prop)->Prop
def PIE (X:Cx) (pins:List (Addr × Obj)) (σ:St) (tg:Expr) (R:It->Hp->Prop) (itv:Value) (s2:Shared):Prop:=
 ∃ (it:Addr) (fp:List Addr) (tn:Nat->Heap->Prop) (J:It) (H':Hp),itv=.ref it/\Aw X pins σ H' s2/\Mr X.prog X.w X.K tg J fp it tn/\tn 0 s2.heap/\(∀ b ∈ fp,EU X pins H' b)/\R J H'
def PI (X:Cx) (tg iter:Expr) (wi:TI):Prop:=
 ∀ ⦃pins:List (Addr × Obj)⦄ (s:Shared) (σ:St) (H:Hp) (R:It->Hp->Prop),Aw X pins σ H s->wi σ H R ->
  wpAny (model X.prog X.w) X.A (eval iter X.env) (fun v s1=>wpAny (model X.prog X.w) X.A (pyIter v) (PIE X pins σ tg R) X.xe s1) X.xe s
theorem Kn {M:Model} {A:Around} {E:Value->Shared->Prop} {s:Shared} {tg:Expr} {it:Addr} {u:Value} {o:Obj} {n:String} {vs:Array Value} {Q:Unit->Shared->Prop} (ho:s.heap.get? it=some o) (hc:o.cls=.type n) (hd:o.data=.fields vs)
  (hn:["enumerate","zip","dict_itemiterator","dict_reverseitemiterator","odict_iterator","itertools.zip_longest","itertools.pairwise"].contains n=false) (hQ:Q () s):wpAny M A (letOwnedTupleGo tg (.ref it) u) Q E s:=by
 unfold letOwnedTupleGo;cases tg <;> first
  | exact wpAny_pure hQ
  | (cases u <;> first
    | exact wpAny_pure hQ
    | (refine wpAny_bind (wpAny_load ho ?_)
       rw [hc,hd];show wpAny M A (if (["enumerate","zip","dict_itemiterator","dict_reverseitemiterator","odict_iterator","itertools.zip_longest","itertools.pairwise"].contains n && vs[0]? == some (rawInt _))=true then _ else _) Q E s
       rw [if_neg (by intro h; rw [hn,bV] at h; cases h)];exact wpAny_pure hQ))
def Itl (K:Z1) (a:Addr):It:=
 ⟨fun i H=>∃ xs x,AS K H a xs/\xs[i]? = some x,fun i H x H'=>H'=H/\∀ xs,AS K H a xs->xs[i]? = some x,fun i H=>∃ xs,AS K H a xs/\xs.length<=i⟩
def PU (K:Z1) (a:Addr):It:=
 ⟨fun i H=>∃ xs x,A1 K H a xs/\xs[i]? = some x,fun i H x H'=>H'=H/\∀ xs,A1 K H a xs->xs[i]? = some x,fun i H=>∃ xs,A1 K H a xs/\xs.length<=i⟩
def RY (lo:Int) (n:Nat):It:=⟨fun i _=>i < n,fun i H x H'=>H'=H/\x=.int (lo + i),fun i _=>n<=i⟩
theorem JV {P:Program} {w:World} {K:Z1} {tg:Expr} (a it:Addr):Mr P w K tg (Itl K a) [it] it (fun i h=>h.IsListIter it a i) where
 mem:=by simp
 obj:=fun i h st b hb=>by
  have e:b=it:=by simpa using hb
  subst e;obtain ⟨o,e,c,d⟩:=st;exact ⟨o,e,fun v z=>by rw [d] at z; cases z⟩
 keep:=fun i h h' st k=>st.at fun o e=>k it (by simp) o e
 item:=by
  intro X hP hw hK hc i pins s σ H E I hf st hg;subst hP hw hK;obtain ⟨xs,x,hq,hx⟩:=hg;obtain ⟨Ar,rv,p,hz⟩:=I.list hq;obtain ⟨u,hu,ru⟩:=rv.get hx;obtain ⟨f0,f1,f2,f3,f4,f5⟩:=hf it (by simp);refine wpAny_pyNext_list_item st p.isList (x:=u) (by simpa using hu) fun h' AZ sb=>?_
  have I1:Aw X pins σ H { s with heap:=h' }:=I.turned (t':=s.toks) (fun b o hb e=>(sb.2 b hb).trans e) f0 f1 f3 f4 f5;obtain ⟨o,e,c,d⟩:=id AZ;exact ⟨u,rfl,Kn (s:={ s with heap:=h' }) e c d (by decide) ⟨x,H,I1,ru,⟨rfl,fun ys hy=>by rw [I.list_inj hy hq]; exact hx⟩,AZ,fun b hb=>(hf b hb).1⟩⟩
 done:=by
  intro X hP hw hK hc i pins s σ H E I hf st hg;subst hP hw hK;obtain ⟨xs,hq,hx⟩:=hg;obtain ⟨Ar,rv,p,hz⟩:=I.list hq;obtain ⟨f0,f1,f2,f3,f4,f5⟩:=hf it (by simp);have hl:=rv.length;exact wpAny_pyNext_list_end (I.ok.hd hc) st p.isList (by simp; lia) fun h' eb=>⟨rfl,I.turned (t':=s.toks) (fun b o hb e=>eb b o hb e) f0 f1 f3 f4 f5⟩
 self:=fun _ _ _ _ _ st h=>wpAny_pyIter_listiter st h
theorem Ik {P:Program} {w:World} {K:Z1} {tg:Expr} (a it:Addr):Mr P w K tg (PU K a) [it] it (fun i h=>h.IsTupleIter it a i) where
 mem:=by simp
 obj:=fun i h st b hb=>by
  have e:b=it:=by simpa using hb
  subst e;obtain ⟨o,e,c,d⟩:=st;exact ⟨o,e,fun v z=>by rw [d] at z; cases z⟩
 keep:=fun i h h' st k=>st.at fun o e=>k it (by simp) o e
 item:=by
  intro X hP hw hK hc i pins s σ H E I hf st hg;subst hP hw hK;obtain ⟨xs,x,hq,hx⟩:=hg;obtain ⟨Ar,rv,p,hz⟩:=I.tuple hq;obtain ⟨u,hu,ru⟩:=rv.get hx;obtain ⟨f0,f1,f2,f3,f4,f5⟩:=hf it (by simp);refine wpAny_pyNext_tuple_item st (show s.heap.IsTuple a Ar.toArray from p) (x:=u) (by simpa using hu) fun h' AZ sb=>?_
  have I1:Aw X pins σ H { s with heap:=h' }:=I.turned (t':=s.toks) (fun b o hb e=>(sb.2 b hb).trans e) f0 f1 f3 f4 f5;obtain ⟨o,e,c,d⟩:=id AZ;exact ⟨u,rfl,Kn (s:={ s with heap:=h' }) e c d (by decide) ⟨x,H,I1,ru,⟨rfl,fun ys hy=>by rw [I.tuple_inj hy hq]; exact hx⟩,AZ,fun b hb=>(hf b hb).1⟩⟩
 done:=by
  intro X hP hw hK hc i pins s σ H E I hf st hg;subst hP hw hK;obtain ⟨xs,hq,hx⟩:=hg;obtain ⟨Ar,rv,p,hz⟩:=I.tuple hq;obtain ⟨f0,f1,f2,f3,f4,f5⟩:=hf it (by simp);have hl:=rv.length;exact wpAny_pyNext_tuple_end (I.ok.hd hc) st (show s.heap.IsTuple a Ar.toArray from p) (by simp; lia) fun h' eb=>⟨rfl,I.turned (t':=s.toks) (fun b o hb e=>eb b o hb e) f0 f1 f3 f4 f5⟩
 self:=fun _ _ _ _ _ st h=>wpAny_pyIter_tupleiter st h
theorem M6 {P:Program} {w:World} {K:Z1} {tg:Expr} (it:Addr) (lo:Int) (n:Nat):Mr P w K tg (RY lo n) [it] it (fun i h=>IsRangeIter h it (lo + (i:Nat) * 1) ((n:Int) - (i:Nat)) 1) where
 mem:=by simp
 obj:=fun i h st b hb=>by
  have e:b=it:=by simpa using hb
  subst e;exact ⟨_,st,fun v z=>by
   have z':Data.fields _=Data.cell v:=z;cases z'⟩
 keep:=fun i h h' st k=>k it (by simp) _ st
 item:=by
  intro X hP hw hK hc i pins s σ H E I hf st hg;subst hP hw hK;obtain ⟨f0,f1,f2,f3,f4,f5⟩:=hf it (by simp);have W:=Walks.range (prog:=X.prog) (w:=X.w) (I.ok.hd hc) it lo 1 n;refine W.item i s _ _ hg st fun v h' tk hv AZ kk=>?_
  obtain ⟨t,rfl⟩:=hv;have I1:Aw X pins σ H { s with heap:=h',toks:=tk }:=I.turned (fun b o hb e=>kk b o (by simpa using hb) e) f0 f1 f3 f4 f5;refine ⟨_,rfl,Kn (s:={ s with heap:=h',toks:=tk }) (n:="range_iterator") AZ rfl rfl (by decide) ⟨.int (lo + i),H,I1,⟨t,?_⟩,⟨rfl,rfl⟩,AZ,fun b hb=>(hf b hb).1⟩⟩;rw [Int.mul_one]
 done:=by
  intro X hP hw hK hc i pins s σ H E I hf st hg;subst hP hw hK;obtain ⟨f0,f1,f2,f3,f4,f5⟩:=hf it (by simp);exact wpAny_pyNext_range_end (I.ok.hd hc) st (by have:n<=i:=hg; lia) fun h' eb=>⟨rfl,I.turned (t':=s.toks) (fun b o hb e=>eb b o hb e) f0 f1 f3 f4 f5⟩
 self:=fun _ _ _ _ _ st h=>wpAny_pyIter_rangeiter st h
section
variable {X:Cx} {tg:Expr}
def Ua (K:Z1) (tl:TE):TI:=fun σ H R=>tl σ H fun x H1=>∃ a,x=.ref a/\(∃ xs,AS K H1 a xs)/\R (Itl K a) H1
def iTup (K:Z1) (tl:TE):TI:=fun σ H R=>tl σ H fun x H1=>∃ a,x=.ref a/\(∃ xs,A1 K H1 a xs)/\R (PU K a) H1
theorem Fe {l:Expr} {tl:TE} (hl:PE X l tl):PI X tg l (Ua X.K tl):=by
 intro pins s σ H R I h;refine Bx (hl (pins:=pins) s σ H _ I h) fun v s1 ⟨x,H1,I1,r1,q1⟩=>?_
 obtain ⟨a,e,⟨xs,hq⟩,q⟩:=q1;subst e;cases r1
 obtain ⟨Ar,rv,p,hz⟩:=I1.list hq;refine wpAny_pyIter_list p.isList ?_;refine ⟨s1.heap.objs.size,[s1.heap.objs.size],_,_,H1,rfl,I1.kept (t':=s1.toks) fun b o e=>Zz _ e,JV a _,⟨_,Z9 _ rfl,rfl,rfl⟩,fun b hb=>?_,q⟩;have e:b=s1.heap.objs.size:=by simpa using hb
 subst e;exact I1.fpOk (Z4 _) (I1.hok.fresh (Z4 _))
theorem Gu {l:Expr} {tl:TE} (hl:PE X l tl):PI X tg l (iTup X.K tl):=by
 intro pins s σ H R I h;refine Bx (hl (pins:=pins) s σ H _ I h) fun v s1 ⟨x,H1,I1,r1,q1⟩=>?_
 obtain ⟨a,e,⟨xs,hq⟩,q⟩:=q1;subst e;cases r1
 obtain ⟨Ar,rv,p,hz⟩:=I1.tuple hq;refine wpAny_pyIter_tuple (show s1.heap.IsTuple a Ar.toArray from p) ?_;refine ⟨s1.heap.objs.size,[s1.heap.objs.size],_,_,H1,rfl,I1.kept (t':=s1.toks) fun b o e=>Zz _ e,Ik a _,⟨_,Z9 _ rfl,rfl,rfl⟩,fun b hb=>?_,q⟩;have e:b=s1.heap.objs.size:=by simpa using hb
 subst e;exact I1.fpOk (Z4 _) (I1.hok.fresh (Z4 _))
theorem LK {pins:List (Addr × Obj)} {σ:St} {H:Hp} {s:Shared} {R:It->Hp->Prop} {E:Value->Shared->Prop} {lo hi:Int} {t u v:Tok} {tk:Nat} (I:Aw X pins σ H s) (h1:-(2 ^ 62)<=lo) (h2:lo < 2 ^ 62) (h3:-(2 ^ 62)<=hi) (h4:hi < 2 ^ 62)
  (q:R (RY lo (hi - lo).toNat) H):wpAny (model X.prog X.w) X.A (pyIter (.ref s.heap.objs.size)) (PIE X pins σ tg R) E { s with heap:=s.heap.push { cls:=.type "range",data:=.fields #[.int lo t,.int hi u,.int 1 v] },toks:=tk }:=by
 refine wpAny_pyIter_range (IsRange.new ..) (small_one h1 h2 h3 h4) ?_;have I1:Aw X pins σ H { s with heap:=s.heap.push { cls:=.type "range",data:=.fields #[.int lo t,.int hi u,.int 1 v] },toks:=tk }:=I.kept fun b o e=>Zz _ e
 refine ⟨(s.heap.push { cls:=.type "range",data:=.fields #[.int lo t,.int hi u,.int 1 v] }).objs.size,[(s.heap.push { cls:=.type "range",data:=.fields #[.int lo t,.int hi u,.int 1 v] }).objs.size],_,_,H,rfl,
  I1.kept (t':=tk) fun b o e=>Zz _ e,M6 _ lo (hi - lo).toNat,?_,fun b hb=>?_,q⟩
 ·have e1:lo + ((0:Nat):Int) * 1=lo:=by simp
  have e2:(((hi - lo).toNat:Nat):Int) - ((0:Nat):Int)=Builtin.Range.rangeSize lo hi 1:=by rw [rangeSize_one]; split <;> lia
  show IsRangeIter _ _ (lo + ((0:Nat):Int) * 1) ((((hi - lo).toNat:Nat):Int) - ((0:Nat):Int)) 1
  rw [e1,e2];exact Z9 _ rfl
 ·have e:b=(s.heap.push { cls:=.type "range",data:=.fields #[.int lo t,.int hi u,.int 1 v] }).objs.size:=by simpa using hb
  subst e;exact I1.fpOk (Z4 _) (I1.hok.fresh (Z4 _))
def iRng1 (ta:TA):TI:=fun σ H R=>ta σ H fun vs H1=>∃ j:Int,vs=[.int j]/\-(2 ^ 62)<=j/\j < 2 ^ 62/\R (RY 0 j.toNat) H1
def iRng2 (ta:TA):TI:=fun σ H R=>ta σ H fun vs H1=>∃ i j:Int,vs=[.int i,.int j]/\(-(2 ^ 62)<=i/\i < 2 ^ 62/\-(2 ^ 62)<=j/\j < 2 ^ 62)/\R (RY i (j - i).toNat) H1
theorem CF {a:Expr} {ta:TA} {p pos:Pos} (hg:Gl X "range") (hm:X.mg "range"=none) (ha:PA X [a] ta) (hs:starEach [a] X.env=[(false,eval a X.env)]:=by rfl):PI X tg (.Call (.Name "range" p) [a] [] pos) (iRng1 ta):=by
 intro pins s σ H R I h;refine Call_ (G3 I hg hm boot_range (PyProof.Rows.callWith_type1 (Bx (ha (pos:=pos) (pins:=pins) s σ H _ I h) fun us s1 ⟨vs,H1,I1,r1,q1⟩=>?_) hs rfl));obtain ⟨j,e,q1,q2,q⟩:=q1;subst e;cases r1 with
 | cons r rr=>
  cases rr
  obtain ⟨t,rfl⟩:=r;exact call_range_1 (LK I1 (by lia) (by lia) q1 q2 (by simpa using q))
theorem OT {a b:Expr} {ta:TA} {p pos:Pos} (hg:Gl X "range") (hm:X.mg "range"=none) (ha:PA X [a,b] ta) (hs:starEach [a,b] X.env=[(false,eval a X.env),(false,eval b X.env)]:=by rfl) (VR:starEach [b] X.env=[(false,eval b X.env)]:=by rfl) :
  PI X tg (.Call (.Name "range" p) [a,b] [] pos) (iRng2 ta):=by
 intro pins s σ H R I h;refine Call_ (G3 I hg hm boot_range (PyProof.Rows.callWith_type1 (Bx (ha (pos:=pos) (pins:=pins) s σ H _ I h) fun us s1 ⟨vs,H1,I1,r1,q1⟩=>?_) (by rw [hs,VR]) (by rw [VR]; rfl)));obtain ⟨i,j,e,⟨q1,q2,q3,q4⟩,q⟩:=q1;subst e;cases r1 with
 | cons r rr=>
  cases rr with
  | cons r' rr=>
   cases rr
   obtain ⟨t,rfl⟩:=r;obtain ⟨t',rfl⟩:=r';exact call_range_2 (LK I1 q1 q2 q3 q4 q)
def tFor (wi:TI) (g:TG) (tb:TS):TS:=fun D σ H=>wi σ H fun J H1=>∃ W:Nat->Nat->St->Hp->Prop,(∃ m,W 0 m σ H1)/\∀ i m σ H,W i m σ H ->
 (J.stop i H/\D.nx σ H)\/(J.go i H/\∃ N:St->Hp->Prop,(∀ A3 H',N A3 H'->∃ m',m' < m/\W (i + 1) m' A3 H')/\∀ x H',J.yld i H x H'->g x σ H' fun AA H2=>tb { D with nx:=N,ct:=N,bk:=D.nx } AA H2)
def EG (fp:List Addr) (h:Heap):List (Addr × Obj):=fp.filterMap fun b=>(h.get? b).map fun o=>(b,o)
theorem B0 {fp:List Addr} {h:Heap} {b:Addr} {o:Obj} (hb:b ∈ fp) (e:h.get? b=some o):(b,o) ∈ EG fp h:=c0.mpr ⟨b,hb,by rw [e]; rfl⟩
theorem Pd {fp:List Addr} {h:Heap} {p:Addr × Obj} (hp:p ∈ EG fp h):p.1 ∈ fp/\h.get? p.1=some p.2:=by
 obtain ⟨b,hb,e⟩:=c0.mp hp;cases q:h.get? b with
 | none=>rw [q] at e; cases e
 | some o=>
  rw [q] at e;have e':(b,o)=p:=ZR.inj e;subst e';exact ⟨hb,q⟩
theorem Aw.pinned {pins:List (Addr × Obj)} {σ:St} {H:Hp} {s:Shared} {fp:List Addr} (I:Aw X pins σ H s) (hf:∀ b ∈ fp,EU X pins H b) (ho:∀ b ∈ fp,∃ o,s.heap.get? b=some o/\∀ v,o.data ≠ .cell v):Aw X (pins ++ EG fp s.heap) σ H s:=
 I.pins_of fun p hp=>(ZM.mp hp).elim (fun z=>I.pin p (ZF _ z)) fun z=>by
  obtain ⟨hb,e⟩:=Pd z;obtain ⟨f0,f1,f2,_⟩:=hf p.1 hb;obtain ⟨o,e',d⟩:=ho p.1 hb;rw [e] at e'; cases e';exact ⟨e,f0,f1,f2,d⟩
theorem Aw.unpinned {pins pl:List (Addr × Obj)} {σ:St} {H:Hp} {s:Shared} (I:Aw X (pins ++ pl) σ H s):Aw X pins σ H s:=I.pins_of fun p hp=>I.pin p (ZF _ (av _ hp))
theorem BB {iter:Expr} {body:List Stmt} {wi:TI} {g:TG} {tb:TS} {pos:Pos} (hp:PassesOwn (model X.prog X.w) X.A X.env X.xe) (hc:X.calm=true) (hi:PI X tg iter wi) (hg:PG X tg g) (hb:Mt X body tb)
  (hs:∀ x,foldedSetIterable iter X.env x=pure x:=by intro _; rfl):PS X (.For tg iter body [] pos) (tFor wi g tb):=by
 intro pins s σ H D I h;refine wpAny_For (Bx (hi (pins:=pins) s σ H _ I h) fun v s1 h1=>Bx h1 fun itv s2 h2=>?_) hs;obtain ⟨it,fp,tn,J,H2,e,I2,T,Hz,f2,W,⟨m0,w0⟩,turn⟩:=h2;subst e;have stat:∀ {H':Hp},(∀ b ∈ fp,H' b=none)->∀ b ∈ fp,EU X pins H' b:=fun hn b hb=>⟨hn b hb,(f2 b hb).2⟩
 refine codeAny_forLoop_any (fun n s'=>∃ i A3 H',Aw X pins A3 H' s'/\tn i s'.heap/\(∀ b ∈ fp,H' b=none)/\W i n A3 H') ?_ m0 ⟨0,σ,H2,I2,Hz,fun b hb=>(f2 b hb).1,w0⟩;rintro n s3 ⟨i,Qe,H3,I3,Yv,fr3,w3⟩;rcases turn i n Qe H3 w3 with ⟨stop,qn⟩ | ⟨go,N,hN,step⟩
 ·refine wpAny_passesOwn hp (Bx (T.done X rfl rfl rfl hc i (pins:=pins) s3 Qe H3 X.xe I3 (stat fr3) Yv stop) fun r s4 ⟨hr,I4⟩=>?_);subst hr;exact wpAny_execs_nil ⟨Qe,H3,I4,qn⟩
 ·refine wpAny_passesOwn hp (Bx (T.item X rfl rfl rfl hc i (pins:=pins) s3 Qe H3 X.xe I3 (stat fr3) Yv go) fun r s4 ⟨u,hr,h4⟩=>?_);subst hr;refine wpAny_passesOwn hp (Bx h4 fun _ s5 ⟨x,H5,I5,r5,y5,Yu,fr5⟩=>?_);have I5':=I5.pinned (stat fr5) (T.obj _ _ Yu);refine wpAny_passesOwn hp (Bx (hg s5 Qe H5 x u _ I5' r5 (step x H5 y5)) fun _ s6 ⟨σ6,H6,I6,q6⟩=>?_);refine wpAny_passesOwn hp (Bx (hb s6 σ6 H6 _ I6 q6) fun f s7 q7=>?_);have again:∀ {FA:St} {H7:Hp},Aw X (pins ++ EG fp s5.heap) FA H7 s7->N FA H7->∃ m,m < n/\∃ i A3 H',Aw X pins A3 H' s7/\tn i s7.heap/\(∀ b ∈ fp,H' b=none)/\W i m A3 H':=fun {FA H7} I7 n7=>by
   obtain ⟨m',hm,w7⟩:=hN FA H7 n7;refine ⟨m',hm,i + 1,FA,H7,I7.unpinned,T.keep _ _ _ Yu fun b hb o e=>(I7.pin (b,o) (ZF _ (ZF _ (B0 hb e)))).1,fun b hb=>?_,w7⟩;obtain ⟨o,e,d⟩:=T.obj _ _ Yu b hb;exact (I7.pin (b,o) (ZF _ (ZF _ (B0 hb e)))).2.1
  cases f with
  | next=>obtain ⟨FA,H7,I7,n7⟩:=q7; exact again I7 n7
  | cont=>obtain ⟨FA,H7,I7,n7⟩:=q7; exact again I7 n7
  | brk=>obtain ⟨FA,H7,I7,q7⟩:=q7; exact ⟨FA,H7,I7.unpinned,q7⟩
  | ret v=>obtain ⟨x7,FA,H7,I7,r7,q7⟩:=q7; exact ⟨x7,FA,H7,I7.unpinned,r7,q7⟩
end
theorem Ol {K:Z1} {a:Addr} {xs:List V} {g:TG} {tb:TS} {D:EV} {σ:St} {H:Hp} (Pv:Nat->St->Hp->Prop) (h0:Pv 0 σ H) (hl:∀ i σ H,i<=xs.length->Pv i σ H->A1 K H a xs)
  (hs:∀ i x σ H,xs[i]? = some x->Pv i σ H->g x σ H fun AA H2=>tb { D with nx:=Pv (i + 1),ct:=Pv (i + 1),bk:=D.nx } AA H2) (hd:∀ σ H,Pv xs.length σ H->D.nx σ H) :
  ∃ W:Nat->Nat->St->Hp->Prop,(∃ m,W 0 m σ H)/\∀ i m σ H,W i m σ H ->
   ((PU K a).stop i H/\D.nx σ H)\/((PU K a).go i H/\∃ N:St->Hp->Prop,(∀ A3 H',N A3 H'->∃ m',m' < m/\W (i + 1) m' A3 H')/\∀ x H',(PU K a).yld i H x H'->g x σ H' fun AA H2=>tb { D with nx:=N,ct:=N,bk:=D.nx } AA H2):=by
 exists fun i m σ H=>m=xs.length - i/\i<=xs.length/\Pv i σ H,⟨xs.length,by simp,ZX _,h0⟩
 rintro i m σ H ⟨rfl,hi,p⟩;have q:=hl i σ H hi p;by_cases B5:i < xs.length
 ·refine .inr ⟨⟨xs,xs[i],q,by simp [B5]⟩,Pv (i + 1),fun A3 H' p'=>⟨xs.length - (i + 1),by lia,rfl,B5,p'⟩,fun x H' y=>?_⟩;obtain ⟨e,y⟩:=y;subst e;exact hs i x σ _ (y xs q) p
 ·have e:i=xs.length:=by lia
  subst e;exact .inl ⟨⟨xs,q,Z4 _⟩,hd σ H p⟩
theorem Dn {lo:Int} {n:Nat} {g:TG} {tb:TS} {D:EV} {σ:St} {H:Hp} (Pv:Nat->St->Hp->Prop) (h0:Pv 0 σ H)
  (hs:∀ i σ H,i < n->Pv i σ H->g (.int (lo + i)) σ H fun AA H2=>tb { D with nx:=Pv (i + 1),ct:=Pv (i + 1),bk:=D.nx } AA H2) (hd:∀ σ H,Pv n σ H->D.nx σ H) :
  ∃ W:Nat->Nat->St->Hp->Prop,(∃ m,W 0 m σ H)/\∀ i m σ H,W i m σ H ->
   ((RY lo n).stop i H/\D.nx σ H)\/((RY lo n).go i H/\∃ N:St->Hp->Prop,(∀ A3 H',N A3 H'->∃ m',m' < m/\W (i + 1) m' A3 H')/\∀ x H',(RY lo n).yld i H x H'->g x σ H' fun AA H2=>tb { D with nx:=N,ct:=N,bk:=D.nx } AA H2):=by
 exists fun i m σ H=>m=n - i/\i<=n/\Pv i σ H,⟨n,by simp,ZX _,h0⟩
 rintro i m σ H ⟨rfl,hi,p⟩;by_cases B5:i < n
 ·refine .inr ⟨B5,Pv (i + 1),fun A3 H' p'=>⟨n - (i + 1),by lia,rfl,B5,p'⟩,fun x H' y=>?_⟩;obtain ⟨e,y⟩:=y;subst e y;exact hs i σ _ B5 p
 ·have e:i=n:=by lia
  subst e;exact .inl ⟨Z4 _,hd σ H p⟩
abbrev R2:=V->V->Hp->VK->Prop
def E8 (X:Cx) (f:Value->Value->Sem Value) (r:R2):Prop:=
 ∀ ⦃pins:List (Addr × Obj)⦄ (s:Shared) (σ:St) (H:Hp) (x y:V) (v u:Value) (Q:VK),Aw X pins σ H s->AG x v->AG y u->r x y H Q ->
  wpAny (model X.prog X.w) X.A (f v u) (EP X pins σ Q) X.xe s
def UnR (X:Cx) (f:Value->Sem Value) (r:V->Hp->VK->Prop):Prop:=
 ∀ ⦃pins:List (Addr × Obj)⦄ (s:Shared) (σ:St) (H:Hp) (x:V) (v:Value) (Q:VK),Aw X pins σ H s->AG x v->r x H Q ->
  wpAny (model X.prog X.w) X.A (f v) (EP X pins σ Q) X.xe s
def Bw (X:Cx) (f:Value) (r:List V->Hp->VK->Prop):Prop:=
 ∀ ⦃pins:List (Addr × Obj)⦄ (s:Shared) (σ:St) (H:Hp) (xs:List V) (us:List Value) (Q:VK),Aw X pins σ H s->AD xs us->r xs H Q ->
  wpAny (model X.prog X.w) X.A (call f us) (EP X pins σ Q) X.xe s
def TruR (X:Cx) (r:V->Hp->(Bool->Hp->Prop)->Prop):Prop:=
 ∀ ⦃pins:List (Addr × Obj)⦄ (s:Shared) (σ:St) (H:Hp) (x:V) (v:Value) (Q:Bool->Hp->Prop),Aw X pins σ H s->AG x v->r x H Q ->
  wpAny (model X.prog X.w) X.A (truthy v) (TP X pins σ Q) X.xe s
def tOp (r:R2) (ta tb:TE):TE:=fun σ H Q=>ta σ H fun x H1=>tb σ H1 fun y H2=>r x y H2 Q
def tUn (r:V->Hp->VK->Prop) (ta:TE):TE:=fun σ H Q=>ta σ H fun x H1=>r x H1 Q
def rI (C:Int->Int->Prop) (g:Int->Int->V):R2:=fun x y H Q=>∃ i j,x=.int i/\y=.int j/\C i j/\Q (g i j) H
def TM (g:Int->Int->V):R2:=fun x y H Q=>∃ i j,x=.int i/\y=.int j/\Q (g i j) H
def rU (g:Int->V):V->Hp->VK->Prop:=fun x H Q=>∃ i,x=.int i/\Q (g i) H
section
variable {X:Cx} {a b c:Expr} {ta tb tc:TE} {pos:Pos}
theorem V5 (ha:PE X a ta) (hb:PE X b tb) {pins:List (Addr × Obj)} {s:Shared} {σ:St} {H:Hp} {R:V->V->Hp->Prop} (I:Aw X pins σ H s)
  (h:ta σ H fun x H1=>tb σ H1 fun y H2=>R x y H2) {Q:Value->Shared->Prop} {f:Value->Value->Sem Value}
  (hf:∀ v u s2 x y H2,Aw X pins σ H2 s2->AG x v->AG y u->R x y H2->wpAny (model X.prog X.w) X.A (f v u) Q X.xe s2) :
  wpAny (model X.prog X.w) X.A (eval a X.env) (fun v AU=>wpAny (model X.prog X.w) X.A (eval b X.env) (fun u E9=>wpAny (model X.prog X.w) X.A (f v u) Q X.xe E9) X.xe AU) X.xe s:=by
 refine Bx (ha (pins:=pins) s σ H _ I h) fun v s1 ⟨x,H1,I1,r1,q1⟩=>?_
 refine Bx (hb (pins:=pins) s1 σ H1 _ I1 q1) fun u s2 ⟨y,H2,I2,r2,q2⟩=>?_
 exact hf v u s2 x y H2 I2 r1 r2 q2
theorem Ay {op:Operator} {r:R2} (ho:E8 X (binaryOp op) r) (ha:PE X a ta) (hb:PE X b tb):PE X (.BinOp a op b pos) (tOp r ta tb):=by
 intro pins s σ H Q I h;exact wpAny_BinOp (V5 ha hb I h fun v u s2 x y H2 I2 rx ry q=>ho (pins:=pins) s2 σ H2 x y v u Q I2 rx ry q)
theorem TR {op:UnaryOp} {r:V->Hp->VK->Prop} (ho:UnR X (unaryOp op) r) (ha:PE X a ta):PE X (.UnaryOp op a pos) (tUn r ta):=by
 intro pins s σ H Q I h;exact UnaryOp_ (Bx (ha (pins:=pins) s σ H _ I h) fun v s1 ⟨x,H1,I1,r1,q1⟩=>ho (pins:=pins) s1 σ H1 x v Q I1 r1 q1)
theorem opI {f:Value->Value->Sem Value} {C:Int->Int->Prop} {g:Int->Int->Int}
  (rule:∀ (i j:Int) (t u:Tok) (s:Shared) (Q:Value->Shared->Prop) (E:Value->Shared->Prop),C i j->Q (.int (g i j) s.toks) { s with toks:=s.toks + 1 }->wpAny (model X.prog X.w) X.A (f (.int i t) (.int j u)) Q E s) :
  E8 X f (rI C fun i j=>.int (g i j)):=by
 intro pins s σ H x y v u Q I rx ry h;obtain ⟨i,j,rfl,rfl,hc,q⟩:=h;obtain ⟨t,rfl⟩:=rx;obtain ⟨t',rfl⟩:=ry;exact rule i j t t' s _ _ hc ⟨.int (g i j),H,I.tok _,⟨_,rfl⟩,q⟩
theorem opI0 {f:Value->Value->Sem Value} {g:Int->Int->Int}
  (rule:∀ (i j:Int) (t u:Tok) (s:Shared) (Q:Value->Shared->Prop) (E:Value->Shared->Prop),Q (.int (g i j) s.toks) { s with toks:=s.toks + 1 }->wpAny (model X.prog X.w) X.A (f (.int i t) (.int j u)) Q E s) :
  E8 X f (TM fun i j=>.int (g i j)):=by
 intro pins s σ H x y v u Q I rx ry h;obtain ⟨i,j,rfl,rfl,q⟩:=h;obtain ⟨t,rfl⟩:=rx;obtain ⟨t',rfl⟩:=ry;exact rule i j t t' s _ _ ⟨.int (g i j),H,I.tok _,⟨_,rfl⟩,q⟩
theorem Sz {f:Value->Value->Sem Value} {g:Int->Int->Bool}
  (rule:∀ (i j:Int) (t u:Tok) (s:Shared) (Q:Value->Shared->Prop) (E:Value->Shared->Prop),Q (.bool (g i j)) s->wpAny (model X.prog X.w) X.A (f (.int i t) (.int j u)) Q E s) :
  E8 X f (TM fun i j=>.bl (g i j)):=by
 intro pins s σ H x y v u Q I rx ry h;obtain ⟨i,j,rfl,rfl,q⟩:=h;obtain ⟨t,rfl⟩:=rx;obtain ⟨t',rfl⟩:=ry;exact rule i j t t' s _ _ ⟨.bl (g i j),H,I,rfl,q⟩
def CPow (i j:Int):Prop:=0<=j/\j<=1000000/\i.natAbs < 2 ^ 64
def VG (i j:Int):Prop:=(-(2 ^ 64) < i/\i < 2 ^ 64)\/(-(2 ^ 64) < j/\j < 2 ^ 64)
theorem VG.ok {i j:Int} (h:VG i j):IntMulOk i j:=by
 rcases h with ⟨h1,h2⟩ | ⟨h1,h2⟩
 ·exact .of_left (intBits_le_64 h1 h2)
 ·exact .of_right (intBits_le_64 h1 h2)
theorem Ba:E8 X (binaryOp .Add) (TM fun i j=>.int (i + j)):=opI0 fun _ _ _ _ _ _ _ q=>add_int q
theorem KN:E8 X (binaryOp .Sub) (TM fun i j=>.int (i - j)):=opI0 fun _ _ _ _ _ _ _ q=>sub_int q
theorem C5:E8 X (binaryOp .Mult) (rI VG fun i j=>.int (i * j)):=opI fun _ _ _ _ _ _ _ hc q=>mul_int q hc.ok
theorem EH:E8 X (binaryOp .Mod) (rI (fun _ j=>0 < j) fun i j=>.int (i % j)):=opI fun i j _ _ _ _ _ hc q=>by
 have h1:(0:Int) < j:=hc;exact mod_int' (by lia) (by rw [Int.fmod_eq_emod_of_nonneg i (by lia)]; exact q)
theorem MK:E8 X (binaryOp .Pow) (rI CPow fun i j=>.int (i ^ j.toNat)):=opI fun _ _ _ _ _ _ _ hc q=>pow_int_small hc.1 hc.2.1 hc.2.2 q
theorem unI {f:Value->Sem Value} {g:Int->Int}
  (rule:∀ (i:Int) (t:Tok) (s:Shared) (Q:Value->Shared->Prop) (E:Value->Shared->Prop),Q (.int (g i) s.toks) { s with toks:=s.toks + 1 }->wpAny (model X.prog X.w) X.A (f (.int i t)) Q E s) :
  UnR X f (rU fun i=>.int (g i)):=by
 intro pins s σ H x v Q I rx h;obtain ⟨i,rfl,q⟩:=h;obtain ⟨t,rfl⟩:=rx;exact rule i t s _ _ ⟨.int (g i),H,I.tok _,⟨_,rfl⟩,q⟩
theorem Qp:UnR X (unaryOp .USub) (rU fun i=>.int (-i)):=unI fun _ _ _ _ _ q=>neg_int q
end
def scal:V->V->Bool
 | .non,.non=>true | .non,.int _=>true | .int _,.non=>true | .non,.bl _=>true | .bl _,.non=>true | .non,.str _=>true | .str _,.non=>true
 | .int _,.int _=>true | .bl _,.bl _=>true | .str _,.str _=>true | .byt _,.byt _=>true
 | .int _,.str _=>true | .str _,.int _=>true | .bl _,.str _=>true | .str _,.bl _=>true
 | _,_=>false
def rEq:R2:=fun x y H Q=>scal x y=true/\Q (.bl (decide (x=y))) H
def rNe:R2:=fun x y H Q=>scal x y=true/\Q (.bl (!decide (x=y))) H
theorem Oq {i j:Int}:decide (V.int i=V.int j)=(i == j):=by
 rw [aA];simp
theorem RI {i j:Bool}:decide (V.bl i=V.bl j)=(i == j):=by
 rw [aA];simp
theorem Oo {i j:Str}:decide (V.str i=V.str j)=(i == j):=by
 rw [aA];simp
theorem Ot {i j:Array UInt8}:decide (V.byt i=V.byt j)=(i.toList == j.toList):=by
 rw [aA];cases i
 cases j
 simp
section
variable {X:Cx} {a b c:Expr} {ta tb tc:TE} {pos:Pos}
theorem Bf {pins:List (Addr × Obj)} {σ:St} {H:Hp} {s:Shared} {Q:VK} {k k':Bool} (I:Aw X pins σ H s) (q:Q (.bl k) H) (e:k=k'):EP X pins σ Q (.bool k') s:=by
 subst e;exact ⟨.bl k,H,I,rfl,q⟩
theorem E5:E8 X (compareOp .Eq) rEq:=by
 intro pins s σ H x y v u Q I rx ry h;obtain ⟨hs,q⟩:=h;cases x with
 | non=>
  cases rx
  cases y with
  | non=>cases ry; exact PySem.EqNone.eq_none_none (Bf I q (by simp))
  | bl j=>cases ry; exact PySem.EqNone.eq_none_bool (Bf I q (by simp))
  | int j=>obtain ⟨t',rfl⟩:=ry; exact PySem.EqNone.eq_none_int (Bf I q (by simp))
  | str j=>obtain ⟨t',rfl⟩:=ry; exact PySem.EqNone.eq_none_str (Bf I q (by simp))
  | _=>exact absurd (show false=true from hs) ZI
 | bl i=>
  cases rx
  cases y with
  | non=>cases ry; exact PySem.EqNone.eq_bool_none (Bf I q (by simp))
  | bl j=>cases ry; exact eq_bool (Bf I q RI)
  | str j=>obtain ⟨t',rfl⟩:=ry; exact PySem.EqMixed.eq_bool_str (Bf I q (by simp))
  | _=>exact absurd (show false=true from hs) ZI
 | int i=>
  obtain ⟨t,rfl⟩:=rx;cases y with
  | non=>cases ry; exact PySem.EqNone.eq_int_none (Bf I q (by simp))
  | int j=>obtain ⟨t',rfl⟩:=ry; exact eq_int (Bf I q Oq)
  | str j=>obtain ⟨t',rfl⟩:=ry; exact PySem.EqMixed.eq_int_str (Bf I q (by simp))
  | _=>exact absurd (show false=true from hs) ZI
 | str i=>
  obtain ⟨t,rfl⟩:=rx;cases y with
  | non=>cases ry; exact PySem.EqNone.eq_str_none (Bf I q (by simp))
  | bl j=>cases ry; exact PySem.EqMixed.eq_str_bool (Bf I q (by simp))
  | int j=>obtain ⟨t',rfl⟩:=ry; exact PySem.EqMixed.eq_str_int (Bf I q (by simp))
  | str j=>obtain ⟨t',rfl⟩:=ry; exact eq_str (Bf I q Oo)
  | _=>exact absurd (show false=true from hs) ZI
 | byt i=>
  obtain ⟨t,rfl⟩:=rx;cases y with
  | byt j=>obtain ⟨t',rfl⟩:=ry; exact PySem.W.eq_bytes (Bf I q Ot)
  | _=>exact absurd (show false=true from hs) ZI
 | _=>cases y <;> exact absurd (show false=true from hs) ZI
theorem Hg:E8 X (compareOp .NotEq) rNe:=by
 intro pins s σ H x y v u Q I rx ry h;obtain ⟨hs,q⟩:=h;cases x with
 | non=>
  cases rx
  cases y with
  | non=>cases ry; exact PySem.EqNone.ne_none_none (Bf I q (by simp))
  | bl j=>cases ry; exact PySem.EqNone.ne_none_bool (Bf I q (by simp))
  | int j=>obtain ⟨t',rfl⟩:=ry; exact PySem.EqNone.ne_none_int (Bf I q (by simp))
  | str j=>obtain ⟨t',rfl⟩:=ry; exact PySem.EqNone.ne_none_str (Bf I q (by simp))
  | _=>exact absurd (show false=true from hs) ZI
 | bl i=>
  cases rx
  cases y with
  | non=>cases ry; exact PySem.EqNone.ne_bool_none (Bf I q (by simp))
  | bl j=>cases ry; exact ne_bool (Bf I q (congrArg not RI))
  | str j=>obtain ⟨t',rfl⟩:=ry; exact PySem.EqMixed.ne_bool_str (Bf I q (by simp))
  | _=>exact absurd (show false=true from hs) ZI
 | int i=>
  obtain ⟨t,rfl⟩:=rx;cases y with
  | non=>cases ry; exact PySem.EqNone.ne_int_none (Bf I q (by simp))
  | int j=>obtain ⟨t',rfl⟩:=ry; exact ne_int (Bf I q (congrArg not Oq))
  | str j=>obtain ⟨t',rfl⟩:=ry; exact PySem.EqMixed.ne_int_str (Bf I q (by simp))
  | _=>exact absurd (show false=true from hs) ZI
 | str i=>
  obtain ⟨t,rfl⟩:=rx;cases y with
  | non=>cases ry; exact PySem.EqNone.ne_str_none (Bf I q (by simp))
  | bl j=>cases ry; exact PySem.EqMixed.ne_str_bool (Bf I q (by simp))
  | int j=>obtain ⟨t',rfl⟩:=ry; exact PySem.EqMixed.ne_str_int (Bf I q (by simp))
  | str j=>obtain ⟨t',rfl⟩:=ry; exact ne_str (Bf I q (congrArg not Oo))
  | _=>exact absurd (show false=true from hs) ZI
 | byt i=>
  obtain ⟨t,rfl⟩:=rx;cases y with
  | byt j=>obtain ⟨t',rfl⟩:=ry; exact PySem.W.ne_bytes (Bf I q (congrArg not Ot))
  | _=>exact absurd (show false=true from hs) ZI
 | _=>cases y <;> exact absurd (show false=true from hs) ZI
theorem Rg:E8 X (compareOp .Lt) (TM fun i j=>.bl (decide (i < j))):=Sz fun _ _ _ _ _ _ _ q=>lt_int q
theorem Kh:E8 X (compareOp .LtE) (TM fun i j=>.bl (decide (i<=j))):=Sz fun _ _ _ _ _ _ _ q=>le_int q
theorem Rh:E8 X (compareOp .Gt) (TM fun i j=>.bl (decide (j < i))):=Sz fun _ _ _ _ _ _ _ q=>gt_int q
theorem Ri:E8 X (compareOp .GtE) (TM fun i j=>.bl (decide (j<=i))):=Sz fun _ _ _ _ _ _ _ q=>ge_int q
theorem AO (b:Expr) {op:CmpOp} (h:op ≠ .In:=by decide) (h2:op ≠ .NotIn:=by decide):behindInMarks op b=false:=by
 have e1:(op == CmpOp.In)=false:=by cases op <;> first | rfl | exact absurd rfl h
 have e2:(op == CmpOp.NotIn)=false:=by cases op <;> first | rfl | exact absurd rfl h2
 cases b <;> simp [behindInMarks,e1,e2]
theorem BS {op:CmpOp} {r:R2} (ho:E8 X (compareOp op) r) (ha:PE X a ta) (hb:PE X b tb) (hm:behindInMarks op b=false):PE X (.Compare a [op] [b] pos) (tOp r ta tb):=by
 intro pins s σ H Q I h;exact wpAny_Compare1 (V5 ha hb I h fun v u s2 x y H2 I2 rx ry q=>ho (pins:=pins) s2 σ H2 x y v u Q I2 rx ry q) hm
def Tw (t:TE):TT:=fun σ H Q=>t σ H fun x H'=>∃ k,x=.bl k/\Q k H'
theorem AN {op:CmpOp} {r:R2} (ho:E8 X (compareOp op) r) (ha:PE X a ta) (hb:PE X b tb) (hm:behindInMarks op b=false):PT X (.Compare a [op] [b] pos) (Tw (tOp r ta tb)):=by
 intro pins s σ H Q I h;refine wpAny_isTrue_Compare1 (Bx (ha (pins:=pins) s σ H _ I h) fun v s1 ⟨x,H1,I1,r1,q1⟩=>Bx (hb (pins:=pins) s1 σ H1 _ I1 q1) fun u s2 ⟨y,H2,I2,r2,q2⟩=>
  Bx (ho (pins:=pins) s2 σ H2 x y v u _ I2 r1 r2 q2) fun c s3 ⟨z,H3,I3,r3,k,e,q3⟩=>?_) hm
 subst e;cases r3
 exact wpAny_truthy_bool ⟨H3,I3,q3⟩
def M7 (r r':R2) (ta tb tc:TE):TE:=fun σ H Q=>ta σ H fun x H1=>tb σ H1 fun y H2=>r x y H2 fun z H3=>∃ k,z=.bl k /\
 (if k=true then tc σ H3 fun w' H4=>r' y w' H4 Q else Q (.bl false) H3)
theorem QZ {op Vd:CmpOp} {r r':R2} (ho:E8 X (compareOp op) r) (HZ:E8 X (compareOp Vd) r') (ha:PE X a ta) (hb:PE X b tb) (hc:PE X c tc)
  (hm:lastMarks [op,Vd] [b,c]=false:=by with_unfolding_all rfl):PE X (.Compare a [op,Vd] [b,c] pos) (M7 r r' ta tb tc):=by
 intro pins s σ H Q I h;refine Compare_chain (Bx (ha (pins:=pins) s σ H _ I h) fun v s1 ⟨x,H1,I1,r1,q1⟩=>chain_link (Bx (hb (pins:=pins) s1 σ H1 _ I1 q1) fun u s2 ⟨y,H2,I2,r2,q2⟩=>
  Bx (ho (pins:=pins) s2 σ H2 x y v u _ I2 r1 r2 q2) fun d s3 ⟨z,H3,I3,r3,k,e,q3⟩=>?_)) hm
 subst e;cases r3
 refine wpAny_truthy_bool ?_;cases k with
 | false=>exact ite_ff ⟨.bl false,H3,I3,rfl,q3⟩
 | true=>exact ite_tt (chain_last (Bx (hc (pins:=pins) s3 σ H3 _ I3 q3) fun w' s4 ⟨z',H4,I4,r4,q4⟩=>HZ (pins:=pins) s4 σ H4 y z' u w' Q I4 r2 r4 q4))
theorem IC {op Vd:CmpOp} {r r':R2} (ho:E8 X (compareOp op) r) (HZ:E8 X (compareOp Vd) r') (ha:PE X a ta) (hb:PE X b tb) (hc:PE X c tc)
  (hm:lastMarks [op,Vd] [b,c]=false:=by with_unfolding_all rfl):PT X (.Compare a [op,Vd] [b,c] pos) (Tw (M7 r r' ta tb tc)):=by
 intro pins s σ H Q I h;refine isTrue_chain (Bx (ha (pins:=pins) s σ H _ I h) fun v s1 ⟨x,H1,I1,r1,q1⟩=>test_link (Bx (hb (pins:=pins) s1 σ H1 _ I1 q1) fun u s2 ⟨y,H2,I2,r2,q2⟩=>
  Bx (ho (pins:=pins) s2 σ H2 x y v u _ I2 r1 r2 q2) fun d s3 ⟨z,H3,I3,r3,k,e,q3⟩=>?_)) hm
 subst e;cases r3
 refine wpAny_truthy_bool ?_;cases k with
 | false=>
  obtain ⟨k',e',q'⟩:=q3;cases e'
  exact ite_ff ⟨H3,I3,q'⟩
 | true=>
  refine ite_tt (test_last (Bx (hc (pins:=pins) s3 σ H3 _ I3 q3) fun w' s4 ⟨z',H4,I4,r4,q4⟩=>Bx (HZ (pins:=pins) s4 σ H4 y z' u w' _ I4 r2 r4 q4) fun d' s5 ⟨z2,H5,I5,r5,k2,e2,q5⟩=>?_));subst e2;cases r5
  exact wpAny_truthy_bool ⟨H5,I5,q5⟩
def TruV (K:Z1) (x:V) (H:Hp) (k:Bool):Prop:=
 match x with
 | .non=>k=false
 | .bl b=>k=b
 | .int i=>k=(i != 0)
 | .str y=>y.length<=sizeLine/\k=((y.length:Int) != 0)
 | .byt y=>y.size<=sizeLine/\k=((y.size:Int) != 0)
 | .ref p=>(∃ xs,AS K H p xs/\k = !xs.isEmpty)\/(∃ xs,A1 K H p xs/\k = !xs.isEmpty)\/∃ kvs,H p=some (.dK kvs)/\k = !kvs.isEmpty
 | _=>False
theorem MY {κ:Type} {kvs:List (κ × V)} {vs:List (κ × Value)} (r:KV kvs vs):(!vs.isEmpty) = !kvs.isEmpty:=by
 cases r <;> rfl
theorem IX {xs:List V} {Ar:List Value} (r:AD xs Ar):(!Ar.toArray.isEmpty) = !xs.isEmpty:=by
 cases r <;> simp
theorem F0:(sizeLine:Nat) < 2 ^ 63:=by rw [sizeLine_eq]; decide
theorem U8:TruR X (fun x H Q=>∃ k,TruV X.K x H k/\Q k H):=by
 intro pins s σ H x v Q I rx h;obtain ⟨k,e,q⟩:=h;have hl:=F0;have hs:sizeLine=16777216:=sizeLine_eq;cases x with
 | non=>
  cases rx
  have e':k=false:=e;subst e';exact truthy_none ⟨H,I,q⟩
 | bl b=>
  cases rx
  have e':k=b:=e;subst e';exact wpAny_truthy_bool ⟨H,I,q⟩
 | int i=>
  obtain ⟨t,rfl⟩:=rx;have e':k=(i != 0):=e;subst e';exact PySem.P.truthy_int ⟨H,I,q⟩
 | str y=>
  obtain ⟨t,rfl⟩:=rx;obtain ⟨hy,e'⟩:y.length<=sizeLine/\k=((y.length:Int) != 0):=e;subst e';exact PySem.P.truthy_str (by lia) ⟨H,I.tok _,q⟩
 | byt y=>
  obtain ⟨t,rfl⟩:=rx;obtain ⟨hy,e'⟩:y.size<=sizeLine/\k=((y.size:Int) != 0):=e;subst e';exact PySem.W.truthy_bytes (by lia) ⟨H,I.tok _,q⟩
 | ref p=>
  cases rx
  have e':(∃ xs,AS X.K H p xs/\k = !xs.isEmpty)\/(∃ xs,A1 X.K H p xs/\k = !xs.isEmpty)\/∃ kvs,H p=some (.dK kvs)/\k = !kvs.isEmpty:=e;rcases e' with ⟨xs,hx,e'⟩ | ⟨xs,hx,e'⟩ | ⟨kvs,hx,e'⟩
  ·subst e';obtain ⟨Ar,r,pl,hz⟩:=I.list hx;have hlen:=r.length;exact wpAny_truthy_list pl.isList (by simp only [ZG]; lia) ⟨H,I.tok _,by rw [IX r]; exact q⟩
  ·subst e';obtain ⟨Ar,r,pl,hz⟩:=I.tuple hx;have hlen:=r.length;exact truthy_tuple pl (by simp only [ZG]; lia) ⟨H,I.tok _,by rw [IX r]; exact q⟩
  ·subst e';obtain ⟨hz,hS,vs,r,m⟩:kvs.length<=sizeLine/\(p == sysModules)=false/\∃ vs,KV kvs vs/\s.heap.DictOf (AX X.prog X.w) p vs:=I.hok p _ hx;have hlen:kvs.length=vs.length:=Paired.length r;exact wpAny_truthy_dict hS m (by lia) ⟨H,I.tok _,by rw [MY r]; exact q⟩
 | _=>exact (show False from e).elim
theorem QO (ha:PE X a ta) (he:∀ whole,isTrue a X.env whole=(do let v <- whole; standAt a.pos; holding [v] (truthy v))) :
  PT X a (fun σ H Q=>ta σ H fun x H'=>∃ k,TruV X.K x H' k/\Q k H'):=by
 intro pins s σ H Q I h;exact isTrue_plain (Bx (ha (pins:=pins) s σ H _ I h) fun v s1 ⟨x,H1,I1,r1,q1⟩=>U8 (pins:=pins) s1 σ H1 x v Q I1 r1 q1) (he _)
theorem Fz:E8 X (binaryOp .Add) (fun x y H Q=>∃ i j,x=.str i/\y=.str j/\i.length + j.length<=sizeLine/\Q (.str (i ++ j)) H):=by
 intro pins s σ H x y v u Q I rx ry h;obtain ⟨i,j,rfl,rfl,hz,q⟩:=h;obtain ⟨t,rfl⟩:=rx;obtain ⟨t',rfl⟩:=ry;exact add_str (fun t' tk=>⟨.str (i ++ j),H,I.tok _,⟨_,rfl⟩,q⟩) hz
theorem Cv {x:V} {us:List Value} (r:AD [x] us):∃ u,us=[u]/\AG x u:=by
 cases r with
 | cons r1 r2=>cases r2; exact ⟨_,rfl,r1⟩
theorem Nz {x y:V} {us:List Value} (r:AD [x,y] us):∃ u w',us=[u,w']/\AG x u/\AG y w':=by
 cases r with
 | cons r1 r2=>
  cases r2 with
  | cons r3 r4=>cases r4; exact ⟨_,_,rfl,r1,r3⟩
theorem Mq:Bw X (.builtin "abs") (fun xs H Q=>∃ i,xs=[.int i]/\Q (.int (if i < 0 then -i else i)) H):=by
 intro pins s σ H xs us Q I r h;obtain ⟨i,rfl,q⟩:=h;obtain ⟨u,rfl,t,rfl⟩:=Cv r;exact call_abs_int fun u tk=>⟨.int (if i < 0 then -i else i),H,I.tok _,⟨_,rfl⟩,q⟩
theorem G9 (hc:X.calm=true):Bw X (.builtin "max") (fun xs H Q=>∃ i j,xs=[.int i,.int j]/\Q (.int (if j > i then j else i)) H):=by
 intro pins s σ H xs us Q I r h;obtain ⟨i,j,rfl,q⟩:=h;obtain ⟨u,w',rfl,⟨t,rfl⟩,⟨t',rfl⟩⟩:=Nz r;refine max_two_ints (I.ok.hd hc) fun h' tk k=>⟨_,H,I.kept k,?_,q⟩
 by_cases hj:j > i
 ·rw [if_pos hj,if_pos hj]; exact ⟨_,rfl⟩
 ·rw [if_neg hj,if_neg hj]; exact ⟨_,rfl⟩
theorem Kt (hc:X.calm=true):Bw X (.builtin "min") (fun xs H Q=>∃ i j,xs=[.int i,.int j]/\Q (.int (if j < i then j else i)) H):=by
 intro pins s σ H xs us Q I r h;obtain ⟨i,j,rfl,q⟩:=h;obtain ⟨u,w',rfl,⟨t,rfl⟩,⟨t',rfl⟩⟩:=Nz r;refine min_two_ints (I.ok.hd hc) fun h' tk k=>⟨_,H,I.kept k,?_,q⟩
 by_cases hj:j < i
 ·rw [if_pos hj,if_pos hj]; exact ⟨_,rfl⟩
 ·rw [if_neg hj,if_neg hj]; exact ⟨_,rfl⟩
theorem Ei:Bw X (.type "int") (fun xs H Q=>(∃ i,xs=[.int i]/\Q (.int i) H)\/∃ k,xs=[.bl k]/\Q (.int (if k then 1 else 0)) H):=by
 intro pins s σ H xs us Q I r h;rcases h with ⟨i,rfl,q⟩ | ⟨k,rfl,q⟩
 ·obtain ⟨u,rfl,t,rfl⟩:=Cv r;exact call_int_int ⟨.int i,H,I,⟨_,rfl⟩,q⟩
 ·obtain ⟨u,rfl,r1⟩:=Cv r;cases r1
  exact call_int_bool ⟨.int (if k then 1 else 0),H,I.tok _,⟨_,rfl⟩,q⟩
end
structure VC (h:Heap) (x dx C:Addr) (mA:Str->Option Value):Prop where
 obj:h.get? x=some (cE C dx)
 ns:h.Ns1 dx mA
 ne:dx ≠ x
theorem Pm {h:Heap} {dx:Addr} {mA:Str->Option Value} (n:h.Ns1 dx mA):∃ od,h.get? dx=some od/\∀ name,cO name od=some (mA name):=by
 obtain ⟨o,es,ep,ho,hd,hk,_,hm⟩:=n;refine ⟨o,ho,fun name=>?_⟩;have e:=hm name;unfold nsFind findBy at e;rw [<-Array.find?_toList] at e;unfold cO;rw [hd];dsimp only;split
 ·rename_i y q
  rw [q] at e;exact congrArg some e
 ·rename_i q
  rw [q] at e;have a:es.toList.any (·.refKey)=false:=by
   rw [List.any_eq_false];intro y hy;obtain ⟨z,t,hkey⟩:=hk y (dj.mp hy);simp [DictEntry.refKey,hkey]
  have a':¬ es.toList.any (·.refKey)=true:=by rw [a]; exact ZI
  rw [if_neg a'];exact congrArg some e
theorem VC.look {h:Heap} {x dx C:Addr} {mA:Str->Option Value} (I:VC h x dx C mA):∃ od,PySem.W.InstAt h x (cE C dx) C (some od)/\∀ name,cO name od=some (mA name):=
 let ⟨od,ho,hl⟩:=Pm I.ns
 ⟨od,⟨I.obj,rfl,rfl,ho⟩,hl⟩
section
variable {prog:Program} {w:World} {A:Around} {E:Value->Shared->Prop} {s:Shared} {K:Z1} {x dx C f:Addr} {mA:Str->Option Value} {name:Str} {v:Value}
end
theorem GH.some_of {v:V} {o:Option Value} (r:GH (some v) o):∃ u,o=some u/\AG v u:=by
 cases o with
 | none=>exact (show False from r).elim
 | some u=>exact ⟨u,rfl,r⟩
section
variable {P:Program} {w:World} {H H':Hp} {h h':Heap} {a C dx:Addr} {fs Wa:List (Str × V)}
theorem SJ (hok:F9 P w H h) (e:H a=some (.ins C dx fs)):∃ mA,VC h a dx C mA/\(∀ f,GH (fs.lookup f) (mA f))/\PySem.Within mA (fs.map (·.1))/\fs.length<=1000/\H dx=some (.own a):=by
 obtain ⟨d,z,ne,ob,mA,n,r,q⟩:=(show AM P w H h a (.ins C dx fs) from hok a _ e)
 exact ⟨mA,⟨ob,n,ne⟩,r,q,z,d⟩
end
structure Cls (K:Z1) (C:Addr):Prop where
 pg:dG K C Str.empty=true
 hd:PySem.W.hasDictIn K C=true
 po:PySem.W.plainOver K C=true
 sa:dY K (.ref C) "__setattr__"=some (some (.builtin "object.__setattr__"))
theorem Cls.get {K:Z1} {C:Addr} (c:Cls K C) (f:Str):dG K C f=true:=c.pg
section
variable {X:Cx} {pins:List (Addr × Obj)} {σ:St} {H:Hp} {s:Shared} {a C dx:Addr} {fs:List (Str × V)} {f:Str} {v:V} {A:Around} {E:Value->Shared->Prop}
end
section
variable {X:Cx} {o e value:Expr} {f:Str} {pos pos' tpos:Pos} {ta tv:TE}
end
section
variable {X:Cx} {pins:List (Addr × Obj)} {σ:St} {H:Hp} {s:Shared} {A:Around} {E:Value->Shared->Prop} {Q:Value->Shared->Prop} {c:Value} {b:Bool}
inductive D8 (K:Z1) (H:Hp):V->Value->Prop where
 | non:D8 K H .non (.type "NoneType")
 | bl (x:Bool):D8 K H (.bl x) (.type "bool")
 | int (i:Int):D8 K H (.int i) (.type "int")
 | str (x:Str):D8 K H (.str x) (.type "str")
 | flt (x:UInt64):D8 K H (.flt x) (.type "float")
 | lst {a:Addr} {xs:List V} (e:H a=some (.lst xs)):D8 K H (.ref a) (.type "list")
 | frz {a:Addr} {o:Obj} {xs:List V} (e:H a=some (.frz o (.lst xs))):D8 K H (.ref a) (.type "list")
 | tup {a:Addr} {xs:List V} (e:H a=some (.tup xs)):D8 K H (.ref a) (.type "tuple")
 | dK {a:Addr} {kvs:List (Bm × V)} (e:H a=some (.dK kvs)):D8 K H (.ref a) (.type "dict")
 | dT {a:Addr} {kvs:List (List Bm × V)} (e:H a=some (.dT kvs)):D8 K H (.ref a) (.type "dict")
 | ins {a C dx:Addr} {fs:List (Str × V)} (e:H a=some (.ins C dx fs)) (cl:Cls K C) (ha:dY K (.ref C) "__class__"=some (some (.builtin "object.__class__")))
   (hn:PySem.W.specialIn K (.builtin "object.__class__") "__get__"=some (some (.builtin "getset_descriptor.__get__"))) (htk:PySem.W.takesIn K (.builtin "object.__class__")=some true)
   (hm:PySem.W.mroIn K C (.type "object")=some true):D8 K H (.ref a) (.ref C)
theorem Pq {x:V} {u t:Value} (I:Aw X pins σ H s) (rx:AG x u) (ty:D8 X.K H x t) (e:bq X.K t c=some b) (h:∀ tk,Q (.bool b) { s with toks:=tk }) :
  wpAny (model X.prog X.w) A (call (.builtin "isinstance") [u,c]) Q E s:=by
 cases ty with
 | non=>cases (show u=Value.none from rx); exact aF PySem.W.kitx_none I.kIn True.intro e (fun z=>nomatch z) h
 | bl y=>cases (show u=Value.bool y from rx); exact aF PySem.W.kitx_bool I.kIn True.intro e (fun z=>nomatch z) h
 | int i=>obtain ⟨t,q⟩:=(show ∃ t,u=Value.int i t from rx); cases q; exact aF PySem.W.kitx_int I.kIn True.intro e (fun z=>nomatch z) h
 | str y=>obtain ⟨t,q⟩:=(show ∃ t,u=Value.str y t from rx); cases q; exact aF PySem.W.kitx_str I.kIn True.intro e (fun z=>nomatch z) h
 | flt y=>obtain ⟨t,q⟩:=(show ∃ t,u=Value.float y t from rx); cases q; exact aF PySem.W.kitx_float I.kIn True.intro e (fun z=>nomatch z) h
 | @lst a xs ea=>
  cases (show u=Value.ref a from rx)
  obtain ⟨_,_,n,_,h1⟩:=(show AM X.prog X.w H s.heap a (.lst xs) from I.hok a _ ea)
  exact aF dy I.kIn ⟨_,h1,rfl⟩ e (fun z=>nomatch z) h
 | @frz a ob xs ea=>
  cases (show u=Value.ref a from rx)
  obtain ⟨_,_,_,n,_,h1⟩:=(show AM X.prog X.w H s.heap a (.frz ob (.lst xs)) from I.hok a _ ea)
  exact aF dy I.kIn ⟨_,h1,rfl⟩ e (fun z=>nomatch z) h
 | @tup a xs ea=>
  cases (show u=Value.ref a from rx)
  obtain ⟨_,_,_,p,_⟩:=(show AM X.prog X.w H s.heap a (.tup xs) from I.hok a _ ea)
  obtain ⟨o,h1,h2,_⟩:=p;exact aF PySem.W.kitx_tuple I.kIn ⟨o,h1,h2⟩ e (fun z=>nomatch z) h
 | @dK a kvs ea=>
  cases (show u=Value.ref a from rx)
  obtain ⟨_,_,vs,_,p⟩:=(show AM X.prog X.w H s.heap a (.dK kvs) from I.hok a _ ea)
  obtain ⟨o,es,ep,h1,h2,_⟩:=p;exact aF dz I.kIn ⟨o,h1,h2.1⟩ e (fun z=>nomatch z) h
 | @dT a kvs ea=>
  cases (show u=Value.ref a from rx)
  obtain ⟨_,_,xs,_,o,es,ep,h1,h2,_⟩:=(show AM X.prog X.w H s.heap a (.dT kvs) from I.hok a _ ea)
  exact aF dz I.kIn ⟨o,h1,h2.1⟩ e (fun z=>nomatch z) h
 | @ins a C dx fs ea cl ha hn htk hm=>
  cases (show u=Value.ref a from rx)
  obtain ⟨mA,O,_⟩:=SJ I.hok ea;obtain ⟨od,J,_⟩:=O.look;exact aF (PySem.W.kitx_own (cl.get _) cl.hd ha hn htk hm) I.kIn J e (fun z=>nomatch z) h
end
structure DA (k:Nat) (A:Around):Prop where
 hd:A.handled=none
 dp:A.depth + 3 * k + 5 < recursionLimit
 un:A.units + 16 * k + 200 < cLine
 gd:A.guards=some []:=by rfl
theorem DA.mono {j k:Nat} {A:Around} (r:DA k A) (h:j<=k):DA j A:=⟨r.hd,by have:=r.dp; lia,by have:=r.un; lia,r.gd⟩
theorem DA.deeper {k:Nat} {A:Around} (r:DA (k + 1) A) (env:Env):DA k (A.deeper env):=
 ⟨r.hd,by have:=r.dp; show A.depth + 1 + 3 * k + 5 < _; lia,by have:=r.un; show A.units + 3 + 16 * k + 200 < _; lia,r.gd⟩
theorem DA.depth {k:Nat} {A:Around} (r:DA k A):A.depth < recursionLimit:=by have:=r.dp; lia
theorem DA.units {k:Nat} {A:Around} (r:DA k A):A.units + 64 < cLine:=by have:=r.un; lia
def tNil:TA:=fun _ H Q=>Q [] H
def tCons (ta:TE) (tr:TA):TA:=fun σ H Q=>ta σ H fun x H1=>tr σ H1 fun xs H2=>Q (x :: xs) H2
section
variable {X:Cx} {e:Expr} {es:List Expr} {te:TE} {t:TA} {pos:Pos}
theorem Ac:PA X [] tNil:=fun _ _ _ _ H Q I h=>Calls.spliced_nil ⟨[],H,I,.nil,h⟩
theorem Aa (ha:PE X e te) (hr:PA X es t) (hs:starEach (e :: es) X.env=(false,eval e X.env) :: starEach es X.env:=by rfl):PA X (e :: es) (tCons te t):=by
 intro pos pins s σ H Q I h;rw [hs];show wpAny _ _ (spliced ((false,eval e X.env) :: backTo pos (starEach es X.env))) _ _ s
 refine Calls.spliced_cons (Bx (ha (pins:=pins) s σ H _ I h) fun u s1 ⟨x,H1,I1,r1,q1⟩=>?_);exact Bx (hr (pos:=pos) (pins:=pins) s1 σ H1 _ I1 q1) fun us s2 ⟨xs,H2,I2,r2,q2⟩=>⟨x :: xs,H2,I2,.cons r1 r2,q2⟩
def tTup (t:TA):TE:=fun σ H Q=>t σ H fun xs H1=>xs.length<=sizeLine/\∀ p,H1 p=none->Q (.ref p) (upd H1 p (.tup xs))
def tLst (t:TA):TE:=fun σ H Q=>t σ H fun xs H1=>xs.length<=sizeLine/\∀ p,H1 p=none->Q (.ref p) (upd H1 p (.lst xs))
theorem AB {x1} (h:PA X es t):PE X (.Tuple es x1 pos) (tTup t):=by
 intro pins s σ H Q I hq;refine wpAny_Tuple_spliced (Bx (h (pos:=pos) (pins:=pins) s σ H _ I hq) fun us s1 ⟨xs,H1,I1,r,z,q⟩=>⟨by rw [<-r.length]; exact z,?_⟩);have hf:H1 s1.heap.objs.size=none:=I1.hok.fresh (Z4 _);refine ⟨.ref s1.heap.objs.size,upd H1 s1.heap.objs.size (.tup xs),I1.laid (t':=s1.toks) (fun b u e=>Zz _ e) (Z4 _) ?_,rfl,q _ hf⟩;exact ⟨z,us,r,⟨_,Z9 _ rfl,rfl,_,rfl⟩,Ll.new rfl rfl⟩
theorem Bs (h:PA X es t):PE X (.List es pos) (tLst t):=by
 intro pins s σ H Q I hq;refine wpAny_List_spliced (Bx (h (pos:=pos) (pins:=pins) s σ H _ I hq) fun us s1 ⟨xs,H1,I1,r,z,q⟩=>⟨by rw [<-r.length]; exact z,?_⟩);have hf:H1 s1.heap.objs.size=none:=I1.hok.fresh (Z4 _);refine ⟨.ref s1.heap.objs.size,upd H1 s1.heap.objs.size (.lst xs),I1.laid (t':=s1.toks) (fun b u e=>Zz _ e) (Z4 _) ?_,rfl,q _ hf⟩;exact ⟨z,us,0,r,Z9 _ rfl⟩
end
abbrev Sp:=List V->Hp->VK->XK->Prop
abbrev RR:=List Env->Hp->Shared->XK->Value->Shared->Prop
structure Tr (P:Program) (w:World) (K:Z1) (mg:Str->Option Value) (base:Heap) (A:Around) (outer:List Env) (s:Shared) (H:Hp):Prop where
 frames:A.frames=some outer
 mod:Mod K mg base
 bs:∀ b o,base.get? b=some o->s.heap.get? b=some o/\H b=none
 bsz:base.objs.size<=s.heap.objs.size
 funs:s.heap.FunFrames base outer
 frf:∀ b ∈ RB outer,H b=none
 hok:F9 P w H s.heap
 bare:AllBare s.gens
def CE (outer:List Env) (P:Program) (w:World) (H:Hp) (s:Shared) (Q:VK) (u:Value) (s':Shared):Prop:=
 ∃ v H',s'.os=s.os/\AllBare s'.gens/\Un (RB outer) [] H H' s.heap s'.heap/\F9 P w H' s'.heap/\AG v u/\Q v H'
def CR (CX:RR) (outer:List Env) (P:Program) (w:World) (H:Hp) (s:Shared) (Q:VK) (E:XK) (r:Result) (s':Shared):Prop:=
 match r with
 | .ok (.ret u)=>CE outer P w H s Q u s'
 | .ok _=>False
 | .error e=>CX outer H s E e s'
structure A7 (P:Program) (w:World) (K:Z1) (mg:Str->Option Value) (base:Heap) (CX:RR) (k:Nat) (f:Addr) (fd:FuncData) (ps:List Str) (sp:Sp):Prop where
 len:∀ vs H Q E,sp vs H Q E->vs.length=ps.length
 run:∀ (A:Around) (outer:List Env) (s:Shared) (H:Hp) (args:Args) (us:List Value) (vs:List V) (Q:VK) (E:XK),DA k A->Tr P w K mg base A outer s H->BindsTo s fd args (ps.zip us)->AD vs us->sp vs H Q E ->
  codeAny (model P w) A (.call (.ref f) args) (CR CX outer P w H s Q E) s
section
variable {X:Cx} {pins:List (Addr × Obj)} {σ:St} {H:Hp} {s s':Shared}
theorem Aw.env0 (I:Aw X pins σ H s):Tr X.prog X.w X.K X.mg X.base X.A X.stack s H:=
 ⟨I.ok.frames,I.ok.mod,I.bs,ZV I.ok.bsz I.sz,I.stack,I.stkFree,I.hok,I.bare⟩
theorem Aw.after {Q:VK} {u:Value} (I:Aw X pins σ H s) (h:CE X.stack X.prog X.w H s Q u s'):EP X pins σ Q u s':=by
 obtain ⟨v,H',os,bare,un,hok,r,q⟩:=h;obtain ⟨hh,g,d,t,Y7⟩:=s';obtain rfl:Y7=s.os:=os;exact ⟨v,H',I.call (h':=hh) (g':=g) (d':=d) (t':=t) (ch:=[]) un hok bare (fun b z=>absurd z (by simp)),r,q⟩
end
def tCall (sp:Sp) (dvs:List V) (E:XK) (t:TA):TE:=fun σ H Q=>t σ H fun vs H1=>sp (vs ++ dvs) H1 Q E
def Hw (K:Z1) (fd:FuncData) (ps:List Str) (ds:List Value):Prop:=
 ∀ (s:Shared) (us:List Value),K.In s.heap->(us ++ ds).length=ps.length->BindsTo s fd ⟨us,[]⟩ (ps.zip (us ++ ds))
theorem Hw.all {K:Z1} {fd:FuncData} {ps:List Str} (h:∀ us:List Value,us.length=ps.length->bindArgs fd ⟨us,[]⟩=pure (ps.zip us)):Hw K fd ps []:=fun s us _ hl=>by
 rw [bC] at hl ⊢;exact .of_eq (h us hl)
def Nq (CX:RR) (X:Cx) (E:XK):Prop:=∀ (pins:List (Addr × Obj)) (σ:St) (H:Hp) (s:Shared) (e:Value) (s':Shared),Aw X pins σ H s->CX X.stack H s E e s'->X.xe e s'
section
variable {X:Cx} {CX:RR} {k:Nat} {f C:Addr} {fd:FuncData} {ps:List Str} {sp:Sp} {dvs:List V} {ds:List Value} {E:XK} {x m:Str} {p pos apos:Pos} {e o:Expr} {es:List Expr} {ta:TE} {t:TA}
theorem UK {pins:List (Addr × Obj)} {σ:St} {H:Hp} {s:Shared} {Q:VK} {us:List Value} {vs:List V} (F:A7 X.prog X.w X.K X.mg X.base CX k f fd ps sp) (hr:DA k X.A) (hb:Hw X.K fd ps ds) (hd:AD dvs ds) (hx:Nq CX X E)
  (I:Aw X pins σ H s) (r:AD vs us) (h:sp (vs ++ dvs) H Q E):wpAny (model X.prog X.w) X.A (call (.ref f) us) (EP X pins σ Q) X.xe s:=by
 have r2:AD (vs ++ dvs) (us ++ ds):=r.append hd;have hl:(us ++ ds).length=ps.length:=by rw [<-r2.length]; exact F.len _ _ _ _ h
 refine wpAny_call (codeAny_mono (F.run X.A X.stack s H ⟨us,[]⟩ (us ++ ds) (vs ++ dvs) Q E hr I.env0 (hb s us I.kIn hl) r2 h) fun r s' hq=>?_);cases r with
 | error e=>exact hx pins σ H s e s' I hq
 | ok fl=>
  cases fl with
  | ret u=>exact I.after hq
  | next=>exact False.elim hq
  | brk=>exact False.elim hq
  | cont=>exact False.elim hq
theorem Al (F:A7 X.prog X.w X.K X.mg X.base CX k f fd ps sp) (hr:DA k X.A) (hg:Gl X x) (hm:X.mg x=some (.ref f)) (hk:bP X.K (.ref f)=true) (hb:Hw X.K fd ps ds) (hd:AD dvs ds) (hx:Nq CX X E)
  (ha:PA X (e :: es) t) (hdb:(x == ("__debug__":Str))=false:=by decide) (he:starEach (e :: es) X.env=(false,eval e X.env) :: starEach es X.env:=by rfl) (hpl:(backTo pos (starEach es X.env)).any (·.1)=false:=by rfl) :
  PE X (.Call (.Name x p) (e :: es) [] pos) (tCall sp dvs E t):=by
 intro pins s σ H Q I h;refine wpAny_Call_Name_kw (Od I hg hm ?_ hdb);refine PySem.W.callWith_K (h₀:=X.base) I.ok.mod.kin hk (Bx (ha (pos:=pos) (pins:=pins) s σ H _ I h) fun us s1 ⟨vs,H1,I1,r,q⟩=>⟨I1.kIn,?_⟩) he hpl;exact UK F hr hb hd hx I1 r q
end
section
variable {X:Cx} {CX:RR} {k:Nat} {f C:Addr} {fd:FuncData} {ps ks:List Str} {sp:Sp} {E:XK} {x m:Str} {p pos apos kpos:Pos} {e o:Expr} {es:List Expr} {kws:List Keyword} {te ta:TE} {t tk:TA} {nm:Option Str}
variable {g:List Value->List Value->List Value} {gV:List V->List V->List V}
end
structure A5 (N P:List Str) (sc:Scope):Prop where
 kind:sc.kind=.function
 co:sc.isCoroutine=false
 gen:sc.isGenerator=false
 nd:N.Nodup
 pre:N.take P.length=P
 par:∀ x ∈ P,sc.names.lookup x=some .local\/sc.names.lookup x=some .cell
 nofree:∀ y ∈ sc.names,y.2 ≠ .free
theorem Ku {kindOf:Str->Option NameKind} {x:Str}:∀ {binds:List (Str × Value)} {m:Str->Option Value},(∀ v,(x,v) ∉ binds)->bindL kindOf binds m x=m x
 | [],_,_=>rfl
 | (n,v) :: r,m,h=>by
  unfold bindL;rw [Ku fun w hw=>h w (ZO _ hw)];split
  ·have:x ≠ n:=by rintro rfl; exact h v ZU
   simp [this]
  ·rfl
theorem Kw {kindOf:Str->Option NameKind} {x:Str}:∀ {binds:List (Str × Value)} {m:Str->Option Value},(∀ v,(x,v) ∉ binds)->bindC kindOf binds m x=m x
 | [],_,_=>rfl
 | (n,v) :: r,m,h=>by
  unfold bindC;rw [Kw fun w hw=>h w (ZO _ hw)];split
  ·rfl
  ·have:x ≠ n:=by rintro rfl; exact h v ZU
   simp [this]
theorem Kv {kindOf:Str->Option NameKind} {x:Str} {v:Value}:∀ {P:List Str} {vs:List Value} {i:Nat} {m:Str->Option Value},P.Nodup->P[i]? = some x->vs[i]? = some v->kindOf x=some .local ->
  bindL kindOf (P.zip vs) m x=some v
 | [],_,_,_,_,h,_,_=>by simp at h
 | _ :: _,[],_,_,_,_,h,_=>by simp at h
 | p :: P,w :: vs,0,m,nd,h1,h2,hk=>by
  simp at h1 h2; subst h1; subst h2;show bindL kindOf ((p,w) :: P.zip vs) m p=_
  unfold bindL;rw [Ku fun v hv=>(ax.mp nd).1 (bQ hv).1,if_pos hk];simp
 | p :: P,w :: vs,i + 1,m,nd,h1,h2,hk=>by
  show bindL kindOf ((p,w) :: P.zip vs) m x=_
  unfold bindL;exact Kv (i:=i) (ax.mp nd).2 (by simpa using h1) (by simpa using h2) hk
theorem Kx {kindOf:Str->Option NameKind} {x:Str} {v:Value}:∀ {P:List Str} {vs:List Value} {i:Nat} {m:Str->Option Value},P.Nodup->P[i]? = some x->vs[i]? = some v->kindOf x ≠ some .local ->
  bindC kindOf (P.zip vs) m x=some v
 | [],_,_,_,_,h,_,_=>by simp at h
 | _ :: _,[],_,_,_,_,h,_=>by simp at h
 | p :: P,w :: vs,0,m,nd,h1,h2,hk=>by
  simp at h1 h2; subst h1; subst h2;show bindC kindOf ((p,w) :: P.zip vs) m p=_
  unfold bindC;rw [Kw fun v hv=>(ax.mp nd).1 (bQ hv).1,if_neg hk];simp
 | p :: P,w :: vs,i + 1,m,nd,h1,h2,hk=>by
  show bindC kindOf ((p,w) :: P.zip vs) m x=_
  unfold bindC;exact Kx (i:=i) (ax.mp nd).2 (by simpa using h1) (by simpa using h2) hk
def start (N:List Str) (vs:List V):St:=vs.map some ++ List.replicate (N.length - vs.length) none
def JI (CX:RR) (P:Program) (w:World) (K:Z1) (mg:Str->Option Value) (base:Heap) (N:List Str) (qual:Str) (scope:Scope) (f:Addr) (cd:Value) (A:Around) (outer:List Env) (s:Shared) (H:Hp) (E:XK):Cx where
 prog:=P
 w:=w
 K:=K
 mg:=mg
 base:=base
 A:=A.deeper (envOfC qual scope s.heap.objs.size f cd)
 N:=N
 s₀:=s
 H₀:=H
 env:=envOfC qual scope s.heap.objs.size f cd
 outer:=outer
 stack:=envOfC qual scope s.heap.objs.size f cd :: outer
 ex:=[]
 calm:=true
 fn:=fun _=>true
 pn:=[]
 xe:=fun e s'=>wpAny (model P w) (A.deeper (envOfC qual scope s.heap.objs.size f cd)) (leaving (envOfC qual scope s.heap.objs.size f cd) e) (fun _ UJ=>CX outer H s E e UJ) (fun e' UJ=>CX outer H s E e' UJ) s'
theorem Mo {sc:Scope} {n:Nat} {x:Str} (h:sc.names.lookup x=some .cell):∃ c,(cellsFrom n sc.names []).lookup x=some c:=by
 have q:=cS sc.names n [] (.inl h);exact bI.mp q
theorem Pr {CX:RR} {P:Program} {w:World} {K:Z1} {mg:Str->Option Value} {base:Heap} {N ps:List Str} {qual:Str} {scope:Scope} {f:Addr} {cd:Value} {A:Around} {outer:List Env} {s s1:Shared} {H:Hp} {E:XK} {us:List Value} {vs:List V}
  (S:A5 N ps scope) (hd:A.handled=none) (e0:Tr P w K mg base A outer s H) (hl:vs.length=ps.length) (r:AD vs us)
  (x:InCallC s s.heap.objs.size (bindL (envOfC qual scope s.heap.objs.size f cd).kindOf (ps.zip us) fun _=>none) (cellsFrom (s.heap.objs.size + 1) scope.names []) (bindC (envOfC qual scope s.heap.objs.size f cd).kindOf (ps.zip us) fun _=>none) s1) :
  Aw (JI CX P w K mg base N qual scope f cd A outer s H E) [] (start N vs) H s1:=by
 have hpl:ps.length<=N.length:=by have:=congrArg bg S.pre; rw [ZS] at this; lia
 obtain ⟨h1,tk,rfl,hk⟩:=x.done;have noA:∀ b:Addr,b ∉ (JI CX P w K mg base N qual scope f cd A outer s H E).ex:=fun b z=>absurd (show b ∈ ([]:List Addr) from z) (by simp)
 refine ⟨⟨e0.mod,S.kind,rfl,rfl,Z4 _,fun y z c h1 h2=>?_,fun y hy=>?_,fun y c _ h=>?_,fun _=>hd,Around.frames_deeper e0.frames,.inr ⟨rfl,rfl⟩,fun b z=>absurd z (noA b),e0.bs,e0.bsz,fun b _ _=>noA b,fun b z=>absurd z (noA b),e0.funs,e0.frf⟩,
  rfl,e0.bare,Un.kept hk,⟨_,x.toInCall.ns,fun i y v h1 h2 h3=>?_⟩,fun y c h=>⟨_,x.cell y c h⟩,e0.hok.fresh (Z4 _),fun y c h=>?_,fun p hp=>absurd (show p ∈ ([]:List (Addr × Obj)) from hp) (by simp),e0.hok.kept hk,?_⟩
 ·exact name_of_addr x.apart (PySem.mem_of_lookup h1) (PySem.mem_of_lookup h2)
 ·have hy:scope.names.lookup y=some .cell\/scope.names.lookup y=some .free:=hy;rcases hy with hy | hy
  ·exact Mo hy
  ·exact absurd rfl (S.nofree _ (PySem.mem_of_lookup hy))
 ·exact cF (x.above y c (PySem.mem_of_lookup h))
 ·have hi:i < vs.length:=by
   unfold start at h2;by_cases hi:i < vs.length
   ·exact hi
   ·rw [ao (by simpa using hi)] at h2;rw [List.getElem?_replicate] at h2;split at h2 <;> cases h2
  have ha:vs[i]? = some v:=by
   unfold start at h2;rw [aE (by simpa using hi),Z6] at h2;cases e:vs[i]? with
   | none=>rw [e] at h2; cases h2
   | some a=>rw [e] at h2; cases h2; rfl
  obtain ⟨u,hu,rv⟩:=r.get ha;have hp:ps[i]? = some y:=by
   rw [<-S.pre,List.getElem?_take_of_lt (by lia)]; exact h1
  have ndP:ps.Nodup:=by rw [<-S.pre]; exact S.nd.sublist (dZ _ _)
  exists u,rv;rcases S.par y (Z2 hp) with k | k
  ·exact .inl ⟨k,Kv ndP hp hu k⟩
  ·obtain ⟨c,e⟩:=Mo (n:=s.heap.objs.size + 1) k;refine .inr ⟨.inl k,c,e,?_⟩;have q:=x.cell y c e;rw [Kx ndP hp hu (by show scope.names.lookup y ≠ _; rw [k]; decide)] at q;exact q
 ·exact e0.hok.fresh (cF (x.above y c (PySem.mem_of_lookup h)))
 ·unfold start;show _=N.length
  rw [Z7,Z0,List.length_replicate];lia
theorem fn_of {CX:RR} {P:Program} {w:World} {K:Z1} {mg:Str->Option Value} {base:Heap} {k:Nat} {f:Addr} {name qual:Str} {params:Arguments} {body:List Stmt} {scope:Scope} {dV kV doc pm cdv ct oc:Value} {an od:Option Addr}
  {osl:Array (Option Value)} {N ps:List Str} {sp:Sp} (lk:K.lookup f=some ⟨oc,od,.func (aV name qual params body scope dV kV doc pm an cdv ct),osl⟩) (hcd:bR K cdv qual=true) (S:A5 N ps scope)
  (len:∀ vs H Q E,sp vs H Q E->vs.length=ps.length)
  (hbody:∀ (A:Around) (outer:List Env) (s:Shared) (H:Hp) (vs:List V) (Q:VK) (E:XK),DA k (A.deeper (envOfC qual scope s.heap.objs.size f cdv))->sp vs H Q E ->
   ∃ t,Mt (JI CX P w K mg base N qual scope f cdv A outer s H E) body t/\t { nx:=fun _ H'=>Q .non H',rt:=Q } (start N vs) H) :
  A7 P w K mg base CX (k + 1) f (aV name qual params body scope dV kV doc pm an cdv ct) ps sp:=by
 refine ⟨len,fun A outer s H args us vs Q E hr e0 hb r hsp=>?_⟩;have hl:=len _ _ _ _ hsp;have KX:K.In s.heap:=e0.mod.kin.keeps fun b o e=>(e0.bs b o e).1
 have lim:s.heap.NoLimit:=e0.mod.nolimit.keeps fun b o e=>(e0.bs b o e).1
 have hkind:∀ y ∈ ps.zip us,scope.names.lookup y.1=some .local\/(scope.names.lookup y.1=some .cell/\((cellsFrom (s.heap.objs.size + 1) scope.names []).lookup y.1).isSome=true):=fun ⟨n,v⟩ hy=>by
  rcases S.par n (bQ hy).1 with q | q
  ·exact .inl q
  ·exact .inr ⟨q,cS _ _ _ (.inl q)⟩
 refine codeAny_call_function hr.depth (KX _ _ lk) rfl S.co S.gen rfl (PySem.W.codeRec_of KX hcd) (hb _ _ _ _ ?_);refine wpAny_newFunctionEnv_cells S.kind hkind fun env he s1 x=>?_
 subst he;refine ⟨lim.keeps x.toInCall.keep,codeAny_func ?_⟩;obtain ⟨t,ht,hq⟩:=hbody A outer s H vs Q E (hr.deeper _) hsp;have I:Aw (JI CX P w K mg base N qual scope f cdv A outer s H E) [] (start N vs) H s1:=Pr S hr.hd e0 hl r x;refine wpAny_mono (ht s1 (start N vs) H _ I hq) (fun fl s' hs=>?_) fun e s' hs=>hs
 have fin:∀ {A3:St} {H':Hp} {v:V} {u:Value},Aw (JI CX P w K mg base N qual scope f cdv A outer s H E) [] A3 H' s'->AG v u->Q v H'->CE outer P w H s Q u s':=
  fun {A3 H' v u} J rv q=>⟨v,H',J.os,J.bare,J.base,J.hok,rv,q⟩
 cases fl with
 | ret u=>
  obtain ⟨v,A3,H',J,rv,q⟩:=hs;exact fin J rv q
 | next=>
  obtain ⟨A3,H',J,q⟩:=hs;exact fin (v:=V.non) (u:=Value.none) J rfl q
 | brk=>
  obtain ⟨_,_,_,q⟩:=hs;exact False.elim q
 | cont=>
  obtain ⟨_,_,_,q⟩:=hs;exact False.elim q
section
variable {X:Cx} {x:Str} {p pos:Pos} {e:Expr} {es:List Expr} {t:TA} {id T:String} {r:List V->Hp->VK->Prop}
def tCB (r:List V->Hp->VK->Prop) (t:TA):TE:=fun σ H Q=>t σ H fun vs H1=>r vs H1 Q
theorem Aj (hc:Bw X (.builtin id) r) (hg:Gl X x) (hm:X.mg x=none) (hv:bootBuiltins x=some (.builtin id)) (ha:PA X (e :: es) t) (hn:x ≠ "__name__":=by decide) (hdb:(x == ("__debug__":Str))=false:=by decide)
  (he:starEach (e :: es) X.env=(false,eval e X.env) :: starEach es X.env:=by rfl) (hpl:(backTo pos (starEach es X.env)).any (·.1)=false:=by rfl):PE X (.Call (.Name x p) (e :: es) [] pos) (tCB r t):=by
 intro pins s σ H Q I h;refine wpAny_Call_Name_kw (G3 I hg hm hv ?_ hn hdb);exact PyProof.Rows.callWith_builtin1 (Bx (ha (pos:=pos) (pins:=pins) s σ H _ I h) fun us s1 ⟨vs,H1,I1,r1,q1⟩=>hc (pins:=pins) s1 σ H1 vs us Q I1 r1 q1) he hpl
theorem AF (hc:Bw X (.type T) r) (hg:Gl X x) (hm:X.mg x=none) (hv:bootBuiltins x=some (.type T)) (ha:PA X (e :: es) t) (hn:x ≠ "__name__":=by decide) (hdb:(x == ("__debug__":Str))=false:=by decide)
  (he:starEach (e :: es) X.env=(false,eval e X.env) :: starEach es X.env:=by rfl) (hpl:(backTo pos (starEach es X.env)).any (·.1)=false:=by rfl):PE X (.Call (.Name x p) (e :: es) [] pos) (tCB r t):=by
 intro pins s σ H Q I h;refine wpAny_Call_Name_kw (G3 I hg hm hv ?_ hn hdb);exact PyProof.Rows.callWith_type1 (Bx (ha (pos:=pos) (pins:=pins) s σ H _ I h) fun us s1 ⟨vs,H1,I1,r1,q1⟩=>hc (pins:=pins) s1 σ H1 vs us Q I1 r1 q1) he hpl
end
end L2
namespace HT
open PySem PyProof.Rows
section
open PySem.SeqAt
open PySem.AutoSeq1 (wpAny_loadPart')
open PySem.MeetsSeq PySem.MeetsSeq2 PySem.MeetsSeq3
end
section
variable {prog:Program} {w:World} {A:Around} {E:Value->Shared->Prop} {s:Shared}
theorem cat_tup {t b:Addr} {vs ws:List Value} {Q:Value->Shared->Prop} (ht:IsTup s.heap t vs.toArray) (hb:IsTup s.heap b ws.toArray) (hv:vs ≠ [])
  (h1:ws=[]->Q (.ref t) s) (h2:ws ≠ []->Q (.ref s.heap.objs.size) { s with heap:=s.heap.push { cls:=.type "tuple",data:=.seq (vs ++ ws).toArray } })
  (hsz:vs.length + ws.length<=sizeLine):wpAny (model prog w) A (binaryOp .Add (.ref t) (.ref b)) Q E s:=by
 obtain ⟨⟨cls,dd,data,sl⟩,ho,hc,n,hd⟩:=id ht;obtain ⟨⟨Xk,RV,data2,T9⟩,PX,RT,n2,hd2⟩:=id hb;simp only at hc hd RT hd2;subst hc hd RT hd2;have e:vs.toArray ++ ws.toArray=(vs ++ ws).toArray:=by simp
 by_cases hw:ws=[]
 ·exact concat_meets ⟨_,ho,rfl⟩ ⟨_,PX,rfl⟩ noFill_tuple_add seq_tuple_add PySem.F.slot_tuple_add PySem.F.entry_tuple_add (PySem.F.args_tuple_add_2 _ _)
   (tuple_addW1 t b vs.toArray ws.toArray n n2 dd RV sl T9 (by simpa using hv) (by simp [hw])) ⟨ho,PX,h1 hw⟩
 ·refine concat_meets ⟨_,ho,rfl⟩ ⟨_,PX,rfl⟩ noFill_tuple_add seq_tuple_add PySem.F.slot_tuple_add PySem.F.entry_tuple_add (PySem.F.args_tuple_add_2 _ _)
   (tuple_addW2 t b vs.toArray ws.toArray n n2 dd RV sl T9 (by simpa using hv) (by simpa using hw) (by rw [ZG,ZG]; exact hsz)) ⟨ho,PX,?_⟩
  rw [e];exact h2 hw
def sIx (n d:Nat):Option Int->Nat
 | none=>d
 | some v=>if v < 0 then (v + (n:Int)).toNat else min v.toNat n
theorem sIx_nat (n d k:Nat):sIx n d (some (k:Int))=min k n:=by
 show (if (k:Int) < 0 then ((k:Int) + (n:Int)).toNat else min (k:Int).toNat n)=min k n
 rw [if_neg (by lia),bL]
theorem QH (n d:Nat) (hd:d<=n) (o:Option Int):sIx n d o<=n:=by
 cases o with
 | none=>exact hd
 | some v=>
  show (if v < 0 then (v + (n:Int)).toNat else min v.toNat n)<=n
  by_cases hv:v < 0
  ·rw [if_pos hv]; lia
  ·rw [if_neg hv]; exact Nat.min_le_right _ _
theorem Ou (v:Int) (n d:Nat):(if v < 0 then max (v + (n:Int)) 0 else min v (n:Int))=((sIx n d (some v):Nat):Int):=by
 show (if v < 0 then max (v + (n:Int)) 0 else min v (n:Int))=(((if v < 0 then (v + (n:Int)).toNat else min v.toNat n):Nat):Int)
 by_cases hv:v < 0
 ·simp only [if_pos hv]; lia
 ·simp only [if_neg hv]; lia
theorem Nm (lo hi:Option Int) (n:Nat):Builtin.Slice.sliceAdjust lo hi 1 (n:Int)=(((sIx n 0 lo:Nat):Int),((sIx n n hi:Nat):Int)):=by
 have h1:¬ ((1:Int) < 0):=by lia
 unfold Builtin.Slice.sliceAdjust;simp only [h1,if_false];refine Prod.ext ?_ ?_
 ·cases lo with
  | none=>rfl
  | some v=>exact Ou v n 0
 ·cases hi with
  | none=>rfl
  | some v=>exact Ou v n n
theorem MG (i j:Nat):Builtin.Slice.slicePlaces (i:Int) (j:Int) 1=j - i:=by
 unfold Builtin.Slice.slicePlaces;have h1:(1:Int) > 0:=by lia
 simp only [h1,if_true,cG];split <;> lia
theorem Ip {v:Value} {o:Option Int} {Q:Option Int->Shared->Prop} (p:IsPart v o) (h:Q o s):wpAny (model prog w) A (Builtin.Slice.slicePartIndex v) Q E s:=by
 cases p with
 | none=>exact slicePart_none h
 | int i t=>exact slicePart_int h
theorem DX {sl:Addr} {vl vu:Value} {lo hi:Option Int} {n:Nat} {Q:Int × Int × Nat->Shared->Prop} (hs:s.heap.IsSliceOf sl vl vu .none) (pl:IsPart vl lo) (pu:IsPart vu hi)
  (h:Q (((sIx n 0 lo:Nat):Int),1,sIx n n hi - sIx n 0 lo) s):wpAny (model prog w) A (Builtin.Slice.sliceApplied (.ref sl) (pure (n:Int))) Q E s:=by
 obtain ⟨os,hos,hcs,hds⟩:=id hs;unfold Builtin.Slice.sliceApplied Builtin.Slice.sliceFields;refine wpAny_bind (wpAny_bind (wpAny_field hos hds (x:=vl) rfl (wpAny_bind (wpAny_field hos hds (x:=vu) rfl (wpAny_bind (wpAny_field hos hds (x:=.none) rfl (wpAny_pure ?_)))))));refine wpAny_bind (slicePart_none ?_);show wpAny _ _ (if ((1:Int) == 0)=true then _ else _) _ _ s
 rw [if_neg (by decide)];refine wpAny_bind (Ip pl (wpAny_bind (Ip pu (wpAny_bind (wpAny_pure ?_)))));show wpAny _ _ (match Builtin.Slice.sliceAdjust lo hi 1 (n:Int) with | (lo,hi)=>pure (lo,(1:Int),Builtin.Slice.slicePlaces lo hi 1)) _ _ s
 rw [Nm lo hi n];show wpAny _ _ (pure (((sIx n 0 lo:Nat):Int),(1:Int),Builtin.Slice.slicePlaces ((sIx n 0 lo:Nat):Int) ((sIx n n hi:Nat):Int) 1)) _ _ s
 rw [MG];exact wpAny_pure h
theorem QR (xs:Array Value) (i k:Nat):((ai k).filterMap fun (m:Nat)=>xs[((i:Int) + (m:Int) * 1).toNat]?).toArray=((xs.toList.drop i).take k).toArray:=by
 have e:(fun (m:Nat)=>xs[((i:Int) + (m:Int) * 1).toNat]?)=fun m=>xs[i + m]?:=by
  funext m;have:((i:Int) + (m:Int) * 1).toNat=i + m:=by lia
  rw [this]
 rw [e];have:=pick_run xs i k;rw [List.filterMap_map] at this;have e2:((fun x=>xs[x]?) ∘ fun x=>i + x)=fun m=>xs[i + m]?:=rfl
 rw [e2] at this;rw [this]
theorem getItem_tuple_cut {t sl:Addr} {items:Array Value} {vl vu:Value} {lo hi:Option Int} {Q:Value->Shared->Prop} (ht:IsTup s.heap t items) (hs:s.heap.IsSliceOf sl vl vu .none) (pl:IsPart vl lo) (pu:IsPart vu hi)
  (hw:¬ (sIx items.size 0 lo=0/\sIx items.size items.size hi=items.size))
  (h:Q (.ref s.heap.objs.size) { s with heap:=s.heap.push { cls:=.type "tuple",data:=.seq ((items.toList.drop (sIx items.size 0 lo)).take (sIx items.size items.size hi - sIx items.size 0 lo)).toArray } })
  (hsz:items.size<=sizeLine):wpAny (model prog w) A (getItem (.ref t) (.ref sl)) Q E s:=by
 have htake:sizeOk (.seq ((items.toList.drop (sIx items.size 0 lo)).take (sIx items.size items.size hi - sIx items.size 0 lo)).toArray):=by
  show ((items.toList.drop (sIx items.size 0 lo)).take (sIx items.size items.size hi - sIx items.size 0 lo)).toArray.size<=sizeLine
  rw [ZG,ZS,aG,ZT];lia
 have hj:sIx items.size items.size hi<=items.size:=QH _ _ (Z4 _) hi;obtain ⟨os,hos,hcs,hds⟩:=id hs;have hTs:s.TypeIs (.ref sl) "slice":=⟨os,hos,hcs⟩
 unfold getItem;try with_reducible refine wpAny_holding ?_
 first | refine wpAny_bind (wpAny_pure ?_) | skip
 refine wpAny_bind (wpAny_sequenceKey ht.typeIs (by decide) ?_);refine wpAny_bind (wpAny_callSpecial?_slot (name:=Str.ofString "__getitem__") ht.typeIs PyProof.Rows.slot_tuple_getitem
  (wpAny_call_entry PyProof.Rows.slot_tuple_getitem ht.typeIs entry_tuple_getitem ?_ (args_tuple_getitem _ _)))
 show wpAny _ _ (Builtin.Tuple.tupleItemsOf (.ref t) >>= _) _ _ s
 refine wpAny_bind (tupleItemsOf_ ht ?_);refine wpAny_bind (wpAny_typeOf hTs ?_);rw [if_pos (by decide)];refine wpAny_bind (DX hs pl pu ?_);have hno:¬ ((((sIx items.size 0 lo:Nat):Int) == 0 && (1:Int) == 1 && (sIx items.size items.size hi - sIx items.size 0 lo) == items.size)=true):=by
  intro q;rw [af,af] at q;have q1:((sIx items.size 0 lo:Nat):Int)=0:=eq_of_beq q.1.1;have q2:sIx items.size items.size hi - sIx items.size 0 lo=items.size:=eq_of_beq q.2;exact hw ⟨by lia,by lia⟩
 show wpAny _ _ (if (((sIx items.size 0 lo:Nat):Int) == 0 && (1:Int) == 1 && (sIx items.size items.size hi - sIx items.size 0 lo) == items.size)=true then _ else _) _ _ s
 rw [if_neg hno,QR];first
  | exact wpAny_bind (m:=Builtin.Tuple.tupleExact _) (wpAny_newObj_type (wpAny_pure ⟨_,rfl,wpAny_pure h⟩) htake)
  | exact wpAny_bind (m:=Builtin.Tuple.tupleExact _) (wpAny_newObj_type (wpAny_bind (wpAny_pure (wpAny_pure ⟨_,rfl,wpAny_pure h⟩))) htake)
  | exact wpAny_bind (wpAny_bind (m:=Builtin.Tuple.tupleExact _) (wpAny_newObj_type (wpAny_pure (wpAny_pure ⟨_,rfl,wpAny_pure h⟩)) htake))
  | exact wpAny_bind (wpAny_bind (m:=Builtin.Tuple.tupleExact _) (wpAny_newObj_type (wpAny_pure ⟨_,rfl,wpAny_pure h⟩) htake))
end
end HT
namespace L2
open PySem PySem.Spec PyProof.Rows
abbrev TO:=St->Hp->(Option Int->Hp->Prop)->Prop
def PO (X:Cx) (e:Option Expr) (t:TO):Prop:=
 ∀ ⦃pins:List (Addr × Obj)⦄ (s:Shared) (σ:St) (H:Hp) (Q:Option Int->Hp->Prop),Aw X pins σ H s->t σ H Q ->
  wpAny (model X.prog X.w) X.A (evalPart e X.env) (fun u s'=>∃ o H',Aw X pins σ H' s'/\IsPart u o/\Q o H') X.xe s
def EW:TO:=fun _ H Q=>Q none H
def tPart (t:TE):TO:=fun σ H Q=>t σ H fun x H1=>∃ i,x=.int i/\Q (some i) H1
section
variable {X:Cx} {e:Expr} {te:TE} {lo hi:Option Expr} {tl th:TO} {pos p2:Pos}
theorem Ck:PO X none EW:=by
 intro pins s σ H Q I h;rw [evalPart_none];exact wpAny_pure ⟨none,H,I,.none,h⟩
theorem Cj (h:PE X e te):PO X (some e) (tPart te):=by
 intro pins s σ H Q I hw;rw [evalPart_some];refine Bx (h (pins:=pins) s σ H _ I hw) fun u s1 ⟨x,H1,I1,r1,q1⟩=>?_
 obtain ⟨i,rfl,q⟩:=q1;obtain ⟨t,rfl⟩:=r1;exact ⟨some i,H1,I1,.int i t,q⟩
def SlR (X:Cx) (r:V->Option Int->Option Int->Hp->VK->Prop):Prop:=
 ∀ ⦃pins:List (Addr × Obj)⦄ (s:Shared) (σ:St) (H:Hp) (x:V) (v vl vu:Value) (lo hi:Option Int) (sl:Addr) (Q:VK),Aw X pins σ H s->AG x v->s.heap.IsSliceOf sl vl vu .none->IsPart vl lo->IsPart vu hi->r x lo hi H Q ->
  ∃ T id,typeLookup (.type T) "__getitem__"=pure (some (.builtin id))/\s.TypeIs v T/\wpAny (model X.prog X.w) X.A (getItem v (.ref sl)) (EP X pins σ Q) X.xe s
def tSl (r:V->Option Int->Option Int->Hp->VK->Prop) (te:TE) (tl th:TO):TE:=fun σ H Q=>te σ H fun x H1=>tl σ H1 fun l H2=>th σ H2 fun u H3=>r x l u H3 Q
theorem Cf {r:V->Option Int->Option Int->Hp->VK->Prop} (hr:SlR X r) (he:PE X e te) (hl:PO X lo tl) (hu:PO X hi th):PE X (.Subscript e (.Slice lo hi none p2) pos) (tSl r te tl th):=by
 intro pins s σ H Q I h;refine Subscript_ (Bx (he (pins:=pins) s σ H _ I h) fun v s1 ⟨x,H1,I1,r1,q1⟩=>?_);refine wpAny_Slice (Bx (hl (pins:=pins) s1 σ H1 _ I1 q1) fun vl s2 ⟨l,H2,I2,pl,q2⟩=>Bx (hu (pins:=pins) s2 σ H2 _ I2 q2) fun vu s3 ⟨u,H3,I3,pu,q3⟩=>?_);rw [evalPart_none];refine wpAny_pure ?_;have I4:Aw X pins σ H3 { s3 with heap:=s3.heap.push { cls:=.type "slice",data:=.fields #[vl,vu,.none] } }:=I3.kept (t':=s3.toks) fun b ob q=>Zz _ q
 obtain ⟨T,id,hT,ht,hg⟩:=hr { s3 with heap:=s3.heap.push { cls:=.type "slice",data:=.fields #[vl,vu,.none] } } σ H3 x v vl vu l u s3.heap.objs.size Q I4 r1 (Heap.IsSliceOf.new ..) pl pu q3;show wpAny (model X.prog X.w) X.A (subscriptTail e (.Slice lo hi none p2) v (.ref s3.heap.objs.size)) (EP X pins σ Q) X.xe { s3 with heap:=s3.heap.push { cls:=.type "slice",data:=.fields #[vl,vu,.none] } }
 exact tail_any (ops:=[.ref s3.heap.objs.size,v]) ht hT hg (by with_unfolding_all rfl)
def FY (xs:List V) (lo hi:Option Int):List V:=(xs.drop (HT.sIx xs.length 0 lo)).take (HT.sIx xs.length xs.length hi - HT.sIx xs.length 0 lo)
theorem Mn (xs:List V) (lo hi:Option Int):(FY xs lo hi).length<=xs.length:=by
 unfold FY;rw [ZS,aG];lia
def Sq (K:Z1):V->Option Int->Option Int->Hp->VK->Prop:=fun x lo hi H Q=>∃ a xs,x=.ref a/\A1 K H a xs /\
 ¬ (HT.sIx xs.length 0 lo=0/\HT.sIx xs.length xs.length hi=xs.length)/\∀ p,H p=none->Q (.ref p) (upd H p (.tup (FY xs lo hi)))
theorem Q8:SlR X (Sq X.K):=by
 intro pins s σ H x v vl vu lo hi sl Q I rx hs pl pu h;obtain ⟨a,xs,rfl,hx,hw,q⟩:=h;cases rx
 obtain ⟨Ar,r,ht,hz⟩:=I.tuple hx;have hlen:Ar.toArray.size=xs.length:=by rw [ZG]; exact r.length.symm
 exists "tuple",_,PyProof.Rows.slot_tuple_getitem.lookup,ht.typeIs;refine HT.getItem_tuple_cut ht hs pl pu (by rw [hlen]; exact hw) ?_ (by rw [hlen]; exact hz);rw [hlen];refine ⟨.ref s.heap.objs.size,_,I.laid (t':=s.toks) (o:=.tup (FY xs lo hi)) (fun b ob q=>Zz _ q) (Z4 _) ?_,rfl,q _ (I.hok.fresh (Z4 _))⟩;exact ⟨ZV (Mn xs lo hi) hz,_,(r.drop (HT.sIx xs.length 0 lo)).take (HT.sIx xs.length xs.length hi - HT.sIx xs.length 0 lo),IsTup.new _ _,Ll.new rfl rfl⟩
def TN (K:Z1):R2:=fun x y H Q=>∃ a b xs ys,x=.ref a/\y=.ref b/\A1 K H a xs/\A1 K H b ys/\xs ≠ []/\xs.length + ys.length<=sizeLine /\
 (ys=[]->Q (.ref a) H)/\(ys ≠ []->∀ p,H p=none->Q (.ref p) (upd H p (.tup (xs ++ ys))))
theorem AD.nil_iff {xs:List V} {us:List Value} (r:AD xs us):us=[] ↔ xs=[]:=by
 cases r with
 | nil=>simp
 | cons _ _=>simp
theorem Sy:E8 X (binaryOp .Add) (TN X.K):=by
 intro pins s σ H x y v u Q I rx ry h;obtain ⟨a,b,xs,ys,rfl,rfl,ha,hb,hx,hz,q1,q2⟩:=h;cases rx
 cases ry
 obtain ⟨Ar,r1,p1,_⟩:=I.tuple ha;obtain ⟨HG,r2,p2,_⟩:=I.tuple hb;refine HT.cat_tup p1 p2 (fun z=>hx (r1.nil_iff.mp z)) (fun z=>⟨.ref a,H,I,rfl,q1 (r2.nil_iff.mp z)⟩) (fun z=>?_) (by rw [<-r1.length,<-r2.length]; exact hz);refine ⟨.ref s.heap.objs.size,_,I.laid (t':=s.toks) (o:=.tup (xs ++ ys)) (fun b ob q=>Zz _ q) (Z4 _) ?_,rfl,q2 (fun w=>z (r2.nil_iff.mpr w)) _ (I.hok.fresh (Z4 _))⟩;exact ⟨by rw [Z7]; exact hz,_,r1.append r2,IsTup.new _ _,Ll.new rfl rfl⟩
end
def Rw (n:Nat) (i:Int):Option Nat:=if 0<=i then (if i < n then some i.toNat else none) else if -(n:Int)<=i then some (i + n).toNat else none
def Gk {α:Type} (xs:List α) (i:Int):Option α:=(Rw xs.length i).bind fun j=>xs[j]?
theorem HX {n:Nat} {i:Int} {j:Nat} (h:Rw n i=some j):seqIndex? i n=some j/\j < n/\-(n:Int)<=i/\i < n:=by
 unfold Rw at h;by_cases h0:0<=i
 ·rw [if_pos h0] at h;by_cases h1:i < n
  ·rw [if_pos h1] at h;have e:i.toNat=j:=ZR.inj h;exact ⟨by rw [seqIndex_of h0 h1,e],by lia,by lia,h1⟩
  ·rw [if_neg h1] at h; cases h
 ·rw [if_neg h0] at h;by_cases h1:-(n:Int)<=i
  ·rw [if_pos h1] at h;have e:(i + n).toNat=j:=ZR.inj h;exact ⟨by rw [seqIndex_neg (by lia) h1,e],by lia,h1,by lia⟩
  ·rw [if_neg h1] at h; cases h
theorem Ic {α:Type} {xs:List α} {i:Int} {v:α} (h:Gk xs i=some v):∃ j,seqIndex? i xs.length=some j/\xs[j]? = some v/\j < xs.length/\-(xs.length:Int)<=i/\i < xs.length:=by
 unfold Gk at h;cases e:Rw xs.length i with
 | none=>rw [e] at h; cases h
 | some j=>
  rw [e] at h;obtain ⟨h1,h2,h3,h4⟩:=HX e;exact ⟨j,h1,h,h2,h3,h4⟩
theorem Co {α:Type} {xs:List α} {j:Nat} {v:α} (h:xs[j]? = some v):Gk xs (j:Int)=some v:=by
 have hj:j < xs.length:=(ZA.mp h).1;have e:Rw xs.length (j:Int)=some j:=by
  unfold Rw;rw [if_pos (by lia),if_pos (by lia)]; simp
 unfold Gk; rw [e]; exact h
def Tn (b:Expr):Prop:=∀ o i,subscripted b false o i=operate [o,i] (getItem o i)
def We (X:Cx) (r:R2):Prop:=
 ∀ (value slice:Expr) (pins:List (Addr × Obj)) (s:Shared) (σ:St) (H:Hp) (x y:V) (v u:Value) (Q:VK),Aw X pins σ H s->AG x v->AG y u->r x y H Q ->
  subscripted slice false v u=operate [v,u] (getItem v u)->wpAny (model X.prog X.w) X.A (subscriptTail value slice v u) (EP X pins σ Q) X.xe s
def MtR (X:Cx) (id:String) (r:V->List V->Hp->VK->Prop):Prop:=
 ∀ ⦃pins:List (Addr × Obj)⦄ (s:Shared) (σ:St) (H:Hp) (x:V) (xs:List V) (v:Value) (us:List Value) (Q:VK),Aw X pins σ H s->AG x v->AD xs us->r x xs H Q ->
  wpAny (model X.prog X.w) X.A (call (.builtin id) (v :: us)) (EP X pins σ Q) X.xe s
section
variable {X:Cx} {a b:Expr} {ta tb:TE} {pos:Pos}
theorem A2 {r:R2} (hr:We X r) (ha:PE X a ta) (hb:PE X b tb) (hs:Tn b):PE X (.Subscript a b pos) (tOp r ta tb):=by
 intro pins s σ H Q I h;exact Subscript_ (V5 ha hb I h fun v u s2 x y H2 I2 rx ry q=>hr a b (pins:=pins) s2 σ H2 x y v u Q I2 rx ry q (hs _ _))
def rIxL (K:Z1):R2:=fun x y H Q=>∃ p xs i v,x=.ref p/\y=.int i/\AS K H p xs/\Gk xs i=some v/\Q v H
def rIxT (K:Z1):R2:=fun x y H Q=>∃ p xs i v,x=.ref p/\y=.int i/\A1 K H p xs/\Gk xs i=some v/\Q v H
def rIxS:R2:=fun x y H Q=>∃ z i c,x=.str z/\y=.int i/\z.length<=sizeLine/\Gk z.cps.toList i=some c/\Q (.str ⟨#[c]⟩) H
theorem Be:We X (rIxL X.K):=by
 intro value slice pins s σ H x y v u Q I rx ry h hs;obtain ⟨p,xs,i,z,rfl,rfl,hq,he,q⟩:=h;cases rx
 obtain ⟨t,rfl⟩:=ry;obtain ⟨Ar,r,pl,hz⟩:=I.list hq;obtain ⟨j,h1,h2,h3,h4,h5⟩:=Ic he;obtain ⟨w,ew,OK⟩:=r.get h2;have hl:=r.length;have hn:=F0;have fin:EP X pins σ Q w s:=⟨z,H,I,OK,q⟩
 by_cases h0:0<=i
 ·have hj:i.toNat=j:=by
   rw [seqIndex_of h0 h5] at h1;exact ZR.inj h1
  exact item_listR pl.isList h0 (by lia) (by rw [hj]; simpa using ew) fin hs
 ·have hj:(i + (Ar.toArray.size:Int)).toNat=j:=by
   rw [seqIndex_neg (by lia) h4] at h1;rw [ZG,<-hl];exact ZR.inj h1
  exact subscriptTail_builtinR (x:=w) pl.isList.typeIs slot_list_getitem.lookup
   (wpAny_getItem_list_neg (Q:=fun r s'=>r=w/\EP X pins σ Q r s') pl.isList (by lia) (by rw [ZG] <;> lia) (by lia) (by rw [hj]; simpa using ew) ⟨rfl,fin⟩) hs
theorem F1:We X (rIxT X.K):=by
 intro value slice pins s σ H x y v u Q I rx ry h hs;obtain ⟨p,xs,i,z,rfl,rfl,hq,he,q⟩:=h;cases rx
 obtain ⟨t,rfl⟩:=ry;obtain ⟨Ar,r,pl,hz⟩:=I.tuple hq;obtain ⟨j,h1,h2,h3,h4,h5⟩:=Ic he;obtain ⟨w,ew,OK⟩:=r.get h2;have hl:=r.length;have hn:=F0;have fin:EP X pins σ Q w s:=⟨z,H,I,OK,q⟩
 exact subscriptTail_builtinR (x:=w) pl.typeIs slot_tuple_getitem.lookup
  (getItem_tuple (j:=j) (Q:=fun r s'=>r=w/\EP X pins σ Q r s') pl (by lia) (by lia) (by rw [ZG,<-hl]; exact h1) (by simpa using ew) ⟨rfl,fin⟩) hs
theorem Rv:We X rIxS:=by
 intro value slice pins s σ H x y v u Q I rx ry h hs;obtain ⟨z,i,c,rfl,rfl,hz,he,q⟩:=h;obtain ⟨t,rfl⟩:=rx;obtain ⟨t',rfl⟩:=ry;obtain ⟨j,h1,h2,h3,h4,h5⟩:=Ic he;have hl:z.cps.toList.length=z.length:=by simp [Str.length]
 rw [hl] at h1 h4 h5;have hn:=F0;exact tail_any (typeIs_str s z t) slot_str_getitem.lookup (getItem_str (c:=c) (by
  have e1:decide (i < -(2 ^ 63:Int))=false:=decide_eq_false (by lia);have e2:decide (i >= 2 ^ 63)=false:=decide_eq_false (by lia);rw [e1,e2,eU]) (by rw [h1]; simpa using h2) ⟨.str ⟨#[c]⟩,H,I.tok _,⟨_,rfl⟩,q⟩) hs
theorem MT (Ar:List Value) (n j:Nat) (u:Value):Obj.mapSeq (·.setIfInBounds j u) { cls:=.type "list",data:=.seq Ar.toArray n } = { cls:=.type "list",data:=.seq (Ar.set j u).toArray n }:=by
 simp [Obj.mapSeq]
theorem Aw.lst {pins:List (Addr × Obj)} {σ:St} {H:Hp} {s:Shared} {p:Addr} {xs:List V} (I:Aw X pins σ H s) (h:H p=some (.lst xs)) :
  ∃ (Ar:List Value) (n:Nat),AD xs Ar/\s.heap.get? p=some { cls:=.type "list",data:=.seq Ar.toArray n }/\xs.length<=sizeLine:=by
 obtain ⟨z,Ar,n,r,e⟩:=I.hok p _ h;exact ⟨Ar,n,r,e,z⟩
theorem Aw.lstUpd {pins:List (Addr × Obj)} {σ:St} {H:Hp} {s:Shared} {p:Addr} {xs ys:List V} {Ar its':List Value} {n n':Nat} {f:Obj->Obj} (I:Aw X pins σ H s) (h:H p=some (.lst xs))
  (ho:s.heap.get? p=some { cls:=.type "list",data:=.seq Ar.toArray n }) (hf:f { cls:=.type "list",data:=.seq Ar.toArray n } = { cls:=.type "list",data:=.seq its'.toArray n' }) (r:AD ys its') (hz:ys.length<=sizeLine) (t:Nat) :
  Aw X pins σ (upd H p (.lst ys)) { s with heap:=s.heap.update p f,toks:=t }:=by
 have e:(s.heap.update p f).get? p=some { cls:=.type "list",data:=.seq its'.toArray n' }:=by
  rw [ah f ho (by rw [hf] <;> rfl),hf]
 refine I.write (x:=p) (e:=p) (by rw [h]; trivial) (.inl rfl) (fun b u hb q=>(ab _ _ (Ne.symm hb)).trans q) ⟨_,e⟩ ?_;exact ⟨hz,its',n',r,e⟩
def rSetL:V->V->V->Hp->(Hp->Prop)->Prop:=fun o i v H Q=>∃ p xs k j,o=.ref p/\i=.int k/\H p=some (.lst xs)/\Rw xs.length k=some j/\Q (upd H p (.lst (xs.set j v)))
theorem Iq:PSet X rSetL:=by
 intro pins s σ H o i v ov iv u Q I ro ri rv h;obtain ⟨p,xs,k,j,rfl,rfl,hp,hj,q⟩:=h;cases ro
 obtain ⟨t,rfl⟩:=ri;obtain ⟨Ar,n,r,ho,hz⟩:=I.lst hp;obtain ⟨h1,h2,h3,h4⟩:=HX hj;have hl:=r.length;have hn:=F0;have I':Aw X pins σ (upd H p (.lst (xs.set j v))) { s with heap:=s.heap.update p (Obj.mapSeq (·.setIfInBounds j u)) }:=
  I.lstUpd hp ho (MT Ar n j u) (r.set rv j) (by rw [List.length_set]; exact hz) s.toks
 by_cases h0:0<=k
 ·have hk:k.toNat=j:=by
   rw [seqIndex_of h0 h4] at h1;exact ZR.inj h1
  exact PySem.W.ki_setAt ho h0 (by lia) (by rw [ZG,<-hl]; exact h4) (by rw [hk]; exact ⟨_,I',q⟩)
 ·have hk:(k + (Ar.toArray.size:Int)).toNat=j:=by
   rw [seqIndex_neg (by lia) h3] at h1;rw [ZG,<-hl];exact ZR.inj h1
  exact PySem.W.ki_setBack ho (by lia) (by rw [ZG,<-hl]; exact h3) (by lia) (by rw [hk]; exact ⟨_,I',q⟩)
def EN:V->Bool
 | .non=>true
 | .bl _=>true
 | .int _=>true
 | .str _=>true
 | _=>false
def SY:V->V->Bool
 | .non,.non=>true
 | .bl a,.bl b=>a == b
 | .bl a,.int b=>(if a then 1 else 0) == b
 | .int a,.bl b=>a == (if b then 1 else 0)
 | .int a,.int b=>a == b
 | .str a,.str b=>a == b
 | _,_=>false
theorem V1 {A:Around} {s:Shared} {y x:V} {u v:Value} (ry:AG y u) (rx:AG x v) (fy:EN y=true) (fx:EN x=true):SeqAt.EqAt A s u v (SY y x):=by
 cases y with
 | non=>
  cases ry
  cases x with
  | non=>cases rx; exact SeqAt.EqAt.same _
  | bl b=>cases rx; exact SeqAt.EqAt.none_bool b
  | int b=>obtain ⟨t,rfl⟩:=rx; exact SeqAt.EqAt.none_int b t
  | str b=>obtain ⟨t,rfl⟩:=rx; exact SeqAt.EqAt.none_str b t
  | _=>exact absurd (show false=true from fx) ZI
 | bl a=>
  cases ry
  cases x with
  | non=>cases rx; exact SeqAt.EqAt.bool_none a
  | bl b=>cases rx; exact SeqAt.EqAt.bool_bool a b
  | int b=>obtain ⟨t,rfl⟩:=rx; exact SeqAt.EqAt.bool_int a b t
  | str b=>obtain ⟨t,rfl⟩:=rx; exact SeqAt.EqAt.bool_str a b t
  | _=>exact absurd (show false=true from fx) ZI
 | int a=>
  obtain ⟨t',rfl⟩:=ry;cases x with
  | non=>cases rx; exact SeqAt.EqAt.int_none a t'
  | bl b=>cases rx; exact SeqAt.EqAt.int_bool a t' b
  | int b=>obtain ⟨t,rfl⟩:=rx; exact SeqAt.EqAt.int_int a t' b t
  | str b=>obtain ⟨t,rfl⟩:=rx; exact SeqAt.EqAt.int_str a t' b t
  | _=>exact absurd (show false=true from fx) ZI
 | str a=>
  obtain ⟨t',rfl⟩:=ry;cases x with
  | non=>cases rx; exact SeqAt.EqAt.str_none a t'
  | bl b=>cases rx; exact SeqAt.EqAt.str_bool a t' b
  | int b=>obtain ⟨t,rfl⟩:=rx; exact SeqAt.EqAt.str_int a t' b t
  | str b=>obtain ⟨t,rfl⟩:=rx; exact SeqAt.EqAt.str_str a t' b t
  | _=>exact absurd (show false=true from fx) ZI
 | _=>exact absurd (show false=true from fy) ZI
def Nj (x:V) (u:Value):Bool:=match u with
 | .none=>SY .non x
 | .bool b=>SY (.bl b) x
 | .int i _=>SY (.int i) x
 | .str z _=>SY (.str z) x
 | _=>false
theorem RE {x y:V} {u:Value} (r:AG y u) (f:EN y=true):Nj x u=SY y x:=by
 cases y with
 | non=>cases r; rfl
 | bl b=>cases r; rfl
 | int i=>obtain ⟨t,rfl⟩:=r; rfl
 | str z=>obtain ⟨t,rfl⟩:=r; rfl
 | _=>exact absurd (show false=true from f) ZI
theorem Gd {x:V}:∀ {xs:List V} {us:List Value},AD xs us->xs.all EN=true->us.any (Nj x)=xs.any fun y=>SY y x
 | _,_,.nil,_=>rfl
 | y :: xs,u :: us,.cons r t,f=>by
  rw [bM,af] at f;rw [b8,b8,RE r f.1,Gd t f.2]
theorem EI {A:Around} {s:Shared} {x:V} {v:Value} (rx:AG x v) (fx:EN x=true):∀ {xs:List V} {us:List Value},AD xs us->xs.all EN=true->∀ u ∈ us,SeqAt.EqAt A s u v (Nj x u)
 | _,_,.nil,_=>fun u hu=>by cases hu
 | y :: xs,u :: us,.cons r t,f=>fun u' hu=>by
  rw [bM,af] at f;rcases Z3.mp hu with rfl | hu
  ·rw [RE r f.1]; exact V1 r rx f.1 fx
  ·exact EI rx fx t f.2 u' hu
def inV (x:V) (xs:List V):Bool:=xs.any fun y=>SY y x
def rIn (K:Z1) (neg:Bool):R2:=fun x y H Q=>∃ p xs,y=.ref p/\(AS K H p xs\/A1 K H p xs)/\EN x=true/\xs.all EN=true/\Q (.bl (if neg then !inV x xs else inV x xs)) H
theorem OY:E8 X (compareOp .In) (rIn X.K false):=by
 intro pins s σ H x y v u Q I rx ry h;obtain ⟨p,xs,rfl,hq,fx,fs,q⟩:=h;cases ry
 rcases hq with hq | hq
 ·obtain ⟨Ar,r,pl,hz⟩:=I.list hq;refine SeqAt.in_listAt (Nj x) pl.isList (fun w hw=>EI rx fx r fs w (by simpa using hw)) ⟨.bl _,H,I,rfl,?_⟩;rw [show Ar.toArray.any (Nj x)=Ar.any (Nj x) by simp,Gd r fs];exact q
 ·obtain ⟨Ar,r,pl,hz⟩:=I.tuple hq;refine SeqAt.in_tupleAt (Nj x) pl (fun w hw=>EI rx fx r fs w (by simpa using hw)) ⟨.bl _,H,I,rfl,?_⟩;rw [show Ar.toArray.any (Nj x)=Ar.any (Nj x) by simp,Gd r fs];exact q
theorem KO:E8 X (compareOp .NotIn) (rIn X.K true):=by
 intro pins s σ H x y v u Q I rx ry h;obtain ⟨p,xs,rfl,hq,fx,fs,q⟩:=h;cases ry
 rcases hq with hq | hq
 ·obtain ⟨Ar,r,pl,hz⟩:=I.list hq;refine SeqAt.notIn_listAt (Nj x) pl.isList (fun w hw=>EI rx fx r fs w (by simpa using hw)) ⟨.bl _,H,I,rfl,?_⟩;rw [show Ar.toArray.any (Nj x)=Ar.any (Nj x) by simp,Gd r fs];exact q
 ·obtain ⟨Ar,r,pl,hz⟩:=I.tuple hq;refine SeqAt.notIn_tupleAt (Nj x) pl (fun w hw=>EI rx fx r fs w (by simpa using hw)) ⟨.bl _,H,I,rfl,?_⟩;rw [show Ar.toArray.any (Nj x)=Ar.any (Nj x) by simp,Gd r fs];exact q
theorem AH:Bw X (.builtin "len") (fun xs H Q=>∃ p ys,xs=[.ref p]/\(AS X.K H p ys\/A1 X.K H p ys)/\Q (.int ys.length) H):=by
 intro pins s σ H xs us Q I r h;obtain ⟨p,ys,rfl,hq,q⟩:=h;obtain ⟨u,rfl,rx⟩:=Cv r;cases rx
 have hn:=F0;rcases hq with hq | hq
 ·obtain ⟨Ar,r',pl,hz⟩:=I.list hq;have hlen:=r'.length;exact Calls.call_len_list pl.isList (by simp only [ZG] <;> lia) ⟨.int ys.length,H,I.tok _,⟨s.toks + 1,by rw [ZG,hlen]⟩,q⟩
 ·obtain ⟨Ar,r',pl,hz⟩:=I.tuple hq;have hlen:=r'.length;exact len_tuple pl (by simp only [ZG] <;> lia) ⟨.int ys.length,H,I.tok _,⟨s.toks + 1,by rw [ZG,hlen]⟩,q⟩
theorem Gb:Bw X (.builtin "len") (fun xs H Q=>∃ z,xs=[.str z]/\z.length<=sizeLine/\Q (.int z.length) H):=by
 intro pins s σ H xs us Q I r h;obtain ⟨z,rfl,hz,q⟩:=h;obtain ⟨u,rfl,t,rfl⟩:=Cv r;have hn:=F0;exact len_str (by lia) ⟨.int z.length,H,I.tok _,⟨_,rfl⟩,q⟩
theorem Ga:Bw X (.type "list") (fun xs H Q=>∃ p ys,xs=[.ref p]/\(AS X.K H p ys\/A1 X.K H p ys)/\∀ l,H l=none->Q (.ref l) (upd H l (.lst ys))):=by
 intro pins s σ H xs us Q I r h;obtain ⟨p,ys,rfl,hq,q⟩:=h;obtain ⟨u,rfl,rx⟩:=Cv r;cases rx
 have fin:∀ (Ar:List Value),AD ys Ar->ys.length<=sizeLine->∀ (h':Heap) (c':Nat),(∀ b o',s.heap.get? b=some o'->h'.get? b=some o') ->
   h'.get? s.heap.objs.size=some { cls:=.type "list",dict:=none,data:=.seq Ar.toArray c',slots:=#[] }->EP X pins σ Q (.ref s.heap.objs.size) { s with heap:=h' }:=fun Ar r' hz h' c' kp e=>
  ⟨.ref s.heap.objs.size,_,I.laid (t':=s.toks) kp (Z4 _) (show AM X.prog X.w _ h' _ (.lst ys) from ⟨hz,Ar,c',r',e⟩),rfl,q _ (I.hok.fresh (Z4 _))⟩
 rcases hq with hq | hq
 ·obtain ⟨Ar,r',pl,hz⟩:=I.list hq;have hlen:=r'.length;obtain ⟨o,ho,hc,n,hd⟩:=pl.isList;exact call_list_seq p (.inl rfl) ho hc hd (fun h' c' kp e=>fin Ar r' hz h' c' kp e) (by simp only [ZG] <;> lia)
 ·obtain ⟨Ar,r',pl,hz⟩:=I.tuple hq;have hlen:=r'.length;obtain ⟨o,ho,hc,n,hd⟩:=pl;exact call_list_seq p (.inr rfl) ho hc hd (fun h' c' kp e=>fin Ar r' hz h' c' kp e) (by simp only [ZG] <;> lia)
theorem B3:Bw X (.type "tuple") (fun xs H Q=>∃ p ys,xs=[.ref p]/\((AS X.K H p ys/\∀ l,H l=none->Q (.ref l) (upd H l (.tup ys)))\/(A1 X.K H p ys/\Q (.ref p) H))):=by
 intro pins s σ H xs us Q I r h;obtain ⟨p,ys,rfl,h⟩:=h;obtain ⟨u,rfl,rx⟩:=Cv r;cases rx
 rcases h with ⟨hq,q⟩ | ⟨hq,q⟩
 ·obtain ⟨Ar,r',pl,hz⟩:=I.list hq;have hlen:=r'.length;refine call_tuple_list pl.isList (fun h' kp=>?_) (by simp only [ZG] <;> lia);have I1:Aw X pins σ H { s with heap:=h' }:=I.kept (t':=s.toks) kp;have I2:Aw X pins σ (upd H h'.objs.size (.tup ys)) { s with heap:=h'.push { cls:=.type "tuple",data:=.seq Ar.toArray } }:=
   I1.laid (t':=s.toks) (fun b o e=>Zz _ e) (Z4 _) (show AM X.prog X.w _ _ _ (.tup ys) from ⟨hz,Ar,r',IsTup.new _ _,Ll.new rfl rfl⟩)
  exact ⟨.ref h'.objs.size,_,I2,rfl,q _ (I1.hok.fresh (Z4 _))⟩
 ·obtain ⟨Ar,r',pl,hz⟩:=I.tuple hq;exact call_tuple_same pl ⟨.ref p,H,I,rfl,q⟩
def tyV (K:Z1) (T:String) (x:V) (H:Hp):Prop:=match x with
 | .str _=>T="str"
 | .int _=>T="int"
 | .ref p=>(T="list"/\∃ xs,AS K H p xs)\/(T="tuple"/\∃ o,K.lookup p=some o/\o.cls=.type "tuple"/\o.dict=none) \/
   (T="dict"/\((∃ kvs,H p=some (.dK kvs))\/∃ kvs,H p=some (.dT kvs)))\/(T="set"/\∃ S n,H p=some (.set S n))
 | _=>False
theorem U5 {pins:List (Addr × Obj)} {σ:St} {H:Hp} {s:Shared} {T:String} {x:V} {v:Value} (I:Aw X pins σ H s) (r:AG x v) (ty:tyV X.K T x H) :
  s.TypeIs v T/\∀ a,v=.ref a->∃ ob,s.heap.get? a=some ob/\ob.dict=none:=by
 cases x with
 | str z=>
  obtain ⟨t,rfl⟩:=r;cases (show T="str" from ty)
  exact ⟨typeIs_str s z t,fun _ e=>nomatch e⟩
 | int i=>
  obtain ⟨t,rfl⟩:=r;cases (show T="int" from ty)
  exact ⟨typeIs_int s i t,fun _ e=>nomatch e⟩
 | ref p=>
  cases r
  rcases ty with ⟨rfl,xs,hq⟩ | ⟨rfl,o,hk,hc,hd⟩ | ⟨rfl,hk⟩ | ⟨rfl,S,n,hk⟩
  ·obtain ⟨Ar,_,pl,_⟩:=I.list hq;refine ⟨pl.isList.typeIs,fun a e=>?_⟩;cases e
   obtain ⟨o,n,e,c,hd,_⟩:=pl;exact ⟨o,e,hd⟩
  ·refine ⟨⟨o,I.kIn p o hk,hc⟩,fun a e=>?_⟩;cases e
   exact ⟨o,I.kIn _ o hk,hd⟩
  ·have z:∃ o,s.heap.get? p=some o/\o.ExactDict:=by
    rcases hk with ⟨kvs,hk⟩ | ⟨kvs,hk⟩
    ·obtain ⟨_,_,_,_,o,_,_,e,ex,_⟩:=I.hok p _ hk;exact ⟨o,e,ex⟩
    ·obtain ⟨_,_,_,_,o,_,_,e,ex,_⟩:=I.hok p _ hk;exact ⟨o,e,ex⟩
   obtain ⟨o,e,ex⟩:=z;refine ⟨⟨o,e,ex.1⟩,fun a e2=>?_⟩;cases e2
   exact ⟨o,e,ex.2.1⟩
  ·obtain ⟨o,_,_,_,e,ex,_⟩:=I.hok p _ hk;refine ⟨⟨o,e,ex.1⟩,fun a e2=>?_⟩;cases e2
   exact ⟨o,e,ex.2.1⟩
 | _=>exact False.elim ty
def tBM (K:Z1) (T:String) (r:V->List V->Hp->VK->Prop) (to:TE) (t:TA):TE:=fun σ H Q=>to σ H fun x H1=>tyV K T x H1/\t σ H1 fun xs H2=>r x xs H2 Q
variable {o e:Expr} {es:List Expr} {to:TE} {t:TA} {name:Str} {apos DS:Pos} {T id:String} {r:V->List V->Hp->VK->Prop}
theorem Hf (pa:PlainAttrs T) (slot:Slot T name id) (hty:typeOf (.builtin id)=pure (.type "method_descriptor")) (hm:MtR X id r) (ho:PE X o to) (ha:PA X (e :: es) t)
  (hbase:attributeBase o name X.env (eval o X.env)=eval o X.env:=by rfl)
  (hfew:((backTo DS (starEach (e :: es) X.env)).all (fun x=>!x.1) && (backToKw DS (keywordEach [] X.env)).all (fun x=>x.1.isSome)
   && decide ((e :: es).length + ([]:List Keyword).length + (if ([]:List Keyword).isEmpty then 0 else 1) < 30))=true:=by rfl)
  (hline:(apos.endLine == DS.line)=true:=by rfl) (hs:starEach (e :: es) X.env=(false,eval e X.env) :: starEach es X.env:=by rfl) (hplain:(backTo DS (starEach es X.env)).any (·.1)=false:=by rfl) :
  PE X (.Call (.Attribute o name apos) (e :: es) [] DS) (tBM X.K T r to t):=by
 intro pins s σ H Q I h;refine wpAny_Call_method_late hbase hfew hline rfl (Bx (ho (pins:=pins) s σ H _ I h) fun v s1 ⟨x,H1,I1,r1,ty,q1⟩=>?_);obtain ⟨h1,h2⟩:=U5 I1 r1 ty;exists T,id,pa,slot,hty,h1,h2;have hA:=ha (pos:=DS) (pins:=pins) s1 σ H1 _ I1 q1;rw [hs] at hA ⊢;refine Calls.callWith_builtin (by show (false || (backTo DS (starEach es X.env)).any (·.1))=false; rw [hplain] <;> rfl) (Calls.evalArgs_plain ?_);exact Bx hA fun us s2 ⟨vs,H2,I2,r2,q2⟩=>hm (pins:=pins) s2 σ H2 x vs v us Q I2 r1 r2 q2
end
def MtM (X:Cx) (id:String) (r:V->List V->Hp->VK->Prop):Prop:=
 ∀ ⦃pins:List (Addr × Obj)⦄ (s:Shared) (σ:St) (H:Hp) (x:V) (xs:List V) (v:Value) (us:List Value) (Q:VK),Aw X pins σ H s->AG x v->AD xs us->r x xs H Q ->
  wpAny (model X.prog X.w) X.A (call (.builtin id) (v :: us)) (EP X pins σ Q) X.xe s
theorem AD.one:∀ {x:V} {us:List Value},AD [x] us->∃ u,us=[u]/\AG x u
 | _,_,.cons r .nil=>⟨_,rfl,r⟩
theorem AD.eraseIdx:∀ {xs:List V} {us:List Value} (i:Nat),AD xs us->AD (xs.eraseIdx i) (us.eraseIdx i)
 | _,_,_,.nil=>.nil
 | _,_,0,.cons _ t=>t
 | _,_,i + 1,.cons r t=>.cons r (AD.eraseIdx i t)
theorem Ki {α:Type}:∀ (l:List α) (i:Nat),(l.eraseIdx i).length<=l.length
 | [],_=>Z4 _
 | _ :: _,0=>ZZ _
 | _ :: r,i + 1=>Nat.succ_le_succ (Ki r i)
section
variable {X:Cx} {pins:List (Addr × Obj)} {σ:St} {H:Hp} {s:Shared} {l b:Addr} {xs ys zs:List V}
theorem Aw.lset {Ar its':List Value} {n:Nat} {f:Array Value->Array Value} {t':Nat} (I:Aw X pins σ H s) (hH:H l=some (.lst xs))
  (e:s.heap.get? l=some { cls:=.type "list",data:=.seq Ar.toArray n }) (hf:f Ar.toArray=its'.toArray) (hv:AD ys its') (hz:ys.length<=sizeLine) :
  Aw X pins σ (upd H l (.lst ys)) { s with heap:=s.heap.update l (Obj.mapSeq f),toks:=t' }:=by
 have q:=PySem.IsL.update e f;rw [hf] at q;refine I.write (x:=l) (e:=l) (by rw [hH]; exact trivial) (.inl rfl) (fun b' u hb hu=>(ab s.heap (Obj.mapSeq f) (Ne.symm hb)).trans hu) ⟨_,q⟩ ?_;exact ⟨hz,its',_,hv,q⟩
theorem Aw.lnew {Ar:List Value} {t':Nat} (I:Aw X pins σ H s) (hv:AD ys Ar) (hz:ys.length<=sizeLine) :
  Aw X pins σ (upd H s.heap.objs.size (.lst ys)) { s with heap:=s.heap.push { cls:=.type "list",data:=.seq Ar.toArray },toks:=t' }:=
 I.laid (fun _ _ q=>Zz _ q) (Z4 _) ⟨hz,Ar,0,hv,Z9 _ rfl⟩
theorem Aw.fresh (I:Aw X pins σ H s):H s.heap.objs.size=none:=I.hok.fresh (Z4 _)
theorem Aw.lstM (I:Aw X pins σ H s) (hH:H l=some (.lst xs)):xs.length<=sizeLine/\∃ (Ar:List Value) (n:Nat),AD xs Ar/\xs.length=Ar.length/\s.heap.get? l=some { cls:=.type "list",data:=.seq Ar.toArray n }:=by
 obtain ⟨z,Ar,n,r,e⟩:=I.hok l _ hH;exact ⟨z,Ar,n,r,r.length,e⟩
end
section
variable {X:Cx}
def Sr:V->List V->Hp->VK->Prop:=fun x vs H Q=>∃ l xs y,x=.ref l/\vs=[y]/\H l=some (.lst xs)/\xs.length < sizeLine/\Q .non (upd H l (.lst (xs ++ [y])))
theorem CH:MtM X "list.append" Sr:=by
 intro pins s σ H x vs v us Q I rx rv h;obtain ⟨l,xs,y,rfl,rfl,hH,hz,q⟩:=h;cases rx
 obtain ⟨u,rfl,ru⟩:=rv.one;obtain ⟨z,Ar,n,r,hl,e⟩:=I.lstM hH;refine call_meets F.slot_list_append ⟨_,e,rfl⟩ F.entry_list_append (F.args_list_append_2 _ _) (PySem.list_append l Ar.toArray n u (by rw [ZG]; lia)) ⟨e,?_⟩;refine ⟨.non,_,I.lset (its':=Ar ++ [u]) hH e (by simp) (r.append (.cons ru .nil)) ?_,rfl,q⟩;rw [Z7,aZ];lia
def UN:V->List V->Hp->VK->Prop:=fun x vs H Q=>∃ l xs i k y,x=.ref l/\vs=[.int i]/\H l=some (.lst xs)/\-(2 ^ 63)<=i/\i < 2 ^ 63/\seqIndex? i xs.length=some k/\xs[k]? = some y/\Q y (upd H l (.lst (xs.eraseIdx k)))
theorem Ma:MtM X "list.pop" UN:=by
 intro pins s σ H x vs v us Q I rx rv h;obtain ⟨l,xs,i,k,y,rfl,rfl,hH,h1,h2,hk,hy,q⟩:=h;cases rx
 obtain ⟨u,rfl,ru⟩:=rv.one;obtain ⟨t,rfl⟩:=ru;obtain ⟨z,Ar,n,r,hl,e⟩:=I.lstM hH;obtain ⟨w,hw,OK⟩:=r.get hy;refine call_meets F.slot_list_pop ⟨_,e,rfl⟩ F.entry_list_pop (F.args_list_pop_2 _ _)
  (MeetsSeq.list_pop_at l Ar.toArray n i t k w (fitsIndex_both h1 h2) (by rw [ZG,<-hl]; exact hk) (by rw [<-bx]; exact hw) (by rw [ZG]; lia)) ⟨e,?_⟩
 refine ⟨y,_,I.lset (its':=Ar.eraseIdx k) hH e ?_ (r.eraseIdx k) ?_,OK,q⟩
 ·show Ar.toArray.eraseIdxIfInBounds k=(Ar.eraseIdx k).toArray
  rw [List.eraseIdxIfInBounds_toArray]
 ·have:=Ki xs k;lia
def rCat:R2:=fun x y H Q=>∃ l b xs zs,x=.ref l/\y=.ref b/\H l=some (.lst xs)/\H b=some (.lst zs)/\xs.length + zs.length<=sizeLine/\∀ p,H p=none->Q (.ref p) (upd H p (.lst (xs ++ zs)))
theorem Vc:E8 X (binaryOp .Add) rCat:=by
 intro pins s σ H x y v u Q I rx ry h;obtain ⟨l,b,xs,zs,rfl,rfl,hH,hB,hz,q⟩:=h;cases rx
 cases ry
 obtain ⟨z,Ar,n,r,hl,e⟩:=I.lstM hH;obtain ⟨z2,HG,n2,r2,Jw,e2⟩:=I.lstM hB;refine PySem.P.add_list e e2 ?_ (by rw [ZG,ZG]; lia);have ea:Ar.toArray ++ HG.toArray=(Ar ++ HG).toArray:=by simp
 rw [ea];exact ⟨.ref _,_,I.lnew (t':=s.toks) (r.append r2) (by rw [Z7]; lia),rfl,q _ I.fresh⟩
end
section
variable {prog:Program} {w:World} {A:Around} {E:Value->Shared->Prop} {s:Shared}
set_option maxRecDepth 100000 in
end
section
variable {X:Cx}
end
section
variable {κ:Type} [DecidableEq κ]
def B4 (kvs:List (κ × V)) (k:κ):Option V:=(kvs.find? fun kv=>decide (kv.1=k)).map (·.2)
def BG (kvs:List (κ × V)) (k:κ) (v:V):List (κ × V):=
 if (kvs.any fun kv=>decide (kv.1=k))=true then kvs.map (fun kv=>if kv.1=k then (kv.1,v) else kv) else kvs ++ [(k,v)]
def Jh (kvs:List (κ × V)) (k:κ):List (κ × V):=kvs.filter fun kv=>decide (kv.1 ≠ k)
theorem BD {p:κ × V} {r:List (κ × V)} {k:κ} (e:p.1=k):B4 (p :: r) k=some p.2:=by simp [B4,aY,e]
theorem B6 {p:κ × V} {r:List (κ × V)} {k:κ} (e:¬ p.1=k):B4 (p :: r) k=B4 r k:=by simp [B4,aY,e]
theorem Cy (k:κ):∀ kvs:List (κ × V),(kvs.any fun kv=>decide (kv.1=k))=(B4 kvs k).isSome
 | []=>rfl
 | p :: r=>by
  rw [b8];by_cases e:p.1=k
  ·simp only [BD e,decide_eq_true e,Bool.true_or,Option.isSome_some]
  ·rw [B6 e,decide_eq_false e,Bool.false_or]; exact Cy k r
theorem Lx (k j:κ) (y:V):∀ kvs:List (κ × V),B4 (kvs.map fun kv=>if kv.1=k then (kv.1,y) else kv) j=(B4 kvs j).map fun x=>if j=k then y else x
 | []=>rfl
 | p :: r=>by
  have ih:=Lx k j y r;rw [ZL];by_cases h:p.1=k
  ·rw [if_pos h];by_cases e:p.1=j
   ·rw [BD (p:=(p.1,y)) e,BD e,bo,if_pos (e.symm.trans h)]
   ·rw [B6 (p:=(p.1,y)) e,B6 e,ih]
  ·rw [if_neg h];by_cases e:p.1=j
   ·rw [BD (p:=p) e,BD e,bo,if_neg (fun z=>h (e.trans z))]
   ·rw [B6 (p:=p) e,B6 e,ih]
theorem JU (k j:κ) (y:V):∀ kvs:List (κ × V),B4 kvs k=none->B4 (kvs ++ [(k,y)]) j=if j=k then some y else B4 kvs j
 | [],_=>by
  by_cases e:k=j
  ·rw [if_pos e.symm]; exact BD (p:=(k,y)) e
  ·rw [if_neg (fun z=>e z.symm)]; exact B6 (p:=(k,y)) e
 | p :: r,hn=>by
  rw [cK];have hk:¬ p.1=k:=fun z=>by rw [BD z] at hn; cases hn
  rw [B6 hk] at hn;have ih:=JU k j y r hn;by_cases e:p.1=j
  ·rw [BD e,BD e,if_neg (fun z=>hk (e.trans z))]
  ·rw [B6 e,B6 e,ih]
theorem Qn (kvs:List (κ × V)) (k j:κ) (y:V):B4 (BG kvs k y) j=if j=k then some y else B4 kvs j:=by
 unfold BG;by_cases a:(kvs.any fun kv=>decide (kv.1=k))=true
 ·rw [if_pos a,Lx];rw [Cy] at a;by_cases e:j=k
  ·obtain ⟨x,hx⟩:=bI.mp a;rw [if_pos e,e,hx,bo,if_pos rfl]
  ·rw [if_neg e];cases B4 kvs j with
   | none=>rfl
   | some x=>rw [bo,if_neg e]
 ·rw [if_neg a];refine JU k j y kvs ?_;rw [Cy] at a;cases q:B4 kvs k with
  | none=>rfl
  | some x=>rw [q] at a; exact (a rfl).elim
theorem CM (kvs:List (κ × V)) (k:κ) (v:V):(BG kvs k v).length<=kvs.length + 1:=by
 unfold BG;split
 ·rw [Z0]; lia
 ·rw [Z7,aq,eJ]; lia
theorem QN {kvs:List (κ × V)} {k:κ} (v:V) (h:B4 kvs k=none):BG kvs k v=kvs ++ [(k,v)]:=by
 unfold BG;rw [Cy,h];exact if_neg (by decide)
theorem GH.isSome_eq {o:Option V} {u:Option Value} (r:GH o u):o.isSome=u.isSome:=by
 cases o with
 | none=>cases u with
  | none=>rfl
  | some _=>exact (show False from r).elim
 | some _=>cases u with
  | none=>exact (show False from r).elim
  | some _=>rfl
theorem GH.getD {o:Option V} {u:Option Value} {d:V} {d':Value} (r:GH o u) (rd:AG d d'):AG (o.getD d) (u.getD d'):=by
 cases o with
 | none=>cases u with
  | none=>exact rd
  | some _=>exact (show False from r).elim
 | some _=>cases u with
  | none=>exact (show False from r).elim
  | some _=>exact r
theorem KV.val {kvs:List (κ × V)} {vs:List (κ × Value)} (r:KV kvs vs) (k:κ):GH (B4 kvs k) (valueAt vs k):=by
 unfold KV at r;induction r with
 | nil=>exact True.intro
 | @cons p q ps qs h t ih=>
  obtain ⟨h1,h2⟩:=h;by_cases e:p.1=k
  ·have e':q.1=k:=h1.symm.trans e;have b:valueAt (q :: qs) k=some q.2:=by simp [valueAt,aY,e']
   rw [BD e,b]; exact h2
  ·have e':¬ q.1=k:=fun z=>e (h1.trans z)
   have b:valueAt (q :: qs) k=valueAt qs k:=by simp [valueAt,aY,e']
   rw [B6 e,b]; exact ih
theorem KV.any {kvs:List (κ × V)} {vs:List (κ × Value)} (r:KV kvs vs) (k:κ):(kvs.any fun kv=>decide (kv.1=k))=vs.any fun kv=>decide (kv.1=k):=by
 unfold KV at r;induction r with
 | nil=>rfl
 | cons h t ih=>rw [b8,b8,ih,h.1]
theorem KV.repl {kvs:List (κ × V)} {vs:List (κ × Value)} (r:KV kvs vs) (k:κ) {y:V} {u:Value} (ry:AG y u) :
  KV (kvs.map fun kv=>if kv.1=k then (kv.1,y) else kv) (vs.map fun kv=>if kv.1=k then (kv.1,u) else kv):=by
 unfold KV at r ⊢;induction r with
 | nil=>exact .nil
 | @cons p q ps qs h t ih=>
  rw [ZL,ZL];refine .cons ?_ ih;obtain ⟨h1,h2⟩:=h;by_cases e:p.1=k
  ·rw [if_pos e,if_pos (h1.symm.trans e)]; exact ⟨h1,ry⟩
  ·rw [if_neg e,if_neg (fun z=>e (h1.trans z))]; exact ⟨h1,h2⟩
theorem KV.put {kvs:List (κ × V)} {vs:List (κ × Value)} (r:KV kvs vs) (k:κ) {y:V} {u:Value} (ry:AG y u):KV (BG kvs k y) (stored vs k u):=by
 unfold BG stored;rw [r.any k];by_cases e:(vs.any fun kv=>decide (kv.1=k))=true
 ·rw [if_pos e,if_pos e]; exact r.repl k ry
 ·rw [if_neg e,if_neg e]; exact Paired.snoc r ⟨rfl,ry⟩
theorem KV.drop {kvs:List (κ × V)} {vs:List (κ × Value)} (r:KV kvs vs) (k:κ):KV (Jh kvs k) (without vs k):=by
 unfold KV at r ⊢;unfold Jh without;induction r with
 | nil=>exact .nil
 | @cons p q ps qs h t ih=>
  obtain ⟨h1,h2⟩:=h;rw [aT,aT];by_cases e:p.1=k
  ·have a:¬ decide (p.1 ≠ k)=true:=by simp [e]
   have b:¬ decide (q.1 ≠ k)=true:=by simp [h1.symm.trans e]
   rw [if_neg a,if_neg b]; exact ih
  ·have e':¬ q.1=k:=fun z=>e (h1.trans z)
   have a:decide (p.1 ≠ k)=true:=by simp [e]
   have b:decide (q.1 ≠ k)=true:=by simp [e']
   rw [if_pos a,if_pos b]; exact .cons ⟨h1,h2⟩ ih
theorem KV.length {kvs:List (κ × V)} {vs:List (κ × Value)} (r:KV kvs vs):kvs.length=vs.length:=Paired.length r
theorem RG (kvs:List (κ × V)) (k:κ):(Jh kvs k).length<=kvs.length:=dk _ _
end
theorem Hq {P:Program} {w:World} {k:Bm} {u:Value} (r:AG (kV k) u):(AX P w).is k u=true:=by
 cases k with
 | inl i=>obtain ⟨t,e⟩:=(show ∃ t,u=Value.int i t from r); subst e; exact Mb P w i t
 | inr x=>obtain ⟨t,e⟩:=(show ∃ t,u=Value.str x t from r); subst e; exact Hn P w x t
theorem Kk {P:Program} {w:World}:∀ {ks:List Bm} {us:List Value},AD (ks.map kV) us->ItemsAre (AX P w) ks us
 | [],_,r=>by rw [cD] at r; cases r; exact .nil
 | k :: ks,_,r=>by
  rw [ZL] at r;cases r with
  | cons h t=>exact .cons (Hq h) (Kk t)
abbrev KT (H:Hp):List (List Bm × V)->List (List Bm × Addr × Value)->Prop:=Paired fun p q=>p.1=q.1/\H q.2.1=some (.tup (p.1.map kV))/\AG p.2 q.2.2
theorem KT.val {H:Hp} {kvs:List (List Bm × V)} {xs:List (List Bm × Addr × Value)} (r:KT H kvs xs) (k:List Bm):GH (B4 kvs k) ((atKey xs k).map (·.2)):=by
 induction r with
 | nil=>exact True.intro
 | @cons p q ps qs h t ih=>
  obtain ⟨h1,_,h2⟩:=h;by_cases e:p.1=k
  ·have e':q.1=k:=h1.symm.trans e;have b:atKey (q :: qs) k=some q.2:=by simp [atKey,aY,e']
   rw [BD e,b]; exact h2
  ·have e':¬ q.1=k:=fun z=>e (h1.trans z)
   have b:atKey (q :: qs) k=atKey qs k:=by simp [atKey,aY,e']
   rw [B6 e,b]; exact ih
theorem KT.repl {H:Hp} {kvs:List (List Bm × V)} {xs:List (List Bm × Addr × Value)} (r:KT H kvs xs) (k:List Bm) {y:V} {u:Value} (ry:AG y u) :
  KT H (kvs.map fun kv=>if kv.1=k then (kv.1,y) else kv) (xs.map (putAt k u)):=by
 induction r with
 | nil=>exact .nil
 | @cons p q ps qs h t ih=>
  rw [ZL,ZL];refine .cons ?_ ih;obtain ⟨h1,h2,h3⟩:=h;unfold putAt;by_cases e:p.1=k
  ·rw [if_pos e,if_pos (h1.symm.trans e)]; exact ⟨h1,h2,ry⟩
  ·rw [if_neg e,if_neg (fun z=>e (h1.trans z))]; exact ⟨h1,h2,h3⟩
theorem KT.put {H:Hp} {kvs:List (List Bm × V)} {xs:List (List Bm × Addr × Value)} (r:KT H kvs xs) (k:List Bm) {b:Addr} {y:V} {u:Value} (hb:H b=some (.tup (k.map kV))) (ry:AG y u) :
  KT H (BG kvs k y) (storedH xs k b u):=by
 have e:(kvs.any fun kv=>decide (kv.1=k))=(atKey xs k).isSome:=by
  rw [Cy,(r.val k).isSome_eq,cA]
 unfold BG storedH;rw [e];by_cases q:(atKey xs k).isSome=true
 ·rw [if_pos q,if_pos q]; exact r.repl k ry
 ·rw [if_neg q,if_neg q]; exact Paired.snoc r ⟨rfl,hb,ry⟩
theorem KT.keeps {H H':Hp} {kvs:List (List Bm × V)} {xs:List (List Bm × Addr × Value)} (r:KT H kvs xs) (ht:∀ b ys,H b=some (.tup ys)->H' b=some (.tup ys)):KT H' kvs xs:=
 Paired.mapP r fun _ _ z=>⟨z.1,ht _ _ z.2.1,z.2.2⟩
section
variable {P:Program} {w:World} {H:Hp} {h:Heap} {a:Addr}
theorem TK {u:HO} (ok:F9 P w H h) (e:Rd H a u):AM P w H h a u:=e.ok ok
theorem Ji {kvs:List (Bm × V)} (ok:F9 P w H h) (e:Rd H a (.dK kvs)):kvs.length<=sizeLine/\(a == sysModules)=false/\∃ vs,KV kvs vs/\h.DictOf (AX P w) a vs:=
 show AM P w H h a (.dK kvs) from TK ok e
theorem RH {kvs:List (Bm × V)} (ok:F9 P w H h) (e:H a=some (.dK kvs)):kvs.length<=sizeLine/\(a == sysModules)=false/\∃ vs,KV kvs vs/\h.DictOf (AX P w) a vs:=Ji ok (.inl e)
theorem G4 {ks:List Bm} (ok:F9 P w H h) (e:H a=some (.tup (ks.map kV))):(tupleKind (AX P w)).is h ks a:=by
 obtain ⟨_,Ar,r,⟨o,h1,h2,n,h3⟩,_⟩:=(show AM P w H h a (.tup (ks.map kV)) from ok a _ e)
 exact ⟨o,Ar.toArray,n,h1,h2,h3,by simpa using Kk r⟩
theorem Jg {kvs:List (List Bm × V)} (ok:F9 P w H h) (e:Rd H a (.dT kvs)):kvs.length<=sizeLine/\(a == sysModules)=false /\
  ∃ xs,KT H kvs xs/\h.DictOfH (tupleKind (AX P w)) a xs:=by
 obtain ⟨z,y,xs,r,o,es,ep,h1,h2,h3,h4,h5⟩:=(show AM P w H h a (.dT kvs) from TK ok e)
 refine ⟨z,y,xs,r,o,es,ep,h1,h2,h3,h4,fun x hx=>?_,h5⟩;have all:∀ {l:List (List Bm × V)} {m:List (List Bm × Addr × Value)},KT H l m->∀ x ∈ m,(tupleKind (AX P w)).is h x.1 x.2.1:=by
  intro l m q;induction q with
  | nil=>intro x hx; exact nomatch hx
  | @cons p q ps qs hq t ih=>
   intro x hx;rcases Z3.mp hx with e | hx
   ·subst e;exact G4 ok (by rw [<-hq.1]; exact hq.2.1)
   ·exact ih x hx
 exact all r x hx
theorem dt_of {kvs:List (List Bm × V)} (ok:F9 P w H h) (e:H a=some (.dT kvs)):kvs.length<=sizeLine/\(a == sysModules)=false /\
  ∃ xs,KT H kvs xs/\h.DictOfH (tupleKind (AX P w)) a xs:=Jg ok (.inl e)
end
def Cw (H:Hp) (a:Addr) (y:V) (r:Option V):Prop:=
 (∃ kvs k,Rd H a (.dK kvs)/\y=kV k/\r=B4 kvs k)\/∃ kvs k b,Rd H a (.dT kvs)/\y=.ref b/\H b=some (.tup (k.map kV))/\r=B4 kvs k
def F8 (H:Hp) (a:Addr) (y v:V) (H':Hp):Prop:=
 (∃ kvs k,H a=some (.dK kvs)/\y=kV k/\kvs.length < sizeLine/\H'=upd H a (.dK (BG kvs k v))) \/
 ∃ kvs k b,H a=some (.dT kvs)/\y=.ref b/\H b=some (.tup (k.map kV))/\kvs.length < sizeLine/\H'=upd H a (.dT (BG kvs k v))
theorem Cw.k {H:Hp} {a:Addr} {kvs:List (Bm × V)} {k:Bm} (e:H a=some (.dK kvs)):Cw H a (kV k) (B4 kvs k):=.inl ⟨kvs,k,.inl e,rfl,rfl⟩
theorem Cw.t {H:Hp} {a b:Addr} {kvs:List (List Bm × V)} {k:List Bm} (e:H a=some (.dT kvs)) (eb:H b=some (.tup (k.map kV))):Cw H a (.ref b) (B4 kvs k):=.inr ⟨kvs,k,b,.inl e,rfl,eb,rfl⟩
theorem F8.k {H:Hp} {a:Addr} {kvs:List (Bm × V)} {k:Bm} {v:V} (e:H a=some (.dK kvs)) (hl:kvs.length < sizeLine):F8 H a (kV k) v (upd H a (.dK (BG kvs k v))):=.inl ⟨kvs,k,e,rfl,hl,rfl⟩
theorem F8.t {H:Hp} {a b:Addr} {kvs:List (List Bm × V)} {k:List Bm} {v:V} (e:H a=some (.dT kvs)) (eb:H b=some (.tup (k.map kV))) (hl:kvs.length < sizeLine) :
  F8 H a (.ref b) v (upd H a (.dT (BG kvs k v))):=.inr ⟨kvs,k,b,e,rfl,eb,hl,rfl⟩
section
variable {X:Cx} {pins:List (Addr × Obj)} {σ:St} {H:Hp} {s:Shared} {a:Addr} {y v:V} {u r:Value} {o:Option V} {A:Around} {E:Value->Shared->Prop}
theorem Aw.big (I:Aw X pins σ H s):sysModules < s.heap.objs.size:=by
 have h:mainGlobals < s.heap.objs.size:=(I.mod.glob.keeps I.bk).lt;exact Nat.lt_trans (by decide) h
theorem PJ {Q:Value->Shared->Prop} (hu:A.units + 1 < cLine) (I:Aw X pins σ H s) (g:Cw H a y (some v)) (ry:AG y u) (h:∀ w' s',Aw X pins σ H s'->AG v w'->Q w' s') :
  wpAny (model X.prog X.w) A (getItem (.ref a) u) Q E s:=by
 rcases g with ⟨kvs,k,e,ey,l⟩ | ⟨kvs,k,b,e,ey,eb,l⟩
 ·subst ey;obtain ⟨z,hd,vs,rel,dd⟩:=Ji I.hok e;obtain ⟨w',hw,OK⟩:=GH.some_of (v:=v) (o:=valueAt vs k) (by rw [l]; exact rel.val k);exact wpAny_getItem_of (Hq ry) dd.mapOf hw (h w' _ (I.tok _) OK)
 ·subst ey;cases (show u=Value.ref b from ry)
  obtain ⟨z,hd,xs,rel,dd⟩:=Jg I.hok e;obtain ⟨w',hw,OK⟩:=GH.some_of (v:=v) (o:=(atKey xs k).map (·.2)) (by rw [l]; exact rel.val k);obtain ⟨p,hp,hp2⟩:=Option.map_eq_some_iff.mp hw;refine wpAny_getItem_heap (tupleKind_room_in1 hu) (G4 I.hok eb) dd hp ?_;rw [hp2];exact h w' _ (I.tok _) OK
theorem d_in {Q:Value->Shared->Prop} (hu:A.units + 1 < cLine) (I:Aw X pins σ H s) (g:Cw H a y o) (ry:AG y u) (h:∀ s',Aw X pins σ H s'->Q (.bool o.isSome) s') :
  wpAny (model X.prog X.w) A (compareOp .In u (.ref a)) Q E s:=by
 rcases g with ⟨kvs,k,e,ey,l⟩ | ⟨kvs,k,b,e,ey,eb,l⟩
 ·subst ey;obtain ⟨z,hd,vs,rel,dd⟩:=Ji I.hok e;refine wpAny_in_of (Hq ry) hd dd.mapOf ?_;rw [<-(rel.val k).isSome_eq,<-l];exact h _ (I.tok _)
 ·subst ey;cases (show u=Value.ref b from ry)
  obtain ⟨z,hd,xs,rel,dd⟩:=Jg I.hok e;refine wpAny_in_heap (tupleKind_room_in1 hu) (G4 I.hok eb) hd dd ?_;have q:=(rel.val k).isSome_eq;rw [cA] at q;rw [<-q,<-l];exact h _ (I.tok _)
theorem Tb {Q:Value->Shared->Prop} (hu:A.units + 1 < cLine) (I:Aw X pins σ H s) (g:Cw H a y o) (ry:AG y u) (h:∀ s',Aw X pins σ H s'->Q (.bool (!o.isSome)) s') :
  wpAny (model X.prog X.w) A (compareOp .NotIn u (.ref a)) Q E s:=by
 rcases g with ⟨kvs,k,e,ey,l⟩ | ⟨kvs,k,b,e,ey,eb,l⟩
 ·subst ey;obtain ⟨z,hd,vs,rel,dd⟩:=Ji I.hok e;refine wpAny_notIn_of (Hq ry) hd dd.mapOf ?_;rw [<-(rel.val k).isSome_eq,<-l];exact h _ (I.tok _)
 ·subst ey;cases (show u=Value.ref b from ry)
  obtain ⟨z,hd,xs,rel,dd⟩:=Jg I.hok e;refine wpAny_notIn_heap (tupleKind_room_in1 hu) (G4 I.hok eb) hd dd ?_;have q:=(rel.val k).isSome_eq;rw [cA] at q;rw [<-q,<-l];exact h _ (I.tok _)
theorem Ib {h':Heap} {t':Nat} {ob:HO} (I:Aw X pins σ H s) (mu:Mut (H a)) (hs:Heap.SameBut a s.heap h') (he:∃ q,h'.get? a=some q) (new:AM X.prog X.w (upd H a ob) h' a ob) :
  Aw X pins σ (upd H a ob) { s with heap:=h',toks:=t' }:=
 I.write (x:=a) (e:=a) mu (.inl rfl) (fun b q hb z=>(hs.2 b hb).trans z) he new
theorem Lh {P:Program} {w:World} {H':Hp} {h':Heap} {kvs:List (Bm × V)} {vs:List (Bm × Value)} (z:kvs.length<=sizeLine) (hd:(a == sysModules)=false) (rel:KV kvs vs) (dd:h'.DictOf (AX P w) a vs) :
  AM P w H' h' a (.dK kvs):=⟨z,hd,vs,rel,dd⟩
theorem PH {H':Hp} {Q:Unit->Shared->Prop} (hu:A.units + 1 < cLine) (I:Aw X pins σ H s) (g:F8 H a y v H') (ry:AG y u) (rv:AG v r) (h:∀ s',Aw X pins σ H' s'->Q () s') :
  wpAny (model X.prog X.w) A (setItem (.ref a) u r) Q E s:=by
 rcases g with ⟨kvs,k,e,ey,l,eH⟩ | ⟨kvs,k,b,e,ey,eb,l,eH⟩
 ·subst ey eH;obtain ⟨z,hd,vs,rel,dd⟩:=RH I.hok e;have hz:vs.length<=sizeLine:=by rw [<-rel.length]; exact z
  have hl:(BG kvs k v).length<=sizeLine:=by have:=CM kvs k v; lia
  refine wpAny_setItem_pairs (hsz:=hz) (Hq ry) dd fun h' Mx hs=>h _ ?_
  have he:∃ q,h'.get? a=some q:=let ⟨q,_,_,hq,_⟩:=Mx; ⟨q,hq⟩;exact Ib I (by rw [e]; exact True.intro) hs he (Lh hl hd (rel.put k rv) Mx)
 ·subst ey eH;cases (show u=Value.ref b from ry)
  obtain ⟨z,hd,xs,rel,dd⟩:=dt_of I.hok e;have hz:xs.length<=sizeLine:=by rw [<-Paired.length rel]; exact z
  have hl:(BG kvs k v).length<=sizeLine:=by have:=CM kvs k v; lia
  refine wpAny_setItem_heap (hsz:=hz) (tupleKind_room_in1 hu) (G4 I.hok eb) dd fun h' Mx hs=>h _ ?_
  obtain ⟨q,es,ep,hq,h2,h3,h4,_,h5⟩:=Mx;refine Ib I (by rw [e]; exact True.intro) hs ⟨q,hq⟩ ⟨hl,hd,_,(rel.put k eb rv).keeps fun c ys ec=>?_,q,es,ep,hq,h2,h3,h4,h5⟩;rw [Ae (CB ec e (fun z=>nomatch z))];exact ec
end
section
variable {X:Cx} {pins:List (Addr × Obj)} {σ:St} {H:Hp} {s:Shared} {a:Addr} {kvs:List (Bm × V)} {k:Bm} {u:Value} {A:Around} {E:Value->Shared->Prop}
theorem PK {Q:Unit->Shared->Prop} (I:Aw X pins σ H s) (e:H a=some (.dK kvs)) (ry:AG (kV k) u) (l:(B4 kvs k).isSome=true) (h:∀ s',Aw X pins σ (upd H a (.dK (Jh kvs k))) s'->Q () s') :
  wpAny (model X.prog X.w) A (delItem (.ref a) u) Q E s:=by
 obtain ⟨z,hd,vs,rel,dd⟩:=RH I.hok e;refine wpAny_delItem_slot dd.typeIs (by decide) PySem.F.slot_dict_delitem
  (call_meetsIn PySem.F.slot_dict_delitem dd.typeIs PySem.F.entry_dict_delitem (PySem.F.args_dict_delitem_2 _ _) (meets_dict_delitem_pairs (AX X.prog X.w) a (Hq ry)) ⟨vs,dd,by rw [<-rel.length]; exact z,by rw [<-(rel.val k).isSome_eq]; exact l,fun h' Mx hs=>h _ ?_⟩)
 have he:∃ q,h'.get? a=some q:=let ⟨q,_,_,hq,_⟩:=Mx; ⟨q,hq⟩;exact Ib I (by rw [e]; exact True.intro) hs he (Lh (ZV (RG kvs k) z) hd (rel.drop k) Mx)
end
def NoSl (i:Expr):Prop:=∀ ov iv,subscripted i false ov iv=operate [ov,iv] (getItem ov iv)
theorem Si {prog:Program} {w:World} {A:Around} {E:Value->Shared->Prop} {s:Shared} {env:Env} {value slice:Expr} {pos:Pos} {T id:String} {Q:Value->Shared->Prop}
  (hl:typeLookup (.type T) "__getitem__"=pure (some (.builtin id))) (hs:NoSl slice)
  (h:wpAny (model prog w) A (eval value env) (fun o AU=>wpAny (model prog w) A (eval slice env) (fun i E9=>E9.TypeIs o T/\wpAny (model prog w) A (getItem o i) Q E E9) E AU) E s) :
  wpAny (model prog w) A (eval (.Subscript value slice pos) env) Q E s:=by
 refine Subscript_ (wpAny_mono h (fun o AU By=>wpAny_mono By (fun i E9 G5=>?_) fun _ _ x=>x) fun _ _ x=>x);obtain ⟨hT,G5⟩:=G5;unfold subscriptTail;refine wpAny_bind ?_;rw [getitemInPython_of_ne hT.not_modules];refine wpAny_bind (wpAny_specialOf hT hl ?_);have fin:wpAny (model prog w) A (subscripted slice false o i) (fun r CL=>wpAny (model prog w) A (letTemporaryGo value o r >>= fun _=>pure r) Q E CL) E E9:=by
  rw [hs o i];exact wpAny_operating (wpAny_mono G5 (fun r CL HJ=>wpAny_bind (wpAny_letTemporaryGo (wpAny_pure HJ))) fun _ _ x=>x)
 first
  | exact wpAny_pure (wpAny_bind fin)
  | exact wpAny_bind (wpAny_pure (wpAny_bind fin))
  | exact wpAny_bind fin
theorem Mm {X:Cx} {pins:List (Addr × Obj)} {σ:St} {H:Hp} {s:Shared} {a:Addr} {y:V} {o:Option V} (I:Aw X pins σ H s) (g:Cw H a y o):s.TypeIs (.ref a) "dict":=by
 rcases g with ⟨kvs,k,e,_,_⟩ | ⟨kvs,k,b,e,_,_,_⟩
 ·obtain ⟨_,_,vs,_,dd⟩:=Ji I.hok e;exact dd.typeIs
 ·obtain ⟨_,_,xs,_,dd⟩:=Jg I.hok e;exact dd.typeIs
def tDGet (td ty:TE):TE:=fun σ H Q=>td σ H fun x H1=>ty σ H1 fun y H2=>∃ a v,x=.ref a/\Cw H2 a y (some v)/\Q v H2
def tDIn (ty td:TE):TE:=fun σ H Q=>ty σ H fun y H1=>td σ H1 fun x H2=>∃ a o,x=.ref a/\Cw H2 a y o/\Q (.bl o.isSome) H2
def Sg (ty td:TE):TE:=fun σ H Q=>ty σ H fun y H1=>td σ H1 fun x H2=>∃ a o,x=.ref a/\Cw H2 a y o/\Q (.bl (!o.isSome)) H2
def sDPut (td ty tv:TE):TS:=fun D σ H=>tv σ H fun v H1=>td σ H1 fun x H2=>ty σ H2 fun y H3=>∃ a H4,x=.ref a/\F8 H3 a y v H4/\D.nx σ H4
def sDDel (td ty:TE):TS:=fun D σ H=>td σ H fun x H1=>ty σ H1 fun y H2=>∃ a kvs k,x=.ref a/\H2 a=some (.dK kvs)/\y=kV k/\(B4 kvs k).isSome=true/\D.nx σ (upd H2 a (.dK (Jh kvs k)))
section
variable {X:Cx} {o i e value:Expr} {pos pos' tpos:Pos} {td ty tv:TE}
theorem Bo (hu:X.A.units + 1 < cLine) (ho:PE X o td) (hi:PE X i ty) (hs:NoSl i):PE X (.Subscript o i pos) (tDGet td ty):=by
 intro pins s σ H Q I h;refine Si PySem.F.slot_dict_getitem.lookup hs (Bx (ho (pins:=pins) s σ H _ I h) fun u s1 ⟨x,H1,I1,rx,q1⟩=>Bx (hi (pins:=pins) s1 σ H1 _ I1 q1) fun iv s2 ⟨y,H2,I2,ry,a,v,ex,g,q2⟩=>?_);subst ex;obtain rfl:u=Value.ref a:=rx;exact ⟨Mm I2 g,PJ hu I2 g ry fun w' s3 I3 OK=>⟨v,H2,I3,OK,q2⟩⟩
theorem UW (hu:X.A.units + 1 < cLine) (hi:PE X i ty) (ho:PE X o td):PC X .In i o (tDIn ty td):=by
 intro pins s σ H Q I h;refine Bx (hi (pins:=pins) s σ H _ I h) fun iv s1 ⟨y,H1,I1,ry,q1⟩=>Bx (ho (pins:=pins) s1 σ H1 _ I1 q1) fun u s2 ⟨x,H2,I2,rx,a,ov,ex,g,q2⟩=>?_
 subst ex;obtain rfl:u=Value.ref a:=rx;exact d_in hu I2 g ry fun s3 I3=>⟨.bl ov.isSome,H2,I3,rfl,q2⟩
theorem OU (hu:X.A.units + 1 < cLine) (hi:PE X i ty) (ho:PE X o td):PC X .NotIn i o (Sg ty td):=by
 intro pins s σ H Q I h;refine Bx (hi (pins:=pins) s σ H _ I h) fun iv s1 ⟨y,H1,I1,ry,q1⟩=>Bx (ho (pins:=pins) s1 σ H1 _ I1 q1) fun u s2 ⟨x,H2,I2,rx,a,ov,ex,g,q2⟩=>?_
 subst ex;obtain rfl:u=Value.ref a:=rx;exact Tb hu I2 g ry fun s3 I3=>⟨.bl (!ov.isSome),H2,I3,rfl,q2⟩
theorem DM (hu:X.A.units + 1 < cLine) (ho:PE X o td) (hi:PE X i ty) (hv:PE X value tv) (hs:swapsWith value (some (.Subscript o i pos')) pos.line X.env=pure false) :
  PS X (.Assign [.Subscript o i pos'] value pos) (sDPut td ty tv):=by
 intro pins s σ H D I h;refine wpAny_Assign_Subscript (Bx (hv (pins:=pins) s σ H _ I h) fun r s1 ⟨v,H1,I1,rv,q1⟩=>Bx (ho (pins:=pins) s1 σ H1 _ I1 q1) fun u s2 ⟨x,H2,I2,rx,q2⟩=>Bx (hi (pins:=pins) s2 σ H2 _ I2 q2) fun iv s3 ⟨y,H3,I3,ry,a,H4,ex,g,q3⟩=>?_) hs;subst ex;obtain rfl:u=Value.ref a:=rx;exact PH hu I3 g ry rv fun s4 I4=>⟨σ,H4,I4,q3⟩
theorem Su (ho:PE X o td) (hi:PE X i ty):PS X (.Delete [.Subscript o i tpos] pos) (sDDel td ty):=by
 intro pins s σ H D I h;refine wpAny_Delete (wpAny_deleteEach_cons (wpAny_delete_Subscript (Bx (ho (pins:=pins) s σ H _ I h) fun u s1 ⟨x,H1,I1,rx,q1⟩=>Bx (hi (pins:=pins) s1 σ H1 _ I1 q1) fun iv s2 ⟨y,H2,I2,ry,a,kvs,k,ex,e,ey,l,q2⟩=>?_)));subst ex ey;obtain rfl:u=Value.ref a:=rx;exact PK I2 e ry l fun s3 I3=>wpAny_deleteEach_nil ⟨σ,_,I3,q2⟩
end
theorem Jj {P:Program} {w:World} {H:Hp} (h:Heap) (hb:sysModules < h.objs.size):AM P w H (h.push { cls:=.type "dict",data:=.dict #[] }) h.objs.size (.dK []):=
 ⟨ZX _,beq_eq_false_iff_ne.mpr (Ne.symm (ZE hb)),[],.nil,Heap.DictOf.new h⟩
theorem RF {P:Program} {w:World} {H:Hp} (h:Heap) (hb:sysModules < h.objs.size):AM P w H (h.push { cls:=.type "dict",data:=.dict #[] }) h.objs.size (.dT []):=
 ⟨ZX _,beq_eq_false_iff_ne.mpr (Ne.symm (ZE hb)),[],.nil,_,#[],0,Z9 _ rfl,⟨rfl,rfl,rfl⟩,rfl,rfl,cQ⟩
def UD:TE:=fun _ H Q=>∀ p,H p=none->Q (.ref p) (upd H p (.dK []))
def UC:TE:=fun _ H Q=>∀ p,H p=none->Q (.ref p) (upd H p (.dT []))
section
variable {X:Cx} {pos:Pos}
theorem LO:PE X (.Dict [] [] pos) UD:=fun pins s σ H Q I h=>
 wpAny_Dict_empty ⟨.ref s.heap.objs.size,_,I.laid (a:=s.heap.objs.size) (o:=.dK []) (t':=s.toks) (fun _ _ q=>Zz _ q) (Z4 _) (Jj s.heap I.big),rfl,h _ (I.hok.fresh (Z4 _))⟩
theorem QX:PE X (.Dict [] [] pos) UC:=fun pins s σ H Q I h=>
 wpAny_Dict_empty ⟨.ref s.heap.objs.size,_,I.laid (a:=s.heap.objs.size) (o:=.dT []) (t':=s.toks) (fun _ _ q=>Zz _ q) (Z4 _) (RF s.heap I.big),rfl,h _ (I.hok.fresh (Z4 _))⟩
end
def IS (kvs more:List (Bm × V)):List (Bm × V):=more.foldl (fun acc kv=>BG acc kv.1 kv.2) kvs
structure M2 (X:Cx) (o:Expr) (m:Str) (apos:Pos) (e f:Expr) (DS:Pos):Prop where
 base:attributeBase o m X.env (eval o X.env)=eval o X.env
 few:((backTo DS (starEach [e,f] X.env)).all (fun x=>!x.1) && (backToKw DS (keywordEach [] X.env)).all (fun x=>x.1.isSome)
  && decide (([e,f]:List Expr).length + ([]:List Keyword).length + (if ([]:List Keyword).isEmpty then 0 else 1) < 30))=true
 line:(apos.endLine == DS.line)=true
 trees:backTo DS (starEach [e,f] X.env)=[(false,eval e X.env),(false,eval f X.env)]
def IsD (H:Hp) (a:Addr):Prop:=(∃ kvs,Rd H a (.dK kvs))\/∃ kvs,Rd H a (.dT kvs)
theorem Vo {X:Cx} {pins:List (Addr × Obj)} {σ:St} {H:Hp} {s:Shared} {a:Addr} (I:Aw X pins σ H s) (d:IsD H a) :
  s.TypeIs (.ref a) "dict"/\(∀ b,Value.ref a=.ref b->∃ ob,s.heap.get? b=some ob/\ob.dict=none)/\(a == sysModules)=false:=by
 rcases d with ⟨kvs,e⟩ | ⟨kvs,e⟩
 ·obtain ⟨_,hd,vs,_,dd⟩:=Ji I.hok e;refine ⟨dd.typeIs,fun b q=>?_,hd⟩;cases q
  obtain ⟨ob,_,_,h1,h2,_⟩:=dd;exact ⟨ob,h1,h2.2.1⟩
 ·obtain ⟨_,hd,xs,_,dd⟩:=Jg I.hok e;refine ⟨dd.typeIs,fun b q=>?_,hd⟩;cases q
  obtain ⟨ob,_,_,h1,h2,_⟩:=dd;exact ⟨ob,h1,h2.2.1⟩
section
variable {X:Cx} {pins:List (Addr × Obj)} {σ:St} {H:Hp} {s:Shared} {a:Addr} {y d:V} {u r:Value} {o:Option V} {A:Around} {E:Value->Shared->Prop}
theorem V2 {Q:Value->Shared->Prop} (hu:A.units + 1 < cLine) (I:Aw X pins σ H s) (g:Cw H a y o) (ry:AG y u) (rd:AG d r) (h:∀ w' s',Aw X pins σ H s'->AG (o.getD d) w'->Q w' s') :
  wpAny (model X.prog X.w) A (call (.builtin "dict.get") [.ref a,u,r]) Q E s:=by
 rcases g with ⟨kvs,k,e,ey,l⟩ | ⟨kvs,k,b,e,ey,eb,l⟩
 ·subst ey;obtain ⟨z,hd,vs,rel,dd⟩:=Ji I.hok e;refine call_meetsIn PySem.F.slot_dict_get dd.typeIs PySem.F.entry_dict_get (PySem.F.args_dict_get_3 _ _ _) (meets_dict_get_default (AX X.prog X.w) a (Hq ry) hd r) ⟨_,dd.mapOf,h _ _ (I.tok _) ?_⟩;rw [l];exact (rel.val k).getD rd
 ·subst ey;cases (show u=Value.ref b from ry)
  obtain ⟨z,hd,xs,rel,dd⟩:=Jg I.hok e;refine call_meetsIn PySem.F.slot_dict_get dd.typeIs PySem.F.entry_dict_get (PySem.F.args_dict_get_3 _ _ _) (meetsH_dict_get_default (tupleKind (AX X.prog X.w)) a b hd r) ⟨tupleKind_room_in1 hu,k,xs,G4 I.hok eb,dd,h _ _ (I.tok _) ?_⟩;rw [l];exact (rel.val k).getD rd
end
def UE (td ty tx:TE):TE:=fun σ H Q=>td σ H fun x H1=>∃ a,x=.ref a/\IsD H1 a/\ty σ H1 fun y H2=>tx σ H2 fun z H3=>∃ o,Cw H3 a y o/\Q (o.getD z) H3
section
variable {X:Cx} {o e f:Expr} {apos DS:Pos} {td ty tx:TE}
theorem QY (hu:X.A.units + 1 < cLine) (ho:PE X o td) (he:PE X e ty) (hf:PE X f tx) (m:M2 X o "get" apos e f DS):PE X (.Call (.Attribute o "get" apos) [e,f] [] DS) (UE td ty tx):=by
 intro pins s σ H Q I h;refine wpAny_Call_method m.base m.few m.line PySem.F.plainAttrs_dict PySem.F.slot_dict_get PySem.F.type_dict_get (Bx (ho (pins:=pins) s σ H _ I h) fun u s1 ⟨x,H1,I1,rx,a,ex,d,q1⟩=>?_);subst ex;obtain rfl:u=Value.ref a:=rx;obtain ⟨t1,t2,_⟩:=Vo I1 d;exists t1,t2;rw [m.trees];refine Calls.callWith_builtin rfl (Calls.evalArgs_plain (Calls.spliced_cons (Bx (he (pins:=pins) s1 σ H1 _ I1 q1) fun iv s2 ⟨y,H2,I2,ry,q2⟩=>
  Calls.spliced_cons (Bx (hf (pins:=pins) s2 σ H2 _ I2 q2) fun fv s3 ⟨z,H3,I3,rz,ov,g,q3⟩=>Calls.spliced_nil ?_))))
 exact V2 hu I3 g ry rz fun w' s4 I4 OK=>⟨_,H3,I4,OK,q3⟩
end
section
variable {X:Cx} {pins:List (Addr × Obj)} {σ:St} {H:Hp} {s:Shared} {a:Addr} {kvs:List (Bm × V)} {A:Around} {E:Value->Shared->Prop}
end
section
variable {X:Cx} {pins:List (Addr × Obj)} {σ:St} {H:Hp} {s:Shared} {a:Addr} {y:V} {u:Value} {A:Around} {E:Value->Shared->Prop}
end
end L2
namespace Att
open PySem PySem.W PySem.Calls PyProof.Rows
theorem HI {P:Params} {h:Heap}:∀ (ns:List Int) (vs:List Value),WellAll P h vs (ns.map WData.int)->IntsAre vs ns:=by
 intro ns;induction ns with
 | nil=>
  intro vs w;rw [cD] at w;cases w
  exact .nil
 | cons n ns ih=>
  intro vs w;rw [ZL] at w;cases w with
  | cons a b=>
   cases a
   exact .cons _ _ (ih _ b)
theorem OI {l:OpenLaw} {n:Nat} (hn:l.most=some n) {P:Params} {h:Heap} {args:List WData} {vals:List Value}
  (hpre:l.row.toRowW.claim.pre args=true) (hwl:WellAll P h vals args) :
  ∃ a vs ns,vals=[Value.ref a]/\args=[WData.list (ns.map WData.int)]/\h.get? a=some { cls:=.type "list",data:=.seq vs.toArray }/\IntsAre vs ns/\ns.length<=n:=by
 have hsh:WShape.hasAll [] args [.list .int]=true:=(pre_splitW hpre).1;have hc:l.pre.holds [] { args:=args } = true:=(pre_splitW hpre).2;obtain ⟨d,r,rfl,h1,h2⟩:=hasAllW_cons hsh;obtain rfl:=hasAllW_nil h2;obtain ⟨xs,rfl,h3⟩:=hasW_list h1;obtain ⟨ns,rfl⟩:=items_int h3;have hlen:ns.length<=n:=by
  unfold OpenLaw.pre at hc;have h4:(WTm.not (.lt (.lit (.int (n:Int))) (.len (.arg 0)))).holds [] { args:=[.list (ns.map .int)] } = true:=by
   have h4:=(holds_andW hc).1;rw [hn] at h4;exact h4
  have h5:=condW_of h4 (w_not (w_lt w_lit (w_len_list (w_arg rfl))));rw [Z0] at h5;refine Nat.le_of_not_lt fun q=>?_
  have q':(n:Int) < ((ns.length:Nat):Int):=by lia
  first
   | (rw [decide_eq_true q'] at h5; exact absurd h5 (by decide))
   | (simp at h5; lia)
 cases hwl with
 | cons w1 w2=>
  cases w2
  cases w1 with
  | list ho hall=>exact ⟨_,_,ns,rfl,rfl,ho,HI ns _ hall,hlen⟩
theorem OR (l:OpenLaw) (args:List WData):l.row.toRowW.claim.post args (.bool true) args=true:=
 postW_of (r:=l.row.toRowW) (X:=(true == true))
  (show WShape.has [] (.bool true) .bool=true by first | rfl | decide | simp [WShape.has,WShape.arms,WShape.armsAll])
  (show (WTm.eq .res (.lit (.bool true))).value [] { args:=args,res:=some (.bool true),after:=args } = some (.bool (true == true)) from w_eq_bool (w_res rfl) w_lit) rfl
theorem attach_call {l:OpenLaw} {n:Nat} {q:Program} {loose:List Str} {XP:(Str->Option Value)->Heap->Prop} {YP:World->Heap->Prop} {d:DefRec}
  (hn:l.most=some n) (hdf:d.params.defaults=[])
  (call:∀ (w:World) (s₀ AU:Shared) (mg mb:Str->Option Value) (fa:Addr) (o:Obj) (pm cd doc:Value) (a:Addr) (vs:List Value) (ns:List Int),
   Ground q loose [] XP w s₀ mg mb AU.heap->YP w AU.heap ->
   AU.heap.get? fa=some o->o.data=.func (docDef d.name d.params d.body d.scope pm cd doc)->AU.heap.CodeRec cd d.name->mg d.name=some (.ref fa) ->
   AU.heap.get? a=some { cls:=.type "list",data:=.seq vs.toArray }->IntsAre vs ns->ns.length<=n->AU.gens=#[] ->
   codeAny (model l.prog w) callerA (.call (.ref fa) ⟨[.ref a],[]⟩) (fun r s'=>r=.ok (.ret (.bool true))/\OldK AU.heap s'.heap/\s'.os=AU.os/\AllBare s'.gens) AU) :
  WalkO q loose XP YP l.row.toRowW d [] (fun f vs=>PySem.call f vs):=by
 intro w s₀ AU mg mb G Y fa o pm cd doc dV kV ho hd hcd hD hmg hg args vals as hpre hlay hrd hwl hlo;obtain rfl:dV=.none:=Dflts.none hD hdf;obtain rfl:kV=.none:=Dflts.noKw hD;obtain ⟨a,vs,ns,rfl,rfl,hobj,hints,hlen⟩:=OI hn hpre hwl;refine enter_call (codeAny_mono (call w s₀ AU mg mb fa o pm cd doc a vs ns G Y ho (fd_plain hd) hcd hmg hobj hints hlen hg) fun r s' hq=>?_);obtain ⟨rfl,h2,h3,h4⟩:=hq;exact ⟨.inl ⟨.bool true,.bool true,[],rfl,fun _=>rfl,.bool true,OR l _,fun _=>⟨List.Pairwise.nil,fun _ hm=>(nomatch hm)⟩⟩,h2,h3,h4⟩
section
variable {prog:Program} {w:World} {A:Around} {E:Value->Shared->Prop} {s:Shared} {K:Frag}
end
end Att
namespace L2
open PySem PySem.Spec PyProof.Rows
theorem JT:∀ {vs:List Value} {ns:List Int},IntsAre vs ns->AD (ns.map V.int) vs
 | _,_,.nil=>.nil
 | _,_,.cons n t h=>.cons ⟨t,rfl⟩ (JT h)
def Tp (H:Hp):Prop:=∀ b,H b=none\/∃ o xs,H b=some (.frz o (.lst xs))
theorem Rr {P:Program} {w:World} {K:Z1} {mg mb:Str->Option Value} {CX:RR} {k:Nat} {fa a:Addr} {fd:FuncData} {x:Str} {sp:Sp} {AU:Shared} {vs:List Value} {ns:List Int}
  (KX:K.In AU.heap) (hns:AU.heap.Ns mainGlobals mg) (hb:AU.heap.Ns builtinsNs mb) (hbb:∀ x:Str,x ≠ "__name__"->mb x=bootBuiltins x) (hlim:AU.heap.NoLimit) (hg:AU.gens=#[])
  (ha:AU.heap.get? a=some { cls:=.type "list",data:=.seq vs.toArray }) (hi:IntsAre vs ns) (hl:ns.length<=sizeLine) (hr:DA k callerA)
  (F:∀ base:Heap,K.In base->base.Ns mainGlobals mg->A7 P w K mg base CX k fa fd [x] sp) (hbind:∀ (s:Shared) (u:Value),BindsTo s fd ⟨[u],[]⟩ [(x,u)])
  (hsp:∀ H:Hp,Tp H->AS K H a (ns.map V.int)->sp [.ref a] H (fun v _=>v=.bl true) fun _ _ _=>False)
  (hCX:∀ H e s',CX [] H AU (fun _ _ _=>False) e s'->False) :
  codeAny (model P w) callerA (.call (.ref fa) ⟨[.ref a],[]⟩) (fun r s'=>r=.ok (.ret (.bool true))/\OldK AU.heap s'.heap/\s'.os=AU.os/\AllBare s'.gens) AU:=by
 have rv:=JT hi;have lenV:=hi.length;have core:∀ H:Hp,Tp H->AS K H a (ns.map V.int)->F9 P w H AU.heap->(∀ b,H b ≠ none->b=a)->(H a ≠ none->K.lookup a=none) ->
   codeAny (model P w) callerA (.call (.ref fa) ⟨[.ref a],[]⟩) (fun r s'=>r=.ok (.ret (.bool true))/\OldK AU.heap s'.heap/\s'.os=AU.os/\AllBare s'.gens) AU:=by
  intro H hO hS hok hA hK;have base_of:∀ {b:Addr} {o:Obj},AU.heap.get? b=some o->H b=none->(Le AU.heap H).get? b=some o:=fun e n=>R4 e n
  have noA:∀ {b:Addr} {o:Obj} {es:Array DictEntry} {ep:Nat},AU.heap.get? b=some o->o.data=.dict es ep->H b=none:=fun {b o es ep} e d=>by
   cases q:H b with
   | none=>rfl
   | some u=>
    have e':b=a:=hA b (by rw [q]; simp);subst e';rw [ha] at e; cases e;have d':Data.seq vs.toArray _=Data.dict es ep:=d;cases d'
  have nsK:∀ {b:Addr} {m:Str->Option Value},AU.heap.Ns b m->(Le AU.heap H).Ns b m:=fun {b m} ⟨o,es,ep,e,d,r⟩=>⟨o,es,ep,base_of e (noA e d),d,r⟩
  have hKb:K.In (Le AU.heap H):=fun b o e=>base_of (KX b o e) (by
   cases q:H b with
   | none=>rfl
   | some u=>
    have e':b=a:=hA b (by rw [q]; simp);subst e';rw [hK (by rw [q]; simp)] at e; cases e)
  have hM:Mod K mg (Le AU.heap H):=⟨hKb,nsK hns,⟨mb,nsK hb,hbb⟩,let ⟨mc,h1,h2⟩:=hlim; ⟨mc,nsK h1,h2⟩⟩
  have e0:Tr P w K mg (Le AU.heap H) callerA [] AU H:=⟨rfl,hM,fun b o e=>S3 e,Nat.le_of_eq (Pt _ _),trivial,fun b hb=>absurd (show b ∈ ([]:List Addr) from hb) (by simp),hok,.of_eq hg⟩
  refine codeAny_mono ((F _ hKb (nsK hns)).run callerA [] AU H ⟨[.ref a],[]⟩ [.ref a] [.ref a] _ _ hr e0 (hbind AU (.ref a)) (.cons rfl .nil) (hsp H hO hS)) fun r s' h=>?_
  cases r with
  | error e=>exact (hCX H e s' h).elim
  | ok fl=>
   cases fl with
   | next=>exact False.elim h
   | brk=>exact False.elim h
   | cont=>exact False.elim h
   | ret u=>
    obtain ⟨v,H',os,bare,un,YT,r',q⟩:=h;have q':v=.bl true:=q;subst q';obtain rfl:u=Value.bool true:=r';refine ⟨rfl,OldK.of_keep fun b o e=>?_,os,bare⟩;cases q:H b with
    | none=>exact un.keep b o e q (by intro z; exact absurd (show b ∈ ([]:List Addr) from z) (by simp)) (by simp)
    | some u=>
     rcases hO b with z | ⟨ob,xs,z⟩
     ·rw [q] at z; cases z
     ·have z2:=un.frzs b ob _ z;obtain ⟨e1,_⟩:=hok b _ z;obtain ⟨e2,_⟩:=YT b _ z2;rw [e] at e1; cases e1;exact e2
 cases hk:K.lookup a with
 | some o=>
  have e:=KX a o hk;rw [ha] at e;cases e
  refine core (fun _=>none) (fun _=>.inl rfl) (.inr ⟨_,vs.toArray,_,hk,rfl,rfl,rfl,by rw [ZG,lenV]; exact hl,by simpa using rv⟩) (fun b u z=>by have z':(none:Option HO)=some u:=z; cases z') (fun b z=>absurd rfl z) fun z=>absurd rfl z
 | none=>
  refine core (fun b=>if b=a then some (.frz { cls:=.type "list",data:=.seq vs.toArray } (.lst (ns.map V.int))) else none) (fun b=>?_) (.inl (.inr ⟨{ cls:=.type "list",data:=.seq vs.toArray },if_pos rfl⟩)) (fun b u z=>?_) (fun b z=>?_) fun _=>hk
  ·by_cases hb:b=a
   ·exact .inr ⟨_,_,if_pos hb⟩
   ·exact .inl (if_neg hb)
  ·by_cases hb:b=a
   ·have z':=(if_pos hb).symm.trans z;cases z'
    subst hb;exact ⟨ha,by rw [Z0]; exact hl,vs,_,rv,ha⟩
   ·have z':=(if_neg hb).symm.trans z;cases z'
  ·by_cases hb:b=a
   ·exact hb
   ·exact absurd (if_neg hb) z
theorem walk_of {l:cH} {n k:Nat} {q:Program} {loose:List Str} {XP:(Str->Option Value)->Heap->Prop} {YP:World->Heap->Prop} {d:DefRec} {K:Params->Z1} {CX:World->RR} {sp:World->Sp} {x:Str}
  (hn:l.most=some n) (YX:n<=sizeLine) (hdf:d.params.defaults=[]) (hr:DA k callerA)
  (hY:∀ (w:World) (h:Heap),YP w h->(K w.params).In h)
  (F:∀ (w:World) (mg:Str->Option Value) (fa:Addr) (h:Heap),(K w.params).In h->h.Ns mainGlobals mg->mg d.name=some (.ref fa) ->
   ∃ fd:FuncData,(∀ (s:Shared) (u:Value),BindsTo s fd ⟨[u],[]⟩ [(x,u)]) /\
    ∀ base:Heap,(K w.params).In base->base.Ns mainGlobals mg->A7 l.prog w (K w.params) mg base (CX w) k fa fd [x] (sp w))
  (hsp:∀ (w:World) (H:Hp) (a:Addr) (ns:List Int),ns.length<=n->Tp H->AS (K w.params) H a (ns.map V.int)->sp w [.ref a] H (fun v _=>v=.bl true) fun _ _ _=>False)
  (hCX:∀ (w:World) (H:Hp) (s:Shared) (e:Value) (s':Shared),CX w [] H s (fun _ _ _=>False) e s'->False) :
  eD q loose XP YP l.row.toRowW d [] (fun f vs=>PySem.call f vs):=by
 refine Att.attach_call hn hdf fun w s₀ AU mg mb fa o pm cd doc a vs ns G Y ho hd hcd hmg hobj hints hlen hg=>?_
 have KX:=hY w _ Y;obtain ⟨fd,hb,hF⟩:=F w mg fa _ KX G.T.g hmg;exact Rr KX G.T.g G.T.b G.T.builtins G.T.nolimit hg hobj hints (ZV hlen YX) hr hF hb (fun H hO hS=>hsp w H a ns hlen hO hS) fun H e s'=>hCX w H AU e s'
def Ew (s:Stmt):Arguments:=match s with
 | .FunctionDef _ a _ _ _ _ _ _ _ _=>a
 | _=>{ posonlyargs:=[],args:=[],vararg:=none,kwonlyargs:=[],kw_defaults:=[],kwarg:=none,defaults:=[] }
def Cn (s:Stmt):List Stmt:=match s with
 | .FunctionDef _ _ b _ _ _ _ _ _ _=>b
 | _=>[]
def An (s:Stmt):Scope:=match s with
 | .FunctionDef _ _ _ _ _ _ sc _ _ _=>sc
 | _=>{ kind:=.function,names:=[],isGenerator:=false,isCoroutine:=false }
abbrev Bq:RR:=fun _ _ _ _ _ _=>False
abbrev E0:XK:=fun _ _ _=>False
theorem Av {X:Cx}:Nq Bq X E0:=fun _ _ _ _ _ _ _ h=>h.elim
structure D6 (K:Z1) (x qual:Str) (st:Stmt) (f:Addr) (fd:FuncData):Prop where
 ex:∃ (oc:Value) (od:Option Addr) (kV doc pm:Value) (an:Option Addr) (cdv ct:Value) (osl:Array (Option Value)),
  fd=aV x qual (Ew st) (Cn st) (An st) .none kV doc pm an cdv ct/\K.lookup f=some ⟨oc,od,.func fd,osl⟩/\bR K cdv qual=true
 kp:bP K (.ref f)=true
section
variable {P:Program} {w:World} {K:Z1} {mg:Str->Option Value} {base:Heap}
theorem D6.ok {x qual:Str} {st:Stmt} {f:Addr} {fd:FuncData} {N ps:List Str} {k:Nat} {sp:Sp} (F:D6 K x qual st f fd) (S:A5 N ps (An st)) (len:∀ vs H Q E,sp vs H Q E->vs.length=ps.length)
  (hbody:∀ (cdv:Value) (A:Around) (outer:List Env) (s:Shared) (H:Hp) (vs:List V) (Q:VK) (E:XK),DA k (A.deeper (envOfC qual (An st) s.heap.objs.size f cdv))->sp vs H Q E ->
   ∃ t,Mt (JI Bq P w K mg base N qual (An st) f cdv A outer s H E).nox (Cn st) t/\t { nx:=fun _ H'=>Q .non H',rt:=Q } (start N vs) H):A7 P w K mg base Bq (k + 1) f fd ps sp:=by
 obtain ⟨oc,od,kV,doc,pm,an,cdv,ct,osl,rfl,lk,hcd⟩:=F.ex;refine fn_of lk hcd S len fun A outer s H vs Q E hr hsp=>?_
 obtain ⟨t,h,q⟩:=hbody cdv A outer s H vs Q E hr hsp;exact ⟨t,h.nox,q⟩
theorem D6.binds {x qual:Str} {st:Stmt} {f:Addr} {fd:FuncData} {ps:List Str} (F:D6 K x qual st f fd)
  (h:∀ (kV doc pm:Value) (an:Option Addr) (cdv ct:Value) (us:List Value),us.length=ps.length->bindArgs (aV x qual (Ew st) (Cn st) (An st) .none kV doc pm an cdv ct) ⟨us,[]⟩=pure (ps.zip us)):Hw K fd ps []:=by
 obtain ⟨oc,od,kV,doc,pm,an,cdv,ct,osl,rfl,lk,hcd⟩:=F.ex;exact .all (h kV doc pm an cdv ct)
theorem Vv {x qual:Str} {st:Stmt} {f:Addr} {oc:Value} {od an:Option Addr} {osl:Array (Option Value)} {kV doc pm cdv ct:Value} (l:K.lookup f=some ⟨oc,od,.func (aV x qual (Ew st) (Cn st) (An st) .none kV doc pm an cdv ct),osl⟩)
  (c:bR K cdv qual=true) (k:bP K (.ref f)=true):D6 K x qual st f (aV x qual (Ew st) (Cn st) (An st) .none kV doc pm an cdv ct):=⟨⟨oc,od,kV,doc,pm,an,cdv,ct,osl,rfl,l,c⟩,k⟩
end
theorem CV {A:Around} {k:Nat} (hr:DA k A):A.units + 1 < cLine:=Nat.lt_of_le_of_lt (Nat.add_le_add_left (by decide:1<=64) _) hr.units
section
variable {X:Cx}
theorem pv (i:Nat) {x:Str} {pos:Pos} (hN:X.N[i]? = some x:=by rfl) (hv:Vis X.env.scope x:=by first | exact Or.inl rfl | exact Or.inr (Or.inl rfl) | exact Or.inr (Or.inr rfl)) (hd:(x == ("__debug__":Str))=false:=by decide)
  (hcd:(x == ("__classdict__":Str))=false:=by decide):PE X (.Name x pos) (Sf i):=UT hN hv hd hcd
end
theorem Bp {A B:Prop} (h:B):if false=true then A else B:=by
 rw [if_neg ZI];exact h
theorem Cr {A B:Prop} (h:A):if true=true then A else B:=by
 rw [if_pos rfl];exact h
theorem CA {c A B:Prop} [Decidable c] (h1:c->A) (h2:¬ c->B):if c then A else B:=by
 by_cases h:c
 ·rw [if_pos h];exact h1 h
 ·rw [if_neg h];exact h2 h
def Ao (H H':Hp):Prop:=∀ b o,H b=some o->H' b=some o
theorem Ao.refl (H:Hp):Ao H H:=fun _ _ h=>h
theorem Ao.trans {H H1 H2:Hp} (a:Ao H H1) (b:Ao H1 H2):Ao H H2:=fun c o h=>b c o (a c o h)
theorem Ao.free {H H':Hp} (e:Ao H H') {l:Addr} (h:H' l=dh):H l=dh:=by
 cases q:H l with
 | none=>rfl
 | some o=>
  rw [e l o q] at h;cases h
section
variable {κ:Type} [DecidableEq κ]
theorem Qo {kvs:List (κ × V)} {k:κ} (h:B4 kvs k=none):¬ k ∈ kvs.map (·.1):=by
 intro m;obtain ⟨p,hp,e⟩:=ZD.mp m;have q:(kvs.any fun kv=>decide (kv.1=k))=true:=b0.mpr ⟨p,hp,decide_eq_true e⟩;rw [Cy,h] at q;exact absurd q (by simp)
end
abbrev A6 (X:Cx) (scope:Scope) (cl:List (Str × Addr)) (N:List Str) (s2:Shared) (H:Hp) (C:Addr) (fp:List Addr):Cx where
 prog:=X.prog
 w:=X.w
 K:=X.K
 mg:=X.mg
 base:=X.base
 A:=X.A
 N:=N
 s₀:=s2
 H₀:=H
 env:=compEnvC scope cl C X.env
 outer:=X.stack
 stack:=X.stack
 ex:=fp
 fn:=fun _=>false
 calm:=X.calm
 pn:=[]
 xe:=fun _ _=>False
structure AJ (X:Cx) (scope:Scope) (cl:List (Str × Addr)):Prop where
 clos:closureFor scope X.env=pure cl
 cell:∀ y ∈ scope.names,y.2 ≠ .cell
 kind:scope.kind=.function
 names:∀ y ∈ scope.names,y.2=.local->scope.names.lookup y.1=some .local
 sub:∀ x c,cl.lookup x=some c->X.env.cells.lookup x=some c
 has:∀ x,((relabel scope X.env).names.lookup x=some .cell\/(relabel scope X.env).names.lookup x=some .free)->∃ c,cl.lookup x=some c
def Bj (X:Cx) (cl:List (Str × Addr)) (scope:Scope) (N:List Str) (σ A3:St):Prop:=
 A3.length=N.length/\∀ (i:Nat) (x:Str) (v:V),N[i]? = some x->A3[i]? = some (some v) ->
  (∃ j:Nat,X.N[j]? = some x/\σ[j]? = some (some v))/\(X.env.kindOf x=some .cell\/X.env.kindOf x=some .free) /\
   ((relabel scope X.env).names.lookup x=some .cell\/(relabel scope X.env).names.lookup x=some .free)
theorem Bj.none (X:Cx) (cl:List (Str × Addr)) (scope:Scope) (N:List Str) (σ:St):Bj X cl scope N σ (N.map fun _=>dh):=by
 refine ⟨by simp,fun i x v h1 h2=>?_⟩;rw [Z6,h1] at h2;cases h2
section
variable {X:Cx} {pins:List (Addr × Obj)} {σ A3:St} {H H':Hp} {s2 s':Shared} {scope:Scope} {cl:List (Str × Addr)} {N:List Str} {fp:List Addr} {C D:Addr} {By h':Heap} {t':Nat}
theorem Jn (I:Aw X pins σ H s2) (hf:∀ b ∈ fp,EU X pins H b) (hfo:∀ b ∈ fp,∃ o,s2.heap.get? b=some o) (co:AJ X scope cl) (hσ:Bj X cl scope N σ A3)
  (k:∀ b o,s2.heap.get? b=some o->By.get? b=some o) (hD:s2.heap.objs.size<=D) (hC:s2.heap.objs.size<=C) (hDC:C ≠ D)
  (new:By.get? D=some { cls:=.type "list",data:=.seq ([]:List Value).toArray 0 }\/∃ n,By.get? D=some { cls:=.type "list",data:=.seq ([]:List Value).toArray n }) {m:Str->Option Value} (hn:By.Ns C m) :
  Aw (A6 X scope cl N s2 H C fp) [] A3 (upd H D (.lst [])) { s2 with heap:=By,toks:=t' }:=by
 have fD:H D=none:=I.hok.fresh hD;have fC:H C=none:=I.hok.fresh hC;have newO:AM X.prog X.w (upd H D (.lst [])) By D (.lst []):=by
  exists ZX _,[]
  rcases new with e | ⟨n,e⟩
  ·exact ⟨0,.nil,e⟩
  ·exact ⟨n,.nil,e⟩
 have lts:∀ b ∈ fp,b < s2.heap.objs.size:=fun b hb=>let ⟨_,e⟩:=hfo b hb; Z5 e
 have cells_lt:∀ x c,cl.lookup x=some c->c < s2.heap.objs.size:=fun x c e=>by
  obtain ⟨v,q⟩:=I.cell x c (co.sub x c e);exact q.lt
 have ok:Cx.Ok (A6 X scope cl N s2 H C fp):=by
  refine ⟨I.ok.mod,?_,I.ok.glob,I.ok.blt,hC,?_,?_,?_,I.ok.hd,I.ok.frames,.inl rfl,?_,I.bs,ZV I.ok.bsz I.sz,?_,?_,I.stack,I.stkFree⟩
  ·exact co.kind
  ·exact fun x y c e1 e2=>I.ok.inj x y c (co.sub x c e1) (co.sub y c e2)
  ·exact fun x h=>co.has x h
  ·exact fun x c h _=>by cases h
  ·intro b hb;refine ⟨fun e=>?_,fun x c e=>(hf b hb).2.2.2.2.1 x c (co.sub x c e)⟩;have z:=lts b hb;exact absurd (ZK z hC) (by rw [show b=C from e]; exact ay _)
  ·intro b o e hb;have Ia:b ∈ fp:=hb;rcases (hf b Ia).2.2.2.1 with z | z
   ·exact I.ok.noex b o e z
   ·exact absurd (ZK (Z5 e) (ZV I.ok.bsz z)) (ay _)
  ·intro b hb hz;have Ia:b ∈ fp:=hb;obtain ⟨_,f1,f2,_⟩:=hf b Ia;rcases Z3.mp (I.stkSub b hz) with e | e
   ·exact f1 e
   ·exact f2 e
 refine ⟨ok,rfl,I.bare,Un.laid k hD fD,?_,?_,?_,?_,?_,I.hok.laid k hD newO,hσ.1⟩
 ·refine ⟨m,hn,fun i x v e1 e2 _=>?_⟩;obtain ⟨⟨j,j1,j2⟩,kk,kr⟩:=hσ.2 i x v e1 e2;obtain ⟨mo,_,hl⟩:=I.loc;obtain ⟨u,r,l⟩:=hl j x v j1 j2 (by
   rcases kk with z | z
   ·exact .inr (.inl z)
   ·exact .inr (.inr z))
  refine ⟨u,r,.inr ⟨kr,?_⟩⟩;obtain ⟨c,hc⟩:=co.has x kr;rcases l with ⟨z,_⟩ | ⟨_,c',Kl,hcell⟩
  ·rcases kk with q | q
   ·rw [z] at q; cases q
   ·rw [z] at q; cases q
  ·have e3:=co.sub x c hc;rw [Kl] at e3;have e4:c'=c:=ZR.inj e3;subst e4;obtain ⟨o,ho,hd⟩:=hcell;exact ⟨c',hc,o,k _ o ho,hd⟩
 ·intro x c e;obtain ⟨v,o,ho,hd⟩:=I.cell x c (co.sub x c e);exact ⟨v,o,k _ o ho,hd⟩
 ·show upd H D (.lst []) C=none
  rw [Ae hDC];exact fC
 ·intro x c e;rw [Ae (ZE (ZK (cells_lt x c e) hD))];exact I.freeC x c (co.sub x c e)
 ·intro p hp;cases hp
theorem FZ {pl:List (Addr × Obj)} (I:Aw X pins σ H s2) (hf:∀ b ∈ fp,EU X pins H b) (hC:s2.heap.objs.size<=C) (I2:Aw (A6 X scope cl N s2 H C fp) pl A3 H' s')
  (hs:Heap.SameBut C s'.heap h'):Aw X pins σ H' { s' with heap:=h' }:=by
 have nC:∀ b o,s2.heap.get? b=some o->b ≠ C:=fun b o e=>ZE (ZK (Z5 e) hC)
 have u:=I2.base;refine I.call' (s':={ s' with heap:=h' }) (ch:=fp) I2.os ⟨?_,?_,u.free,?_,u.tups,u.frzs,u.tbls⟩ ?_ I2.bare fun b hb=>?_
 ·exact fun b o e n h1 h2=>(hs.2 b (nC b o e)).trans (u.keep b o e n h1 h2)
 ·intro b o e n h1 h2;obtain ⟨sl,q⟩:=u.slot b o e n h1 h2;exact ⟨sl,(hs.2 b (nC b o e)).trans q⟩
 ·intro b o e h2;obtain ⟨o',q⟩:=u.there b o e h2;exact ⟨o',(hs.2 b (nC b o e)).trans q⟩
 ·intro b ob e;have hfree:H' C=none:=I2.free;refine (I2.hok b ob e).stay (fun c w' hc q=>(hs.2 c ?_).trans q) (fun _ q=>q) fun _ _ q=>q
  rintro rfl;rcases hc with rfl | hc
  ·rw [hfree] at e; cases e
  ·rw [hfree] at hc; cases hc
 ·obtain ⟨_,f1,_,f3,f4,f5⟩:=hf b hb;exact ⟨f3,f1,f4,f5⟩
end
section
variable {prog:Program} {w:World} {A:Around} {R:Result->Shared->Prop} {s:Shared}
theorem CQ {elt target iter:Expr} {ifs:List Expr} {scope:Scope} {pos:Pos} {it acc:Value} {env:Env} (I:Nat->Shared->Prop)
  (turn:∀ n s,I n s->wpAny (model prog w) A (pyNext it) (fun r AU=>match r with
   | none=>R (.ok .next) AU
   | some v=>wpAny (model prog w) A (letOwnedTupleGo target it v) (fun _ Lz=>wpAny (model prog w) A (assign target env v) (fun _ E9=>
     wpAny (model prog w) A (forIn ifs true fun c r=>if r=true then do let ok <- isTrue c env (eval c env); pure (ForInStep.yield ok) else pure (ForInStep.yield r)) (fun ok CL=>
      if ok=true then wpAny (model prog w) A (eval elt env) (fun x Qu=>
       wpAny (model prog w) A (call (.builtin "list.append") [acc,x]) (fun _ Qt=>∃ m,m < n/\I m Qt) (notedBy (model prog w) A env fun e s'=>R (.error e) s') Qu) (notedBy (model prog w) A env fun e s'=>R (.error e) s') CL
      else ∃ m,m < n/\I m CL) (notedBy (model prog w) A env fun e s'=>R (.error e) s') E9) (notedBy (model prog w) A env fun e s'=>R (.error e) s') Lz) (notedBy (model prog w) A env fun e s'=>R (.error e) s') AU) (notedBy (model prog w) A env fun e s'=>R (.error e) s') s)
  (n:Nat) (h:I n s) :
  codeAny (model prog w) A (.compLoop (.ListComp elt [⟨target,iter,ifs,0⟩] scope pos) 0 it acc env) R s:=by
 refine codeAny_loop rfl I (fun n s hI=>?_) n h;show wpAny _ A ((compTurn (.ListComp elt [⟨target,iter,ifs,0⟩] scope pos) 0 it acc env).onRaise (fun x=>do noteFrame x env; theTreesLotGoes x)) _ _ s
 refine wpAny_noted ?_;rw [compTurn_list];refine wpAny_bind (wpAny_standAt (wpAny_bind (wpAny_mono (turn n s hI) (fun r AU By=>?_) fun _ _ h'=>h')));cases r with
 | none=>exact wpAny_pure By
 | some v=>
  refine wpAny_bind (wpAny_mono By (fun _ Lz Ry=>?_) fun _ _ h'=>h');refine wpAny_bind (wpAny_mono Ry (fun _ E9 G5=>wpAny_bind (wpAny_mono G5 (fun ok CL HJ=>?_) fun _ _ h'=>h')) fun _ _ h'=>h');cases ok with
  | false=>exact wpAny_pure ⟨rfl,HJ⟩
  | true=>
   exact wpAny_bind (wpAny_bind (wpAny_mono HJ (fun x Qu MZ=>wpAny_bind (wpAny_mono MZ (fun _ Qt Dg=>wpAny_pure (wpAny_pure ⟨rfl,Dg⟩)) fun _ _ h'=>h')) fun _ _ h'=>h'))
end
def Wc (X:Cx) (ifs:List Expr) (t:TT):Prop:=
 ∀ ⦃pins:List (Addr × Obj)⦄ (s:Shared) (σ:St) (H:Hp) (Q:Bool->Hp->Prop),Aw X pins σ H s->t σ H Q ->
  wpAny (model X.prog X.w) X.A (forIn ifs true fun c r=>if r=true then do let ok <- isTrue c X.env (eval c X.env); pure (ForInStep.yield ok) else pure (ForInStep.yield r)) (TP X pins σ Q) X.xe s
def J5:TT:=fun _ H Q=>Q true H
theorem Bd {X:Cx}:Wc X [] J5:=fun _ _ _ H _ I h=>wpAny_tests_nil ⟨H,I,h⟩
theorem HU {X:Cx} {c:Expr} {t:TT} (h:PT X c t):Wc X [c] t:=fun pins s σ H Q I q=>wpAny_tests_one (h (pins:=pins) s σ H Q I q)
def Qs (wi:TI) (g:TG) (tt:TT) (te:TE) (σ0:St->St):TE:=fun σ H Q=>wi σ H fun J H1=>∀ D,H1 D=none->∃ W:Nat->Nat->St->Hp->Prop,(∃ m,W 0 m (σ0 σ) (upd H1 D (.lst []))) /\
 ∀ i m A3 H',W i m A3 H'->(J.stop i H'/\Q (.ref D) H')\/(J.go i H'/\∀ x H2,J.yld i H' x H2->g x A3 H2 fun AA H3=>tt AA H3 fun b H4=>
  if b=true then te AA H4 (fun v H5=>∃ acc,H5 D=some (.lst acc)/\acc.length < sizeLine/\∃ m',m' < m/\W (i + 1) m' AA (upd H5 D (.lst (acc ++ [v])))) else ∃ m',m' < m/\W (i + 1) m' AA H4)
theorem Bl {X:Cx} {tg iter elt:Expr} {ifs:List Expr} {scope:Scope} {cl:List (Str × Addr)} {N:List Str} {pos:Pos} {wi:TI} {g:TG} {tt:TT} {te:TE} {σ0:St->St} (hc:X.calm=true) (co:AJ X scope cl)
  (hσ:∀ σ,σ.length=X.N.length->Bj X cl scope N σ (σ0 σ)) (hi:PI X tg iter wi)
  (hb:∀ s2 H C fp,PG (A6 X scope cl N s2 H C fp) tg g/\Wc (A6 X scope cl N s2 H C fp) ifs tt/\PE (A6 X scope cl N s2 H C fp) elt te)
  (hs:∀ x,foldedSetIterable iter X.env x=pure x:=by intro _; rfl):PE X (.ListComp elt [⟨tg,iter,ifs,0⟩] scope pos) (Qs wi g tt te σ0):=by
 intro pins s σ H Q I h;rw [eval_ListComp];refine wpAny_comprehension_free (use:=none) rfl hs co.clos co.kind co.names (wpAny_mono (hi (pins:=pins) s σ H _ I h) (fun xv s1 h1=>wpAny_mono h1 (fun itv s2 h2=>?_) fun _ _ e=>e) fun _ _ e=>e);obtain ⟨it,fp,tn,J,H2,rfl,I2,T,Hz,f2,hW⟩:=h2;refine wpAny_newObj_type (wpAny_newFunctionEnv co.cell (by intro y hy; cases hy) (fun By Cs BC=>?_) co.kind);dsimp only at Cs BC ⊢;generalize Nd:s2.heap.push { cls:=.type "list",dict:=none,data:=.seq ([]:List Value).toArray } = HH at Cs BC ⊢;have CI:HH.objs.size=s2.heap.objs.size + 1:=by rw [<-Nd,ae]
 have old:∀ b o,s2.heap.get? b=some o->By.get? b=some o:=fun b o e=>
  BC.extBut b o (ZE (by rw [CI]; exact aa (Z5 e))) (Zz _ (Nd ▸ Zz _ e))
 have newD:∃ n,By.get? s2.heap.objs.size=some { cls:=.type "list",data:=.seq ([]:List Value).toArray n }:=
  ⟨_,BC.extBut _ _ (ZE (by rw [CI]; exact ak _)) (Zz _ (Nd ▸ Z9 _ rfl))⟩
 obtain ⟨W,⟨m0,w0⟩,turn⟩:=hW s2.heap.objs.size I2.fresh;have hfo:∀ b ∈ fp,∃ o,s2.heap.get? b=some o:=fun b hb=>let ⟨o,e,_⟩:=T.obj _ _ Hz b hb; ⟨o,e⟩
 have I3:Aw (A6 X scope cl N s2 H2 HH.objs.size fp) [] (σ0 σ) (upd H2 s2.heap.objs.size (.lst [])) { s2 with heap:=By,toks:=s2.toks + ([]:List (Str × Value)).length }:=
  Jn I2 f2 hfo co (hσ σ I.len) old (Z4 _) (by rw [CI]; exact ZZ _) (aD (by rw [CI]; exact ak _)) (.inr newD) Cs
 have fC:s2.heap.objs.size<=HH.objs.size:=by rw [CI]; exact ZZ _
 obtain ⟨hg,ht,he⟩:=hb s2 H2 HH.objs.size fp;have loop:∀ CL:Shared,CL = { s2 with heap:=By,toks:=s2.toks + ([]:List (Str × Value)).length } ->
   codeAny (model X.prog X.w) X.A (.compLoop (.ListComp elt [⟨tg,iter,ifs,0⟩] scope pos) 0 (.ref it) (.ref s2.heap.objs.size) (compEnvC scope cl HH.objs.size X.env))
    (compPost (model X.prog X.w) X.A X.xe none (EP X pins σ Q) (.ref s2.heap.objs.size) HH.objs.size) CL:=by
  rintro CL rfl;have stat:∀ {H':Hp} ,(∀ b ∈ fp,H' b=none)->∀ b ∈ fp,EU (A6 X scope cl N s2 H2 HH.objs.size fp) [] H' b:=fun hn b hb=>by
   refine ⟨hn b hb,?_,?_,.inl hb,?_,fun p hp=>by cases hp⟩
   ·obtain ⟨o,e⟩:=hfo b hb;exact ZE (show b < HH.objs.size by rw [CI]; exact aa (Z5 e))
   ·intro hz;obtain ⟨_,q1,q2,_⟩:=f2 b hb;rcases Z3.mp (I2.stkSub b hz) with e | e
    ·exact q1 e
    ·exact q2 e
   ·exact fun x c e=>(f2 b hb).2.2.2.2.1 x c (co.sub x c e)
  refine CQ (fun n s'=>∃ i A3 H',Aw (A6 X scope cl N s2 H2 HH.objs.size fp) [] A3 H' s'/\tn i s'.heap/\(∀ b ∈ fp,H' b=none)/\W i n A3 H') ?_ m0
   ⟨0,σ0 σ,_,I3,T.keep _ _ _ Hz fun b hb o e=>old b o e,fun b hb=>?_,w0⟩
  ·rintro n s4 ⟨i,K3,H4,I4,Mw,RC,w4⟩;rcases turn i n K3 H4 w4 with ⟨stop,qn⟩ | ⟨go,step⟩
   ·refine wpAny_mono (T.done (A6 X scope cl N s2 H2 HH.objs.size fp) rfl rfl rfl hc i [] s4 K3 H4 (fun _ _=>False) I4 (stat RC) Mw stop) (fun r s5 ⟨hr,I5⟩=>?_) fun _ _ z=>z.elim
    subst hr;obtain ⟨m5,Vs,_⟩:=id I5.loc;exact ⟨m5,Vs,fun h' Vr=>⟨.ref _,H4,FZ I2 f2 fC I5 Vr,rfl,qn⟩⟩
   ·refine wpAny_mono (T.item (A6 X scope cl N s2 H2 HH.objs.size fp) rfl rfl rfl hc i [] s4 K3 H4 (fun _ _=>False) I4 (stat RC) Mw go) (fun r s5 ⟨u,hr,h5⟩=>?_) fun _ _ z=>z.elim
    subst hr;refine wpAny_mono h5 (fun _ s6 ⟨x,H6,I6,r6,y6,M8,Vw⟩=>?_) fun _ _ z=>z.elim
    have VE:=I6.pinned (stat Vw) (T.obj _ _ M8);refine wpAny_mono (hg s6 K3 H6 x u _ VE r6 (step x H6 y6)) (fun _ s7 ⟨FA,H7,I7,q7⟩=>?_) fun _ _ z=>z.elim
    refine wpAny_mono (ht s7 FA H7 _ I7 q7) (fun ok s8 ⟨H8,I8,q8⟩=>?_) fun _ _ z=>z.elim
    have again:∀ {s9:Shared} {K2:St} {H9:Hp} ,Aw (A6 X scope cl N s2 H2 HH.objs.size fp) ([] ++ EG fp s6.heap) K2 H9 s9->(∃ m',m' < n/\W (i + 1) m' K2 H9)->∃ m,m < n/\∃ i A3 H',Aw (A6 X scope cl N s2 H2 HH.objs.size fp) [] A3 H' s9/\tn i s9.heap/\(∀ b ∈ fp,H' b=none)/\W i m A3 H':=fun {s9 K2 H9} I9 n9=>by
     obtain ⟨m',hm,w9⟩:=n9;refine ⟨m',hm,i + 1,K2,H9,I9.unpinned,T.keep _ _ _ M8 fun b hb o e=>(I9.pin (b,o) (ZF _ (ZF _ (B0 hb e)))).1,fun b hb=>?_,w9⟩;obtain ⟨o,e,d⟩:=T.obj _ _ M8 b hb;exact (I9.pin (b,o) (ZF _ (ZF _ (B0 hb e)))).2.1
    cases ok with
    | false=>
     rw [if_neg ZI] at q8 ⊢;exact again I8 q8
    | true=>
     rw [if_pos rfl] at q8 ⊢;refine wpAny_mono (he s8 FA H8 _ I8 q8) (fun y s9 ⟨v,H9,I9,r9,acc,hacc,hsz,q9⟩=>?_) fun _ _ z=>z.elim
     refine wpAny_mono (CH (X:=A6 X scope cl N s2 H2 HH.objs.size fp) s9 FA H9 (.ref s2.heap.objs.size) [v] (.ref s2.heap.objs.size) [y] (fun _ J0=>∃ m',m' < n/\W (i + 1) m' FA J0) I9 rfl (.cons r9 .nil) ⟨_,acc,v,rfl,rfl,hacc,hsz,q9⟩) (fun _ TH ⟨_,J0,VF,_,UO⟩=>?_) fun _ _ z=>z.elim
     exact again VF UO
  ·have z:=(f2 b hb).1;obtain ⟨o,e⟩:=hfo b hb;rw [Ae (ZE (Z5 e))];exact z
 exact codeAny_compStart_list (loop _ rfl) (T.self _ 0 _ _ _ (T.keep _ _ _ Hz fun b hb o e=>old b o e) (loop _ rfl))
def Its (x:Str):It:=⟨fun i _=>i < x.cps.size,fun i H v H'=>H'=H/\∃ c,x.cps[i]? = some c/\v=.str ⟨#[c]⟩,fun i _=>x.cps.size<=i⟩
theorem O4 {P:Program} {w:World} {K:Z1} {tg:Expr} (it:Addr) (x:Str) (t:Tok):Mr P w K tg (Its x) [it] it (fun i h=>h.IsStrIter it "str_ascii_iterator" x t i) where
 mem:=by simp
 obj:=fun i h st b hb=>by
  have e:b=it:=by simpa using hb
  subst e;obtain ⟨o,e,c,d⟩:=st;exact ⟨o,e,fun v z=>by rw [d] at z; cases z⟩
 keep:=fun i h h' st k=>let ⟨o,e,r⟩:=st; ⟨o,k it (by simp) o e,r⟩
 item:=by
  intro X hP hw hK hc i pins s σ H E I hf st hg;subst hP hw hK;obtain ⟨f0,f1,f2,f3,f4,f5⟩:=hf it (by simp);have SM:i < x.cps.size:=hg;refine wpAny_pyNext_ascii_item st (c:=x.cps[i]) (by simp [SM]) fun h' AZ sb=>?_
  have I1:Aw X pins σ H { s with heap:=h',toks:=s.toks + 1 }:=I.turned (fun b o hb e=>(sb.2 b hb).trans e) f0 f1 f3 f4 f5;obtain ⟨o,e,c,d⟩:=id AZ;exact ⟨_,rfl,Kn (s:={ s with heap:=h',toks:=s.toks + 1 }) e c d (by decide) ⟨.str ⟨#[x.cps[i]]⟩,H,I1,⟨_,rfl⟩,⟨rfl,_,by simp [SM],rfl⟩,AZ,fun b hb=>(hf b hb).1⟩⟩
 done:=by
  intro X hP hw hK hc i pins s σ H E I hf st hg;subst hP hw hK;obtain ⟨f0,f1,f2,f3,f4,f5⟩:=hf it (by simp);have SM:x.cps.size<=i:=hg;exact wpAny_pyNext_ascii_end (I.ok.hd hc) st (by simp [SM]) fun h' eb=>⟨rfl,I.turned (t':=s.toks) (fun b o hb e=>eb b o hb e) f0 f1 f3 f4 f5⟩
 self:=fun _ _ _ _ _ st h=>wpAny_pyIter_striter_ascii st h
theorem O3 {P:Program} {w:World} {K:Z1} {tg:Expr} (it:Addr) (x:Str) (t:Tok):Mr P w K tg (Its x) [it] it (fun i h=>h.IsStrIter it "str_iterator" x t i) where
 mem:=by simp
 obj:=fun i h st b hb=>by
  have e:b=it:=by simpa using hb
  subst e;obtain ⟨o,e,c,d⟩:=st;exact ⟨o,e,fun v z=>by rw [d] at z; cases z⟩
 keep:=fun i h h' st k=>let ⟨o,e,r⟩:=st; ⟨o,k it (by simp) o e,r⟩
 item:=by
  intro X hP hw hK hc i pins s σ H E I hf st hg;subst hP hw hK;obtain ⟨f0,f1,f2,f3,f4,f5⟩:=hf it (by simp);have SM:i < x.cps.size:=hg;refine wpAny_pyNext_wide_item st (c:=x.cps[i]) (by simp [SM]) fun h' AZ sb=>?_
  have I1:Aw X pins σ H { s with heap:=h',toks:=s.toks + 1 }:=I.turned (fun b o hb e=>(sb.2 b hb).trans e) f0 f1 f3 f4 f5;obtain ⟨o,e,c,d⟩:=id AZ;exact ⟨_,rfl,Kn (s:={ s with heap:=h',toks:=s.toks + 1 }) e c d (by decide) ⟨.str ⟨#[x.cps[i]]⟩,H,I1,⟨_,rfl⟩,⟨rfl,_,by simp [SM],rfl⟩,AZ,fun b hb=>(hf b hb).1⟩⟩
 done:=by
  intro X hP hw hK hc i pins s σ H E I hf st hg;subst hP hw hK;obtain ⟨f0,f1,f2,f3,f4,f5⟩:=hf it (by simp);have SM:x.cps.size<=i:=hg;exact wpAny_pyNext_wide_end (I.ok.hd hc) st (by simp [SM]) fun h' eb=>⟨rfl,I.turned (t':=s.toks) (fun b o hb e=>eb b o hb e) f0 f1 f3 f4 f5⟩
 self:=fun _ _ _ _ _ st h=>wpAny_pyIter_striter_wide st h
def iStr (tl:TE):TI:=fun σ H R=>tl σ H fun x H1=>∃ z,x=.str z/\R (Its z) H1
theorem UP {X:Cx} {tg l:Expr} {tl:TE} (hl:PE X l tl):PI X tg l (iStr tl):=by
 intro pins s σ H R I h;refine Bx (hl (pins:=pins) s σ H _ I h) fun v s1 ⟨x,H1,I1,r1,q1⟩=>?_
 obtain ⟨z,rfl,q⟩:=q1;obtain ⟨t,rfl⟩:=r1;have fin:∀ b ∈ [s1.heap.objs.size],EU X pins H1 b:=fun b hb=>by
  have e:b=s1.heap.objs.size:=by simpa using hb
  subst e;exact I1.fpOk (Z4 _) (I1.hok.fresh (Z4 _))
 cases ha:z.cps.all (· < 128)
 ·exact wpAny_pyIter_wide ha ⟨s1.heap.objs.size,[s1.heap.objs.size],_,_,H1,rfl,I1.kept (t':=s1.toks) fun b o e=>Zz _ e,O3 _ z t,⟨_,Z9 _ rfl,rfl,rfl⟩,fin,q⟩
 ·exact wpAny_pyIter_ascii ha ⟨s1.heap.objs.size,[s1.heap.objs.size],_,_,H1,rfl,I1.kept (t':=s1.toks) fun b o e=>Zz _ e,O4 _ z t,⟨_,Z9 _ rfl,rfl,rfl⟩,fin,q⟩
theorem BO {X:Cx} (hc:X.calm=true):Bw X (.builtin "all") (fun xs H Q=>∃ (p:Addr) (bs:List Bool),xs=[.ref p]/\AS X.K H p (bs.map V.bl)/\Q (.bl (bs.all id)) H):=by
 intro pins s σ H xs us Q I r h;obtain ⟨p,bs,rfl,hq,q⟩:=h;obtain ⟨u,rfl,ru⟩:=Cv r;cases ru
 obtain ⟨Ar,rv,pl,hz⟩:=I.list hq;have hlen:Ar.length=bs.length:=by rw [<-rv.length,Z0]
 refine call_all_walk (wpAny_pyIter_list pl.isList ?_);have hne:p ≠ s.heap.objs.size:=by
  obtain ⟨o,n,e,_⟩:=pl;exact ZE (Z5 e)
 exists s.heap.objs.size,_,_,_,_,_,fun i=>bs.getD i true,rfl,Walks.list (A:=X.A.in1) (I.ok.hd hc) s.heap.objs.size p hne Ar.toArray,⟨⟨_,Z9 _ rfl,rfl,rfl⟩,?_⟩,?_
 ·exact pl.isList.at fun o e=>Zz _ e
 ·intro i v s1 Q1 E1 hv hQ;have hv':Ar[i]? = some v:=by simpa using hv
  have hb:∃ b,bs[i]? = some b:=by
   cases e:bs[i]? with
   | some b=>exact ⟨b,rfl⟩
   | none=>
    have:=List.getElem?_eq_none_iff.mp e;have:=(ZA.mp hv').1;lia
  obtain ⟨b,hb⟩:=hb;obtain ⟨u,hu,ru⟩:=rv.get (i:=i) (x:=V.bl b) (by rw [Z6,hb]; rfl);rw [hv'] at hu;cases hu
  cases ru
  have e:bs.getD i true=b:=by rw [ZJ,hb]; rfl
  have hQ':Q1 (bs.getD i true) s1:=hQ;rw [e] at hQ';exact wpAny_truthy_bool hQ'
 ·intro h' tk hk;have e:(ai Ar.toArray.size).all (fun i=>bs.getD i true)=bs.all id:=by
   rw [ZG,hlen];apply aA.mpr;simp only [aj,ba,id];constructor
   ·intro h b hb;obtain ⟨i,hi,e⟩:=ZQ hb;have:=h i hi;rw [ZJ,Zy hi] at this;simpa [e] using this
   ·intro h i hi;rw [ZJ,Zy hi];exact h _ (ar hi)
  rw [e];refine ⟨.bl _,H,?_,rfl,q⟩;have I1:Aw X pins σ H { s with heap:=s.heap.push { cls:=.type "list_iterator",data:=.fields #[.ref p,.int 0 0] } }:=I.kept (t':=s.toks) fun b o e=>Zz _ e
  have F:=I.fpOk (Z4 _) (I.hok.fresh (Z4 _));obtain ⟨f0,f1,f2,f3,f4,f5⟩:=F;exact I1.turned (it:=s.heap.objs.size) (fun b o hb e=>hk b o (by simpa using hb) e) f0 f1 f3 f4 f5
theorem BN {X:Cx}:Bw X (.builtin "isinstance") (fun xs H Q=>∃ x c t b,xs=[x,.ty c]/\D8 X.K H x t/\bq X.K t (.type c)=some b/\Q (.bl b) H):=by
 intro pins s σ H xs us Q I r h;obtain ⟨x,c,t,b,rfl,ty,e,q⟩:=h;obtain ⟨u,v,rfl,rx,rc⟩:=Nz r;cases rc
 exact Pq I rx ty e fun tk=>⟨.bl b,H,I.tok tk,rfl,q⟩
theorem Kg {X:Cx}:E8 X (compareOp .LtE) (fun x y H Q=>∃ i j,x=.str i/\y=.str j/\Q (.bl (!(decide (j.cps.toList < i.cps.toList)))) H):=by
 intro pins s σ H x y v u Q I rx ry h;obtain ⟨i,j,rfl,rfl,q⟩:=h;obtain ⟨t,rfl⟩:=rx;obtain ⟨t',rfl⟩:=ry;exact PySem.P.le_str ⟨.bl _,H,I,rfl,q⟩
def tSlS (te:TE) (tl th:TO):TE:=fun σ H Q=>te σ H fun x H1=>tl σ H1 fun l H2=>th σ H2 fun u H3=>∃ z,x=.str z/\z.length<=sizeLine/\Q (.str (Txt.slice z l u)) H3
theorem FO {X:Cx} {e:Expr} {te:TE} {lo hi:Option Expr} {tl th:TO} {pos p2:Pos} (he:PE X e te) (hl:PO X lo tl) (hu:PO X hi th):PE X (.Subscript e (.Slice lo hi none p2) pos) (tSlS te tl th):=by
 intro pins s σ H Q I h;refine Subscript_ (Bx (he (pins:=pins) s σ H _ I h) fun v s1 ⟨x,H1,I1,r1,q1⟩=>?_);refine wpAny_Slice (Bx (hl (pins:=pins) s1 σ H1 _ I1 q1) fun vl s2 ⟨l,H2,I2,pl,q2⟩=>Bx (hu (pins:=pins) s2 σ H2 _ I2 q2) fun vu s3 ⟨u,H3,I3,pu,q3⟩=>?_);rw [evalPart_none];refine wpAny_pure ?_;obtain ⟨z,rfl,hz,q⟩:=q3;obtain ⟨t,rfl⟩:=r1;show wpAny (model X.prog X.w) X.A (subscriptTail e (.Slice lo hi none p2) (.str z t) (.ref s3.heap.objs.size)) (EP X pins σ Q) X.xe { s3 with heap:=s3.heap.push { cls:=.type "slice",data:=.fields #[vl,vu,.none] } }
 have kk:KeptH (fun h=>∀ b o,s3.heap.get? b=some o->h.get? b=some o):=fun h ob hh b o e=>Zz _ (hh b o e)
 have fin:ItemOn (model X.prog X.w) X.A X.xe (.str z t) (.ref s3.heap.objs.size) (EP X pins σ Q) { s3 with heap:=s3.heap.push { cls:=.type "slice",data:=.fields #[vl,vu,.none] } }:=by
  cases pl with
  | none=>
   cases pu with
   | none=>exact SBH.sliceItem_nn kk (fun _ _ e=>e) (fun h' t' k kp=>⟨.str _,H3,I3.kept kp,⟨_,rfl⟩,q⟩) hz
   | int j uj=>exact SBH.sliceItem_ns kk (fun _ _ e=>e) (fun h' t' k kp=>⟨.str _,H3,I3.kept kp,⟨_,rfl⟩,q⟩) hz
  | int i ui=>
   cases pu with
   | none=>exact SBH.sliceItem_sn kk (fun _ _ e=>e) (fun h' t' k kp=>⟨.str _,H3,I3.kept kp,⟨_,rfl⟩,q⟩) hz
   | int j uj=>exact SBH.sliceItem_ss kk (fun _ _ e=>e) (fun h' t' k kp=>⟨.str _,H3,I3.kept kp,⟨_,rfl⟩,q⟩) hz
 obtain ⟨T,id,hT,ht,hg⟩:=fin;exact tail_any (ops:=[.ref s3.heap.objs.size,.str z t]) ht hT hg (by with_unfolding_all rfl)
theorem OZ {X:Cx} (hu:X.A.units < cLine):E8 X (compareOp .Eq) (fun x y H Q=>∃ a b xs,x=.ref a/\y=.ref b/\AS X.K H a xs/\AS X.K H b []/\Q (.bl xs.isEmpty) H):=by
 intro pins s σ H x y v u Q I rx ry h;obtain ⟨a,b,xs,rfl,rfl,ha,hb,q⟩:=h;cases rx
 cases ry
 obtain ⟨Ar,r,p,hz⟩:=I.list ha;obtain ⟨HG,r2,p2,Wz⟩:=I.list hb;cases r2
 cases xs with
 | nil=>
  cases r
  refine PySem.SeqAt.eq_listAt (e:=fun _=>true) p.isList p2.isList rfl hu (fun j h1 h2=>absurd h1 (aK _)) ?_;exact ⟨.bl true,H,I,rfl,q⟩
 | cons x xs=>
  cases r with
  | cons r1 r2=>
   refine PySem.SeqAt.eq_list_lengthsAt p.isList p2.isList (by simp) hu ?_;exact ⟨.bl false,H,I,rfl,q⟩
theorem Es {α:Type}:∀ {l:List (Str × α)} {x:Str} {k:α},l.lookup x=some k->(x,k) ∈ l
 | [],_,_,h=>by cases h
 | (n,v) :: r,x,k,h=>by
  rw [List.lookup_cons] at h;by_cases e:x=n
  ·subst e;simp at h;subst h;exact ZU
  ·have:(x == n)=false:=beq_eq_false_iff_ne.mpr e;rw [this] at h;exact ZO _ (Es h)
theorem AJ.plain {X:Cx} {scope:Scope} (hfree:∀ x ∈ scope.names,x.2 ≠ .free) (hcell:∀ y ∈ scope.names,y.2 ≠ .cell) (hkind:scope.kind=.function)
  (hnames:∀ y ∈ scope.names,y.2=.local->scope.names.lookup y.1=some .local):AJ X scope []:=by
 refine ⟨closureFor_none hfree,hcell,hkind,hnames,fun x c h=>(by cases h),fun x h=>?_⟩;have key:∀ k,(relabel scope X.env).names.lookup x=some k->∃ y ∈ scope.names,y.2=k:=by
  intro k e;have m:=Es e;obtain ⟨⟨n,k'⟩,hm,e'⟩:=ZD.mp m;have hf:=hfree _ hm;have:(k' == NameKind.free)=false:=by
   cases k' <;> first | rfl | exact absurd rfl hf
  dsimp only at e';rw [this] at e';simp at e';exact ⟨_,hm,e'.2⟩
 rcases h with h | h
 ·obtain ⟨y,hy,e⟩:=key _ h;exact absurd e (hcell y hy)
 ·obtain ⟨y,hy,e⟩:=key _ h;exact absurd e (hfree y hy)
def G2 (c:Nat):Bool:=decide (97<=c) && decide (c<=122)
theorem lt1 (a b:Nat):decide (([a]:List Nat) < [b])=decide (a < b):=by
 apply decide_eq_decide.mpr;rw [List.cons_lt_cons_iff];constructor
 ·rintro (h | ⟨_,h⟩)
  ·exact h
  ·exact absurd h (by simp)
 ·exact fun h=>.inl h
theorem leA (c:Nat):(!(decide ((⟨#[c]⟩:Str).cps.toList < (Str.ofString "a").cps.toList)))=decide (97<=c):=by
 show (!(decide (([c]:List Nat) < [97])))=_
 rw [lt1,<-decide_not];exact decide_eq_decide.mpr (by lia)
theorem leZ (c:Nat):(!(decide ((Str.ofString "z").cps.toList < (⟨#[c]⟩:Str).cps.toList)))=decide (c<=122):=by
 show (!(decide (([122]:List Nat) < [c])))=_
 rw [lt1,<-decide_not];exact decide_eq_decide.mpr (by lia)
def AY (t:Str):Bool:=decide (1<=t.length) && decide (t.length<=6) && t.cps.toList.all G2
def F7 (K:Z1) (H:Hp) (x:V):Prop:=∃ ty,D8 K H x ty/\bq K ty (.type "str")=some false
def K6 (K:Z1):Sp:=fun vs H Q _=>∃ x,vs=[x]/\((∃ t,x=.str t/\t.length<=1000/\∀ H',Ao H H'->Q (.bl (AY t)) H')\/(F7 K H x/\Q (.bl false) H))
theorem Ad {H:Hp} {p:Addr} {o:HO} (h:H p=none):Ao H (upd H p o):=fun b u e=>by
 rw [Ae (Ah e h)];exact e
theorem J4 {α β:Type} (f:α->β) (l:List α) (i:Nat) (c:α) (h:l[i]? = some c):(l.take (i + 1)).map f=(l.take i).map f ++ [f c]:=by
 rw [List.take_succ,h,ZC];rfl
mutual
inductive Gi (H:Hp):V->PyData->Prop
 | non:Gi H .non .none
 | bl (b:Bool):Gi H (.bl b) (.bool b)
 | int (i:Int):Gi H (.int i) (.int i)
 | str (x:Str):Gi H (.str x) (.str x)
 | tup {a:Addr} {vs:List V} {ds:List PyData}:H a=some (.tup vs)->AE H vs ds->Gi H (.ref a) (.tuple ds)
 | lst {a:Addr} {vs:List V} {ds:List PyData}:H a=some (.lst vs)->AE H vs ds->Gi H (.ref a) (.list ds)
inductive AE (H:Hp):List V->List PyData->Prop
 | nil:AE H [] []
 | cons {v:V} {vs:List V} {d:PyData} {ds:List PyData}:Gi H v d->AE H vs ds->AE H (v :: vs) (d :: ds)
end
mutual
theorem Gi.mono {H H':Hp} (s:∀ a o,H a=some o->(∃ vs,o=.tup vs\/o=.lst vs)->H' a=some o):∀ {v:V} {d:PyData},Gi H v d->Gi H' v d
 | _,_,.non=>.non
 | _,_,.bl b=>.bl b
 | _,_,.int i=>.int i
 | _,_,.str x=>.str x
 | _,_,.tup e r=>.tup (s _ _ e ⟨_,.inl rfl⟩) (AE.mono s r)
 | _,_,.lst e r=>.lst (s _ _ e ⟨_,.inr rfl⟩) (AE.mono s r)
theorem AE.mono {H H':Hp} (s:∀ a o,H a=some o->(∃ vs,o=.tup vs\/o=.lst vs)->H' a=some o):∀ {vs:List V} {ds:List PyData},AE H vs ds->AE H' vs ds
 | _,_,.nil=>.nil
 | _,_,.cons x r=>.cons (Gi.mono s x) (AE.mono s r)
end
theorem Gi.same {H H':Hp} {v:V} {d:PyData} (h:Gi H v d) (s:Ao H H'):Gi H' v d:=h.mono fun a o e _=>s a o e
mutual
theorem Gi.reads {X:Cx} {pins:List (Addr × Obj)} {σ:St} {H:Hp} {s:Shared} (I:Aw X pins σ H s):∀ {v:V} {d:PyData} {u:Value},Gi H v d->AG v u->∃ as,Reads s.heap u d as
 | _,_,_,.non,r=>by cases r; exact ⟨_,.none⟩
 | _,_,_,.bl b,r=>by cases r; exact ⟨_,.bool b⟩
 | _,_,_,.int i,r=>by obtain ⟨t,rfl⟩:=r; exact ⟨_,.int i t⟩
 | _,_,_,.str x,r=>by obtain ⟨t,rfl⟩:=r; exact ⟨_,.str x t⟩
 | _,_,_,.tup (a:=a) e m,r=>by
  cases r
  obtain ⟨_,Ar,rv,⟨o,ho,hc,n,hd⟩,_⟩:=(show AM X.prog X.w H s.heap a (.tup _) from I.hok a _ e)
  obtain ⟨as,q⟩:=AE.reads I m rv;exact ⟨_,.tuple ho hc hd (by simpa using q)⟩
 | _,_,_,.lst (a:=a) e m,r=>by
  cases r
  obtain ⟨_,Ar,n,rv,ho⟩:=(show AM X.prog X.w H s.heap a (.lst _) from I.hok a _ e)
  obtain ⟨as,q⟩:=AE.reads I m rv;exact ⟨_,.list ho rfl rfl (by simpa using q)⟩
theorem AE.reads {X:Cx} {pins:List (Addr × Obj)} {σ:St} {H:Hp} {s:Shared} (I:Aw X pins σ H s):∀ {vs:List V} {ds:List PyData} {us:List Value},AE H vs ds->AD vs us->∃ as,ReadsAll s.heap us ds as
 | _,_,_,.nil,r=>by cases r; exact ⟨_,.nil⟩
 | _,_,_,.cons x m,r=>by
  cases r with
  | cons r1 r2=>
   obtain ⟨as,q1⟩:=Gi.reads I x r1;obtain ⟨bs,q2⟩:=AE.reads I m r2;exact ⟨_,.cons q1 q2⟩
end
theorem Pc {X:Cx} (hu:X.A.units + 64 < cLine):E8 X (compareOp .Eq) (fun x y H Q=>∃ d e,Gi H x d/\Gi H y e/\d.canLay0=true/\e.canLay0=true/\d.depth<=60/\Q (.bl (PyData.eqv d e)) H):=by
 intro pins s σ H x y v u Q I rx ry h;obtain ⟨d,e,h1,h2,c1,c2,hd,q⟩:=h;obtain ⟨as,r1⟩:=h1.reads I rx;obtain ⟨bs,r2⟩:=h2.reads I ry;exact SeqAt.compareEq_reads r1 r2 c1 c2 (by have:=Nat.min_le_left d.depth e.depth; lia) ⟨.bl _,H,I,rfl,q⟩
theorem IZ (z:Str) (xs:List Str):inV (.str z) (xs.map V.str)=decide (z ∈ xs):=by
 unfold inV;induction xs with
 | nil=>simp
 | cons x xs ih=>
  rw [ZL,b8,ih];have e:SY (.str x) (.str z)=decide (z=x):=by
   show (x == z)=_
   by_cases h:z=x
   ·subst h; simp
   ·have h':¬ x=z:=fun q=>h q.symm
    rw [decide_eq_false h];exact beq_eq_false_iff_ne.mpr h'
  rw [e];by_cases h:z=x
  ·simp [h]
  ·by_cases h2:z ∈ xs <;> simp [h,h2]
theorem G6 (xs:List Str):(xs.map V.str).all EN=true:=by
 rw [aW];exact aj.mpr fun _ _=>rfl
def Az (p:Addr) (H H':Hp):Prop:=∀ b o,b ≠ p->H b=some o->H' b=some o
theorem Az.trans {p:Addr} {H H1 H2:Hp} (a:Az p H H1) (b:Az p H1 H2):Az p H H2:=fun c o n e=>b c o n (a c o n e)
theorem Az.of_same {p:Addr} {H H':Hp} (s:Ao H H'):Az p H H':=fun b o _ e=>s b o e
theorem Az.upd {p:Addr} {H:Hp} {o:HO}:Az p H (L2.upd H p o):=fun b u n e=>by rw [Ae n]; exact e
def Tj (K:Z1) (H:Hp) (a:Addr) (xs:List V):Prop:=(∃ ob,H a=some (.frz ob (.lst xs)))\/∃ o Ar n,List.lookup a K=some o/\o.cls=Value.type "list"/\o.dict=none/\o.data=Data.seq Ar n/\Ar.size<=sizeLine/\AD xs Ar.toList
theorem Tj.sq {K:Z1} {H:Hp} {a:Addr} {xs:List V} (h:Tj K H a xs):AS K H a xs:=by
 rcases h with ⟨ob,h⟩ | h
 ·exact .inl (.inr ⟨ob,h⟩)
 ·exact .inr h
theorem Tj.same {K:Z1} {H H':Hp} {a:Addr} {xs:List V} (h:Tj K H a xs) (s:Ao H H'):Tj K H' a xs:=by
 rcases h with ⟨ob,h⟩ | h
 ·exact .inl ⟨ob,s _ _ h⟩
 ·exact .inr h
theorem RK {ns:List Int} {i:Int} (h0:0<=i) (h1:i < ns.length):∃ c,Gk (ns.map V.int) i=some (V.int c):=by
 obtain ⟨n,rfl⟩:∃ n:Nat,i=(n:Int):=⟨i.toNat,by lia⟩
 have hn:n < ns.length:=by lia
 exact ⟨ns[n],Co (by rw [Z6,Zy hn]; rfl)⟩
theorem Lj {α:Type} {l:List α} {i:Int} {c:α} (h:Gk l i=some c):c ∈ l:=by
 obtain ⟨j,_,h2,_⟩:=Ic h;exact Z2 h2
abbrev FU:Str:="abcdefghijklmnopqrstuvwxyz"
theorem Ho:∀ c ∈ FU.cps.toList,G2 c=true:=by decide +kernel
def Tq (z:Str):Prop:=∀ c ∈ z.cps.toList,G2 c=true
theorem Rl {z:Str} (h1:1<=z.length) (h2:z.length<=6) (h:Tq z):AY z=true:=by
 unfold AY;rw [decide_eq_true h1,decide_eq_true h2,aj.mpr h];rfl
theorem Rq {z:Str} (h:AY z=true):1<=z.length/\z.length<=6/\Tq z:=by
 unfold AY at h;rw [af,af,decide_eq_true_eq,decide_eq_true_eq,aj] at h;exact ⟨h.1.1,h.1.2,h.2⟩
theorem Cg {α:Type} [BEq α] [LawfulBEq α]:∀ {l xs:List α},l.Nodup->(∀ x ∈ l,x ∈ xs)->l.length<=xs.length
 | [],_,_,_=>ZX _
 | a :: l,xs,hn,hs=>by
  have ha:=hs a ZU;have Yc:=ax.mp hn;have:=Cg (l:=l) (xs:=xs.erase a) Yc.2 fun x hx=>(dA (show x ≠ a from fun e=>Yc.1 (by rw [<-e]; exact hx))).mpr (hs x (ZO _ hx))
  rw [List.length_erase_of_mem ha] at this;have:0 < xs.length:=List.length_pos_of_mem ha;rw [aq];lia
theorem CJ (H:Hp):∀ xs:List Str,AE H (xs.map V.str) (xs.map .str)
 | []=>.nil
 | x :: xs=>.cons (.str x) (CJ H xs)
theorem EL:∀ {xs:List Str},(∀ x ∈ xs,AY x=true)->PyData.canLayAll0 (xs.map .str)=true
 | [],_=>rfl
 | x :: xs,h=>by
  show (PyData.strOk x && PyData.canLayAll0 (xs.map .str))=true
  rw [EL fun y hy=>h y (ZO _ hy),eV];obtain ⟨_,_,lo⟩:=Rq (h x ZU);unfold PyData.strOk;rw [Array.all_eq_true_iff_forall_mem];intro c hc;have:=lo c (by simpa using hc);unfold G2 at this;rw [af,decide_eq_true_eq,decide_eq_true_eq] at this;rw [decide_eq_true_eq];lia
theorem F4:∀ xs:List Str,PyData.depthAll (xs.map .str)=0
 | []=>rfl
 | x :: xs=>by
  show max 0 (PyData.depthAll (xs.map .str))=0
  rw [F4 xs];rfl
def SU:Stmt->List Stmt
 | .For _ _ b _ _=>b
 | _=>[]
theorem AJ.caught {X:Cx} {scope:Scope} {cl:List (Str × Addr)} (clos:closureFor scope X.env=pure cl) (hcell:∀ y ∈ scope.names,y.2 ≠ .cell) (hkind:scope.kind=.function)
  (hnames:∀ y ∈ scope.names,y.2=.local->scope.names.lookup y.1=some .local) (hcl:∀ y ∈ cl,X.env.cells.lookup y.1=some y.2)
  (hfr:∀ y ∈ scope.names,y.2=.free->∃ c,cl.lookup y.1=some c):AJ X scope cl:=by
 refine ⟨clos,hcell,hkind,hnames,fun x c h=>hcl _ (Es h),fun x h=>?_⟩;have key:∀ k,(relabel scope X.env).names.lookup x=some k->k=.cell\/k=.free->∃ c,cl.lookup x=some c:=by
  intro k e hk;have m:=Es e;obtain ⟨⟨n,k'⟩,hm,e'⟩:=ZD.mp m;dsimp only at e';by_cases hf:k'=.free
  ·subst hf;have en:n=x:=by
    by_cases hc:(NameKind.free == NameKind.free && X.env.scope.kind == .function && X.env.kindOf n == some .cell)=true
    ·rw [if_pos hc] at e';injection e'
    ·rw [if_neg hc] at e';injection e'
   subst en;exact hfr _ hm rfl
  ·have:(k' == NameKind.free)=false:=by
    cases k' <;> first | rfl | exact absurd rfl hf
   rw [this] at e';simp at e';rcases hk with hk | hk
   ·exact absurd (e'.2.trans hk) (hcell _ hm)
   ·exact absurd (e'.2.trans hk) hf
 rcases h with h | h
 ·exact key _ h (.inl rfl)
 ·exact key _ h (.inr rfl)
theorem Bj.of {X:Cx} {cl:List (Str × Addr)} {scope:Scope} {N:List Str} {σ:St} (js:List (Option Nat)) (hl:js.length=N.length)
  (h:∀ (i j:Nat) (x:Str),N[i]? = some x->js[i]? = some (some j)->X.N[j]? = some x/\(X.env.kindOf x=some .cell\/X.env.kindOf x=some .free)/\((relabel scope X.env).names.lookup x=some .cell\/(relabel scope X.env).names.lookup x=some .free)) :
  Bj X cl scope N σ (js.map fun j=>j.bind fun j=>(σ[j]?).join):=by
 refine ⟨by rw [Z0,hl],fun i x v h1 h2=>?_⟩;rw [Z6] at h2;cases e:js[i]? with
 | none=>rw [e] at h2; cases h2
 | some o=>
  rw [e] at h2;cases o with
  | none=>cases h2
  | some j=>
   obtain ⟨a,b,c⟩:=h i j x h1 e;refine ⟨⟨j,a,?_⟩,b,c⟩;have h3:(σ[j]?).join=some v:=ZR.inj h2;cases e2:σ[j]? with
   | none=>rw [e2] at h3; cases h3
   | some o=>
    rw [e2] at h3;have:o=some v:=h3;rw [this]
theorem PN {X:Cx}:Bw X (.type "range") (fun xs H Q=>∃ j:Int,xs=[.int j]/\∀ q,H q=none->Q (.ref q) (upd H q (.rng 0 j))):=by
 intro pins s σ H xs us Q I r h;obtain ⟨j,rfl,q⟩:=h;obtain ⟨u,rfl,⟨t,rfl⟩⟩:=Cv r;refine call_range_1 ⟨.ref s.heap.objs.size,_,I.laid (o:=.rng 0 j) (fun b o e=>Zz _ e) (Z4 _) ⟨_,_,_,Z9 _ rfl⟩,rfl,q _ I.fresh⟩
theorem M4 {f:Nat->V}:∀ {n:Nat} {acc:Array Value},acc.size=n->(∀ (i:Nat) (v:Value),acc[i]? = some v->AG (f i) v)->AD ((ai n).map f) acc.toList:=by
 intro n acc hs h;have go:∀ (l:List Value) (k:Nat),(∀ (i:Nat) (v:Value),l[i]? = some v->AG (f (k + i)) v)->AD ((ai l.length).map fun i=>f (k + i)) l:=by
  intro l;induction l with
  | nil=>intro k _; exact .nil
  | cons v l ih=>
   intro k hh;rw [aq,List.range_succ_eq_map,ZL,az];refine .cons (by simpa using hh 0 v rfl) ?_;have:=ih (k + 1) fun i u e=>by
    have:=hh (i + 1) u (by simpa using e);rw [show k + 1 + i=k + (i + 1) by lia];exact this
   have e2:(fun i=>f (k + 1 + i))=((fun i=>f (k + i)) ∘ fk):=by
    funext i;show f (k + 1 + i)=f (k + (i + 1))
    rw [show k + 1 + i=k + (i + 1) by lia]
   rw [e2] at this;exact this
 have:=go acc.toList 0 fun i v e=>by
  rw [aQ];exact h i v (by simpa using e)
 simp only [aQ,ZT,hs] at this;exact this
theorem JN {X:Cx} (hc:X.calm=true):Bw X (.type "list") (fun xs H Q=>∃ (r:Addr) (n:Nat),xs=[.ref r]/\H r=some (.rng 0 n)/\n<=100000/\∀ l,H l=none->Q (.ref l) (upd H l (.lst ((ai n).map fun (i:Nat)=>V.int (i:Int))))):=by
 intro pins s σ H xs us Q I r h;obtain ⟨r0,n,rfl,hr,hn,q⟩:=h;obtain ⟨u,rfl,rx⟩:=Cv r;cases rx
 obtain ⟨t,u,v,e⟩:=(show AM X.prog X.w H s.heap r0 (.rng 0 n) from I.hok r0 _ hr)
 refine call_list_range (n:=n) (I.ok.hd hc) (show IsRange s.heap r0 0 n 1 t u v from e) (small_one (by decide) (by decide) (by lia) (by lia)) (by rw [rangeSize_one]; split <;> lia) (by lia) fun h' tk ET c' kp hS hacc=>?_
 refine ⟨.ref s.heap.objs.size,_,I.laid (o:=.lst ((ai n).map fun (i:Nat)=>V.int (i:Int))) kp (Z4 _) ⟨?_,ET.toList,c',?_,by simpa using hS⟩,rfl,q _ I.fresh⟩
 ·rw [Z0,aH];have:100000 < sizeLine:=by decide
  lia
 ·refine M4 hacc.1 fun i v e=>?_
  obtain ⟨t,rfl⟩:=hacc.2 i v e;exact ⟨t,by simp⟩
abbrev AI:=Str × Str × Int
def EB (u:AI):PyData:=.tuple [.str u.1,.str u.2.1,.int u.2.2]
def Jv (u v:AI):Prop:=(u.1=v.1/\u.2.1=v.2.1)\/(u.1=v.2.1/\u.2.1=v.1)
structure Lm (xs:List Str) (k:Nat) (ws:List AI):Prop where
 of:∀ u ∈ ws,∃ i j:Nat,i < j/\j < k/\xs[i]? = some u.1/\xs[j]? = some u.2.1/\1<=u.2.2
 sep:ws.Pairwise fun u v=>¬ Jv u v
 to:∀ j,0 < j->j < k->∃ u ∈ ws,∃ i:Nat,i < j/\xs[i]? = some u.1/\xs[j]? = some u.2.1
 len:2 * ws.length<=k * (k - 1)
structure V9 (xs:List Str) (ws:List AI):Prop where
 of:∀ u ∈ ws,u.1 ∈ xs/\u.2.1 ∈ xs/\u.1 ≠ u.2.1/\1<=u.2.2
 sep:ws.Pairwise fun u v=>¬ Jv u v
 to:∀ j,0 < j->j < xs.length->∃ u ∈ ws,∃ i:Nat,i < j/\xs[i]? = some u.1/\xs[j]? = some u.2.1
 len:2 * ws.length<=xs.length * (xs.length - 1) + 10
theorem IK {xs:List Str} (h:xs.Nodup) {i j:Nat} {x:Str} (a:xs[i]? = some x) (b:xs[j]? = some x):i=j:=II h a b
theorem Lm.nil (xs:List Str):Lm xs 1 []:=⟨(fun _ h=>nomatch h),List.Pairwise.nil,(fun j h1 h2=>by lia),(by decide)⟩
theorem Lm.more {xs:List Str} {k:Nat} {ws us:List AI} (hn:xs.Nodup) (h:Lm xs k ws) (hk:k < xs.length) (js:List Nat) (hj:js.Nodup) (B5:∀ j ∈ js,j < k) (h0:js ≠ [])
  (hl:us.length=js.length) (hu:∀ (q:Nat) (u:AI) (j:Nat),us[q]? = some u->js[q]? = some j->xs[j]? = some u.1/\xs[k]? = some u.2.1/\1<=u.2.2):Lm xs (k + 1) (ws ++ us):=by
 have at_:∀ u ∈ us,∃ (q j:Nat),us[q]? = some u/\js[q]? = some j/\j < k/\xs[j]? = some u.1/\xs[k]? = some u.2.1/\1<=u.2.2:=by
  intro u hm;obtain ⟨q,hq,e⟩:=ZQ hm;have e1:us[q]? = some u:=by rw [Zy hq,e]
  have e2:js[q]? = some js[q]:=Zy (by lia);obtain ⟨a,b,c⟩:=hu q u _ e1 e2;exact ⟨q,_,e1,e2,B5 _ (ar _),a,b,c⟩
 exists ?_,?_,?_
 ·intro u hm;rcases ZM.mp hm with hm | hm
  ·obtain ⟨i,j,a,b,c⟩:=h.of u hm;exact ⟨i,j,a,by lia,c⟩
  ·obtain ⟨q,j,_,_,a,b,c,d⟩:=at_ u hm;exact ⟨j,k,a,by lia,b,c,d⟩
 ·rw [dB];exists h.sep,?_
  ·rw [aN];intro q r hq hr hqr al;have a1:=hu q us[q] js[q] (Zy hq) (Zy (by lia));have a2:=hu r us[r] js[r] (Zy hr) (Zy (by lia));have l1:=B5 js[q] (ar _);have l2:=B5 js[r] (ar _);rcases al with ⟨e1,_⟩ | ⟨e1,_⟩
   ·have a3:=a1.1;rw [e1] at a3;have ej:=IK hn a3 a2.1;exact absurd ((eC hj).mp ej) (by lia)
   ·have a3:=a1.1;rw [e1] at a3;have ej:=IK hn a3 a2.2.1;lia
  ·intro u XU v hv al;obtain ⟨i,j,hij,hjk,e1,e2,_⟩:=h.of u XU;obtain ⟨q,m,_,_,hm,e3,e4,_⟩:=at_ v hv;rcases al with ⟨_,z⟩ | ⟨z,_⟩
   ·rw [z] at e2;have:=IK hn e2 e4;lia
   ·rw [z] at e1;have:=IK hn e1 e4;lia
 ·intro j h1 h2;by_cases e:j=k
  ·subst e;cases us with
   | nil=>
    cases js with
    | nil=>exact absurd rfl h0
    | cons _ _=>cases hl
   | cons u us=>
    obtain ⟨q,m,_,_,hm,e3,e4,_⟩:=at_ u ZU;exact ⟨u,ZF _ ZU,m,hm,e3,e4⟩
  ·obtain ⟨u,hm,i,a,b⟩:=h.to j h1 (by lia);exact ⟨u,av _ hm,i,a,b⟩
 ·have:=h.len;have hjl:js.length<=k:=by
   have:=Cg (l:=js) (xs:=ai k) hj fun j hm=>ba.mpr (B5 j hm)
   rwa [aH] at this
  rw [Z7,hl];show 2 * (ws.length + js.length)<=(k + 1) * (k + 1 - 1)
  rw [et];have e:(k + 1) * k=k * (k - 1) + 2 * k:=by
   cases k with
   | zero=>rfl
   | succ k=>
    rw [et];simp only [Nat.succ_mul,Nat.mul_succ,Nat.add_mul,Nat.mul_add];lia
  lia
theorem Lm.ways {xs:List Str} {ws:List AI} (hn:xs.Nodup) (h:Lm xs xs.length ws):V9 xs ws:=by
 refine ⟨fun u hm=>?_,h.sep,h.to,by have:=h.len; lia⟩;obtain ⟨i,j,a,b,c,d,e⟩:=h.of u hm;refine ⟨Z2 c,Z2 d,fun z=>?_,e⟩;rw [z] at c;have:=IK hn c d;lia
def D3 (xs:List Str) (ws:List AI):Prop:=(∀ u ∈ ws,u.1 ∈ xs/\u.2.1 ∈ xs/\u.1 ≠ u.2.1/\1<=u.2.2)/\(ws.Pairwise fun u v=>¬ Jv u v) /\
 ∀ j,0 < j->j < xs.length->∃ u ∈ ws,∃ i:Nat,i < j/\xs[i]? = some u.1/\xs[j]? = some u.2.1
theorem V9.c {xs:List Str} {ws:List AI} (h:V9 xs ws):D3 xs ws:=⟨h.of,h.sep,h.to⟩
theorem D3.snoc {xs:List Str} {ws:List AI} {x y:Str} {n:Int} (h:D3 xs ws) (hx:x ∈ xs) (hy:y ∈ xs) (ne:x ≠ y) (hn:1<=n) (no:∀ u ∈ ws,¬ ((x=u.1\/x=u.2.1)/\(y=u.1\/y=u.2.1))):D3 xs (ws ++ [(x,y,n)]):=by
 refine ⟨fun u hu=>?_,?_,fun j h1 h2=>?_⟩
 ·rcases ZM.mp hu with hu | hu
  ·exact h.1 u hu
  ·rw [ZN.mp hu]; exact ⟨hx,hy,ne,hn⟩
 ·rw [dB];refine ⟨h.2.1,cY _ _,fun u hu v hv al=>?_⟩;rw [ZN.mp hv] at al;refine no u hu ?_;rcases al with ⟨e1,e2⟩ | ⟨e1,e2⟩
  ·exact ⟨.inl e1.symm,.inr e2.symm⟩
  ·exact ⟨.inr e2.symm,.inl e1.symm⟩
 ·obtain ⟨u,hu,r⟩:=h.2.2 j h1 h2;exact ⟨u,av _ hu,r⟩
theorem Jl {H:Hp}:∀ {vs:List V} {ds:List PyData},AE H vs ds->vs.length=ds.length
 | _,_,.nil=>rfl
 | _,_,.cons _ r=>by rw [aq,aq,Jl r]
theorem ER {H:Hp}:∀ {vs:List V} {ws:List AI} {i:Nat} {x:V},AE H vs (ws.map EB)->vs[i]? = some x->∃ u t,ws[i]? = some u/\x=.ref t/\H t=some (.tup [.str u.1,.str u.2.1,.int u.2.2])
 | _,[],i,x,.nil,e=>by cases e
 | _,u :: ws,0,x,.cons (v:=v) h _,e=>by
  have e':v=x:=by simpa using e
  subst e';cases h with
  | tup ha hd=>
   exists u,_,rfl,rfl;cases hd with
   | cons h1 r1=>
    cases r1 with
    | cons h2 r2=>
     cases r2 with
     | cons h3 r3=>
      cases r3
      cases h1
      cases h2
      cases h3
      exact ha
 | _,u :: ws,i + 1,x,.cons _ r,e=>by
  obtain ⟨u',t,a,b⟩:=ER (i:=i) (x:=x) r (by simpa using e);exact ⟨u',t,by simpa using a,b⟩
theorem CO {H:Hp}:∀ {vs us:List V} {ds es:List PyData},AE H vs ds->AE H us es->AE H (vs ++ us) (ds ++ es)
 | _,_,_,_,.nil,h=>h
 | _,_,_,_,.cons a r,h=>.cons a (CO r h)
theorem FV (K:Z1) {X:Cx} (h:X.K=K):We X (rIxL K):=by subst h; exact Be
theorem A8 (K:Z1) {X:Cx} (h:X.K=K):We X (rIxT K):=by subst h; exact F1
theorem Vb (K:Z1) {X:Cx} (h:X.K=K):E8 X (compareOp .In) (rIn K false):=by subst h; exact OY
theorem AW (K:Z1) {X:Cx} (h:X.K=K) {es:List Expr} {k:Nat} {t:Uw} {n:Nat} {pos:Pos} (hc:X.calm=true) (ht:PGs X es t)
  (hn:(assignEach es X.env).length=n:=by rfl) (hst:(assignEach es X.env).findIdx? (·.1)=none:=by rfl):PG X (.Tuple es k pos) (gTup K n t):=by subst h; exact UR hc ht hn hst
end L2
namespace L2
open PySem PySem.W PyProof.Rows
section
variable {n:Nat} (hn:0 < n)
include hn
end
end L2
namespace L2
open PySem PySem.Spec PyProof.Rows PySem.W
theorem AM.there {P:Program} {w:World} {H:Hp} {h:Heap} {a:Addr} {o:HO} (x:AM P w H h a o):∃ ob,h.get? a=some ob:=by
 cases o with
 | lst xs=>obtain ⟨_,_,_,_,e⟩:=x; exact ⟨_,e⟩
 | tup xs=>obtain ⟨_,_,_,⟨ob,e,_⟩,_⟩:=x; exact ⟨ob,e⟩
 | dK kvs=>obtain ⟨_,_,_,_,o,_,_,e,_⟩:=x; exact ⟨o,e⟩
 | dT kvs=>obtain ⟨_,_,_,_,o,_,_,e,_⟩:=x; exact ⟨o,e⟩
 | set S n=>obtain ⟨o,_,_,_,e,_⟩:=x; exact ⟨o,e⟩
 | ins C dx fs=>obtain ⟨_,_,_,e,_⟩:=x; exact ⟨_,e⟩
 | own y=>exact x
 | xd fs=>obtain ⟨_,⟨_,_,_,e,_⟩,_⟩:=x; exact ⟨_,e⟩
 | rng lo hi=>obtain ⟨_,_,_,e⟩:=x; exact ⟨_,e⟩
 | frz ob u=>obtain ⟨e,_⟩:=x; exact ⟨_,e⟩
 | tbl ps=>exact ⟨_,(show h.get? a=some _ from x)⟩
 | met f y=>exact ⟨_,(show h.get? a=some _ from x)⟩
 | ext φ=>obtain ⟨_,⟨_,e⟩,_⟩:=x; exact ⟨_,e⟩
theorem Aw.laidF {X:Cx} {pins:List (Addr × Obj)} {σ:St} {H:Hp} {s:Shared} {h2:Heap} {D:Addr} {o:HO} {m:Str->Option Value} (I:Aw X pins σ H s)
  (hl:s.heap.Ns X.env.locals m/\∀ (i:Nat) (x:Str) (v:V),X.N[i]? = some x->σ[i]? = some (some v)->Vis X.env.scope x->∃ u,AG v u/\Look X.env s.heap m x u) (hn:h2.Ns X.env.locals m)
  (kp:∀ b ob,b ≠ X.env.locals->s.heap.get? b=some ob->h2.get? b=some ob) (hD:s.heap.get? D=none) (hDL:D ≠ X.env.locals) (new:AM X.prog X.w (upd H D o) h2 D o):Aw X pins σ (upd H D o) { s with heap:=h2 }:=by
 have fD:H D=none:=by
  cases z:H D with
  | none=>rfl
  | some u=>
   obtain ⟨ob,e⟩:=AM.there (I.hok D u z);rw [hD] at e;cases e
 have neL:∀ b ob,X.s₀.heap.get? b=some ob->b ≠ X.env.locals:=fun b ob e=>ZE (ZK (Z5 e) I.ok.above)
 have neD:∀ b ob,s.heap.get? b=some ob->b ≠ D:=fun b ob e z=>by rw [z,hD] at e; cases e
 have cellK:∀ x c,X.env.cells.lookup x=some c->∀ v,s.heap.IsCell c v->h2.IsCell c v:=fun x c e v ⟨ob,ho,hd⟩=>⟨ob,kp c ob (I.cne x c e) ho,hd⟩
 refine ⟨I.ok,I.os,I.bare,⟨?_,?_,?_,?_,?_,?_,?_⟩,⟨m,hn,?_⟩,?_,?_,?_,?_,?_,I.len⟩
 ·exact fun b ob e n hb hx=>kp b ob (neL b ob e) (I.base.keep b ob e n hb hx)
 ·intro b ob e n hb hx;obtain ⟨sl,q⟩:=I.base.slot b ob e n hb hx;exact ⟨sl,kp b _ (neL b ob e) q⟩
 ·intro b ob e n hx;obtain ⟨X4,q⟩:=I.base.there b ob e hx;rw [Ae (neD b X4 q)];exact I.base.free b ob e n hx
 ·intro b ob e hx;obtain ⟨X4,q⟩:=I.base.there b ob e hx;exact ⟨X4,kp b X4 (neL b ob e) q⟩
 ·intro b xs e;have q:=I.base.tups b xs e;rw [Ae (Ah q fD)];exact q
 ·intro b ob u e;have q:=I.base.frzs b ob u e;rw [Ae (Ah q fD)];exact q
 ·intro b ps e;obtain ⟨more,q⟩:=I.base.tbls b ps e;exact ⟨more,by rw [Ae (Ah q fD)]; exact q⟩
 ·intro i x v e1 e2 e3;obtain ⟨u,r,l⟩:=hl.2 i x v e1 e2 e3;exists u,r;rcases l with l | ⟨k,c,e,z⟩
  ·exact .inl l
  ·exact .inr ⟨k,c,e,cellK x c e _ z⟩
 ·intro x c e;obtain ⟨v,z⟩:=I.cell x c e;exact ⟨v,cellK x c e v z⟩
 ·rw [Ae (Ne.symm hDL)];exact I.free
 ·intro x c e;obtain ⟨v,ob,ho,_⟩:=I.cell x c e;rw [Ae (neD c ob ho)];exact I.freeC x c e
 ·intro p hp;obtain ⟨e,n,ne,nf,d⟩:=I.pin p hp;exact ⟨kp _ _ ne e,by rw [Ae (neD _ _ e)]; exact n,ne,nf,d⟩
 ·intro b u e;by_cases hb:b=D
  ·subst hb;rw [Ab] at e;cases e
   exact new
  ·rw [Ae hb] at e;refine (I.hok b u e).stay (fun c v hc q=>kp c v ?_ q) (fun c q=>by rw [Ae (Ah q fD)]; exact q) fun c xs q=>by rw [Ae (Ah q fD)]; exact q
   rintro rfl;rcases hc with rfl | hc
   ·rw [I.free] at e; cases e
   ·rw [I.free] at hc; cases hc
end L2
namespace L2
open PySem PySem.Spec PyProof.Rows
section
variable {prog:Program} {w:World} {A:Around} {E:Value->Shared->Prop} {s:Shared}
end
def Cb (a b:Str):Str:=if b.cps.toList < a.cps.toList then b else a
def Cc (a b:Str):Str:=if a.cps.toList < b.cps.toList then b else a
theorem N2 {ss:List Str}:∀ {us:List Value},AD (ss.map V.str) us->StrsAre us ss:=by
 induction ss with
 | nil=>intro us r; cases r; exact .nil
 | cons x ss ih=>
  intro us r;cases r with
  | cons r1 r2=>
   obtain ⟨t,rfl⟩:=r1;exact .cons x t (ih r2)
theorem HW:∀ {us:List Value} {ss:List Str},StrsAre us ss->AD (ss.map V.str) us
 | _,_,.nil=>.nil
 | _,_,.cons x t r=>.cons ⟨t,rfl⟩ (HW r)
theorem Eh {X:Cx}:Bw X (.builtin "sorted") (fun xs H Q=>∃ (a:Addr) (ss:List Str),xs=[.ref a]/\AS X.K H a (ss.map V.str)/\ss.length < 64 /\
  ∀ (l:Addr) (DW:List Str),H l=none->DW.Perm ss->sortedS DW=true->Q (.ref l) (upd H l (.lst (DW.map V.str)))):=by
 intro pins s σ H xs us Q I r h;obtain ⟨a,ss,rfl,ha,JH,q⟩:=h;obtain ⟨u,rfl,ru⟩:=Cv r;cases ru
 obtain ⟨Ar,rv,pl,hz⟩:=I.list ha;have hl:Ar.length=ss.length:=by rw [<-rv.length,Z0]
 refine sorted_strs pl.isList (N2 rv) (by lia) fun out DW h1 h2 h3=>?_
 obtain ⟨e,he⟩:=sortedAll_at s.heap Ar out;refine ⟨.ref (s.heap.objs.size + 1),_,I.laid (o:=.lst (DW.map V.str)) (t':=s.toks) (fun b o z=>sortedAll_old z) (ZZ _) ⟨?_,out.toList,e,HW h1,by simpa using he⟩,rfl,q _ DW (I.hok.fresh (ZZ _)) h2 h3⟩;rw [Z0,h2.length_eq];have:100 < sizeLine:=by decide
 lia
end L2
namespace L2
open PySem PySem.Spec PySem.W PyProof.Rows
theorem Ff {vs:List Value} {p:Keyed} (h:p ∈ (pairsOf vs).toList):p=(p.2,p.2)/\p.2 ∈ vs:=by
 rw [pairsOf_toList] at h;obtain ⟨e,m⟩:=mem_zip_self h;refine ⟨?_,e ▸ m⟩;obtain ⟨x,y⟩:=p;exact Prod.ext e rfl
theorem OV (vs:List Value):(pairsOf vs).toList.map (·.2)=vs:=by
 rw [pairsOf_toList];induction vs with
 | nil=>rfl
 | cons v vs ih=>rw [dO,ZL,ih]
theorem Rc {vs:List Value} {xs:Array Keyed} (h:xs.Perm (pairsOf vs)):(xs.toList.map (·.2)).Perm vs:=by
 have q:=(bF.mp h).map (·.2);rw [OV] at q;exact q
theorem Rb {lt:Keyed->Keyed->Bool} {vs:List Value} {xs:Array Keyed} (h:xs.Perm (pairsOf vs)) (hs:xs.toList.Pairwise (Nl lt)):(xs.toList.map (·.2)).Pairwise (fun u v=>lt (v,v) (u,u)=false):=by
 rw [aO];refine hs.imp_of_mem fun {p q} hp hq n=>?_
 have e1:=(Ff ((bF.mp h).mem_iff.mp hp)).1;have e2:=(Ff ((bF.mp h).mem_iff.mp hq)).1;rw [<-e1,<-e2];exact n
section
variable {prog:Program} {w:World} {A:Around} {E:Value->Shared->Prop} {s:Shared} {lt:Keyed->Keyed->Bool}
def Cmpd (prog:Program) (w:World) (s:Shared) (lt:Keyed->Keyed->Bool) (vs:List Value):Prop:=
 2<=vs.length->∀ (A:Around) (h':Heap),(∀ b o,s.heap.get? b=some o->h'.get? b=some o) ->
  ∃ κ,(∀ (Q:SortKind->Shared->Prop) (E:Value->Shared->Prop),Q κ { s with heap:=h' }->wpAny (model prog w) A (keyKind' vs.toArray) Q E { s with heap:=h' })/\VH prog w A { s with heap:=h' } κ lt (pairsOf vs)
end
inductive J1 where
 | i (n:Int)
 | s (x:Str)
 deriving DecidableEq
def E7:J1->J1->Bool
 | .i a,.i b=>decide (a < b)
 | .s a,.s b=>decide (a.cps.toList < b.cps.toList)
 | .i _,.s _=>true
 | .s _,.i _=>false
def B9:List J1->List J1->Bool
 | [],[]=>false
 | [],_ :: _=>true
 | _ :: _,[]=>false
 | x :: xs,y :: ys=>if x=y then B9 xs ys else E7 x y
theorem Tg (a:J1):E7 a a=false:=by
 cases a with
 | i n=>simp [E7]
 | s x=>exact strKind.irrefl x.cps.toList
theorem Te:∀ {a b c:J1},E7 a b=true->E7 b c=true->E7 a c=true
 | .i a,.i b,.i c,h1,h2=>by
  simp only [E7,decide_eq_true_eq] at h1 h2 ⊢;lia
 | .i _,.i _,.s _,_,_=>rfl
 | .i _,.s _,.s _,_,_=>rfl
 | .i _,.s _,.i _,_,h=>by cases h
 | .s _,.i _,_,h,_=>by cases h
 | .s _,.s _,.i _,_,h=>by cases h
 | .s x,.s y,.s z,h1,h2=>strKind.trans x.cps.toList y.cps.toList z.cps.toList h1 h2
theorem Tf {a b:J1} (h:a ≠ b):E7 a b=true\/E7 b a=true:=by
 cases a <;> cases b <;> simp [E7]
 ·have:∀ x y:Int,J1.i x ≠ J1.i y->x < y\/y < x:=fun x y h=>by
   have:x ≠ y:=fun e=>h (by rw [e])
   lia
  exact this _ _ h
 ·rename_i x y
  by_cases h1:x.cps.toList < y.cps.toList
  ·exact .inl h1
  ·by_cases h2:y.cps.toList < x.cps.toList
   ·exact .inr h2
   ·exfalso
    apply h;have e:=strKind.total x.cps.toList y.cps.toList (decide_eq_false h1) (decide_eq_false h2);cases x
    cases y
    rw [cI] at e;subst e;rfl
theorem Oc:∀ a,B9 a a=false
 | []=>rfl
 | x :: xs=>by unfold B9; rw [if_pos rfl]; exact Oc xs
theorem V8 {a b:J1} (h:E7 a b=true):a ≠ b:=fun e=>by
 rw [e,Tg] at h;cases h
theorem Ld:∀ a b c,B9 a b=true->B9 b c=true->B9 a c=true
 | [],[],_,h,_=>by cases h
 | [],_ :: _,[],_,h=>by cases h
 | [],_ :: _,_ :: _,_,_=>rfl
 | _ :: _,[],_,h,_=>by cases h
 | _ :: _,_ :: _,[],_,h=>by cases h
 | x :: xs,y :: ys,z :: zs,h1,h2=>by
  unfold B9 at h1 h2 ⊢;by_cases e1:x=y
  ·rw [if_pos e1] at h1;by_cases e2:y=z
   ·rw [if_pos e2] at h2;rw [if_pos (e1.trans e2)];exact Ld xs ys zs h1 h2
   ·rw [if_neg e2] at h2;rw [if_neg (by rw [e1]; exact e2),e1];exact h2
  ·rw [if_neg e1] at h1;by_cases e2:y=z
   ·rw [if_neg (by rw [<-e2]; exact e1),<-e2];exact h1
   ·rw [if_neg e2] at h2;have h3:=Te h1 h2;rw [if_neg (V8 h3)];exact h3
theorem Ob:∀ a b,B9 a b=false->B9 b a=false->a=b
 | [],[],_,_=>rfl
 | [],_ :: _,h,_=>by cases h
 | _ :: _,[],_,h=>by cases h
 | x :: xs,y :: ys,h1,h2=>by
  unfold B9 at h1 h2;by_cases e:x=y
  ·rw [if_pos e] at h1;rw [if_pos e.symm] at h2;rw [e,Ob xs ys h1 h2]
  ·rw [if_neg e] at h1;rw [if_neg (fun z=>e z.symm)] at h2;rcases Tf e with q | q
   ·rw [h1] at q; cases q
   ·rw [h2] at q; cases q
theorem SE (a b c:List J1) (h:B9 a c=true):B9 a b=true\/B9 b c=true:=by
 cases e1:B9 a b
 ·right;cases e2:B9 b a
  ·rw [<-Ob a b e1 e2]; exact h
  ·exact Ld _ _ _ e2 h
 ·exact .inl rfl
theorem SD (f:Value->List J1):PR (fun x y=>B9 (f x.1) (f y.1)):=
 ⟨fun a=>Oc _,fun a b c=>Ld _ _ _,fun a b c=>SE _ _ _⟩
def BX:Value->J1
 | .int n _=>.i n
 | .str x _=>.s x
 | _=>.i 0
def Ly:V->J1
 | .int n=>.i n
 | .str x=>.s x
 | _=>.i 0
def Dv (h:Heap):Value->List J1
 | .ref a=>match h.get? a with
  | some o=>(match o.data with
   | .seq xs _=>xs.toList.map BX
   | _=>[])
  | none=>[]
 | v=>[BX v]
def JE (H:Hp):V->List J1
 | .ref a=>match H a with
  | some (.tup ys)=>ys.map Ly
  | _=>[]
 | v=>[Ly v]
def K1 (k:Bool) (v:V):Prop:=if k=true then ∃ x,v=.str x else ∃ n,v=.int n
def CS (k:Bool) (v:Value):Prop:=if k=true then ∃ x t,v=.str x t else ∃ n t,v=.int n t
theorem SI {k:Bool} {v:V} {u:Value} (r:AG v u) (h:K1 k v):CS k u/\BX u=Ly v:=by
 unfold K1 at h;unfold CS;cases k with
 | true=>
  simp only [if_true] at h ⊢;obtain ⟨x,rfl⟩:=h;obtain ⟨t,rfl⟩:=r;exact ⟨⟨x,t,rfl⟩,rfl⟩
 | false=>
  simp only [ZY,if_false] at h ⊢;obtain ⟨x,rfl⟩:=h;obtain ⟨t,rfl⟩:=r;exact ⟨⟨x,t,rfl⟩,rfl⟩
def Lk (H:Hp) (kd:Nat->Bool) (v:V):Prop:=∃ t ys,v=.ref t/\H t=some (.tup ys)/\ys ≠ []/\∀ i y,ys[i]? = some y->K1 (kd i) y
def Nn (h:Heap) (kd:Nat->Bool) (v:Value):Prop:=∃ t o xs n,v=.ref t/\h.get? t=some o/\o.cls=.type "tuple"/\o.data=.seq xs n/\0 < xs.size/\∀ (i:Nat) x,xs.toList[i]? = some x->CS (kd i) x
theorem U6 {X:Cx} {pins:List (Addr × Obj)} {σ:St} {H:Hp} {s:Shared} (I:Aw X pins σ H s) {kd:Nat->Bool} {v:V} {u:Value} (r:AG v u) (h:Lk H kd v):Nn s.heap kd u/\Dv s.heap u=JE H v:=by
 obtain ⟨t,ys,rfl,ht,ne,hy⟩:=h;cases r
 obtain ⟨_,Ar,rv,⟨o,ho,hc,n,hd⟩,_⟩:=(show AM X.prog X.w H s.heap t (.tup _) from I.hok t _ ht)
 have e:JE H (.ref t)=ys.map Ly:=by
  show (match H t with | some (.tup ys)=>ys.map Ly | _=>[])=_
  rw [ht]
 have e2:Dv s.heap (.ref t)=Ar.map BX:=by
  show (match s.heap.get? t with | some o=>(match o.data with | .seq xs _=>xs.toList.map BX | _=>[]) | none=>[])=_
  rw [ho];dsimp only;rw [hd]
 have all:∀ {ys:List V} {Ar:List Value} (k:Nat),AD ys Ar->(∀ i y,ys[i]? = some y->K1 (kd (k + i)) y)->(∀ (i:Nat) x,Ar[i]? = some x->CS (kd (k + i)) x)/\Ar.map BX=ys.map Ly:=by
  intro ys;induction ys with
  | nil=>intro Ar k rv _; cases rv; exact ⟨fun i x e=>by simp at e,rfl⟩
  | cons y ys ih=>
   intro Ar k rv hy;cases rv with
   | cons r1 r2=>
    obtain ⟨a1,a2⟩:=SI r1 (hy 0 y rfl);obtain ⟨b1,b2⟩:=ih (k + 1) r2 fun i z e=>by
     have:=hy (i + 1) z (by simpa using e);rw [show k + 1 + i=k + (i + 1) by lia];exact this
    refine ⟨fun i x e=>?_,by rw [ZL,ZL,a2,b2]⟩;cases i with
    | zero=>
     rw [au] at e;cases e
     exact a1
    | succ i=>
     have:=b1 i x (by simpa using e);rw [show k + 1 + i=k + (i + 1) by lia] at this;exact this
 obtain ⟨a1,a2⟩:=all 0 rv fun i y e=>by rw [aQ]; exact hy i y e
 refine ⟨⟨t,o,Ar.toArray,n,rfl,ho,hc,hd,?_,fun i x e=>?_⟩,by rw [e,e2,a2]⟩
 ·have:=rv.length;have:0 < ys.length:=bh.mpr ne;simp;lia
 ·have:=a1 i x (by simpa using e);rw [aQ] at this;exact this
section
variable {prog:Program} {w:World} {A:Around} {E:Value->Shared->Prop} {s:Shared} {Q:Bool->Shared->Prop}
theorem S1 {k b:Bool} {u v:Value} (hu:CS k u) (hv:CS k v) (h:Q (E7 (BX u) (BX v)) s):wpAny (model prog w) A (oneLt' b u v) Q E s:=by
 unfold CS at hu hv;cases k with
 | true=>
  simp only [if_true] at hu hv;obtain ⟨x,t,rfl⟩:=hu;obtain ⟨y,t',rfl⟩:=hv;cases b with
  | true=>exact oneLt_str h
  | false=>exact kat_one _ _ (PySem.P.lt_str h)
 | false=>
  simp only [ZY,if_false] at hu hv;obtain ⟨x,t,rfl⟩:=hu;obtain ⟨y,t',rfl⟩:=hv;cases b with
  | true=>exact oneLt_int h
  | false=>exact kat_one _ _ (lt_int h)
theorem Vz {k:Bool} {u v:Value} (hu:CS k u) (hv:CS k v):SeqAt.EqAt A s u v (decide (BX u=BX v)):=by
 unfold CS at hu hv;cases k with
 | true=>
  simp only [if_true] at hu hv;obtain ⟨x,t,rfl⟩:=hu;obtain ⟨y,t',rfl⟩:=hv;have e:decide (BX (.str x t)=BX (.str y t'))=(x == y):=by
   show decide (J1.s x=J1.s y)=_
   rw [aA];simp
  rw [e];exact SeqAt.EqAt.str_str x t y t'
 | false=>
  simp only [ZY,if_false] at hu hv;obtain ⟨x,t,rfl⟩:=hu;obtain ⟨y,t',rfl⟩:=hv;have e:decide (BX (.int x t)=BX (.int y t'))=(x == y):=by
   show decide (J1.i x=J1.i y)=_
   rw [aA];simp
  rw [e];exact SeqAt.EqAt.int_int x t y t'
theorem Kj {b:Bool} {kd:Nat->Bool}:∀ (xs ys:List Value) (i:Nat),(∀ (j:Nat) x,xs[j]? = some x->CS (kd (i + j)) x)->(∀ (j:Nat) x,ys[j]? = some x->CS (kd (i + j)) x) ->
  Q (B9 (xs.map BX) (ys.map BX)) s->KatLex prog w A b (decide (xs.length < ys.length)) Q (xs.zip ys) i s
 | [],[],i,_,_,h=>h
 | [],y :: ys,i,_,_,h=>h
 | x :: xs,[],i,_,_,h=>h
 | x :: xs,y :: ys,i,hx,hy,h=>by
  have kx:CS (kd i) x:=hx 0 x rfl;have ky:CS (kd i) y:=hy 0 y rfl;rw [ZL,ZL] at h;unfold B9 at h;refine kat_cons (Vz kx ky _ _ _ _ ?_);refine kat_go (fun e=>kat_yes ?_) (fun e=>kat_no (S1 kx ky ?_))
  ·have e':=of_decide_eq_true e;rw [if_pos e'] at h;have r:=Kj (b:=b) (kd:=kd) xs ys (i + 1) (fun j z e=>by rw [show i + 1 + j=i + (j + 1) by lia]; exact hx (j + 1) z (by simpa using e)) (fun j z e=>by rw [show i + 1 + j=i + (j + 1) by lia]; exact hy (j + 1) z (by simpa using e)) h;have e2:decide ((x :: xs).length < (y :: ys).length)=decide (xs.length < ys.length):=by simp
   rw [e2];exact r
  ·have e':=of_decide_eq_false e;rw [if_neg e'] at h;exact h
theorem U7 {kd:Nat->Bool} {u v:Value} (hu:Nn s.heap kd u) (hv:Nn s.heap kd v) (h:Q (B9 (Dv s.heap u) (Dv s.heap v)) s):wpAny (model prog w) A (keyLt' (tuples' true) u v) Q E s:=by
 obtain ⟨t,o,xs,n,rfl,ho,hc,hd,p,hx⟩:=hu;obtain ⟨t',o',Xr,n',rfl,HZ,Kl,Lf,p',Mg⟩:=hv;have e1:Dv s.heap (.ref t)=xs.toList.map BX:=by
  show (match s.heap.get? t with | some o=>(match o.data with | .seq xs _=>xs.toList.map BX | _=>[]) | none=>[])=_
  rw [ho];dsimp only;rw [hd]
 have e2:Dv s.heap (.ref t')=Xr.toList.map BX:=by
  show (match s.heap.get? t' with | some o=>(match o.data with | .seq xs _=>xs.toList.map BX | _=>[]) | none=>[])=_
  rw [HZ];dsimp only;rw [Lf]
 rw [e1,e2] at h;refine kat_lt ho hd HZ Lf ?_;have e3:decide (xs.size < Xr.size)=decide (xs.toList.length < Xr.toList.length):=by simp
 rw [e3];exact Kj (kd:=kd) _ _ 0 (fun j x e=>by rw [aQ]; exact hx j x e) (fun j x e=>by rw [aQ]; exact Mg j x e) h
theorem O6 {kd:Nat->Bool} {vs:List Value} (h:∀ v ∈ vs,Nn s.heap kd v):Cmpd prog w s (fun x y=>B9 (Dv s.heap x.1) (Dv s.heap y.1)) vs:=by
 intro h2 A h' kp;have h1:∀ v ∈ vs,Nn h' kd v/\Dv h' v=Dv s.heap v:=fun v hv=>by
  obtain ⟨t,o,xs,n,rfl,ho,hc,hd,p,hx⟩:=h v hv;exists ⟨t,o,xs,n,rfl,kp t o ho,hc,hd,p,hx⟩;show (match h'.get? t with | some o=>(match o.data with | .seq xs _=>xs.toList.map BX | _=>[]) | none=>[])=(match s.heap.get? t with | some o=>(match o.data with | .seq xs _=>xs.toList.map BX | _=>[]) | none=>[])
  rw [ho,kp t o ho]
 exists tuples' true,?_
 ·intro Q E hq;have tups:∀ l:List Value,(∀ v ∈ l,Nn h' kd v)->∃ fs:List Value,KatTups h' l fs/\fs.length=l.length/\∀ f ∈ fs,CS (kd 0) f:=by
   intro l;induction l with
   | nil=>intro _; exact ⟨[],KatTups.nil,rfl,fun f hf=>nomatch hf⟩
   | cons v l ih=>
    intro hl;obtain ⟨fs,k1,k2,k3⟩:=ih fun v hv=>hl v (ZO _ hv)
    obtain ⟨t,o,xs,n,rfl,ho,hc,hd,p,hx⟩:=hl v ZU;have g:xs[0]? = some xs[0]:=cR p;refine ⟨xs[0] :: fs,KatTups.cons ho hc hd g k1,by rw [aq,aq,k2],fun f hf=>?_⟩;rcases Z3.mp hf with rfl | hf
    ·exact hx 0 _ (by rw [bx]; exact g)
    ·exact k3 f hf
  obtain ⟨fs,k1,k2,k3⟩:=tups vs fun v hv=>(h1 v hv).1
  cases ek:kd 0 with
  | true=>
   refine kat_kind (T:=.type "str") k1 (by lia) (fun v hv=>?_) rfl hq;have q:=k3 v hv;unfold CS at q;rw [ek] at q;simp only [if_true] at q;obtain ⟨x,t,rfl⟩:=q;exact Looks.now
  | false=>
   refine kat_kind (T:=.type "int") k1 (by lia) (fun v hv=>?_) rfl hq;have q:=k3 v hv;unfold CS at q;rw [ek] at q;simp only [ZY,if_false] at q;obtain ⟨x,t,rfl⟩:=q;exact Looks.now
 ·intro x y hx hy Q E hq;obtain ⟨ex,mx⟩:=Ff (vs:=vs) (p:=x) (by simpa using hx);obtain ⟨ey,my⟩:=Ff (vs:=vs) (p:=y) (by simpa using hy);rw [ex,ey] at hq ⊢;dsimp only at hq ⊢;refine U7 (h1 _ mx).1 (h1 _ my).1 ?_;show Q (B9 (Dv h' x.2) (Dv h' y.2)) _
  rw [(h1 _ mx).2,(h1 _ my).2];exact hq
end
theorem Oz {us O0:List Value} (p:O0.Perm us):∀ {vs:List V},AD vs us->∃ Ej,AD Ej O0/\Ej.Perm vs:=by
 induction p with
 | nil=>intro vs h; exact ⟨vs,h,.refl _⟩
 | cons x p ih=>
  intro vs h;cases h with
  | cons h1 h2=>
   obtain ⟨Ej,a,b⟩:=ih h2;exact ⟨_ :: Ej,.cons h1 a,b.cons _⟩
 | swap x y l=>
  intro vs h;cases h with
  | cons h1 h2=>
   cases h2 with
   | cons h3 h4=>exact ⟨_ :: _ :: _,.cons h3 (.cons h1 h4),.swap _ _ _⟩
 | trans p1 p2 Vq Vp=>
  intro vs h;obtain ⟨vs1,a1,b1⟩:=Vp h;obtain ⟨vs2,a2,b2⟩:=Vq a1;exact ⟨vs2,a2,b2.trans b1⟩
end L2
namespace L2
open PySem PySem.Spec PyProof.Rows
section
variable {prog:Program} {w:World} {A:Around} {E:Value->Shared->Prop} {s:Shared}
end
def Er (u:AI):AI:=(Cb u.1 u.2.1,Cc u.1 u.2.1,u.2.2)
theorem PF {H:Hp} {vs Ej:List V} (p:Ej.Perm vs):∀ {ws:List AI},AE H vs (ws.map EB)->∃ GK:List AI,AE H Ej (GK.map EB)/\GK.Perm ws:=by
 induction p with
 | nil=>intro ws h; exact ⟨ws,h,.refl _⟩
 | cons x p ih=>
  intro ws h;cases ws with
  | nil=>cases h
  | cons u ws=>
   cases h with
   | cons h1 h2=>
    obtain ⟨GK,a,b⟩:=ih h2;exact ⟨u :: GK,.cons h1 a,b.cons u⟩
 | swap x y l=>
  intro ws h;cases ws with
  | nil=>cases h
  | cons u ws=>
   cases h with
   | cons h1 h2=>
    cases ws with
    | nil=>cases h2
    | cons v ws=>
     cases h2 with
     | cons h3 h4=>exact ⟨v :: u :: ws,.cons h3 (.cons h1 h4),.swap u v ws⟩
 | trans p1 p2 Vq Vp=>
  intro ws h;obtain ⟨ws1,a1,b1⟩:=Vp h;obtain ⟨ws2,a2,b2⟩:=Vq a1;exact ⟨ws2,a2,b2.trans b1⟩
theorem NT {X:Cx} {ix:Nat} {x:Str} {px spos:Pos} {tg iter elt:Expr} {ifs:List Expr} {scope:Scope} {cl:List (Str × Addr)} {N:List Str} {pos:Pos} {wi:TI} {g:TG} {tt:TT} {te:TE} {σ0:St->St} (hN:X.N.Nodup) (hix:X.N[ix]? = some x) (hlx:Wd X.env.scope x) (hc:X.calm=true) (co:AJ X scope cl)
  (hσ:∀ σ,σ.length=X.N.length->Bj X cl scope N σ (σ0 σ)) (hi:PI X tg iter wi)
  (hb:∀ s2 H C fp,PG (A6 X scope cl N s2 H C fp) tg g/\Wc (A6 X scope cl N s2 H C fp) ifs tt/\PE (A6 X scope cl N s2 H C fp) elt te)
  (hsw:swapsWith (.ListComp elt [⟨tg,iter,ifs,0⟩] scope pos) (some (.Name x px)) spos.line X.env=pure true:=by rfl)
  (hs:∀ x,foldedSetIterable iter X.env x=pure x:=by intro _; rfl) (hf:X.fn x=true\/X.env.scope.names.lookup x=some .local:=by first | exact .inl rfl | exact .inr rfl | assumption) :
  PS X (.Assign [.Name x px] (.ListComp elt [⟨tg,iter,ifs,0⟩] scope pos) spos) (Sh (Qs wi g tt te σ0) (Mh ix)):=by
 intro pins s σ H DD I h;rw [exec_Assign_Name_used _ _ _ _ hsw];refine wpAny_bind (wpAny_standAt (wpAny_bind ?_));show wpAny _ X.A (do let _ <- comprehension (.ListComp elt [⟨tg,iter,ifs,0⟩] scope pos) scope X.env _ (newList []) false (eval iter X.env) (some (assign (.Name x px) X.env))) _ _ s
 refine wpAny_bind (wpAny_mono (wpAny_comprehension_free (use:=some (assign (.Name x px) X.env)) (Q:=fun _ s'=>SP X pins DD .next s') rfl hs co.clos co.kind co.names
  (wpAny_mono (hi (pins:=pins) s σ H _ I h) (fun xv s1 h1=>wpAny_mono h1 (fun itv s2 h2=>?_) fun _ _ e=>e) fun _ _ e=>e)) (fun _ s' hq=>wpAny_pure (wpAny_pure hq)) fun _ _ e=>e)
 obtain ⟨it,fp,tn,J,H2,rfl,I2,T,Hz,f2,hW⟩:=h2;refine wpAny_newObj_type (wpAny_newFunctionEnv co.cell (by intro y hy; cases hy) (fun By Cs BC=>?_) co.kind);dsimp only at Cs BC ⊢;generalize Nd:s2.heap.push { cls:=.type "list",dict:=none,data:=.seq ([]:List Value).toArray } = HH at Cs BC ⊢;have CI:HH.objs.size=s2.heap.objs.size + 1:=by rw [<-Nd,ae]
 have old:∀ b o,s2.heap.get? b=some o->By.get? b=some o:=fun b o e=>
  BC.extBut b o (ZE (by rw [CI]; exact aa (Z5 e))) (Zz _ (Nd ▸ Zz _ e))
 have newD:∃ n,By.get? s2.heap.objs.size=some { cls:=.type "list",data:=.seq ([]:List Value).toArray n }:=
  ⟨_,BC.extBut _ _ (ZE (by rw [CI]; exact ak _)) (Zz _ (Nd ▸ Z9 _ rfl))⟩
 obtain ⟨W,⟨m0,w0⟩,turn⟩:=hW s2.heap.objs.size I2.fresh;have hfo:∀ b ∈ fp,∃ o,s2.heap.get? b=some o:=fun b hb=>let ⟨o,e,_⟩:=T.obj _ _ Hz b hb; ⟨o,e⟩
 have I3:Aw (A6 X scope cl N s2 H2 HH.objs.size fp) [] (σ0 σ) (upd H2 s2.heap.objs.size (.lst [])) { s2 with heap:=By,toks:=s2.toks + ([]:List (Str × Value)).length }:=
  Jn I2 f2 hfo co (hσ σ I.len) old (Z4 _) (by rw [CI]; exact ZZ _) (aD (by rw [CI]; exact ak _)) (.inr newD) Cs
 have fC:s2.heap.objs.size<=HH.objs.size:=by rw [CI]; exact ZZ _
 obtain ⟨hg,ht,he⟩:=hb s2 H2 HH.objs.size fp;have loop:∀ CL:Shared,CL = { s2 with heap:=By,toks:=s2.toks + ([]:List (Str × Value)).length } ->
   codeAny (model X.prog X.w) X.A (.compLoop (.ListComp elt [⟨tg,iter,ifs,0⟩] scope pos) 0 (.ref it) (.ref s2.heap.objs.size) (compEnvC scope cl HH.objs.size X.env))
    (compPost (model X.prog X.w) X.A X.xe (some (assign (.Name x px) X.env)) (fun _ s'=>SP X pins DD .next s') (.ref s2.heap.objs.size) HH.objs.size) CL:=by
  rintro CL rfl;have stat:∀ {H':Hp} ,(∀ b ∈ fp,H' b=none)->∀ b ∈ fp,EU (A6 X scope cl N s2 H2 HH.objs.size fp) [] H' b:=fun hn b hb=>by
   refine ⟨hn b hb,?_,?_,.inl hb,?_,fun p hp=>by cases hp⟩
   ·obtain ⟨o,e⟩:=hfo b hb;exact ZE (show b < HH.objs.size by rw [CI]; exact aa (Z5 e))
   ·intro hz;obtain ⟨_,q1,q2,_⟩:=f2 b hb;rcases Z3.mp (I2.stkSub b hz) with e | e
    ·exact q1 e
    ·exact q2 e
   ·exact fun x c e=>(f2 b hb).2.2.2.2.1 x c (co.sub x c e)
  refine CQ (fun n s'=>∃ i A3 H',Aw (A6 X scope cl N s2 H2 HH.objs.size fp) [] A3 H' s'/\tn i s'.heap/\(∀ b ∈ fp,H' b=none)/\W i n A3 H') ?_ m0
   ⟨0,σ0 σ,_,I3,T.keep _ _ _ Hz fun b hb o e=>old b o e,fun b hb=>?_,w0⟩
  ·rintro n s4 ⟨i,K3,H4,I4,Mw,RC,w4⟩;rcases turn i n K3 H4 w4 with ⟨stop,qn⟩ | ⟨go,step⟩
   ·refine wpAny_mono (T.done (A6 X scope cl N s2 H2 HH.objs.size fp) rfl rfl rfl hc i [] s4 K3 H4 (fun _ _=>False) I4 (stat RC) Mw stop) (fun r s5 ⟨hr,I5⟩=>?_) fun _ _ z=>z.elim
    subst hr;obtain ⟨m5,Vs,_⟩:=id I5.loc;have I6:Aw X pins σ H4 s5:=FZ (h':=s5.heap) I2 f2 fC I5 (Heap.SameBut.refl _ _);have cC:∀ y c,X.env.cells.lookup y=some c->c ≠ HH.objs.size:=fun y c e=>by
     obtain ⟨v,q⟩:=I2.cell y c e;exact ZE (ZK q.lt fC)
    have lC:X.env.locals ≠ HH.objs.size:=ZE (ZK I2.lt fC);show wpAny _ X.A (assign (.Name x px) X.env (.ref s2.heap.objs.size)) _ X.xe s5
    refine wpAny_assign_Name (Gm I6 hN hix hlx (v:=.ref s2.heap.objs.size) rfl (fun s7 I7 ⟨a,sb,ha⟩=>?_) hf);have aC:a ≠ HH.objs.size:=by
     rcases ha with rfl | ha
     ·exact lC
     ·exact cC _ _ ha
    refine ⟨m5,Vs.sameBut sb (Ne.symm aC),fun h' Vr=>⟨_,H4,?_,qn⟩⟩;exact I7.turned (t':=s7.toks) (it:=HH.objs.size) (fun b o hb e=>(Vr.2 b hb).trans e) I5.free (Ne.symm lC) (.inr (ZV I2.sz fC)) cC fun p hp z=>by
     have e:=(I2.pin p hp).1;exact absurd (ZK (Z5 e) fC) (by rw [z]; exact ay _)
   ·refine wpAny_mono (T.item (A6 X scope cl N s2 H2 HH.objs.size fp) rfl rfl rfl hc i [] s4 K3 H4 (fun _ _=>False) I4 (stat RC) Mw go) (fun r s5 ⟨u,hr,h5⟩=>?_) fun _ _ z=>z.elim
    subst hr;refine wpAny_mono h5 (fun _ s6 ⟨x,H6,I6,r6,y6,M8,Vw⟩=>?_) fun _ _ z=>z.elim
    have VE:=I6.pinned (stat Vw) (T.obj _ _ M8);refine wpAny_mono (hg s6 K3 H6 x u _ VE r6 (step x H6 y6)) (fun _ s7 ⟨FA,H7,I7,q7⟩=>?_) fun _ _ z=>z.elim
    refine wpAny_mono (ht s7 FA H7 _ I7 q7) (fun ok s8 ⟨H8,I8,q8⟩=>?_) fun _ _ z=>z.elim
    have again:∀ {s9:Shared} {K2:St} {H9:Hp} ,Aw (A6 X scope cl N s2 H2 HH.objs.size fp) ([] ++ EG fp s6.heap) K2 H9 s9->(∃ m',m' < n/\W (i + 1) m' K2 H9)->∃ m,m < n/\∃ i A3 H',Aw (A6 X scope cl N s2 H2 HH.objs.size fp) [] A3 H' s9/\tn i s9.heap/\(∀ b ∈ fp,H' b=none)/\W i m A3 H':=fun {s9 K2 H9} I9 n9=>by
     obtain ⟨m',hm,w9⟩:=n9;refine ⟨m',hm,i + 1,K2,H9,I9.unpinned,T.keep _ _ _ M8 fun b hb o e=>(I9.pin (b,o) (ZF _ (ZF _ (B0 hb e)))).1,fun b hb=>?_,w9⟩;obtain ⟨o,e,d⟩:=T.obj _ _ M8 b hb;exact (I9.pin (b,o) (ZF _ (ZF _ (B0 hb e)))).2.1
    cases ok with
    | false=>
     rw [if_neg ZI] at q8 ⊢;exact again I8 q8
    | true=>
     rw [if_pos rfl] at q8 ⊢;refine wpAny_mono (he s8 FA H8 _ I8 q8) (fun y s9 ⟨v,H9,I9,r9,acc,hacc,hsz,q9⟩=>?_) fun _ _ z=>z.elim
     refine wpAny_mono (CH (X:=A6 X scope cl N s2 H2 HH.objs.size fp) s9 FA H9 (.ref s2.heap.objs.size) [v] (.ref s2.heap.objs.size) [y] (fun _ J0=>∃ m',m' < n/\W (i + 1) m' FA J0) I9 rfl (.cons r9 .nil) ⟨_,acc,v,rfl,rfl,hacc,hsz,q9⟩) (fun _ TH ⟨_,J0,VF,_,UO⟩=>?_) fun _ _ z=>z.elim
     exact again VF UO
  ·have z:=(f2 b hb).1;obtain ⟨o,e⟩:=hfo b hb;rw [Ae (ZE (Z5 e))];exact z
 exact codeAny_compStart_list (loop _ rfl) (T.self _ 0 _ _ _ (T.keep _ _ _ Hz fun b hb o e=>old b o e) (loop _ rfl))
theorem Paired.at {α β:Type} {F:α->β->Prop}:∀ {Ro:List α} {Rn:List β},Paired F Ro Rn->∀ {i:Nat} {a:α},Ro[i]? = some a->∃ b,Rn[i]? = some b/\F a b
 | _,_,.nil,i,a,h=>by simp at h
 | _,_,.cons r t,0,a,h=>by
  simp only [au,ZR.injEq] at h;subst h;exact ⟨_,rfl,r⟩
 | _,_,.cons r t,i + 1,a,h=>by
  simp only [br] at h;obtain ⟨b,h1,h2⟩:=Paired.at t h;exact ⟨b,by simpa using h1,h2⟩
theorem OO {P:Program} {w:World} {k:Bm} {u:Value} (h:(AX P w).is k u=true):AG (kV k) u:=by
 rcases Bu (show IU k u=true from h) with ⟨i,t,rfl,rfl⟩ | ⟨x,t,rfl,rfl⟩
 ·exact ⟨t,rfl⟩
 ·exact ⟨t,rfl⟩
def U0 (a:Addr) (kvs:List (Bm × V)) (o:Obj):It:=
 ⟨fun i H=>H a=some (.frz o (.dK kvs))/\i < kvs.length,fun i H x H'=>H'=H/\∃ k v,kvs[i]? = some (k,v)/\x=kV k,fun i H=>H a=some (.frz o (.dK kvs))/\kvs.length<=i⟩
theorem Nh {X:Cx} {pins:List (Addr × Obj)} {σ:St} {H:Hp} {s:Shared} {a:Addr} {o:Obj} {kvs:List (Bm × V)} {es:Array DictEntry} {ep:Nat} (I:Aw X pins σ H s) (e:H a=some (.frz o (.dK kvs))) (he:o.data=.dict es ep) :
  (a == sysModules)=false/\∃ vs,KV kvs vs/\s.heap.DictAt (AX X.prog X.w) a vs ep:=by
 obtain ⟨ho,z,hd,vs,rel,o',Yi,Up,h1,h2,h3,h4⟩:=(show AM X.prog X.w H s.heap a (.frz o (.dK kvs)) from I.hok a _ e)
 rw [ho] at h1;cases h1
 rw [he] at h3;injection h3 with h5 h6;subst h5 h6;exact ⟨hd,vs,rel,o,es,ho,h2,he,h4⟩
theorem O5 {P:Program} {w:World} {K:Z1} {tg:Expr} (a it:Addr) {kvs:List (Bm × V)} {o:Obj} {es:Array DictEntry} {ep:Nat} (he:o.data=.dict es ep) :
  Mr P w K tg (U0 a kvs o) [it] it (fun i h=>h.IsKeyIter it a i kvs.length ep) where
 mem:=by simp
 obj:=fun i h st b hb=>by
  have e:b=it:=by simpa using hb
  subst e;obtain ⟨o,e,c,d⟩:=st;exact ⟨o,e,fun v z=>by rw [d] at z; cases z⟩
 keep:=fun i h h' st k=>st.at fun o e=>k it (by simp) o e
 item:=by
  intro X hP hw hK hc i pins s σ H E I hf st hg;subst hP hw hK;obtain ⟨hq,B5⟩:=hg;obtain ⟨hd,vs,rel,da⟩:=Nh I hq he;have hx:kvs[i]? = some kvs[i]:=by simp [B5]
  obtain ⟨⟨k,v⟩,hv,e1,e2⟩:=Paired.at rel hx;have hl:kvs.length=vs.length:=rel.length;obtain ⟨f0,f1,f2,f3,f4,f5⟩:=hf it (by simp);rw [hl] at st;refine wpAny_pyNext_dict_item st da hv fun key h' hkey AZ sb=>?_
  have I1:Aw X pins σ H { s with heap:=h' }:=I.turned (t':=s.toks) (fun b o hb e=>(sb.2 b hb).trans e) f0 f1 f3 f4 f5;rw [<-hl] at AZ;obtain ⟨o',e,c,d⟩:=id AZ;refine ⟨key,rfl,Kn (s:={ s with heap:=h' }) e c d (by decide) ⟨kV k,H,I1,OO hkey,⟨rfl,k,kvs[i].2,?_,rfl⟩,AZ,fun b hb=>(hf b hb).1⟩⟩;have Ur:kvs[i].1=k:=e1;rw [hx,<-Ur]
 done:=by
  intro X hP hw hK hc i pins s σ H E I hf st hg;subst hP hw hK;obtain ⟨hq,hle⟩:=hg;obtain ⟨hd,vs,rel,da⟩:=Nh I hq he;have hl:kvs.length=vs.length:=rel.length;obtain ⟨f0,f1,f2,f3,f4,f5⟩:=hf it (by simp);rw [hl] at st;exact wpAny_pyNext_dict_end (I.ok.hd hc) st da (by simp; lia) fun h' eb=>⟨rfl,I.turned (t':=s.toks) (fun b o hb e=>eb b o hb e) f0 f1 f3 f4 f5⟩
 self:=fun _ _ _ _ _ st h=>wpAny_pyIter_keyiter st h
def E3 (H:Hp) (a:Addr) (kvs:List (Bm × V)) (o:Obj) (H':Hp):Prop:=(H a=some (.dK kvs)/\H'=upd H a (.frz o (.dK kvs)))\/(H a=some (.frz o (.dK kvs))/\H'=H)
theorem E3.at {H H':Hp} {a:Addr} {kvs:List (Bm × V)} {o:Obj} (f:E3 H a kvs o H'):H' a=some (.frz o (.dK kvs)):=by
 rcases f with ⟨_,rfl⟩ | ⟨e,rfl⟩
 ·exact Ab
 ·exact e
theorem E3.ne {H H':Hp} {a b:Addr} {kvs:List (Bm × V)} {o:Obj} (f:E3 H a kvs o H') (h:b ≠ a):H' b=H b:=by
 rcases f with ⟨_,rfl⟩ | ⟨e,rfl⟩
 ·exact Ae h
 ·rfl
theorem Aw.freeze {X:Cx} {pins:List (Addr × Obj)} {σ:St} {H:Hp} {s:Shared} {a:Addr} {kvs:List (Bm × V)} (I:Aw X pins σ H s) (e:Rd H a (.dK kvs)) :
  ∃ o es ep H',o.data=.dict es ep/\E3 H a kvs o H'/\Aw X pins σ H' s:=by
 rcases e with e | ⟨o,e⟩
 ·obtain ⟨z,hd,vs,rel,o,es,ep,h1,h2,h3,h4⟩:=(show AM X.prog X.w H s.heap a (.dK kvs) from I.hok a _ e)
  exists o,es,ep,upd H a (.frz o (.dK kvs)),h3,.inl ⟨e,rfl⟩;exact I.write (x:=a) (e:=a) (h':=s.heap) (t':=s.toks) (by rw [e]; exact True.intro) (.inl rfl) (fun b u _ q=>q) ⟨o,h1⟩ ⟨h1,z,hd,vs,rel,o,es,ep,h1,h2,h3,h4⟩
 ·obtain ⟨ho,z,hd,vs,rel,o',es,ep,h1,h2,h3,h4⟩:=(show AM X.prog X.w H s.heap a (.frz o (.dK kvs)) from I.hok a _ e)
  rw [ho] at h1;cases h1
  exact ⟨o,es,ep,H,h3,.inr ⟨e,rfl⟩,I⟩
def iDict (tl:TE):TI:=fun σ H R=>tl σ H fun x H1=>∃ a kvs,x=.ref a/\Rd H1 a (.dK kvs)/\∀ o H2,E3 H1 a kvs o H2->R (U0 a kvs o) H2
theorem NW {X:Cx} {tg l:Expr} {tl:TE} (hl:PE X l tl):PI X tg l (iDict tl):=by
 intro pins s σ H R I h;refine Bx (hl (pins:=pins) s σ H _ I h) fun v s1 ⟨x,H1,I1,r1,q1⟩=>?_
 obtain ⟨a,kvs,e,hr,q⟩:=q1;subst e;cases r1
 obtain ⟨o,es,ep,H2,he,fz,I2⟩:=I1.freeze hr;obtain ⟨hd,vs,rel,da⟩:=Nh I2 fz.at he;refine wpAny_pyIter_dict hd da ?_;refine ⟨s1.heap.objs.size,[s1.heap.objs.size],_,_,H2,rfl,I2.kept (t':=s1.toks) fun b o e=>Zz _ e,O5 a _ he,⟨_,Z9 _ rfl,rfl,?_⟩,fun b hb=>?_,q o H2 fz⟩
 ·rw [rel.length]; rfl
 ·have e:b=s1.heap.objs.size:=by simpa using hb
  subst e;exact I2.fpOk (Z4 _) (I2.hok.fresh (Z4 _))
theorem RD {a:Addr} {kvs:List (Bm × V)} {o:Obj} {g:TG} {tb:TS} {D:EV} {σ:St} {H:Hp} (Pv:Nat->St->Hp->Prop) (h0:Pv 0 σ H) (hl:∀ i σ H,i<=kvs.length->Pv i σ H->H a=some (.frz o (.dK kvs)))
  (hs:∀ i k v σ H,kvs[i]? = some (k,v)->Pv i σ H->g (kV k) σ H fun AA H2=>tb { D with nx:=Pv (i + 1),ct:=Pv (i + 1),bk:=D.nx } AA H2) (hd:∀ σ H,Pv kvs.length σ H->D.nx σ H) :
  ∃ W:Nat->Nat->St->Hp->Prop,(∃ m,W 0 m σ H)/\∀ i m σ H,W i m σ H ->
   ((U0 a kvs o).stop i H/\D.nx σ H)\/((U0 a kvs o).go i H/\∃ N:St->Hp->Prop,(∀ A3 H',N A3 H'->∃ m',m' < m/\W (i + 1) m' A3 H')/\∀ x H',(U0 a kvs o).yld i H x H'->g x σ H' fun AA H2=>tb { D with nx:=N,ct:=N,bk:=D.nx } AA H2):=by
 exists fun i m σ H=>m=kvs.length - i/\i<=kvs.length/\Pv i σ H,⟨kvs.length,by simp,ZX _,h0⟩
 rintro i m σ H ⟨rfl,hi,p⟩;have q:=hl i σ H hi p;by_cases B5:i < kvs.length
 ·refine .inr ⟨⟨q,B5⟩,Pv (i + 1),fun A3 H' p'=>⟨kvs.length - (i + 1),by lia,rfl,B5,p'⟩,fun x H' y=>?_⟩;obtain ⟨e,k,v,e1,e2⟩:=y;subst e e2;exact hs i k v σ _ e1 p
 ·have e:i=kvs.length:=by lia
  subst e;exact .inl ⟨⟨q,Z4 _⟩,hd σ H p⟩
section
variable {prog:Program} {w:World} {A:Around} {E:Value->Shared->Prop} {s:Shared}
end
theorem EJ (a:List Nat):¬ a < a:=bW a
section
variable {X:Cx} {pins:List (Addr × Obj)} {σ A3:St} {H H':Hp} {s2 s':Shared} {scope:Scope} {cl:List (Str × Addr)} {N:List Str} {fp:List Addr} {C D:Addr} {By h':Heap} {t':Nat}
theorem Hu {ob:HO} (I:Aw X pins σ H s2) (hf:∀ b ∈ fp,EU X pins H b) (hfo:∀ b ∈ fp,∃ o,s2.heap.get? b=some o) (co:AJ X scope cl) (hσ:Bj X cl scope N σ A3)
  (k:∀ b o,s2.heap.get? b=some o->By.get? b=some o) (hD:s2.heap.objs.size<=D) (hC:s2.heap.objs.size<=C) (hDC:C ≠ D)
  (newO:AM X.prog X.w (upd H D ob) By D ob) {m:Str->Option Value} (hn:By.Ns C m) :
  Aw (A6 X scope cl N s2 H C fp) [] A3 (upd H D ob) { s2 with heap:=By,toks:=t' }:=by
 have fD:H D=none:=I.hok.fresh hD;have fC:H C=none:=I.hok.fresh hC;have lts:∀ b ∈ fp,b < s2.heap.objs.size:=fun b hb=>let ⟨_,e⟩:=hfo b hb; Z5 e
 have cells_lt:∀ x c,cl.lookup x=some c->c < s2.heap.objs.size:=fun x c e=>by
  obtain ⟨v,q⟩:=I.cell x c (co.sub x c e);exact q.lt
 have ok:Cx.Ok (A6 X scope cl N s2 H C fp):=by
  refine ⟨I.ok.mod,?_,I.ok.glob,I.ok.blt,hC,?_,?_,?_,I.ok.hd,I.ok.frames,.inl rfl,?_,I.bs,ZV I.ok.bsz I.sz,?_,?_,I.stack,I.stkFree⟩
  ·exact co.kind
  ·exact fun x y c e1 e2=>I.ok.inj x y c (co.sub x c e1) (co.sub y c e2)
  ·exact fun x h=>co.has x h
  ·exact fun x c h _=>by cases h
  ·intro b hb;refine ⟨fun e=>?_,fun x c e=>(hf b hb).2.2.2.2.1 x c (co.sub x c e)⟩;have z:=lts b hb;exact absurd (ZK z hC) (by rw [show b=C from e]; exact ay _)
  ·intro b o e hb;have Ia:b ∈ fp:=hb;rcases (hf b Ia).2.2.2.1 with z | z
   ·exact I.ok.noex b o e z
   ·exact absurd (ZK (Z5 e) (ZV I.ok.bsz z)) (ay _)
  ·intro b hb hz;have Ia:b ∈ fp:=hb;obtain ⟨_,f1,f2,_⟩:=hf b Ia;rcases Z3.mp (I.stkSub b hz) with e | e
   ·exact f1 e
   ·exact f2 e
 refine ⟨ok,rfl,I.bare,Un.laid k hD fD,?_,?_,?_,?_,?_,I.hok.laid k hD newO,hσ.1⟩
 ·refine ⟨m,hn,fun i x v e1 e2 _=>?_⟩;obtain ⟨⟨j,j1,j2⟩,kk,kr⟩:=hσ.2 i x v e1 e2;obtain ⟨mo,_,hl⟩:=I.loc;obtain ⟨u,r,l⟩:=hl j x v j1 j2 (by
   rcases kk with z | z
   ·exact .inr (.inl z)
   ·exact .inr (.inr z))
  refine ⟨u,r,.inr ⟨kr,?_⟩⟩;obtain ⟨c,hc⟩:=co.has x kr;rcases l with ⟨z,_⟩ | ⟨_,c',Kl,hcell⟩
  ·rcases kk with q | q
   ·rw [z] at q; cases q
   ·rw [z] at q; cases q
  ·have e3:=co.sub x c hc;rw [Kl] at e3;have e4:c'=c:=ZR.inj e3;subst e4;obtain ⟨o,ho,hd⟩:=hcell;exact ⟨c',hc,o,k _ o ho,hd⟩
 ·intro x c e;obtain ⟨v,o,ho,hd⟩:=I.cell x c (co.sub x c e);exact ⟨v,o,k _ o ho,hd⟩
 ·show upd H D ob C=none
  rw [Ae hDC];exact fC
 ·intro x c e;rw [Ae (ZE (ZK (cells_lt x c e) hD))];exact I.freeC x c (co.sub x c e)
 ·intro p hp;cases hp
end
section
variable {prog:Program} {w:World} {A:Around} {R:Result->Shared->Prop} {s:Shared}
theorem CC {kx vx target iter:Expr} {ifs:List Expr} {scope:Scope} {pos:Pos} {it:Value} {D:Addr} {env:Env} (I:Nat->Shared->Prop)
  (turn:∀ n s,I n s->wpAny (model prog w) A (pyNext it) (fun r AU=>match r with
   | none=>R (.ok .next) AU
   | some v=>wpAny (model prog w) A (letOwnedTupleGo target it v) (fun _ Lz=>wpAny (model prog w) A (assign target env v) (fun _ E9=>
     wpAny (model prog w) A (forIn ifs true fun c r=>if r=true then do let ok <- isTrue c env (eval c env); pure (ForInStep.yield ok) else pure (ForInStep.yield r)) (fun ok CL=>
      if ok=true then wpAny (model prog w) A (eval kx env) (fun kv Qu=>wpAny (model prog w) A (eval vx env) (fun vv Qt=>
       wpAny (model prog w) A (dictSet D kv vv) (fun _ Wh=>∃ m,m < n/\I m Wh) (notedBy (model prog w) A env fun e s'=>R (.error e) s') Qt) (notedBy (model prog w) A env fun e s'=>R (.error e) s') Qu) (notedBy (model prog w) A env fun e s'=>R (.error e) s') CL
      else ∃ m,m < n/\I m CL) (notedBy (model prog w) A env fun e s'=>R (.error e) s') E9) (notedBy (model prog w) A env fun e s'=>R (.error e) s') Lz) (notedBy (model prog w) A env fun e s'=>R (.error e) s') AU) (notedBy (model prog w) A env fun e s'=>R (.error e) s') s)
  (n:Nat) (h:I n s) :
  codeAny (model prog w) A (.compLoop (.DictComp kx vx [⟨target,iter,ifs,0⟩] scope pos) 0 it (.ref D) env) R s:=by
 refine codeAny_loop rfl I (fun n s hI=>?_) n h;show wpAny _ A ((compTurn (.DictComp kx vx [⟨target,iter,ifs,0⟩] scope pos) 0 it (.ref D) env).onRaise (fun x=>do noteFrame x env; theTreesLotGoes x)) _ _ s
 refine wpAny_noted ?_;rw [compTurn_dict];refine wpAny_bind (wpAny_standAt (wpAny_bind (wpAny_mono (turn n s hI) (fun r AU By=>?_) fun _ _ h'=>h')));cases r with
 | none=>exact wpAny_pure By
 | some v=>
  refine wpAny_bind (wpAny_mono By (fun _ Lz Ry=>?_) fun _ _ h'=>h');refine wpAny_bind (wpAny_mono Ry (fun _ E9 G5=>wpAny_bind (wpAny_mono G5 (fun ok CL HJ=>?_) fun _ _ h'=>h')) fun _ _ h'=>h');cases ok with
  | false=>exact wpAny_pure ⟨rfl,HJ⟩
  | true=>
   exact wpAny_bind (wpAny_bind (wpAny_mono HJ (fun kv Qu MZ=>wpAny_bind (wpAny_holding (wpAny_mono MZ (fun vv Qt Dg=>wpAny_bind (wpAny_standAt (wpAny_holding (wpAny_mono Dg (fun _ Wh YI=>wpAny_pure ⟨rfl,YI⟩) fun _ _ h'=>h')))) fun _ _ h'=>h'))) fun _ _ h'=>h'))
end
theorem Ks {X:Cx} {pins:List (Addr × Obj)} {σ:St} {H:Hp} {s:Shared} {a:Addr} {k:Bm} {v:V} {u r:Value} {kvs:List (Bm × V)} {A:Around} {E:Value->Shared->Prop} {Q:Unit->Shared->Prop} (I:Aw X pins σ H s) (e:H a=some (.dK kvs)) (l:kvs.length < sizeLine) (ry:AG (kV k) u) (rv:AG v r)
  (h:∀ s',Aw X pins σ (upd H a (.dK (BG kvs k v))) s'->Q () s'):wpAny (model X.prog X.w) A (dictSet a u r) Q E s:=by
 obtain ⟨z,hd,vs,rel,dd⟩:=RH I.hok e;have hz:vs.length<=sizeLine:=by rw [<-rel.length]; exact z
 have hl:(BG kvs k v).length<=sizeLine:=by have:=CM kvs k v; lia
 refine wpAny_dictSet_pairs (hsz:=hz) (Hq ry) dd fun h' Mx hs=>h _ ?_
 have he:∃ q,h'.get? a=some q:=let ⟨q,_,_,hq,_⟩:=Mx; ⟨q,hq⟩;exact Ib I (by rw [e]; exact True.intro) hs he (Lh hl hd (rel.put k rv) Mx)
def Qr (wi:TI) (g:TG) (tt:TT) (tk tv:TE) (σ0:St->St):TE:=fun σ H Q=>wi σ H fun J H1=>∀ D,H1 D=none->∃ W:Nat->Nat->St->Hp->Prop,(∃ m,W 0 m (σ0 σ) (upd H1 D (.dK []))) /\
 ∀ i m A3 H',W i m A3 H'->(J.stop i H'/\Q (.ref D) H')\/(J.go i H'/\∀ x H2,J.yld i H' x H2->g x A3 H2 fun AA H3=>tt AA H3 fun b H4=>
  if b=true then tk AA H4 (fun y H5=>tv AA H5 fun v H6=>∃ kvs k,y=kV k/\H6 D=some (.dK kvs)/\kvs.length < sizeLine/\∃ m',m' < m/\W (i + 1) m' AA (upd H6 D (.dK (BG kvs k v)))) else ∃ m',m' < m/\W (i + 1) m' AA H4)
theorem ID {X:Cx} {tg iter kx vx:Expr} {ifs:List Expr} {scope:Scope} {cl:List (Str × Addr)} {N:List Str} {pos:Pos} {wi:TI} {g:TG} {tt:TT} {tk tv:TE} {σ0:St->St} (hc:X.calm=true) (co:AJ X scope cl)
  (hσ:∀ σ,σ.length=X.N.length->Bj X cl scope N σ (σ0 σ)) (hi:PI X tg iter wi)
  (hb:∀ s2 H C fp,PG (A6 X scope cl N s2 H C fp) tg g/\Wc (A6 X scope cl N s2 H C fp) ifs tt/\PE (A6 X scope cl N s2 H C fp) kx tk/\PE (A6 X scope cl N s2 H C fp) vx tv)
  (hs:∀ x,foldedSetIterable iter X.env x=pure x:=by intro _; rfl):PE X (.DictComp kx vx [⟨tg,iter,ifs,0⟩] scope pos) (Qr wi g tt tk tv σ0):=by
 intro pins s σ H Q I h;rw [arm_eval_DictComp];refine wpAny_comprehension_free (use:=none) rfl hs co.clos co.kind co.names (wpAny_mono (hi (pins:=pins) s σ H _ I h) (fun xv s1 h1=>wpAny_mono h1 (fun itv s2 h2=>?_) fun _ _ e=>e) fun _ _ e=>e);obtain ⟨it,fp,tn,J,H2,rfl,I2,T,Hz,f2,hW⟩:=h2;refine wpAny_newObj_type (wpAny_newFunctionEnv co.cell (by intro y hy; cases hy) (fun By Cs BC=>?_) co.kind);dsimp only at Cs BC ⊢;generalize Nd:s2.heap.push { cls:=.type "dict",dict:=none,data:=.dict #[] } = HH at Cs BC ⊢;have CI:HH.objs.size=s2.heap.objs.size + 1:=by rw [<-Nd,ae]
 have old:∀ b o,s2.heap.get? b=some o->By.get? b=some o:=fun b o e=>
  BC.extBut b o (ZE (by rw [CI]; exact aa (Z5 e))) (Zz _ (Nd ▸ Zz _ e))
 have newD:AM X.prog X.w (upd H2 s2.heap.objs.size (.dK [])) By s2.heap.objs.size (.dK []):=
  let ⟨z,hd,vs,rel,o,es,ep,ho,r⟩:=Jj (P:=X.prog) (w:=X.w) (H:=upd H2 s2.heap.objs.size (.dK [])) s2.heap I2.big
  ⟨z,hd,vs,rel,o,es,ep,BC.extBut _ _ (ZE (by rw [CI]; exact ak _)) (Zz _ (Nd ▸ ho)),r⟩
 obtain ⟨W,⟨m0,w0⟩,turn⟩:=hW s2.heap.objs.size I2.fresh;have hfo:∀ b ∈ fp,∃ o,s2.heap.get? b=some o:=fun b hb=>let ⟨o,e,_⟩:=T.obj _ _ Hz b hb; ⟨o,e⟩
 have I3:Aw (A6 X scope cl N s2 H2 HH.objs.size fp) [] (σ0 σ) (upd H2 s2.heap.objs.size (.dK [])) { s2 with heap:=By,toks:=s2.toks + ([]:List (Str × Value)).length }:=
  Hu I2 f2 hfo co (hσ σ I.len) old (Z4 _) (by rw [CI]; exact ZZ _) (aD (by rw [CI]; exact ak _)) newD Cs
 have fC:s2.heap.objs.size<=HH.objs.size:=by rw [CI]; exact ZZ _
 obtain ⟨hg,ht,hk,hv⟩:=hb s2 H2 HH.objs.size fp;have loop:∀ CL:Shared,CL = { s2 with heap:=By,toks:=s2.toks + ([]:List (Str × Value)).length } ->
   codeAny (model X.prog X.w) X.A (.compLoop (.DictComp kx vx [⟨tg,iter,ifs,0⟩] scope pos) 0 (.ref it) (.ref s2.heap.objs.size) (compEnvC scope cl HH.objs.size X.env))
    (compPost (model X.prog X.w) X.A X.xe none (EP X pins σ Q) (.ref s2.heap.objs.size) HH.objs.size) CL:=by
  rintro CL rfl;have stat:∀ {H':Hp} ,(∀ b ∈ fp,H' b=none)->∀ b ∈ fp,EU (A6 X scope cl N s2 H2 HH.objs.size fp) [] H' b:=fun hn b hb=>by
   refine ⟨hn b hb,?_,?_,.inl hb,?_,fun p hp=>by cases hp⟩
   ·obtain ⟨o,e⟩:=hfo b hb;exact ZE (show b < HH.objs.size by rw [CI]; exact aa (Z5 e))
   ·intro hz;obtain ⟨_,q1,q2,_⟩:=f2 b hb;rcases Z3.mp (I2.stkSub b hz) with e | e
    ·exact q1 e
    ·exact q2 e
   ·exact fun x c e=>(f2 b hb).2.2.2.2.1 x c (co.sub x c e)
  refine CC (fun n s'=>∃ i A3 H',Aw (A6 X scope cl N s2 H2 HH.objs.size fp) [] A3 H' s'/\tn i s'.heap/\(∀ b ∈ fp,H' b=none)/\W i n A3 H') ?_ m0
   ⟨0,σ0 σ,_,I3,T.keep _ _ _ Hz fun b hb o e=>old b o e,fun b hb=>?_,w0⟩
  ·rintro n s4 ⟨i,K3,H4,I4,Mw,RC,w4⟩;rcases turn i n K3 H4 w4 with ⟨stop,qn⟩ | ⟨go,step⟩
   ·refine wpAny_mono (T.done (A6 X scope cl N s2 H2 HH.objs.size fp) rfl rfl rfl hc i [] s4 K3 H4 (fun _ _=>False) I4 (stat RC) Mw stop) (fun r s5 ⟨hr,I5⟩=>?_) fun _ _ z=>z.elim
    subst hr;obtain ⟨m5,Vs,_⟩:=id I5.loc;exact ⟨m5,Vs,fun h' Vr=>⟨.ref _,H4,FZ I2 f2 fC I5 Vr,rfl,qn⟩⟩
   ·refine wpAny_mono (T.item (A6 X scope cl N s2 H2 HH.objs.size fp) rfl rfl rfl hc i [] s4 K3 H4 (fun _ _=>False) I4 (stat RC) Mw go) (fun r s5 ⟨u,hr,h5⟩=>?_) fun _ _ z=>z.elim
    subst hr;refine wpAny_mono h5 (fun _ s6 ⟨x,H6,I6,r6,y6,M8,Vw⟩=>?_) fun _ _ z=>z.elim
    have VE:=I6.pinned (stat Vw) (T.obj _ _ M8);refine wpAny_mono (hg s6 K3 H6 x u _ VE r6 (step x H6 y6)) (fun _ s7 ⟨FA,H7,I7,q7⟩=>?_) fun _ _ z=>z.elim
    refine wpAny_mono (ht s7 FA H7 _ I7 q7) (fun ok s8 ⟨H8,I8,q8⟩=>?_) fun _ _ z=>z.elim
    have again:∀ {s9:Shared} {K2:St} {H9:Hp} ,Aw (A6 X scope cl N s2 H2 HH.objs.size fp) ([] ++ EG fp s6.heap) K2 H9 s9->(∃ m',m' < n/\W (i + 1) m' K2 H9)->∃ m,m < n/\∃ i A3 H',Aw (A6 X scope cl N s2 H2 HH.objs.size fp) [] A3 H' s9/\tn i s9.heap/\(∀ b ∈ fp,H' b=none)/\W i m A3 H':=fun {s9 K2 H9} I9 n9=>by
     obtain ⟨m',hm,w9⟩:=n9;refine ⟨m',hm,i + 1,K2,H9,I9.unpinned,T.keep _ _ _ M8 fun b hb o e=>(I9.pin (b,o) (ZF _ (ZF _ (B0 hb e)))).1,fun b hb=>?_,w9⟩;obtain ⟨o,e,d⟩:=T.obj _ _ M8 b hb;exact (I9.pin (b,o) (ZF _ (ZF _ (B0 hb e)))).2.1
    cases ok with
    | false=>
     rw [if_neg ZI] at q8 ⊢;exact again I8 q8
    | true=>
     rw [if_pos rfl] at q8 ⊢;refine wpAny_mono (hk s8 FA H8 _ I8 q8) (fun yk s9 ⟨k,H9,I9,r9,q9⟩=>?_) fun _ _ z=>z.elim
     refine wpAny_mono (hv s9 FA H9 _ I9 q9) (fun yv TH ⟨v,J0,VF,Y4,kvs,key,ek,hacc,hsz,UO⟩=>?_) fun _ _ z=>z.elim
     subst ek;exact Ks (X:=A6 X scope cl N s2 H2 HH.objs.size fp) VF hacc hsz r9 Y4 fun s11 Zx=>again Zx UO
  ·have z:=(f2 b hb).1;obtain ⟨o,e⟩:=hfo b hb;rw [Ae (ZE (Z5 e))];exact z
 exact codeAny_compStart_dict (loop _ rfl) (T.self _ 0 _ _ _ (T.keep _ _ _ Hz fun b hb o e=>old b o e) (loop _ rfl))
theorem QQ {X:Cx} {ix:Nat} {x:Str} {px spos:Pos} {tg iter kx vx:Expr} {ifs:List Expr} {scope:Scope} {cl:List (Str × Addr)} {N:List Str} {pos:Pos} {wi:TI} {g:TG} {tt:TT} {tk tv:TE} {σ0:St->St} (hN:X.N.Nodup) (hix:X.N[ix]? = some x) (hlx:Wd X.env.scope x) (hc:X.calm=true) (co:AJ X scope cl)
  (hσ:∀ σ,σ.length=X.N.length->Bj X cl scope N σ (σ0 σ)) (hi:PI X tg iter wi)
  (hb:∀ s2 H C fp,PG (A6 X scope cl N s2 H C fp) tg g/\Wc (A6 X scope cl N s2 H C fp) ifs tt/\PE (A6 X scope cl N s2 H C fp) kx tk/\PE (A6 X scope cl N s2 H C fp) vx tv)
  (hsw:swapsWith (.DictComp kx vx [⟨tg,iter,ifs,0⟩] scope pos) (some (.Name x px)) spos.line X.env=pure true:=by rfl)
  (hs:∀ x,foldedSetIterable iter X.env x=pure x:=by intro _; rfl) (hf:X.fn x=true\/X.env.scope.names.lookup x=some .local:=by first | exact .inl rfl | exact .inr rfl | assumption) :
  PS X (.Assign [.Name x px] (.DictComp kx vx [⟨tg,iter,ifs,0⟩] scope pos) spos) (Sh (Qr wi g tt tk tv σ0) (Mh ix)):=by
 intro pins s σ H DD I h;rw [exec_Assign_Name_used _ _ _ _ hsw];refine wpAny_bind (wpAny_standAt (wpAny_bind ?_));show wpAny _ X.A (do let _ <- comprehension (.DictComp kx vx [⟨tg,iter,ifs,0⟩] scope pos) scope X.env _ newDict false (eval iter X.env) (some (assign (.Name x px) X.env))) _ _ s
 refine wpAny_bind (wpAny_mono (wpAny_comprehension_free (use:=some (assign (.Name x px) X.env)) (Q:=fun _ s'=>SP X pins DD .next s') rfl hs co.clos co.kind co.names
  (wpAny_mono (hi (pins:=pins) s σ H _ I h) (fun xv s1 h1=>wpAny_mono h1 (fun itv s2 h2=>?_) fun _ _ e=>e) fun _ _ e=>e)) (fun _ s' hq=>wpAny_pure (wpAny_pure hq)) fun _ _ e=>e)
 obtain ⟨it,fp,tn,J,H2,rfl,I2,T,Hz,f2,hW⟩:=h2;refine wpAny_newObj_type (wpAny_newFunctionEnv co.cell (by intro y hy; cases hy) (fun By Cs BC=>?_) co.kind);dsimp only at Cs BC ⊢;generalize Nd:s2.heap.push { cls:=.type "dict",dict:=none,data:=.dict #[] } = HH at Cs BC ⊢;have CI:HH.objs.size=s2.heap.objs.size + 1:=by rw [<-Nd,ae]
 have old:∀ b o,s2.heap.get? b=some o->By.get? b=some o:=fun b o e=>
  BC.extBut b o (ZE (by rw [CI]; exact aa (Z5 e))) (Zz _ (Nd ▸ Zz _ e))
 have newD:AM X.prog X.w (upd H2 s2.heap.objs.size (.dK [])) By s2.heap.objs.size (.dK []):=
  let ⟨z,hd,vs,rel,o,es,ep,ho,r⟩:=Jj (P:=X.prog) (w:=X.w) (H:=upd H2 s2.heap.objs.size (.dK [])) s2.heap I2.big
  ⟨z,hd,vs,rel,o,es,ep,BC.extBut _ _ (ZE (by rw [CI]; exact ak _)) (Zz _ (Nd ▸ ho)),r⟩
 obtain ⟨W,⟨m0,w0⟩,turn⟩:=hW s2.heap.objs.size I2.fresh;have hfo:∀ b ∈ fp,∃ o,s2.heap.get? b=some o:=fun b hb=>let ⟨o,e,_⟩:=T.obj _ _ Hz b hb; ⟨o,e⟩
 have I3:Aw (A6 X scope cl N s2 H2 HH.objs.size fp) [] (σ0 σ) (upd H2 s2.heap.objs.size (.dK [])) { s2 with heap:=By,toks:=s2.toks + ([]:List (Str × Value)).length }:=
  Hu I2 f2 hfo co (hσ σ I.len) old (Z4 _) (by rw [CI]; exact ZZ _) (aD (by rw [CI]; exact ak _)) newD Cs
 have fC:s2.heap.objs.size<=HH.objs.size:=by rw [CI]; exact ZZ _
 obtain ⟨hg,ht,hk,hv⟩:=hb s2 H2 HH.objs.size fp;have loop:∀ CL:Shared,CL = { s2 with heap:=By,toks:=s2.toks + ([]:List (Str × Value)).length } ->
   codeAny (model X.prog X.w) X.A (.compLoop (.DictComp kx vx [⟨tg,iter,ifs,0⟩] scope pos) 0 (.ref it) (.ref s2.heap.objs.size) (compEnvC scope cl HH.objs.size X.env))
    (compPost (model X.prog X.w) X.A X.xe (some (assign (.Name x px) X.env)) (fun _ s'=>SP X pins DD .next s') (.ref s2.heap.objs.size) HH.objs.size) CL:=by
  rintro CL rfl;have stat:∀ {H':Hp} ,(∀ b ∈ fp,H' b=none)->∀ b ∈ fp,EU (A6 X scope cl N s2 H2 HH.objs.size fp) [] H' b:=fun hn b hb=>by
   refine ⟨hn b hb,?_,?_,.inl hb,?_,fun p hp=>by cases hp⟩
   ·obtain ⟨o,e⟩:=hfo b hb;exact ZE (show b < HH.objs.size by rw [CI]; exact aa (Z5 e))
   ·intro hz;obtain ⟨_,q1,q2,_⟩:=f2 b hb;rcases Z3.mp (I2.stkSub b hz) with e | e
    ·exact q1 e
    ·exact q2 e
   ·exact fun x c e=>(f2 b hb).2.2.2.2.1 x c (co.sub x c e)
  refine CC (fun n s'=>∃ i A3 H',Aw (A6 X scope cl N s2 H2 HH.objs.size fp) [] A3 H' s'/\tn i s'.heap/\(∀ b ∈ fp,H' b=none)/\W i n A3 H') ?_ m0
   ⟨0,σ0 σ,_,I3,T.keep _ _ _ Hz fun b hb o e=>old b o e,fun b hb=>?_,w0⟩
  ·rintro n s4 ⟨i,K3,H4,I4,Mw,RC,w4⟩;rcases turn i n K3 H4 w4 with ⟨stop,qn⟩ | ⟨go,step⟩
   ·refine wpAny_mono (T.done (A6 X scope cl N s2 H2 HH.objs.size fp) rfl rfl rfl hc i [] s4 K3 H4 (fun _ _=>False) I4 (stat RC) Mw stop) (fun r s5 ⟨hr,I5⟩=>?_) fun _ _ z=>z.elim
    subst hr;obtain ⟨m5,Vs,_⟩:=id I5.loc;have I6:Aw X pins σ H4 s5:=FZ (h':=s5.heap) I2 f2 fC I5 (Heap.SameBut.refl _ _);have cC:∀ y c,X.env.cells.lookup y=some c->c ≠ HH.objs.size:=fun y c e=>by
     obtain ⟨v,q⟩:=I2.cell y c e;exact ZE (ZK q.lt fC)
    have lC:X.env.locals ≠ HH.objs.size:=ZE (ZK I2.lt fC);show wpAny _ X.A (assign (.Name x px) X.env (.ref s2.heap.objs.size)) _ X.xe s5
    refine wpAny_assign_Name (Gm I6 hN hix hlx (v:=.ref s2.heap.objs.size) rfl (fun s7 I7 ⟨a,sb,ha⟩=>?_) hf);have aC:a ≠ HH.objs.size:=by
     rcases ha with rfl | ha
     ·exact lC
     ·exact cC _ _ ha
    refine ⟨m5,Vs.sameBut sb (Ne.symm aC),fun h' Vr=>⟨_,H4,?_,qn⟩⟩;exact I7.turned (t':=s7.toks) (it:=HH.objs.size) (fun b o hb e=>(Vr.2 b hb).trans e) I5.free (Ne.symm lC) (.inr (ZV I2.sz fC)) cC fun p hp z=>by
     have e:=(I2.pin p hp).1;exact absurd (ZK (Z5 e) fC) (by rw [z]; exact ay _)
   ·refine wpAny_mono (T.item (A6 X scope cl N s2 H2 HH.objs.size fp) rfl rfl rfl hc i [] s4 K3 H4 (fun _ _=>False) I4 (stat RC) Mw go) (fun r s5 ⟨u,hr,h5⟩=>?_) fun _ _ z=>z.elim
    subst hr;refine wpAny_mono h5 (fun _ s6 ⟨x,H6,I6,r6,y6,M8,Vw⟩=>?_) fun _ _ z=>z.elim
    have VE:=I6.pinned (stat Vw) (T.obj _ _ M8);refine wpAny_mono (hg s6 K3 H6 x u _ VE r6 (step x H6 y6)) (fun _ s7 ⟨FA,H7,I7,q7⟩=>?_) fun _ _ z=>z.elim
    refine wpAny_mono (ht s7 FA H7 _ I7 q7) (fun ok s8 ⟨H8,I8,q8⟩=>?_) fun _ _ z=>z.elim
    have again:∀ {s9:Shared} {K2:St} {H9:Hp} ,Aw (A6 X scope cl N s2 H2 HH.objs.size fp) ([] ++ EG fp s6.heap) K2 H9 s9->(∃ m',m' < n/\W (i + 1) m' K2 H9)->∃ m,m < n/\∃ i A3 H',Aw (A6 X scope cl N s2 H2 HH.objs.size fp) [] A3 H' s9/\tn i s9.heap/\(∀ b ∈ fp,H' b=none)/\W i m A3 H':=fun {s9 K2 H9} I9 n9=>by
     obtain ⟨m',hm,w9⟩:=n9;refine ⟨m',hm,i + 1,K2,H9,I9.unpinned,T.keep _ _ _ M8 fun b hb o e=>(I9.pin (b,o) (ZF _ (ZF _ (B0 hb e)))).1,fun b hb=>?_,w9⟩;obtain ⟨o,e,d⟩:=T.obj _ _ M8 b hb;exact (I9.pin (b,o) (ZF _ (ZF _ (B0 hb e)))).2.1
    cases ok with
    | false=>
     rw [if_neg ZI] at q8 ⊢;exact again I8 q8
    | true=>
     rw [if_pos rfl] at q8 ⊢;refine wpAny_mono (hk s8 FA H8 _ I8 q8) (fun yk s9 ⟨k,H9,I9,r9,q9⟩=>?_) fun _ _ z=>z.elim
     refine wpAny_mono (hv s9 FA H9 _ I9 q9) (fun yv TH ⟨v,J0,VF,Y4,kvs,key,ek,hacc,hsz,UO⟩=>?_) fun _ _ z=>z.elim
     subst ek;exact Ks (X:=A6 X scope cl N s2 H2 HH.objs.size fp) VF hacc hsz r9 Y4 fun s11 Zx=>again Zx UO
  ·have z:=(f2 b hb).1;obtain ⟨o,e⟩:=hfo b hb;rw [Ae (ZE (Z5 e))];exact z
 exact codeAny_compStart_dict (loop _ rfl) (T.self _ 0 _ _ _ (T.keep _ _ _ Hz fun b hb o e=>old b o e) (loop _ rfl))
theorem KI (p x:Str) (r:List Str):risingS p (x :: r)=(!ltCps x.cps.toList p.cps.toList && risingS x r):=rfl
theorem Kc:∀ (p:Str) (l:List Str),risingS p l=true->(p :: l).Pairwise fun a b=>¬ b.cps.toList < a.cps.toList
 | p,[],_=>cY _ _
 | p,x :: r,h=>by
  rw [KI,af,ltCps_eq] at h;have h1:¬ x.cps.toList < p.cps.toList:=by simpa using h.1
  have h2:=Kc x r h.2;refine aM.mpr ⟨fun y hy=>?_,h2⟩;rcases Z3.mp hy with rfl | hy
  ·exact h1
  ·have h3:=(aM.mp h2).1 y hy;have a:p.cps.toList<=x.cps.toList:=bu.mp h1;have b:x.cps.toList<=y.cps.toList:=bu.mp h3;exact bu.mpr (eW a b)
theorem Gq {l:List Str} (h:sortedS l=true):l.Pairwise fun a b=>¬ b.cps.toList < a.cps.toList:=by
 cases l with
 | nil=>exact .nil
 | cons p l=>exact Kc p l h
theorem Dr {a b:Str} (h1:¬ b.cps.toList < a.cps.toList) (h2:¬ a.cps.toList < b.cps.toList):a=b:=by
 have e:a.cps.toList=b.cps.toList:=List.le_antisymm (bu.mp h1) (bu.mp h2);cases a; cases b
 simp only [Str.mk.injEq];exact cI.mp e
theorem JY {l m:List Str} (hl:l.Pairwise fun a b=>¬ b.cps.toList < a.cps.toList) (hm:m.Pairwise fun a b=>¬ b.cps.toList < a.cps.toList) (p:l.Perm m):l=m:=
 List.Perm.eq_of_pairwise (fun a b _ _ h1 h2=>Dr h1 h2) hl hm p
theorem LN {l m:List Str} (hl:l.Nodup) (hm:m.Nodup) (h:∀ x,x ∈ l ↔ x ∈ m):l.Perm m:=(List.perm_ext_iff_of_nodup hl hm).mpr h
def Lr (ws:List AI) (x y:Str):Prop:=∃ u ∈ ws,(u.1=x/\u.2.1=y)\/(u.1=y/\u.2.1=x)
theorem Lr.symm {ws:List AI} {x y:Str} (h:Lr ws x y):Lr ws y x:=let ⟨u,hu,h⟩:=h; ⟨u,hu,h.symm⟩
theorem CG (u:AI):(Er u).1=u.1/\(Er u).2.1=u.2.1\/(Er u).1=u.2.1/\(Er u).2.1=u.1:=by
 unfold Er Cb Cc;by_cases h:u.2.1.cps.toList < u.1.cps.toList
 ·have h':¬ u.1.cps.toList < u.2.1.cps.toList:=bA h;rw [if_pos h,if_neg h'];exact .inr ⟨rfl,rfl⟩
 ·rw [if_neg h];by_cases h':u.1.cps.toList < u.2.1.cps.toList
  ·rw [if_pos h']; exact .inl ⟨rfl,rfl⟩
  ·rw [if_neg h'];have e:u.1=u.2.1:=Dr h h';exact .inl ⟨rfl,e⟩
theorem RM {ws GK:List AI} (p:GK.Perm (ws.map Er)) (x y:Str):Lr GK x y ↔ Lr ws x y:=by
 constructor
 ·rintro ⟨u,hu,h⟩;obtain ⟨v,hv,rfl⟩:=ZD.mp (p.mem_iff.mp hu);exists v,hv;rcases CG v with ⟨e1,e2⟩ | ⟨e1,e2⟩
  ·rw [e1,e2] at h; exact h
  ·rw [e1,e2] at h;rcases h with ⟨a,b⟩ | ⟨a,b⟩
   ·exact .inr ⟨b,a⟩
   ·exact .inl ⟨b,a⟩
 ·rintro ⟨v,hv,h⟩;exists Er v,p.mem_iff.mpr (ZD.mpr ⟨v,hv,rfl⟩);rcases CG v with ⟨e1,e2⟩ | ⟨e1,e2⟩
  ·rw [e1,e2]; exact h
  ·rw [e1,e2];rcases h with ⟨a,b⟩ | ⟨a,b⟩
   ·exact .inr ⟨b,a⟩
   ·exact .inl ⟨b,a⟩
theorem Pz {xs:List Str} {ws GK:List AI} (p:GK.Perm (ws.map Er)) (h:∀ u ∈ ws,u.1 ∈ xs/\u.2.1 ∈ xs):∀ u ∈ GK,u.1 ∈ xs/\u.2.1 ∈ xs:=fun u hu=>by
 obtain ⟨v,hv,rfl⟩:=ZD.mp (p.mem_iff.mp hu);obtain ⟨a,b⟩:=h v hv;rcases CG v with ⟨e1,e2⟩ | ⟨e1,e2⟩ <;> rw [e1,e2]
 ·exact ⟨a,b⟩
 ·exact ⟨b,a⟩
def Ln (xs:List Str) (ws:List AI):Prop:=∀ j,0 < j->j < xs.length->∃ u ∈ ws,∃ i:Nat,i < j/\xs[i]? = some u.1/\xs[j]? = some u.2.1
theorem Ln.all {xs:List Str} {ws:List AI} (h:Ln xs ws) (S:Str->Prop) (cl:∀ x y,Lr ws x y->S x->S y) {r:Str} (hr:r ∈ xs) (sr:S r):∀ x ∈ xs,S x:=by
 have down:∀ n (i:Nat),i<=n->∀ x,xs[i]? = some x->S x->∀ x0,xs[0]? = some x0->S x0:=by
  intro n;induction n with
  | zero=>
   intro i hi x e s x0 e0;have:i=0:=by lia
   subst this;rw [e] at e0; cases e0; exact s
  | succ n ih=>
   intro i hi x e s x0 e0;by_cases hz:i=0
   ·subst hz;rw [e] at e0; cases e0; exact s
   ·obtain ⟨u,hu,k,hk,e1,e2⟩:=h i (by lia) (ZA.mp e).1;rw [e] at e2; cases e2;exact ih k (by lia) u.1 e1 (cl _ _ ⟨u,hu,.inr ⟨rfl,rfl⟩⟩ s) x0 e0
 have up:∀ x0,xs[0]? = some x0->S x0->∀ n (i:Nat),i<=n->∀ x,xs[i]? = some x->S x:=by
  intro x0 e0 s0 n;induction n with
  | zero=>
   intro i hi x e;have:i=0:=by lia
   subst this;rw [e0] at e; cases e; exact s0
  | succ n ih=>
   intro i hi x e;by_cases hz:i=0
   ·subst hz;rw [e0] at e; cases e; exact s0
   ·obtain ⟨u,hu,k,hk,e1,e2⟩:=h i (by lia) (ZA.mp e).1;rw [e] at e2; cases e2;exact cl _ _ ⟨u,hu,.inl ⟨rfl,rfl⟩⟩ (ih k (by lia) u.1 e1)
 intro x hx;obtain ⟨i,hi,e⟩:=ZQ hr;obtain ⟨j,hj,e'⟩:=ZQ hx;have h0:xs[0]? = some xs[0]:=Zy (by lia);have s0:S xs[0]:=down i i (Z4 _) r (by rw [Zy hi,e]) sr _ h0;exact up _ h0 s0 j j (Z4 _) x (by rw [Zy hj,e'])
section
variable {ws:List AI} {r:Str} {bs cs:List (Str × Option Str)}
theorem Qm {α β:Type} {l:List (α × β)} (h:(l.map (·.1)).Nodup) {x:α} {a b:β} (ha:(x,a) ∈ l) (hb:(x,b) ∈ l):a=b:=by
 induction l with
 | nil=>cases ha
 | cons p l ih=>
  rw [ZL] at h;obtain ⟨h1,h2⟩:=ax.mp h;have key:∀ c,(x,c) ∈ l->p.1 ≠ x:=fun c hc z=>h1 (by rw [z]; exact ZD.mpr ⟨(x,c),hc,rfl⟩)
  rcases Z3.mp ha with e | Ze
  ·rcases Z3.mp hb with e' | WG
   ·rw [<-e] at e'; cases e'; rfl
   ·exact absurd (by rw [<-e]) (key b WG)
  ·rcases Z3.mp hb with e' | WG
   ·exact absurd (by rw [<-e']) (key a Ze)
   ·exact ih h2 Ze WG
end
section
variable {ws:List AI} {r:Str} {wk:List (Str × List Str)}
end
theorem Dp {H2 H3:Hp} {vs:List V} {ws:List AI} (h:AE H2 vs (ws.map EB)) (ht:∀ b xs,H2 b=some (.tup xs)->H3 b=some (.tup xs)):AE H3 vs (ws.map EB):=by
 induction ws generalizing vs with
 | nil=>cases h; exact .nil
 | cons u ws ih=>
  cases h with
  | cons h1 r=>
   refine .cons ?_ (ih r);cases h1 with
   | tup ha hd=>
    refine .tup (ht _ _ ha) ?_;cases hd with
    | cons h1 r1=>
     cases r1 with
     | cons h2 r2=>
      cases r2 with
      | cons h3 r3=>
       cases r3
       cases h1
       cases h2
       cases h3
       exact .cons (.str _) (.cons (.str _) (.cons (.int _) .nil))
theorem Hl {α:Type} {l:List α} (h:l.Nodup) {i j:Nat} {x:α} (a:l[i]? = some x) (b:l[j]? = some x):i=j:=
 (List.getElem?_inj (ZA.mp a).1 h).mp (a.trans b.symm)
def sK (nv:List (Str × V)):List (Bm × V):=nv.map fun q=>(Sum.inr q.1,q.2)
theorem CU (nv:List (Str × V)):(sK nv).length=nv.length:=Z0 ..
theorem KG (nv:List (Str × V)):(sK nv).map (·.1)=(nv.map (·.1)).map Sum.inr:=by unfold sK; rw [az,az]; rfl
theorem UI (a b:List (Str × V)):sK (a ++ b)=sK a ++ sK b:=ZC ..
theorem KD:∀ {nv:List (Str × V)} {y:Str},y ∉ nv.map (·.1)->B4 (sK nv) (Sum.inr y:Bm)=none
 | [],y,_=>rfl
 | q :: nv,y,h=>by
  rw [ZL,Z3,not_or] at h;show B4 ((Sum.inr q.1,q.2) :: sK nv) (Sum.inr y:Bm)=none
  rw [B6 (fun z=>h.1 (Sum.inr.inj z).symm)];exact KD h.2
theorem DJ:∀ {nv:List (Str × V)} {y:Str} {v:V},(nv.map (·.1)).Nodup->(y,v) ∈ nv->B4 (sK nv) (Sum.inr y:Bm)=some v
 | [],y,v,_,h=>nomatch h
 | q :: nv,y,v,hn,h=>by
  rw [ZL] at hn;obtain ⟨h1,h2⟩:=ax.mp hn;show B4 ((Sum.inr q.1,q.2) :: sK nv) (Sum.inr y:Bm)=some v
  rcases Z3.mp h with e | h'
  ·subst e;exact BD rfl
  ·rw [B6 (fun z=>h1 (by rw [Sum.inr.inj z]; exact ZD.mpr ⟨(y,v),h',rfl⟩))];exact DJ h2 h'
theorem He {nv:List (Str × V)} {y:Str}:(B4 (sK nv) (Sum.inr y:Bm)).isSome=decide (y ∈ nv.map (·.1)):=by
 by_cases h:y ∈ nv.map (·.1)
 ·rw [decide_eq_true h];cases e:B4 (sK nv) (Sum.inr y:Bm) with
  | some v=>rfl
  | none=>
   have:=Qo e;rw [KG] at this;exact absurd (ZD.mpr ⟨y,h,rfl⟩) this
 ·rw [decide_eq_false h,KD h]; rfl
theorem DO {nv:List (Str × V)} {y:Str} {v:V} (h:y ∉ nv.map (·.1)):BG (sK nv) (Sum.inr y:Bm) v=sK (nv ++ [(y,v)]):=by
 rw [QN v (KD h),UI]; rfl
theorem MC (nv:List (Str × V)) (y:Str) (v:V):∃ Ef,BG (sK nv) (Sum.inr y:Bm) v=sK Ef/\Ef.length<=nv.length + 1/\∀ z,z ∈ Ef.map (·.1) ↔ z ∈ nv.map (·.1)\/z=y:=by
 by_cases h:y ∈ nv.map (·.1)
 ·refine ⟨nv.map fun q=>if q.1=y then (q.1,v) else q,?_,by rw [Z0]; lia,fun z=>?_⟩
  ·unfold BG;have:((sK nv).any fun kv=>decide (kv.1=(Sum.inr y:Bm)))=true:=by
    rw [Cy,He,decide_eq_true h]
   rw [if_pos this];unfold sK;rw [az,az];refine bE fun q _=>?_
   by_cases e:q.1=y
   ·simp [e]
   ·have e':¬ (Sum.inr q.1:Bm)=Sum.inr y:=fun z=>e (Sum.inr.inj z)
    simp [e,e']
  ·have e:(nv.map fun q=>if q.1=y then (q.1,v) else q).map (·.1)=nv.map (·.1):=by
    rw [az];refine bE fun q _=>?_
    by_cases e:q.1=y <;> simp [e]
   rw [e];constructor
   ·exact .inl
   ·rintro (q | rfl)
    ·exact q
    ·exact h
 ·refine ⟨nv ++ [(y,v)],DO h,by simp,fun z=>by simp⟩
theorem TB {nv:List (Str × V)} {i:Nat} {k:Bm} {v:V} (h:(sK nv)[i]? = some (k,v)):∃ y,nv[i]? = some (y,v)/\k=.inr y:=by
 unfold sK at h;rw [Z6] at h;cases e:nv[i]? with
 | none=>rw [e] at h; cases h
 | some q=>
  rw [e] at h;simp only [bo,ZR.injEq,Prod.mk.injEq] at h;exact ⟨q.1,by rw [<-h.2],h.1.symm⟩
structure Web (H:Hp) (q:Addr) (ps:List Str) (ws:List AI):Prop where
 ex:∃ tp tw us,H q=some (.tup [.ref tp,.ref tw])/\H tp=some (.tup (ps.map V.str))/\H tw=some (.tup us)/\AE H us (ws.map EB)
theorem Web.same {H H':Hp} {q:Addr} {ps:List Str} {ws:List AI} (h:Web H q ps ws) (s:∀ b xs,H b=some (.tup xs)->H' b=some (.tup xs)):Web H' q ps ws:=by
 obtain ⟨tp,tw,us,h1,h2,h3,h4⟩:=h.ex;exact ⟨tp,tw,us,s _ _ h1,s _ _ h2,s _ _ h3,Dp h4 s⟩
def NZ (ps:List Str) (ds:List Addr):List (Str × V):=(ps.zip ds).map fun q=>(q.1,V.ref q.2)
theorem IL {ps:List Str} {ds:List Addr} (h:ps.length<=ds.length):(NZ ps ds).map (·.1)=ps:=by
 unfold NZ;rw [az];have:((fun (x:Str × V)=>x.1) ∘ fun (q:Str × Addr)=>(q.1,V.ref q.2))=Prod.fst:=rfl;rw [this,List.map_fst_zip h]
theorem NY {ps:List Str} {ds:List Addr} {i:Nat} {p:Str} {d:Addr} (h1:ps[i]? = some p) (h2:ds[i]? = some d):(p,V.ref d) ∈ NZ ps ds:=by
 unfold NZ;refine ZD.mpr ⟨(p,d),Z2 (i:=i) ?_,rfl⟩;rw [bJ];exact ⟨h1,h2⟩
structure NB (H:Hp) (B:Addr) (ps:List Str) (ds:List Addr) (P:Str->Str->Prop) (n:Nat):Prop where
 top:H B=some (.dK (sK (NZ ps ds)))
 len:ds.length=ps.length
 nd:ds.Nodup
 nB:B ∉ ds
 inner:∀ (i:Nat) (p:Str) (d:Addr),ps[i]? = some p->ds[i]? = some d->∃ nv:List (Str × V),H d=some (.dK (sK nv))/\nv.length<=n/\∀ y,y ∈ nv.map (·.1) ↔ P p y
theorem NB.get {H:Hp} {B:Addr} {ps:List Str} {ds:List Addr} {P:Str->Str->Prop} {n:Nat} (h:NB H B ps ds P n) (hn:ps.Nodup) {p:Str} (hp:p ∈ ps) :
  ∃ (i:Nat) (d:Addr) (nv:List (Str × V)),ps[i]? = some p/\ds[i]? = some d/\B4 (sK (NZ ps ds)) (Sum.inr p:Bm)=some (.ref d)/\H d=some (.dK (sK nv))/\nv.length<=n/\∀ y,y ∈ nv.map (·.1) ↔ P p y:=by
 obtain ⟨i,hi,e⟩:=ZQ hp;have e1:ps[i]? = some p:=by rw [Zy hi,e]
 have JG:i < ds.length:=by rw [h.len]; exact hi
 have e2:ds[i]? = some ds[i]:=Zy JG;obtain ⟨nv,a1,a2,a3⟩:=h.inner i p _ e1 e2;refine ⟨i,_,nv,e1,e2,DJ ?_ (NY e1 e2),a1,a2,a3⟩;rw [IL (by rw [h.len]; exact Z4 _)];exact hn
theorem NB.put {H:Hp} {B:Addr} {ps:List Str} {ds:List Addr} {P:Str->Str->Prop} {n:Nat} (h:NB H B ps ds P n) {i:Nat} {p y:Str} {d:Addr} (hn:ps.Nodup) (e1:ps[i]? = some p) (e2:ds[i]? = some d) {nv Ef:List (Str × V)} (hd:H d=some (.dK (sK nv)))
  (hl:Ef.length<=nv.length + 1) (hk:∀ z,z ∈ Ef.map (·.1) ↔ z ∈ nv.map (·.1)\/z=y) (hP:∀ z,z ∈ nv.map (·.1) ↔ P p z) (hln:nv.length<=n):NB (upd H d (.dK (sK Ef))) B ps ds (fun a b=>P a b\/(a=p/\b=y)) (n + 1):=by
 have dm:d ∈ ds:=Z2 e2;refine ⟨by rw [Ae (fun z=>h.nB (by rw [z]; exact dm))]; exact h.top,h.len,h.nd,h.nB,fun j q c f1 f2=>?_⟩;by_cases z:c=d
 ·subst z;have ij:i=j:=Hl h.nd e2 f2;subst ij;rw [e1] at f1; cases f1;refine ⟨Ef,Ab,by lia,fun z=>?_⟩;rw [hk,hP];simp
 ·obtain ⟨nw,b1,b2,b3⟩:=h.inner j q c f1 f2;refine ⟨nw,by rw [Ae z]; exact b1,by lia,fun y'=>?_⟩;rw [b3];have:q ≠ p:=by
   rintro rfl;have ij:=Hl hn e1 f1;subst ij;rw [e2] at f2; cases f2;exact z rfl
  simp [this]
theorem NB.mono {H:Hp} {B:Addr} {ps:List Str} {ds:List Addr} {P P':Str->Str->Prop} {n m:Nat} (h:NB H B ps ds P n) (hP:∀ a b,P a b ↔ P' a b) (hn:n<=m):NB H B ps ds P' m:=
 ⟨h.top,h.len,h.nd,h.nB,fun i p d e1 e2=>let ⟨nv,a1,a2,a3⟩:=h.inner i p d e1 e2; ⟨nv,a1,by lia,fun y=>(a3 y).trans (hP p y)⟩⟩
structure Jr (H:Hp) (q:Addr) (ps:List Str) (ws:List AI) (r:Str):Prop where
 web:Web H q ps ws
 nd:ps.Nodup
 l30:ps.length<=30
 l64:ws.length < 64
 ends:∀ u ∈ ws,u.1 ∈ ps/\u.2.1 ∈ ps
 first:ps[0]? = some r
 con:∀ S:Str->Prop,S r->(∀ x y,Lr ws x y->S x->S y)->∀ x ∈ ps,S x
theorem Jr.same {H H':Hp} {q:Addr} {ps:List Str} {ws:List AI} {r:Str} (h:Jr H q ps ws r) (s:Ao H H'):Jr H' q ps ws r:=
 ⟨h.web.same fun b xs z=>s _ _ z,h.nd,h.l30,h.l64,h.ends,h.first,h.con⟩
theorem RL {ws:List AI} {i:Nat} {u:AI} (h:ws[i]? = some u) (a b:Str):Lr (ws.take (i + 1)) a b ↔ (Lr (ws.take i) a b\/(a=u.1/\b=u.2.1))\/(a=u.2.1/\b=u.1):=by
 rw [ZH,h];constructor
 ·rintro ⟨v,hv,e⟩;rcases ZM.mp hv with hv | hv
  ·exact .inl (.inl ⟨v,hv,e⟩)
  ·have:v=u:=by simpa using hv
   subst this;rcases e with ⟨e1,e2⟩ | ⟨e1,e2⟩
   ·exact .inl (.inr ⟨e1.symm,e2.symm⟩)
   ·exact .inr ⟨e2.symm,e1.symm⟩
 ·rintro ((⟨v,hv,e⟩ | ⟨rfl,rfl⟩) | ⟨rfl,rfl⟩)
  ·exact ⟨v,av _ hv,e⟩
  ·exact ⟨u,ZF _ (by simp),.inl ⟨rfl,rfl⟩⟩
  ·exact ⟨u,ZF _ (by simp),.inr ⟨rfl,rfl⟩⟩
structure NR (H:Hp) (B:Addr) (ps:List Str) (ds:List Addr) (P:Str->Str->Prop):Prop where
 top:H B=some (.dK (sK (NZ ps ds)))
 len:ds.length=ps.length
 nd:ds.Nodup
 nB:B ∉ ds
 inner:∀ (i:Nat) (p:Str) (d:Addr),ps[i]? = some p->ds[i]? = some d->∃ nv:List (Str × V),Rd H d (.dK (sK nv))/\∀ y,y ∈ nv.map (·.1) ↔ P p y
theorem NB.r {H:Hp} {B:Addr} {ps:List Str} {ds:List Addr} {P:Str->Str->Prop} {n:Nat} (h:NB H B ps ds P n):NR H B ps ds P:=
 ⟨h.top,h.len,h.nd,h.nB,fun i p d e1 e2=>let ⟨nv,a1,_,a3⟩:=h.inner i p d e1 e2; ⟨nv,.inl a1,a3⟩⟩
theorem NR.get {H:Hp} {B:Addr} {ps:List Str} {ds:List Addr} {P:Str->Str->Prop} (h:NR H B ps ds P) (hn:ps.Nodup) {p:Str} (hp:p ∈ ps) :
  ∃ (i:Nat) (d:Addr) (nv:List (Str × V)),ps[i]? = some p/\ds[i]? = some d/\B4 (sK (NZ ps ds)) (Sum.inr p:Bm)=some (.ref d)/\Rd H d (.dK (sK nv))/\∀ y,y ∈ nv.map (·.1) ↔ P p y:=by
 obtain ⟨i,hi,e⟩:=ZQ hp;have e1:ps[i]? = some p:=by rw [Zy hi,e]
 have JG:i < ds.length:=by rw [h.len]; exact hi
 have e2:ds[i]? = some ds[i]:=Zy JG;obtain ⟨nv,a1,a3⟩:=h.inner i p _ e1 e2;refine ⟨i,_,nv,e1,e2,DJ ?_ (NY e1 e2),a1,a3⟩;rw [IL (by rw [h.len]; exact Z4 _)];exact hn
theorem Rd.ne {H:Hp} {a b:Addr} {u o:HO} (h:Rd H a u) (hb:a ≠ b):Rd (upd H b o) a u:=by
 rcases h with h | ⟨ob,h⟩
 ·exact .inl (by rw [Ae hb]; exact h)
 ·exact .inr ⟨ob,by rw [Ae hb]; exact h⟩
theorem Rd.fz {H H':Hp} {a b:Addr} {u:HO} {kvs:List (Bm × V)} {o:Obj} (h:Rd H a u) (f:E3 H b kvs o H') (hb:a ≠ b):Rd H' a u:=by
 rcases h with h | ⟨ob,h⟩
 ·exact .inl (by rw [f.ne hb]; exact h)
 ·exact .inr ⟨ob,by rw [f.ne hb]; exact h⟩
theorem NR.other {H:Hp} {B a:Addr} {ps:List Str} {ds:List Addr} {P:Str->Str->Prop} {o:HO} (h:NR H B ps ds P) (ha:a ∉ ds) (hB:a ≠ B):NR (upd H a o) B ps ds P:=
 ⟨by rw [Ae (Ne.symm hB)]; exact h.top,h.len,h.nd,h.nB,fun i p d e1 e2=>let ⟨nv,a1,a3⟩:=h.inner i p d e1 e2
  ⟨nv,a1.ne (fun z=>ha (by rw [<-z]; exact Z2 e2)),a3⟩⟩
theorem NR.freeze {H H':Hp} {B:Addr} {ps:List Str} {ds:List Addr} {P:Str->Str->Prop} (h:NR H B ps ds P) {i:Nat} {p:Str} {d:Addr} (e1:ps[i]? = some p) (e2:ds[i]? = some d) {nv:List (Str × V)} {o:Obj} (f:E3 H d (sK nv) o H') (hP:∀ y,y ∈ nv.map (·.1) ↔ P p y):NR H' B ps ds P:=by
 have dm:d ∈ ds:=Z2 e2;refine ⟨by rw [f.ne (fun z=>h.nB (by rw [z]; exact dm))]; exact h.top,h.len,h.nd,h.nB,fun j q c f1 f2=>?_⟩;by_cases z:c=d
 ·subst z;have ij:i=j:=Hl h.nd e2 f2;subst ij;rw [e1] at f1; cases f1;exact ⟨nv,.inr ⟨o,f.at⟩,hP⟩
 ·obtain ⟨nw,b1,b3⟩:=h.inner j q c f1 f2;exact ⟨nw,b1.fz f z,b3⟩
theorem Sn {nv Ef:List (Str × V)} {y:Str} {v:V} (e:BG (sK nv) (Sum.inr y:Bm) v=sK Ef) (hn:(nv.map (·.1)).Nodup):(Ef.map (·.1)).Nodup:=by
 have inj:∀ {a b:List (Str × V)},(sK a).map (·.1)=(sK b).map (·.1)->a.map (·.1)=b.map (·.1):=fun {a b} h=>by
  rw [KG,KG] at h;exact dP (fun x y z=>Sum.inr.inj z) |>.mp h
 by_cases h:y ∈ nv.map (·.1)
 ·have e2:(BG (sK nv) (Sum.inr y:Bm) v).map (·.1)=(sK nv).map (·.1):=by
   unfold BG;have:((sK nv).any fun kv=>decide (kv.1=(Sum.inr y:Bm)))=true:=by rw [Cy,He,decide_eq_true h]
   rw [if_pos this,az];refine bE fun q _=>?_
   by_cases e:q.1=(Sum.inr y:Bm) <;> simp [e]
  rw [e] at e2;rw [inj e2];exact hn
 ·rw [DO h] at e;have e2:(nv ++ [(y,v)]).map (·.1)=Ef.map (·.1):=inj (by rw [e]);rw [<-e2,ZC];refine aI.mpr ⟨hn,ax.mpr ⟨by simp,.nil⟩,fun a ha b hb=>?_⟩;have e3:b=y:=by simpa using hb
  subst e3;rintro rfl;exact h ha
section
variable {ws:List AI} {r:Str} {bs:List (Str × Option Str)} {wk:List (Str × List Str)} {ps:List Str}
end
theorem Gw {α:Type} {l:List (Str × α)} (h:(l.map (·.1)).Nodup) (f:Str × α->Bool):((l.filter f).map (·.1)).Nodup:=by
 have s:List.Sublist ((l.filter f).map (·.1)) (l.map (·.1)):=List.Sublist.map _ cx;exact s.nodup h
theorem Aw.thaw {X:Cx} {pins:List (Addr × Obj)} {σ:St} {H:Hp} {s:Shared} {a:Addr} {o:Obj} {u:HO} (I:Aw X pins σ H s) (e:H a=some (.frz o u)) (h0:∀ ob w,X.H₀ a ≠ some (.frz ob w)) (hu:u ≠ .own a/\∀ xs,u ≠ .tup xs):Aw X pins σ (upd H a u) s:=by
 obtain ⟨ho,hok⟩:=(show AM X.prog X.w H s.heap a (.frz o u) from I.hok a _ e)
 have nn:∀ b,H b=none->b ≠ a:=fun b hb z=>by rw [z,e] at hb; cases hb
 have own:∀ b y,H b=some (.own y)->b ≠ a:=fun b y hb z=>by rw [z,e] at hb; cases hb
 have tup:∀ b xs,H b=some (.tup xs)->b ≠ a:=fun b xs hb z=>by rw [z,e] at hb; cases hb
 refine ⟨I.ok,I.os,I.bare,⟨I.base.keep,I.base.slot,fun b ob q n hx=>?_,I.base.there,fun b xs q=>?_,fun b ob w q=>?_,fun b ps q=>?_⟩,I.loc,I.cell,?_,fun x c q=>?_,fun p hp=>?_,fun b w q=>?_,I.len⟩
 ·have z:=I.base.free b ob q n hx;rw [Ae (nn b z)]; exact z
 ·have z:=I.base.tups b xs q;rw [Ae (tup b xs z)]; exact z
 ·have z:=I.base.frzs b ob w q;by_cases hb:b=a
  ·subst hb; exact absurd q (h0 ob w)
  ·rw [Ae hb]; exact z
 ·obtain ⟨more,z⟩:=I.base.tbls b ps q;exists more;rw [Ae (fun hb=>by rw [hb,e] at z; cases z)]; exact z
 ·rw [Ae (nn _ I.free)]; exact I.free
 ·rw [Ae (nn _ (I.freeC x c q))]; exact I.freeC x c q
 ·obtain ⟨z1,z2,z3⟩:=I.pin p hp;exact ⟨z1,by rw [Ae (nn _ z2)]; exact z2,z3⟩
 ·by_cases hb:b=a
  ·subst hb;rw [Ab] at q;cases q
   exact hok.stay (fun c v _ z=>z) (fun c z=>by rw [Ae (own c _ z)]; exact z) fun c xs z=>by rw [Ae (tup c xs z)]; exact z
  ·rw [Ae hb] at q;exact (I.hok b w q).stay (fun c v _ z=>z) (fun c z=>by rw [Ae (own c _ z)]; exact z) fun c xs z=>by rw [Ae (tup c xs z)]; exact z
theorem Sv {X:Cx} {e:Expr} {t:TE} (h:PE X e t):PE X e (fun σ H Q=>t σ H fun x H1=>∃ a o kvs,H1 a=some (.frz o (.dK kvs))/\(∀ ob w,X.H₀ a ≠ some (.frz ob w))/\Q x (upd H1 a (.dK kvs))):=by
 intro pins s σ H Q I q;refine Bx (h (pins:=pins) s σ H _ I q) fun v s1 ⟨x,H1,I1,r1,a,o,kvs,e1,h0,q1⟩=>?_
 exact ⟨x,_,I1.thaw e1 h0 ⟨(by intro z; cases z),(by intro xs z; cases z)⟩,r1,q1⟩
def EA (A:Around) (s:Shared) (x y:Value) (b:Bool):Prop:=∀ (prog:Program) (w:World) (E Q:Value->Shared->Prop),Q (.bool b) s->wpAny (model prog w) A (richCompare .Lt x y) Q E s
theorem EA.int (A:Around) (s:Shared) (a:Int) (t:Tok) (c:Int) (u:Tok):EA A s (.int a t) (.int c u) (decide (a < c)):=fun prog w E Q h=>
 (PyProof.Rows.lt_int h:wpAny (model prog w) A (compareOp .Lt (.int a t) (.int c u)) Q E s)
theorem EA.str (A:Around) (s:Shared) (a:Str) (t:Tok) (c:Str) (u:Tok):EA A s (.str a t) (.str c u) (decide (a.cps.toList < c.cps.toList)):=fun prog w E Q h=>
 (PySem.P.lt_str h:wpAny (model prog w) A (compareOp .Lt (.str a t) (.str c u)) Q E s)
section
open PySem.SeqAt
open PySem.AutoSeq1 (wpAny_loadPart')
open PySem.MeetsSeq PySem.MeetsSeq2 PySem.MeetsSeq3
theorem O7 (l b:Addr) (x1 x2 y1 y2:Value) (n n2:Nat) (dd RV:Option Addr) (sl T9:Array (Option Value)) (e1 b1 e2 b2:Bool) :
  Meets (Builtin.«tuple.__lt__» ⟨[.ref l,.ref b],[]⟩)
   (fun A R s=>s.heap.get? l=some { cls:=.type "tuple",dict:=dd,data:=.seq #[x1,x2] n,slots:=sl }/\s.heap.get? b=some { cls:=.type "tuple",dict:=RV,data:=.seq #[y1,y2] n2,slots:=T9 } /\
    EqAt A.in1 s x1 y1 e1/\(e1=false->EA A.in1 s x1 y1 b1)/\(e1=true->EqAt A.in1 s x2 y2 e2/\(e2=false->EA A.in1 s x2 y2 b2)) /\
    R (.ok (.ret (.bool (if e1=true then (if e2=true then false else b2) else b1)))) s):=
 .of_wp fun prog w A R s h=>by
  obtain ⟨hp,g,d,tk,os⟩:=s; obtain ⟨hl,hb,VV,JF,h2,h⟩:=h;have f2:=AutoSeq1.sub_tuple_tuple;wp_walk using wpAny_loadPart' hl,wpAny_loadPart' hb,wpAny_forIn_list _ (fun rest b s'=>b.1=none/\s'=⟨hp,g,d,tk,os⟩/\(rest=[(x1,y1),(x2,y2)]\/(rest=[(x2,y2)]/\e1=true)\/(rest=[]/\e1=true/\e2=true))) _
  case turn=>
   rintro ⟨y,x⟩ rest b s' ⟨Ia,rfl,hz | ⟨hz,h1⟩ | ⟨hz,_⟩⟩
   ·cases hz
    refine wpAny_bind (VV prog w _ _ ?_);cases ee:e1 with
    | true=>
     wp_walk
     exact ⟨rfl,rfl,.inr (.inl ⟨rfl,rfl⟩)⟩
    | false=>
     rw [ee,if_neg ZI] at h;have hri:=JF ee prog w;wp_walk using hri;exact ⟨_,rfl,by simpa using h⟩
   ·cases hz
    obtain ⟨Zc,Jw⟩:=h2 h1;rw [if_pos h1] at h;refine wpAny_bind (Zc prog w _ _ ?_);cases ee:e2 with
    | true=>
     wp_walk
     exact ⟨rfl,rfl,.inr (.inr ⟨rfl,h1,rfl⟩)⟩
    | false=>
     rw [ee,if_neg ZI] at h;have hri:=Jw ee prog w;wp_walk using hri;exact ⟨_,rfl,by simpa using h⟩
   ·cases hz
  case fin=>
   rintro ⟨Td,b2'⟩ s' ⟨Ia,rfl,hz | ⟨hz,h1⟩ | ⟨hz,h1,Zn⟩⟩
   ·cases hz
   ·cases hz
   ·simp only at Ia;subst Ia;rw [if_pos h1,if_pos Zn] at h;wp_walk;exact ⟨_,rfl,by simpa [Builtin.Tuple.tupleCompareSizes] using h⟩
  case h=>
   exact ⟨rfl,rfl,.inl rfl⟩
end
theorem EA.tup2 {A:Around} {s:Shared} {l b:Addr} {x1 x2 y1 y2:Value} {e1 b1 e2 b2:Bool} (hl:IsTup s.heap l #[x1,x2]) (hb:IsTup s.heap b #[y1,y2]) (hu:A.units < cLine) (h1:SeqAt.EqAt A.in1 s x1 y1 e1) (l1:e1=false->EA A.in1 s x1 y1 b1)
  (h2:e1=true->SeqAt.EqAt A.in1 s x2 y2 e2/\(e2=false->EA A.in1 s x2 y2 b2)):EA A s (.ref l) (.ref b) (if e1=true then (if e2=true then false else b2) else b1):=fun prog w E Q h=>by
 obtain ⟨⟨cls,dd,data,sl⟩,ho,hc,n,hd⟩:=id hl;obtain ⟨⟨Xk,RV,data2,T9⟩,PX,RT,n2,hd2⟩:=id hb;simp only at hc hd RT hd2;subst hc hd RT hd2;exact richCompare_meets_room (op:=.Lt) ⟨_,ho,rfl⟩ ⟨_,PX,rfl⟩ PySem.F.slot_tuple_lt PySem.F.entry_tuple_lt (PySem.F.args_tuple_lt_2 _ _) (O7 l b x1 x2 y1 y2 n n2 dd RV sl T9 e1 b1 e2 b2)
  ⟨ho,PX,h1,l1,h2,show Value.bool _ ≠ Value.notImplemented/\Q (.bool _) s from ⟨(fun x=>nomatch x),h⟩⟩ hu
def Pl (p q:Int × Str):Bool:=if (p.1 == q.1)=true then (if (p.2 == q.2)=true then false else decide (p.2.cps.toList < q.2.cps.toList)) else decide (p.1 < q.1)
def D4 (h:Heap) (v:Value) (p:Int × Str):Prop:=∃ a t u,v=.ref a/\IsTup h a #[.int p.1 t,.str p.2 u]
theorem D4.keep {h h':Heap} {v:Value} {p:Int × Str} (x:D4 h v p) (k:∀ b o,h.get? b=some o->h'.get? b=some o):D4 h' v p:=by
 obtain ⟨a,t,u,rfl,o,ho,r⟩:=x;exact ⟨a,t,u,rfl,o,k _ _ ho,r⟩
theorem KY {A:Around} {s:Shared} {v w:Value} {p q:Int × Str} (hv:D4 s.heap v p) (hw:D4 s.heap w q) (hu:A.units < cLine):EA A s v w (Pl p q):=by
 obtain ⟨a,t,u,rfl,hl⟩:=hv;obtain ⟨b,t',u',rfl,hb⟩:=hw;exact EA.tup2 hl hb hu (SeqAt.EqAt.int_int _ _ _ _) (fun _=>EA.int _ _ _ _ _ _) fun _=>⟨SeqAt.EqAt.str_str _ _ _ _,fun _=>EA.str _ _ _ _ _ _⟩
theorem SX {A:Around} {s:Shared} {v w:Value} {p q:Int × Str} (hv:D4 s.heap v p) (hw:D4 s.heap w q) (hu:A.units < cLine):SeqAt.EqAt A s v w (decide (p=q)):=by
 obtain ⟨a,t,u,rfl,hl⟩:=hv;obtain ⟨b,t',u',rfl,hb⟩:=hw;by_cases hab:a=b
 ·subst hab;have e:p=q:=by
   obtain ⟨o,ho,hc,n,hd⟩:=hl;obtain ⟨o',HZ,Kl,n',Lf⟩:=hb;rw [ho] at HZ;cases HZ
   rw [hd] at Lf;injection Lf with e1 e2;have e3:=congrArg bO e1;simp only [ck.injEq,Value.int.injEq,Value.str.injEq] at e3;exact Prod.ext e3.1.1 e3.2.1.1
  rw [decide_eq_true e];intro prog w E Q h;unfold eqBool;refine wpAny_holding ?_;exact wpAny_ite_split (fun _=>wpAny_bind (wpAny_rule (wpAny_pure h))) (fun hn=>absurd (by simp) hn)
 ·have key:=SeqAt.RcAt.tuples (A:=A) (s:=s) (e:=fun j=>if j=0 then p.1 == q.1 else p.2 == q.2) (show s.heap.IsTuple a #[.int p.1 t,.str p.2 u] from hl) (show s.heap.IsTuple b #[.int q.1 t',.str q.2 u'] from hb) hu (fun j h1 h2=>by
   match j,h1,h2 with
   | 0,_,_=>exact SeqAt.EqAt.int_int _ _ _ _
   | 1,_,_=>exact SeqAt.EqAt.str_str _ _ _ _
   | j + 2,h1,_=>exact absurd (show j + 2 < 2 from h1) (by lia))
  have e:((ai (min (#[Value.int p.1 t,.str p.2 u]:Array Value).size (#[Value.int q.1 t',.str q.2 u']:Array Value).size)).all (fun j=>if j=0 then p.1 == q.1 else p.2 == q.2) && (#[Value.int p.1 t,.str p.2 u]:Array Value).size == (#[Value.int q.1 t',.str q.2 u']:Array Value).size)=decide (p=q):=by
   show ((ai 2).all (fun j=>if j=0 then p.1 == q.1 else p.2 == q.2) && (2 == 2))=decide (p=q)
   have:(ai 2)=[0,1]:=rfl;rw [this];simp only [bM,List.all_nil,eV,beq_self_eq_true];rw [aA];simp [Prod.ext_iff]
  rw [e] at key;exact SeqAt.EqAt.of_refs hab key
def Ju (h:Heap) (v:Value) (k:(Int × Str) × Str):Prop:=∃ a l u,v=.ref a/\IsTup h a #[.ref l,.str k.2 u]/\D4 h (.ref l) k.1
theorem Ju.keep {h h':Heap} {v:Value} {p:(Int × Str) × Str} (x:Ju h v p) (k:∀ b o,h.get? b=some o->h'.get? b=some o):Ju h' v p:=by
 obtain ⟨a,l,u,rfl,⟨o,ho,r⟩,z⟩:=x;exact ⟨a,l,u,rfl,⟨o,k _ _ ho,r⟩,z.keep k⟩
def TY (p q:(Int × Str) × Str):Bool:=if decide (p.1=q.1)=true then (if (p.2 == q.2)=true then false else decide (p.2.cps.toList < q.2.cps.toList)) else Pl p.1 q.1
theorem Vh {A:Around} {s:Shared} {v w:Value} {p q:(Int × Str) × Str} (hv:Ju s.heap v p) (hw:Ju s.heap w q) (hu:A.units + 1 < cLine):EA A s v w (TY p q):=by
 obtain ⟨a,l,u,rfl,hl,hp⟩:=hv;obtain ⟨b,l',u',rfl,hb,hq⟩:=hw;exact EA.tup2 hl hb (by lia) (SX hp hq (by rw [PySem.Around.in1_units]; exact hu)) (fun _=>KY hp hq (by rw [PySem.Around.in1_units]; exact hu)) fun _=>⟨SeqAt.EqAt.str_str _ _ _ _,fun _=>EA.str _ _ _ _ _ _⟩
def Tt (prog:Program) (w:World) (A:Around) (g0:Heap) (P:Nat->Value->Prop) (bt:Nat->Nat->Bool):Prop:=
 ∀ i j vi vj (s:Shared) (Q:Value->Shared->Prop) (E:Value->Shared->Prop),(∀ b o,g0.get? b=some o->s.heap.get? b=some o)->P i vi->P j vj->Q (.bool (bt i j)) s->wpAny (model prog w) A (richCompare .Lt vi vj) Q E s
section
variable {prog:Program} {w:World} {A:Around} {R:Result->Shared->Prop} {I:Addr} {fp wr:List Addr} {n:Nat} {P:Nat->Value->Prop} {St:Nat->Heap->Prop} {g0:Heap}
theorem Ph (W:Walks prog w A.in1 I fp wr n P St) (bt:Nat->Nat->Bool) (cm:Tt prog w A.in1 g0 P bt) (S:Addr) (nS:S ∉ fp) (gw:∀ b o,g0.get? b=some o->b ∉ wr/\b ≠ S) :
  ∀ (m j:Nat) (s:Shared) (bv:Value) (c:Nat),n - (j + 1)=m->j + 1<=n->St (j + 1) s.heap->P (argBest bt j) bv->(∀ b o,g0.get? b=some o->s.heap.get? b=some o) ->
  s.heap.get? S=some { cls:=.type "list",dict:=none,data:=.seq #[bv,bv] c,slots:=#[] } ->
  (∀ v h2 tk,P (argBest bt (n - 1)) v->(∀ b o,b ∉ wr->b ≠ S->s.heap.get? b=some o->h2.get? b=some o)->R (.ok (.ret v)) { s with heap:=h2,toks:=tk }) ->
  codeAny (model prog w) A (.builtin "min.loop" ⟨[.ref I,.none,.ref S],[]⟩) R s:=by
 have Sw:S ∉ wr:=fun z=>nS (W.sub _ z)
 have nm:(toString "min" ++ toString ".loop":String)="min.loop":=by decide
 intro m;induction m with
 | zero=>
  intro j s bv c hm hj st pb g1 aS r;have jn:j + 1=n:=by lia
  refine codeAny_builtin F.entry_min_loop ?_;rw [Around.under_plainId F.plain_min_loop _];refine wpAny_bind (m:=seqItems? (.ref S)) (wpAny_seqItems aS rfl ?_);refine wpAny_bind (wpAny_tryCatch (W.done s _ _ (jn ▸ st) fun h2 tk k2=>?_));have Uv:=k2 S _ Sw aS;refine wpAny_bind (m:=updateSeq S (fun _=>#[])) ?_;refine wpAny_updateSeq Uv rfl (wpAny_bind (wpAny_letGo (wpAny_pure ?_)));exact r bv _ tk (by rw [<-jn]; exact pb) fun b o bw bS e=>(ab _ _ (Ne.symm bS)).trans (k2 b o bw e)
 | succ m ih=>
  intro j s bv c hm hj st pb g1 aS r;have lt:j + 1 < n:=by lia
  refine codeAny_builtin F.entry_min_loop ?_;rw [Around.under_plainId F.plain_min_loop _];refine wpAny_bind (m:=seqItems? (.ref S)) (wpAny_seqItems aS rfl ?_);refine wpAny_bind (wpAny_tryCatch (W.item (j + 1) s _ _ lt st fun v h2 tk pv Hz k2=>?_));have Uv:=k2 S _ Sw aS;have g2:∀ b o,g0.get? b=some o->h2.get? b=some o:=fun b o e=>k2 b o (gw b o e).1 (g1 b o e)
  show wpAny _ A.in1 (tryCatch (holding [v,v] (richCompare .Lt v bv >>= _)) _ >>= _) _ _ _
  refine wpAny_bind (wpAny_tryCatch (wpAny_holding (wpAny_bind (cm (j + 1) (argBest bt j) v bv _ _ _ g2 pv pb ?_))));refine wpAny_bind (wpAny_holding (wpAny_truthy_bool ?_));refine wpAny_bind (wpAny_letGo (wpAny_pure ?_));cases hb:bt (j + 1) (argBest bt j) with
  | true=>
   simp only [if_true];refine wpAny_bind ?_;refine wpAny_updateSeq Uv rfl (wpAny_bind (wpAny_letGo ?_));rw [nm];refine wpAny_pure ⟨plainId_quiet F.plain_min_loop _,ih (j + 1) _ v _ (by lia) lt (W.frame _ _ _ Hz fun b bf o e=>?_) (by simp only [argBest,hb,if_true]; exact pv) (fun b o e=>?_) (ah _ Uv rfl) fun v' h3 UA Wo k3=>?_⟩
   ·exact (ab _ _ (fun z:S=b=>nS (by rw [z]; exact bf))).trans e
   ·exact (ab _ _ (Ne.symm (gw b o e).2)).trans (g2 b o e)
   ·exact r v' h3 UA Wo fun b o bw bS e=>k3 b o bw bS ((ab _ _ (Ne.symm bS)).trans (k2 b o bw e))
  | false=>
   simp only [ZY,if_false];refine wpAny_bind (wpAny_letGo ?_);rw [nm];refine wpAny_pure ⟨plainId_quiet F.plain_min_loop _,ih (j + 1) _ bv c (by lia) lt Hz (by simp only [argBest,hb,ZY,if_false]; exact pb) g2 Uv fun v' h3 UA Wo k3=>?_⟩;exact r v' h3 UA Wo fun b o bw bS e=>k3 b o bw bS (k2 b o bw e)
theorem IP (W:Walks prog w A.in1 I fp wr n P St) (bt:Nat->Nat->Bool) (cm:Tt prog w A.in1 g0 P bt) (S:Addr) (nS:S ∉ fp) (gw:∀ b o,g0.get? b=some o->b ∉ wr/\b ≠ S) (hn:0 < n) {s:Shared} {c:Nat} (st:St 0 s.heap)
  (g1:∀ b o,g0.get? b=some o->s.heap.get? b=some o) (aS:s.heap.get? S=some { cls:=.type "list",dict:=none,data:=.seq #[] c,slots:=#[] })
  (r:∀ v h2 tk,P (argBest bt (n - 1)) v->(∀ b o,b ∉ wr->b ≠ S->s.heap.get? b=some o->h2.get? b=some o)->R (.ok (.ret v)) { s with heap:=h2,toks:=tk }) :
  codeAny (model prog w) A (.builtin "min.loop" ⟨[.ref I,.none,.ref S],[]⟩) R s:=by
 have Sw:S ∉ wr:=fun z=>nS (W.sub _ z)
 have nm:(toString "min" ++ toString ".loop":String)="min.loop":=by decide
 refine codeAny_builtin F.entry_min_loop ?_;rw [Around.under_plainId F.plain_min_loop _];refine wpAny_bind (m:=seqItems? (.ref S)) (wpAny_seqItems aS rfl ?_);refine wpAny_bind (wpAny_tryCatch (W.item 0 s _ _ hn st fun v h2 tk pv Hz k2=>?_));have Uv:=k2 S _ Sw aS;refine wpAny_bind (m:=updateSeq S (fun _=>#[v,v])) ?_;refine wpAny_updateSeq Uv rfl ?_;rw [nm];refine wpAny_pure ⟨plainId_quiet F.plain_min_loop _,Ph W bt cm S nS gw _ 0 _ v _ rfl hn (W.frame _ _ _ Hz fun b bf o e=>?_) pv (fun b o e=>?_) (ah _ Uv rfl) fun v' h3 UA Wo k3=>?_⟩
 ·exact (ab _ _ (fun z:S=b=>nS (by rw [z]; exact bf))).trans e
 ·exact (ab _ _ (Ne.symm (gw b o e).2)).trans (k2 b o (gw b o e).1 (g1 b o e))
 ·exact r v' h3 UA Wo fun b o bw bS e=>k3 b o bw bS ((ab _ _ (Ne.symm bS)).trans (k2 b o bw e))
end
section
variable {prog:Program} {w:World} {A:Around} {E:Value->Shared->Prop} {s:Shared}
theorem Gy {l:Addr} {vs:List Value} {bt:Nat->Nat->Bool} {Q:Value->Shared->Prop} (hh:A.handled=none) (hl:s.heap.IsList l vs.toArray) (hn:0 < vs.length) (cm:Tt prog w A.in1 s.heap (fun i v=>vs[i]? = some v) bt)
  (h:∀ v h2 tk,vs[argBest bt (vs.length - 1)]? = some v->(∀ b o,s.heap.get? b=some o->h2.get? b=some o)->Q v { s with heap:=h2,toks:=tk }):wpAny (model prog w) A (call (.builtin "min") [.ref l]) Q E s:=by
 have nm:(toString "min" ++ toString ".loop":String)="min.loop":=by decide
 have B5:l < s.heap.objs.size:=by obtain ⟨o,ho,_⟩:=id hl; exact Z5 ho
 refine call_function_tree F.kind_min F.plain_min F.entry_min (F.args_min1 _) ?_;refine wpAny_bind (wpAny_of_eq (show Builtin.Builtins.bindParams "min" ["key","default"] 0 ⟨[],[]⟩=pure [none,none] from rfl) ?_);refine wpAny_bind (wpAny_pure ?_);refine wpAny_bind (wpAny_pyIter_list hl ?_);refine wpAny_bind (wpAny_newObj_type ?_);rw [nm];have sz:(s.heap.push { cls:=.type "list_iterator",data:=.fields #[.ref l,.int 0 0] }).objs.size=s.heap.objs.size + 1:=ae ..;have W:=(Walks.list (prog:=prog) (w:=w) (A:=A.in1) hh s.heap.objs.size l (ZE B5) vs.toArray).weaken (P':=fun i v=>vs[i]? = some v) (fun i v e=>by simpa using e);refine wpAny_pure ⟨plainId_quiet F.plain_min_loop _,IP (g0:=s.heap) W bt cm (s.heap.push { cls:=.type "list_iterator",data:=.fields #[.ref l,.int 0 0] }).objs.size (fun hm=>?_) (fun b o e=>⟨fun hm=>?_,fun z=>?_⟩) (by simpa using hn) ?_ (fun b o e=>Zz _ (Zz _ e)) (Z9 _ rfl) fun v h2 tk pv k2=>?_⟩
 ·rw [sz] at hm;rcases Z3.mp hm with z | hm
  ·exact absurd z (Nat.succ_ne_self _)
  ·rcases Z3.mp hm with z | hm
   ·exact absurd z (aD (aa B5))
   ·cases hm
 ·have:=Z5 e;rw [ZN.mp hm] at this;exact absurd this (ay _)
 ·have:=Z5 e;rw [z,sz] at this;exact absurd this (bT.mpr (ZZ _))
 ·exact ⟨⟨_,Zz _ (Z9 _ rfl),rfl,rfl⟩,(hl.push _).push _⟩
 ·refine h v h2 tk (by simpa using pv) fun b o e=>k2 b o (fun hm=>?_) (fun z=>?_) (Zz _ (Zz _ e))
  ·have:=Z5 e;rw [ZN.mp hm] at this;exact absurd this (ay _)
  ·have:=Z5 e;rw [z,sz] at this;exact absurd this (bT.mpr (ZZ _))
end
section
variable {prog:Program} {w:World} {A:Around} {E:Value->Shared->Prop} {s:Shared}
theorem Rm {a b:Value} {bt:Nat->Nat->Bool} {Q:Value->Shared->Prop} (hh:A.handled=none) (cm:Tt prog w A.in1 s.heap (fun i v=>[a,b][i]? = some v) bt)
  (h:∀ v h2 tk,[a,b][argBest bt 1]? = some v->(∀ c o,s.heap.get? c=some o->h2.get? c=some o)->Q v { s with heap:=h2,toks:=tk }):wpAny (model prog w) A (call (.builtin "min") [a,b]) Q E s:=by
 have nm:(toString "min" ++ toString ".loop":String)="min.loop":=by decide
 have hT:(s.heap.push { cls:=.type "tuple",data:=.seq #[a,b] }).IsTuple s.heap.objs.size #[a,b]:=⟨_,Z9 _ rfl,rfl,0,rfl⟩
 refine call_function_tree F.kind_min F.plain_min F.entry_min (F.args_min2 _ _) ?_;refine wpAny_bind (wpAny_of_eq (show Builtin.Builtins.bindParams "min" ["key","default"] 0 ⟨[],[]⟩=pure [none,none] from rfl) ?_);show wpAny _ A.in1 (newTuple [a,b] >>= _) _ _ s
 refine wpAny_bind (wpAny_newObj_type ?_);refine wpAny_bind (wpAny_pyIter_tuple hT ?_);refine wpAny_bind (wpAny_newObj_type ?_);rw [nm];have s1:(s.heap.push { cls:=.type "tuple",data:=.seq #[a,b] }).objs.size=s.heap.objs.size + 1:=ae ..;have s2:((s.heap.push { cls:=.type "tuple",data:=.seq #[a,b] }).push { cls:=.type "tuple_iterator",data:=.fields #[.ref s.heap.objs.size,.int 0 0] }).objs.size=s.heap.objs.size + 2:=by rw [ae,s1]
 have W:=(Walks.tuple (prog:=prog) (w:=w) (A:=A.in1) hh (s.heap.push { cls:=.type "tuple",data:=.seq #[a,b] }).objs.size s.heap.objs.size (by rw [s1]; exact ZE (ak _)) #[a,b]).weaken (P':=fun i v=>[a,b][i]? = some v) (fun i v e=>by simpa using e);refine wpAny_pure ⟨plainId_quiet F.plain_min_loop _,IP (g0:=s.heap) W bt cm ((s.heap.push { cls:=.type "tuple",data:=.seq #[a,b] }).push { cls:=.type "tuple_iterator",data:=.fields #[.ref s.heap.objs.size,.int 0 0] }).objs.size (fun hm=>?_) (fun b o e=>⟨fun hm=>?_,fun z=>?_⟩) (by simp) ?_ (fun b o e=>Zz _ (Zz _ (Zz _ e))) (Z9 _ rfl) fun v h2 tk pv k2=>?_⟩
 ·rw [s2] at hm;rcases Z3.mp hm with z | hm
  ·rw [s1] at z; exact absurd z (aD (ak _))
  ·rcases Z3.mp hm with z | hm
   ·exact absurd z (aD (aa (ak _)))
   ·cases hm
 ·have:=Z5 e;rw [ZN.mp hm,s1] at this;exact absurd this (bT.mpr (ZZ _))
 ·have:=Z5 e;rw [z,s2] at this;exact absurd this (bT.mpr (ZV (ZZ _) (ZZ _)))
 ·exact ⟨⟨_,Zz _ (Z9 _ rfl),rfl,rfl⟩,(hT.push _).push _⟩
 ·refine h v h2 tk (by simpa using pv) fun b o e=>k2 b o (fun hm=>?_) (fun z=>?_) (Zz _ (Zz _ (Zz _ e)))
  ·have:=Z5 e;rw [ZN.mp hm,s1] at this;exact absurd this (bT.mpr (ZZ _))
  ·have:=Z5 e;rw [z,s2] at this;exact absurd this (bT.mpr (ZV (ZZ _) (ZZ _)))
end
theorem Jq (bt:Nat->Nat->Bool) (num:Nat->Int) (h1:∀ i j,bt i j=true->num i<=num j) (h2:∀ i j,bt i j=false->num j<=num i):∀ k,argBest bt k<=k/\∀ j,j<=k->num (argBest bt k)<=num j
 | 0=>⟨Z4 _,fun j hj=>by
  have:j=0:=by lia
  subst this; exact aB _⟩
 | k + 1=>by
  obtain ⟨a1,a2⟩:=Jq bt num h1 h2 k;simp only [argBest];cases hc:bt (k + 1) (argBest bt k) with
  | true=>
   simp only [if_true];refine ⟨Z4 _,fun j hj=>?_⟩;have:=h1 _ _ hc;by_cases Nc:j<=k
   ·have:=a2 j Nc; lia
   ·have:j=k + 1:=by lia
    subst this; exact aB _
  | false=>
   simp only [ZY,if_false];refine ⟨eE a1,fun j hj=>?_⟩;by_cases Nc:j<=k
   ·exact a2 j Nc
   ·have:j=k + 1:=by lia
    subst this; exact h2 _ _ hc
def Jt (H:Hp) (v:V) (p:Int × Str):Prop:=∃ t,v=.ref t/\H t=some (.tup [.int p.1,.str p.2])
def Uz (H:Hp) (v:V) (k:(Int × Str) × Str):Prop:=∃ t t2,v=.ref t/\H t=some (.tup [.ref t2,.str k.2])/\Jt H (.ref t2) k.1
theorem Jt.same {H H':Hp} {v:V} {p:Int × Str} (h:Jt H v p) (s:∀ b xs,H b=some (.tup xs)->H' b=some (.tup xs)):Jt H' v p:=let ⟨t,e,z⟩:=h; ⟨t,e,s _ _ z⟩
theorem Uz.same {H H':Hp} {v:V} {p:(Int × Str) × Str} (h:Uz H v p) (s:∀ b xs,H b=some (.tup xs)->H' b=some (.tup xs)):Uz H' v p:=let ⟨t,t2,e,z,q⟩:=h; ⟨t,t2,e,s _ _ z,q.same s⟩
theorem Jt.at {X:Cx} {pins:List (Addr × Obj)} {σ:St} {H:Hp} {s:Shared} {v:V} {u:Value} {p:Int × Str} (I:Aw X pins σ H s) (r:AG v u) (h:Jt H v p):D4 s.heap u p:=by
 obtain ⟨t,rfl,ht⟩:=h;cases r
 obtain ⟨Ar,rv,pl,hz⟩:=I.tuple (A1.of ht);cases rv with
 | cons a1 b1=>
  cases b1 with
  | cons a2 b2=>
   cases b2
   obtain ⟨t1,rfl⟩:=a1;obtain ⟨t2,rfl⟩:=a2;exact ⟨t,t1,t2,rfl,pl⟩
theorem Uz.at {X:Cx} {pins:List (Addr × Obj)} {σ:St} {H:Hp} {s:Shared} {v:V} {u:Value} {k:(Int × Str) × Str} (I:Aw X pins σ H s) (r:AG v u) (h:Uz H v k):Ju s.heap u k:=by
 obtain ⟨t,l,rfl,ht,hp⟩:=h;cases r
 obtain ⟨Ar,rv,pl,hz⟩:=I.tuple (A1.of ht);cases rv with
 | cons a1 b1=>
  cases b1 with
  | cons a2 b2=>
   cases b2
   cases a1
   obtain ⟨t2,rfl⟩:=a2;exact ⟨t,l,t2,rfl,pl,hp.at I (show AG (V.ref l) (Value.ref l) from rfl)⟩
def D7 (p q:Int × Str):Prop:=p.1 < q.1\/(p.1=q.1/\¬ q.2.cps.toList < p.2.cps.toList)
theorem D7.refl (p:Int × Str):D7 p p:=.inr ⟨rfl,bW _⟩
theorem D7.trans {p q r:Int × Str} (h1:D7 p q) (h2:D7 q r):D7 p r:=by
 rcases h1 with a | ⟨a,b⟩ <;> rcases h2 with c | ⟨c,d⟩
 ·exact .inl (by lia)
 ·exact .inl (by lia)
 ·exact .inl (by lia)
 ·exact .inr ⟨by lia,bu.mpr (eW (bu.mp b) (bu.mp d))⟩
theorem D7.add {d d' l:Int} {s s':Str} (h:D7 (d,s) (d',s')):D7 (d + l,s) (d' + l,s'):=by
 rcases h with a | ⟨a,b⟩
 ·have a':d < d':=a;exact .inl (show d + l < d' + l by lia)
 ·have a':d=d':=a;exact .inr ⟨show d + l=d' + l by lia,b⟩
theorem D7.up {d d':Int} {s:Str} (h:d<=d'):D7 (d,s) (d',s):=by
 by_cases e:d=d'
 ·exact .inr ⟨e,bW _⟩
 ·exact .inl (show d < d' by lia)
theorem D7.fst {p q:Int × Str} (h:D7 p q):p.1<=q.1:=by
 rcases h with a | ⟨a,_⟩ <;> lia
theorem KZ {p q:Int × Str} (h:Pl p q=true):D7 p q:=by
 unfold Pl at h;by_cases e:(p.1 == q.1)=true
 ·have e':p.1=q.1:=by simpa using e
  rw [if_pos e] at h;by_cases e2:(p.2 == q.2)=true
  ·rw [if_pos e2] at h; cases h
  ·rw [if_neg e2] at h;exact .inr ⟨e',bA (by simpa using h)⟩
 ·rw [if_neg e] at h;exact .inl (by simpa using h)
theorem Lc {p q:Int × Str} (h:Pl p q=false):D7 q p:=by
 unfold Pl at h;by_cases e:(p.1 == q.1)=true
 ·have e':p.1=q.1:=by simpa using e
  rw [if_pos e] at h;by_cases e2:(p.2 == q.2)=true
  ·have Uq:p.2=q.2:=by simpa using e2
   exact .inr ⟨e'.symm,by rw [Uq]; exact bW _⟩
  ·rw [if_neg e2] at h;exact .inr ⟨e'.symm,by simpa using h⟩
 ·rw [if_neg e] at h;have e':¬ p.1=q.1:=by simpa using e
  have:¬ p.1 < q.1:=by simpa using h
  exact .inl (by lia)
theorem S8 {p q:(Int × Str) × Str} (h:TY p q=true):D7 p.1 q.1:=by
 unfold TY at h;by_cases e:decide (p.1=q.1)=true
 ·have:p.1=q.1:=by simpa using e
  rw [this]; exact D7.refl _
 ·rw [if_neg e] at h;exact KZ h
theorem S9 {p q:(Int × Str) × Str} (h:TY p q=false):D7 q.1 p.1:=by
 unfold TY at h;by_cases e:decide (p.1=q.1)=true
 ·have:p.1=q.1:=by simpa using e
  rw [this]; exact D7.refl _
 ·rw [if_neg e] at h;exact Lc h
theorem ES (bt:Nat->Nat->Bool) (num:Nat->Int × Str) (h1:∀ i j,bt i j=true->D7 (num i) (num j)) (h2:∀ i j,bt i j=false->D7 (num j) (num i)):∀ k,argBest bt k<=k/\∀ j,j<=k->D7 (num (argBest bt k)) (num j)
 | 0=>⟨Z4 _,fun j hj=>by
  have:j=0:=by lia
  subst this; exact D7.refl _⟩
 | k + 1=>by
  obtain ⟨a1,a2⟩:=ES bt num h1 h2 k;simp only [argBest];cases hc:bt (k + 1) (argBest bt k) with
  | true=>
   simp only [if_true];refine ⟨Z4 _,fun j hj=>?_⟩;by_cases Nc:j<=k
   ·exact (h1 _ _ hc).trans (a2 j Nc)
   ·have:j=k + 1:=by lia
    subst this; exact D7.refl _
  | false=>
   simp only [ZY,if_false];refine ⟨eE a1,fun j hj=>?_⟩;by_cases Nc:j<=k
   ·exact a2 j Nc
   ·have:j=k + 1:=by lia
    subst this; exact h2 _ _ hc
theorem Jo {X:Cx} (hc:X.calm=true) (hu:X.A.units + 64 < cLine):Bw X (.builtin "min") (fun xs H Q=>∃ (a:Addr) (vs:List V) (ks:List ((Int × Str) × Str)),xs=[.ref a]/\H a=some (.lst vs)/\vs.length=ks.length/\ks ≠ []/\(∀ (i:Nat) v k,vs[i]? = some v->ks[i]? = some k->Uz H v k) /\
  ∀ v k,k ∈ ks->Uz H v k->(∀ k' ∈ ks,D7 k.1 k'.1)->Q v H):=by
 intro pins s σ H xs us Q I r h;obtain ⟨a,vs,ks,rfl,ha,hl,hne,hk,q⟩:=h;obtain ⟨u,rfl,ru⟩:=Cv r;cases ru
 obtain ⟨Ar,rv,pl,hz⟩:=I.list (AS.of ha);have il:Ar.length=ks.length:=by rw [<-rv.length,hl]
 have pos:0 < ks.length:=bh.mpr hne;have kat:∀ (i:Nat) (v:Value),Ar[i]? = some v->∃ k,ks[i]? = some k/\Ju s.heap v k/\∃ x,vs[i]? = some x/\AG x v:=fun i v e=>by
  have hi:i < Ar.length:=(ZA.mp e).1;have e1:vs[i]? = some vs[i]:=Zy (by lia);have e2:ks[i]? = some ks[i]:=Zy (by lia);obtain ⟨v',e3,r3⟩:=rv.get e1;rw [e] at e3;cases e3
  exact ⟨_,e2,(hk i _ _ e1 e2).at I r3,_,e1,r3⟩
 refine Gy (bt:=fun i j=>TY (ks.getD i default) (ks.getD j default)) (I.ok.hd hc) pl.isList (by lia) (fun i j vi vj s' Q' E' g hi hj hQ=>?_) fun v h2 tk hv k2=>?_
 ·obtain ⟨ki,e1,a1,_⟩:=kat i vi hi;obtain ⟨kj,e2,a2,_⟩:=kat j vj hj;have d1:ks.getD i default=ki:=by rw [ZJ,e1]; rfl
  have d2:ks.getD j default=kj:=by rw [ZJ,e2]; rfl
  dsimp only at hQ;rw [d1,d2] at hQ;exact Vh (a1.keep g) (a2.keep g) (by rw [PySem.Around.in1_units]; lia) _ _ _ _ hQ
 ·obtain ⟨k,e1,a1,x,e3,r3⟩:=kat _ v hv;obtain ⟨b1,b2⟩:=ES (fun i j=>TY (ks.getD i default) (ks.getD j default)) (fun i=>(ks.getD i default).1) (fun _ _=>S8) (fun _ _=>S9) (Ar.length - 1);refine ⟨x,H,I.kept k2,r3,q x k (Z2 e1) (hk _ x k e3 e1) fun k' Ug=>?_⟩;obtain ⟨j,hj,ej⟩:=ZQ Ug;have:=b2 j (by lia);have d1:ks.getD (argBest (fun i j=>TY (ks.getD i default) (ks.getD j default)) (Ar.length - 1)) default=k:=by rw [ZJ,e1]; rfl
  have d2:ks.getD j default=k':=by rw [ZJ,Zy hj,ej]; rfl
  rw [d1,d2] at this;exact this
theorem JK {X:Cx} (hc:X.calm=true) (hu:X.A.units + 64 < cLine):Bw X (.builtin "min") (fun xs H Q=>∃ (x y:V) (p q:Int × Str),xs=[x,y]/\Jt H x p/\Jt H y q/\((D7 q p->Q y H)/\(D7 p q->Q x H))):=by
 intro pins s σ H xs us Q I r h;obtain ⟨x,y,p,q,rfl,hx,hy,q1,q2⟩:=h;obtain ⟨u,v,rfl,ru,rv⟩:=Nz r;have pu:=hx.at I ru;have pv:=hy.at I rv;refine Rm (bt:=fun i j=>Pl ([p,q].getD i default) ([p,q].getD j default)) (I.ok.hd hc) (fun i j vi vj s' Q' E' g hi hj hQ=>?_) fun z h2 tk hz k2=>?_
 ·have at':∀ (i:Nat) (vi:Value),[u,v][i]? = some vi->D4 s.heap vi ([p,q].getD i default):=fun i vi e=>by
   match i,e with
   | 0,e=>cases e; exact pu
   | 1,e=>cases e; exact pv
   | i + 2,e=>cases e
  exact KY ((at' i vi hi).keep g) ((at' j vj hj).keep g) (by rw [PySem.Around.in1_units]; lia) _ _ _ _ hQ
 ·have e:argBest (fun i j=>Pl ([p,q].getD i default) ([p,q].getD j default)) 1=if Pl q p=true then 1 else 0:=rfl
  rw [e] at hz;cases hl:Pl q p with
  | true=>
   rw [hl,if_pos rfl] at hz;cases hz
   exact ⟨y,H,I.kept k2,rv,q1 (KZ hl)⟩
  | false=>
   rw [hl,if_neg ZI] at hz;cases hz
   exact ⟨x,H,I.kept k2,ru,q2 (Lc hl)⟩
def BP (ws:List AI) (x y:Str) (l:Int):Prop:=∃ u ∈ ws,((u.1=x/\u.2.1=y)\/(u.1=y/\u.2.1=x))/\u.2.2=l
theorem BP.adj {ws:List AI} {x y:Str} {l:Int} (h:BP ws x y l):Lr ws x y:=let ⟨u,hu,e,_⟩:=h; ⟨u,hu,e⟩
theorem BP.symm {ws:List AI} {x y:Str} {l:Int} (h:BP ws x y l):BP ws y x l:=let ⟨u,hu,e,z⟩:=h; ⟨u,hu,e.symm,z⟩
inductive Bt (ws:List AI):Str->Str->Int->Prop
 | nil (x:Str):Bt ws x x 0
 | cons {x y z:Str} {l m:Int}:BP ws x y l->Bt ws y z m->Bt ws x z (l + m)
theorem Bt.app {ws:List AI} {x y z:Str} {m n:Int} (h:Bt ws x y m) (g:Bt ws y z n):Bt ws x z (m + n):=by
 induction h with
 | nil x=>rw [cJ]; exact g
 | cons e _ ih=>rw [cZ]; exact .cons e (ih g)
theorem Bt.snoc {ws:List AI} {x y z:Str} {m l:Int} (h:Bt ws x y m) (e:BP ws y z l):Bt ws x z (m + l):=by
 have:=h.app (.cons e (.nil z));rwa [dq] at this
theorem Bt.symm {ws:List AI} {x y:Str} {m:Int} (h:Bt ws x y m):Bt ws y x m:=by
 induction h with
 | nil x=>exact .nil x
 | @cons x y z l m e _ ih=>rw [Int.add_comm]; exact ih.snoc e.symm
theorem Bt.pos {ws:List AI} (hp:∀ u ∈ ws,1<=u.2.2) {x y:Str} {m:Int} (h:Bt ws x y m):0<=m:=by
 induction h with
 | nil x=>exact aB _
 | cons e _ ih=>
  obtain ⟨u,hu,_,rfl⟩:=e;have:=hp u hu;lia
def Nr (ws:List AI) (ss:List Str) (y:Str) (p:Int × Str):Prop:=(p.2 ∈ ss/\Bt ws p.2 y p.1)/\∀ s ∈ ss,∀ m,Bt ws s y m->D7 p (m,s)
structure Ts (ws:List AI) (ss:List Str) (S R:Str->Int × Str->Prop):Prop where
 near:∀ y p,S y p->Nr ws ss y p
 reach:∀ y p,R y p->p.2 ∈ ss/\Bt ws p.2 y p.1
 relax:∀ x p y l,S x p->BP ws x y l->(∃ q,S y q)\/∃ q,R y q/\D7 q (p.1 + l,p.2)
 start:∀ s ∈ ss,(∃ q,S s q)\/∃ q,R s q/\D7 q (0,s)
theorem Ts.out {ws:List AI} {ss:List Str} {S R:Str->Int × Str->Prop} (h:Ts ws ss S R) (hp:∀ u ∈ ws,1<=u.2.2) {x z:Str} {m:Int} (g:Bt ws x z m) (hz:∀ q,¬ S z q):∀ p,S x p->∃ y q,R y q/\D7 q (p.1 + m,p.2):=by
 induction g with
 | nil x=>intro p YS; exact absurd YS (hz p)
 | @cons x y z l m e g ih=>
  intro p hx;rcases h.relax x p y l hx e with ⟨q,hq⟩ | ⟨q,hq,le⟩
  ·obtain ⟨y',q',h1,h2⟩:=ih hz q hq;refine ⟨y',q',h1,h2.trans ?_⟩;have n1:=(h.near y q hq).2 p.2 (h.near x p hx).1.1 (p.1 + l) ((h.near x p hx).1.2.snoc e);have:=n1.add (l:=m);rw [cZ] at this;exact this
  ·exact ⟨y,q,hq,le.trans (D7.up (by have:=g.pos hp; lia))⟩
theorem Ts.pick {ws:List AI} {ss:List Str} {S R:Str->Int × Str->Prop} (h:Ts ws ss S R) (hp:∀ u ∈ ws,1<=u.2.2) {y:Str} {p:Int × Str} (hy:R y p) (ny:∀ q,¬ S y q) (least:∀ z q,R z q->D7 p q):Nr ws ss y p:=by
 refine ⟨h.reach y p hy,fun s hs m g=>?_⟩;rcases h.start s hs with ⟨q,hq⟩ | ⟨q,hq,le⟩
 ·obtain ⟨z,q',h1,h2⟩:=h.out hp g ny q hq;refine (least z q' h1).trans (h2.trans ?_);have n1:=(h.near s q hq).2 s hs 0 (.nil s);have:=(show D7 (q.1,q.2) (0,s) from n1).add (l:=m);rw [cJ] at this;exact this
 ·exact (least s q hq).trans (le.trans (D7.up (g.pos hp)))
theorem Ts.done {ws:List AI} {ss:List Str} {S R:Str->Int × Str->Prop} (h:Ts ws ss S R) (hR:∀ y p,¬ R y p) {r:Str} (hss:ss ≠ []) {ps:List Str} (con:∀ T:Str->Prop,T r->(∀ x y,Lr ws x y->T x->T y)->∀ x ∈ ps,T x)
  (Zu:∀ T:Str->Prop,∀ x ∈ ps,T x->(∀ x y,Lr ws x y->T x->T y)->T r) (sub:∀ s ∈ ss,s ∈ ps):∀ x ∈ ps,∃ q,S x q:=by
 have cl:∀ x y,Lr ws x y->(∃ q,S x q)->∃ q,S y q:=fun x y ⟨u,hu,e⟩ ⟨q,hq⟩=>by
  rcases h.relax x q y u.2.2 hq ⟨u,hu,e,rfl⟩ with z | ⟨q',hq',_⟩
  ·exact z
  ·exact absurd hq' (hR _ _)
 obtain ⟨s,hs⟩:=List.exists_mem_of_ne_nil ss hss;have s0:∃ q,S s q:=by
  rcases h.start s hs with z | ⟨q,hq,_⟩
  ·exact z
  ·exact absurd hq (hR _ _)
 exact con (fun x=>∃ q,S x q) (Zu (fun x=>∃ q,S x q) s (sub s hs) s0 cl) cl
theorem KH {a b:List (Str × V)} (h:sK a=sK b):a=b:=by
 unfold sK at h;exact dP (fun x y z=>by
  simp only [Prod.mk.injEq,Sum.inr.injEq] at z;exact Prod.ext z.1 z.2) |>.mp h
theorem HR {nv Ef:List (Str × V)} {y:Str} {v:V} (e:BG (sK nv) (Sum.inr y:Bm) v=sK Ef):∀ z x,(z,x) ∈ Ef ↔ (z=y/\x=v)\/(z ≠ y/\(z,x) ∈ nv):=by
 intro z x;by_cases h:y ∈ nv.map (·.1)
 ·have e2:BG (sK nv) (Sum.inr y:Bm) v=sK (nv.map fun q=>if q.1=y then (q.1,v) else q):=by
   unfold BG;have:((sK nv).any fun kv=>decide (kv.1=(Sum.inr y:Bm)))=true:=by rw [Cy,He,decide_eq_true h]
   rw [if_pos this];unfold sK;rw [az,az];refine bE fun q _=>?_
   by_cases e:q.1=y
   ·simp [e]
   ·have e':¬ (Sum.inr q.1:Bm)=Sum.inr y:=fun z=>e (Sum.inr.inj z)
    simp [e,e']
  rw [e2] at e;rw [<-KH e,ZD];constructor
  ·rintro ⟨q,hq,e⟩;by_cases eq:q.1=y
   ·rw [if_pos eq] at e;have e1:q.1=z:=congrArg Prod.fst e;have e3:v=x:=congrArg Prod.snd e;exact .inl ⟨by rw [<-e1,eq],e3.symm⟩
   ·rw [if_neg eq] at e;refine .inr ⟨?_,by rw [<-e]; exact hq⟩;rw [show z=q.1 from (congrArg Prod.fst e).symm]; exact eq
  ·rintro (⟨rfl,rfl⟩ | ⟨h1,h2⟩)
   ·obtain ⟨q,hq,e1⟩:=ZD.mp h;have Ur:q.1=z:=e1;exact ⟨q,hq,by rw [if_pos Ur,Ur]⟩
   ·exact ⟨(z,x),h2,by rw [if_neg h1]⟩
 ·rw [DO h] at e;rw [<-KH e,ZM];constructor
  ·rintro (h1 | h1)
   ·refine .inr ⟨?_,h1⟩;rintro rfl;exact h (ZD.mpr ⟨_,h1,rfl⟩)
   ·simp only [ZN,Prod.mk.injEq] at h1;exact .inl h1
  ·rintro (⟨rfl,rfl⟩ | ⟨_,h2⟩)
   ·exact .inr (by simp)
   ·exact .inl h2
theorem So (nv:List (Str × V)) (y:Str):Jh (sK nv) (Sum.inr y:Bm)=sK (nv.filter fun q=>decide (q.1 ≠ y)):=by
 unfold Jh sK;rw [List.filter_map];congr 1;refine List.filter_congr fun q _=>?_
 by_cases e:q.1=y
 ·simp [e]
 ·have e':¬ (Sum.inr q.1:Bm)=Sum.inr y:=fun z=>e (Sum.inr.inj z)
  simp [e,e']
def RW (H:Hp) (ps:List Str) (ds:List Addr) (Ed:Str->Str->Int->Prop):Prop:=∀ (i:Nat) (p:Str) (d:Addr) (nv:List (Str × V)),ps[i]? = some p->ds[i]? = some d->Rd H d (.dK (sK nv))->∀ y v,(y,v) ∈ nv->∃ l,v=.int l/\Ed p y l
theorem Rd.inj {H:Hp} {d:Addr} {a b:List (Str × V)} (h:Rd H d (.dK (sK a))) (g:Rd H d (.dK (sK b))):a=b:=by
 rcases h with h | ⟨o,h⟩ <;> rcases g with g | ⟨o',g⟩ <;> have e:=ZR.inj (h.symm.trans g)
 ·injection e with e; exact KH e
 ·exact nomatch e
 ·exact nomatch e
 ·injection e with _ e;injection e with e; exact KH e
theorem RW.put {H:Hp} {ps:List Str} {ds:List Addr} {Ed Ed':Str->Str->Int->Prop} (h:RW H ps ds Ed) (hn:ps.Nodup) (dn:ds.Nodup) {i:Nat} {p y:Str} {d:Addr} {l:Int} (e1:ps[i]? = some p) (e2:ds[i]? = some d) {nv Ef:List (Str × V)} (hd:H d=some (.dK (sK nv)))
  (ep:BG (sK nv) (Sum.inr y:Bm) (.int l)=sK Ef) (mono:∀ a b m,Ed a b m->Ed' a b m) (new:Ed' p y l):RW (upd H d (.dK (sK Ef))) ps ds Ed':=by
 intro j q c nw f1 f2 hr z v hz;by_cases hc:c=d
 ·subst hc;have ij:i=j:=Hl dn e2 f2;subst ij;rw [e1] at f1; cases f1;have:nw=Ef:=Rd.inj hr (.inl Ab);subst this;rcases (HR ep z v).mp hz with ⟨rfl,rfl⟩ | ⟨_,RS⟩
  ·exact ⟨l,rfl,new⟩
  ·obtain ⟨l',e,ed⟩:=h i _ c nv e1 e2 (.inl hd) z v RS;exact ⟨l',e,mono _ _ _ ed⟩
 ·have hr':Rd H c (.dK (sK nw)):=by
   rcases hr with g | ⟨o,g⟩
   ·exact .inl (by rw [Ae hc] at g; exact g)
   ·exact .inr ⟨o,by rw [Ae hc] at g; exact g⟩
  obtain ⟨l',e,ed⟩:=h j q c nw f1 f2 hr' z v hz;exact ⟨l',e,mono _ _ _ ed⟩
def Qz (K:Z1):Sp:=fun vs H Q _=>∃ (q:Addr) (ps:List Str) (ws:List AI) (r:Str),vs=[.ref q]/\Jr H q ps ws r /\
 ∀ (H':Hp) (B:Addr) (ds:List Addr),Ao H H'->NB H' B ps ds (Lr ws) 128->RW H' ps ds (BP ws)->H B=none->(∀ d ∈ ds,H d=none)->Q (.ref B) H'
theorem PI.or {X:Cx} {tg l:Expr} {w1 w2:TI} (h1:PI X tg l w1) (h2:PI X tg l w2):PI X tg l (fun σ H R=>w1 σ H R\/w2 σ H R):=by
 intro pins s σ H R I h;rcases h with h | h
 ·exact h1 (pins:=pins) s σ H R I h
 ·exact h2 (pins:=pins) s σ H R I h
def Np (H:Hp) (nv:List (Str × V)) (S:Str->Int × Str->Prop):Prop:=(nv.map (·.1)).Nodup/\(∀ y v,(y,v) ∈ nv->∃ p,Jt H v p/\S y p)/\∀ y p,S y p->∃ v,(y,v) ∈ nv/\Jt H v p
def Qy (K:Z1):Sp:=fun vs H Q _=>∃ (q st:Addr) (ps ss:List Str) (ws:List AI) (r:Str),vs=[.ref q,.ref st]/\Jr H q ps ws r/\(∀ u ∈ ws,1<=u.2.2)/\(∀ x y l l',BP ws x y l->BP ws x y l'->l=l')/\(H st=some (.lst (ss.map V.str))\/H st=some (.tup (ss.map V.str)))/\ss ≠ []/\ss.Nodup/\(∀ s ∈ ss,s ∈ ps) /\
 ∀ (H':Hp) (B:Addr) (nv:List (Str × V)),Ao H H'->H B=none->H' B=some (.dK (sK nv))->(nv.map (·.1)).Nodup->(∀ x,x ∈ nv.map (·.1) ↔ x ∈ ps)->(∀ y v,(y,v) ∈ nv->∃ p,Jt H' v p/\Nr ws ss y p)->Q (.ref B) H'
theorem Kb {nv:List (Str × V)} {y:Str} {v:V} (h:B4 (sK nv) (Sum.inr y:Bm)=some v):(y,v) ∈ nv:=by
 unfold B4 at h;cases e:(sK nv).find? (fun kv=>decide (kv.1=(Sum.inr y:Bm))) with
 | none=>rw [e] at h; cases h
 | some kv=>
  rw [e] at h;have h1:=List.find?_some e;have h2:=List.mem_of_find?_eq_some e;obtain ⟨q,hq,rfl⟩:=ZD.mp h2;have e1:q.1=y:=by
   have:(Sum.inr q.1:Bm)=Sum.inr y:=by simpa using h1
   exact Sum.inr.inj this
  have e2:q.2=v:=ZR.inj h;rw [<-e1,<-e2];exact hq
theorem PD {ws:List AI} {i:Nat} {a b:Str} {m:Int} (h:BP (ws.take i) a b m):BP (ws.take (i + 1)) a b m:=by
 obtain ⟨u,hu,e⟩:=h;rw [ZH];exact ⟨u,av _ hu,e⟩
theorem Ml {ws:List AI} {i:Nat} {u:AI} (h:ws[i]? = some u):BP (ws.take (i + 1)) u.1 u.2.1 u.2.2:=by
 rw [ZH,h];exact ⟨u,ZF _ (by simp),.inl ⟨rfl,rfl⟩,rfl⟩
theorem Jt.fn {H:Hp} {v:V} {p q:Int × Str} (h:Jt H v p) (g:Jt H v q):p=q:=by
 obtain ⟨t,rfl,e⟩:=h;obtain ⟨t',e',g⟩:=g;have:t=t':=by injection e'
 subst this;have z:=ZR.inj (e.symm.trans g);injection z with z;simp only [ck.injEq,V.int.injEq,V.str.injEq] at z;exact Prod.ext z.1 z.2.1
theorem NR.same {H H':Hp} {B:Addr} {ps:List Str} {ds:List Addr} {P:Str->Str->Prop} (h:NR H B ps ds P) (s:Ao H H'):NR H' B ps ds P:=
 ⟨s _ _ h.top,h.len,h.nd,h.nB,fun i p d e1 e2=>let ⟨nv,a1,a3⟩:=h.inner i p d e1 e2
  ⟨nv,(by rcases a1 with a | ⟨o,a⟩; exact .inl (s _ _ a); exact .inr ⟨o,s _ _ a⟩),a3⟩⟩
theorem RW.of {H H':Hp} {B:Addr} {ps:List Str} {ds:List Addr} {P:Str->Str->Prop} {Ed:Str->Str->Int->Prop} (h:RW H ps ds Ed) (nr:NR H B ps ds P) (k:∀ d ∈ ds,∀ nv:List (Str × V),Rd H d (.dK (sK nv))->Rd H' d (.dK (sK nv))):RW H' ps ds Ed:=by
 intro i p d nv e1 e2 hr y v hy;obtain ⟨nw,a1,_⟩:=nr.inner i p d e1 e2;have:=Rd.inj hr (k d (Z2 e2) nw a1);subst this;exact h i p d nv e1 e2 a1 y v hy
theorem Np.same {H H':Hp} {nv:List (Str × V)} {S:Str->Int × Str->Prop} (h:Np H nv S) (s:∀ b xs,H b=some (.tup xs)->H' b=some (.tup xs)):Np H' nv S:=
 ⟨h.1,fun y v hv=>let ⟨p,a,b⟩:=h.2.1 y v hv; ⟨p,a.same s,b⟩,fun y p hp=>let ⟨v,a,b⟩:=h.2.2 y p hp; ⟨v,a,b.same s⟩⟩
theorem Np.fn {H:Hp} {nv:List (Str × V)} {S:Str->Int × Str->Prop} (h:Np H nv S) {y:Str} {p q:Int × Str} (hp:S y p) (hq:S y q):p=q:=by
 obtain ⟨v,a,b⟩:=h.2.2 y p hp;obtain ⟨w,c,d⟩:=h.2.2 y q hq;have:=Qm h.1 a c;subst this;exact b.fn d
theorem Np.put {H:Hp} {nv Ef:List (Str × V)} {S:Str->Int × Str->Prop} {y:Str} {v:V} {p:Int × Str} (h:Np H nv S) (e:BG (sK nv) (Sum.inr y:Bm) v=sK Ef) (hv:Jt H v p):Np H Ef (fun z q=>(z=y/\q=p)\/(z ≠ y/\S z q)):=by
 refine ⟨Sn e h.1,fun z x hz=>?_,fun z q hq=>?_⟩
 ·rcases (HR e z x).mp hz with ⟨rfl,rfl⟩ | ⟨n,RS⟩
  ·exact ⟨p,hv,.inl ⟨rfl,rfl⟩⟩
  ·obtain ⟨q,a,b⟩:=h.2.1 z x RS;exact ⟨q,a,.inr ⟨n,b⟩⟩
 ·rcases hq with ⟨rfl,rfl⟩ | ⟨n,hq⟩
  ·exact ⟨v,(HR e _ _).mpr (.inl ⟨rfl,rfl⟩),hv⟩
  ·obtain ⟨x,a,b⟩:=h.2.2 z q hq;exact ⟨x,(HR e _ _).mpr (.inr ⟨n,a⟩),b⟩
theorem Np.drop {H:Hp} {nv:List (Str × V)} {S:Str->Int × Str->Prop} (h:Np H nv S) (y:Str):Np H (nv.filter fun q=>decide (q.1 ≠ y)) (fun z q=>z ≠ y/\S z q):=by
 refine ⟨Gw h.1 _,fun z x hz=>?_,fun z q hq=>?_⟩
 ·obtain ⟨a,b⟩:=aJ.mp hz;obtain ⟨q,c,d⟩:=h.2.1 z x a;exact ⟨q,c,by simpa using b,d⟩
 ·obtain ⟨n,hq⟩:=hq;obtain ⟨x,a,b⟩:=h.2.2 z q hq;exact ⟨x,aJ.mpr ⟨a,by simpa using n⟩,b⟩
structure NI (H H2:Hp) (ps:List Str) (ws:List AI) (B RA SA:Addr) (ds:List Addr) (nvR nvS:List (Str × V)) (S R:Str->Int × Str->Prop):Prop where
 same:Ao H H2
 nr:NR H2 B ps ds (Lr ws)
 nbv:RW H2 ps ds (BP ws)
 dR:H2 RA=some (.dK (sK nvR))
 dS:H2 SA=some (.dK (sK nvS))
 pR:Np H2 nvR R
 pS:Np H2 nvS S
 subR:∀ y ∈ nvR.map (·.1),y ∈ ps
 subS:∀ y ∈ nvS.map (·.1),y ∈ ps
section
variable {H H2 H3:Hp} {ps:List Str} {ws:List AI} {B RA SA:Addr} {ds:List Addr} {nvR nvS:List (Str × V)} {S R:Str->Int × Str->Prop}
theorem NI.grow (h:NI H H2 ps ws B RA SA ds nvR nvS S R) (s:Ao H2 H3):NI H H3 ps ws B RA SA ds nvR nvS S R:=
 ⟨h.same.trans s,h.nr.same s,h.nbv.of h.nr fun d _ nv z=>by rcases z with a | ⟨o,a⟩; exact .inl (s _ _ a); exact .inr ⟨o,s _ _ a⟩,s _ _ h.dR,s _ _ h.dS,h.pR.same fun b xs z=>s _ _ z,h.pS.same fun b xs z=>s _ _ z,h.subR,h.subS⟩
theorem NI.lenS (h:NI H H2 ps ws B RA SA ds nvR nvS S R):nvS.length<=ps.length:=by
 have:=Cg h.pS.1 h.subS;rwa [Z0] at this
theorem NI.lenR (h:NI H H2 ps ws B RA SA ds nvR nvS S R):nvR.length<=ps.length:=by
 have:=Cg h.pR.1 h.subR;rwa [Z0] at this
theorem NI.inS (h:NI H H2 ps ws B RA SA ds nvR nvS S R) {y:Str}:y ∈ nvS.map (·.1) ↔ ∃ q,S y q:=by
 constructor
 ·intro hy;obtain ⟨⟨z,v⟩,a,b⟩:=ZD.mp hy;have b':z=y:=b;subst b';obtain ⟨p,_,c⟩:=h.pS.2.1 z v a;exact ⟨p,c⟩
 ·rintro ⟨q,hq⟩;obtain ⟨v,a,_⟩:=h.pS.2.2 y q hq;exact ZD.mpr ⟨_,a,rfl⟩
theorem NI.inR (h:NI H H2 ps ws B RA SA ds nvR nvS S R) {y:Str}:y ∈ nvR.map (·.1) ↔ ∃ q,R y q:=by
 constructor
 ·intro hy;obtain ⟨⟨z,v⟩,a,b⟩:=ZD.mp hy;have b':z=y:=b;subst b';obtain ⟨p,_,c⟩:=h.pR.2.1 z v a;exact ⟨p,c⟩
 ·rintro ⟨q,hq⟩;obtain ⟨v,a,_⟩:=h.pR.2.2 y q hq;exact ZD.mpr ⟨_,a,rfl⟩
theorem NI.setR (h:NI H H2 ps ws B RA SA ds nvR nvS S R) (aR:RA ∉ ds/\RA ≠ B/\RA ≠ SA/\H RA=none) {Ef:List (Str × V)} {R':Str->Int × Str->Prop} (p':Np H2 Ef R') (sub:∀ y ∈ Ef.map (·.1),y ∈ ps):NI H (upd H2 RA (.dK (sK Ef))) ps ws B RA SA ds Ef nvS S R':=by
 have tu:∀ b xs,H2 b=some (.tup xs)->(upd H2 RA (.dK (sK Ef))) b=some (.tup xs):=fun b xs z=>by
  rw [Ae (CB z h.dR (by intro z; cases z))]; exact z
 exact ⟨fun b o z=>by rw [Ae (Ah z aR.2.2.2)]; exact h.same _ _ z,h.nr.other aR.1 aR.2.1,h.nbv.of h.nr fun d hd nv z=>z.ne (fun e=>aR.1 (by rw [<-e]; exact hd)),Ab,by rw [Ae (Ne.symm aR.2.2.1)]; exact h.dS,p'.same tu,h.pS.same tu,sub,h.subS⟩
theorem NI.setS (h:NI H H2 ps ws B RA SA ds nvR nvS S R) (aS:SA ∉ ds/\SA ≠ B/\SA ≠ RA/\H SA=none) {Ef:List (Str × V)} {S':Str->Int × Str->Prop} (p':Np H2 Ef S') (sub:∀ y ∈ Ef.map (·.1),y ∈ ps):NI H (upd H2 SA (.dK (sK Ef))) ps ws B RA SA ds nvR Ef S' R:=by
 have tu:∀ b xs,H2 b=some (.tup xs)->(upd H2 SA (.dK (sK Ef))) b=some (.tup xs):=fun b xs z=>by
  rw [Ae (CB z h.dS (by intro z; cases z))]; exact z
 exact ⟨fun b o z=>by rw [Ae (Ah z aS.2.2.2)]; exact h.same _ _ z,h.nr.other aS.1 aS.2.1,h.nbv.of h.nr fun d hd nv z=>z.ne (fun e=>aS.1 (by rw [<-e]; exact hd)),by rw [Ae (Ne.symm aS.2.2.1)]; exact h.dR,Ab,h.pR.same tu,p'.same tu,h.subR,sub⟩
theorem NI.frz (h:NI H H2 ps ws B RA SA ds nvR nvS S R) (aR:RA ∉ ds) (aS:SA ∉ ds) (fr:∀ d ∈ ds,H d=none) {i:Nat} {p:Str} {d:Addr} (e1:ps[i]? = some p) (e2:ds[i]? = some d) {nv:List (Str × V)} {o:Obj} (f:E3 H2 d (sK nv) o H3) (hP:∀ y,y ∈ nv.map (·.1) ↔ Lr ws p y):NI H H3 ps ws B RA SA ds nvR nvS S R:=by
 have dm:d ∈ ds:=Z2 e2;have tu:∀ b xs,H2 b=some (.tup xs)->H3 b=some (.tup xs):=fun b xs z=>by
  rw [f.ne (by
   rintro rfl;rcases f with ⟨g,_⟩ | ⟨g,_⟩ <;> (rw [z] at g; cases g))]
  exact z
 refine ⟨fun b u z=>by rw [f.ne (Ah z (fr d dm))]; exact h.same _ _ z,h.nr.freeze e1 e2 f hP,h.nbv.of h.nr fun c hc nw z=>?_,by rw [f.ne (fun z=>aR (by rw [z]; exact dm))]; exact h.dR,by rw [f.ne (fun z=>aS (by rw [z]; exact dm))]; exact h.dS,h.pR.same tu,h.pS.same tu,h.subR,h.subS⟩;by_cases hcd:c=d
 ·subst hcd;rcases f with ⟨g,e⟩ | ⟨g,e⟩
  ·have:=Rd.inj z (.inl g);subst this;exact .inr ⟨o,by rw [e]; exact Ab⟩
  ·rw [e]; exact z
 ·exact z.fz f hcd
end
theorem EO:entryFor table "dict.update.loop"=some Builtin.«dict.update.loop»:=entryFor_of_tree (by kernel_rfl)
theorem C3:plainId "dict.update.loop"=true:=by decide +kernel
def Ux (g0:Heap) (v:Value) (p:Str × V):Prop:=∃ a t u,v=.ref a/\IsTup g0 a #[.str p.1 t,u]/\AG p.2 u
section
variable {prog:Program} {w:World} {A:Around} {R:Result->Shared->Prop} {g0:Heap} {D it l:Addr} {vs:List Value} {ps:List (Str × V)}
end
section
variable {prog:Program} {w:World} {A:Around} {E:Value->Shared->Prop} {s:Shared}
end
theorem Md:∀ (b a:List (Str × V)),((a ++ b).map (·.1)).Nodup->IS (sK a) (sK b)=sK (a ++ b)
 | [],a,_=>by rw [bC]; rfl
 | q :: b,a,hn=>by
  have nq:q.1 ∉ a.map (·.1):=by
   rw [ZC,ZL] at hn;intro hm;exact (aI.mp hn).2.2 q.1 hm q.1 ZU rfl
  show IS (BG (sK a) (Sum.inr q.1) q.2) (sK b)=_
  rw [DO nq];have:=Md b (a ++ [(q.1,q.2)]) (by rw [aP]; exact hn);rw [this,aP];rfl
theorem QE:∀ {ws:List AI},(ws.Pairwise fun u v=>¬ Jv u v)->∀ {u v:AI},u ∈ ws->v ∈ ws->Jv u v->u=v
 | [],_,u,v,hu,_,_=>nomatch hu
 | a :: ws,h,u,v,hu,hv,al=>by
  obtain ⟨h1,h2⟩:=aM.mp h;rcases Z3.mp hu with e1 | XU
  ·rcases Z3.mp hv with e2 | YJ
   ·rw [e1,e2]
   ·exact absurd (by rw [<-e1]; exact al) (h1 v YJ)
  ·rcases Z3.mp hv with e2 | YJ
   ·refine absurd ?_ (h1 u XU);rw [<-e2];rcases al with ⟨a1,a2⟩ | ⟨a1,a2⟩
    ·exact .inl ⟨a1.symm,a2.symm⟩
    ·exact .inr ⟨a2.symm,a1.symm⟩
   ·exact QE h2 XU YJ al
theorem PB {ws:List AI} (h:ws.Pairwise fun u v=>¬ Jv u v) {x y:Str} {l l':Int} (e:BP ws x y l) (e':BP ws x y l'):l=l':=by
 obtain ⟨u,hu,a,rfl⟩:=e;obtain ⟨v,hv,b,rfl⟩:=e';have:u=v:=QE h hu hv (by
  rcases a with ⟨a1,a2⟩ | ⟨a1,a2⟩ <;> rcases b with ⟨b1,b2⟩ | ⟨b1,b2⟩
  ·exact .inl ⟨a1.trans b1.symm,a2.trans b2.symm⟩
  ·exact .inr ⟨a1.trans b2.symm,a2.trans b1.symm⟩
  ·exact .inr ⟨a1.trans b2.symm,a2.trans b1.symm⟩
  ·exact .inl ⟨a1.trans b1.symm,a2.trans b2.symm⟩)
 rw [this]
theorem Kr {ws GK:List AI} (p:GK.Perm (ws.map Er)) (x y:Str) (l:Int):BP GK x y l ↔ BP ws x y l:=by
 constructor
 ·rintro ⟨u,hu,h,e⟩;obtain ⟨v,hv,rfl⟩:=ZD.mp (p.mem_iff.mp hu);refine ⟨v,hv,?_,e⟩;rcases CG v with ⟨e1,e2⟩ | ⟨e1,e2⟩
  ·rw [e1,e2] at h; exact h
  ·rw [e1,e2] at h;rcases h with ⟨a,b⟩ | ⟨a,b⟩
   ·exact .inr ⟨b,a⟩
   ·exact .inl ⟨b,a⟩
 ·rintro ⟨v,hv,h,e⟩;refine ⟨Er v,p.mem_iff.mpr (ZD.mpr ⟨v,hv,rfl⟩),?_,e⟩;rcases CG v with ⟨e1,e2⟩ | ⟨e1,e2⟩
  ·rw [e1,e2]; exact h
  ·rw [e1,e2];rcases h with ⟨a,b⟩ | ⟨a,b⟩
   ·exact .inr ⟨b,a⟩
   ·exact .inl ⟨b,a⟩
theorem Qi {ws GK:List AI} (h:∀ x y l,BP GK x y l ↔ BP ws x y l) {x y:Str} {m:Int}:Bt GK x y m ↔ Bt ws x y m:=by
 constructor
 ·intro g;induction g with
  | nil x=>exact .nil x
  | cons e _ ih=>exact .cons ((h _ _ _).mp e) ih
 ·intro g;induction g with
  | nil x=>exact .nil x
  | cons e _ ih=>exact .cons ((h _ _ _).mpr e) ih
def Lq (ws:List AI) (x y:Str) (n:Int):Prop:=Bt ws x y n/\∀ m,Bt ws x y m->n<=m
theorem Nr.dst {ws:List AI} {x y:Str} {p:Int × Str} (h:Nr ws [x] y p):p.2=x/\Lq ws x y p.1:=by
 have e:p.2=x:=by simpa using h.1.1
 refine ⟨e,by rw [<-e]; exact h.1.2,fun m g=>(h.2 x (by simp) m g).fst⟩
theorem Lq.uniq {ws:List AI} {x y:Str} {n m:Int} (h:Lq ws x y n) (g:Lq ws x y m):n=m:=Int.le_antisymm (h.2 m g.1) (g.2 n h.1)
theorem Lq.symm {ws:List AI} {x y:Str} {n:Int} (h:Lq ws x y n):Lq ws y x n:=⟨h.1.symm,fun m g=>h.2 m g.symm⟩
inductive WI (ws:List AI) (I:Str->Prop):Str->Str->Int->Prop
 | edge {x y:Str} {l:Int}:BP ws x y l->WI ws I x y l
 | cons {x y z:Str} {l m:Int}:BP ws x y l->I y->WI ws I y z m->WI ws I x z (l + m)
theorem WI.pos {ws:List AI} (hp:∀ u ∈ ws,1<=u.2.2) {I:Str->Prop} {x y:Str} {m:Int} (h:WI ws I x y m):0<=m:=by
 induction h with
 | edge e=>obtain ⟨u,hu,_,rfl⟩:=e; have:=hp u hu; lia
 | cons e _ _ ih=>obtain ⟨u,hu,_,rfl⟩:=e; have:=hp u hu; lia
theorem WI.ends {ws:List AI} {xs:List Str} (he:∀ u ∈ ws,u.1 ∈ xs/\u.2.1 ∈ xs) {x y:Str} {l:Int} (e:BP ws x y l):x ∈ xs/\y ∈ xs:=by
 obtain ⟨u,hu,h,_⟩:=e;obtain ⟨a,b⟩:=he u hu;rcases h with ⟨rfl,rfl⟩ | ⟨rfl,rfl⟩
 ·exact ⟨a,b⟩
 ·exact ⟨b,a⟩
theorem WI.split {ws:List AI} (hp:∀ u ∈ ws,1<=u.2.2) {I J:Str->Prop} {k:Str} (hJ:∀ z,J z->I z\/z=k) {x y:Str} {m:Int} (h:WI ws J x y m):WI ws I x y m\/∃ m1 m2,WI ws I x k m1/\WI ws I k y m2/\m1 + m2<=m:=by
 induction h with
 | edge e=>exact .inl (.edge e)
 | @cons x a y l m e ha g ih=>
  by_cases hk:a=k
  ·subst hk;rcases ih with h | ⟨m1,m2,h1,h2,h3⟩
   ·exact .inr ⟨l,m,.edge e,h,aB _⟩
   ·have:=h1.pos hp;exact .inr ⟨l,m2,.edge e,h2,by lia⟩
  ·have hI:I a:=(hJ a ha).resolve_right hk;rcases ih with h | ⟨m1,m2,h1,h2,h3⟩
   ·exact .inl (.cons e hI h)
   ·exact .inr ⟨l + m1,m2,.cons e hI h1,h2,by lia⟩
theorem Bt.wi {ws:List AI} {xs:List Str} (he:∀ u ∈ ws,u.1 ∈ xs/\u.2.1 ∈ xs) {x y:Str} {m:Int} (h:Bt ws x y m):(x=y/\m=0)\/WI ws (· ∈ xs) x y m:=by
 induction h with
 | nil x=>exact .inl ⟨rfl,rfl⟩
 | @cons x a y l m e g ih=>
  rcases ih with ⟨rfl,rfl⟩ | h
  ·exact .inr (by rw [dq]; exact .edge e)
  ·exact .inr (.cons e (WI.ends he e).2 h)
structure FW (ws:List AI) (xs:List Str) (t:Nat) (M:Str->Str->Option Int):Prop where
 sound:∀ x y n,M x y=some n->Bt ws x y n
 comp:∀ x y m,WI ws (· ∈ xs.take t) x y m->∃ n,M x y=some n/\n<=m
 diag:∀ x ∈ xs,∃ n,M x x=some n/\n<=0
def Gg (M0 M:Str->Str->Option Int):Prop:=∀ x y n,M0 x y=some n->∃ n',M x y=some n'/\n'<=n
theorem Gg.refl (M:Str->Str->Option Int):Gg M M:=fun _ _ n h=>⟨n,h,aB _⟩
theorem Gg.trans {M0 M1 M2:Str->Str->Option Int} (h:Gg M0 M1) (g:Gg M1 M2):Gg M0 M2:=fun x y n e=>by
 obtain ⟨n1,e1,l1⟩:=h x y n e;obtain ⟨n2,e2,l2⟩:=g x y n1 e1;exact ⟨n2,e2,by lia⟩
theorem FW.next {ws:List AI} (hp:∀ u ∈ ws,1<=u.2.2) {xs:List Str} (he:∀ u ∈ ws,u.1 ∈ xs/\u.2.1 ∈ xs) {t:Nat} {k:Str} (hk:xs[t]? = some k) {M0 M:Str->Str->Option Int} (h:FW ws xs t M0) (mo:Gg M0 M) (so:∀ x y n,M x y=some n->Bt ws x y n)
  (via:∀ x ∈ xs,∀ y ∈ xs,∀ n1 n2,M0 x k=some n1->M0 k y=some n2->∃ n,M x y=some n/\n<=n1 + n2):FW ws xs (t + 1) M:=by
 refine ⟨so,fun x y m g=>?_,fun x hx=>?_⟩
 ·have ex:x ∈ xs/\y ∈ xs:=by
   clear mo so via h;induction g with
   | edge e=>exact WI.ends he e
   | cons e _ _ ih=>exact ⟨(WI.ends he e).1,ih.2⟩
  rcases g.split hp (I:=(· ∈ xs.take t)) (k:=k) (fun z hz=>by
   rw [ZH,hk] at hz;rcases ZM.mp hz with hz | hz
   ·exact .inl hz
   ·exact .inr (by simpa using hz)) with g | ⟨m1,m2,g1,g2,le⟩
  ·obtain ⟨n,e,l⟩:=h.comp x y m g;obtain ⟨n',e',l'⟩:=mo x y n e;exact ⟨n',e',by lia⟩
  ·obtain ⟨n1,e1,l1⟩:=h.comp x k m1 g1;obtain ⟨n2,e2,l2⟩:=h.comp k y m2 g2;obtain ⟨n,e,l⟩:=via x ex.1 y ex.2 n1 n2 e1 e2;exact ⟨n,e,by lia⟩
 ·obtain ⟨n,e,l⟩:=h.diag x hx;obtain ⟨n',e',l'⟩:=mo x x n e;exact ⟨n',e',by lia⟩
def MD (H:Hp) (A:Addr) (M:Str->Str->Option Int) (c:Nat):Prop:=∃ kvs:List (List Bm × V),H A=some (.dT kvs)/\kvs.length<=c/\∀ x y,B4 kvs [Sum.inr x,Sum.inr y]=(M x y).map V.int
theorem MD.same {H H':Hp} {A:Addr} {M:Str->Str->Option Int} {c:Nat} (h:MD H A M c) (s:Ao H H'):MD H' A M c:=let ⟨kvs,a,b,d⟩:=h; ⟨kvs,s _ _ a,b,d⟩
theorem MD.get {H:Hp} {A t:Addr} {M:Str->Str->Option Int} {c:Nat} (h:MD H A M c) {x y:Str} (ht:H t=some (.tup [.str x,.str y])):Cw H A (.ref t) ((M x y).map V.int):=by
 obtain ⟨kvs,a,_,d⟩:=h;rw [<-d x y];exact Cw.t (k:=[Sum.inr x,Sum.inr y]) a ht
def KA (M:Str->Str->Option Int) (x y:Str) (n:Int):Str->Str->Option Int:=fun a b=>if a=x/\b=y then some n else M a b
def Q3 (K:Z1):Sp:=fun vs H Q _=>∃ (q:Addr) (ps:List Str) (ws:List AI) (r x:Str),vs=[.ref q,.str x]/\Jr H q ps ws r/\(∀ u ∈ ws,1<=u.2.2)/\(∀ x y l l',BP ws x y l->BP ws x y l'->l=l')/\x ∈ ps /\
 ∀ (H':Hp) (B:Addr) (nv:List (Str × V)),Ao H H'->H B=none->H' B=some (.dK (sK nv))->nv.map (·.1)=ps->(∀ y v,(y,v) ∈ nv->∃ n,v=.int n/\Lq ws x y n)->Q (.ref B) H'
end L2
namespace L2
open PySem PySem.Spec PySem.W PyProof.Rows
def wk (u:AI):List J1:=[.s u.1,.s u.2.1,.i u.2.2]
theorem Qk {H:Hp} {v:V} {u:AI} (h:Gi H v (EB u)):Lk H (fun i=>decide (i < 2)) v/\JE H v=wk u:=by
 obtain ⟨w,t,e1,rfl,ht⟩:=ER (i:=0) (ws:=[u]) (AE.cons h .nil) rfl;cases e1
 exists ⟨t,_,rfl,ht,by simp,fun i y e=>?_⟩
 ·unfold K1;match i,e with
  | 0,e=>cases e; simp
  | 1,e=>cases e; simp
  | 2,e=>cases e; simp
  | n + 3,e=>simp at e
 ·show (match H t with | some (.tup ys)=>ys.map Ly | _=>[])=_
  rw [ht];rfl
theorem JQ {H:Hp}:∀ {vs:List V} {ws:List AI},AE H vs (ws.map EB)->(∀ v ∈ vs,Lk H (fun i=>decide (i < 2)) v)/\vs.map (JE H)=ws.map wk
 | _,[],.nil=>⟨(fun v hv=>nomatch hv),rfl⟩
 | _,u :: ws,.cons h r=>by
  obtain ⟨a1,a2⟩:=Qk h;obtain ⟨b1,b2⟩:=JQ r;refine ⟨fun v hv=>?_,by rw [ZL,ZL,a2,b2]⟩;rcases Z3.mp hv with rfl | hv
  ·exact a1
  ·exact b1 v hv
theorem HY:∀ {ns:List Int} {us:List Value},AD (ns.map V.int) us->∀ (i:Nat) (v:Value),us[i]? = some v->∃ n t,ns[i]? = some n/\v=Value.int n t
 | [],_,.nil,i,v,e=>by simp at e
 | n :: ns,_,.cons r1 r2,0,v,e=>by
  obtain ⟨t,rfl⟩:=r1;simp only [au,ZR.injEq] at e;exact ⟨n,t,rfl,e.symm⟩
 | n :: ns,_,.cons r1 r2,i + 1,v,e=>by simpa using HY r2 i v (by simpa using e)
end L2
namespace L2
open PySem PySem.Spec PyProof.Rows
def Au (a b c:Int):List V:=[.int a,.int b,.int c]
theorem KL (a b c:Int):Gk (Au a b c) 0=some (.int a):=rfl
theorem US (a b c:Int):Gk (Au a b c) 1=some (.int b):=rfl
theorem MI (a b c:Int):Gk (Au a b c) 2=some (.int c):=rfl
def Ax (H:Hp) (p:Addr):Prop:=∃ a b c:Int,H p=some (.lst (Au a b c))
theorem Ax.set {H:Hp} {p:Addr} (a b c:Int):Ax (upd H p (.lst (Au a b c))) p:=⟨a,b,c,Ab⟩
theorem Ax.other {H:Hp} {p D:Addr} {o:HO} (h:Ax H p) (ne:D ≠ p):Ax (upd H D o) p:=by
 obtain ⟨a,b,c,e⟩:=h;exact ⟨a,b,c,by rw [Ae ne.symm]; exact e⟩
theorem Ax.ne {H:Hp} {p q:Addr} (h:Ax H p) (e:H q=none):q ≠ p:=by
 obtain ⟨a,b,c,h⟩:=h;intro z; subst z; rw [h] at e; cases e
theorem E6 {α:Type}:∀ {ys:List α} {k:Nat} {y:α},ys[k]? = some y->(y :: ys.eraseIdx k).Perm ys
 | [],k,y,e=>by simp at e
 | x :: ys,0,y,e=>by
  simp at e;subst e;exact List.Perm.refl _
 | x :: ys,k + 1,y,e=>by
  simp at e;exact (List.Perm.swap x y _).trans ((E6 e).cons x)
theorem Gz {α β:Type} (f:α->β):∀ (ys:List α) (k:Nat),(ys.map f).eraseIdx k=(ys.eraseIdx k).map f
 | [],k=>by simp
 | x :: ys,0=>rfl
 | x :: ys,k + 1=>by
  show f x :: (ys.map f).eraseIdx k=f x :: (ys.eraseIdx k).map f
  rw [Gz f ys k]
theorem L5:∀ {ss:List Str} {us:List Value},AD (ss.map V.str) us->StrsAre us ss
 | [],_,.nil=>.nil
 | _ :: _,_,.cons r q=>by
  obtain ⟨t,rfl⟩:=r;exact .cons _ t (L5 q)
theorem S6 {X:Cx}:MtM X "str.join" (fun x vs H Q=>∃ (z:Str) (a:Addr) (ss:List Str),x=.str z/\vs=[.ref a]/\H a=some (.lst (ss.map V.str))/\z.length<=16/\(ss.map (·.length)).sum + ss.length<=1048576/\Q (.str (Txt.join z ss)) H):=by
 intro pins s σ H x vs v us Q I rx rv h;obtain ⟨z,a,ss,rfl,rfl,hH,hz,hw,q⟩:=h;obtain ⟨t,rfl⟩:=rx;obtain ⟨u,rfl,ru⟩:=rv.one;cases ru
 obtain ⟨_,Ar,n,r,_,e⟩:=I.lstM hH;refine join_listW (ys:=ss) ⟨_,e,rfl,n,rfl⟩ (by rw [List.toList_toArray]; exact L5 r) hz hw fun t' k=>?_
 exact ⟨.str (Txt.join z ss),H,I.tok k,⟨t',rfl⟩,q⟩
theorem Mf (ss:List Str):(Txt.join (Str.ofString "") ss).cps.toList=(ss.map fun s=>s.cps.toList).flatten:=by
 unfold Txt.join;rw [PySem.StrLaws.glued_eq_join];induction ss with
 | nil=>rfl
 | cons x r ih=>
  cases r with
  | nil=>
   show x.cps.toList=_
   simp
  | cons y r=>
   have e:Str.join (Str.ofString "") (x :: y :: r)=x ++ Str.ofString "" ++ Str.join (Str.ofString "") (y :: r):=rfl;rw [e,ZL,e6,<-ih];show ((x.cps ++ #[]) ++ (Str.join (Str.ofString "") (y :: r)).cps).toList=_
   simp
theorem Ru {ss:List Str} (h:∀ s ∈ ss,s.length=1/\Tq s):Tq (Txt.join (Str.ofString "") ss)/\(Txt.join (Str.ofString "") ss).length=ss.length/\(ss.map (·.length)).sum=ss.length:=by
 have e:∀ l:List Str,(∀ s ∈ l,s.length=1/\Tq s)->((l.map fun s=>s.cps.toList).flatten).length=l.length/\(l.map (·.length)).sum=l.length:=by
  intro l;induction l with
  | nil=>intro _; exact ⟨rfl,rfl⟩
  | cons x r ih=>
   intro h;obtain ⟨i1,i2⟩:=ih fun s hs=>h s (ZO _ hs)
   have hx:x.cps.size=1:=(h x (ZU ..)).1;constructor
   ·rw [ZL,e6,Z7,i1,ZT,hx,aq];lia
   ·rw [ZL,cV,i2,aq];show x.cps.size + r.length=r.length + 1
    lia
 refine ⟨fun c hc=>?_,?_,(e ss h).2⟩
 ·rw [Mf] at hc;obtain ⟨l,hl,hcl⟩:=List.mem_flatten.mp hc;obtain ⟨s,hs,rfl⟩:=ZD.mp hl;exact (h s hs).2 c hcl
 ·show (Txt.join (Str.ofString "") ss).cps.size=_
  rw [<-ZT,Mf];exact (e ss h).1
theorem LZ {xs:List Str} {hd:List Nat} {f:Nat->List Nat} (h:∀ i x,xs[i]? = some x->∃ tl,x.cps.toList=hd ++ (f i ++ tl)) (hf:∀ i j,i < j->j < xs.length->∀ tl U9,f i ++ tl ≠ f j ++ U9):xs.Nodup:=by
 refine aN.mpr fun i j hi hj hij e=>?_
 obtain ⟨tl,h1⟩:=h i _ (Zy hi);obtain ⟨U9,h2⟩:=h j _ (Zy hj);rw [e,h2] at h1;exact hf i j hij hj tl U9 (List.append_cancel_left h1).symm
def OW (n:Nat) (st sp:Int) (k:Nat):List Nat:=if 26 < n then [97 + ((st + sp * k) % 26).toNat,97 + k / 26] else [97 + ((st + sp * k) % 26).toNat]
theorem Va {n:Nat} {st sp:Int} (hn:n<=52) (hs:sp ∈ ([1,3,5,7,9,11,15,17]:List Int)) {i j:Nat} (hij:i < j) (hj:j < n) (tl U9:List Nat):OW n st sp i ++ tl ≠ OW n st sp j ++ U9:=by
 have key:((st + sp * i) % 26).toNat=((st + sp * j) % 26).toNat->(j - i) % 26=0:=by
  intro e;have e2:(st + sp * i) % 26=(st + sp * j) % 26:=by
   have a1:=bp (st + sp * i) (show (26:Int) ≠ 0 by decide);have a2:=bp (st + sp * j) (show (26:Int) ≠ 0 by decide);lia
  have g:Int.gcd 26 sp=1:=by
   simp only [Z3,Z8,or_false] at hs;rcases hs with rfl | rfl | rfl | rfl | rfl | rfl | rfl | rfl <;> rfl
  have d:(26:Int) ∣ sp * ((j:Int) - i):=by
   refine Int.dvd_of_emod_eq_zero ?_;have e3:sp * ((j:Int) - i)=(st + sp * j) - (st + sp * i):=by rw [Int.mul_sub]; lia
   rw [e3,Int.sub_emod,e2,Int.sub_self];rfl
  have d2:(26:Int) ∣ (j:Int) - i:=by
   rw [Int.mul_comm] at d;have e4:Nat.gcd 26 sp.natAbs=1:=g;have e5:(26:Nat) ∣ ((j:Int) - i).natAbs * sp.natAbs:=by rw [<-Int.natAbs_mul]; exact dE.mpr d
   exact dE.mp (Nat.Coprime.dvd_of_dvd_mul_right e4 e5)
  lia
 intro e;unfold OW at e;by_cases h:26 < n
 ·rw [if_pos h,if_pos h] at e;simp only [cK,eK,ck.injEq] at e;have:=key (by lia);lia
 ·rw [if_neg h,if_neg h] at e;simp only [cK,eK,ck.injEq] at e;have:=key (by lia);lia
theorem Et {i:Int} (h0:0<=i) (h1:i < 26):Gk FU.cps.toList i=some (97 + i.toNat):=by
 obtain ⟨n,rfl⟩:∃ n:Nat,i=(n:Int):=⟨i.toNat,by lia⟩
 have:∀ m:Fin 26,Gk FU.cps.toList (m.val:Int)=some (97 + ((m.val:Int)).toNat):=by decide +kernel
 exact this ⟨n,by lia⟩
theorem len1 {α:Type} {l:List α} (h:l.length=1):∃ a,l=[a]:=List.length_eq_one_iff.mp h
theorem lenS {α:Type} {n:Nat} {l:List α} (h:l.length=n + 1):∃ a r,l=a :: r/\r.length=n:=by
 cases l with
 | nil=>cases h
 | cons a r=>exact ⟨a,r,rfl,fk.inj h⟩
theorem len2 {α:Type} {l:List α} (h:l.length=2):∃ a b,l=[a,b]:=by
 obtain ⟨a,r,rfl,hr⟩:=lenS h;obtain ⟨b,rfl⟩:=len1 hr;exact ⟨a,b,rfl⟩
theorem len3 {α:Type} {l:List α} (h:l.length=3):∃ a b c,l=[a,b,c]:=by
 obtain ⟨a,r,rfl,hr⟩:=lenS h;obtain ⟨b,c,rfl⟩:=len2 hr;exact ⟨a,b,c,rfl⟩
theorem len4 {α:Type} {l:List α} (h:l.length=4):∃ a b c d,l=[a,b,c,d]:=by
 obtain ⟨a,r,rfl,hr⟩:=lenS h;obtain ⟨b,c,d,rfl⟩:=len3 hr;exact ⟨a,b,c,d,rfl⟩
theorem len5 {α:Type} {l:List α} (h:l.length=5):∃ a b c d e,l=[a,b,c,d,e]:=by
 obtain ⟨a,r,rfl,hr⟩:=lenS h;obtain ⟨b,c,d,e,rfl⟩:=len4 hr;exact ⟨a,b,c,d,e,rfl⟩
section
variable {K:Type} [DecidableEq K] [BEq K] [LawfulBEq K]
def met (val:Nat->K) (i:Nat):List K:=((ai i).map val).foldl step_dedup []
theorem IQ (val:Nat->K) (i:Nat):met val (i + 1)=step_dedup (met val i) (val i):=by
 unfold met; rw [List.range_succ,ZC,List.foldl_append]; rfl
theorem O9 (σ:List K) (v k:K):(step_dedup σ v).any (· == k)=(σ.any (· == k) || decide (k=v)):=by
 unfold step_dedup;by_cases h:σ.any (· == v)=true
 ·rw [if_pos h];by_cases e:k=v
  ·subst e; rw [h]; simp
  ·simp [e]
 ·rw [if_neg h,List.any_append];by_cases e:k=v
  ·subst e; simp
  ·have hb:(v == k)=false:=by simpa [beq_iff_eq] using (fun h':v=k=>e h'.symm)
   simp [hb,e]
theorem FF (σ:List K) (v:K):(step_dedup σ v).length=if σ.any (· == v) then σ.length else σ.length + 1:=by
 unfold step_dedup; split <;> simp
theorem DR (val:Nat->K):∀ i,(met val i).length<=i
 | 0=>Z4 _
 | i + 1=>by
  rw [IQ,FF];have ih:=DR val i;split <;> lia
end
section
variable {prog:Program} {w:World} {A:Around} {R:Result->Shared->Prop} {I:Addr} {fp wr:List Addr} {G:Array GenState->Array GenState->Prop} {n:Nat} {P:Nat->Value->Prop} {St:Nat->Shared->Prop}
variable {K:Type} [DecidableEq K] [BEq K] [LawfulBEq K] {knd:KeyKind prog w K}
end
section
variable {prog:Program} {w:World} {A:Around} {E:Value->Shared->Prop} {s:Shared}
variable {K:Type} [DecidableEq K] [BEq K] [LawfulBEq K] {knd:KeyKind prog w K}
open PySem.F in
end
theorem Mc (ss:List Str):met (fun i=>ss.getD i (Str.ofString "")) ss.length=ss.foldl step_dedup []:=by
 unfold met;congr 1;refine cL (by simp) fun i h1 h2=>?_
 simp [ZJ,Zy h2]
theorem Rt {mask finger moves:Nat} {led plain:Bool} {hs:Array Int} {t:SetTable} {o:Array Nat} (h:SetTable.laid mask finger moves led plain hs=some (t,o)):t.led=led/\t.plain=plain:=by
 unfold SetTable.laid at h;cases e:SetTable.layClean mask hs with
 | none=>rw [e] at h; cases h
 | some ow=>
  rw [e] at h;injection h with h;injection h with h1 h2;subst h1;exact ⟨rfl,rfl⟩
theorem ON (t:SetTable) (es:Array (Int × Value)) (wanted:Nat):(relayAll t es wanted).2.1.led=t.led/\(t.plain=false->(relayAll t es wanted).2.1.plain=false):=by
 unfold relayAll;split
 ·rename_i t' order e
  have:=Rt e;dsimp only;split
  ·exact ⟨this.1,fun z=>this.2.trans z⟩
  ·exact ⟨rfl,fun _=>rfl⟩
 ·exact ⟨rfl,fun _=>rfl⟩
theorem SF (t:SetTable) (es:Array (Int × Value)) (h:Int) (x:Value):(layNew t es h x).2.1.led=t.led:=by
 unfold layNew;split
 ·dsimp only;unfold SetTable.orStandIn;split <;> rfl
 ·rfl
section
variable {prog:Program} {w:World} {A:Around} {E:Value->Shared->Prop} {s:Shared}
def Tab (w:World) (es:Array (Int × Value)) (t:SetTable):Prop:=t.led=(!w.params.followText "set-order")/\(0 < es.size->t.plain=false)
def D9 (prog:Program) (w:World) (h:Heap) (a:Addr) (S:Str->Bool) (n:Nat):Prop:=
 ∃ o es ep t,h.get? a=some o/\o.ExactSet/\o.data=.set es ep t/\ElemsOf (PySem.strKind prog w) es.toList/\(∀ k,S k=true ↔ ∃ e ∈ es.toList,(PySem.strKind prog w).is k e.2=true) /\
  es.size < scanBound/\t.fits es.size=true/\es.size=n/\Tab w es t
theorem QD {a:Addr} {S:Str->Bool} {n:Nat} {k:Str} {tk:Tok} {Q:Bool->Shared->Prop} (hS:D9 prog w s.heap a S n) (room:n + 1 < scanBound)
  (h:∀ h',Heap.SameBut a s.heap h'->D9 prog w h' a (fun k'=>S k' || decide (k'=k)) (if S k then n else n + 1)->Q (!S k) { s with heap:=h' }) :
  wpAny (model prog w) A (setAddHashed a (.str k tk) ((PySem.strKind prog w).hash k)) Q E s:=by
 obtain ⟨o,es,ep,t,ho,ex,hd,el,mem,few,fit,hn,tab⟩:=hS;have is:(PySem.strKind prog w).is k (.str k tk)=true:=by simp [PySem.strKind,Value.isStrOf]
 have sc:(Value.str k tk).scannable=true:=rfl;have Vy:es.size + 1 < scanBound:=by lia
 unfold setAddHashed setAddHashedIn;refine wpAny_holding (wpAny_bind (wpAny_setState_of ho hd fit ?_));dsimp only;rw [if_pos (byScan_of sc few el)];unfold setAddByScan;refine wpAny_bind (wpAny_bind (wpAny_rule (wpAny_bind (wpAny_setScan_of is ho hd fit el ?_))));cases hr:List.findIdx? (fun e=>(PySem.strKind prog w).is k e.2) es.toList with
 | some j=>
  obtain ⟨hj,pj,_⟩:=List.findIdx?_eq_some_iff_getElem.mp hr;have there:S k=true:=(mem k).mpr ⟨es.toList[j],ar hj,pj⟩;refine wpAny_pure (wpAny_pure ?_);have q:=h s.heap (Heap.SameBut.refl a s.heap) ⟨o,es,ep,t,ho,ex,hd,el,fun k'=>?_,few,fit,by rw [there]; exact hn,tab⟩
  ·rw [there] at q; exact q
  ·rw [Bool.or_eq_true,decide_eq_true_eq,<-mem k'];exact ⟨fun z=>z.elim id fun e=>e ▸ there,.inl⟩
 | none=>
  have gone:S k=false:=by
   cases z:S k with
   | false=>rfl
   | true=>
    obtain ⟨e,he,hp⟩:=(mem k).mp z;have:=List.findIdx?_eq_none_iff.mp hr e he;rw [hp] at this;cases this
  dsimp only;have pm:=layNew_perm t es ((PySem.strKind prog w).hash k) (.str k tk);have ft:=layNew_fits t es ((PySem.strKind prog w).hash k) (.str k tk);have ld:=SF t es ((PySem.strKind prog w).hash k) (.str k tk);generalize layNew t es ((PySem.strKind prog w).hash k) (.str k tk)=L at pm ft ld ⊢;obtain ⟨Jx,t1,dum,gv⟩:=L;dsimp only at pm ft ld ⊢;rw [dQ] at pm;have el1:=(el.push is sc).perm pm;have Wu:=mem_push_iff is mem pm;have z1:Jx.size=n + 1:=by rw [<-ZT,pm.length_eq,Z7,ZT,hn]; rfl
  have Vx:Jx.size < scanBound:=by lia
  have fin:∀ (Qb:Array (Int × Value)) (t2:SetTable) (h':Heap) (o':Obj) (Up:Nat),Heap.SameBut a s.heap h'->h'.get? a=some o'->o'.ExactSet->o'.data=.set Qb Up t2->Qb.toList.Perm Jx.toList->t2.fits Qb.size=true->t2.led=t.led->t2.plain=false->Q true { s with heap:=h' }:=by
   intro Qb t2 h' o' Up sb g x d p f l pl;have z2:Qb.size=n + 1:=by rw [<-z1,<-ZT,p.length_eq,ZT]
   have q:=h h' sb ⟨o',Qb,Up,t2,g,x,d,el1.perm p,fun k'=>(Wu k').trans ⟨fun ⟨e,he,r⟩=>⟨e,p.mem_iff.mpr he,r⟩,fun ⟨e,he,r⟩=>⟨e,p.mem_iff.mp he,r⟩⟩,by lia,f,by rw [gone]; exact z2,l.trans tab.1,fun _=>pl⟩;rw [gone] at q;exact q
  have gw:∀ (b:Bool) {AU:Shared} {R:Unit->Shared->Prop},R () AU->wpAny (model prog w) A (match b with | true=>rule "set.scan.the-table-gave-way" | false=>pure ()) R E AU:=fun b AU R q=>by cases b <;> first | exact wpAny_pure q | exact wpAny_rule q
  refine wpAny_bind (gw gv ?_);have main:∀ t2:SetTable,t2.fits Jx.size=true->t2.led=t.led->t2.plain=false->wpAny (model prog w) A (do
    storeSet a Jx t2
    if (!dum && t2.tooFull)=true then do
      (match (relayAll t2 Jx (SetTable.grown Jx.size)).2.2 with | true=>rule "set.scan.the-table-gave-way" | false=>pure ())
      storeSet a (relayAll t2 Jx (SetTable.grown Jx.size)).1 (relayAll t2 Jx (SetTable.grown Jx.size)).2.1
      pure (some true)
     else pure (some true)) (fun r s'=>r=some true/\Q true s') E s:=by
   intro t2 f2 l2 p2;refine wpAny_bind (wpAny_storeSet_of ho hd ?_ (fits_of_scanBound Vx));obtain ⟨g1,_⟩:=SetOf_store (knd:=PySem.strKind prog w) ho ex hd el1 Wu Vx f2;have sb1:=Heap.SameBut.update s.heap a (Obj.putSet Jx t2);split
   ·have pr:=relayAll_perm t2 Jx (SetTable.grown Jx.size);have fr:=relayAll_fits t2 Jx (SetTable.grown Jx.size);have lr:=ON t2 Jx (SetTable.grown Jx.size);generalize relayAll t2 Jx (SetTable.grown Jx.size)=R at pr fr lr ⊢;obtain ⟨Qb,t3,gv2⟩:=R;dsimp only at pr fr lr ⊢;have z2:Qb.size=Jx.size:=by rw [<-ZT,pr.length_eq,ZT]
    refine wpAny_bind (gw gv2 ?_);refine wpAny_bind (wpAny_storeSet_of g1 rfl ?_ (fits_of_scanBound (by rw [z2]; exact Vx)));have g2:=ah (Obj.putSet Qb t3) g1 (by rw [putSet_of Qb t3 rfl]; rfl);rw [putSet_of Qb t3 rfl] at g2;exact wpAny_pure ⟨rfl,fin Qb t3 _ _ _ (sb1.trans (Heap.SameBut.update _ a _)) g2 ex rfl pr fr (lr.1.trans l2) (lr.2 p2)⟩
   ·exact wpAny_pure ⟨rfl,fin Jx t2 _ _ _ sb1 g1 ex rfl (.refl _) f2 l2 p2⟩
  by_cases pl:t1.plain=true
  ·rw [if_pos pl];refine wpAny_bind ?_;rw [hashByValue_scannable 8 sc];refine wpAny_pure ?_;refine wpAny_mono (main { t1 with plain:=false } (SetTable.fits_plain_off ft) ld rfl) (fun r s' z=>?_) fun _ _ z=>z
   obtain ⟨rfl,z⟩:=z;exact wpAny_pure z
  ·rw [if_neg pl];refine wpAny_bind (wpAny_pure ?_);refine wpAny_mono (main t1 ft ld (by simpa using pl)) (fun r s' z=>?_) fun _ _ z=>z
   obtain ⟨rfl,z⟩:=z;exact wpAny_pure z
end
section
variable {prog:Program} {w:World} {A:Around} {R:Result->Shared->Prop} {I:Addr} {fp wr:List Addr} {G:Array GenState->Array GenState->Prop} {n:Nat} {P:Nat->Value->Prop} {St:Nat->Shared->Prop}
theorem D9.kept {h h':Heap} {a:Addr} {S:Str->Bool} {n:Nat} (hS:D9 prog w h a S n) (k:∀ o,h.get? a=some o->h'.get? a=some o):D9 prog w h' a S n:=by
 obtain ⟨o,es,ep,t,ho,r⟩:=hS;exact ⟨o,es,ep,t,k _ ho,r⟩
theorem D9.as {h:Heap} {a:Addr} {S S':Str->Bool} {n n':Nat} (hS:D9 prog w h a S n) (e:∀ k,S' k=S k) (en:n'=n):D9 prog w h a S' n':=by
 subst en;have:S'=S:=funext e;rw [this];exact hS
theorem OG (W:WalksS prog w A.in1 I fp wr G n P St) (D:Addr) (hD:D ∉ fp) (val:Nat->Str) (hv:∀ i v,P i v->∃ tk,v=.str (val i) tk) (few:n + 1 < scanBound) :
  ∀ (k i:Nat) (s:Shared),n - i=k->i<=n->St i s->D9 prog w s.heap D (fun k'=>(met val i).any (· == k')) (met val i).length ->
   (∀ s',Moved (D :: wr) G s s'->D9 prog w s'.heap D (fun k'=>(met val n).any (· == k')) (met val n).length->R (.ok (.ret .none)) s') ->
   codeAny (model prog w) A (.builtin "set.update.loop" ⟨[.ref D,.ref I],[]⟩) R s:=by
 have hw:D ∉ wr:=fun z=>hD (W.sub _ z)
 have up:∀ b ∈ wr,b ∈ D :: wr:=fun b z=>ZO _ z
 intro k;induction k with
 | zero=>
  intro i s hk hi st hS q;have e:i=n:=by lia
  subst e;refine codeAny_builtin F.entry_set_update_loop ?_;rw [Around.under_plainId F.plain_set_update_loop _];refine wpAny_bind (W.done s _ _ st fun s' m=>?_);exact wpAny_pure (q s' (m.mono up) (hS.kept fun o e=>m.heap D _ hw e))
 | succ k ih=>
  intro i s hk hi st hS q;have lt:i < n:=by lia
  refine codeAny_builtin F.entry_set_update_loop ?_;rw [Around.under_plainId F.plain_set_update_loop _];refine wpAny_bind (W.item i s _ _ lt st fun v s' pv AZ m=>?_);obtain ⟨tk,rfl⟩:=hv i v pv;have Oh:=hS.kept (h':=s'.heap) fun o e=>m.heap D _ hw e
  refine wpAny_bind (wpAny_holding ?_);unfold setAdd;refine wpAny_holding ?_;refine wpAny_bind ((PySem.strKind prog w).pyHash (k:=val i) (by simp [PySem.strKind,Value.isStrOf]) ?_);refine QD (s:={ s' with toks:=s'.toks + 1 }) Oh (by have:=DR val i; lia) fun h' sb hS2=>?_
  have nx:D9 prog w h' D (fun k'=>(met val (i + 1)).any (· == k')) (met val (i + 1)).length:=
   hS2.as (fun k'=>by rw [IQ,O9]) (by rw [IQ,FF])
  refine wpAny_pure ⟨plainId_quiet F.plain_set_update_loop _,ih (i + 1) _ (by lia) lt (W.frame _ s' _ _ AZ (ZZ _) fun b z o e=>?_) nx fun UJ m2 hS3=>?_⟩
  ·rw [sb.2 b fun y:b=D=>hD (y ▸ z)];exact e
  ·refine q UJ (Moved.trans W.gtrans ((m.mono up).then_heap (ZZ _) fun b o z e=>?_) m2) hS3;rw [sb.2 b fun y:b=D=>z (y ▸ ZU)];exact e
end
section
variable {prog:Program} {w:World} {A:Around} {E:Value->Shared->Prop} {s:Shared}
theorem QC (a:Value) {Q₁:Value->Shared->Prop}
  (h:Q₁ (.ref s.heap.objs.size) { s with heap:=s.heap.push { cls:=.type "set",dict:=none,data:=.set #[] 0 (.fresh 0 0 (!w.params.followText "set-order")) } }) :
  codeAny (model prog w) A (.call (.builtin "set.__new__") ⟨[.type "set",a],[]⟩) (wants Q₁ E) s:=by
 refine codeAny_of_tree ?_;show wpAny _ A.in1 (checkBuiltinCall "set.__new__" ⟨[.type "set",a],[]⟩ >>= fun _=>again (.builtin "set.__new__" ⟨[.type "set",a],[]⟩)) _ _ s
 refine wpAny_bind (wpAny_of_eq (F.newCall_set_1 a) (wpAny_pure ⟨plainId_quiet F.plain_set_new _,codeAny_builtin F.entry_set_new ?_⟩));rw [Around.under_plainId F.plain_set_new _];unfold Builtin.«set.__new__» Builtin.Frozenset.newClass;have hsub:=sub_set_self;obtain ⟨hp,g,d,tk,os⟩:=s;dsimp only;wp_walk;refine wpAny_askSetting (wpAny_pure ?_);dsimp only;simp only [newObj];refine wpAny_bind (wpAny_alloc (wpAny_pure ?_));exact wpAny_pure h
theorem NM {a:Addr} {T:String} {o:Obj} {oI:Obj} {items:Array Value} {val:Nat->Str} {St:Addr->Nat->Heap->Prop} {Q:Value->Shared->Prop} (hh:A.handled=none)
  (ho:s.heap.get? a=some o) (hc:o.cls=.type T) (hnd:(Value.type T == Value.type "dict")=false) (VS:isSubtype (.type T) (.type "set")=pure false) (VR:isSubtype (.type T) (.type "frozenset")=pure false)
  (hit:∀ (B:Around) (E':Value->Shared->Prop) (s1:Shared) (Q':Value->Shared->Prop),(∀ b o,s.heap.get? b=some o->s1.heap.get? b=some o)->Q' (.ref s1.heap.objs.size) { s1 with heap:=s1.heap.push oI }->wpAny (model prog w) B (pyIter (.ref a)) Q' E' s1)
  (hW:∀ (B:Around) (I:Addr),B.handled=none->a ≠ I->Walks prog w B I [I,a] [I] items.size (fun i v=>items[i]? = some v) (St I))
  (hst:∀ h:Heap,(∀ b o,s.heap.get? b=some o->h.get? b=some o)->St h.objs.size 0 (h.push oI))
  (hi:∀ (i:Nat) v,items[i]? = some v->∃ tk,v=.str (val i) tk) (few:items.size + 1 < scanBound)
  (h:∀ (h':Heap) (tk:Nat),D9 prog w h' s.heap.objs.size (fun k'=>(met val items.size).any (· == k')) (met val items.size).length ->
   (∀ b o,s.heap.get? b=some o->h'.get? b=some o)->Q (.ref s.heap.objs.size) { s with heap:=h',toks:=tk }) :
  wpAny (model prog w) A (call (.type "set") [.ref a]) Q E s:=by
 obtain ⟨c,tl,hmro⟩:=F.called_set.mro;have hmade:=F.called_set.made;have hsub:=F.called_set.sub;refine wpAny_call (codeAny_of_tree ?_);show wpAny _ _ (callAny (.type "set") _) _ _ _
 refine wpAny_pure ⟨Code.quiet_builtin _ (by decide +kernel),codeAny_builtin F.entry_type_call ?_⟩;rw [Around.under_plain (weight_type_call_type "set" [.ref a] []) rfl];have h1:=F.called_set.notType;have h2:=F.called_set.canCreate;have hct:=F.typeCall_set_1 (.ref a);repeat (any_goals (first | assumption | wp_step))
 obtain ⟨fr,efr⟩:∃ fr:Obj,fr = { cls:=.type "set",dict:=none,data:=.set #[] 0 (.fresh 0 0 (!w.params.followText "set-order")) }:=⟨_,rfl⟩
 refine codeAny_mono (QC (.ref a) (E:=E) (Q₁:=fun obj AU=>obj=.ref s.heap.objs.size/\AU = { s with heap:=s.heap.push fr }) ⟨rfl,by rw [efr]⟩) fun r AU hr=>?_
 have gS:(s.heap.push fr).get? s.heap.objs.size=some fr:=Z9 _ (by rw [efr]; rfl);have cf:fr.cls=.type "set":=by rw [efr]
 have new:∀ h5:Heap,h5.get? s.heap.objs.size=some fr->D9 prog w h5 s.heap.objs.size (fun k'=>(met val 0).any (· == k')) (met val 0).length:=fun h5 g=>
  ⟨fr,#[],0,.fresh 0 0 (!w.params.followText "set-order"),g,by rw [efr]; exact ⟨rfl,rfl,rfl⟩,by rw [efr],fun e he=>by simp at he,fun k=>by simp [met],by decide,rfl,rfl,rfl,fun z=>by simp at z⟩
 cases r with
 | error e=>exact hr
 | ok fl=>
  cases fl with
  | ret obj=>
   obtain ⟨rfl,rfl⟩:=hr;have hT:Shared.TypeIs { s with heap:=s.heap.push fr } (.ref s.heap.objs.size) "set":=⟨_,gS,cf⟩
   have hli:=F.called_set.init.lookup;have hbi:=F.called_set.init.bind (.ref s.heap.objs.size);repeat (any_goals (first | assumption | wp_step))
   refine codeAny_mono (codeAny_call_builtin (R:=wants (fun r E9=>r=.none/\∃ h' tk,E9 = { s with heap:=h',toks:=tk } /\
     D9 prog w h' s.heap.objs.size (fun k'=>(met val items.size).any (· == k')) (met val items.size).length /\
     (∀ b o,s.heap.get? b=some o->h'.get? b=some o)) E) F.called_set.init.plain F.entry_set_init (check_set_init_1 hT ?_)) fun Y2 E9 R3=>?_
   ·obtain ⟨ocls,odict,odata,oslots⟩:=o;simp only at hc;subst hc;have lt:a < s.heap.objs.size:=Z5 ho;have HZ:(s.heap.push fr).get? a=some { cls:=.type T,dict:=odict,data:=odata,slots:=oslots }:=Zz _ ho;subst efr;unfold Builtin.«set.__init__» noKeywords Builtin.Frozenset.updateFrom;generalize hPI:pyIter=PI;wp_walk;subst hPI;refine hit _ _ _ _ (fun b o e=>Zz _ e) ?_;refine wpAny_bind (wpAny_runValue ?_);have ne:a ≠ (s.heap.push { cls:=.type "set",dict:=none,data:=.set #[] 0 (.fresh 0 0 (!w.params.followText "set-order")) }).objs.size:=by
     rw [ae]; exact ZE (aa lt)
    have nS:s.heap.objs.size ∉ [(s.heap.push { cls:=.type "set",dict:=none,data:=.set #[] 0 (.fresh 0 0 (!w.params.followText "set-order")) }).objs.size,a]:=by
     rw [ae]; simp only [Z3,Z8,or_false,not_or];exact ⟨ZE (ak _),aD lt⟩
    refine OG ((hW _ _ (by simp [hh]) ne).toS) s.heap.objs.size nS val hi few (items.size - 0) 0 _ (by lia) (ZX _) (hst _ fun b o e=>Zz _ e) (new _ (Zz _ gS)) ?_;intro s' hm Oh;obtain ⟨h',g',d',VM,Y7⟩:=s';have eg:g'=s.gens:=hm.gens;have ed:d'=s.drawn:=hm.drawn;have eo:Y7=s.os:=hm.os;subst eg ed eo;refine wpAny_pure ?_;refine wpAny_pure ⟨rfl,h',VM,rfl,Oh,fun b o e=>?_⟩;have hb:=Z5 e;have WG:b ≠ s.heap.objs.size:=ZE hb;have Zd:b ≠ (s.heap.push { cls:=.type "set",dict:=none,data:=.set #[] 0 (.fresh 0 0 (!w.params.followText "set-order")) }).objs.size:=by
     rw [ae]; exact ZE (aa hb)
    exact hm.heap b o (by simp only [Z3,Z8,or_false,not_or]; exact ⟨WG,Zd⟩) (Zz _ (Zz _ e))
   ·cases Y2 with
    | error e=>exact R3
    | ok Xf=>
     cases Xf with
     | ret r=>
      obtain ⟨rfl,h',tk,rfl,Oh,Ug⟩:=R3;repeat (any_goals (first | assumption | wp_step))
      exact h _ _ Oh Ug
     | _=>exact R3.elim
  | _=>exact hr.elim
end
theorem Jf:entryFor table "set.__iter__"=some Builtin.«frozenset.__iter__»:=
 entryFor_alias (id':="frozenset.__iter__") (by kernel_rfl) rfl (by decide +kernel) (by kernel_rfl)
theorem Cm:entryFor table "set_iterator.__next__"=some Builtin.«set_iterator.__next__»:=entryFor_of_tree (by kernel_rfl)
theorem AL:Slot "set_iterator" "__next__" "set_iterator.__next__":=
 .of (owner:="set_iterator") (n:="__next__") (by rw [typeLookup_type,builtinLookup_eq_fast]; kernel_rfl) (by decide +kernel) (by decide +kernel) (by decide +kernel)
  (by first | exact .inl (by decide +kernel) | exact .inr (by decide +kernel)) (by rw [isSubtype_type]; kernel_rfl)
theorem EC:Slot "set_iterator" "__iter__" "set_iterator.__iter__":=
 .of (owner:="set_iterator") (n:="__iter__") (by rw [typeLookup_type,builtinLookup_eq_fast]; kernel_rfl) (by decide +kernel) (by decide +kernel) (by decide +kernel)
  (by first | exact .inl (by decide +kernel) | exact .inr (by decide +kernel)) (by rw [isSubtype_type]; kernel_rfl)
theorem C8 (a:Value):argsOk "set_iterator.__next__" ⟨[a],[]⟩:=by unfold argsOk; kernel_rfl
theorem Jp (a:Value):argsOk "set_iterator.__iter__" ⟨[a],[]⟩:=by unfold argsOk; kernel_rfl
theorem HK:entryFor table "set_iterator.__iter__"=some Builtin.«dict_keyiterator.__iter__»:=
 entryFor_alias (id':="dict_keyiterator.__iter__") (by kernel_rfl) (by first | rfl | decide +kernel | (unfold String.splitOn; simp +decide [String.splitOnAux])) (by decide +kernel) (by kernel_rfl)
section
variable {prog:Program} {w:World} {A:Around} {E:Value->Shared->Prop} {s:Shared}
def DB (x:Value) (i:Int) (a:Addr) (n ep:Nat):Obj:={ cls:=.type "set_iterator",data:=.fields #[x,.int i 0,.ref a,.int n 0,.int ep 0] }
theorem Ka {r a:Addr} {x:Value} {i:Int} {n ep:Nat} {Q:Value->Shared->Prop} (hr:s.heap.get? r=some (DB x i a n ep)) (h:Q (.ref r) s):wpAny (model prog w) A (pyIter (.ref r)) Q E s:=by
 have hT:s.TypeIs (.ref r) "set_iterator":=⟨_,hr,rfl⟩
 refine wpAny_pyIter_slot hT EC (wpAny_call_entry EC hT HK ?_ (Jp _));show wpAny _ _ (ret (.ref r)) _ _ s
 exact wpAny_pure ⟨_,rfl,"set_iterator",_,hT,AL.lookup,h⟩
def CT (w:World) (a:Addr) (es:Array (Int × Value)) (ep:Nat) (t:SetTable) (slot given:Nat):Option (Value × Nat):=
 if w.params.followText "set-order"=true then ((pickOrder (w.params.setOrder a ep) es)[given]?).map fun e=>(e.2,slot) else
 match es[SetTable.below t.place slot]?,t.place[SetTable.below t.place slot]? with
  | some (_,x),some j=>some (x,j + 1)
  | _,_=>none
theorem LH {a:Addr} {o:Obj} {es:Array (Int × Value)} {ep:Nat} {t:SetTable} {slot given:Nat} {Q:Option (Value × Nat)->Shared->Prop} (ho:s.heap.get? a=some o) (hd:o.data=.set es ep t) (fit:t.fits es.size=true) (tab:Tab w es t)
  (few:w.params.followText "set-order"=false->es.size<=1) (h:Q (CT w a es ep t slot given) s):wpAny (model prog w) A (setNext a slot given ep) Q E s:=by
 unfold setNext;refine wpAny_bind (wpAny_setState_of ho hd fit ?_);dsimp only;unfold setsByText;refine wpAny_bind (wpAny_bind (wpAny_askSetting (wpAny_pure ?_)));unfold CT at h;show wpAny _ _ (if w.params.followText "set-order"=true then _ else _) _ _ _
 by_cases z:w.params.followText "set-order"=true
 ·rw [if_pos z] at h;rw [if_pos z,if_neg (by simp)];unfold setWalk;refine wpAny_bind (wpAny_bind (wpAny_setState_of ho hd fit ?_));dsimp only;unfold setsByText;refine wpAny_bind (wpAny_bind (wpAny_askSetting (wpAny_pure ?_)));show wpAny _ _ (if w.params.followText "set-order"=true then _ else _) _ _ _
  rw [if_pos z];refine wpAny_bind (wpAny_askSetting (wpAny_pure ?_));exact wpAny_pure h
 ·rw [if_neg z] at h;rw [if_neg z];have z':w.params.followText "set-order"=false:=by simpa using z
  have sm:=few z';show wpAny _ _ (if (!t.plain && decide (es.size > 1))=true then _ else _) _ _ _
  rw [if_neg (by simp; lia)];refine wpAny_bind ?_;show wpAny _ _ (if (!t.led && !es.isEmpty)=true then _ else _) _ _ _
  rw [if_neg (by rw [tab.1,z']; simp)];exact wpAny_pure (wpAny_pure h)
theorem OC {r a:Addr} {slot i:Nat} {o:Obj} {es:Array (Int × Value)} {ep:Nat} {t:SetTable} {x:Value} {nx:Nat} {Q:Option Value->Shared->Prop}
  (hr:s.heap.get? r=some (DB (.int slot 0) i a es.size ep)) (ho:s.heap.get? a=some o) (hd:o.data=.set es ep t) (fit:t.fits es.size=true) (tab:Tab w es t) (few:w.params.followText "set-order"=false->es.size<=1)
  (hx:CT w a es ep t slot i=some (x,nx))
  (hQ:∀ h',h'.get? r=some (DB (.int nx 0) (i + 1) a es.size ep)->Heap.SameBut r s.heap h'->Q (some x) { s with heap:=h' }) :
  wpAny (model prog w) A (pyNext (.ref r)) Q E s:=by
 have hT:s.TypeIs (.ref r) "set_iterator":=⟨_,hr,rfl⟩
 obtain ⟨hp,g,d,tk,os⟩:=s;unfold pyNext;refine wpAny_bind (wpAny_attempt (wpAny_callSpecial?_slot (name:=Str.ofString "__next__") hT AL
  (wpAny_call_entry AL hT Cm ?_ (C8 _))))
 unfold Builtin.«set_iterator.__next__»;unfold DB at hr;repeat (any_goals (first | assumption | (refine wpAny_setEntries_of ho hd fit ?_) | (refine LH (given:=i) (slot:=slot) ho hd fit tab few ?_) | wp_step))
 rw [show ((ep:Nat):Int).toNat=ep by simp,hx];repeat (any_goals (first | assumption | wp_step))
 refine ⟨_,rfl,wpAny_pure (hQ _ ?_ ((Heap.SameBut.update ..).trans (Heap.SameBut.update ..)))⟩;have e1:=ah (Obj.mapFields fun fs=>fs.setIfInBounds 0 (rawInt nx)) hr rfl;have e2:=ah (Obj.mapFields fun fs=>fs.setIfInBounds 1 (rawInt (i + 1))) e1 rfl;exact e2
theorem Q9 {r a:Addr} {slot i:Nat} {o:Obj} {es:Array (Int × Value)} {ep:Nat} {t:SetTable} {Q:Option Value->Shared->Prop} (hh:A.handled=none)
  (hr:s.heap.get? r=some (DB (.int slot 0) i a es.size ep)) (ho:s.heap.get? a=some o) (hd:o.data=.set es ep t) (fit:t.fits es.size=true) (tab:Tab w es t) (few:w.params.followText "set-order"=false->es.size<=1)
  (hx:CT w a es ep t slot i=none)
  (hQ:∀ h',Heap.ExtBut r s.heap h'->Q none { s with heap:=h' }) :
  wpAny (model prog w) A (pyNext (.ref r)) Q E s:=by
 have hT:s.TypeIs (.ref r) "set_iterator":=⟨_,hr,rfl⟩
 obtain ⟨hp,g,d,tk,os⟩:=s;unfold pyNext;refine wpAny_bind (wpAny_attempt (wpAny_callSpecial?_slot (name:=Str.ofString "__next__") hT AL
  (wpAny_call_entry AL hT Cm ?_ (C8 _))))
 unfold Builtin.«set_iterator.__next__»;unfold DB at hr;repeat (any_goals (first | assumption | (refine wpAny_setEntries_of ho hd fit ?_) | (refine LH (given:=i) (slot:=slot) ho hd fit tab few ?_) | wp_step))
 rw [show ((ep:Nat):Int).toNat=ep by simp,hx];repeat (any_goals (first | assumption | wp_step))
 simp only [raiseNew];refine wpAny_bind (wpAny_handled ?_);rw [show A.in1.handled=none from hh];refine wpAny_bind (wpAny_pure (wpAny_throw ?_));refine wpAny_bind (wpAny_isInstance (T:="StopIteration") (b:=true) ⟨_,Z9 _ rfl,rfl⟩ isSubtype_stop ?_);exact wpAny_pure (hQ _ fun b o hb e=>Zz _ (Zz _ ((Heap.SameBut.update ..).extBut b o hb e)))
end
section
variable {prog:Program} {w:World} {A:Around} {E:Value->Shared->Prop} {s:Shared}
def OX (is:List Nat) (c:Nat):Obj:={ cls:=.type "tuple",data:=.seq (is.map fun (i:Nat)=>rawInt i).toArray c }
theorem OD {a:Addr} {o:Obj} {es:Array (Int × Value)} {ep:Nat} {t:SetTable} {j:Nat} {h:Int} {x:Value} {Q:Value->Shared->Prop} (ho:s.heap.get? a=some o) (hd:o.data=.set es ep t) (fit:t.fits es.size=true)
  (hx:es[j]? = some (h,x)) (q:Q x s):wpAny (model prog w) A (setNextDrawn a j ep) Q E s:=by
 unfold setNextDrawn;refine wpAny_bind (wpAny_setState_of ho hd fit ?_);dsimp only;rw [if_neg (by simp),hx];exact wpAny_pure q
theorem OE {r a p:Addr} {i c:Nat} {o:Obj} {es:Array (Int × Value)} {ep:Nat} {t:SetTable} {is:List Nat} {j:Nat} {h:Int} {x:Value} {Q:Option Value->Shared->Prop}
  (hr:s.heap.get? r=some (DB (.ref p) i a es.size ep)) (hp:s.heap.get? p=some (OX is c)) (ho:s.heap.get? a=some o) (hd:o.data=.set es ep t) (fit:t.fits es.size=true)
  (hj:is[i]? = some j) (hx:es[j]? = some (h,x))
  (hQ:∀ h',h'.get? r=some (DB (.ref p) (i + 1) a es.size ep)->Heap.SameBut r s.heap h'->Q (some x) { s with heap:=h' }) :
  wpAny (model prog w) A (pyNext (.ref r)) Q E s:=by
 have hT:s.TypeIs (.ref r) "set_iterator":=⟨_,hr,rfl⟩
 have Nc:((is.map fun (i:Nat)=>rawInt i).toArray)[i]? = some (.int j 0):=by simp [hj,rawInt]
 obtain ⟨hp,g,d,tk,os⟩:=s;unfold pyNext;refine wpAny_bind (wpAny_attempt (wpAny_callSpecial?_slot (name:=Str.ofString "__next__") hT AL
  (wpAny_call_entry AL hT Cm ?_ (C8 _))))
 unfold Builtin.«set_iterator.__next__»;unfold DB at hr;unfold OX at hp;repeat (any_goals (first | assumption | (refine wpAny_setEntries_of ho hd fit ?_) | wp_step))
 rw [show ((i:Nat):Int).toNat=i by simp,Nc];dsimp only;refine wpAny_bind (OD (h:=h) (x:=x) ho hd fit (by simpa using hx) ?_);repeat (any_goals (first | assumption | wp_step))
 refine ⟨_,rfl,wpAny_pure (hQ _ ?_ (Heap.SameBut.update ..))⟩;exact ah (Obj.mapFields fun fs=>fs.setIfInBounds 1 (rawInt (i + 1))) hr rfl
theorem QA {r a p:Addr} {i c:Nat} {o:Obj} {es:Array (Int × Value)} {ep:Nat} {t:SetTable} {is:List Nat} {Q:Option Value->Shared->Prop} (hh:A.handled=none)
  (hr:s.heap.get? r=some (DB (.ref p) i a es.size ep)) (hp:s.heap.get? p=some (OX is c)) (ho:s.heap.get? a=some o) (hd:o.data=.set es ep t) (fit:t.fits es.size=true)
  (hj:is[i]? = none) (hQ:∀ h',Heap.ExtBut r s.heap h'->Q none { s with heap:=h' }) :
  wpAny (model prog w) A (pyNext (.ref r)) Q E s:=by
 have hT:s.TypeIs (.ref r) "set_iterator":=⟨_,hr,rfl⟩
 have Nc:((is.map fun (i:Nat)=>rawInt i).toArray)[i]? = none:=by simpa using hj
 obtain ⟨hp,g,d,tk,os⟩:=s;unfold pyNext;refine wpAny_bind (wpAny_attempt (wpAny_callSpecial?_slot (name:=Str.ofString "__next__") hT AL
  (wpAny_call_entry AL hT Cm ?_ (C8 _))))
 unfold Builtin.«set_iterator.__next__»;unfold DB at hr;unfold OX at hp;repeat (any_goals (first | assumption | (refine wpAny_setEntries_of ho hd fit ?_) | wp_step))
 rw [show ((i:Nat):Int).toNat=i by simp,Nc];repeat (any_goals (first | assumption | wp_step))
 simp only [raiseNew];refine wpAny_bind (wpAny_handled ?_);rw [show A.in1.handled=none from hh];refine wpAny_bind (wpAny_pure (wpAny_throw ?_));refine wpAny_bind (wpAny_isInstance (T:="StopIteration") (b:=true) ⟨_,Z9 _ rfl,rfl⟩ isSubtype_stop ?_);exact wpAny_pure (hQ _ fun b o hb e=>Zz _ (Zz _ ((Heap.SameBut.update ..).extBut b o hb ((Heap.SameBut.update ..).extBut b o hb e))))
theorem Mz (hh:A.handled=none) (I a:Addr) (ne:a ≠ I) {o:Obj} {es:Array (Int × Value)} {ep:Nat} {t:SetTable} (hd:o.data=.set es ep t) (fit:t.fits es.size=true) (tab:Tab w es t) (few:w.params.followText "set-order"=false->es.size<=1)
  (vs:List Value) (sl:Nat->Nat) (hs:∀ (i:Nat) (v:Value),vs[i]? = some v->CT w a es ep t (sl i) i=some (v,sl (i + 1))) (he:CT w a es ep t (sl vs.length) vs.length=none) :
  Walks prog w A I [I,a] [I] vs.length (fun i v=>vs[i]? = some v) (fun i h=>h.get? I=some (DB (.int (sl i:Nat) 0) i a es.size ep)/\h.get? a=some o) where
 sub:=fun b hb=>by simp at hb; simp [hb]
 frame:=fun i h h' st k=>⟨k I (by simp) _ st.1,k a (by simp) _ st.2⟩
 item:=fun i s Q E hi st q=>by
  have e:vs[i]? = some vs[i]:=by simp [hi]
  refine OC st.1 st.2 hd fit tab few (hs i _ e) fun h' hr sb=>q _ h' s.toks e ⟨hr,?_⟩ fun b o hb z=>?_
  ·rw [sb.2 a ne]; exact st.2
  ·rw [sb.2 b (by simpa using hb)]; exact z
 done:=fun s Q E st q=>Q9 hh st.1 st.2 hd fit tab few he fun h' eb=>q h' s.toks fun b o hb z=>eb b o (by simpa using hb) z
 self:=fun i s Q E st q=>Ka st.1 q
theorem M3 (hh:A.handled=none) (I a p:Addr) (ne:a ≠ I) (np:p ≠ I) {o:Obj} {es:Array (Int × Value)} {ep c:Nat} {t:SetTable} (hd:o.data=.set es ep t) (fit:t.fits es.size=true)
  (is:List Nat) (vs:List Value) (hl:is.length=vs.length) (hs:∀ (i:Nat) (v:Value),vs[i]? = some v->∃ j h,is[i]? = some j/\es[j]? = some (h,v)) :
  Walks prog w A I [I,a,p] [I] vs.length (fun i v=>vs[i]? = some v) (fun i h=>h.get? I=some (DB (.ref p) i a es.size ep)/\h.get? a=some o/\h.get? p=some (OX is c)) where
 sub:=fun b hb=>by simp at hb; simp [hb]
 frame:=fun i h h' st k=>⟨k I (by simp) _ st.1,k a (by simp) _ st.2.1,k p (by simp) _ st.2.2⟩
 item:=fun i s Q E hi st q=>by
  have e:vs[i]? = some vs[i]:=by simp [hi]
  obtain ⟨j,h,e1,e2⟩:=hs i _ e;refine OE st.1 st.2.2 st.2.1 hd fit e1 e2 fun h' hr sb=>q _ h' s.toks e ⟨hr,?_,?_⟩ fun b o hb z=>?_
  ·rw [sb.2 a ne]; exact st.2.1
  ·rw [sb.2 p np]; exact st.2.2
  ·rw [sb.2 b (by simpa using hb)]; exact z
 done:=fun s Q E st q=>QA hh st.1 st.2.2 st.2.1 hd fit (by simp [hl]) fun h' eb=>q h' s.toks fun b o hb z=>eb b o (by simpa using hb) z
 self:=fun i s Q E st q=>Ka st.1 q
theorem Je {α:Type} {xs:List α} {i:Nat} {x:α} (h:xs[i]? = some x):(x :: xs.eraseIdx i).Perm xs:=by
 induction xs generalizing i with
 | nil=>simp at h
 | cons y ys ih=>
  cases i with
  | zero=>simp at h; subst h; exact .refl _
  | succ i=>
   simp only [br] at h;exact (List.Perm.swap _ _ _).trans ((ih h).cons _)
theorem Nk {α:Type} (n:Nat):∀ (xs:List α) (s:Shared) (Q:List α->Shared->Prop),n=xs.length->(∀ ys dr,ys.Perm xs->Q ys { s with drawn:=dr })->wpAny (model prog w) A (drawOrder n xs) Q E s:=by
 induction n with
 | zero=>
  intro xs s Q hn h;cases xs with
  | nil=>exact wpAny_pure (h [] s.drawn (.refl _))
  | cons x xs=>simp at hn
 | succ n ih=>
  intro xs s Q hn h;cases xs with
  | nil=>simp at hn
  | cons x xs=>
   unfold drawOrder;refine wpAny_bind ?_;intro Γ p hΓ;exists by simp
   have lt:w.draws .order (s.drawn.get .order) % (x :: xs).length < (x :: xs).length:=fj _ (by simp);show wpAny (model prog w) A (match (x :: xs)[w.draws .order (s.drawn.get .order) % (x :: xs).length]? with
    | some y=>drawOrder n ((x :: xs).eraseIdx (w.draws .order (s.drawn.get .order) % (x :: xs).length)) >>= fun r=>pure (y :: r)
    | none=>unsupported "internal:drawOrder") Q E { s with drawn:=s.drawn.bump .order }
   generalize w.draws .order (s.drawn.get .order) % (x :: xs).length=i at lt;have e:(x :: xs)[i]? = some (x :: xs)[i]:=by simp
   rw [e];refine wpAny_bind (ih _ _ _ (by rw [bX]; simp only [lt,if_true]; lia) fun ys dr pm=>?_);exact wpAny_pure (h _ dr ((pm.cons _).trans (Je e)))
theorem NU {α:Type} (next:Nat->Nat):∀ (fuel k:Nat) (left:List α) (out:Array α),fuel=left.length->(pickOrder.go next fuel k left out).toList.Perm (out.toList ++ left)
 | 0,k,[],out,_=>by unfold pickOrder.go; simp
 | fuel + 1,k,x :: xs,out,h=>by
  unfold pickOrder.go;have lt:next k % (x :: xs).length < (x :: xs).length:=fj _ (by simp);generalize next k % (x :: xs).length=i at lt;have e:(x :: xs)[i]? = some (x :: xs)[i]:=by simp
  rw [e];refine (NU next fuel (k + 1) _ _ (by rw [bX]; simp only [lt,if_true]; simp at h ⊢; lia)).trans ?_;rw [dQ,aP];exact (Je e).append_left _
theorem OS {α:Type} (next:Nat->Nat) (xs:Array α):(pickOrder next xs).toList.Perm xs.toList:=by
 unfold pickOrder;simpa using NU next xs.size 0 xs.toList #[] (by simp)
end
theorem L6:∀ {vs:List Value},(∀ v ∈ vs,∃ x t,v=Value.str x t)->∃ ks,StrsAre vs ks
 | [],_=>⟨[],.nil⟩
 | v :: vs,h=>by
  obtain ⟨x,t,rfl⟩:=h v (by simp);obtain ⟨ks,r⟩:=L6 fun u hu=>h u (ZO _ hu)
  exact ⟨x :: ks,.cons x t r⟩
theorem Qv {P:Program} {w:World} {vs:List Value} {ks:List Str} (h:StrsAre vs ks) (k:Str):k ∈ ks ↔ ∃ v ∈ vs,(PySem.strKind P w).is k v=true:=by
 induction h with
 | nil=>simp
 | cons x t r ih=>
  rw [Z3,ih];constructor
  ·rintro (rfl | ⟨v,hv,e⟩)
   ·exact ⟨_,ZU,by simp [PySem.strKind,Value.isStrOf]⟩
   ·exact ⟨v,ZO _ hv,e⟩
  ·rintro ⟨v,hv,e⟩;rcases Z3.mp hv with rfl | hv
   ·refine .inl ?_;have e':Value.isStrOf k (.str x t)=true:=e;first | exact (eq_of_beq e').symm | exact eq_of_beq e' | exact of_decide_eq_true e' | exact (of_decide_eq_true e').symm
   ·exact .inr ⟨v,hv,e⟩
section
variable {prog:Program} {w:World} {A:Around} {E:Value->Shared->Prop} {s:Shared}
theorem OF {a:Addr} {o:Obj} {es:Array (Int × Value)} {ep:Nat} {t:SetTable} {Q:Bool->Shared->Prop} (ho:s.heap.get? a=some o) (hd:o.data=.set es ep t) (fit:t.fits es.size=true)
  (h:Q (!w.params.followText "set-order" && (!t.plain && decide (es.size > 1))) s):wpAny (model prog w) A (setDrawn a) Q E s:=by
 unfold setDrawn;refine wpAny_bind (wpAny_setState_of ho hd fit ?_);dsimp only;unfold setsByText;exact wpAny_bind (wpAny_bind (wpAny_askSetting (wpAny_pure (wpAny_pure h))))
theorem OH {a:Addr} {S:Str->Bool} {n:Nat} {Q:Value->Shared->Prop} (hS:D9 prog w s.heap a S n)
  (h:∀ (h':Heap) (dr:Drawn) (I:Addr) (fp:List Addr) (vs:List Value) (ks:List Str) (St:Nat->Heap->Prop),(∀ b o,s.heap.get? b=some o->h'.get? b=some o)->s.heap.objs.size<=I->(∀ b ∈ fp,b=a\/s.heap.objs.size<=b) ->
   StrsAre vs ks->(∀ k,S k=true ↔ k ∈ ks)->ks.length=n->(∀ B:Around,B.handled=none->Walks prog w B I fp [I] vs.length (fun i v=>vs[i]? = some v) St)->St 0 h'->Q (.ref I) { s with heap:=h',drawn:=dr }) :
  wpAny (model prog w) A (pyIter (.ref a)) Q E s:=by
 obtain ⟨o,es,ep,t,ho,ex,hd,el,mem,few,fit,hn,tab⟩:=hS;have lt:a < s.heap.objs.size:=Z5 ho;have strE:∀ e ∈ es.toList,∃ x tk,e.2=Value.str x tk:=fun e he=>by
  obtain ⟨⟨k,hk,_⟩,_⟩:=el e he;have Ug:Value.isStrOf k e.2=true:=hk;cases z:e.2 <;> rw [z] at Ug <;> first | exact ⟨_,_,rfl⟩ | (simp [Value.isStrOf] at Ug)
 have tx:∀ vs:List Value,vs.Perm (es.toList.map (·.2))->∃ ks,StrsAre vs ks/\(∀ k,S k=true ↔ k ∈ ks)/\ks.length=n:=fun vs pm=>by
  obtain ⟨ks,r⟩:=L6 (vs:=vs) fun v hv=>by
   obtain ⟨e,he,rfl⟩:=ZD.mp (pm.mem_iff.mp hv);exact strE e he
  refine ⟨ks,r,fun k=>?_,by rw [<-r.length,pm.length_eq,Z0,ZT]; exact hn⟩;rw [mem,Qv (P:=prog) (w:=w) r];constructor
  ·rintro ⟨e,he,z⟩;exact ⟨e.2,pm.mem_iff.mpr (ZD.mpr ⟨e,he,rfl⟩),z⟩
  ·rintro ⟨v,hv,z⟩;obtain ⟨e,he,rfl⟩:=ZD.mp (pm.mem_iff.mp hv);exact ⟨e,he,z⟩
 have hT:s.TypeIs (.ref a) "set":=⟨o,ho,ex.1⟩
 refine wpAny_pyIter_slot hT F.slot_set_iter (wpAny_call_entry F.slot_set_iter hT Jf ?_ (F.args_set_iter_1 _));unfold Builtin.«frozenset.__iter__» Builtin.Frozenset.slot0 slotArgs;simp only [List.isEmpty_nil,eX,ZY,↓reduceIte,bind_assoc,eJ,bne_self_eq_false];unfold Builtin.Frozenset.addrOf Builtin.Frozenset.sizeOf;refine wpAny_bind (wpAny_pure ?_);try dsimp only
 refine wpAny_bind (wpAny_pure ?_);refine wpAny_bind (wpAny_bind (wpAny_setEntries_of ho hd fit (wpAny_pure ?_)));refine wpAny_bind (OF ho hd fit ?_);by_cases z:(!w.params.followText "set-order" && (!t.plain && decide (es.size > 1)))=true
 ·rw [if_pos z];refine wpAny_bind (Nk es.size (ai es.size) _ _ (by rw [aH]) fun is dr pm=>?_);refine wpAny_bind (wpAny_newTuple ?_ (by rw [Z0,pm.length_eq,aH]; exact fits_of_scanBound few));refine wpAny_bind (wpAny_setEpoch_of (Zz _ ho) hd fit ?_);refine wpAny_bind (wpAny_newObj_type (wpAny_pure ⟨_,rfl,"set_iterator",_,⟨_,Z9 _ rfl,rfl⟩,AL.lookup,?_⟩));have rng:∀ j ∈ is,j < es.size:=fun j hj=>ba.mp (pm.mem_iff.mp hj)
  have pv:(is.map fun j=>((es[j]?).map (·.2)).getD Value.none).Perm (es.toList.map (·.2)):=by
   refine (pm.map _).trans ?_;refine List.Perm.of_eq (cL (by simp) fun i h1 h2=>?_);have:i < es.size:=by simpa using h2
   simp [this]
  obtain ⟨ks,r1,r2,r3⟩:=tx _ pv;refine h _ dr _ [(s.heap.push (OX is 0)).objs.size,a,s.heap.objs.size] _ ks _ (fun b o e=>Zz _ (Zz _ e)) (by rw [size_push']; exact ZZ _) (fun b hb=>?_) r1 r2 r3
   (fun B hB=>M3 hB _ a s.heap.objs.size (by rw [size_push']; exact ZE (aa lt)) (by rw [size_push']; exact ZE (ak _)) hd fit is _ (by simp) fun i v e=>?_)
   ⟨Z9 _ rfl,Zz _ (Zz _ ho),Zz _ (Z9 _ rfl)⟩
  ·simp only [Z3,Z8,or_false] at hb;rcases hb with rfl | rfl | rfl
   ·exact .inr (by rw [size_push']; exact ZZ _)
   ·exact .inl rfl
   ·exact .inr (Z4 _)
  ·rw [Z6] at e;cases ej:is[i]? with
   | none=>rw [ej] at e; cases e
   | some j=>
    rw [ej] at e;have hj:=rng j (Z2 ej);have e5:es[j]? = some es[j]:=by simp [hj]
    simp only [bo,e5,Option.getD_some,ZR.injEq] at e;exact ⟨j,es[j].1,rfl,by rw [e5,<-e]⟩
 ·rw [if_neg z];refine wpAny_bind (wpAny_pure ?_);refine wpAny_bind (wpAny_setEpoch_of ho hd fit ?_);refine wpAny_bind (wpAny_newObj_type (wpAny_pure ⟨_,rfl,"set_iterator",_,⟨_,Z9 _ rfl,rfl⟩,AL.lookup,?_⟩));have Vy:w.params.followText "set-order"=false->es.size<=1:=fun q=>by
   rcases di 1 es.size with y | y
   ·rw [q,tab.2 (by lia)] at z;simp [y] at z
   ·exact y
  have go:∀ (vs:List Value) (sl:Nat->Nat),sl 0=0->vs.Perm (es.toList.map (·.2))->(∀ (i:Nat) (v:Value),vs[i]? = some v->CT w a es ep t (sl i) i=some (v,sl (i + 1)))->CT w a es ep t (sl vs.length) vs.length=none ->
    Q (.ref s.heap.objs.size) { s with heap:=s.heap.push (DB (rawInt 0) 0 a es.size ep) }:=fun vs sl s0 pm h1 h2=>by
   obtain ⟨ks,r1,r2,r3⟩:=tx _ pm;refine h _ s.drawn _ [s.heap.objs.size,a] vs ks _ (fun b o e=>Zz _ e) (Z4 _) (fun b hb=>?_) r1 r2 r3 (fun B hB=>Mz hB _ a (ZE lt) hd fit tab Vy vs sl h1 h2) ⟨?_,Zz _ ho⟩
   ·simp only [Z3,Z8,or_false] at hb;rcases hb with rfl | rfl
    ·exact .inr (Z4 _)
    ·exact .inl rfl
   ·rw [s0]; exact Z9 _ rfl
  by_cases ft:w.params.followText "set-order"=true
  ·refine go ((pickOrder (w.params.setOrder a ep) es).toList.map (·.2)) (fun _=>0) rfl ((OS _ es).map _) (fun i v e=>?_) ?_
   ·unfold CT;rw [if_pos ft];rw [Z6,bx] at e;cases y:(pickOrder (w.params.setOrder a ep) es)[i]? with
    | none=>rw [y] at e; cases e
    | some x=>rw [y] at e; cases e; rfl
   ·unfold CT;rw [if_pos ft];simp
  ·have sm:=Vy (by simpa using ft);refine go (es.toList.map (·.2)) (fun i=>if i=0 then 0 else t.place.getD 0 0 + 1) rfl (.refl _) (fun i v e=>?_) ?_
   ·unfold CT;rw [if_neg ft];have i0:i < es.size:=by
     have:=(ZA.mp e).1;simpa using this
    have z1:es.size=1:=by lia
    have i1:i=0:=by lia
    subst i1;obtain ⟨x,rfl⟩:∃ x,es=#[x]:=⟨es[0],cW (by simpa using z1) fun j a1 a2=>by
     have:j=0:=by lia
     subst this; rfl⟩
    have pz:t.place.size=1:=by
     simp only [SetTable.fits,af,beq_iff_eq] at fit;exact fit.1
    obtain ⟨y,ey⟩:∃ y,t.place=#[y]:=⟨t.place[0],cW (by simpa using pz) fun j a1 a2=>by
     have:j=0:=by lia
     subst this; rfl⟩
    rw [ey];simp at e;subst e;rfl
   ·unfold CT;rw [if_neg ft];rcases Nat.eq_zero_or_pos es.size with z0 | z0
    ·have:es=#[]:=Array.eq_empty_of_size_eq_zero z0;subst this;rfl
    ·have z1:es.size=1:=by lia
     obtain ⟨x,rfl⟩:∃ x,es=#[x]:=⟨es[0],cW (by simpa using z1) fun j a1 a2=>by
      have:j=0:=by lia
      subst this; rfl⟩
     have pz:t.place.size=1:=by
      simp only [SetTable.fits,af,beq_iff_eq] at fit;exact fit.1
     obtain ⟨y,ey⟩:∃ y,t.place=#[y]:=⟨t.place[0],cW (by simpa using pz) fun j a1 a2=>by
      have:j=0:=by lia
      subst this; rfl⟩
     rw [ey];simp [SetTable.below,SetTable.below.go]
end
section
variable {prog:Program} {w:World} {A:Around} {E:Value->Shared->Prop} {s:Shared}
theorem QB {r:Addr} {Q:Bool->Shared->Prop} (hT:s.TypeIs (.ref r) "set") (h:∀ b,Q b s):wpAny (model prog w) A (Builtin.List.listLengthHint (.ref r)) Q E s:=by
 unfold Builtin.List.listLengthHint;refine wpAny_bind (wpAny_specialOf hT PySem.F.slot_set_len.lookup ?_);generalize hid:("set.__len__":String)=id0;wp_delta;rw [show splitId id0=some ("set","__len__") from by subst hid; decide +kernel];subst hid;refine wpAny_bind (wpAny_isInstance (T:="set") (b:=true) hT (by rw [isSubtype_type]; kernel_rfl) ?_);refine wpAny_ite_split (fun z=>absurd z (by decide)) (fun _=>?_);refine wpAny_ite_split (fun _=>?_) (fun z=>absurd (by decide +kernel) z);refine wpAny_bind (wpAny_typeOf hT ?_);exact wpAny_pure (h _)
theorem K9 {a:Addr} {S:Str->Bool} {n:Nat} {R:List Value->Shared->Prop} (hh:A.handled=none) (hS:D9 prog w s.heap a S n)
  (h:∀ (h':Heap) (tk:Nat) (dr:Drawn) (vs:List Value) (ks:List Str),(∀ b o,s.heap.get? b=some o->h'.get? b=some o)->StrsAre vs ks->(∀ k,S k=true ↔ k ∈ ks)->ks.length=n->R vs { s with heap:=h',toks:=tk,drawn:=dr }) :
  wpAny (model prog w) A (collect (.ref a)) R E s:=by
 have hn:n < scanBound:=by obtain ⟨o,es,ep,t,ho,ex,hd,el,mem,few,fit,hn,tab⟩:=hS; lia
 have YX:n<=sizeLine:=fits_of_scanBound hn;have lt:a < s.heap.objs.size:=by obtain ⟨o,es,ep,t,ho,r⟩:=hS; exact Z5 ho
 unfold collect;refine wpAny_bind (wpAny_runValue (codeAny_builtin entry_proto_collect' ?_));rw [Around.under_plainId PySem.F.plain_proto_collect _];show wpAny _ A.in1 (newList [] >>= fun l=>again (.builtin "list.__iadd__" ⟨[l,.ref a],[]⟩)) _ _ s
 refine wpAny_bind (wpAny_newObj_type ?_);refine wpAny_pure ⟨plainId_quiet PySem.F.plain_list_iadd _,codeAny_builtin entry_list_iadd' ?_⟩;rw [Around.under_plainId PySem.F.plain_list_iadd _];have e1:(s.heap.push { cls:=.type "list",data:=.seq ([]:List Value).toArray }).get? s.heap.objs.size=some { cls:=.type "list",data:=.seq #[] }:=Z9 _ rfl;show wpAny _ A.in1 (Builtin.List.listExtendWith (.ref s.heap.objs.size) (.ref a) (.ref s.heap.objs.size)) _ _ _
 have WO:D9 prog w (s.heap.push { cls:=.type "list",data:=.seq ([]:List Value).toArray }) a S n:=hS.kept fun o e=>Zz _ e
 unfold Builtin.List.listExtendWith;have hT:Shared.TypeIs { s with heap:=s.heap.push { cls:=.type "list",data:=.seq ([]:List Value).toArray } } (.ref a) "set":=by
  obtain ⟨o,es,ep,t,ho,ex,r⟩:=WO;exact ⟨o,ho,ex.1⟩
 refine wpAny_bind (wpAny_typeOf hT ?_);have e2:Builtin.List.listSameRef (.ref s.heap.objs.size) (.ref a)=false:=by simp [Builtin.List.listSameRef,aD lt]
 have e3:(Value.type "set" == Value.type "list")=false:=by decide
 have e4:(Value.type "set" == Value.type "tuple")=false:=by decide
 simp only [e2,e3,e4,eU,ZY,if_false];refine wpAny_bind (OH WO fun h1 dr I fp vs ks St kk hI hfp sv mem len hW st=>?_);have k1:∀ b o,s.heap.get? b=some o->h1.get? b=some o:=fun b o e=>kk b o (Zz _ e)
 have eS:=kk _ _ e1;have R7:Shared.TypeIs { s with heap:=h1,drawn:=dr } (.ref a) "set":=by
  obtain ⟨o,es,ep,t,ho,ex,r⟩:=hS;exact ⟨o,k1 _ _ ho,ex.1⟩
 have szI:(s.heap.push { cls:=.type "list",data:=.seq ([]:List Value).toArray }).objs.size=s.heap.objs.size + 1:=size_push' ..;have nf:s.heap.objs.size ∉ fp:=fun z=>by
  rcases hfp _ z with e | e
  ·exact absurd e (aD lt)
  ·rw [szI] at e; exact absurd e (Nat.not_le_of_lt (ak _))
 have vl:vs.length=n:=by rw [sv.length]; exact len
 have key:∀ (h2:Heap) (c tk:Nat),St 0 h2->(∀ b o,b ≠ s.heap.objs.size->h1.get? b=some o->h2.get? b=some o)->h2.get? s.heap.objs.size=some { cls:=.type "list",data:=.seq #[] c } ->
   codeAny (model prog w) A (.builtin "list.extend.loop" ⟨[.ref s.heap.objs.size,.ref I,.ref s.heap.objs.size],[]⟩) (fun (q:Result) (s':Shared)=>∃ (h':Heap) (tk:Nat) (acc:Array Value) (c':Nat),q=.ok (.ret (.ref s.heap.objs.size))/\s' = { s with heap:=h',toks:=tk,drawn:=dr } /\
    (∀ b o,s.heap.get? b=some o->h'.get? b=some o)/\h'.get? s.heap.objs.size=some { cls:=.type "list",dict:=none,data:=.seq acc c',slots:=#[] }/\ItemsOf (fun i v=>vs[i]? = some v) acc vs.length) { s with heap:=h2,toks:=tk,drawn:=dr }:=by
  intro h2 c tk Hz k2 g2;refine codeAny_extend_loopS (hW _ (by simp [hh])).toS (by rw [vl]; exact YX) s.heap.objs.size nf (.ref s.heap.objs.size) vs.length 0 _ #[] c rfl (ZX _) Hz g2 (ItemsOf.nil _) fun s' acc c' m g' ia=>?_
  refine ⟨s'.heap,s'.toks,acc,c',rfl,?_,fun b o e=>?_,g',ia⟩
  ·rw [Moved.eq_with m]
  ·have lb:=Z5 e;refine m.heap b o (fun z=>?_) (k2 b o (ZE lb) (k1 b o e));rcases Z3.mp z with y | y
   ·exact ZE lb y
   ·rw [ZN.mp y] at lb;rw [szI] at hI;exact absurd lb (Nat.not_lt_of_le (Nat.le_of_succ_le hI))
 refine wpAny_mono (Q:=fun fin s'=>match fin with | .done f=>False | .again c'=>c'.quiet=true/\codeAny (model prog w) A c' (fun (q:Result) (s':Shared)=>∃ (h':Heap) (tk:Nat) (acc:Array Value) (c':Nat),q=.ok (.ret (.ref s.heap.objs.size))/\s' = { s with heap:=h',toks:=tk,drawn:=dr } /\
    (∀ b o,s.heap.get? b=some o->h'.get? b=some o)/\h'.get? s.heap.objs.size=some { cls:=.type "list",dict:=none,data:=.seq acc c',slots:=#[] }/\ItemsOf (fun i v=>vs[i]? = some v) acc vs.length) s') (E:=fun _ _=>False) ?_ (fun fin s' x=>?_) fun e s' x=>x.elim
 ·refine wpAny_bind (wpAny_holding (QB R7 fun b=>?_));refine wpAny_ite_split (fun _=>?_) (fun _=>wpAny_pure ⟨plainId_quiet PySem.F.plain_extend_loop _,key _ _ _ st (fun b o _ e=>e) eS⟩);refine wpAny_bind (wpAny_rule ?_);refine wpAny_bind ?_;show wpAny _ _ (updateSeq s.heap.objs.size (·.push .none) >>= fun _=>updateSeq s.heap.objs.size (·.pop)) _ _ _
  refine wpAny_bind (wpAny_updateSeq eS rfl ?_);have eS2:=ah (Obj.mapSeq (·.push Value.none)) eS rfl;refine wpAny_updateSeq (hz:=by seq_fits) eS2 rfl ?_;have eS3:=ah (Obj.mapSeq (·.pop)) eS2 rfl;have oth:∀ b o,b ≠ s.heap.objs.size->h1.get? b=some o->((h1.update s.heap.objs.size (Obj.mapSeq (·.push Value.none))).update s.heap.objs.size (Obj.mapSeq (·.pop))).get? b=some o:=fun b o hb e=>
   (ab _ _ (Ne.symm hb)).trans ((ab _ _ (Ne.symm hb)).trans e)
  refine wpAny_pure ⟨plainId_quiet PySem.F.plain_extend_loop _,key _ _ _ ?_ oth eS3⟩;exact (hW A (by simp [hh])).frame 0 _ _ st fun b hb o e=>oth b o (fun z=>nf (z ▸ hb)) e
 ·cases fin with
  | done f=>exact x.elim
  | again c₁=>
   refine ⟨x.1,codeAny_mono x.2 fun q E9 y=>?_⟩;obtain ⟨h',tk,acc,c',rfl,rfl,hk,Oh,ia⟩:=y;show wpAny _ A (load s.heap.objs.size >>= _) _ _ _
   refine wpAny_bind (wpAny_load Oh ?_);have:acc.toList=vs:=cL (by rw [ZT]; exact ia.1) fun i h1 h2=>by
    have h3:i < acc.size:=by simpa using h1
    have this:vs[i]? = some acc[i]:=ia.2 i acc[i] (by simp [h3]);rw [Zy h2] at this;simpa using (ZR.inj this).symm
   refine wpAny_pure ?_;have q:=h h' tk dr vs ks hk sv mem len;rw [<-this] at q;exact q
theorem LG {a:Addr} {S:Str->Bool} {n:Nat} {Q:Value->Shared->Prop} (hh:A.handled=none) (hS:D9 prog w s.heap a S n) (JH:n < 64)
  (h:∀ (h':Heap) (tk:Nat) (dr:Drawn) (l:Addr) (us:List Value) (e:Nat) (ss ks:List Str),(∀ b o,s.heap.get? b=some o->h'.get? b=some o)->s.heap.get? l=none->h'.get? l=some (seqObj "list" us.toArray e)->StrsAre us ss->ss.Perm ks->sortedS ss=true ->
   (∀ k,S k=true ↔ k ∈ ks)->ks.length=n->Q (.ref l) { s with heap:=h',toks:=tk,drawn:=dr }) :
  wpAny (model prog w) A (call (.builtin "sorted") [.ref a]) Q E s:=by
 refine Calls.call_function_entry kind_sorted plain_sorted entry_sorted (args_sorted1 _) ?_;unfold Builtin.«sorted»;refine wpAny_bind (m:=checkCount "sorted" 1 1 _) (wpAny_pure ?_);refine wpAny_bind (K9 (A:=A.in1) hh hS fun h' tk dr vs ks hk sv mem len=>?_);have hl:vs.length=n:=by rw [sv.length]; exact len
 refine wpAny_bind (wpAny_newList ?_ (ZV (show vs.length<=64 by lia) (by decide)));have g:(h'.push (seqObj "list" vs.toArray 0)).get? h'.objs.size=some (seqObj "list" vs.toArray 0):=Z9 _ rfl;show wpAny _ _ _ _ _ { s with heap:=h'.push (seqObj "list" vs.toArray 0),toks:=tk,drawn:=dr }
 refine wpAny_bind (wpAny_holding (wpAny_call_entry slot_list_sort ⟨_,g,rfl⟩ entry_list_sort (list_sort_treeK strKind_oneLt (s:={ s with heap:=h'.push (seqObj "list" vs.toArray 0),toks:=tk,drawn:=dr }) g sv.keysOf (fun Yq Yp rest e=>keyKind_strs (by rw [<-e]; exact sv)) (by rw [hl]; exact JH) fun AZ a1 a2=>⟨_,rfl,?_⟩) (args_list_sort _)));refine wpAny_pure ⟨_,rfl,?_⟩;obtain ⟨ss,b1,b2,b3⟩:=sorted_out_str sv a1 a2;obtain ⟨e,he⟩:=sortedHeap_at (out:=(arrOf AZ).map (·.2)) g;refine h _ tk dr h'.objs.size ((arrOf AZ).map (·.2)).toList e ss ks (fun b o q=>?_) ?_ (by rw [Array.toArray_toList]; exact he) b1 b2 b3 mem len
 ·have q':=hk b o q;have lt:=Z5 q';rw [sortedHeap_old (ZE lt) (by rw [size_push']; exact aa lt)];exact Zz _ q'
 ·cases z:s.heap.get? h'.objs.size with
  | none=>rfl
  | some o=>exact absurd (Z5 (hk _ _ z)) (ay _)
end
def SetW (P:Program) (w:World) (a:Addr) (S:Str->Bool) (n:Nat):HO:=.ext fun h=>D9 P w h a S n
theorem J6:isSubtype (.type "tuple") (.type "set")=pure false:=by rw [isSubtype_type]; kernel_rfl
theorem Fh:isSubtype (.type "tuple") (.type "frozenset")=pure false:=by rw [isSubtype_type]; kernel_rfl
def setS (P:Program) (w:World) (a:Addr) (ss:List Str):HO:=SetW P w a (fun k=>(ss.foldl step_dedup []).any (· == k)) (ss.foldl step_dedup []).length
theorem Sm {X:Cx} {pins:List (Addr × Obj)} {σ:St} {H:Hp} {s:Shared} (I:Aw X pins σ H s) {h':Heap} {tk:Nat} {ss:List Str} (hS:D9 X.prog X.w h' s.heap.objs.size (fun k=>(ss.foldl step_dedup []).any (· == k)) (ss.foldl step_dedup []).length)
  (kk:∀ b o,s.heap.get? b=some o->h'.get? b=some o):Aw X pins σ (upd H s.heap.objs.size (setS X.prog X.w s.heap.objs.size ss)) { s with heap:=h',toks:=tk }:=by
 obtain ⟨oS,e1,e2,e3,hoS,rest⟩:=id hS;refine I.laid (a:=s.heap.objs.size) (o:=setS X.prog X.w s.heap.objs.size ss) (t':=tk) kk (Z4 _) ⟨hS,⟨_,hoS⟩,fun h1 h2 z st=>?_⟩;exact z.kept fun o e=>st _ e
theorem Mp (K:Z1) {X:Cx} (hK:X.K=K) (hc:X.calm=true):Bw X (.type "set") (fun xs H Q=>∃ (a:Addr) (ss:List Str),xs=[.ref a]/\(AS K H a (ss.map V.str)\/A1 K H a (ss.map V.str))/\ss.length<=1000 /\
  ∀ D,H D=none->Q (.ref D) (upd H D (setS X.prog X.w D ss))):=by
 subst hK;intro pins s σ H xs us Q I r h;obtain ⟨a,ss,rfl,ha,hl,q⟩:=h;obtain ⟨u,rfl,ru⟩:=Cv r;cases ru
 have txt:∀ Ar:List Value,AD (ss.map V.str) Ar->∀ (i:Nat) v,Ar.toArray[i]? = some v->∃ tk,v=.str (ss.getD i (Str.ofString "")) tk:=fun Ar rv i v e=>by
  have il:Ar.length=ss.length:=by rw [<-rv.length,Z0]
  have e':Ar[i]? = some v:=by simpa using e
  have hi:i < Ar.length:=(ZA.mp e').1;have e3:(ss.map V.str)[i]? = some (.str ss[i]):=by rw [Z6,Zy (by lia)]; rfl
  obtain ⟨v',e4,r4⟩:=rv.get e3;rw [e'] at e4;cases e4
  obtain ⟨t,rfl⟩:=r4;exact ⟨t,by simp [ZJ,Zy (show i < ss.length by lia)]⟩
 have fin:∀ Ar:List Value,AD (ss.map V.str) Ar->∀ (h':Heap) (tk:Nat),D9 X.prog X.w h' s.heap.objs.size (fun k'=>(met (fun i=>ss.getD i (Str.ofString "")) Ar.toArray.size).any (· == k')) (met (fun i=>ss.getD i (Str.ofString "")) Ar.toArray.size).length ->
   (∀ b o,s.heap.get? b=some o->h'.get? b=some o)->∃ v H',Aw X pins σ H' { s with heap:=h',toks:=tk }/\AG v (.ref s.heap.objs.size)/\Q v H':=fun Ar rv h' tk hS kk=>by
  have es:Ar.toArray.size=ss.length:=by rw [ZG,<-rv.length,Z0]
  rw [es,Mc] at hS;exact ⟨.ref s.heap.objs.size,_,Sm I hS kk,rfl,q _ (I.hok.fresh (Z4 _))⟩
 have bnd:∀ Ar:List Value,AD (ss.map V.str) Ar->Ar.toArray.size + 1 < scanBound:=fun Ar rv=>by
  rw [ZG,<-rv.length,Z0];unfold scanBound;lia
 rcases ha with ha | ha
 ·obtain ⟨Ar,rv,pl,hz⟩:=I.list ha;have il:=pl.isList;obtain ⟨o,ho,hcl,n,hdat⟩:=id il;refine NM (items:=Ar.toArray) (val:=fun i=>ss.getD i (Str.ofString "")) (St:=fun I' i h=>h.IsListIter I' a i/\h.IsList a Ar.toArray) (I.ok.hd hc) ho hcl (by decide) F.sub_list_set F.sub_list_frozenset
   (fun B E' s1 Q' k q'=>wpAny_pyIter_list ⟨o,k _ _ ho,hcl,n,hdat⟩ q') (fun B I' hB ne=>Walks.list hB I' a ne Ar.toArray) (fun h k=>⟨⟨_,Z9 _ rfl,rfl,rfl⟩,⟨o,Zz _ (k _ _ ho),hcl,n,hdat⟩⟩) (txt Ar rv) (bnd Ar rv) fun h' tk hS kk=>?_
  exact fin Ar rv h' tk hS kk
 ·obtain ⟨Ar,rv,pl,hz⟩:=I.tuple ha;obtain ⟨o,ho,hcl,n,hdat⟩:=id pl;refine NM (items:=Ar.toArray) (val:=fun i=>ss.getD i (Str.ofString "")) (St:=fun I' i h=>h.IsTupleIter I' a i/\h.IsTuple a Ar.toArray) (I.ok.hd hc) ho hcl (by decide) J6 Fh
   (fun B E' s1 Q' k q'=>wpAny_pyIter_tuple ⟨o,k _ _ ho,hcl,n,hdat⟩ q') (fun B I' hB ne=>Walks.tuple hB I' a ne Ar.toArray) (fun h k=>⟨⟨_,Z9 _ rfl,rfl,rfl⟩,⟨o,Zz _ (k _ _ ho),hcl,n,hdat⟩⟩) (txt Ar rv) (bnd Ar rv) fun h' tk hS kk=>?_
  exact fin Ar rv h' tk hS kk
theorem F5 (k:Str):∀ (ss σ:List Str),k ∈ ss.foldl step_dedup σ ↔ k ∈ σ\/k ∈ ss
 | [],σ=>by simp
 | x :: xs,σ=>by
  rw [eL,F5 k xs];have:k ∈ step_dedup σ x ↔ k ∈ σ\/k=x:=by
   unfold step_dedup;split
   ·rename_i h
    rw [b0] at h;obtain ⟨y,hy,e⟩:=h;have e:=eq_of_beq e;subst e;exact ⟨.inl,fun z=>z.elim id fun e=>e ▸ hy⟩
   ·simp
  rw [this,Z3];exact or_assoc
theorem Ex:∀ (ss σ:List Str),σ.Nodup->(ss.foldl step_dedup σ).Nodup
 | [],σ,h=>h
 | x :: xs,σ,h=>by
  rw [eL];refine Ex xs _ ?_;unfold step_dedup;split
  ·exact h
  ·rename_i hn
   refine aI.mpr ⟨h,by simp,fun a ha b hb e=>hn ?_⟩;rw [ZN] at hb;subst hb e;exact b0.mpr ⟨_,ha,by simp⟩
theorem LM:∀ {l m:List Str},l.Nodup->(∀ x ∈ l,x ∈ m)->∃ r,m.Perm (l ++ r)
 | [],m,_,_=>⟨m,.refl _⟩
 | x :: l,m,nd,h=>by
  rw [ax] at nd;have p:=List.perm_cons_erase (h x (by simp));obtain ⟨r,pr⟩:=LM (m:=m.erase x) nd.2 fun y hy=>(dA (fun e:y=x=>nd.1 (e ▸ hy))).mpr (h y (ZO _ hy))
  exact ⟨r,p.trans (pr.cons _)⟩
theorem QT {l m:List Str} (nd:l.Nodup) (h:∀ x ∈ l,x ∈ m) (e:m.length=l.length):m.Perm l:=by
 obtain ⟨r,p⟩:=LM nd h;have:=p.length_eq;rw [Z7] at this;have:r=[]:=aU.mp (by lia);subst this;simpa using p
theorem Aw.drew {X:Cx} {pins:List (Addr × Obj)} {σ:St} {H:Hp} {s:Shared} (I:Aw X pins σ H s) (dr:Drawn):Aw X pins σ H { s with drawn:=dr }:=
 ⟨I.ok,I.os,I.bare,I.base,I.loc,I.cell,I.free,I.freeC,I.pin,I.hok,I.len⟩
theorem HN {X:Cx} (hc:X.calm=true):Bw X (.builtin "sorted") (fun xs H Q=>∃ (a:Addr) (ss:List Str),xs=[.ref a]/\H a=some (setS X.prog X.w a ss)/\ss.length < 64 /\
  ∀ (l:Addr) (DW:List Str),H l=none->DW.Nodup->(∀ k,k ∈ DW ↔ k ∈ ss)->sortedS DW=true->Q (.ref l) (upd H l (.lst (DW.map V.str)))):=by
 intro pins s σ H xs us Q I r h;obtain ⟨a,ss,rfl,ha,JH,q⟩:=h;obtain ⟨u,rfl,ru⟩:=Cv r;cases ru
 have hS:D9 X.prog X.w s.heap a (fun k=>(ss.foldl step_dedup []).any (· == k)) (ss.foldl step_dedup []).length:=(I.hok a _ ha).1;have few:(ss.foldl step_dedup []).length<=ss.length:=by rw [<-Mc]; exact DR _ _
 refine LG (I.ok.hd hc) hS (by lia) fun h' tk dr l us e DW ks k1 k2 k3 k4 k5 k6 k7 k8=>?_
 obtain ⟨m,hlm⟩:=id I.loc;obtain ⟨oL,esL,epL,hoL,rL⟩:=id hlm.1;have fl:H l=none:=by
  cases z:H l with
  | none=>rfl
  | some u=>
   obtain ⟨ob,e⟩:=AM.there (I.hok l u z);rw [k2] at e;cases e
 have mk:∀ k,k ∈ ks ↔ k ∈ ss:=fun k=>by
  rw [<-k7,b0];have:=F5 k ss [];constructor
  ·rintro ⟨x,hx,e⟩;have e:=eq_of_beq e;subst e;exact (this.mp hx).resolve_left (by simp)
  ·intro z;exact ⟨k,this.mpr (.inr z),by simp⟩
 have pm:ks.Perm (ss.foldl step_dedup []):=QT (Ex ss [] cQ) (fun x hx=>(mk x).mpr (((F5 x ss []).mp hx).resolve_left (by simp))) k8;have I2:=I.laidF (h2:=h') (D:=l) (o:=.lst (DW.map V.str)) hlm ⟨oL,esL,epL,k1 _ _ hoL,rL⟩ (fun b ob _ q=>k1 b ob q) k2 (fun z=>by rw [z,hoL] at k2; cases k2)
  ⟨by rw [Z0,k5.length_eq,k8,sizeLine_eq]; lia,us,e,HW k4,k3⟩
 exact ⟨.ref l,_,(I2.kept (t':=tk) fun b u q=>q).drew dr,rfl,q l DW fl (k5.nodup_iff.mpr (pm.nodup_iff.mpr (Ex ss [] cQ))) (fun k=>k5.mem_iff.trans (mk k)) k6⟩
end L2
namespace L2
open PySem PySem.W PyProof.Rows
section
variable {prog:Program} {w:World} {A:Around} {E:Value->Shared->Prop} {s:Shared} {κ:SortKind} {lt:Keyed->Keyed->Bool} {a0:Array Keyed}
end
end L2
namespace L2
open PySem PySem.Spec PyProof.Rows
section
variable {prog:Program} {w:World} {A:Around} {E:Value->Shared->Prop} {s:Shared}
end
structure Fn (K:Z1) (mg:Str->Option Value) (nm:Str) (st:Stmt) (ps:List Str) (f:Addr) (fd:FuncData):Prop where
 F:D6 K nm nm st f fd
 mg:mg nm=some (.ref f)
 b:Hw K fd ps []
structure Ox (H:Hp) (m:Addr) (n:Nat) (xs:List Str) (ws:List AI):Prop where
 ex:∃ t1 t2:Addr,∃ vs:List V,H m=some (.tup [.ref t1,.ref t2])/\H t1=some (.tup (xs.map V.str))/\H t2=some (.tup vs)/\AE H vs (ws.map EB)
 len:xs.length=n
 nd:xs.Nodup
 nm:∀ x ∈ xs,AY x=true
 wl:ws.length<=100
 wn:∀ u ∈ ws,AY u.1=true/\AY u.2.1=true/\1<=u.2.2/\u.2.2 < 10 ^ 30
def iSeq (K:Z1) (tl:TE):TI:=fun σ H R=>tl σ H fun x H1=>∃ a,x=.ref a/\(((∃ xs,AS K H1 a xs)/\R (Itl K a) H1)\/((∃ xs,A1 K H1 a xs)/\R (PU K a) H1))
theorem UQ {X:Cx} {tg l:Expr} {tl:TE} (hl:PE X l tl):PI X tg l (iSeq X.K tl):=by
 intro pins s σ H R I h;refine Bx (hl (pins:=pins) s σ H _ I h) fun v s1 ⟨x,H1,I1,r1,q1⟩=>?_
 obtain ⟨a,e,q1⟩:=q1;subst e;cases r1
 have fp:∀ b ∈ [s1.heap.objs.size],EU X pins H1 b:=fun b hb=>by
  have e:b=s1.heap.objs.size:=by simpa using hb
  subst e;exact I1.fpOk (Z4 _) (I1.hok.fresh (Z4 _))
 rcases q1 with ⟨⟨xs,hq⟩,q⟩ | ⟨⟨xs,hq⟩,q⟩
 ·obtain ⟨Ar,rv,p,hz⟩:=I1.list hq;refine wpAny_pyIter_list p.isList ?_;exact ⟨s1.heap.objs.size,[s1.heap.objs.size],_,_,H1,rfl,I1.kept (t':=s1.toks) fun b o e=>Zz _ e,JV a _,⟨_,Z9 _ rfl,rfl,rfl⟩,fp,q⟩
 ·obtain ⟨Ar,rv,p,hz⟩:=I1.tuple hq;refine wpAny_pyIter_tuple (show s1.heap.IsTuple a Ar.toArray from p) ?_;exact ⟨s1.heap.objs.size,[s1.heap.objs.size],_,_,H1,rfl,I1.kept (t':=s1.toks) fun b o e=>Zz _ e,Ik a _,⟨_,Z9 _ rfl,rfl,rfl⟩,fp,q⟩
structure RO (J:It) (xs:List V) (S:Hp->Prop):Prop where
 go:∀ i H,S H->i < xs.length->J.go i H
 yld:∀ i H x H',S H->J.yld i H x H'->H'=H/\xs[i]? = some x
 stop:∀ H,S H->J.stop xs.length H
theorem Dm {K:Z1} {a:Addr} {xs:List V}:RO (Itl K a) xs (fun H=>AS K H a xs):=
 ⟨fun i H q B5=>⟨xs,xs[i],q,by simp [B5]⟩,fun i H x H' q y=>⟨y.1,y.2 xs q⟩,fun H q=>⟨xs,q,Z4 _⟩⟩
theorem Bv {K:Z1} {a:Addr} {xs:List V}:RO (PU K a) xs (fun H=>A1 K H a xs):=
 ⟨fun i H q B5=>⟨xs,xs[i],q,by simp [B5]⟩,fun i H x H' q y=>⟨y.1,y.2 xs q⟩,fun H q=>⟨xs,q,Z4 _⟩⟩
theorem Br {J:It} {xs:List V} {S:Hp->Prop} {g:TG} {te:TE} {H:Hp} {σ0:St} {R:Addr->Hp->Prop} (ov:RO J xs S) (I:Addr->Nat->St->Hp->List V->Prop) (big:xs.length < sizeLine)
  (h0:∀ D,H D=none->I D 0 σ0 (upd H D (.lst [])) [])
  (hs:∀ D i σ H' acc,H D=none->I D i σ H' acc->S H'/\H' D=some (.lst acc)/\acc.length=i)
  (turn:∀ D i σ H' acc x (B:St->V->Hp->Prop),H D=none->xs[i]? = some x->I D i σ H' acc->(∀ AA v H5,H5 D=some (.lst acc)->I D (i + 1) AA (upd H5 D (.lst (acc ++ [v]))) (acc ++ [v])->B AA v H5)->g x σ H' fun AA H3=>te AA H3 (B AA))
  (fin:∀ D σ H' acc,H D=none->I D xs.length σ H' acc->R D H') :
  ∀ D,H D=none->∃ W:Nat->Nat->St->Hp->Prop,(∃ m,W 0 m σ0 (upd H D (.lst []))) /\
   ∀ i m A3 H',W i m A3 H'->(J.stop i H'/\R D H')\/(J.go i H'/\∀ x H2,J.yld i H' x H2->g x A3 H2 fun AA H3=>J5 AA H3 fun b H4=>
    if b=true then te AA H4 (fun v H5=>∃ acc,H5 D=some (.lst acc)/\acc.length < sizeLine/\∃ m',m' < m/\W (i + 1) m' AA (upd H5 D (.lst (acc ++ [v])))) else ∃ m',m' < m/\W (i + 1) m' AA H4):=by
 intro D hD;exists fun i m σ H'=>m=xs.length - i/\i<=xs.length/\∃ acc,I D i σ H' acc,⟨xs.length,rfl,ZX _,[],h0 D hD⟩
 rintro i m σ H' ⟨rfl,hi,acc,p⟩;obtain ⟨s1,s2,s3⟩:=hs D i σ H' acc hD p;by_cases B5:i < xs.length
 ·refine .inr ⟨ov.go i H' s1 B5,fun x H2 y=>?_⟩;obtain ⟨rfl,ex⟩:=ov.yld i H' x H2 s1 y;have e:∀ (F:St->V->Hp->Prop) (G:St->Hp->Prop),(fun (AA:St) (H3:Hp)=>J5 AA H3 fun b H4=>if b=true then te AA H4 (F AA) else G AA H4)=fun AA H3=>te AA H3 (F AA):=by
   intro F G;funext AA H3;show (if true=true then te AA H3 (F AA) else G AA H3)=_
   rw [if_pos rfl]
  rw [e (fun AA v H5=>∃ acc,H5 D=some (.lst acc)/\acc.length < sizeLine/\∃ m',m' < xs.length - i/\(m'=xs.length - (i + 1)/\i + 1<=xs.length/\∃ ET,I D (i + 1) AA (upd H5 D (.lst (acc ++ [v]))) ET)) (fun AA H4=>∃ m',m' < xs.length - i/\(m'=xs.length - (i + 1)/\i + 1<=xs.length/\∃ ET,I D (i + 1) AA H4 ET))];refine turn D i σ H2 acc x _ hD ex p fun AA v H5 d5 p5=>?_
  exact ⟨acc,d5,by lia,xs.length - (i + 1),by lia,rfl,B5,_,p5⟩
 ·have e:i=xs.length:=by lia
  subst e;exact .inl ⟨ov.stop H' s1,fin D σ H' acc hD p⟩
abbrev Bg:=Str × Int
def C9 (u:Bg):PyData:=.tuple [.str u.1,.int u.2]
structure DT (xs:List Str) (lo:Int) (rs:List Bg):Prop where
 sub:∀ r ∈ rs,r.1 ∈ xs
 nd:(rs.map (·.1)).Nodup
 lo:∀ r ∈ rs,lo<=r.2/\r.2 < 10 ^ 30
 one:1<=rs.length
def rk (u:Bg):List J1:=[.s u.1,.i u.2]
def Uy (rs:List Bg):Prop:=rs.Pairwise (fun u v=>B9 (rk v) (rk u)=false)
theorem ME {H:Hp} {v:V} {u:Bg} (h:Gi H v (C9 u)):∃ t,v=.ref t/\H t=some (.tup [.str u.1,.int u.2]):=by
 unfold C9 at h;cases h with
 | tup ha hd=>
  cases hd with
  | cons h1 r1=>
   cases r1 with
   | cons h2 r2=>
    cases r2
    cases h1
    cases h2
    exact ⟨_,rfl,ha⟩
theorem FL {H:Hp} {t:Addr} {u:Bg} (h:H t=some (.tup [.str u.1,.int u.2])):Gi H (.ref t) (C9 u):=.tup h (.cons (.str _) (.cons (.int _) .nil))
theorem Bh {H2 H3:Hp} {vs:List V} {rs:List Bg} (h:AE H2 vs (rs.map C9)) (ht:∀ b xs,H2 b=some (.tup xs)->H3 b=some (.tup xs)):AE H3 vs (rs.map C9):=by
 induction rs generalizing vs with
 | nil=>cases h; exact .nil
 | cons u rs ih=>
  cases h with
  | cons h1 r=>
   obtain ⟨t,rfl,e⟩:=ME h1;exact .cons (FL (ht _ _ e)) (ih r)
theorem Bc {H:Hp}:∀ {vs:List V} {rs:List Bg} {i:Nat} {x:V},AE H vs (rs.map C9)->vs[i]? = some x->∃ u t,rs[i]? = some u/\x=.ref t/\H t=some (.tup [.str u.1,.int u.2])
 | _,[],i,x,.nil,e=>by simp at e
 | _,u :: rs,0,x,.cons h r,e=>by
  simp only [au,ZR.injEq] at e;subst e;obtain ⟨t,rfl,q⟩:=ME h;exact ⟨u,t,rfl,rfl,q⟩
 | _,u :: rs,i + 1,x,.cons h r,e=>by
  obtain ⟨u',t,a,b,c⟩:=Bc r (by simpa using e);exact ⟨u',t,by simpa using a,b,c⟩
theorem A9 {H:Hp}:∀ {vs:List V} {rs:List Bg},AE H vs (rs.map C9)->vs.length=rs.length
 | _,[],.nil=>rfl
 | _,u :: rs,.cons h r=>by rw [aq,aq,A9 r]
theorem OL {H:Hp} {vs Ej:List V} (p:Ej.Perm vs):∀ {rs:List Bg},AE H vs (rs.map C9)->∃ Lp:List Bg,AE H Ej (Lp.map C9)/\Lp.Perm rs:=by
 induction p with
 | nil=>intro rs h; exact ⟨rs,h,.refl _⟩
 | cons x p ih=>
  intro rs h;cases rs with
  | nil=>cases h
  | cons u rs=>
   cases h with
   | cons h1 h2=>
    obtain ⟨Lp,a,b⟩:=ih h2;exact ⟨u :: Lp,.cons h1 a,b.cons u⟩
 | swap x y l=>
  intro rs h;cases rs with
  | nil=>cases h
  | cons u rs=>
   cases h with
   | cons h1 h2=>
    cases rs with
    | nil=>cases h2
    | cons v rs=>
     cases h2 with
     | cons h3 h4=>exact ⟨v :: u :: rs,.cons h3 (.cons h1 h4),.swap u v rs⟩
 | trans p1 p2 Vq Vp=>
  intro rs h;obtain ⟨Aq,a1,b1⟩:=Vp h;obtain ⟨As,a2,b2⟩:=Vq a1;exact ⟨As,a2,b2.trans b1⟩
theorem QJ {H:Hp} {v:V} {u:Bg} (h:Gi H v (C9 u)):Lk H (fun i=>decide (i < 1)) v/\JE H v=rk u:=by
 obtain ⟨t,rfl,ht⟩:=ME h;exists ⟨t,_,rfl,ht,by simp,fun i y e=>?_⟩
 ·unfold K1;match i,e with
  | 0,e=>cases e; simp
  | 1,e=>cases e; simp
  | n + 2,e=>simp at e
 ·show (match H t with | some (.tup ys)=>ys.map Ly | _=>[])=_
  rw [ht];rfl
theorem Gr {H:Hp}:∀ {vs:List V} {rs:List Bg},AE H vs (rs.map C9)->(∀ v ∈ vs,Lk H (fun i=>decide (i < 1)) v)/\vs.map (JE H)=rs.map rk
 | _,[],.nil=>⟨(fun v hv=>nomatch hv),rfl⟩
 | _,u :: rs,.cons h r=>by
  obtain ⟨a1,a2⟩:=QJ h;obtain ⟨b1,b2⟩:=Gr r;refine ⟨fun v hv=>?_,by rw [ZL,ZL,a2,b2]⟩;rcases Z3.mp hv with rfl | hv
  ·exact a1
  ·exact b1 v hv
theorem DT.perm {xs:List Str} {lo:Int} {rs Lp:List Bg} (h:DT xs lo rs) (p:Lp.Perm rs):DT xs lo Lp:=
 ⟨fun r hr=>h.sub r (p.mem_iff.mp hr),(p.map (·.1)).nodup_iff.mpr h.nd,fun r hr=>h.lo r (p.mem_iff.mp hr),by rw [p.length_eq]; exact h.one⟩
def Lim (x:V) (d:PyData):Prop:=(x=.non/\d=.none)\/∃ i:Int,x=.int i/\d=.int i/\1<=i/\i < 10 ^ 30
end L2
namespace L2
open PySem PySem.Spec PySem.W PyProof.Rows
end L2
namespace L2
open PySem PySem.Spec PyProof.Rows
theorem Dq {H H':Hp} {p:Addr} (hP:Ax H p) (k:Az p H H'):∀ b ys,H b=some (.tup ys)->H' b=some (.tup ys):=fun b ys z=>k b _ (by
 obtain ⟨_,_,_,q⟩:=hP;exact CB z q (fun y=>by cases y)) z
theorem Ox.keepT {H H':Hp} {m:Addr} {n:Nat} {xs:List Str} {ws:List AI} (h:Ox H m n xs ws) (t:∀ b ys,H b=some (.tup ys)->H' b=some (.tup ys)):Ox H' m n xs ws:=by
 obtain ⟨ta,tb,vs,a,b,c,e⟩:=h.ex;exact ⟨⟨ta,tb,vs,t _ _ a,t _ _ b,t _ _ c,Dp e t⟩,h.len,h.nd,h.nm,h.wl,h.wn⟩
theorem M5 {x y x' y':Str} (p:[x',y'].Perm [x,y]) (h:sortedS [x',y']=true):x'=Cb x y/\y'=Cc x y:=by
 have h1:=Gq h;have h2:[Cb x y,Cc x y].Pairwise fun a b=>¬ b.cps.toList < a.cps.toList:=by
  refine List.pairwise_pair.mpr ?_;unfold Cb Cc;by_cases a:y.cps.toList < x.cps.toList
  ·rw [if_pos a,if_neg (fun z=>EJ _ (cz a z))];exact fun z=>EJ _ (cz a z)
  ·rw [if_neg a];by_cases b:x.cps.toList < y.cps.toList
   ·rw [if_pos b];exact a
   ·rw [if_neg b];exact EJ _
 have p2:[Cb x y,Cc x y].Perm [x,y]:=by
  unfold Cb Cc;by_cases a:y.cps.toList < x.cps.toList
  ·rw [if_pos a,if_neg (fun z=>EJ _ (cz a z))];exact .swap _ _ _
  ·rw [if_neg a];by_cases b:x.cps.toList < y.cps.toList
   ·rw [if_pos b]
   ·rw [if_neg b];have e:x=y:=Dr a b;rw [e]
 have e:=JY h1 h2 (p.trans p2.symm);simp only [ck.injEq,and_true] at e;exact e
structure Gh (H:Hp) (m:Addr) (n:Nat) (ps:List Str) (ws:List AI):Prop where
 at':Ox H m n ps ws
 dr:∃ (xs:List Str) (Gj:List AI),ps.Perm xs/\ws.Perm (Gj.map Er)/\D3 xs Gj
 so:sortedS ps=true
 l64:ws.length < 64
theorem Gh.web {H:Hp} {m:Addr} {n:Nat} {ps:List Str} {ws:List AI} (h:Gh H m n ps ws) (n1:1<=n) (n30:n<=30) :
  ∃ r,Jr H m ps ws r/\(∀ u ∈ ws,1<=u.2.2)/\(∀ x y l l',BP ws x y l->BP ws x y l'->l=l'):=by
 obtain ⟨xs,Gj,pp,wp,wof,sep,jn⟩:=h.dr;have pl:0 < ps.length:=by rw [h.at'.len]; lia
 have hr0:ps[0] ∈ xs:=pp.mem_iff.mp (ar pl);have en:=fun x y l=>Kr wp x y l
 refine ⟨ps[0],⟨⟨h.at'.ex⟩,h.at'.nd,by rw [h.at'.len]; lia,h.l64,fun u hu=>?_,Zy pl,fun Sp hs hcl z hz=>?_⟩,fun u hu=>(h.at'.wn u hu).2.2.1,fun x y l l' e1 e2=>PB sep ((en x y l).mp e1) ((en x y l').mp e2)⟩
 ·obtain ⟨q1,q2⟩:=Pz wp (fun u hu=>⟨(wof u hu).1,(wof u hu).2.1⟩) u hu;exact ⟨pp.mem_iff.mpr q1,pp.mem_iff.mpr q2⟩
 ·exact Ln.all jn Sp (fun b c hbc=>hcl b c ((RM wp b c).mpr hbc)) hr0 hs z (pp.mem_iff.mp hz)
theorem IY:∀ {ns:List Int} {us:List Value},AD (ns.map V.int) us->∃ ts:List (Int × Tok),us=ts.map (fun p=>Value.int p.1 p.2)/\ts.map (·.1)=ns
 | [],_,.nil=>⟨[],rfl,rfl⟩
 | n :: ns,_,.cons r q=>by
  obtain ⟨t,rfl⟩:=r;obtain ⟨ts,rfl,e⟩:=IY q;exact ⟨(n,t) :: ts,rfl,by rw [ZL,e]⟩
theorem JJ {X:Cx} (hc:X.calm=true):Bw X (.builtin "sum") (fun xs H Q=>∃ (a:Addr) (ns:List Int),xs=[.ref a]/\AS X.K H a (ns.map V.int)/\Q (.int ns.sum) H):=by
 intro pins s σ H xs us Q I r h;obtain ⟨a,ns,rfl,ha,q⟩:=h;obtain ⟨u,rfl,ru⟩:=Cv r;cases ru
 obtain ⟨Ar,rv,pl,hz⟩:=I.list ha;obtain ⟨ts,rfl,e⟩:=IY rv;have hl:s.heap.IsList a (intItems ts.toArray):=by
  have:=pl.isList;unfold intItems;simpa using this
 refine sum_intListG (I.ok.hd hc) hl fun h' tk t' kk=>?_
 refine ⟨.int ns.sum,H,I.kept (t':=tk) kk,⟨t',?_⟩,q⟩;have:preSum (numAt ts.toArray) ts.toArray.size=ns.sum:=by
  rw [preSum_eq,aX (by simp),<-e]
 rw [this]
theorem JD:typeLookup (.type "tuple") "keys"=pure none:=by rw [typeLookup_type,builtinLookup_eq_fast]; kernel_rfl
theorem O8 {prog:Program} {w:World} {A:Around} {E:Value->Shared->Prop} {s:Shared} {a:Addr} {o:Obj} {xs:Array Value} {k:Nat} {Q:Option Value->Shared->Prop}
  (hx:s.heap.get? a=some o) (hc:o.cls=.type "tuple") (hdat:o.data=.seq xs k) (hd:o.dict=none) (hA:A.handled=none)
  (h:∀ h' tk,(∀ b ob,s.heap.get? b=some ob->h'.get? b=some ob)->Q none { s with heap:=h',toks:=tk }):wpAny (model prog w) A (getAttr? (.ref a) "keys") Q E s:=by
 obtain ⟨c,dct,dat,sl⟩:=o;simp only at hc hdat hd;subst hc hdat hd;obtain ⟨hp,g,d,tk,os⟩:=s;have hT:∀ VM,(⟨hp,g,d,VM,os⟩:Shared).TypeIs (.ref a) "tuple":=fun _=>⟨_,hx,rfl⟩
 have f1:=sub_AttributeError;have f3:=F.slot_tuple_getattribute.lookup;have f4:=F.slot_tuple_getattribute.bind (.ref a);have f5:=am_tuple_getattr_none;unfold getAttr? getAttrBy? getAttrBy;repeat (any_goals (first | assumption | exact hT _ | ((with_reducible show wpAny _ _ (call (Value.builtin "tuple.__getattribute__") _ _) _ _ _); refine call_meets F.slot_tuple_getattribute (hT _) am_entry_tuple_getattribute (F.args_tuple_getattribute_2 _ _) (meets_getattribute_miss_tuple a xs k sl "keys" _ JD (by decide +kernel) (by decide +kernel)) ⟨hx,hA,fun h' VM e Mg=>?_⟩) | wp_step))
 obtain ⟨t',u',he⟩:=Mg.there;show wpAny _ _ (getattributeRaised _ _ _ _ _ _ _) _ _ _
 unfold getattributeRaised;have hE:∀ VM,(⟨h',g,d,VM,os⟩:Shared).TypeIs (.ref e) "AttributeError":=fun _=>⟨_,he,rfl⟩
 repeat (any_goals (first | assumption | exact hE _ | wp_step))
 exact h _ _ Mg.keeps
section
variable {prog:Program} {w:World} {A:Around} {R:Result->Shared->Prop} {g0:Heap} {D it l:Addr} {vs:List Value} {ps:List (Str × V)}
theorem O1 (hh:A.handled=none) (nI:it ≠ D) (nl:l ≠ it/\l ≠ D) (g1:∀ b o,g0.get? b=some o->b ≠ it/\b ≠ D) (hl:vs.length=ps.length) (rows:∀ (i:Nat) v p,vs[i]? = some v->ps[i]? = some p->Ux g0 v p) (hsz:ps.length < sizeLine) :
  ∀ (m i:Nat) (s:Shared) (kvs:List (Bm × V)) (us:List (Bm × Value)),ps.length - i=m->i<=ps.length->s.heap.IsTupleIter it l i->s.heap.IsTuple l vs.toArray->KV kvs us->kvs.length<=i->s.heap.DictOf (AX prog w) D us->(∀ b o,g0.get? b=some o->s.heap.get? b=some o) ->
   (∀ h' tk O0,KV (IS kvs (sK (ps.drop i))) O0->h'.DictOf (AX prog w) D O0->(∀ b o,b ≠ it->b ≠ D->s.heap.get? b=some o->h'.get? b=some o)->R (.ok (.ret .none)) { s with heap:=h',toks:=tk }) ->
   codeAny (model prog w) A (.builtin "dict.update.loop" ⟨[.ref D,.ref it,.int (i:Int) 0,.none],[]⟩) R s:=by
 intro m;induction m with
 | zero=>
  intro i s kvs us hm hi st hL kv kl dd gk r;have e:i=ps.length:=by lia
  refine codeAny_builtin EO ?_;rw [Around.under_plainId C3 _];unfold Builtin.«dict.update.loop»;refine wpAny_bind (wpAny_pyNext_tuple_end hh st hL (by simp; lia) fun h' eb=>?_);refine wpAny_bind (wpAny_pure (wpAny_pure ?_));have Mx:h'.DictOf (AX prog w) D us:=dd.at fun o q=>eb D o (Ne.symm nI) q
  refine r h' s.toks us ?_ Mx fun b o b1 b2 q=>eb b o b1 q
  rw [e,List.drop_length];exact kv
 | succ m ih=>
  intro i s kvs us hm hi st hL kv kl dd gk r;have B5:i < ps.length:=by lia
  have ev:vs[i]? = some (vs[i]'(by lia)):=Zy (by lia);have ep:ps[i]? = some ps[i]:=Zy B5;obtain ⟨a,t,u,e1,ht,ru⟩:=rows i _ _ ev ep;rw [e1] at ev;refine codeAny_builtin EO ?_;rw [Around.under_plainId C3 _];unfold Builtin.«dict.update.loop»;refine wpAny_bind (wpAny_pyNext_tuple_item st hL (x:=.ref a) (by simpa using ev) fun h' AZ sb=>?_);obtain ⟨o,ho,hc,n,hd⟩:=id ht;have ha:=(sb.2 a (g1 a o ho).1).trans (gk a o ho);have Mx:h'.DictOf (AX prog w) D us:=dd.at fun o q=>(sb.2 D (Ne.symm nI)).trans q
  have L':h'.IsTuple l vs.toArray:=by
   obtain ⟨ol,hol,rl⟩:=hL;exact ⟨ol,(sb.2 l nl.1).trans hol,rl⟩
  refine wpAny_bind (wpAny_holding ?_);refine wpAny_bind (wpAny_tryCatch ?_);unfold Builtin.Dict.pairItems;refine wpAny_bind (wpAny_typeOf (T:="tuple") ⟨o,ha,hc⟩ ?_);rw [if_pos (by decide)];refine wpAny_bind (wpAny_seqItems ha hd (wpAny_pure ?_));show wpAny _ A.in1 (holding [Value.str ps[i].1 t,u] (dictSet D (Value.str ps[i].1 t) u)) _ _ _
  have Yr:us.length<=sizeLine:=by rw [<-kv.length]; lia
  refine wpAny_holding (wpAny_dictSet_pairs (k:=Sum.inr ps[i].1) (hsz:=Yr) (Hn prog w _ t) Mx fun h2 RV Xy=>?_);have ki:((i:Int) + 1)=((i + 1:Nat):Int):=by lia
  refine wpAny_pure ⟨plainId_quiet C3 _,?_⟩;show codeAny (model prog w) A (.builtin "dict.update.loop" ⟨[.ref D,.ref it,.int ((i:Int) + 1) 0,.none],[]⟩) R _
  rw [ki];have kl2:=CM kvs (Sum.inr ps[i].1:Bm) ps[i].2;have it2:h2.IsTupleIter it l (i + 1):=by
   obtain ⟨oi,hoi,ri⟩:=AZ;exact ⟨oi,(Xy.2 it nI).trans hoi,ri⟩
  refine ih (i + 1) _ (BG kvs (Sum.inr ps[i].1) ps[i].2) _ (by lia) B5 it2 ?_ (kv.put (Sum.inr ps[i].1) ru) (by lia) RV (fun b ob q=>(Xy.2 b (g1 b ob q).2).trans ((sb.2 b (g1 b ob q).1).trans (gk b ob q))) fun h3 UA us3 kv3 dd3 k3=>?_
  ·obtain ⟨ol,hol,rl⟩:=L';exact ⟨ol,(Xy.2 l nl.2).trans hol,rl⟩
  ·refine r h3 UA us3 ?_ dd3 fun b ob b1 b2 q=>k3 b ob b1 b2 ((Xy.2 b b2).trans ((sb.2 b b1).trans q))
   have ed:ps.drop i=ps[i] :: ps.drop (i + 1):=(cT B5)
   rw [ed];exact kv3
end
section
variable {prog:Program} {w:World} {A:Around} {E:Value->Shared->Prop} {s:Shared}
theorem HP {l:Addr} {vs:List Value} {ps:List (Str × V)} {Q:Value->Shared->Prop} (hh:A.handled=none) {ol:Obj} {nl:Nat} (hl:s.heap.get? l=some ol) (hc:ol.cls=.type "tuple") (hd:ol.data=.seq vs.toArray nl) (hdc:ol.dict=none)
  (hlen:vs.length=ps.length) (rows:∀ (i:Nat) v p,vs[i]? = some v->ps[i]? = some p->Ux s.heap v p) (hsz:ps.length < sizeLine)
  (h:∀ h' tk us,KV (IS [] (sK ps)) us->h'.DictOf (AX prog w) s.heap.objs.size us->(∀ b o,s.heap.get? b=some o->h'.get? b=some o)->Q (.ref s.heap.objs.size) { s with heap:=h',toks:=tk }):wpAny (model prog w) A (call (.type "dict") [.ref l]) Q E s:=by
 refine callType_codes (Q₁:=fun obj AU=>obj=.ref s.heap.objs.size/\AU = { s with heap:=s.heap.push { cls:=.type "dict",data:=.dict #[] } }) F.kt_called_dict (F.kt_typeCall_dict_1 _) F.entry_dict_init (kt_code_dict_new _ ⟨rfl,rfl⟩) ?_;rintro obj AU ⟨rfl,rfl⟩;have hnew:(s.heap.push { cls:=.type "dict",data:=.dict #[] }).DictOf (AX prog w) s.heap.objs.size []:=Heap.DictOf.new s.heap;have JF:(s.heap.push { cls:=.type "dict",data:=.dict #[] }).get? l=some ol:=Zz _ hl;exists hnew.typeIs,F.args_dict_init_2 _ _;unfold Builtin.«dict.__init__»;refine wpAny_bind ?_;unfold Builtin.Dict.selfAndRest;refine wpAny_bind (wpAny_notOrdered_dict hnew.typeIs ?_);show wpAny _ _ (pure (s.heap.objs.size,[Value.ref l])) _ _ _
 refine wpAny_pure ?_;show wpAny _ _ (Builtin.Dict.updateFrom "dict.__init__" s.heap.objs.size (.ref l) [] .none) _ _ _
 unfold Builtin.Dict.updateFrom;refine wpAny_bind (wpAny_typeOf (T:="tuple") ⟨ol,JF,hc⟩ ?_);rw [if_pos (by decide)];refine wpAny_bind (O8 JF hc hd hdc hh fun h1 tk1 k1=>?_);simp only [Option.isNone_none,if_true];refine wpAny_bind (wpAny_rule ?_);have Jw:h1.IsTuple l vs.toArray:=⟨ol,k1 _ _ JF,hc,nl,hd⟩
 refine wpAny_bind (wpAny_pyIter_tuple Jw ?_);have old:∀ b o,s.heap.get? b=some o->h1.get? b=some o:=fun b o q=>k1 b o (Zz _ q)
 obtain ⟨od,esd,epd,hod,rd⟩:=id hnew;have Yh:=k1 _ _ hod;have ltD:=Z5 Yh;have ltl:=Z5 (k1 _ _ JF);refine wpAny_pure ⟨plainId_quiet C3 _,?_⟩;refine O1 (A:=A.in1) (g0:=s.heap) (D:=s.heap.objs.size) (it:=h1.objs.size) (l:=l) (vs:=vs) (ps:=ps) hh (aD ltD) ⟨ZE ltl,ZE (Z5 hl)⟩ (fun b o q=>⟨ZE (Z5 (old b o q)),ZE (Z5 q)⟩) hlen rows hsz _ 0 { s with heap:=h1.push { cls:=.type "tuple_iterator",data:=.fields #[.ref l,.int 0 0] },toks:=tk1 } [] [] rfl (ZX _)
  ⟨_,Z9 _ rfl,rfl,rfl⟩ (Jw.push _) .nil (Z4 _) ⟨od,esd,epd,Zz _ Yh,rd⟩ (fun b o q=>Zz _ (old b o q)) fun h' tk us kv dd kk=>?_
 rw [bY] at kv;exact ⟨rfl,h h' tk us kv dd fun b o q=>kk b o (ZE (Z5 (old b o q))) (ZE (Z5 q)) (Zz _ (old b o q))⟩
end
theorem BU {X:Cx} (hc:X.calm=true):Bw X (.type "dict") (fun xs H Q=>∃ (a:Addr) (vs:List V) (ps:List (Str × V)),xs=[.ref a]/\H a=some (.tup vs)/\vs.length=ps.length/\(∀ (i:Nat) v p,vs[i]? = some v->ps[i]? = some p->∃ t,v=.ref t/\H t=some (.tup [.str p.1,p.2]))/\(ps.map (·.1)).Nodup/\ps.length < 1000 /\
  ∀ D,H D=none->Q (.ref D) (upd H D (.dK (sK ps)))):=by
 intro pins s σ H xs us Q I r h;obtain ⟨a,vs,ps,rfl,ha,hl,hk,hn,h1000,q⟩:=h;obtain ⟨u,rfl,ru⟩:=Cv r;cases ru
 obtain ⟨hz,Ar,rv,⟨o,ho,Kl,n,hdat⟩,dn⟩:=(show AM X.prog X.w H s.heap a (.tup vs) from I.hok a _ ha)
 have Lf:=dn o ho;have il:Ar.length=ps.length:=by rw [<-rv.length,hl]
 have big:1000 < sizeLine:=by decide
 refine HP (I.ok.hd hc) (ps:=ps) ho Kl hdat Lf il (fun i v p e1 e2=>?_) (by lia) fun h' tk us kv dd kk=>?_
 ·have hi:i < Ar.length:=(ZA.mp e1).1;have e3:vs[i]? = some vs[i]:=Zy (by lia);obtain ⟨v',e4,r4⟩:=rv.get e3;rw [e1] at e4;cases e4
  obtain ⟨t,e5,ht⟩:=hk i _ p e3 e2;rw [e5] at r4;cases r4
  obtain ⟨HG,VO,pl2,_⟩:=I.tuple (A1.of ht);cases VO with
  | cons x1 y1=>
   cases y1 with
   | cons x2 y2=>
    cases y2
    obtain ⟨t1,rfl⟩:=x1;exact ⟨t,t1,_,rfl,pl2,x2⟩
 ·have em:IS [] (sK ps)=sK ps:=Md ps [] (by simpa using hn);rw [em] at kv;refine ⟨.ref s.heap.objs.size,_,I.laid (a:=s.heap.objs.size) (o:=.dK (sK ps)) (t':=tk) kk (Z4 _) (Lh (by rw [CU]; lia) (beq_eq_false_iff_ne.mpr (Ne.symm (ZE I.big))) kv dd),rfl,q _ (I.hok.fresh (Z4 _))⟩
structure BZ (H:Hp) (c m:Addr) (n:Nat) (xs:List Str) (ws:List AI) (Aq As:List Bg) (x:V) (d:PyData):Prop where
 ex:∃ (t1 t2:Addr) (DV Fv:List V),H c=some (.tup [.ref m,.ref t1,.ref t2,x])/\H t1=some (.tup DV)/\AE H DV (Aq.map C9)/\H t2=some (.tup Fv)/\AE H Fv (As.map C9)
 map:Gh H m n xs ws
 n1:1<=n
 n30:n<=30
 ok1:DT xs 0 Aq
 ok2:DT xs 1 As
 l1:Aq.length<=10
 l2:As.length<=30
 lim:Lim x d
theorem Gh.keepT {H H':Hp} {m:Addr} {n:Nat} {xs:List Str} {ws:List AI} (h:Gh H m n xs ws) (t:∀ b ys,H b=some (.tup ys)->H' b=some (.tup ys)):Gh H' m n xs ws:=⟨h.at'.keepT t,h.dr,h.so,h.l64⟩
theorem BZ.keepT {H H':Hp} {c m:Addr} {n:Nat} {xs:List Str} {ws:List AI} {Aq As:List Bg} {x:V} {d:PyData} (h:BZ H c m n xs ws Aq As x d) (t:∀ b ys,H b=some (.tup ys)->H' b=some (.tup ys)):BZ H' c m n xs ws Aq As x d:=by
 obtain ⟨t1,t2,DV,Fv,a,b,e,f,g⟩:=h.ex;exact ⟨⟨t1,t2,DV,Fv,t _ _ a,t _ _ b,Bh e t,t _ _ f,Bh g t⟩,h.map.keepT t,h.n1,h.n30,h.ok1,h.ok2,h.l1,h.l2,h.lim⟩
theorem BZ.same {H H':Hp} {c m:Addr} {n:Nat} {xs:List Str} {ws:List AI} {Aq As:List Bg} {x:V} {d:PyData} (h:BZ H c m n xs ws Aq As x d) (s:Ao H H'):BZ H' c m n xs ws Aq As x d:=h.keepT fun b ys z=>s _ _ z
def G8 (rs:List Bg) (h:Str):Int:=((rs.find? fun r=>decide (r.1=h)).map (·.2)).getD 0
theorem Ey {rs:List Bg} (h:(rs.map (·.1)).Nodup) {r:Bg} (hr:r ∈ rs):G8 rs r.1=r.2:=by
 induction rs with
 | nil=>exact nomatch hr
 | cons q rs ih=>
  rw [ZL,ax] at h;unfold G8;rw [aY];by_cases e:q.1=r.1
  ·rw [decide_eq_true e];rcases Z3.mp hr with z | z
   ·rw [z]; rfl
   ·exact absurd (ZD.mpr ⟨_,z,e.symm⟩) h.1
  ·rw [decide_eq_false e];rcases Z3.mp hr with z | z
   ·rw [z] at e; exact absurd rfl e
   ·exact ih h.2 z
def BR (rs:List Bg):List (Str × V):=rs.map fun r=>(r.1,.int r.2)
theorem Dl (rs:List Bg):(BR rs).map (·.1)=rs.map (·.1):=by unfold BR; rw [az]; rfl
theorem HS {H:Hp} {us:List V} {rs:List Bg} (h:AE H us (rs.map C9)):∀ (i:Nat) v p,us[i]? = some v->(BR rs)[i]? = some p->∃ t,v=.ref t/\H t=some (.tup [.str p.1,p.2]):=fun i v p e1 e2=>by
 obtain ⟨u,t,eu,rfl,ht⟩:=Bc h e1;unfold BR at e2;rw [Z6,eu] at e2;cases e2
 exact ⟨t,rfl,ht⟩
theorem Iz {H:Hp} {B:Addr} {rs:List Bg} (h:H B=some (.dK (sK (BR rs)))) (nd:(rs.map (·.1)).Nodup) {y:Str} (hy:y ∈ rs.map (·.1)):Cw H B (.str y) (some (.int (G8 rs y))):=by
 obtain ⟨r,hr,rfl⟩:=ZD.mp hy;rw [Ey nd hr];exact .inl ⟨_,Sum.inr r.1,.inl h,rfl,(DJ (nv:=BR rs) (by rw [Dl]; exact nd) (ZD.mpr ⟨r,hr,rfl⟩)).symm⟩
theorem D5 {h h':Heap} {a t:Addr} {i:Nat} (x:h.IsTupleIter a t i) (e:∀ o,h.get? a=some o->h'.get? a=some o):h'.IsTupleIter a t i:=let ⟨o,ho,r⟩:=x; ⟨o,e _ ho,r⟩
section
variable {prog:Program} {w:World} {A:Around} {E:Value->Shared->Prop} {s:Shared}
theorem C6 {it l:Addr} {i:Nat} {items} {x:Value} {Q:Value->Shared->Prop} (hit:s.heap.IsTupleIter it l i)
  (hl:s.heap.IsTuple l items) (hx:items[i]? = some x)
  (hQ:∀ h',h'.IsTupleIter it l (i + 1)->Heap.SameBut it s.heap h'->Q x { s with heap:=h' }) :
  wpAny (model prog w) A (Builtin.SmallTypes.nextOf (.ref it)) Q E s:=by
 obtain ⟨o,ho,hc,hd⟩:=id hit;obtain ⟨ol,hol,_,nl,hdl⟩:=hl;unfold Builtin.SmallTypes.nextOf;refine wpAny_bind (wpAny_callSpecial?_slot (name:=Str.ofString "__next__") hit.typeIs F.slot_tuple_iterator_next
  (wpAny_call_entry F.slot_tuple_iterator_next hit.typeIs F.entry_tuple_iterator_next ?_ (F.args_tuple_iterator_next_1 _)))
 show wpAny _ _ (field (.ref it) 0 >>= _) _ _ s
 refine wpAny_bind (wpAny_field ho hd (x:=.ref l) rfl ?_);show wpAny _ _ (if (Value.ref l == Value.none)=true then _ else _) _ _ s
 rw [if_neg (show ¬ ((Value.ref l == Value.none)=true) from ZI)];show wpAny _ _ (field (.ref it) 1 >>= _) _ _ s
 refine wpAny_bind (wpAny_field ho hd (x:=.int i 0) rfl ?_);show wpAny _ _ (seqItems? (.ref l) >>= _) _ _ s
 refine wpAny_bind (wpAny_seqItems hol hdl ?_);simp only [bL,hx];refine wpAny_bind (wpAny_setField ho hd (by simp) (wpAny_pure ⟨x,rfl,wpAny_pure (hQ _ ?_ (Heap.SameBut.update ..))⟩));exact ⟨_,ah _ ho (Obj.isFreed_of_fields (Obj.data_mapFields hd _)),(Obj.cls_mapFields ..).trans hc,by
  rw [Obj.data_mapFields hd]; simp [rawInt]⟩
theorem Eg {it l:Addr} {i:Nat} {items} {Q:Value->Shared->Prop} (hh:A.handled=none)
  (hit:s.heap.IsTupleIter it l i) (hl:s.heap.IsTuple l items) (hx:items[i]? = none)
  (hE:∀ h' e,Heap.ExtBut it s.heap h'->(∃ o,h'.get? e=some o/\o.cls=.type "StopIteration")->E (.ref e) { s with heap:=h' }) :
  wpAny (model prog w) A (Builtin.SmallTypes.nextOf (.ref it)) Q E s:=by
 obtain ⟨o,ho,hc,hd⟩:=id hit;obtain ⟨ol,hol,_,nl,hdl⟩:=hl;unfold Builtin.SmallTypes.nextOf;refine wpAny_bind (wpAny_callSpecial?_slot (name:=Str.ofString "__next__") hit.typeIs F.slot_tuple_iterator_next
  (wpAny_call_entry F.slot_tuple_iterator_next hit.typeIs F.entry_tuple_iterator_next ?_ (F.args_tuple_iterator_next_1 _)))
 show wpAny _ _ (field (.ref it) 0 >>= _) _ _ s
 refine wpAny_bind (wpAny_field ho hd (x:=.ref l) rfl ?_);show wpAny _ _ (if (Value.ref l == Value.none)=true then _ else _) _ _ s
 rw [if_neg (show ¬ ((Value.ref l == Value.none)=true) from ZI)];show wpAny _ _ (field (.ref it) 1 >>= _) _ _ s
 refine wpAny_bind (wpAny_field ho hd (x:=.int i 0) rfl ?_);show wpAny _ _ (seqItems? (.ref l) >>= _) _ _ s
 refine wpAny_bind (wpAny_seqItems hol hdl ?_);simp only [bL,hx];refine wpAny_bind (wpAny_rule (wpAny_bind (wpAny_setField ho hd (by simp) ?_)));show wpAny _ _ (newExc (.type "StopIteration") [] >>= _) _ _ _
 refine wpAny_bind ?_;simp only [newExc,newTuple];refine wpAny_bind (wpAny_newObj_type ?_ (by size_fits));refine wpAny_bind (m:=firstArgMember _ _) (wpAny_of_eq (a:=Value.none) (by first | rfl | (simp only [firstArgMember]; rfl)) ?_);refine wpAny_newObj_type ?_ (by size_fits);simp only [raiseNew];refine wpAny_bind (wpAny_handled ?_);first | rw [show A.in1.handled=none from hh] | rw [hh]
 refine wpAny_bind (wpAny_pure (wpAny_throw ?_));exact hE _ _ (((Heap.SameBut.update ..).extBut.push _).push _) ⟨_,Z9 _ rfl,rfl⟩
end
section
variable {prog:Program} {w:World} {A:Around} {E:Value->Shared->Prop} {s:Shared}
end
theorem Aw.turnedT {X:Cx} {pins:List (Addr × Obj)} {σ:St} {H:Hp} {s:Shared} {h':Heap} {t':Nat} {fp:List Addr} {xs:List V} (I:Aw X pins σ H s) (hf:∀ b ∈ fp,EU X pins H b)
  (k:∀ b o,b ∉ fp->s.heap.get? b=some o->h'.get? b=some o) (new:AM X.prog X.w (upd H s.heap.objs.size (.tup xs)) h' s.heap.objs.size (.tup xs)) :
  Aw X pins σ (upd H s.heap.objs.size (.tup xs)) { s with heap:=h',toks:=t' }:=by
 have hT:H s.heap.objs.size=none:=I.hok.fresh (Z4 _);have fT:=I.fpOk (Z4 _) hT;have nT:∀ b o,s.heap.get? b=some o->b ≠ s.heap.objs.size:=fun b o e z=>absurd (Z5 e) (by rw [z]; exact ay _)
 have nH:∀ b u,H b=some u->b ∉ fp:=fun b u e z=>by rw [(hf b z).1] at e; cases e
 refine I.step (g':=s.gens) (d':=s.drawn) (ch:=s.heap.objs.size :: fp) (fun b hb=>?_) (fun b o _ _ hc e _=>k b o (fun z=>hc (ZO _ z)) e) (fun b o _ _ hc e _=>⟨o.slots,k b o (fun z=>hc (ZO _ z)) e⟩)
  (fun b o hc e n=>by rw [Ae (nT b o e)]; exact n) (fun b o hc e=>⟨o,k b o (fun z=>hc (ZO _ z)) e⟩)
  (fun b xs e=>by rw [Ae (Ah e hT)]; exact e) (fun b o u e=>by rw [Ae (Ah e hT)]; exact e) (fun b ps e=>⟨#[],by rw [Ae (Ah e hT),e]; simp⟩) (fun m hm=>?_) (fun b u e=>?_) I.bare
 ·rcases Z3.mp hb with rfl | hb
  ·obtain ⟨_,f1,_,f3,f4,f5⟩:=fT;exact ⟨f3,f1,f4,f5⟩
  ·obtain ⟨_,f1,_,f3,f4,f5⟩:=hf b hb;exact ⟨f3,f1,f4,f5⟩
 ·obtain ⟨o,es,ep,ho,r⟩:=hm;exact ⟨o,es,ep,k _ o (fun z=>(hf _ z).2.1 rfl) ho,r⟩
 ·by_cases z:b=s.heap.objs.size
  ·subst z;rw [Ab] at e;cases e
   exact new
  ·rw [Ae z] at e;refine (I.hok b u e).stay (fun c v hc q=>k c v ?_ q) (fun c q=>by rw [Ae (Ah q hT)]; exact q) fun c xs q=>by rw [Ae (Ah q hT)]; exact q
   rcases hc with z | z
   ·rw [z]; exact nH b u e
   ·exact nH c _ z
theorem Aw.turnedL {X:Cx} {pins:List (Addr × Obj)} {σ:St} {H:Hp} {s:Shared} {h':Heap} {t':Nat} {fp:List Addr} (I:Aw X pins σ H s) (hf:∀ b ∈ fp,EU X pins H b)
  (k:∀ b o,b ∉ fp->s.heap.get? b=some o->h'.get? b=some o):Aw X pins σ H { s with heap:=h',toks:=t' }:=by
 have nH:∀ b u,H b=some u->b ∉ fp:=fun b u e z=>by rw [(hf b z).1] at e; cases e
 refine I.step (g':=s.gens) (d':=s.drawn) (ch:=fp) (fun b hb=>?_) (fun b o _ _ hc e _=>k b o hc e) (fun b o _ _ hc e _=>⟨o.slots,k b o hc e⟩) (fun _ _ _ _ n=>n)
  (fun b o hc e=>⟨o,k b o hc e⟩) (fun _ _ e=>e) (fun _ _ _ e=>e) (fun b ps e=>⟨#[],by rw [e]; simp⟩) (fun m hm=>?_) (fun b u e=>?_) I.bare
 ·obtain ⟨_,f1,_,f3,f4,f5⟩:=hf b hb;exact ⟨f3,f1,f4,f5⟩
 ·obtain ⟨o,es,ep,ho,r⟩:=hm;exact ⟨o,es,ep,k _ o (fun z=>(hf _ z).2.1 rfl) ho,r⟩
 ·refine (I.hok b u e).stay (fun c v hc q=>k c v ?_ q) (fun _ q=>q) fun _ _ q=>q
  rcases hc with z | z
  ·rw [z]; exact nH b u e
  ·exact nH c _ z
theorem JL {X:Cx} (hc:X.calm=true) (hu:X.A.units + 64 < cLine):Bw X (.builtin "min") (fun xs H Q=>∃ (a:Addr) (vs:List V) (ks:List (Int × Str)),xs=[.ref a]/\H a=some (.lst vs)/\vs.length=ks.length/\ks ≠ []/\(∀ (i:Nat) v k,vs[i]? = some v->ks[i]? = some k->Jt H v k) /\
  ∀ v k,k ∈ ks->Jt H v k->(∀ k' ∈ ks,D7 k k')->Q v H):=by
 intro pins s σ H xs us Q I r h;obtain ⟨a,vs,ks,rfl,ha,hl,hne,hk,q⟩:=h;obtain ⟨u,rfl,ru⟩:=Cv r;cases ru
 obtain ⟨Ar,rv,pl,hz⟩:=I.list (AS.of ha);have il:Ar.length=ks.length:=by rw [<-rv.length,hl]
 have pos:0 < ks.length:=bh.mpr hne;have kat:∀ (i:Nat) (v:Value),Ar[i]? = some v->∃ k,ks[i]? = some k/\D4 s.heap v k/\∃ x,vs[i]? = some x/\AG x v:=fun i v e=>by
  have hi:i < Ar.length:=(ZA.mp e).1;have e1:vs[i]? = some vs[i]:=Zy (by lia);have e2:ks[i]? = some ks[i]:=Zy (by lia);obtain ⟨v',e3,r3⟩:=rv.get e1;rw [e] at e3;cases e3
  exact ⟨_,e2,(hk i _ _ e1 e2).at I r3,_,e1,r3⟩
 refine Gy (bt:=fun i j=>Pl (ks.getD i default) (ks.getD j default)) (I.ok.hd hc) pl.isList (by lia) (fun i j vi vj s' Q' E' g hi hj hQ=>?_) fun v h2 tk hv k2=>?_
 ·obtain ⟨ki,e1,a1,_⟩:=kat i vi hi;obtain ⟨kj,e2,a2,_⟩:=kat j vj hj;have d1:ks.getD i default=ki:=by rw [ZJ,e1]; rfl
  have d2:ks.getD j default=kj:=by rw [ZJ,e2]; rfl
  dsimp only at hQ;rw [d1,d2] at hQ;exact KY (a1.keep g) (a2.keep g) (by rw [PySem.Around.in1_units]; lia) _ _ _ _ hQ
 ·obtain ⟨k,e1,a1,x,e3,r3⟩:=kat _ v hv;obtain ⟨b1,b2⟩:=ES (fun i j=>Pl (ks.getD i default) (ks.getD j default)) (fun i=>ks.getD i default) (fun _ _=>KZ) (fun _ _=>Lc) (Ar.length - 1);refine ⟨x,H,I.kept k2,r3,q x k (Z2 e1) (hk _ x k e3 e1) fun k' Ug=>?_⟩;obtain ⟨j,hj,ej⟩:=ZQ Ug;have:=b2 j (by lia);have d1:ks.getD (argBest (fun i j=>Pl (ks.getD i default) (ks.getD j default)) (Ar.length - 1)) default=k:=by rw [ZJ,e1]; rfl
  have d2:ks.getD j default=k':=by rw [ZJ,Zy hj,ej]; rfl
  rw [d1,d2] at this;exact this
def BY (H:Hp) (A:Addr) (xs:List Str) (ws:List AI):Prop:=∃ (M:Str->Str->Option Int) (c:Nat),MD H A M c/\∀ x ∈ xs,∀ y ∈ xs,∃ n,M x y=some n/\Lq ws x y n/\0<=n/\n < 2 ^ 300
theorem BY.same {H H':Hp} {A:Addr} {xs:List Str} {ws:List AI} (h:BY H A xs ws) (s:Ao H H'):BY H' A xs ws:=let ⟨M,c,a,b⟩:=h; ⟨M,c,a.same s,b⟩
theorem DK {J:It} {xs:List V} {S:Hp->Prop} {g:TG} {tt:TT} {te:TE} {H:Hp} {σ0:St} {R:Addr->Hp->Prop} (ov:RO J xs S) (I:Addr->Nat->St->Hp->List V->Prop) (big:xs.length < sizeLine)
  (h0:∀ D,H D=none->I D 0 σ0 (upd H D (.lst [])) [])
  (hs:∀ D i σ H' acc,H D=none->I D i σ H' acc->S H'/\H' D=some (.lst acc)/\acc.length<=i)
  (turn:∀ D i σ H' acc x (B:St->V->Hp->Prop) (N:St->Hp->Prop),H D=none->xs[i]? = some x->I D i σ H' acc->(∀ AA v H5,H5 D=some (.lst acc)->I D (i + 1) AA (upd H5 D (.lst (acc ++ [v]))) (acc ++ [v])->B AA v H5) ->
   (∀ AA H4,I D (i + 1) AA H4 acc->N AA H4)->g x σ H' fun AA H3=>tt AA H3 fun b H4=>if b=true then te AA H4 (B AA) else N AA H4)
  (fin:∀ D σ H' acc,H D=none->I D xs.length σ H' acc->R D H') :
  ∀ D,H D=none->∃ W:Nat->Nat->St->Hp->Prop,(∃ m,W 0 m σ0 (upd H D (.lst []))) /\
   ∀ i m A3 H',W i m A3 H'->(J.stop i H'/\R D H')\/(J.go i H'/\∀ x H2,J.yld i H' x H2->g x A3 H2 fun AA H3=>tt AA H3 fun b H4=>
    if b=true then te AA H4 (fun v H5=>∃ acc,H5 D=some (.lst acc)/\acc.length < sizeLine/\∃ m',m' < m/\W (i + 1) m' AA (upd H5 D (.lst (acc ++ [v])))) else ∃ m',m' < m/\W (i + 1) m' AA H4):=by
 intro D hD;exists fun i m σ H'=>m=xs.length - i/\i<=xs.length/\∃ acc,I D i σ H' acc,⟨xs.length,rfl,ZX _,[],h0 D hD⟩
 rintro i m σ H' ⟨rfl,hi,acc,p⟩;obtain ⟨s1,s2,s3⟩:=hs D i σ H' acc hD p;by_cases B5:i < xs.length
 ·refine .inr ⟨ov.go i H' s1 B5,fun x H2 y=>?_⟩;obtain ⟨rfl,ex⟩:=ov.yld i H' x H2 s1 y;refine turn D i σ H2 acc x (fun AA v H5=>∃ acc,H5 D=some (.lst acc)/\acc.length < sizeLine/\∃ m',m' < xs.length - i/\(m'=xs.length - (i + 1)/\i + 1<=xs.length/\∃ ET,I D (i + 1) AA (upd H5 D (.lst (acc ++ [v]))) ET)) (fun AA H4=>∃ m',m' < xs.length - i/\(m'=xs.length - (i + 1)/\i + 1<=xs.length/\∃ ET,I D (i + 1) AA H4 ET)) hD ex p (fun AA v H5 d5 p5=>?_) fun AA H4 p4=>?_
  ·exact ⟨acc,d5,by lia,xs.length - (i + 1),by lia,rfl,B5,_,p5⟩
  ·exact ⟨xs.length - (i + 1),by lia,rfl,B5,_,p4⟩
 ·have e:i=xs.length:=by lia
  subst e;exact .inl ⟨ov.stop H' s1,fin D σ H' acc hD p⟩
theorem Bt.app' {ws:List AI} {x y z:Str} {m n:Int} (h:Bt ws x y m) (g:Bt ws y z n):Bt ws x z (m + n):=by
 induction h with
 | nil x=>rw [cJ]; exact g
 | cons e _ ih=>rw [cZ]; exact .cons e (ih g)
theorem MX {xs:List Str} {ws:List AI} (jn:Ln xs ws) {L:Int} (L0:0<=L) (hL:∀ u ∈ ws,u.2.2<=L) (hp:∀ u ∈ ws,1<=u.2.2) {r:Str} (hr:xs[0]? = some r):∀ (j:Nat) x,xs[j]? = some x->∃ m,Bt ws x r m/\0<=m/\m<=j * L:=by
 intro j;induction j using Nat.strongRecOn with
 | ind j ih=>
  intro x hx;by_cases z:j=0
  ·subst z;rw [hr] at hx;cases hx
   exact ⟨0,.nil _,aB _,by simp⟩
  ·obtain ⟨u,hu,i,hij,e1,e2⟩:=jn j (by lia) (ZA.mp hx).1;rw [hx] at e2;cases e2
   obtain ⟨m,w,m0,ml⟩:=ih i hij _ e1;have hl:=hL u hu;have hq:=hp u hu;exists u.2.2 + m,.cons ⟨u,hu,.inr ⟨rfl,rfl⟩,rfl⟩ w,by lia
   have:((i:Int) + 1) * L<=j * L:=bB (by lia) L0;rw [Int.add_mul,Int.one_mul] at this;lia
theorem Gh.sums {H:Hp} {m:Addr} {n:Nat} {ps:List Str} {ws:List AI} (h:Gh H m n ps ws) (n1:1<=n) (n30:n<=30):∀ x ∈ ps,∀ y ∈ ps,∃ k,Bt ws x y k/\0<=k/\k < 2 ^ 300:=by
 obtain ⟨xs,Gj,pp,wp,wof,sep,jn⟩:=h.dr;have en:=fun x y l=>Kr wp x y l
 have xl:xs.length=n:=by rw [<-pp.length_eq]; exact h.at'.len
 have hr:xs[0]? = some (xs[0]'(by lia)):=Zy _;have hL:∀ u ∈ Gj,u.2.2<=10 ^ 30:=fun u hu=>by
  have:=(h.at'.wn (Er u) (wp.mem_iff.mpr (ZD.mpr ⟨u,hu,rfl⟩))).2.2.2;have e:(Er u).2.2=u.2.2:=rfl;lia
 have one:∀ x ∈ ps,∃ k,Bt Gj x (xs[0]'(by lia)) k/\0<=k/\k<=30 * 10 ^ 30:=fun x hx=>by
  obtain ⟨j,hj,ej⟩:=ZQ (pp.mem_iff.mp hx);obtain ⟨k,a,b,c⟩:=MX jn (by decide) hL (fun u hu=>(wof u hu).2.2.2) hr j x (by rw [Zy hj,ej]);refine ⟨k,a,b,ff c (bB (by lia) (by decide))⟩
 intro x hx y hy;obtain ⟨k1,a1,b1,c1⟩:=one x hx;obtain ⟨k2,a2,b2,c2⟩:=one y hy;have a3:=(Qi en).mpr (Bt.app' a1 a2.symm);exact ⟨k1 + k2,a3,by lia,by lia⟩
theorem Bt.pos' {ws:List AI} (hp:∀ u ∈ ws,1<=u.2.2) {x y:Str} {m:Int} (h:Bt ws x y m):0<=m:=by
 induction h with
 | nil=>exact aB _
 | cons e _ ih=>obtain ⟨u,hu,_,rfl⟩:=e; have:=hp u hu; lia
theorem Gh.bound {H:Hp} {m:Addr} {n:Nat} {ps:List Str} {ws:List AI} (h:Gh H m n ps ws) (n1:1<=n) (n30:n<=30) {x y:Str} (hx:x ∈ ps) (hy:y ∈ ps) {k:Int} (d:Lq ws x y k):0<=k/\k < 2 ^ 300:=by
 obtain ⟨k',a,_,c⟩:=h.sums n1 n30 x hx y hy;exact ⟨d.1.pos' fun u hu=>(h.at'.wn u hu).2.2.1,cB (d.2 k' a) c⟩
theorem FW.doneW {ws:List AI} {xs:List Str} (he:∀ u ∈ ws,u.1 ∈ xs/\u.2.1 ∈ xs) (ex:∀ x ∈ xs,∀ y ∈ xs,∃ m,Bt ws x y m) {M:Str->Str->Option Int} (h:FW ws xs xs.length M):∀ x ∈ xs,∀ y ∈ xs,∃ n,M x y=some n/\Lq ws x y n:=by
 intro x hx y hy;obtain ⟨m,hm⟩:=ex x hx y hy;have low:∀ m,Bt ws x y m->∃ n,M x y=some n/\n<=m:=fun m g=>by
  rcases g.wi he with ⟨rfl,rfl⟩ | g
  ·exact h.diag x hx
  ·refine h.comp x y m ?_;rw [ZP];exact g
 obtain ⟨n,e,_⟩:=low m hm;refine ⟨n,e,h.sound x y n e,fun m' g=>?_⟩;obtain ⟨n',e',l⟩:=low m' g;rw [e] at e';cases e'
 exact l
theorem Gh.apart {H:Hp} {m:Addr} {n:Nat} {ps:List Str} {ws:List AI} (h:Gh H m n ps ws) {u:AI} (hu:u ∈ ws):u.1 ≠ u.2.1:=by
 obtain ⟨xs,Gj,pp,wp,wof,_⟩:=h.dr;obtain ⟨v,hv,rfl⟩:=ZD.mp (wp.mem_iff.mp hu);have ne:=(wof v hv).2.2.1;show Cb v.1 v.2.1 ≠ Cc v.1 v.2.1
 unfold Cb Cc;by_cases a:v.2.1.cps.toList < v.1.cps.toList
 ·rw [if_pos a,if_neg (fun z=>EJ _ (cz a z))];exact fun z=>ne z.symm
 ·rw [if_neg a];by_cases b:v.1.cps.toList < v.2.1.cps.toList
  ·rw [if_pos b]; exact ne
  ·exact absurd (Dr a b) ne
end L2
namespace L2
open PySem
theorem Mi {K:Z1} {a:Addr} {xs:List V} {g:TG} {tb:TS} {D:EV} {σ:St} {H:Hp} (Pv:Nat->St->Hp->Prop) (h0:Pv 0 σ H) (hl:∀ i σ H,i<=xs.length->Pv i σ H->A1 K H a xs)
  (hs:∀ i x σ H,xs[i]? = some x->Pv i σ H->∀ (rt:VK) (bk:St->Hp->Prop),g x σ H fun AA H2=>tb ⟨Pv (i + 1),rt,bk,Pv (i + 1)⟩ AA H2) (hd:∀ σ H,Pv xs.length σ H->D.nx σ H) :
  ∃ W:Nat->Nat->St->Hp->Prop,(∃ m,W 0 m σ H)/\∀ i m σ H,W i m σ H ->
   ((PU K a).stop i H/\D.nx σ H)\/((PU K a).go i H/\∃ N:St->Hp->Prop,(∀ A3 H',N A3 H'->∃ m',m' < m/\W (i + 1) m' A3 H')/\∀ x H',(PU K a).yld i H x H'->g x σ H' fun AA H2=>tb { D with nx:=N,ct:=N,bk:=D.nx } AA H2):=
 Ol Pv h0 hl (fun i x σ H hx hp=>hs i x σ H hx hp D.rt D.nx) hd
theorem Py {a:Addr} {kvs:List (Bm × V)} {o:Obj} {g:TG} {tb:TS} {D:EV} {σ:St} {H:Hp} (Pv:Nat->St->Hp->Prop) (h0:Pv 0 σ H) (hl:∀ i σ H,i<=kvs.length->Pv i σ H->H a=some (.frz o (.dK kvs)))
  (hs:∀ i k v σ H,kvs[i]? = some (k,v)->Pv i σ H->∀ (rt:VK) (bk:St->Hp->Prop),g (kV k) σ H fun AA H2=>tb ⟨Pv (i + 1),rt,bk,Pv (i + 1)⟩ AA H2) (hd:∀ σ H,Pv kvs.length σ H->D.nx σ H) :
  ∃ W:Nat->Nat->St->Hp->Prop,(∃ m,W 0 m σ H)/\∀ i m σ H,W i m σ H ->
   ((U0 a kvs o).stop i H/\D.nx σ H)\/((U0 a kvs o).go i H/\∃ N:St->Hp->Prop,(∀ A3 H',N A3 H'->∃ m',m' < m/\W (i + 1) m' A3 H')/\∀ x H',(U0 a kvs o).yld i H x H'->g x σ H' fun AA H2=>tb { D with nx:=N,ct:=N,bk:=D.nx } AA H2):=
 RD Pv h0 hl (fun i k v σ H hx hp=>hs i k v σ H hx hp D.rt D.nx) hd
theorem C7 {K:Z1} {a:Addr} {xs:List V} {g:TG} {tb:TS} {D:EV} {σ:St} {H:Hp} (Pv:Nat->St->Hp->Prop) (h0:Pv 0 σ H) (hl:∀ i σ H,i<=xs.length->Pv i σ H->A1 K H a xs)
  (hs:∀ i x σ H,xs[i]? = some x->Pv i σ H->∀ (rt:VK) (bk N:St->Hp->Prop),(∀ σ H,Pv (i + 1) σ H->N σ H)->g x σ H fun AA H2=>tb ⟨N,rt,bk,N⟩ AA H2) (hd:∀ σ H,Pv xs.length σ H->D.nx σ H) :
  ∃ W:Nat->Nat->St->Hp->Prop,(∃ m,W 0 m σ H)/\∀ i m σ H,W i m σ H ->
   ((PU K a).stop i H/\D.nx σ H)\/((PU K a).go i H/\∃ N:St->Hp->Prop,(∀ A3 H',N A3 H'->∃ m',m' < m/\W (i + 1) m' A3 H')/\∀ x H',(PU K a).yld i H x H'->g x σ H' fun AA H2=>tb { D with nx:=N,ct:=N,bk:=D.nx } AA H2):=
 Ol Pv h0 hl (fun i x σ H hx hp=>hs i x σ H hx hp D.rt D.nx _ fun _ _ z=>z) hd
end L2
namespace L2
open PySem PySem.Spec PyProof.Rows
section
variable {X:Cx} {pins:List (Addr × Obj)} {σ A3:St} {H H':Hp} {s2 s':Shared} {scope:Scope} {cl:List (Str × Addr)} {N:List Str} {fp:List Addr} {C D:Addr} {By h':Heap} {t':Nat}
end
end L2
namespace L2
open PySem PySem.Spec PySem.W PyProof.Rows
end L2
namespace L2
open PySem PySem.Spec PyProof.Rows
theorem AK (K:Z1) {X:Cx} (h:X.K=K):Bw X (.builtin "len") (fun xs H Q=>∃ p vs,xs=[V.ref p]/\(AS K H p vs\/A1 K H p vs)/\Q (.int vs.length) H):=by subst h; exact AH
theorem QS (K:Z1) {X:Cx} {tg l:Expr} {tl:TE} (h:X.K=K) (hl:PE X l tl):PI X tg l (Ua K tl):=by subst h; exact Fe hl
theorem Bi (K:Z1) {X:Cx} {tg l:Expr} {tl:TE} (h:X.K=K) (hl:PE X l tl):PI X tg l (iTup K tl):=by subst h; exact Gu hl
def JO (h:Heap) (v:Value) (ss:List Str):Prop:=∃ a us,v=.ref a/\IsTup h a us.toArray/\AD (ss.map V.str) us
theorem JS {us vs:List Value} {xs:List Str} (r1:AD (xs.map V.str) us) (j:Nat) (hj:j < us.length):∃ t x,xs[j]? = some x/\us[j]=.str x t:=by
 have l1:=r1.length;rw [Z0] at l1;have e:(xs.map V.str)[j]? = some (V.str (xs[j]'(by lia))):=by rw [Z6,Zy (by lia)]; rfl
 obtain ⟨u,e1,r⟩:=r1.get e;obtain ⟨t,rfl⟩:=r;rw [Zy hj] at e1;exact ⟨t,_,Zy (by lia),ZR.inj e1⟩
theorem JR {us:List Value}:∀ {xs ys:List Str},AD (xs.map V.str) us->AD (ys.map V.str) us->xs=ys:=by
 induction us with
 | nil=>
  intro xs ys r1 r2;cases xs with
  | nil=>cases ys with | nil=>rfl | cons _ _=>cases r2
  | cons _ _=>cases r1
 | cons u us ih=>
  intro xs ys r1 r2;cases xs with
  | nil=>cases r1
  | cons x xs=>
   cases ys with
   | nil=>cases r2
   | cons y ys=>
    cases r1 with
    | cons a1 b1=>
     cases r2 with
     | cons a2 b2=>
      obtain ⟨t,e⟩:=a1;obtain ⟨t',e'⟩:=a2;rw [e] at e';cases e'
      rw [ih b1 b2]
theorem SW {A:Around} {s:Shared} {v w:Value} {xs ys:List Str} (hv:JO s.heap v xs) (hw:JO s.heap w ys) (hu:A.units < cLine):SeqAt.EqAt A s v w (decide (xs=ys)):=by
 obtain ⟨a,us,rfl,ha,r1⟩:=hv;obtain ⟨b,vs,rfl,hb,r2⟩:=hw;by_cases hab:a=b
 ·subst hab;have e:xs=ys:=by
   obtain ⟨o,ho,hc,n,hd⟩:=ha;obtain ⟨o',HZ,Kl,n',Lf⟩:=hb;rw [ho] at HZ;cases HZ
   rw [hd] at Lf;injection Lf with e1 e2;have e3:=congrArg bO e1;simp only at e3;subst e3;exact JR r1 r2
  rw [decide_eq_true e];intro prog w E Q h;unfold eqBool;refine wpAny_holding ?_;exact wpAny_ite_split (fun _=>wpAny_bind (wpAny_rule (wpAny_pure h))) (fun hn=>absurd (by simp) hn)
 ·have l1:=r1.length;have l2:=r2.length;rw [Z0] at l1 l2;have key:=SeqAt.RcAt.tuples (A:=A) (s:=s) (e:=fun j=>xs[j]? == ys[j]?) (show s.heap.IsTuple a us.toArray from ha) (show s.heap.IsTuple b vs.toArray from hb) hu (fun j h1 h2=>by
   obtain ⟨t,x,e1,e2⟩:=JS (vs:=us) r1 j (by simpa using h1);obtain ⟨t',y,e3,e4⟩:=JS (vs:=vs) r2 j (by simpa using h2);rw [dF,dF,e2,e4,e1,e3];have:=SeqAt.EqAt.str_str x t y t' (A:=A.in1) (s:=s);exact this)
  have e:((ai (min us.toArray.size vs.toArray.size)).all (fun j=>xs[j]? == ys[j]?) && us.toArray.size == vs.toArray.size)=decide (xs=ys):=by
   rw [aA,af,aj,decide_eq_true_iff];simp only [ba,ZG,beq_iff_eq];constructor
   ·rintro ⟨h1,h2⟩;refine e7 fun j=>?_
    by_cases hj:j < us.length
    ·exact h1 j (by lia)
    ·rw [bz (by lia),bz (by lia)]
   ·rintro rfl;exact ⟨fun j _=>rfl,by lia⟩
  rw [e] at key;exact SeqAt.EqAt.of_refs hab key
section
open PySem.SeqAt
open PySem.AutoSeq1 (wpAny_loadPart')
open PySem.MeetsSeq PySem.MeetsSeq2 PySem.MeetsSeq3
end
section
open PySem.SeqAt
open PySem.AutoSeq1 (wpAny_loadPart')
open PySem.MeetsSeq PySem.MeetsSeq2 PySem.MeetsSeq3
end
section
variable {prog:Program} {w:World} {A:Around} {R:Result->Shared->Prop} {I:Addr} {fp wr:List Addr} {n:Nat} {P:Nat->Value->Prop} {St:Nat->Heap->Prop} {g0:Heap}
end
section
variable {prog:Program} {w:World} {A:Around} {E:Value->Shared->Prop} {s:Shared}
end
theorem Tv {X:Cx} {pins:List (Addr × Obj)} {σ:St} {H:Hp} {s:Shared} {l:Addr} {ss:List Str} (I:Aw X pins σ H s) (h:H l=some (.tup (ss.map V.str))):JO s.heap (.ref l) ss:=by
 obtain ⟨Ar,rv,pl,hz⟩:=I.tuple (A1.of h);exact ⟨l,Ar,rfl,pl,rv⟩
section
variable {X:Cx} {pins:List (Addr × Obj)} {σ:St} {H:Hp} {s:Shared}
end
theorem LR (K:Z1) {X:Cx} (h:X.K=K):E8 X (binaryOp .Add) (TN K):=by subst h; exact Sy
inductive BV (H:Hp):List V->List (List Str)->Prop
 | nil:BV H [] []
 | cons {t:Addr} {us:List V} {f:List Str} {fs:List (List Str)}:H t=some (.tup (f.map V.str))->BV H us fs->BV H (.ref t :: us) (f :: fs)
theorem BV.len {H:Hp} {us:List V} {fs:List (List Str)} (h:BV H us fs):us.length=fs.length:=by
 induction h with
 | nil=>rfl
 | cons _ _ ih=>rw [aq,aq,ih]
theorem BV.keep {H H':Hp} {us:List V} {fs:List (List Str)} (h:BV H us fs) (s:∀ b xs,H b=some (.tup xs)->H' b=some (.tup xs)):BV H' us fs:=by
 induction h with
 | nil=>exact .nil
 | cons a _ ih=>exact .cons (s _ _ a) ih
theorem BV.app {H:Hp} {us vs:List V} {fs gs:List (List Str)} (h:BV H us fs) (h':BV H vs gs):BV H (us ++ vs) (fs ++ gs):=by
 induction h with
 | nil=>exact h'
 | cons a _ ih=>exact .cons a ih
theorem BV.get {H:Hp} {us:List V} {fs:List (List Str)} (h:BV H us fs):∀ {i:Nat} {u:V},us[i]? = some u->∃ t f,u=.ref t/\fs[i]? = some f/\H t=some (.tup (f.map V.str)):=by
 induction h with
 | nil=>intro i u e; simp at e
 | cons a _ ih=>
  intro i u e;cases i with
  | zero=>simp at e; subst e; exact ⟨_,_,rfl,rfl,a⟩
  | succ i=>exact ih (by simpa using e)
theorem BV.mem {H:Hp} {us:List V} {fs:List (List Str)} (h:BV H us fs) {u:V} (hu:u ∈ us):∃ t f,u=.ref t/\f ∈ fs/\H t=some (.tup (f.map V.str)):=by
 obtain ⟨i,hi⟩:=bZ hu;obtain ⟨t,f,e,ef,ht⟩:=h.get hi;exact ⟨t,f,e,Z2 ef,ht⟩
theorem BV.perm {H:Hp} {us O0:List V} (p:O0.Perm us):∀ {fs:List (List Str)},BV H us fs->∃ Wa,Wa.Perm fs/\BV H O0 Wa:=by
 induction p with
 | nil=>intro fs h; cases h; exact ⟨[],.refl _,.nil⟩
 | cons x p ih=>
  intro fs h;cases h with
  | cons a b=>
   obtain ⟨Wa,p',t'⟩:=ih b;exact ⟨_ :: Wa,p'.cons _,.cons a t'⟩
 | swap x y l=>
  intro fs h;cases h with
  | cons a b=>
   cases b with
   | cons c d=>exact ⟨_ :: _ :: _,.swap _ _ _,.cons c (.cons a d)⟩
 | trans p1 p2 Vq Vp=>
  intro fs h;obtain ⟨f1,q1,t1⟩:=Vp h;obtain ⟨f2,q2,t2⟩:=Vq t1;exact ⟨f2,q2.trans q1,t2⟩
theorem BV.kinds {H:Hp} {us:List V} {fs:List (List Str)} (h:BV H us fs) (ne:∀ f ∈ fs,f ≠ []):∀ v ∈ us,Lk H (fun _=>true) v:=by
 intro v hv;obtain ⟨t,f,rfl,hf,ht⟩:=h.mem hv;refine ⟨t,_,rfl,ht,by simpa using ne f hf,fun i y e=>?_⟩;rw [Z6] at e;cases z:f[i]? with
 | none=>rw [z] at e; cases e
 | some x=>rw [z] at e; exact ⟨x,(ZR.inj e).symm⟩
def HF:V->Nat->Bool
 | .int i,k=>decide ((k:Int)<=i)
 | _,_=>true
def Opens (sites:List Str) (x:V) (os:List (List Str)):Prop:=
 os.Nodup/\True/\∀ ss,ss ∈ os ↔ ss ≠ []/\ss.Sublist sites/\HF x ss.length=true
def Oy (H:Hp) (c:Addr) (sites:List Str) (x:V) (d:PyData):Prop:=
 ∃ (m t2:V) (t1:Addr) (DV:List V) (Aq:List Bg),H c=some (.tup [m,.ref t1,t2,x])/\H t1=some (.tup DV)/\AE H DV (Aq.map C9)/\Aq.map (·.1)=sites/\sites.Nodup/\sites.length<=10/\Lim x d
theorem BZ.sites {H:Hp} {c m:Addr} {n:Nat} {xs:List Str} {ws:List AI} {Aq As:List Bg} {x:V} {d:PyData} (h:BZ H c m n xs ws Aq As x d):Oy H c (Aq.map (·.1)) x d:=by
 obtain ⟨t1,t2,DV,Fv,a,b,e,f,g⟩:=h.ex;exact ⟨_,_,t1,DV,Aq,a,b,e,rfl,h.ok1.nd,by rw [Z0]; exact h.l1,h.lim⟩
def MF (K:Z1):R2:=fun x y H Q=>∃ a b xs ys,x=.ref a/\y=.ref b/\A1 K H a xs/\A1 K H b ys/\xs.length + ys.length<=sizeLine /\
 (xs=[]->Q (.ref b) H)/\(xs ≠ []->ys=[]->Q (.ref a) H)/\(xs ≠ []->ys ≠ []->∀ p,H p=none->Q (.ref p) (upd H p (.tup (xs ++ ys))))
theorem BM (K:Z1) {X:Cx} (hK:X.K=K):E8 X (binaryOp .Add) (MF K):=by
 subst hK;intro pins s σ H x y v u Q I rx ry h;obtain ⟨a,b,xs,ys,rfl,rfl,ha,hb,hz,q0,q1,q2⟩:=h;cases rx
 cases ry
 obtain ⟨Ar,r1,p1,_⟩:=I.tuple ha;obtain ⟨HG,r2,p2,_⟩:=I.tuple hb;by_cases hx:xs=[]
 ·obtain ⟨⟨cls,dd,data,sl⟩,ho,hc,n,hd⟩:=id p1;obtain ⟨⟨Xk,RV,data2,T9⟩,PX,RT,n2,hd2⟩:=id p2;simp only at hc hd RT hd2;subst hc hd RT hd2;exact concat_meets ⟨_,ho,rfl⟩ ⟨_,PX,rfl⟩ noFill_tuple_add seq_tuple_add PySem.F.slot_tuple_add PySem.F.entry_tuple_add (PySem.F.args_tuple_add_2 _ _)
   (tuple_addW0 a b Ar.toArray HG.toArray n n2 dd RV sl T9 (by simp [r1.nil_iff.mpr hx])) ⟨ho,PX,⟨.ref b,H,I,rfl,q0 hx⟩⟩
 ·refine HT.cat_tup p1 p2 (fun z=>hx (r1.nil_iff.mp z)) (fun z=>⟨.ref a,H,I,rfl,q1 hx (r2.nil_iff.mp z)⟩) (fun z=>?_) (by rw [<-r1.length,<-r2.length]; exact hz);refine ⟨.ref s.heap.objs.size,_,I.laid (t':=s.toks) (o:=.tup (xs ++ ys)) (fun b ob q=>Zz _ q) (Z4 _) ?_,rfl,q2 hx (fun w=>z (r2.nil_iff.mpr w)) _ (I.hok.fresh (Z4 _))⟩;exact ⟨by rw [Z7]; exact hz,_,r1.append r2,IsTup.new _ _,Ll.new rfl rfl⟩
theorem JM {X:Cx} (hc:X.calm=true):Bw X (.builtin "min") (fun xs H Q=>∃ (a:Addr) (ns:List Int),xs=[.ref a]/\H a=some (.lst (ns.map V.int))/\ns ≠ [] /\
  ∀ m,m ∈ ns->(∀ x ∈ ns,m<=x)->Q (.int m) H):=by
 intro pins s σ H xs us Q I r h;obtain ⟨a,ns,rfl,ha,hne,q⟩:=h;obtain ⟨u,rfl,ru⟩:=Cv r;cases ru
 obtain ⟨Ar,rv,pl,hz⟩:=I.list (AS.of ha);have il:Ar.length=ns.length:=by rw [<-rv.length,Z0]
 have pos:0 < ns.length:=bh.mpr hne;refine Gy (bt:=fun i j=>decide (ns.getD i 0 < ns.getD j 0)) (I.ok.hd hc) pl.isList (by lia) (fun i j vi vj s' Q' E' g hi hj hQ=>?_) fun v h2 tk hv k2=>?_
 ·obtain ⟨x,t,e1,rfl⟩:=HY rv i vi hi;obtain ⟨y,u,e2,rfl⟩:=HY rv j vj hj;dsimp only at hQ;rw [ZJ,ZJ,e1,e2] at hQ;exact EA.int _ _ _ _ _ _ _ _ _ _ hQ
 ·obtain ⟨x,t,e1,rfl⟩:=HY rv _ v hv;obtain ⟨b1,b2⟩:=Jq (fun i j=>decide (ns.getD i 0 < ns.getD j 0)) (fun i=>ns.getD i 0) (fun i j h=>by have:=of_decide_eq_true h; lia) (fun i j h=>by have:=of_decide_eq_false h; lia) (Ar.length - 1);refine ⟨.int x,H,I.kept k2,⟨t,rfl⟩,q x (Z2 e1) fun y hy=>?_⟩;obtain ⟨j,hj,rfl⟩:=ZQ hy;have:=b2 j (by lia);have e2:ns.getD j 0=ns[j]:=by simp [hj]
  have e3:ns.getD (argBest (fun i j=>decide (ns.getD i 0 < ns.getD j 0)) (Ar.length - 1)) 0=x:=by
   rw [ZJ,e1]; rfl
  rw [e2,e3] at this;exact this
def DU (H:Hp) (v:V) (xs:List Str) (ws:List AI) (s:Str):Prop:=∃ (B:Addr) (nb:List (Str × V)),v=.ref B/\H B=some (.dK (sK nb))/\nb.map (·.1)=xs/\∀ y u,(y,u) ∈ nb->∃ n,u=.int n/\Lq ws s y n
theorem DU.same {H H':Hp} {v:V} {xs:List Str} {ws:List AI} {s:Str} (h:DU H v xs ws s) (sm:Ao H H'):DU H' v xs ws s:=let ⟨B,nb,a,b,c⟩:=h; ⟨B,nb,a,sm _ _ b,c⟩
def Im:Sp:=fun vs H Q _=>∃ (c m:Addr) (n:Nat) (xs:List Str) (ws:List AI) (Aq As:List Bg) (x:V) (d:PyData),vs=[.ref c]/\BZ H c m n xs ws Aq As x d /\
 ∀ (H':Hp) (D:Addr) (nv:List (Str × V)),Ao H H'->H D=none->H' D=some (.dK (sK nv))->nv.map (·.1)=Aq.map (·.1)->(∀ s v,(s,v) ∈ nv->DU H' v xs ws s)->Q (.ref D) H'
def Q0:Sp:=fun vs H Q _=>∃ (c:Addr) (sites:List Str) (x:V) (d:PyData),vs=[.ref c]/\Oy H c sites x d /\
 ∀ mo:Int,0<=mo->(∀ k:Nat,k<=sites.length->((k:Int)<=mo ↔ HF x k=true))->Q (.int mo) H
def Hv (l:List Str) (mo:Int) (fs:List (List Str)):Prop:=fs.Nodup/\∀ ss,ss ∈ fs ↔ ss.Sublist l/\(ss.length:Int)<=mo
theorem Hv.nil {mo:Int} (h:0<=mo):Hv [] mo [[]]:=⟨by simp,fun ss=>by
 constructor
 ·intro z;rw [ZN] at z;subst z;exact ⟨List.Sublist.refl _,by simpa using h⟩
 ·rintro ⟨z,_⟩;rw [cM.mp z];simp⟩
theorem Hv.step {a:Str} {l:List Str} {mo:Int} {fs:List (List Str)} (ha:a ∉ l) (h:Hv l mo fs):Hv (l ++ [a]) mo (fs ++ (fs.filter fun f=>decide ((f.length:Int) < mo)).map (· ++ [a])):=by
 refine ⟨aI.mpr ⟨h.1,?_,?_⟩,fun ss=>?_⟩
 ·exact aO.mpr ((h.1.sublist cx).imp fun {x y} ne e=>ne (List.append_cancel_right e))
 ·rintro x hx y hy rfl;obtain ⟨g,hg,rfl⟩:=ZD.mp hy;exact ha (((h.2 _).mp hx).1.subset (by simp))
 ·rw [ZM,ZD,List.sublist_append_iff];constructor
  ·rintro (h1 | ⟨g,hg,rfl⟩)
   ·exact ⟨⟨ss,[],by simp,((h.2 _).mp h1).1,cN _⟩,((h.2 _).mp h1).2⟩
   ·obtain ⟨g1,g2⟩:=aJ.mp hg;exact ⟨⟨g,[a],rfl,((h.2 _).mp g1).1,List.Sublist.refl _⟩,by have:=of_decide_eq_true g2; rw [Z7,aZ]; lia⟩
  ·rintro ⟨⟨l1,l2,rfl,s1,s2⟩,le⟩;have:l2=[]\/l2=[a]:=by
    cases s2 with
    | cons _ s=>exact .inl (cM.mp s)
    | cons_cons _ s=>rw [cM.mp s]; exact .inr rfl
   rcases this with rfl | rfl
   ·rw [bC] at le ⊢;exact .inl ((h.2 _).mpr ⟨s1,le⟩)
   ·rw [Z7,aZ] at le;exact .inr ⟨l1,aJ.mpr ⟨(h.2 _).mpr ⟨s1,by lia⟩,decide_eq_true (by lia)⟩,rfl⟩
theorem OQ {J:It} {xs:List V} {S:Hp->Prop} {g:TG} {tk tv:TE} {H:Hp} {σ0:St} {R:Addr->Hp->Prop} (ov:RO J xs S) (ks:List Str) (hk:ks.length=xs.length) (nd:ks.Nodup) (I:Addr->Nat->St->Hp->List (Str × V)->Prop) (big:xs.length < sizeLine)
  (h0:∀ D,H D=none->I D 0 σ0 (upd H D (.dK (sK []))) [])
  (hs:∀ D i σ H' nv,H D=none->I D i σ H' nv->S H'/\H' D=some (.dK (sK nv))/\nv.map (·.1)=ks.take i)
  (turn:∀ D i σ H' nv x k (B:St->V->V->Hp->Prop),H D=none->xs[i]? = some x->ks[i]? = some k->I D i σ H' nv->(∀ AA v H6,H6 D=some (.dK (sK nv))->I D (i + 1) AA (upd H6 D (.dK (sK (nv ++ [(k,v)])))) (nv ++ [(k,v)])->B AA (.str k) v H6) ->
   g x σ H' fun AA H3=>tk AA H3 fun y H5=>tv AA H5 fun v H6=>B AA y v H6)
  (fin:∀ D σ H' nv,H D=none->I D xs.length σ H' nv->R D H') :
  ∀ D,H D=none->∃ W:Nat->Nat->St->Hp->Prop,(∃ m,W 0 m σ0 (upd H D (.dK []))) /\
   ∀ i m A3 H',W i m A3 H'->(J.stop i H'/\R D H')\/(J.go i H'/\∀ x H2,J.yld i H' x H2->g x A3 H2 fun AA H3=>J5 AA H3 fun b H4=>
    if b=true then tk AA H4 (fun y H5=>tv AA H5 fun v H6=>∃ kvs k,y=kV k/\H6 D=some (.dK kvs)/\kvs.length < sizeLine/\∃ m',m' < m/\W (i + 1) m' AA (upd H6 D (.dK (BG kvs k v)))) else ∃ m',m' < m/\W (i + 1) m' AA H4):=by
 intro D hD;exists fun i m σ H'=>m=xs.length - i/\i<=xs.length/\∃ nv,I D i σ H' nv,⟨xs.length,rfl,ZX _,[],h0 D hD⟩
 rintro i m σ H' ⟨rfl,hi,nv,p⟩;obtain ⟨s1,s2,s3⟩:=hs D i σ H' nv hD p;by_cases B5:i < xs.length
 ·refine .inr ⟨ov.go i H' s1 B5,fun x H2 y=>?_⟩;obtain ⟨rfl,ex⟩:=ov.yld i H' x H2 s1 y;have hki:i < ks.length:=by lia
  have ek:ks[i]? = some ks[i]:=Zy hki;have nin:ks[i] ∉ nv.map (·.1):=by
   rw [s3];intro Vt;obtain ⟨j,hj,e⟩:=ZQ Vt;rw [ZS] at hj;rw [bK] at e;have:=Hl nd (Zy (show j < ks.length by lia)) (by rw [ek,e]);lia
  have nl:nv.length=i:=by
   have:=congrArg bg s3;rw [Z0,ZS] at this;lia
  have e:∀ (F:St->V->V->Hp->Prop) (G:St->Hp->Prop),(fun (AA:St) (H3:Hp)=>J5 AA H3 fun b H4=>if b=true then tk AA H4 (fun y H5=>tv AA H5 fun v H6=>F AA y v H6) else G AA H4)=fun AA H3=>tk AA H3 (fun y H5=>tv AA H5 fun v H6=>F AA y v H6):=by
   intro F G;funext AA H3;show (if true=true then tk AA H3 (fun y H5=>tv AA H5 fun v H6=>F AA y v H6) else G AA H3)=_
   rw [if_pos rfl]
  rw [e (fun AA y v H6=>∃ kvs k,y=kV k/\H6 D=some (.dK kvs)/\kvs.length < sizeLine/\∃ m',m' < xs.length - i/\(m'=xs.length - (i + 1)/\i + 1<=xs.length/\∃ Ef,I D (i + 1) AA (upd H6 D (.dK (BG kvs k v))) Ef)) (fun AA H4=>∃ m',m' < xs.length - i/\(m'=xs.length - (i + 1)/\i + 1<=xs.length/\∃ Ef,I D (i + 1) AA H4 Ef))];refine turn D i σ H2 nv x ks[i] _ hD ex ek p fun AA v H6 d6 p6=>?_
  exact ⟨_,Sum.inr ks[i],rfl,d6,by rw [CU]; lia,xs.length - (i + 1),by lia,rfl,B5,nv ++ [(ks[i],v)],by rw [DO nin]; exact p6⟩
 ·have e:i=xs.length:=by lia
  subst e;exact .inl ⟨ov.stop H' s1,fin D σ H' nv hD p⟩
theorem Ls {α β:Type} {b:β}:∀ {as:List α} {bs:List β} {a:α},as[bs.length]? = some a->as.zip (bs ++ [b])=as.zip bs ++ [(a,b)]
 | [],bs,a,h=>by simp at h
 | x :: as,[],a,h=>by simp at h; subst h; simp
 | x :: as,y :: bs,a,h=>by
  have:=Ls (as:=as) (bs:=bs) (b:=b) (a:=a) (by simpa using h);simp [this]
theorem LJ {n:Nat} {g:TG} {te:TE} {H:Hp} {σ0:St} {R:Addr->Hp->Prop} (I:Addr->Nat->St->Hp->List V->Prop) (big:n < sizeLine)
  (h0:∀ D,H D=none->I D 0 σ0 (upd H D (.lst [])) [])
  (hs:∀ D i σ H' acc,H D=none->I D i σ H' acc->H' D=some (.lst acc)/\acc.length=i)
  (turn:∀ D i σ H' acc (B:St->V->Hp->Prop),H D=none->i < n->I D i σ H' acc->(∀ AA v H5,H5 D=some (.lst acc)->I D (i + 1) AA (upd H5 D (.lst (acc ++ [v]))) (acc ++ [v])->B AA v H5)->g (.int (0 + (i:Int))) σ H' fun AA H3=>te AA H3 (B AA))
  (fin:∀ D σ H' acc,H D=none->I D n σ H' acc->R D H') :
  ∀ D,H D=none->∃ W:Nat->Nat->St->Hp->Prop,(∃ m,W 0 m σ0 (upd H D (.lst []))) /\
   ∀ i m A3 H',W i m A3 H'->((RY 0 n).stop i H'/\R D H')\/((RY 0 n).go i H'/\∀ x H2,(RY 0 n).yld i H' x H2->g x A3 H2 fun AA H3=>J5 AA H3 fun b H4=>
    if b=true then te AA H4 (fun v H5=>∃ acc,H5 D=some (.lst acc)/\acc.length < sizeLine/\∃ m',m' < m/\W (i + 1) m' AA (upd H5 D (.lst (acc ++ [v])))) else ∃ m',m' < m/\W (i + 1) m' AA H4):=by
 intro D hD;exists fun i m σ H'=>m=n - i/\i<=n/\∃ acc,I D i σ H' acc,⟨n,rfl,ZX _,[],h0 D hD⟩
 rintro i m σ H' ⟨rfl,hi,acc,p⟩;obtain ⟨s2,s3⟩:=hs D i σ H' acc hD p;by_cases B5:i < n
 ·refine .inr ⟨B5,fun x H2 ⟨e1,e2⟩=>?_⟩;subst e1 e2;have e:∀ (F:St->V->Hp->Prop) (G:St->Hp->Prop),(fun (AA:St) (H3:Hp)=>J5 AA H3 fun b H4=>if b=true then te AA H4 (F AA) else G AA H4)=fun AA H3=>te AA H3 (F AA):=by
   intro F G;funext AA H3;show (if true=true then te AA H3 (F AA) else G AA H3)=_
   rw [if_pos rfl]
  rw [e (fun AA v H5=>∃ acc,H5 D=some (.lst acc)/\acc.length < sizeLine/\∃ m',m' < n - i/\(m'=n - (i + 1)/\i + 1<=n/\∃ ET,I D (i + 1) AA (upd H5 D (.lst (acc ++ [v]))) ET)) (fun AA H4=>∃ m',m' < n - i/\(m'=n - (i + 1)/\i + 1<=n/\∃ ET,I D (i + 1) AA H4 ET))];refine turn D i σ H2 acc _ hD B5 p fun AA v H5 d5 p5=>?_
  exact ⟨acc,d5,by lia,n - (i + 1),by lia,rfl,B5,_,p5⟩
 ·have e:i=n:=by lia
  subst e;exact .inl ⟨Z4 _,fin D σ H' acc hD p⟩
theorem JZ {z:Str} (l u:Option Int) (h:Tq z):Tq (Txt.slice z l u):=by
 unfold Txt.slice;split
 ·exact h
 ·intro c hc;have Kl:c ∈ (Builtin.Str.strSliceIndices l u 1 z.length).filterMap (z.cps[·]?):=by simpa using hc
  obtain ⟨i,_,e⟩:=c0.mp Kl;exact h c (by rw [dj]; exact dc e)
theorem Q7 {z:Str} {a:Int} (h0:0<=a) (h1:a<=z.length):(Txt.slice z none (some a)).length<=a.toNat:=by
 have e:(Builtin.Str.strSliceIndices none (some a) 1 z.length).length=a.toNat:=by
  unfold Builtin.Str.strSliceIndices sliceRange;simp only [show (1:Int) > 0 by decide,if_true,Z0,aH];(split <;> (try split) <;> (try split) <;> (try simp only [cG]) <;> lia)
 unfold Txt.slice;split
 ·rename_i q
  rw [e] at q;have:a.toNat=z.length:=by simpa using q
  lia
 ·show (eQ _ (Builtin.Str.strSliceIndices none (some a) 1 z.length)).toArray.size<=_
  rw [ZG,<-e];exact cX _ _
theorem M9 {z:Str} {a:Int} (h0:0<=a) (h1:a<=z.length):(Txt.slice z (some a) none).length<=z.length - a.toNat:=by
 have e:(Builtin.Str.strSliceIndices (some a) none 1 z.length).length=z.length - a.toNat:=by
  unfold Builtin.Str.strSliceIndices sliceRange;simp only [show (1:Int) > 0 by decide,if_true,Z0,aH];(split <;> (try split) <;> (try split) <;> (try simp only [cG]) <;> lia)
 unfold Txt.slice;split
 ·rename_i q
  rw [e] at q;have:z.length - a.toNat=z.length:=by simpa using q
  lia
 ·show (eQ _ (Builtin.Str.strSliceIndices (some a) none 1 z.length)).toArray.size<=_
  rw [ZG,<-e];exact cX _ _
theorem LQ {X:Cx}:E8 X (binaryOp .FloorDiv) (rI (fun _ j=>0 < j/\j < 2 ^ 600) fun i j=>.int (i / j)):=opI fun i j _ _ _ _ _ hc q=>by
 have h1:(0:Int) < j:=hc.1;have h2:j < 2 ^ 600:=hc.2;refine floordiv_int (by lia) (by rw [Int.fdiv_eq_ediv_of_nonneg i (by lia)]; exact q) (.inl (PyProof.noPylong_of_log2 ?_));have hn:j.natAbs < 2 ^ 600:=by lia
 have:j.natAbs.log2 < 600:=(Nat.log2_lt (by lia)).mpr hn;lia
theorem Rf {X:Cx}:E8 X (binaryOp .Mult) (fun x y H Q=>∃ z n,x=.str z/\y=.int n/\(n=0\/n=1)/\Q (.str (if n=1 then z else Str.empty)) H):=by
 intro pins s σ H x y v u Q I rx ry h;obtain ⟨z,n,rfl,rfl,hn,q⟩:=h;obtain ⟨t,rfl⟩:=rx;obtain ⟨t',rfl⟩:=ry;rcases hn with rfl | rfl
 ·exact PySem.P.mul_str_none (by decide) (by decide) ⟨.str Str.empty,H,I.tok _,⟨_,rfl⟩,q⟩
 ·refine PySem.P.mul_str (by decide) (fun _ z=>by simp at z) (fun _ z=>by simp at z) ?_;rw [if_neg (by decide),if_pos (by simp)];exact ⟨.str z,H,I,⟨_,rfl⟩,q⟩
theorem CW (K:Z1) {X:Cx} (h:X.K=K):SlR X (Sq K):=by subst h; exact Q8
theorem DQ {X:Cx} (hu:X.A.units + 64 < cLine):E8 X (compareOp .NotIn) (fun x y H Q=>∃ (t p:Addr) (ss:List Str) (us:List V) (fs:List (List Str)),x=.ref t/\y=.ref p/\H t=some (.tup (ss.map V.str))/\H p=some (.lst us)/\BV H us fs/\Q (.bl (!(decide (ss ∈ fs)))) H):=by
 intro pins s σ H x y v u Q I rx ry h;obtain ⟨t,p,ss,us,fs,rfl,rfl,ht,hp,tU,q⟩:=h;cases rx
 cases ry
 obtain ⟨Ar,r,pl,hz⟩:=I.list (AS.of hp);have tx:=Tv I ht;have ats:∀ {us:List V} {Ar:List Value} {fs:List (List Str)},AD us Ar->BV H us fs->(∀ w ∈ Ar,∃ f,f ∈ fs/\JO s.heap w f)/\∀ f ∈ fs,∃ w ∈ Ar,JO s.heap w f:=by
  intro us;induction us with
  | nil=>intro Ar fs r tU; cases r; cases tU; exact ⟨(fun w hw=>nomatch hw),fun f hf=>nomatch hf⟩
  | cons v us ih=>
   intro Ar fs r tU;cases r with
   | cons r1 r2=>
    cases tU with
    | cons a b=>
     cases r1
     obtain ⟨i1,i2⟩:=ih r2 b;have t1:=Tv I a;refine ⟨fun w hw=>?_,fun f hf=>?_⟩
     ·rcases Z3.mp hw with rfl | hw
      ·exact ⟨_,ZU,t1⟩
      ·obtain ⟨f,h1,h2⟩:=i1 w hw;exact ⟨f,ZO _ h1,h2⟩
     ·rcases Z3.mp hf with rfl | hf
      ·exact ⟨_,ZU,t1⟩
      ·obtain ⟨w,h1,h2⟩:=i2 f hf;exact ⟨w,ZO _ h1,h2⟩
 have one:∀ {w:Value} {f g:List Str},JO s.heap w f->JO s.heap w g->f=g:=fun {w f g} h1 h2=>by
  obtain ⟨a,DV,e1,⟨o,ho,hc,n,hd⟩,r1⟩:=h1;obtain ⟨b,Fv,e2,⟨o',HZ,Kl,n',Lf⟩,r2⟩:=h2;rw [e1] at e2;cases e2
  rw [ho] at HZ;cases HZ
  rw [hd] at Lf;injection Lf with e3 e4;have e5:=congrArg bO e3;simp only at e5;subst e5;exact JR r1 r2
 classical
 obtain ⟨a1,a2⟩:=ats r tU;refine SeqAt.notIn_listAt (fun w=>decide (JO s.heap w ss)) pl.isList (fun w hw=>?_) ⟨.bl _,H,I,rfl,?_⟩
 ·obtain ⟨f,hf,tf⟩:=a1 w (by simpa using hw);have:=SW (A:=X.A.in1) (s:=s) tf tx (by rw [PySem.Around.in1_units]; lia);have e:decide (f=ss)=decide (JO s.heap w ss):=by
   rw [aA];simp only [decide_eq_true_eq];exact ⟨fun e=>e ▸ tf,fun h=>one tf h⟩
  rw [<-e];exact this
 ·have e:Ar.toArray.any (fun w=>decide (JO s.heap w ss))=decide (ss ∈ fs):=by
   rw [aA];simp only [List.any_toArray,b0,decide_eq_true_eq];constructor
   ·rintro ⟨w,hw,h⟩;obtain ⟨f,hf,tf⟩:=a1 w hw;rw [one h tf];exact hf
   ·exact fun h=>a2 ss h
  rw [e];exact q
section
variable {prog:Program} {w:World} {A:Around} {E:Value->Shared->Prop} {s:Shared}
theorem Ng {l:Addr} {vs:List Value} {Q:List Value->Shared->Prop} (hl:s.heap.IsTuple l vs.toArray) (few:vs.toArray.size<=sizeLine)
  (h:∀ h1:Heap,s.heap.objs.size<=h1.objs.size->(∀ b o,s.heap.get? b=some o->h1.get? b=some o)->Q vs { s with heap:=h1 }):wpAny (model prog w) A (collect (.ref l)) Q E s:=by
 obtain ⟨o,ho,hc,n,hd⟩:=hl;obtain ⟨g,eg⟩:∃ g,g=(s.heap.push { cls:=.type "list",data:=.seq ([]:List Value).toArray }).update s.heap.objs.size (Obj.mapSeq (· ++ vs.toArray)):=⟨_,rfl⟩
 have gS:=ah (Obj.mapSeq (· ++ vs.toArray)) (Z9 s.heap (o:={ cls:=.type "list",data:=.seq ([]:List Value).toArray }) rfl) rfl;rw [<-eg] at gS;have last:=h g (by rw [eg,eF,ae]; exact ZZ _) fun b o' hb=>by
  rw [eg];exact (ab _ _ (aD (Z5 hb))).trans (Zz _ hb)
 unfold collect;refine wpAny_bind (wpAny_runValue (codeAny_builtin PySem.F.entry_proto_collect ?_));rw [Around.under_plainId PySem.F.plain_proto_collect _];refine wpAny_bind (wpAny_newObj_type (wpAny_pure ⟨plainId_quiet PySem.F.plain_list_iadd _,codeAny_builtin PySem.F.entry_list_iadd ?_⟩));rw [Around.under_plainId PySem.F.plain_list_iadd _];have fin:∀ s':Shared,s' = { s with heap:=g }->wpAny (model prog w) A (match Value.ref s.heap.objs.size with
   | Value.ref a=>do
    match (<- load a).data with
     | Data.seq xs _=>pure xs.toList
     | _=>unsupported "internal:collect"
   | _=>unsupported "internal:collect") Q E s':=by
  rintro s' rfl;refine wpAny_bind (wpAny_load gS (wpAny_pure ?_));simpa using last
 refine wpAny_mono (wpAny_extend_seq (hsz:=few) (A:=A) (R:=fun r s'=>r=.ok (.ret (.ref s.heap.objs.size))/\s' = { s with heap:=g }) (s:={ s with heap:=s.heap.push { cls:=.type "list",data:=.seq ([]:List Value).toArray } }) _ l _ 0 (.inr rfl) (Z9 _ rfl) (Zz _ ho) hc hd ⟨rfl,by rw [eg]⟩) (fun r s' q=>?_) (fun e s' q=>absurd q.1 (by simp));cases r with
 | done f=>
  obtain ⟨e,q⟩:=q;cases e
  exact fin s' q
 | again c=>exact ⟨q.1,codeAny_mono q.2 fun r UJ z=>by obtain ⟨rfl,z⟩:=z; exact fin UJ z⟩
theorem LF {l:Addr} {vs:List Value} {ss:List Str} {Q:Value->Shared->Prop} (hl:s.heap.IsTuple l vs.toArray) (hS:StrsAre vs ss) (JH:vs.length < 64)
  (h:∀ (h':Heap) (a:Addr) (out:Array Value) (DW:List Str) (e:Nat),s.heap.objs.size<=a->(∀ b o,s.heap.get? b=some o->h'.get? b=some o)->h'.get? a=some (seqObj "list" out e)->StrsAre out.toList DW->DW.Perm ss->sortedS DW=true->Q (.ref a) { s with heap:=h' }) :
  wpAny (model prog w) A (call (.builtin "sorted") [.ref l]) Q E s:=by
 have few:vs.toArray.size<=sizeLine:=by rw [ZG,sizeLine_eq]; lia
 refine Calls.call_function_entry kind_sorted plain_sorted entry_sorted (args_sorted1 _) ?_;unfold Builtin.«sorted»;refine wpAny_bind (m:=checkCount "sorted" 1 1 _) (wpAny_pure (wpAny_bind (Ng hl few fun h1 sz k1=>?_)));refine wpAny_bind (wpAny_newList ?_ (by simpa using few));have lies:(h1.push (seqObj "list" vs.toArray 0)).get? h1.objs.size=some (seqObj "list" vs.toArray 0):=Z9 _ rfl;refine wpAny_bind (wpAny_holding (wpAny_call_entry slot_list_sort ⟨_,lies,rfl⟩ entry_list_sort (list_sort_treeK (s:={ s with heap:=h1.push (seqObj "list" vs.toArray 0) }) strKind_oneLt lies hS.keysOf (fun Yq Yp rest e=>keyKind_strs (by rw [<-e]; exact hS)) JH fun AZ hp hs=>⟨_,rfl,wpAny_pure ⟨_,rfl,?_⟩⟩) (args_list_sort _)));obtain ⟨DW,q1,q2,q3⟩:=sorted_out_str hS hp hs;obtain ⟨e,he⟩:=sortedHeap_at (out:=(arrOf AZ).map (·.2)) lies;refine h _ h1.objs.size _ DW e sz (fun b o z=>?_) he q1 q2 q3;have hb:=k1 b o z;rw [sortedHeap_old (ZE (Z5 hb)) (by rw [ae]; exact aa (Z5 hb))];exact Zz _ hb
end
theorem HM {X:Cx}:Bw X (.builtin "sorted") (fun xs H Q=>∃ (t:Addr) (x y:Str),xs=[.ref t]/\H t=some (.tup [.str x,.str y])/\∀ l,H l=none->Q (.ref l) (upd H l (.lst [.str (Cb x y),.str (Cc x y)]))):=by
 intro pins s σ H xs us Q I r h;obtain ⟨t,x,y,rfl,ht,q⟩:=h;obtain ⟨u,rfl,ru⟩:=Cv r;cases ru
 obtain ⟨Ar,rv,pl,hz⟩:=I.tuple (A1.of (show H t=some (.tup ([x,y].map V.str)) from ht));have hl:Ar.length=2:=by rw [<-rv.length]; rfl
 refine LF pl (N2 rv) (by lia) fun h' a out DW e ha kp he h1 h2 h3=>?_
 have e2:DW=[Cb x y,Cc x y]:=by
  obtain ⟨x',y',rfl⟩:∃ x' y',DW=[x',y']:=by
   have:=h2.length_eq;match DW,this with
   | [a,b],_=>exact ⟨a,b,rfl⟩
  obtain ⟨e1,e2⟩:=M5 h2 h3;rw [e1,e2]
 subst e2;refine ⟨.ref a,_,I.laid (o:=.lst [.str (Cb x y),.str (Cc x y)]) (t':=s.toks) kp ha ⟨by show 2<=sizeLine; decide,out.toList,e,HW h1,by simpa using he⟩,rfl,q a (I.hok.fresh ha)⟩
def Qx (K:Z1):Sp:=fun vs H Q _=>∃ (a:Addr) (ns:List Int) (k:Int),vs=[.ref a,.int k]/\Tj K H a (ns.map V.int)/\0<=k/\∀ (p:Addr) (x y z:Int),H p=none->Q (.ref p) (upd H p (.lst (Au x y z)))
def Cz:Sp:=fun vs H Q _=>∃ (p:Addr) (m:Int),vs=[.ref p,.int m]/\Ax H p/\0 < m/\m < 2 ^ 600/\∀ (d a b c:Int),0<=d->d < m->Q (.int d) (upd H p (.lst (Au a b c)))
def LD:Sp:=fun vs H Q _=>∃ (p:Addr) (n:Nat),vs=[.ref p,.int n]/\Ax H p/\n<=26 /\
 ∀ (H':Hp) (D:Addr) (xs:List Str),Ax H' p->Az p H H'->H D=none->H' D=some (.lst (xs.map V.str))->xs.length=n->xs.Nodup->(∀ x ∈ xs,AY x=true)->Q (.ref D) H'
def K4:Sp:=fun vs H Q _=>∃ (p e:Addr) (xs:List Str) (most:Int),vs=[.ref p,.ref e,.int most]/\Ax H p/\H e=some (.lst (xs.map V.str))/\e ≠ p/\1<=xs.length/\xs.length<=30/\1<=most/\most<=30 /\
 ∀ (H':Hp) (D:Addr) (ys zs:List Str),Ax H' p->Az p H H'->H D=none->H' D=some (.lst (ys.map V.str))->(ys ++ zs).Perm xs->1<=ys.length->(ys.length:Int)<=most->Q (.ref D) H'
theorem UU (K:Z1) {X:Cx} (hK:X.K=K) {o e:Expr} {es:List Expr} {to:TE} {t:TA} {name:Str} {apos DS:Pos} {T id:String} {r:V->List V->Hp->VK->Prop} (pa:PlainAttrs T) (slot:Slot T name id) (hty:typeOf (.builtin id)=pure (.type "method_descriptor")) (hm:MtR X id r) (ho:PE X o to) (ha:PA X (e :: es) t)
  (hbase:attributeBase o name X.env (eval o X.env)=eval o X.env:=by rfl)
  (hfew:((backTo DS (starEach (e :: es) X.env)).all (fun x=>!x.1) && (backToKw DS (keywordEach [] X.env)).all (fun x=>x.1.isSome)
   && decide ((e :: es).length + ([]:List Keyword).length + (if ([]:List Keyword).isEmpty then 0 else 1) < 30))=true:=by rfl)
  (hline:(apos.endLine == DS.line)=true:=by rfl) (hs:starEach (e :: es) X.env=(false,eval e X.env) :: starEach es X.env:=by rfl) (hplain:(backTo DS (starEach es X.env)).any (·.1)=false:=by rfl) :
  PE X (.Call (.Attribute o name apos) (e :: es) [] DS) (tBM K T r to t):=by subst hK; exact Hf pa slot hty hm ho ha hbase hfew hline hs hplain
theorem D3.lens {xs:List Str} {ws GK:List AI} (h:D3 xs ws) (hl:GK.length=ws.length) (he:∀ (i:Nat) u u',ws[i]? = some u->GK[i]? = some u'->u'.1=u.1/\u'.2.1=u.2.1/\1<=u'.2.2):D3 xs GK:=by
 have at':∀ u' ∈ GK,∃ (i:Nat) (u:AI),ws[i]? = some u/\GK[i]? = some u'/\u'.1=u.1/\u'.2.1=u.2.1/\1<=u'.2.2:=fun u' hu=>by
  obtain ⟨i,hi⟩:=bZ hu;have JG:=(ZA.mp hi).1;have e:ws[i]? = some (ws[i]'(by lia)):=Zy _;exact ⟨i,_,e,hi,he i _ _ e hi⟩
 refine ⟨fun u' hu=>?_,?_,fun j h1 h2=>?_⟩
 ·obtain ⟨i,u,e1,e2,a,b,c⟩:=at' u' hu;obtain ⟨z1,z2,z3,_⟩:=h.1 u (Z2 e1);rw [a,b];exact ⟨z1,z2,z3,c⟩
 ·refine aN.mpr fun i j hi hj hij al=>?_
  have e1:ws[i]? = some (ws[i]'(by lia)):=Zy _;have e2:ws[j]? = some (ws[j]'(by lia)):=Zy _;obtain ⟨a1,b1,_⟩:=he i _ _ e1 (Zy hi);obtain ⟨a2,b2,_⟩:=he j _ _ e2 (Zy hj);refine aN.mp h.2.1 i j (by lia) (by lia) hij ?_;unfold Jv at al ⊢;rw [a1,b1,a2,b2] at al;exact al
 ·obtain ⟨u,hu,i,hij,e1,e2⟩:=h.2.2 j h1 h2;obtain ⟨q,hq⟩:=bZ hu;have hq':=(ZA.mp hq).1;have e:GK[q]? = some (GK[q]'(by lia)):=Zy _;obtain ⟨a,b,_⟩:=he q _ _ hq e;exact ⟨_,Z2 e,i,hij,by rw [a]; exact e1,by rw [b]; exact e2⟩
theorem Pg (a b:Str):Cb a b=Cb b a:=by
 unfold Cb;split
 ·rename_i h
  rw [if_neg (fun z=>bA h z)]
 ·rename_i h
  split
  ·rfl
  ·rename_i h'
   exact Dr h h'
theorem Pj (a b:Str):Cc a b=Cc b a:=by
 unfold Cc;split
 ·rename_i h
  rw [if_neg (fun z=>bA h z)]
 ·rename_i h
  split
  ·rfl
  ·rename_i h'
   exact (Dr h h').symm
def LP (q:Str × Str):AI:=(q.2,q.1,1)
def Eb (q:Str × Str):List Str:=[q.1,q.2]
def N3:Sp:=fun vs H Q _=>∃ (p e:Addr) (xs:List Str) (kd:Int),vs=[.ref p,.ref e,.int kd]/\Ax H p/\H e=some (.lst (xs.map V.str))/\e ≠ p/\xs.Nodup/\(∀ x ∈ xs,AY x=true)/\1<=xs.length/\xs.length<=26 /\
 ∀ (H':Hp) (T:Addr) (us:List V) (ws Gj:List AI),Ax H' p->Az p H H'->H' T=some (.tup us)->AE H' us (ws.map EB)->ws.Perm (Gj.map Er)->D3 xs Gj->(∀ u ∈ Gj,u.2.2<=9)->Gj.length<=30->Q (.ref T) H'
theorem Dz (K:Z1) {X:Cx} (h:X.K=K):Bw X (.type "tuple") (fun xs H Q=>∃ p ys,xs=[.ref p]/\((AS K H p ys/\∀ l,H l=none->Q (.ref l) (upd H l (.tup ys)))\/(A1 K H p ys/\Q (.ref p) H))):=by subst h; exact B3
end L2
namespace L2
open PySem PySem.Spec PySem.W PyProof.Rows
end L2
namespace L2
open PySem PySem.Spec PyProof.Rows
def Cu (l:List Str):Prop:=l.Pairwise fun a b=>a.cps.toList < b.cps.toList
theorem Cu.nodup {l:List Str} (h:Cu l):l.Nodup:=List.Pairwise.imp (fun {a b} z e=>by subst e; exact EJ _ z) h
theorem Cu.pw {l:List Str} (h:Cu l):l.Pairwise fun a b=>¬ b.cps.toList < a.cps.toList:=List.Pairwise.imp (fun {a b} z=>bA z) h
theorem Kd {l:List Str} (h:l.Pairwise fun a b=>¬ b.cps.toList < a.cps.toList) (nd:l.Nodup):Cu l:=by
 induction l with
 | nil=>exact .nil
 | cons x l ih=>
  rw [aM] at h;rw [ax] at nd;refine aM.mpr ⟨fun y hy=>?_,ih h.2 nd.2⟩;by_cases z:x.cps.toList < y.cps.toList
  ·exact z
  ·exact absurd (Dr (h.1 y hy) z) (fun e=>nd.1 (e ▸ hy))
theorem Ep {ss DW:List Str} (nd:DW.Nodup) (mem:∀ k,k ∈ DW ↔ k ∈ ss) (srt:sortedS DW=true):DW=ss ↔ Cu ss:=
 ⟨fun e=>e ▸ Kd (Gq srt) nd,fun h=>JY (Gq srt) h.pw (LN nd h.nodup mem)⟩
def tyD:PyData->String
 | .none=>"NoneType"
 | .bool _=>"bool"
 | .int _=>"int"
 | .str _=>"str"
 | .list _=>"list"
 | .tuple _=>"tuple"
 | .dict _=>"dict"
theorem Gi.ty {K:Z1} {H:Hp} {v:V} {d:PyData} (h:Gi H v d):D8 K H v (.type (tyD d)):=by
 cases h with
 | non=>exact .non
 | bl b=>exact .bl b
 | int i=>exact .int i
 | str x=>exact .str x
 | tup e _=>exact .tup e
 | lst e _=>exact .lst e
theorem Gi.notStr {K:Z1} {H:Hp} {v:V} {d:PyData} (h:Gi H v d) (n:∀ s,d ≠ .str s):F7 K H v:=by
 exists _,h.ty;cases d with
 | str s=>exact absurd rfl (n s)
 | _=>rfl
theorem D8.same {K:Z1} {H H':Hp} {x:V} {t:Value} (h:D8 K H x t) (s:Ao H H'):D8 K H' x t:=by
 cases h with
 | non=>exact .non
 | bl x=>exact .bl x
 | int i=>exact .int i
 | str x=>exact .str x
 | flt x=>exact .flt x
 | lst e=>exact .lst (s _ _ e)
 | frz e=>exact .frz (s _ _ e)
 | tup e=>exact .tup (s _ _ e)
 | dK e=>exact .dK (s _ _ e)
 | dT e=>exact .dT (s _ _ e)
 | ins e c h1 h2 h3 h4=>exact .ins (s _ _ e) c h1 h2 h3 h4
def K0 (K:Z1) (H:Hp) (v:V):Prop:=∃ ty,D8 K H v ty/\bq K ty (.type "tuple")=some false
theorem Mj:∀ (ss:List Str) (ds:List PyData),PyData.eqvAll (ss.map PyData.str) ds=true ↔ ds=ss.map PyData.str
 | [],[]=>by simp [PyData.eqvAll]
 | [],d :: ds=>by simp [PyData.eqvAll]
 | x :: ss,[]=>by simp [PyData.eqvAll]
 | x :: ss,d :: ds=>by
  rw [ZL,PyData.eqvAll,af,Mj ss ds];constructor
  ·rintro ⟨h,rfl⟩;cases d with
   | str y=>
    rw [PyData.eqv] at h;rw [eq_of_beq h]
   | _=>rw [PyData.eqv] at h; cases h
  ·intro e;injection e with e1 e2;subst e1;refine ⟨?_,e2⟩;rw [PyData.eqv];simp
theorem Mk (ss:List Str) (ds:List PyData):PyData.eqv (.list (ss.map PyData.str)) (.list ds)=true ↔ ds=ss.map PyData.str:=by
 rw [PyData.eqv]; exact Mj ss ds
theorem AE.len {H:Hp}:∀ {xs:List V} {ds:List PyData},AE H xs ds->xs.length=ds.length
 | _,_,.nil=>rfl
 | _,_,.cons _ r=>congrArg (· + 1) r.len
theorem AE.at {H:Hp}:∀ {xs:List V} {ds:List PyData},AE H xs ds->∀ {i:Nat} {v:V},xs[i]? = some v->∃ d,ds[i]? = some d/\Gi H v d
 | _,_,.nil,i,v,e=>by simp at e
 | _,_,.cons h r,0,v,e=>by
  simp only [au,ZR.injEq] at e;subst e;exact ⟨_,rfl,h⟩
 | _,_,.cons h r,i + 1,v,e=>by
  simp only [br] at e;obtain ⟨d,e1,e2⟩:=r.at e;exact ⟨d,by simpa using e1,e2⟩
theorem AE.txt {H:Hp}:∀ {xs:List V} {ss:List Str},AE H xs (ss.map PyData.str)->xs=ss.map V.str
 | xs,[],h=>by cases h; rfl
 | xs,x :: ss,h=>by
  cases h with
  | cons h1 h2=>
   cases h1
   rw [h2.txt];rfl
def Hm:PyData->Bool
 | .str s=>AY s
 | _=>false
theorem Gx:∀ {ds:List PyData},(ds.map Hm).all id=true->∃ ss:List Str,ds=ss.map PyData.str/\∀ s ∈ ss,AY s=true
 | [],_=>⟨[],rfl,fun s hs=>nomatch hs⟩
 | d :: ds,h=>by
  rw [ZL,bM,af] at h;obtain ⟨ss,rfl,hn⟩:=Gx h.2;cases d with
  | str x=>exact ⟨x :: ss,rfl,fun s hs=>(Z3.mp hs).elim (fun e=>e ▸ h.1) (hn s)⟩
  | _=>exact absurd (show false=true from h.1) (by decide)
theorem Ky {ss:List Str} (h:∀ s ∈ ss,AY s=true):((ss.map PyData.str).map Hm).all id=true:=by
 rw [az,aW,aj];exact fun s hs=>h s hs
theorem EX {ss DW:List Str} (h:ss.map PyData.str=DW.map PyData.str):ss=DW:=by
 induction ss generalizing DW with
 | nil=>cases DW with
  | nil=>rfl
  | cons _ _=>cases h
 | cons x ss ih=>cases DW with
  | nil=>cases h
  | cons y DW=>
   injection h with h1 h2;injection h1 with h1;rw [h1,ih h2]
def LB (K:Z1):Sp:=fun vs H Q _=>∃ (t:Addr) (xs:List V) (ds:List PyData),vs=[.ref t]/\(H t=some (.lst xs)\/H t=some (.tup xs))/\AE H xs ds/\(∀ s,PyData.str s ∈ ds->s.length<=1000)/\xs.length<=60 /\
 ∀ (b:Bool) (H':Hp),Ao H H'->(b=true ↔ ∃ ss:List Str,ds=ss.map PyData.str/\(∀ s ∈ ss,AY s=true)/\Cu ss)->Q (.bl b) H'
def Ow (H:Hp) (v:V) (ds:List PyData):Prop:=∃ (t:Addr) (xs:List V),v=.ref t/\H t=some (.tup xs)/\AE H xs ds/\(∀ s,PyData.str s ∈ ds->s.length<=1000)/\xs.length<=60
end L2
namespace HT
open PySem PySem.Spec PyProof.Rows
section
variable {prog:Program} {w:World} {A:Around} {E:Value->Shared->Prop} {s:Shared}
end
end HT
namespace L2
open PySem PySem.Spec PyProof.Rows
section
variable {X:Cx} {Φ:St->Hp->Prop} {a b:Expr} {pos:Pos} {n m:Nat}
end
section
variable {Φ:St->Hp->Prop} {n:Nat}
end
def Fw (m:Int) (u:AI):AI:=(u.1,u.2.1,u.2.2 * m)
theorem Ax.same {H H':Hp} {p:Addr} (h:Ax H p) (s:Ao H H'):Ax H' p:=by obtain ⟨_,_,_,z⟩:=h; exact ⟨_,_,_,s _ _ z⟩
theorem Pk {H:Hp} {m:Addr} {t1 t2:Addr} {vs:List V} {xs ps:List Str} {ws Gj:List AI} {mu:Int} (X7:1<=mu) (X6:mu<=10 ^ 20)
  (h1:H m=some (.tup [.ref t1,.ref t2])) (h2:H t1=some (.tup (ps.map V.str))) (h3:H t2=some (.tup vs)) (h4:AE H vs ((ws.map (Fw mu)).map EB)) (pp:ps.Perm xs) (so:sortedS ps=true) (xnd:xs.Nodup) (xnm:∀ x ∈ xs,AY x=true)
  (wp:ws.Perm (Gj.map Er)) (wc:D3 xs Gj) (w9:∀ u ∈ Gj,u.2.2<=9) (wl:Gj.length<=30):Gh H m ps.length ps (ws.map (Fw mu)):=by
 have l:ws.length=Gj.length:=by rw [wp.length_eq,Z0]
 refine ⟨⟨⟨t1,t2,vs,h1,h2,h3,h4⟩,rfl,pp.nodup_iff.mpr xnd,fun x hx=>xnm x (pp.mem_iff.mp hx),by rw [Z0]; lia,fun u hu=>?_⟩,⟨xs,Gj.map (Fw mu),pp,?_,?_⟩,so,by rw [Z0]; lia⟩
 ·obtain ⟨v,hv,rfl⟩:=ZD.mp hu;obtain ⟨u,W2,rfl⟩:=ZD.mp (wp.mem_iff.mp hv);obtain ⟨a,b,c,d⟩:=wc.1 u W2;have e9:=w9 u W2;have n1:=xnm _ a;have n2:=xnm _ b;have g1:1<=u.2.2 * mu:=by
   have:=cn d X7 (by decide) (by lia);lia
  have g2:u.2.2 * mu<=9 * 10 ^ 20:=cn e9 X6 (by lia) (by decide);exists ?_,?_,g1
  ·show AY (Er u).1=true
   rcases CG u with ⟨z,_⟩ | ⟨z,_⟩ <;> rw [z] <;> assumption
  ·show AY (Er u).2.1=true
   rcases CG u with ⟨_,z⟩ | ⟨_,z⟩ <;> rw [z] <;> assumption
  ·have:(9:Int) * 10 ^ 20 < 10 ^ 30:=by decide
   show u.2.2 * mu < 10 ^ 30
   lia
 ·have:=wp.map (Fw mu);rw [az] at this ⊢;exact this
 ·refine wc.lens (by rw [Z0]) fun i u u' e1 e2=>?_
  rw [Z6,e1] at e2;cases e2
  exists rfl,rfl;obtain ⟨_,_,_,d⟩:=wc.1 u (Z2 e1);show 1<=u.2.2 * mu
  have:=cn d X7 (by decide) (by lia);lia
theorem U4 (b:Bool):(if b=true then (1:Int) else 0)=0\/(if b=true then (1:Int) else 0)=1:=by cases b <;> simp
theorem BW {m:Int} (h:m<=1000):m < 2 ^ 600:=cB h (by decide +kernel)
theorem DT.names {xs ps:List Str} {lo:Int} {rs:List Bg} (h:DT xs lo rs) (p:ps.Perm xs):DT ps lo rs:=⟨fun r hr=>p.mem_iff.mpr (h.sub r hr),h.nd,h.lo,h.one⟩
def oI:Option Int->V
 | none=>.non
 | some n=>.int n
def MV (H:Hp) (A:Addr) (G:Str->Str->Option V) (c:Nat):Prop:=∃ kvs:List (List Bm × V),H A=some (.dT kvs)/\kvs.length<=c/\∀ x y,B4 kvs [Sum.inr x,Sum.inr y]=G x y
theorem MV.same {H H':Hp} {A:Addr} {G:Str->Str->Option V} {c:Nat} (h:MV H A G c) (s:Ao H H'):MV H' A G c:=let ⟨kvs,a,b,d⟩:=h; ⟨kvs,s _ _ a,b,d⟩
theorem MV.up {H:Hp} {A:Addr} {G:Str->Str->Option V} {c c':Nat} (h:MV H A G c) (l:c<=c'):MV H A G c':=let ⟨kvs,a,b,d⟩:=h; ⟨kvs,a,ZV b l,d⟩
def MA (G:Str->Str->Option V) (x y:Str) (v:V):Str->Str->Option V:=fun a b=>if a=x/\b=y then some v else G a b
theorem MV.get {H:Hp} {A t:Addr} {G:Str->Str->Option V} {c:Nat} (h:MV H A G c) {x y:Str} (ht:H t=some (.tup [.str x,.str y])):Cw H A (.ref t) (G x y):=by
 obtain ⟨kvs,a,_,d⟩:=h;rw [<-d x y];exact Cw.t (k:=[Sum.inr x,Sum.inr y]) a ht
theorem MV.put {H:Hp} {A t:Addr} {G:Str->Str->Option V} {c:Nat} (h:MV H A G c) (hc:c < sizeLine) {x y:Str} {v:V} (ht:H t=some (.tup [.str x,.str y])):∃ H',F8 H A (.ref t) v H'/\MV H' A (MA G x y v) (c + 1)/\∃ kvs,H'=upd H A (.dT kvs):=by
 obtain ⟨kvs,a,b,d⟩:=h;refine ⟨_,F8.t (k:=[Sum.inr x,Sum.inr y]) a ht (by lia),⟨_,Ab,?_,fun p q=>?_⟩,_,rfl⟩
 ·have:=CM kvs [Sum.inr x,Sum.inr y] v;lia
 ·rw [Qn];unfold MA;by_cases e:p=x/\q=y
  ·obtain ⟨rfl,rfl⟩:=e;simp
  ·have e':¬ ([Sum.inr p,Sum.inr q]:List Bm)=[Sum.inr x,Sum.inr y]:=fun z=>by
    simp only [ck.injEq,Sum.inr.injEq,and_true] at z;exact e z
   rw [if_neg e',if_neg e,d]
def MO (H:Hp) (A:Addr) (xs:List Str) (M:Str->Str->Option Int) (c:Nat):Prop:=∃ G,MV H A G c/\(∀ x ∈ xs,∀ y ∈ xs,G x y=some (oI (M x y)))/\∀ x y,¬ (x ∈ xs/\y ∈ xs)->G x y=none
theorem MO.same {H H':Hp} {A:Addr} {xs:List Str} {M:Str->Str->Option Int} {c:Nat} (h:MO H A xs M c) (s:Ao H H'):MO H' A xs M c:=let ⟨G,a,b⟩:=h; ⟨G,a.same s,b⟩
theorem MO.up {H:Hp} {A:Addr} {xs:List Str} {M:Str->Str->Option Int} {c c':Nat} (h:MO H A xs M c) (l:c<=c'):MO H A xs M c':=let ⟨G,a,b⟩:=h; ⟨G,a.up l,b⟩
theorem MO.get {H:Hp} {A t:Addr} {xs:List Str} {M:Str->Str->Option Int} {c:Nat} (h:MO H A xs M c) {x y:Str} (hx:x ∈ xs) (hy:y ∈ xs) (ht:H t=some (.tup [.str x,.str y])):Cw H A (.ref t) (some (oI (M x y))):=by
 obtain ⟨G,a,b,_⟩:=h;rw [<-b x hx y hy];exact a.get ht
theorem MO.put {H:Hp} {A t:Addr} {xs:List Str} {M:Str->Str->Option Int} {c:Nat} (h:MO H A xs M c) (hc:c < sizeLine) {x y:Str} (hx:x ∈ xs) (hy:y ∈ xs) {n:Int} (ht:H t=some (.tup [.str x,.str y])):∃ H',F8 H A (.ref t) (.int n) H'/\MO H' A xs (KA M x y n) (c + 1)/\∃ kvs,H'=upd H A (.dT kvs):=by
 obtain ⟨G,a,b,d⟩:=h;obtain ⟨H',dp,mv,e⟩:=a.put hc (v:=.int n) ht;refine ⟨H',dp,⟨_,mv,fun p hp q hq=>?_,fun p q hn=>?_⟩,e⟩
 ·unfold MA KA;split
  ·rfl
  ·exact b p hp q hq
 ·unfold MA;rw [if_neg (fun z=>hn ⟨by rw [z.1]; exact hx,by rw [z.2]; exact hy⟩)];exact d p q hn
theorem MO.md {H:Hp} {A:Addr} {xs:List Str} {M:Str->Str->Option Int} {c:Nat} (h:MO H A xs M c) (full:∀ x ∈ xs,∀ y ∈ xs,∃ n,M x y=some n):MD H A (fun x y=>if x ∈ xs/\y ∈ xs then M x y else none) c:=by
 obtain ⟨G,⟨kvs,a,b,d⟩,e,f⟩:=h;refine ⟨kvs,a,b,fun x y=>?_⟩;rw [d x y];dsimp only;by_cases hxy:x ∈ xs/\y ∈ xs
 ·obtain ⟨n,hn⟩:=full x hxy.1 y hxy.2;rw [e x hxy.1 y hxy.2,if_pos hxy,hn];rfl
 ·rw [f x y hxy,if_neg hxy];rfl
def NJ:Sp:=fun vs H Q _=>∃ (c m:Addr) (n:Nat) (xs:List Str) (ws:List AI) (Aq As:List Bg) (x:V) (d:PyData),vs=[.ref c]/\BZ H c m n xs ws Aq As x d/\∀ (H':Hp) (A:Addr),Ao H H'->H A=none->BY H' A xs ws->Q (.ref A) H'
open Classical in
noncomputable def dst (ws:List AI) (x y:Str):Int:=if h:∃ n,Lq ws x y n then h.choose else 0
theorem Lq.dst {ws:List AI} {x y:Str} {n:Int} (h:Lq ws x y n):dst ws x y=n:=by
 unfold L2.dst;rw [dif_pos ⟨n,h⟩];exact Lq.uniq (Exists.choose_spec (⟨n,h⟩:∃ n,Lq ws x y n)) h
noncomputable def EM (ws:List AI) (x:Str) (r:Bg) (p:Int):Int:=max (p - r.2 * dst ws x r.1) 0
noncomputable def BH (ws:List AI) (x:Str) (rs qs:List Bg):Int:=((rs.zip qs).map fun z=>EM ws x z.1 z.2.2).sum
structure Ms (rs qs:List Bg):Prop where
 nm:qs.map (·.1)=rs.map (·.1)
 lo:∀ q ∈ qs,0<=q.2
theorem Ms.len {rs qs:List Bg} (h:Ms rs qs):qs.length=rs.length:=by
 have:=congrArg bg h.nm;rwa [Z0,Z0] at this
theorem Ms.at {rs qs:List Bg} (h:Ms rs qs) {i:Nat} {q:Bg} (e:qs[i]? = some q):∃ r,rs[i]? = some r/\r.1=q.1:=by
 have:=congrArg (fun l=>l[i]?) h.nm;rw [Z6,Z6,e] at this;cases z:rs[i]? with
 | none=>rw [z] at this; cases this
 | some r=>rw [z] at this; exact ⟨r,rfl,(ZR.inj this).symm⟩
structure CP (H:Hp) (c m t:Addr) (n:Nat) (xs:List Str) (ws:List AI) (Aq As qs:List Bg) (x:V) (d:PyData):Prop where
 cw:BZ H c m n xs ws Aq As x d
 few:∀ r ∈ As,r.2<=4
 ex:∃ us,H t=some (.tup us)/\AE H us (qs.map C9)
 ok:Ms As qs
theorem CP.same {H H':Hp} {c m t:Addr} {n:Nat} {xs:List Str} {ws:List AI} {Aq As qs:List Bg} {x:V} {d:PyData} (h:CP H c m t n xs ws Aq As qs x d) (s:Ao H H'):CP H' c m t n xs ws Aq As qs x d:=by
 obtain ⟨us,a,b⟩:=h.ex;exact ⟨h.cw.same s,h.few,⟨us,s _ _ a,Bh b fun b ys z=>s _ _ z⟩,h.ok⟩
theorem CP.names {H:Hp} {c m t:Addr} {n:Nat} {xs:List Str} {ws:List AI} {Aq As qs:List Bg} {x:V} {d:PyData} (h:CP H c m t n xs ws Aq As qs x d):∀ q ∈ qs,q.1 ∈ xs/\AY q.1=true:=fun q hq=>by
 have h1:q.1 ∈ As.map (·.1):=by rw [<-h.ok.nm]; exact ZD.mpr ⟨q,hq,rfl⟩
 obtain ⟨r,hr,e⟩:=ZD.mp h1;have h2:=h.cw.ok2.sub r hr;have e':r.1=q.1:=e;rw [e'] at h2;exact ⟨h2,h.cw.map.at'.nm _ h2⟩
def VD (x:V) (lv:Int):Prop:=0<=lv/\lv<=1000/\(x=.non->lv=0)
def Io:Sp:=fun vs H Q _=>∃ (c m t:Addr) (n:Nat) (xs:List Str) (ws:List AI) (Aq As qs:List Bg) (x:V) (d:PyData) (v:V) (y:Str),vs=[.ref c,.ref t,v]/\CP H c m t n xs ws Aq As qs x d/\DU H v xs ws y/\∀ H',Ao H H'->Q (.int (BH ws y As qs)) H'
theorem DU.get {H:Hp} {v:V} {xs:List Str} {ws:List AI} {s y:Str} (h:DU H v xs ws s) (nd:xs.Nodup) (hy:y ∈ xs):∃ B,v=.ref B/\Cw H B (.str y) (some (.int (dst ws s y))):=by
 obtain ⟨B,nb,rfl,hB,ks,hd⟩:=h;rw [<-ks] at hy;obtain ⟨⟨z,u⟩,hm,e⟩:=ZD.mp hy;have e':z=y:=e;subst e';obtain ⟨n,rfl,d⟩:=hd z u hm;rw [d.dst];exact ⟨B,rfl,.inl ⟨_,Sum.inr z,.inl hB,rfl,(DJ (nv:=nb) (by rw [ks]; exact nd) hm).symm⟩⟩
theorem Vg (i:Int):(if (0:Int) > i then 0 else i)=max i 0:=by
 rw [fi];split <;> split <;> lia
theorem S7 (i:Int):(if i > (0:Int) then i else 0)=max i 0:=by
 rw [fi];split <;> split <;> lia
theorem Kq {ws:List AI} {y:Str} {rs qs:List Bg} {i:Nat} {r q:Bg} (hr:rs[i]? = some r) (hq:qs[i]? = some q):((rs.zip qs).take (i + 1)).map (fun z=>EM ws y z.1 z.2.2)=((rs.zip qs).take i).map (fun z=>EM ws y z.1 z.2.2) ++ [EM ws y r q.2]:=by
 have e:(rs.zip qs)[i]? = some (r,q):=by
  rw [bJ];exact ⟨hr,hq⟩
 rw [ZH,e,ZC];rfl
theorem Nt {rs qs:List Bg} (h:qs.length=rs.length):(rs.zip qs).length=rs.length:=by rw [bU]; lia
noncomputable def BJ (ws:List AI) (Aq As qs:List Bg) (lv:Int):Bool:=Aq.all fun r=>decide (BH ws r.1 As qs<=r.2 + lv)
def Pf (qs:List Bg) (i:Nat):Bg:=qs.getD i (Str.empty,0)
def BK (qs:List Bg) (i:Nat) (n:Int):List Bg:=qs.take i ++ (((Pf qs i).1,n) :: qs.drop (i + 1))
noncomputable def fullB (ws:List AI) (Aq As qs:List Bg) (lv:Int):Bool:=!((ai qs.length).any fun i=>BJ ws Aq As (BK qs i ((Pf qs i).2 + 1)) lv)
theorem IJ {qs:List Bg} {i:Nat} {q:Bg} (h:qs[i]? = some q):Pf qs i=q:=by unfold Pf; rw [ZJ,h]; rfl
theorem LL {qs:List Bg} {i:Nat} {n:Int} (h:i < qs.length):(BK qs i n).map (·.1)=qs.map (·.1):=by
 have e:qs[i]? = some qs[i]:=Zy h;unfold BK;rw [IJ e,ZC,ZL];have:qs=qs.take i ++ (qs[i] :: qs.drop (i + 1)):=by rw [<-cT h,List.take_append_drop]
 conv=>rhs; rw [this,ZC,ZL]
theorem Ss {rs qs:List Bg} {i:Nat} {n:Int} (h:Ms rs qs) (hi:i < qs.length) (n0:0<=n):Ms rs (BK qs i n):=by
 refine ⟨by rw [LL hi]; exact h.nm,fun q hq=>?_⟩;unfold BK at hq;rcases ZM.mp hq with z | z
 ·exact h.lo q (cg z)
 ·rcases Z3.mp z with z | z
  ·rw [z]; exact n0
  ·exact h.lo q (cj z)
theorem V3 (us:List V) (i:Nat) (h:i < us.length):FY us none (some (i:Int))=us.take i:=by
 unfold FY;have e1:HT.sIx us.length 0 none=0:=rfl;have e2:HT.sIx us.length us.length (some (i:Int))=i:=by
  unfold HT.sIx;simp only [];split <;> lia
 rw [e1,e2,bY,Nat.sub_zero]
theorem V4 (us:List V) (i:Nat) (h:i < us.length):FY us (some ((i:Int) + 1)) none=us.drop (i + 1):=by
 unfold FY;have e1:HT.sIx us.length us.length none=us.length:=rfl;have e2:HT.sIx us.length 0 (some ((i:Int) + 1))=i + 1:=by
  unfold HT.sIx;simp only [];split <;> lia
 rw [e1,e2];exact aX (by rw [aG]; lia)
theorem HL {K:Z1} {H:Hp} {a b:Addr} {xs ys:List V} {Q:VK} (ha:H a=some (.tup xs)) (hb:H b=some (.tup ys)) (l:xs.length + ys.length<=sizeLine) (q:∀ T H',Ao H H'->H' T=some (.tup (xs ++ ys))->Q (.ref T) H'):MF K (.ref a) (.ref b) H Q:=by
 refine ⟨a,b,xs,ys,rfl,rfl,A1.of ha,A1.of hb,l,fun e=>?_,fun _ e=>?_,fun _ _ T hT=>?_⟩
 ·refine q b H (Ao.refl _) ?_;rw [hb,e];rfl
 ·refine q a H (Ao.refl _) ?_;rw [ha,e,bC]
 ·exact q T _ (Ad hT) Ab
theorem Sk {K:Z1} {H:Hp} {t:Addr} {us:List V} {i:Nat} {Q:VK} (ht:H t=some (.tup us)) (hi:i < us.length) (q:∀ Z H',Ao H H'->H' Z=some (.tup (us.take i))->Q (.ref Z) H'):Sq K (.ref t) none (some (i:Int)) H Q:=by
 refine ⟨t,us,rfl,A1.of ht,fun z=>?_,fun p hp=>q p _ (Ad hp) (by rw [Ab,V3 us i hi])⟩;have:=z.2;rw [HT.sIx_nat] at this;lia
theorem Sl {K:Z1} {H:Hp} {t:Addr} {us:List V} {i:Nat} {Q:VK} (ht:H t=some (.tup us)) (hi:i < us.length) (q:∀ Z H',Ao H H'->H' Z=some (.tup (us.drop (i + 1)))->Q (.ref Z) H'):Sq K (.ref t) (some ((i:Int) + 1)) none H Q:=by
 refine ⟨t,us,rfl,A1.of ht,fun z=>?_,fun p hp=>q p _ (Ad hp) (by rw [Ab,V4 us i hi])⟩;have:=z.1;rw [show ((i:Int) + 1)=((i + 1:Nat):Int) by lia,HT.sIx_nat] at this;lia
theorem Jk {H:Hp}:∀ {us:List V} {ds:List PyData} (i:Nat),AE H us ds->AE H (us.take i) (ds.take i)
 | _,_,0,_=>by rw [eR,eR]; exact .nil
 | _,_,i + 1,.nil=>by rw [eY,eY]; exact .nil
 | _,_,i + 1,.cons h r=>by rw [dI,dI]; exact .cons h (Jk i r)
theorem Jm {H:Hp}:∀ {us:List V} {ds:List PyData} (i:Nat),AE H us ds->AE H (us.drop i) (ds.drop i)
 | _,_,0,h=>by rw [bY,bY]; exact h
 | _,_,i + 1,.nil=>by rw [eZ,eZ]; exact .nil
 | _,_,i + 1,.cons h r=>by rw [dJ,dJ]; exact Jm i r
theorem putD {H:Hp} {us:List V} {qs:List Bg} {i:Nat} {n:Int} {T:Addr} (h:AE H us (qs.map C9)) (hT:H T=some (.tup [.str (Pf qs i).1,.int n])):AE H ((us.take i ++ [.ref T]) ++ us.drop (i + 1)) ((BK qs i n).map C9):=by
 unfold BK;rw [ZC,ZL,List.map_take,fc,aP];exact CO (Jk i h) (.cons (FL (u:=((Pf qs i).1,n)) hT) (Jm (i + 1) h))
theorem CP.put {H:Hp} {c m t T T2:Addr} {n:Nat} {xs:List Str} {ws:List AI} {Aq As qs:List Bg} {x:V} {d:PyData} {us:List V} {i:Nat} {p:Int} (h:CP H c m t n xs ws Aq As qs x d) (du:AE H us (qs.map C9)) (hi:i < qs.length) (p0:0<=p)
  (hT:H T=some (.tup [.str (Pf qs i).1,.int p])) (h2:H T2=some (.tup ((us.take i ++ [.ref T]) ++ us.drop (i + 1)))):CP H c m T2 n xs ws Aq As (BK qs i p) x d:=
 ⟨h.cw,h.few,⟨_,h2,putD du hT⟩,Ss h.ok hi p0⟩
theorem R9 (ws:List AI) (x:Str) (r:Bg) (p:Int):0<=EM ws x r p:=by unfold EM; exact Int.le_max_right _ _
theorem N1:∀ {l:List Int},(∀ x ∈ l,0<=x)->0<=l.sum
 | [],_=>by simp
 | a :: l,h=>by
  rw [cV];have:=h a ZU;have:=N1 (l:=l) fun x hx=>h x (ZO _ hx)
  lia
theorem Pu (ws:List AI) (x:Str) (rs qs:List Bg):0<=BH ws x rs qs:=N1 fun y hy=>by
 obtain ⟨z,_,rfl⟩:=ZD.mp hy;exact R9 _ _ _ _
theorem BY.get {H:Hp} {A t:Addr} {xs:List Str} {ws:List AI} {y z:Str} (h:BY H A xs ws) (hy:y ∈ xs) (hz:z ∈ xs) (ht:H t=some (.tup [.str y,.str z])):Cw H A (.ref t) (some (.int (dst ws z y)))/\0<=dst ws z y/\dst ws z y < 2 ^ 300:=by
 obtain ⟨M,c,md,hm⟩:=h;obtain ⟨n,e,d,n0,n1⟩:=hm y hy z hz;have:=md.get ht;rw [e] at this;rw [d.symm.dst];exact ⟨this,n0,n1⟩
def Fg (H:Hp) (D:Addr) (xs:List Str) (ws:List AI) (Aq:List Bg):Prop:=∃ nv:List (Str × V),H D=some (.dK (sK nv))/\nv.map (·.1)=Aq.map (·.1)/\∀ s v,(s,v) ∈ nv->DU H v xs ws s
theorem Fg.same {H H':Hp} {D:Addr} {xs:List Str} {ws:List AI} {Aq:List Bg} (h:Fg H D xs ws Aq) (s:Ao H H'):Fg H' D xs ws Aq:=let ⟨nv,a,b,c⟩:=h; ⟨nv,s _ _ a,b,fun z v hz=>(c z v hz).same s⟩
theorem Fg.get {H:Hp} {D:Addr} {xs:List Str} {ws:List AI} {Aq:List Bg} (h:Fg H D xs ws Aq) (nd:(Aq.map (·.1)).Nodup) {r:Bg} (hr:r ∈ Aq):∃ v,Cw H D (.str r.1) (some v)/\DU H v xs ws r.1:=by
 obtain ⟨nv,a,b,c⟩:=h;have hy:r.1 ∈ nv.map (·.1):=by rw [b]; exact ZD.mpr ⟨r,hr,rfl⟩
 obtain ⟨⟨z,v⟩,hm,e⟩:=ZD.mp hy;have e':z=r.1:=e;subst e';exact ⟨v,.inl ⟨_,Sum.inr r.1,.inl a,rfl,(DJ (nv:=nv) (by rw [b]; exact nd) hm).symm⟩,c _ _ hm⟩
def JW:Sp:=fun vs H Q _=>∃ (c m t D:Addr) (n:Nat) (xs:List Str) (ws:List AI) (Aq As qs:List Bg) (x:V) (d:PyData) (lv:Int),vs=[.ref c,.ref D,.ref t,.int lv]/\CP H c m t n xs ws Aq As qs x d/\Fg H D xs ws Aq/\∀ H',Ao H H'->Q (.bl (BJ ws Aq As qs lv)) H'
def K7:Sp:=fun vs H Q _=>∃ (c m t A:Addr) (n:Nat) (xs:List Str) (ws:List AI) (Aq As qs:List Bg) (x:V) (d:PyData) (y:Str),vs=[.ref c,.ref A,.ref t,.str y]/\CP H c m t n xs ws Aq As qs x d/\BY H A xs ws/\y ∈ xs/\∀ H',Ao H H'->Q (.int (BH ws y As qs)) H'
def LA:Sp:=fun vs H Q _=>∃ (c m t A:Addr) (n:Nat) (xs:List Str) (ws:List AI) (Aq As qs:List Bg) (x:V) (d:PyData) (lv:Int),vs=[.ref c,.ref A,.ref t,.int lv]/\CP H c m t n xs ws Aq As qs x d/\BY H A xs ws/\∀ H',Ao H H'->Q (.bl (BJ ws Aq As qs lv)) H'
theorem FX {α β:Type} (f:α->Bool) (g:α->β):∀ l:List α,((l.filter f).map g).isEmpty=l.all fun r=>!f r
 | []=>rfl
 | a :: l=>by
  rw [aT,bM];cases h:f a
  ·rw [if_neg (by simp),FX f g l];rfl
  ·rw [if_pos rfl];rfl
theorem OB (ws:List AI) (Aq As qs:List Bg) (lv:Int):(Aq.all fun r=>!decide (r.2 + lv < BH ws r.1 As qs))=BJ ws Aq As qs lv:=by
 unfold BJ;congr 1;funext r;by_cases h:r.2 + lv < BH ws r.1 As qs
 ·rw [decide_eq_true h,decide_eq_false (by lia)];rfl
 ·rw [decide_eq_false h,decide_eq_true (by lia)];rfl
theorem QK {du lv g r d:Int} (h1:du < 10 ^ 30) (h2:lv<=1000) (h3:0<=g) (h4:1<=r) (h5:r<=4) (h6:0<=d) (h7:d < 2 ^ 300):du + lv - g + r * d < 2 ^ 400:=by
 have a:r * d<=4 * d:=bB h5 h6;have b:(4:Int) * 2 ^ 300 + 10 ^ 30 + 2000<=2 ^ 400:=by decide +kernel
 have c:(10:Int) ^ 30=1000000000000000000000000000000:=by decide
 generalize (2:Int) ^ 300=X at *;generalize (2:Int) ^ 400=Y at *;generalize r * d=Z at *;rw [c] at *;lia
theorem CP.keepT {H H':Hp} {c m t:Addr} {n:Nat} {xs:List Str} {ws:List AI} {Aq As qs:List Bg} {x:V} {d:PyData} (h:CP H c m t n xs ws Aq As qs x d) (s:∀ b ys,H b=some (.tup ys)->H' b=some (.tup ys)):CP H' c m t n xs ws Aq As qs x d:=by
 obtain ⟨us,a,b⟩:=h.ex;exact ⟨h.cw.keepT s,h.few,⟨us,s _ _ a,Bh b s⟩,h.ok⟩
theorem BY.keep {H H':Hp} {A p:Addr} {xs:List Str} {ws:List AI} (h:BY H A xs ws) (hp:Ax H p) (k:Az p H H'):BY H' A xs ws:=by
 obtain ⟨M,c,⟨kvs,a,b,e⟩,r⟩:=h;refine ⟨M,c,⟨kvs,k _ _ (fun z=>?_) a,b,e⟩,r⟩;subst z;obtain ⟨_,_,_,z⟩:=hp;rw [z] at a;cases a
theorem Vi {m:Int} (h:m < 2 ^ 400):m + 1 < 2 ^ 600:=by
 have b:(2:Int) ^ 400 + 1 < 2 ^ 600:=by decide +kernel
 generalize (2:Int) ^ 400=X at *;generalize (2:Int) ^ 600=Y at *;lia
def Fl (rs:List Bg):List Bg:=rs.map fun r=>(r.1,0)
theorem Qf (rs:List Bg):Ms rs (Fl rs):=by
 refine ⟨by unfold Fl; rw [az]; rfl,fun q hq=>?_⟩;obtain ⟨r,_,rfl⟩:=ZD.mp hq;exact aB _
theorem NX {qs:List Bg} {i:Nat} {p:Int} (h:i < qs.length):Pf (BK qs i p) i=((Pf qs i).1,p):=by
 refine IJ ?_;unfold BK;rw [ao (by rw [ZS]; lia),ZS,Nat.min_eq_left (by lia),dt];rfl
theorem QM {qs:List Bg} {i:Nat} {p:Int} (h:i < qs.length):(BK qs i p).length=qs.length:=by
 have:=congrArg bg (LL (n:=p) h);rwa [Z0,Z0] at this
theorem Dy (ws:List AI) (x:Str) (r q:Bg) (rs qs:List Bg):BH ws x (r :: rs) (q :: qs)=EM ws x r q.2 + BH ws x rs qs:=by
 unfold BH;rw [dO,ZL,cV]
theorem Jd {ws:List AI} {x:Str}:∀ {rs qs:List Bg} {i:Nat} {r q:Bg},rs[i]? = some r->qs[i]? = some q->∀ p:Int,BH ws x rs (BK qs i p) + EM ws x r q.2=BH ws x rs qs + EM ws x r p
 | [],_,_,_,_,h,_,_=>by simp at h
 | _ :: _,[],_,_,_,_,h,_=>by simp at h
 | r0 :: rs,q0 :: qs,0,r,q,h1,h2,p=>by
  simp only [au,ZR.injEq] at h1 h2;subst h1 h2;show BH ws x (r0 :: rs) ((q0.1,p) :: qs) + _=_
  rw [Dy,Dy];show EM ws x r0 p + _ + _=_
  lia
 | r0 :: rs,q0 :: qs,i + 1,r,q,h1,h2,p=>by
  simp only [br] at h1 h2;have ih:=Jd (ws:=ws) (x:=x) h1 h2 p;show BH ws x (r0 :: rs) (q0 :: BK qs i p) + _=_
  rw [Dy,Dy];lia
theorem IA:∀ {qs:List Bg} {i:Nat} {p p':Int},i < qs.length->BK (BK qs i p) i p'=BK qs i p'
 | [],_,_,_,h=>by simp at h
 | q :: qs,0,p,p',_=>rfl
 | q :: qs,i + 1,p,p',h=>by
  show q :: BK (BK qs i p) i p'=q :: BK qs i p'
  rw [IA (by simpa using h)]
theorem OA {ws:List AI} {Aq As qs:List Bg} {lv:Int} {i:Nat} {r q:Bg} {mn p:Int} (h:BJ ws Aq As qs lv=true) (hr:As[i]? = some r) (hq:qs[i]? = some q) (rq:r.1=q.1) (q0:0<=q.2) (hd:∀ s ∈ Aq,0<=r.2 * dst ws s.1 q.1)
  (hm:∀ s ∈ Aq,mn<=s.2 + lv - BH ws s.1 As (BK qs i 0) + r.2 * dst ws s.1 q.1) (hp:p<=if mn > 0 then mn else 0):BJ ws Aq As (BK qs i p) lv=true:=by
 unfold BJ at h ⊢;rw [aj] at h ⊢;intro s hs;have g:=of_decide_eq_true (h s hs);refine decide_eq_true ?_;have a:=Jd (ws:=ws) (x:=s.1) hr hq p;have b:=Jd (ws:=ws) (x:=s.1) hr hq 0;have d:=hd s hs;have m:=hm s hs;have e:∀ z,EM ws s.1 r z=max (z - r.2 * dst ws s.1 q.1) 0:=fun z=>by unfold EM; rw [rq]
 rw [e,e] at a b;generalize r.2 * dst ws s.1 q.1=D at *;generalize BH ws s.1 As (BK qs i p)=X at *;generalize BH ws s.1 As (BK qs i 0)=Y at *;generalize BH ws s.1 As qs=Z at *;split at hp <;> lia
theorem Ko {ws:List AI} {x:Str}:∀ {rs:List Bg},(∀ r ∈ rs,0<=r.2 * dst ws x r.1)->BH ws x rs (Fl rs)=0
 | [],_=>rfl
 | r :: rs,h=>by
  have ih:=Ko (ws:=ws) (x:=x) (rs:=rs) fun r' hr=>h r' (ZO _ hr)
  have d:=h r ZU;show BH ws x (r :: rs) ((r.1,0) :: Fl rs)=0
  rw [Dy,ih];unfold EM;show max (0 - _) 0 + 0=(0:Int)
  lia
theorem My {ws:List AI} {Aq As:List Bg} {lv:Int} (hd:∀ s ∈ Aq,∀ r ∈ As,0<=r.2 * dst ws s.1 r.1) (h0:∀ s ∈ Aq,0<=s.2) (l0:0<=lv):BJ ws Aq As (Fl As) lv=true:=by
 unfold BJ;rw [aj];intro s hs;rw [Ko (hd s hs)];exact decide_eq_true (by have:=h0 s hs; lia)
theorem BY.lo {H:Hp} {A:Addr} {xs:List Str} {ws:List AI} {y z:Str} (h:BY H A xs ws) (hy:y ∈ xs) (hz:z ∈ xs):0<=L2.dst ws z y:=by
 obtain ⟨M,c,md,hm⟩:=h;obtain ⟨n,e,d,n0,n1⟩:=hm y hy z hz;rw [d.symm.dst];exact n0
theorem NQ {qs:List Bg} {i:Nat} {p B:Int} (h:∀ q ∈ qs,q.2 < B) (hp:p < B):∀ q ∈ BK qs i p,q.2 < B:=fun q hq=>by
 unfold BK at hq;rcases ZM.mp hq with z | z
 ·exact h q (cg z)
 ·rcases Z3.mp z with z | z
  ·rw [z]; exact hp
  ·exact h q (cj z)
theorem Qg {rs:List Bg}:∀ q ∈ Fl rs,q.2 < 2 ^ 400:=fun q hq=>by
 obtain ⟨r,_,rfl⟩:=ZD.mp hq;exact (by decide +kernel:(0:Int) < 2 ^ 400)
def JX:Sp:=fun vs H Q _=>∃ (c m t A:Addr) (n:Nat) (xs:List Str) (ws:List AI) (Aq As qs:List Bg) (x:V) (d:PyData) (lv:Int) (i:Nat),vs=[.ref c,.ref A,.ref t,.int lv,.int i]/\CP H c m t n xs ws Aq As qs x d/\BY H A xs ws/\0<=lv/\lv<=1000/\i < qs.length /\
 ∀ (H':Hp) (T:Addr) (p:Int),Ao H H'->0<=p->p < 2 ^ 400->(BJ ws Aq As qs lv=true->∀ p':Int,p'<=p->BJ ws Aq As (BK qs i p') lv=true)->CP H' c m T n xs ws Aq As (BK qs i p) x d->Q (.ref T) H'
def Gp:Sp:=fun vs H Q _=>∃ (p c m A:Addr) (n:Nat) (xs:List Str) (ws:List AI) (Aq As:List Bg) (x:V) (d:PyData) (lv:Int),vs=[.ref p,.ref c,.ref A,.int lv]/\Ax H p/\BZ H c m n xs ws Aq As x d/\(∀ r ∈ As,r.2<=4)/\BY H A xs ws/\0<=lv/\lv<=1000 /\
 ∀ (H':Hp) (T:Addr) (qs:List Bg),Ax H' p->Az p H H'->CP H' c m T n xs ws Aq As qs x d->BJ ws Aq As qs lv=true->(∀ q ∈ qs,q.2 < 2 ^ 400)->Q (.ref T) H'
end L2
namespace L2
open PySem PySem.Builtin.Str PySem.StrLaws
end L2
namespace L2
open PySem PySem.Spec PyProof.Rows PySem.NumText
end L2
namespace L2
open PySem PySem.Spec PyProof.Rows
theorem IM {s:Str} (h:AY s=true):s.length<=10:=by
 obtain ⟨_,l,_⟩:=Rq h;lia
def Mu (K:Z1) (H:Hp) (v:V):Prop:=∃ ty,D8 K H v ty/\bq K ty (.type "int")=some false
def Th (K:Z1) (H:Hp) (v:V) (b:Bool):Prop:=(∃ n:Int,v=.int n/\b=true)\/(b=false/\((∃ c,v=.bl c)\/Mu K H v))
def Kz (K:Z1) (H:Hp) (v:V) (l:Int) (b:Bool):Prop:=(∃ n:Int,v=.int n/\b=decide (l<=n))\/(b=false/\((∃ c,v=.bl c)\/Mu K H v))
def Gf (K:Z1) (H:Hp) (v:V) (y:Str) (b:Bool):Prop:=(b=false/\K0 K H v)\/∃ (t:Addr) (us:List V),v=.ref t/\H t=some (.tup us)/\((us.length ≠ 2/\b=false)\/∃ a p,us=[a,p]/\((F7 K H a/\b=false)\/∃ s:Str,a=.str s/\s.length<=1000/\b=(AY s && decide (s=y))))
def Ez (K:Z1) (H:Hp) (v:V) (ys:List Str) (b:Bool):Prop:=(b=false/\K0 K H v)\/∃ (t:Addr) (us:List V),v=.ref t/\H t=some (.tup us)/\((us.length ≠ ys.length/\b=false)\/(us.length=ys.length/\∃ bs:List Bool,bs.length=us.length/\b=bs.all id/\∀ (i:Nat) u y c,us[i]? = some u->ys[i]? = some y->bs[i]? = some c->Gf K H u y c))
def Js (K:Z1) (H:Hp) (v:V) (ys:List Str) (b:Bool):Prop:=(b=false/\Ez K H v ys false)\/∃ (t:Addr) (us:List V),v=.ref t/\H t=some (.tup us)/\us.length=ys.length/\∃ bs:List Bool,bs.length=us.length/\b=bs.all id /\
 ∀ (i:Nat) u y c,us[i]? = some u->ys[i]? = some y->bs[i]? = some c->∃ (tt:Addr) (p:V),u=.ref tt/\H tt=some (.tup [.str y,p])/\Kz K H p 0 c
def GJ (K:Z1) (H:Hp) (x:V) (v:V) (b:Bool):Prop:=(b=false/\Kz K H v 0 false)\/∃ lv:Int,v=.int lv/\0<=lv/\b=(!decide (x=.non) || decide (lv=0))
theorem Mu.same {K:Z1} {H H':Hp} {v:V} (h:Mu K H v) (s:Ao H H'):Mu K H' v:=let ⟨ty,a,b⟩:=h; ⟨ty,a.same s,b⟩
theorem K0.same {K:Z1} {H H':Hp} {v:V} (h:K0 K H v) (s:Ao H H'):K0 K H' v:=let ⟨ty,a,b⟩:=h; ⟨ty,a.same s,b⟩
theorem F7.same {K:Z1} {H H':Hp} {v:V} (h:F7 K H v) (s:Ao H H'):F7 K H' v:=let ⟨ty,a,b⟩:=h; ⟨ty,a.same s,b⟩
theorem Kz.same {K:Z1} {H H':Hp} {v:V} {l:Int} {b:Bool} (h:Kz K H v l b) (s:Ao H H'):Kz K H' v l b:=by
 rcases h with h | ⟨h,h2 | h2⟩
 ·exact .inl h
 ·exact .inr ⟨h,.inl h2⟩
 ·exact .inr ⟨h,.inr (h2.same s)⟩
theorem Gf.same {K:Z1} {H H':Hp} {v:V} {y:Str} {b:Bool} (h:Gf K H v y b) (s:Ao H H'):Gf K H' v y b:=by
 rcases h with ⟨h,h2⟩ | ⟨t,us,e,ht,h | ⟨a,p,e2,⟨h,h2⟩ | h⟩⟩
 ·exact .inl ⟨h,h2.same s⟩
 ·exact .inr ⟨t,us,e,s _ _ ht,.inl h⟩
 ·exact .inr ⟨t,us,e,s _ _ ht,.inr ⟨a,p,e2,.inl ⟨h.same s,h2⟩⟩⟩
 ·exact .inr ⟨t,us,e,s _ _ ht,.inr ⟨a,p,e2,.inr h⟩⟩
theorem Ez.same {K:Z1} {H H':Hp} {v:V} {ys:List Str} {b:Bool} (h:Ez K H v ys b) (s:Ao H H'):Ez K H' v ys b:=by
 rcases h with ⟨h,h2⟩ | ⟨t,us,e,ht,h | ⟨h,bs,bl,e2,r⟩⟩
 ·exact .inl ⟨h,h2.same s⟩
 ·exact .inr ⟨t,us,e,s _ _ ht,.inl h⟩
 ·exact .inr ⟨t,us,e,s _ _ ht,.inr ⟨h,bs,bl,e2,fun i u y c a1 a2 a3=>(r i u y c a1 a2 a3).same s⟩⟩
theorem GJ.same {K:Z1} {H H':Hp} {x v:V} {b:Bool} (h:GJ K H x v b) (s:Ao H H'):GJ K H' x v b:=by
 rcases h with ⟨h,h2⟩ | h
 ·exact .inl ⟨h,h2.same s⟩
 ·exact .inr h
theorem Gf.right {K:Z1} {H:Hp} {tt:Addr} {y:Str} {p:V} (n:AY y=true) (h:H tt=some (.tup [.str y,p])):Gf K H (.ref tt) y true:=
 .inr ⟨tt,_,rfl,h,.inr ⟨_,_,rfl,.inr ⟨y,rfl,ZV (IM n) (by decide),by rw [n,decide_eq_true rfl]; rfl⟩⟩⟩
def L8 (K:Z1):Sp:=fun vs H Q _=>∃ (v:V) (b:Bool),vs=[v]/\Th K H v b/\Q (.bl b) H
def Gn (K:Z1):Sp:=fun vs H Q _=>∃ (v:V) (l:Int) (b:Bool),vs=[v,.int l]/\Kz K H v l b/\Q (.bl b) H
def Qw (K:Z1):Sp:=fun vs H Q _=>∃ (v:V) (y:Str) (b:Bool),vs=[v,.str y]/\Gf K H v y b/\∀ H',Ao H H'->Q (.bl b) H'
def N4 (K:Z1):Sp:=fun vs H Q _=>∃ (v:V) (L:Addr) (ys:List Str) (b:Bool),vs=[v,.ref L]/\H L=some (.lst (ys.map V.str))/\ys.length<=100/\Ez K H v ys b/\∀ H',Ao H H'->Q (.bl b) H'
def K8 (K:Z1):Sp:=fun vs H Q _=>∃ (c m:Addr) (n:Nat) (xs:List Str) (ws:List AI) (Aq As:List Bg) (x:V) (d:PyData) (v:V) (b:Bool),vs=[.ref c,v]/\BZ H c m n xs ws Aq As x d/\Ez K H v (As.map (·.1)) b/\∀ H',Ao H H'->Q (.bl b) H'
def T5 (K:Z1):Sp:=fun vs H Q _=>∃ (c m:Addr) (n:Nat) (xs:List Str) (ws:List AI) (Aq As:List Bg) (x:V) (d:PyData) (v:V) (b:Bool),vs=[.ref c,v]/\BZ H c m n xs ws Aq As x d/\Js K H v (As.map (·.1)) b/\∀ H',Ao H H'->Q (.bl b) H'
def NC (K:Z1):Sp:=fun vs H Q _=>∃ (c m:Addr) (n:Nat) (xs:List Str) (ws:List AI) (Aq As:List Bg) (x:V) (d:PyData) (v:V) (b:Bool),vs=[.ref c,v]/\BZ H c m n xs ws Aq As x d/\GJ K H x v b/\Q (.bl b) H
def L9 (K:Z1):Sp:=fun vs H Q _=>∃ (c m:Addr) (n:Nat) (xs:List Str) (ws:List AI) (Aq As:List Bg) (x:V) (d:PyData) (v l:V),vs=[.ref c,v,l]/\BZ H c m n xs ws Aq As x d/\((Js K H v (As.map (·.1)) false/\∀ H',Ao H H'->Q (.bl false) H') \/
 ∃ (t:Addr) (qs:List Bg),v=.ref t/\CP H c m t n xs ws Aq As qs x d/\((GJ K H x l false/\∀ H',Ao H H'->Q (.bl false) H')\/∃ lv:Int,l=.int lv/\GJ K H x l true/\∀ H',Ao H H'->Q (.bl (BJ ws Aq As qs lv)) H'))
theorem CP.prices {K:Z1} {H:Hp} {c m t:Addr} {n:Nat} {xs:List Str} {ws:List AI} {Aq As qs:List Bg} {x:V} {d:PyData} (h:CP H c m t n xs ws Aq As qs x d):Js K H (.ref t) (As.map (·.1)) true:=by
 obtain ⟨us,ht,du⟩:=h.ex;have ul:=A9 du;have ql:=h.ok.len;refine .inr ⟨t,us,rfl,ht,by rw [Z0]; lia,us.map fun _=>true,by rw [Z0],by rw [aW]; exact (aj.mpr fun _ _=>rfl).symm,fun i u y c a1 a2 a3=>?_⟩;obtain ⟨q,tt,eq,rfl,htt⟩:=Bc du a1;rw [<-h.ok.nm,Z6,eq] at a2;cases a2
 rw [Z6,a1] at a3;cases a3
 exact ⟨tt,_,rfl,htt,.inl ⟨q.2,rfl,(decide_eq_true (h.ok.lo q (Z2 eq))).symm⟩⟩
section
variable {prog:Program} {w:World} {A:Around} {E:Value->Shared->Prop} {s:Shared}
end
section
variable {prog:Program} {w:World} {A:Around} {E:Value->Shared->Prop} {s:Shared}
end
theorem Bz (K:Z1) {X:Cx} (h:X.K=K):Bw X (.builtin "isinstance") (fun xs H Q=>∃ x c t b,xs=[x,.ty c]/\D8 K H x t/\bq K t (.type c)=some b/\Q (.bl b) H):=by subst h; exact BN
def FD (z:Str × Str):PyData:=.tuple [.str z.1,.str z.2]
theorem G7 {H:Hp} {us:List V} {zs:List (Str × Str)} {i:Nat} {u:V} (h:AE H us (zs.map FD)) (e:us[i]? = some u):∃ z t,zs[i]? = some z/\u=.ref t/\H t=some (.tup [.str z.1,.str z.2]):=by
 obtain ⟨d,ed,dd⟩:=h.at e;rw [Z6] at ed;cases q:zs[i]? with
 | none=>rw [q] at ed; cases ed
 | some z=>
  rw [q] at ed;cases ed
  cases dd with
  | tup ht dx=>
   have:=AE.txt (ss:=[z.1,z.2]) dx;subst this;exact ⟨z,_,rfl,rfl,ht⟩
theorem Lv {H:Hp} {t:Addr} {z:Str × Str} (h:H t=some (.tup [.str z.1,.str z.2])):Gi H (.ref t) (FD z):=.tup h (CJ H [z.1,z.2])
theorem Di {H H':Hp} (ht:∀ b xs,H b=some (.tup xs)->H' b=some (.tup xs)):∀ {zs:List (Str × Str)} {us:List V},AE H us (zs.map FD)->AE H' us (zs.map FD)
 | [],_,h=>by cases h; exact .nil
 | z :: zs,_,h=>by
  rw [ZL] at h;cases h with
  | cons a b=>
   cases a with
   | tup e dx=>
    have:=AE.txt (ss:=[z.1,z.2]) dx;subst this;exact .cons (Lv (ht _ _ e)) (Di ht b)
theorem Ij {H:Hp} {us:List V} {zs:List (Str × Str)} (h:AE H us (zs.map FD)):us.length=zs.length:=by rw [h.len,Z0]
theorem Us {H H':Hp} {us:List V} {ds:List PyData} (h:AE H us ds) (s:Ao H H'):AE H' us ds:=h.mono fun a o e _=>s a o e
theorem Tu {zs:List (Str × Str)} {rs:List Bg} (h:zs.map (·.1)=rs.map (·.1)) {i:Nat} {z:Str × Str} (e:zs[i]? = some z):∃ r,rs[i]? = some r/\r.1=z.1:=by
 have:=congrArg (fun l=>l[i]?) h;rw [Z6,Z6,e] at this;cases q:rs[i]? with
 | none=>rw [q] at this; cases this
 | some r=>rw [q] at this; exact ⟨r,rfl,(ZR.inj this).symm⟩
end L2
namespace HT
open PySem PySem.Spec PyProof.Rows
section
variable {prog:Program} {w:World} {A:Around} {E:Value->Shared->Prop} {s:Shared}
theorem getItem_tuple_whole {t sl:Addr} {items:Array Value} {vl vu:Value} {lo hi:Option Int} {Q:Value->Shared->Prop} (ht:IsTup s.heap t items) (hs:s.heap.IsSliceOf sl vl vu .none) (pl:IsPart vl lo) (pu:IsPart vu hi)
  (hw:sIx items.size 0 lo=0/\sIx items.size items.size hi=items.size)
  (h:Q (.ref t) s)
  (hsz:items.size<=sizeLine):wpAny (model prog w) A (getItem (.ref t) (.ref sl)) Q E s:=by
 have hj:sIx items.size items.size hi<=items.size:=QH _ _ (Z4 _) hi;obtain ⟨os,hos,hcs,hds⟩:=id hs;have hTs:s.TypeIs (.ref sl) "slice":=⟨os,hos,hcs⟩
 unfold getItem;try with_reducible refine wpAny_holding ?_
 first | refine wpAny_bind (wpAny_pure ?_) | skip
 refine wpAny_bind (wpAny_sequenceKey ht.typeIs (by decide) ?_);refine wpAny_bind (wpAny_callSpecial?_slot (name:=Str.ofString "__getitem__") ht.typeIs PyProof.Rows.slot_tuple_getitem
  (wpAny_call_entry PyProof.Rows.slot_tuple_getitem ht.typeIs entry_tuple_getitem ?_ (args_tuple_getitem _ _)))
 show wpAny _ _ (Builtin.Tuple.tupleItemsOf (.ref t) >>= _) _ _ s
 refine wpAny_bind (tupleItemsOf_ ht ?_);refine wpAny_bind (wpAny_typeOf hTs ?_);rw [if_pos (by decide)];refine wpAny_bind (DX hs pl pu ?_);have hyes:((((sIx items.size 0 lo:Nat):Int) == 0 && (1:Int) == 1 && (sIx items.size items.size hi - sIx items.size 0 lo) == items.size)=true):=by
  rw [hw.1,hw.2];simp
 show wpAny _ _ (if (((sIx items.size 0 lo:Nat):Int) == 0 && (1:Int) == 1 && (sIx items.size items.size hi - sIx items.size 0 lo) == items.size)=true then _ else _) _ _ s
 rw [if_pos hyes];obtain ⟨o,ho,hc,n,hd⟩:=id ht;refine wpAny_bind ?_;unfold Builtin.Tuple.tupleIsExact;refine wpAny_bind (wpAny_typeOf ht.typeIs ?_);refine wpAny_pure ?_;rw [if_pos (by decide)];refine wpAny_bind (wpAny_rule ?_);exact wpAny_pure ⟨_,rfl,wpAny_pure h⟩
theorem Li (n:Nat):Builtin.Slice.slicePlaces ((n:Int) - 1) (-1) (-1)=n:=by
 unfold Builtin.Slice.slicePlaces;have h0:¬ ((-1:Int) > 0):=by decide
 rw [if_neg h0,show (- (-1:Int))=1 by decide,cG];split <;> lia
theorem Om {α β:Type} {f:α->Option β} {g:α->β}:∀ {l:List α},(∀ a ∈ l,f a=some (g a))->l.filterMap f=l.map g
 | [],_=>rfl
 | a :: l,h=>by
  rw [bD,h a (by simp)];show g a :: _=_
  rw [Om fun b hb=>h b (ZO _ hb)];rfl
theorem PQ (items:Array Value):((ai items.size).filterMap fun (m:Nat)=>items[(((items.size:Int) - 1) + (m:Int) * -1).toNat]?)=items.toList.reverse:=by
 rw [Om (g:=fun m=>items.toList.reverse.getD m .none) fun m hm=>?_]
 ·refine e7 fun i=>?_
  rw [Z6];by_cases hi:i < items.size
  ·rw [List.getElem?_range hi];show some (items.toList.reverse.getD i .none)=_
   rw [ZJ,Zy (l:=items.toList.reverse) (by rw [bj,ZT]; exact hi)];rfl
  ·rw [bz (by rw [aH]; lia),bz (by rw [bj,ZT]; lia)];rfl
 ·have YY:=ba.mp hm;have e1:(((items.size:Int) - 1) + (m:Int) * -1).toNat=items.size - 1 - m:=by lia
  rw [e1,ZJ,List.getElem?_reverse (by rw [ZT]; exact YY),ZT,bx,cR (by lia)];rfl
theorem getItem_tuple_backX {t sl:Addr} {items:Array Value} {tk:Tok} {Q:Value->Shared->Prop} (ht:IsTup s.heap t items) (hs:s.heap.IsSliceOf sl .none .none (.int (-1) tk)) (hsz:items.size<=sizeLine)
  (h:Q (.ref s.heap.objs.size) { s with heap:=s.heap.push { cls:=.type "tuple",data:=.seq items.toList.reverse.toArray } }) :
  wpAny (model prog w) A (getItem (.ref t) (.ref sl)) Q E s:=by
 obtain ⟨os,hos,hcs,hds⟩:=id hs;have hTs:s.TypeIs (.ref sl) "slice":=⟨os,hos,hcs⟩
 have app:∀ {R:Int × Int × Nat->Shared->Prop},R ((items.size:Int) - 1,-1,items.size) s->wpAny (model prog w) A.in1 (Builtin.Slice.sliceApplied (.ref sl) (pure (items.size:Int))) R E s:=by
  intro R q;unfold Builtin.Slice.sliceApplied Builtin.Slice.sliceFields;refine wpAny_bind (wpAny_bind (wpAny_field hos hds (x:=.none) rfl (wpAny_bind (wpAny_field hos hds (x:=.none) rfl (wpAny_bind (wpAny_field hos hds (x:=.int (-1) tk) rfl (wpAny_pure ?_)))))));refine wpAny_bind (slicePart_int ?_);show wpAny _ _ (if ((-1:Int) == 0)=true then _ else _) _ _ s
  rw [if_neg (by decide)];refine wpAny_bind (slicePart_none (wpAny_bind (slicePart_none (wpAny_bind (wpAny_pure ?_)))));have q':R ((items.size:Int) - 1,-1,Builtin.Slice.slicePlaces ((items.size:Int) - 1) (-1) (-1)) s:=by rw [Li]; exact q
  exact wpAny_pure q'
 unfold getItem;try with_reducible refine wpAny_holding ?_
 first | refine wpAny_bind (wpAny_pure ?_) | skip
 refine wpAny_bind (wpAny_sequenceKey ht.typeIs (by decide) ?_);refine wpAny_bind (wpAny_callSpecial?_slot (name:=Str.ofString "__getitem__") ht.typeIs PyProof.Rows.slot_tuple_getitem
  (wpAny_call_entry PyProof.Rows.slot_tuple_getitem ht.typeIs entry_tuple_getitem ?_ (args_tuple_getitem _ _)))
 show wpAny _ _ (Builtin.Tuple.tupleItemsOf (.ref t) >>= _) _ _ s
 refine wpAny_bind (tupleItemsOf_ ht ?_);refine wpAny_bind (wpAny_typeOf hTs ?_);rw [if_pos (by decide)];refine wpAny_bind (app ?_);show wpAny _ _ (if (((items.size:Int) - 1) == 0 && (-1:Int) == 1 && items.size == items.size)=true then _ else _) _ _ s
 rw [if_neg (by simp)];have er:((ai items.size).filterMap fun (m:Nat)=>items[(((items.size:Int) - 1) + (m:Int) * -1).toNat]?)=items.toList.reverse:=PQ items;have q:=h;rw [<-er] at q;have sz:sizeOk (.seq ((ai items.size).filterMap fun (m:Nat)=>items[(((items.size:Int) - 1) + (m:Int) * -1).toNat]?).toArray):=by
  show ((ai items.size).filterMap fun (m:Nat)=>items[(((items.size:Int) - 1) + (m:Int) * -1).toNat]?).toArray.size<=sizeLine
  rw [ZG,er,bj,ZT];exact hsz
 first
  | exact wpAny_bind (m:=Builtin.Tuple.tupleExact _) (wpAny_newObj_type (wpAny_pure ⟨_,rfl,wpAny_pure q⟩) sz)
  | exact wpAny_bind (m:=Builtin.Tuple.tupleExact _) (wpAny_newObj_type (wpAny_bind (wpAny_pure (wpAny_pure ⟨_,rfl,wpAny_pure q⟩))) sz)
  | exact wpAny_bind (wpAny_bind (m:=Builtin.Tuple.tupleExact _) (wpAny_newObj_type (wpAny_pure (wpAny_pure ⟨_,rfl,wpAny_pure q⟩)) sz))
  | exact wpAny_bind (wpAny_bind (m:=Builtin.Tuple.tupleExact _) (wpAny_newObj_type (wpAny_pure ⟨_,rfl,wpAny_pure q⟩) sz))
end
end HT
namespace L2
open PySem PySem.Spec PyProof.Rows
theorem Lw:∀ {xs:List V} {Ar:List Value},AD xs Ar->AD xs.reverse Ar.reverse
 | _,_,.nil=>.nil
 | _,_,.cons a b=>by
  rw [eA,eA];exact (Lw b).append (.cons a .nil)
def UG (K:Z1) (te:TE):TE:=fun σ H Q=>te σ H fun x H1=>∃ (a:Addr) (xs:List V),x=.ref a/\A1 K H1 a xs/\∀ p:Addr,H1 p=none->Q (.ref p) (upd H1 p (.tup xs.reverse))
theorem Ra {X:Cx} {e st:Expr} {te:TE} {pos p2:Pos} (he:PE X e te) (hst:PE X st (tUn (rU fun i=>.int (-i)) (tC (.int 1)))):PE X (.Subscript e (.Slice none none (some st) p2) pos) (UG X.K te):=by
 intro pins s σ H Q I h;refine Subscript_ (Bx (he (pins:=pins) s σ H _ I h) fun v s1 ⟨x,H1,I1,r1,q1⟩=>?_);obtain ⟨a,xs,rfl,ht,q⟩:=q1;cases r1
 refine wpAny_Slice ?_;rw [evalPart_none];refine wpAny_pure ?_;refine wpAny_pure ?_;rw [evalPart_some];refine Bx (hst (pins:=pins) s1 σ H1 (fun y H2=>y=.int (-1)/\H2=H1) I1 ⟨_,rfl,rfl,rfl⟩) fun u s2 ⟨y,H2,I2,r2,e2,e3⟩=>?_
 subst e2 e3;obtain ⟨tk,rfl⟩:=r2;have I3:Aw X pins σ H2 { s2 with heap:=s2.heap.push { cls:=.type "slice",data:=.fields #[.none,.none,.int (-1) tk] } }:=I2.kept (t':=s2.toks) fun b ob q=>Zz _ q
 obtain ⟨Ar,r,p,hz⟩:=I3.tuple ht;have hl:Ar.toArray.size=xs.length:=by rw [ZG]; exact r.length.symm
 refine tail_any (ops:=[.ref a,.ref s2.heap.objs.size]) p.typeIs PyProof.Rows.slot_tuple_getitem.lookup ?_ (by with_unfolding_all rfl);refine HT.getItem_tuple_backX (tk:=tk) p (Heap.IsSliceOf.new ..) (by rw [hl]; exact hz) ?_;refine ⟨.ref _,_,I3.laid (t':=s2.toks) (o:=.tup xs.reverse) (fun b ob q=>Zz _ q) (Z4 _) ?_,rfl,q _ (I3.hok.fresh (Z4 _))⟩;exact ⟨by rw [bj]; lia,Ar.reverse,Lw r,IsTup.new _ _,Ll.new rfl rfl⟩
def TL (K:Z1):V->Option Int->Option Int->Hp->VK->Prop:=fun x lo hi H Q=>∃ a xs,x=.ref a/\A1 K H a xs /\
 ((HT.sIx xs.length 0 lo=0/\HT.sIx xs.length xs.length hi=xs.length)->Q (.ref a) H)/\(¬ (HT.sIx xs.length 0 lo=0/\HT.sIx xs.length xs.length hi=xs.length)->∀ p,H p=none->Q (.ref p) (upd H p (.tup (FY xs lo hi))))
theorem Sj (K:Z1) {X:Cx} (h:X.K=K):SlR X (TL K):=by
 subst h;intro pins s σ H x v vl vu lo hi sl Q I rx hs pl pu h;obtain ⟨a,xs,e0,hx,q1,q2⟩:=h;subst e0;by_cases hw:HT.sIx xs.length 0 lo=0/\HT.sIx xs.length xs.length hi=xs.length
 ·cases rx
  obtain ⟨Ar,r,ht,hz⟩:=I.tuple hx;have hlen:Ar.toArray.size=xs.length:=by rw [ZG]; exact r.length.symm
  exists "tuple",_,PyProof.Rows.slot_tuple_getitem.lookup,ht.typeIs;exact HT.getItem_tuple_whole ht hs pl pu (by rw [hlen]; exact hw) ⟨.ref a,H,I,rfl,q1 hw⟩ (by rw [hlen]; exact hz)
 ·exact Q8 (pins:=pins) s σ H (.ref a) v vl vu lo hi sl Q I rx hs pl pu ⟨a,xs,rfl,hx,hw,q2 hw⟩
theorem Tc (us:List V) (h:1<=us.length):FY us (some (-1)) none=us.drop (us.length - 1):=by
 unfold FY;have e1:HT.sIx us.length us.length none=us.length:=rfl;have e2:HT.sIx us.length 0 (some (-1))=us.length - 1:=by
  unfold HT.sIx;simp only [];split <;> lia
 rw [e1,e2];exact aX (by rw [aG]; lia)
def VB (sites:List Str) (x:V) (ds:List PyData):Prop:=∃ ss:List Str,ds=ss.map PyData.str/\ss ≠ []/\Cu ss/\(∀ s ∈ ss,AY s=true/\s ∈ sites)/\HF x ss.length=true
def NG (K:Z1):Sp:=fun vs H Q _=>∃ (c:Addr) (sites:List Str) (x:V) (d:PyData) (v:V),vs=[.ref c,v]/\Oy H c sites x d /\
 ((∃ ds,Ow H v ds/\∀ (b:Bool) (H':Hp),Ao H H'->(b=true ↔ VB sites x ds)->Q (.bl b) H')\/(K0 K H v/\∀ H',Ao H H'->Q (.bl false) H'))
def Ie (K:Z1) (H:Hp) (p:V) (ss:List Str) (c:Bool):Prop:=(F7 K H p/\c=false)\/∃ s:Str,p=.str s/\s.length<=1000/\c=(AY s && decide (s ∈ ss))
def RQ (K:Z1) (H:Hp) (v:V) (ys ss:List Str) (b:Bool):Prop:=(b=false/\Ez K H v ys false)\/∃ (t:Addr) (us:List V),v=.ref t/\H t=some (.tup us)/\us.length=ys.length/\∃ bs:List Bool,bs.length=us.length/\b=bs.all id /\
 ∀ (i:Nat) u y c,us[i]? = some u->ys[i]? = some y->bs[i]? = some c->∃ (tt:Addr) (p:V),u=.ref tt/\H tt=some (.tup [.str y,p])/\Ie K H p ss c
theorem Ie.same {K:Z1} {H H':Hp} {p:V} {ss:List Str} {c:Bool} (h:Ie K H p ss c) (s:Ao H H'):Ie K H' p ss c:=by
 rcases h with ⟨h,e⟩ | h
 ·exact .inl ⟨h.same s,e⟩
 ·exact .inr h
theorem RQ.same {K:Z1} {H H':Hp} {v:V} {ys ss:List Str} {b:Bool} (h:RQ K H v ys ss b) (s:Ao H H'):RQ K H' v ys ss b:=by
 rcases h with ⟨h,h2⟩ | ⟨t,us,e,ht,h,bs,bl,e2,r⟩
 ·exact .inl ⟨h,h2.same s⟩
 ·refine .inr ⟨t,us,e,s _ _ ht,h,bs,bl,e2,fun i u y c a1 a2 a3=>?_⟩;obtain ⟨tt,p,e3,h3,n3⟩:=r i u y c a1 a2 a3;exact ⟨tt,p,e3,s _ _ h3,n3.same s⟩
def T6 (K:Z1):Sp:=fun vs H Q _=>∃ (c m o:Addr) (n:Nat) (xs:List Str) (ws:List AI) (Aq As:List Bg) (x:V) (d:PyData) (ss:List Str) (v:V) (b:Bool),vs=[.ref c,.ref o,v]/\BZ H c m n xs ws Aq As x d/\H o=some (.tup (ss.map V.str))/\RQ K H v (As.map (·.1)) ss b/\∀ H',Ao H H'->Q (.bl b) H'
theorem Ow.strs {H:Hp} {o:Addr} {ss:List Str} (ho:H o=some (.tup (ss.map V.str))) (l:ss.length<=60) (sh:∀ s ∈ ss,s.length<=1000):Ow H (.ref o) (ss.map PyData.str):=by
 refine ⟨o,_,rfl,ho,CJ H ss,fun s hs=>?_,by rw [Z0]; exact l⟩;obtain ⟨y,hy,e⟩:=ZD.mp hs;cases e
 exact sh _ hy
def K5:Sp:=fun vs H Q _=>∃ (A o:Addr) (y:Str) (xs:List Str) (ws:List AI) (ss:List Str),vs=[.ref A,.str y,.ref o]/\BY H A xs ws/\y ∈ xs/\H o=some (.tup (ss.map V.str))/\ss ≠ []/\ss.length<=30/\(∀ s ∈ ss,s ∈ xs)/\∀ (H':Hp) (h:Str),Ao H H'->h ∈ ss->Q (.str h) H'
end L2
namespace L2
open PySem PySem.Spec PySem.W PyProof.Rows
section
variable {prog:Program} {w:World} {A:Around} {E:Value->Shared->Prop} {s:Shared} {κ:SortKind} {lt:Keyed->Keyed->Bool} {a0:Array Keyed}
theorem FT {n:Nat} (h1:1<=n) (JH:n < 64):(sortPriv% PySem.Builtin.minRun) n n 0=n:=by
 obtain ⟨f,hf⟩:∃ f,n=f + 1:=⟨n - 1,by lia⟩
 have:minRun' (f + 1) n 0=n:=by rw [minRun'_succ,if_pos JH]; rfl
 rw [<-hf] at this;exact this
theorem Ii {st:SortSt} {Q:Unit->SortSt->Prop} (sw:PR lt) (an:VH prog w A s κ lt a0) (hk:kindOf st=κ) (ha:arrOf st=a0) (hf:failedOf st=none) (hpe:pendingOf st=#[]) (h2:1<=a0.size) (JH:a0.size < 64)
  (h:∀ AZ,(arrOf AZ).Perm a0->failedOf AZ=none->(arrOf AZ).toList.Pairwise (Nl lt)->Q () AZ):wpS (model prog w) A E s sortRuns' Q st:=by
 have hp:(arrOf st).Perm a0:=by rw [ha]
 refine wpS_bind (wpS_get ?_);dsimp only;have ez:((sortPriv% PySem.Builtin.SortState.a) st).size=a0.size:=by rw [show (sortPriv% PySem.Builtin.SortState.a) st=a0 from ha]
 rw [ez];refine wpS_bind (wpS_mono (wpS_forRange (I:=fun x c AZ=>(x=0/\c=(none,0)/\AZ=st)\/(1<=x/\c=(none,a0.size)/\(arrOf AZ).Perm a0/\failedOf AZ=none/\(pendingOf AZ).size<=1/\SS lt (arrOf AZ) 0 a0.size))
  (Q:=fun c AZ=>c=(none,a0.size)/\(arrOf AZ).Perm a0/\failedOf AZ=none/\(pendingOf AZ).size<=1/\SS lt (arrOf AZ) 0 a0.size) ?step ?fin (.inl ⟨rfl,rfl,rfl⟩)) ?post)
 case fin=>
  rintro c AZ (⟨hx,_,_⟩ | ⟨_,r⟩)
  ·lia
  ·exact r
 case step=>
  rintro x c AZ _ hx (⟨rfl,rfl,rfl⟩ | ⟨_,rfl,r⟩)
  ·dsimp only;rw [if_neg (by lia)];refine wpS_bind (J3 sw an hk hp (by lia) (by lia) fun m ys k1 m1 m2 s1=>?_);dsimp only;have hpd:∀ zs,(pendingOf (setArr AZ zs)).back? = none:=fun zs=>by
    show (pendingOf AZ).back? = none
    rw [hpe];rfl
   by_cases hm:m < (sortPriv% PySem.Builtin.minRun) a0.size a0.size 0
   ·rw [if_pos hm];refine wpS_bind (wpS_lift (wpAny_rule ⟨rfl,?_⟩));refine wpS_bind (Hy (st:=setArr AZ ys) sw an hk (k1.1.trans hp) (by lia) m1 (by lia) s1 fun zs k2 s2=>?_);simp only [eX,ZY,if_false];refine wpS_bind (wpS_get ?_);rw [hpd];dsimp only;have emin:min (a0.size - 0) ((sortPriv% PySem.Builtin.minRun) a0.size a0.size 0)=a0.size:=by rw [FT h2 JH]; lia
    rw [emin];exact wpS_bind (wpS_modify (wpS_pure (.inr ⟨by lia,by rw [aQ],k2.1.trans (k1.1.trans hp),hf,by show ((pendingOf AZ).push _).size<=1; rw [hpe]; exact Z4 1 ,by rw [emin,aQ] at s2; exact s2⟩)))
   ·rw [if_neg hm];rw [FT h2 JH] at hm;have em:m=a0.size:=by lia
    refine wpS_bind (wpS_get ?_);rw [hpd];dsimp only;rw [em];exact wpS_bind (wpS_modify (wpS_pure (.inr ⟨by lia,by rw [aQ],k1.1.trans hp,hf,by show ((pendingOf AZ).push _).size<=1; rw [hpe]; exact Z4 1 ,by rw [em,aQ] at s1; exact s1⟩)))
  ·dsimp only;rw [if_pos (Z4 _)];exact wpS_pure ⟨rfl,r⟩
 case post=>
  rintro c AZ ⟨rfl,r1,r2,r3 ,r4⟩;dsimp only;refine wpS_bind (wpS_mono (wpS_forRange (I:=fun _ c HA=>HA=AZ/\c=(none,())) (Q:=fun c HA=>HA=AZ/\c=(none,())) ?_ (fun _ _ hh=>hh) ⟨rfl,rfl⟩) ?_)
  ·rintro x c HA _ _ ⟨rfl,rfl⟩;refine wpS_bind (wpS_get ?_);rw [if_pos r3];exact wpS_pure ⟨rfl,rfl⟩
  ·rintro c HA ⟨rfl,rfl⟩;exact wpS_pure (h _ r1 r2 (Ut fun i j hij hj=>r4 i j (ZX _) (cF hij) (by have:=r1.size_eq; lia)))
theorem MU {a:Addr} {vs:List Value} {n:Nat} {P:Fin->Shared->Prop} (sw:PR lt) (lies:s.heap.get? a=some (seqObj "list" vs.toArray n)) (few:vs.length<=sizeLine) (JH:vs.length < 64)
  (cm:2<=vs.length->∀ h',(∀ b o,b ≠ a->s.heap.get? b=some o->h'.get? b=some o) ->
   ∃ κ,(∀ (Q:SortKind->Shared->Prop) (E:Value->Shared->Prop),Q κ { s with heap:=h' }->wpAny (model prog w) A (keyKind' vs.toArray) Q E { s with heap:=h' })/\VH prog w A { s with heap:=h' } κ lt (pairsOf vs))
  (k:∀ out:List Value,out.Perm vs->out.Pairwise (fun u v=>lt (v,v) (u,u)=false)->P (.done (.ret .none)) { s with heap:=sortedHeap s.heap a vs out.toArray }) :
  wpAny (model prog w) A (Builtin.«list.sort» ⟨[.ref a],[]⟩) P E s:=by
 have alt:=Z5 lies;rw [list_sort_plain];refine wpAny_bind (listItems_at lies rfl (wpAny_bind (listUpdate_at lies rfl ?_ (by simpa using few) (ZX _))));obtain ⟨c,TZ⟩:∃ c,(s.heap.update a (Obj.mapSeq fun _=>#[])).get? a=some (seqObj "list" #[] c):=⟨_,get?_update_seq lies (fun _=>#[])⟩
 refine wpAny_bind (seqEpoch_at TZ rfl (wpAny_bind (wpAny_newTuple (wpAny_bind (wpAny_newList (wpAny_holding ?_) (ZX _))) (by simpa using few))));obtain ⟨h3,Yj⟩:∃ h3,h3=((s.heap.update a (Obj.mapSeq fun _=>(#[]:Array Value))).push (seqObj "tuple" vs.toArray 0)).push (seqObj "list" #[] 0):=⟨_,rfl⟩
 have Oa:h3.get? a=some (seqObj "list" #[] c):=by
  rw [Yj];exact Zz _ (Zz _ TZ)
 have Ww:∀ b o,b ≠ a->s.heap.get? b=some o->h3.get? b=some o:=fun b o hb e=>by
  rw [Yj];exact Zz _ (Zz _ ((dM _ _ _ _ hb).trans e))
 show wpAny (model prog w) A _ P E { s with heap:=((s.heap.update a (Obj.mapSeq fun _=>(#[]:Array Value))).push (seqObj "tuple" vs.toArray 0)).push (seqObj "list" #[] 0) }
 rw [<-Yj];have last:∀ AZ:SortSt,(arrOf AZ).Perm (pairsOf vs)->(arrOf AZ).toList.Pairwise (Nl lt)->P (.done (.ret .none)) { s with heap:=h3.update a (Obj.mapSeq fun _=>(arrOf AZ).map (·.2)) }:=fun AZ hp hs=>by
  have e:(arrOf AZ).map (·.2)=((arrOf AZ).toList.map (·.2)).toArray:=by apply cI.mp; simp
  have q:=k _ (Rc hp) (Rb hp hs);rw [<-e] at q;rw [Yj];exact q
 have zl:∀ AZ:SortSt,(arrOf AZ).Perm (pairsOf vs)->((arrOf AZ).map (·.2)).size<=sizeLine + 1:=fun AZ hp=>by
  rw [Array.size_map,hp.size_eq,pairsOf_size];lia
 have zv:vs.toArray.size=vs.length:=rfl;dsimp only;rcases di vs.toArray.size 2 with lo | hi
 ·rw [if_pos lo,if_pos lo];refine wpAny_bind (wpAny_pure ?_);rw [StateT.run_pure];refine wpAny_bind (wpAny_pure (wpAny_bind (seqEpoch_at Oa rfl ?_)));have p0:(arrOf (SortSt.mk' general' (vs.toArray.zip vs.toArray) #[] 7 none)).Perm (pairsOf vs):=Array.Perm.refl _;refine wpAny_bind (listUpdate_at Oa rfl ?_ (ZX _) (zl _ p0));rw [bne_self_eq_false];refine wpAny_pure (last _ p0 (Ut fun i j hij hj=>?_));have:=p0.size_eq;rw [pairsOf_size] at this;have Nc:j < (arrOf (SortSt.mk' general' (vs.toArray.zip vs.toArray) #[] 7 none)).size:=hj;lia
 ·rw [if_neg (by lia),if_neg (by lia)];obtain ⟨κ,k1,k2⟩:=cm (by lia) h3 Ww;refine wpAny_bind (k1 _ _ ?_);refine wpAny_bind (wpAny_mono (Ii (a0:=pairsOf vs) (st:=SortSt.mk' κ (vs.toArray.zip vs.toArray) #[] 7 none)
   (Q:=fun _ AZ=>(arrOf AZ).Perm (pairsOf vs)/\failedOf AZ=none/\(arrOf AZ).toList.Pairwise (Nl lt)) sw k2 rfl rfl rfl rfl (by rw [pairsOf_size]; lia) (by rw [pairsOf_size]; lia) fun AZ a1 a2 a3=>⟨a1,a2,a3⟩) ?_ fun _ _ e=>e)
  rintro ⟨u,AZ⟩ s' ⟨rfl,hp,hf,hs⟩;refine wpAny_bind (seqEpoch_at Oa rfl (wpAny_bind (listUpdate_at Oa rfl ?_ (ZX _) (zl _ hp))));dsimp only;rw [hf,bne_self_eq_false];exact wpAny_pure (last AZ hp hs)
theorem Q5 {l:Addr} {vs:List Value} {Q:Value->Shared->Prop} (sw:PR lt) (hl:s.heap.IsList l vs.toArray) (few:vs.length<=sizeLine) (JH:vs.length < 64) (cm:Cmpd prog w s lt vs)
  (k:∀ out:List Value,out.Perm vs->out.Pairwise (fun u v=>lt (v,v) (u,u)=false)->Q (.ref (s.heap.objs.size + 1)) { s with heap:=sortedAll s.heap vs out.toArray }) :
  wpAny (model prog w) A (call (.builtin "sorted") [.ref l]) Q E s:=by
 refine Calls.call_function_entry kind_sorted plain_sorted entry_sorted (args_sorted1 _) ?_;unfold Builtin.«sorted»;refine wpAny_bind (m:=checkCount "sorted" 1 1 _) (wpAny_pure (wpAny_bind (collect_list hl ?_ few)));refine wpAny_bind (wpAny_newList ?_ (by simpa using few));obtain ⟨h1,Yk⟩:∃ h1,h1=(s.heap.push (seqObj "list" #[] 0)).update s.heap.objs.size (Obj.mapSeq (· ++ vs.toArray)):=⟨_,rfl⟩
 have z1:h1.objs.size=s.heap.objs.size + 1:=by rw [Yk,eF,size_push']
 have lies:(h1.push (seqObj "list" vs.toArray 0)).get? (s.heap.objs.size + 1)=some (seqObj "list" vs.toArray 0):=by
  rw [<-z1];exact Z9 _ rfl
 have keep:∀ b o,s.heap.get? b=some o->(h1.push (seqObj "list" vs.toArray 0)).get? b=some o:=fun b o q=>by
  have hb:=Z5 q;refine Zz _ ?_;rw [Yk,dM _ _ _ _ (ZE hb)];exact Zz _ q
 show wpAny _ _ _ _ _ { s with heap:=((s.heap.push (seqObj "list" #[] 0)).update s.heap.objs.size (Obj.mapSeq (· ++ vs.toArray))).push (seqObj "list" vs.toArray 0) }
 rw [<-Yk,z1];refine wpAny_bind (wpAny_holding (wpAny_call_entry slot_list_sort ⟨_,lies,rfl⟩ entry_list_sort (MU (s:={ s with heap:=h1.push (seqObj "list" vs.toArray 0) }) sw lies few JH ?_ fun out o1 o2=>⟨_,rfl,wpAny_pure ⟨_,rfl,?_⟩⟩) (args_list_sort _)))
 ·intro h2 h' kp;exact cm h2 _ h' fun b o e=>kp b o (ZE (aa (Z5 e))) (keep b o e)
 ·have q:=k out o1 o2;unfold sortedAll at q;rw [<-Yk] at q;exact q
end
theorem Ct {X:Cx}:Bw X (.builtin "sorted") (fun xs H Q=>∃ (a:Addr) (vs:List V) (kd:Nat->Bool),xs=[.ref a]/\AS X.K H a vs/\(∀ v ∈ vs,Lk H kd v)/\vs.length < 64 /\
  ∀ (l:Addr) (Ej:List V),H l=none->Ej.Perm vs->Ej.Pairwise (fun u v=>B9 (JE H v) (JE H u)=false)->Q (.ref l) (upd H l (.lst Ej))):=by
 intro pins s σ H xs us Q I r h;obtain ⟨a,vs,kd,rfl,ha,hk,JH,q⟩:=h;obtain ⟨u,rfl,ru⟩:=Cv r;cases ru
 obtain ⟨Ar,rv,pl,hz⟩:=I.list ha;have all:∀ {vs:List V} {Ar:List Value},AD vs Ar->(∀ v ∈ vs,Lk H kd v)->(∀ u ∈ Ar,Nn s.heap kd u)/\Ar.map (Dv s.heap)=vs.map (JE H):=by
  intro vs;induction vs with
  | nil=>intro Ar rv _; cases rv; exact ⟨(fun u hu=>nomatch hu),rfl⟩
  | cons v vs ih=>
   intro Ar rv hk;cases rv with
   | cons r1 r2=>
    obtain ⟨a1,a2⟩:=U6 I r1 (hk v ZU);obtain ⟨b1,b2⟩:=ih r2 fun v hv=>hk v (ZO _ hv)
    refine ⟨fun u hu=>?_,by rw [ZL,ZL,a2,b2]⟩;rcases Z3.mp hu with rfl | hu
    ·exact a1
    ·exact b1 u hu
 refine Q5 (SD (Dv s.heap)) pl.isList (by rw [<-rv.length]; exact hz) (by rw [<-rv.length]; exact JH) (O6 (all rv hk).1) fun out o1 o2=>?_
 obtain ⟨Ej,rv',pv⟩:=Oz o1 rv;have keys:=(all rv' fun v hv=>hk v (pv.mem_iff.mp hv)).2;obtain ⟨e,he⟩:=sortedAll_at s.heap Ar out.toArray;refine ⟨.ref (s.heap.objs.size + 1),_,I.laid (o:=.lst Ej) (t':=s.toks) (fun b o z=>sortedAll_old z) (ZZ _) ⟨by rw [pv.length_eq]; exact hz,out,e,rv',he⟩,rfl,q _ Ej (I.hok.fresh (ZZ _)) pv ?_⟩;have p1:(out.map (Dv s.heap)).Pairwise (fun a b=>B9 b a=false):=aO.mpr o2;rw [keys] at p1;exact aO.mp p1
theorem D1 (K:Z1) {X:Cx} (h:X.K=K):Bw X (.builtin "sorted") (fun xs H Q=>∃ (a:Addr) (vs:List V) (rs:List Bg),xs=[.ref a]/\AS K H a vs/\AE H vs (rs.map C9)/\vs.length < 64 /\
  ∀ (l:Addr) (Ej:List V) (Lp:List Bg),H l=none->AE H Ej (Lp.map C9)->Lp.Perm rs->Uy Lp->Q (.ref l) (upd H l (.lst Ej))):=by
 subst h;intro pins s σ H xs us Q I r h;obtain ⟨a,vs,rs,rfl,ha,hd,JH,q⟩:=h;refine Ct (pins:=pins) s σ H _ us Q I r ⟨a,vs,_,rfl,ha,(Gr hd).1,JH,fun l Ej hl pv rise=>?_⟩;obtain ⟨Lp,d1,p1⟩:=OL pv hd;refine q l Ej Lp hl d1 p1 ?_;have e:=(Gr d1).2;have p2:(Ej.map (JE H)).Pairwise (fun a b=>B9 b a=false):=aO.mpr rise;rw [e] at p2;exact aO.mp p2
theorem F6 (K:Z1) {X:Cx} (h:X.K=K):Bw X (.builtin "sorted") (fun xs H Q=>∃ (a:Addr) (vs:List V) (rs:List AI),xs=[.ref a]/\AS K H a vs/\AE H vs (rs.map EB)/\vs.length < 64 /\
  ∀ (l:Addr) (Ej:List V) (Lp:List AI),H l=none->AE H Ej (Lp.map EB)->Lp.Perm rs->Q (.ref l) (upd H l (.lst Ej))):=by
 subst h;intro pins s σ H xs us Q I r h;obtain ⟨a,vs,rs,rfl,ha,hd,JH,q⟩:=h;refine Ct (pins:=pins) s σ H _ us Q I r ⟨a,vs,_,rfl,ha,(JQ hd).1,JH,fun l Ej hl pv rise=>?_⟩;obtain ⟨Lp,d1,p1⟩:=PF pv hd;exact q l Ej Lp hl d1 p1
theorem Fj (K:Z1) {X:Cx} (h:X.K=K):Bw X (.builtin "sorted") (fun xs H Q=>∃ (a:Addr) (vs:List V) (kd:Nat->Bool),xs=[.ref a]/\AS K H a vs/\(∀ v ∈ vs,Lk H kd v)/\vs.length < 64 /\
  ∀ (l:Addr) (Ej:List V),H l=none->Ej.Perm vs->Q (.ref l) (upd H l (.lst Ej))):=by
 subst h;intro pins s σ H xs us Q I r h;obtain ⟨a,vs,kd,rfl,ha,hk,JH,q⟩:=h;exact Ct (pins:=pins) s σ H _ us Q I r ⟨a,vs,kd,rfl,ha,hk,JH,fun l Ej hl pv _=>q l Ej hl pv⟩
end L2
namespace L2
open PySem PySem.Spec PyProof.Rows
theorem Ke (K:Z1) {X:Cx} (h:X.K=K):E8 X (compareOp .NotIn) (fun x y H Q=>∃ p xs,y=.ref p/\(AS K H p xs\/A1 K H p xs)/\EN x=true/\xs.all EN=true/\Q (.bl (!inV x xs)) H):=by subst h; exact KO
theorem Kf {X:Cx} (hu:X.A.units < cLine):E8 X (compareOp .NotEq) (fun x y H Q=>∃ a b xs,x=.ref a/\y=.ref b/\AS X.K H a xs/\AS X.K H b []/\Q (.bl (!xs.isEmpty)) H):=by
 intro pins s σ H x y v u Q I rx ry h;obtain ⟨a,b,xs,rfl,rfl,ha,hb,q⟩:=h;cases rx
 cases ry
 obtain ⟨Ar,r,p,hz⟩:=I.list ha;obtain ⟨HG,r2,p2,Wz⟩:=I.list hb;cases r2
 cases xs with
 | nil=>
  cases r
  exact PySem.SeqAt.RcNeAt.lists (e:=fun _=>true) p.isList p2.isList rfl hu (fun j h1 h2=>absurd h1 (aK _)) _ _ _ _ ⟨.bl false,H,I,rfl,q⟩
 | cons x xs=>
  cases r with
  | cons r1 r2=>exact PySem.SeqAt.RcNeAt.lists_lengths p.isList p2.isList (by simp) hu _ _ _ _ ⟨.bl true,H,I,rfl,q⟩
theorem ML {X:Cx} (hu:X.A.units < cLine):E8 X (compareOp .NotEq) (fun x y H Q=>∃ a b xs,x=.ref a/\y=.ref b/\A1 X.K H a xs/\A1 X.K H b []/\Q (.bl (!xs.isEmpty)) H):=by
 intro pins s σ H x y v u Q I rx ry h;obtain ⟨a,b,xs,rfl,rfl,ha,hb,q⟩:=h;cases rx
 cases ry
 obtain ⟨Ar,r,p,hz⟩:=I.tuple ha;obtain ⟨HG,r2,p2,Wz⟩:=I.tuple hb;cases r2
 refine PySem.SeqAt.RcNeAt.tuples (e:=fun _=>true) p p2 hu (fun j h1 h2=>absurd h2 (aK _)) _ _ _ _ ⟨.bl (!xs.isEmpty),H,I,?_,q⟩;cases xs with
 | nil=>cases r; rfl
 | cons x xs=>cases r with | cons r1 r2=>simp; rfl
theorem OM {rs:List Bg} (h:Uy rs) (nd:(rs.map (·.1)).Nodup):Cu (rs.map (·.1)):=by
 refine Kd (aO.mpr (List.Pairwise.imp (fun {u v} z lt=>?_) h)) nd;have ne:¬ v.1=u.1:=fun e=>by rw [e] at lt; exact EJ _ lt
 unfold rk B9 at z;rw [if_neg (by intro e; injection e with e; exact ne e)] at z;have:decide (v.1.cps.toList < u.1.cps.toList)=false:=z;rw [decide_eq_true lt] at this;cases this
theorem Fx:∀ {sites ss:List Str},Cu sites->Cu ss->(∀ s ∈ ss,s ∈ sites)->ss.Sublist sites
 | [],[],_,_,_=>.slnil
 | [],s :: ss,_,_,h=>absurd (h s ZU) (by simp)
 | a :: l,[],_,_,_=>cN _
 | a :: l,b :: t,h1,h2,h=>by
  have a1:=aM.mp h1;have b1:=aM.mp h2;by_cases e:b=a
  ·subst e;refine .cons₂ _ (Fx a1.2 b1.2 fun s hs=>?_);rcases Z3.mp (h s (ZO _ hs)) with rfl | z
   ·exact absurd (b1.1 _ hs) (EJ _)
   ·exact z
  ·refine .cons _ (Fx a1.2 h2 fun s hs=>?_);rcases Z3.mp (h s hs) with rfl | z
   ·rcases Z3.mp hs with z | z
    ·exact absurd z.symm e
    ·rcases Z3.mp (h b ZU) with z2 | z2
     ·exact absurd z2 e
     ·exact absurd (b1.1 _ z) (bA (a1.1 _ z2))
   ·exact z
theorem Rj {sites ss:List Str} {x:V} (hs:Cu sites) (nm:∀ s ∈ sites,AY s=true):VB sites x (ss.map PyData.str) ↔ ss ≠ []/\ss.Sublist sites/\HF x ss.length=true:=by
 constructor
 ·rintro ⟨s2,e,ne,ri,m,lb⟩;rw [EX e];exact ⟨ne,Fx hs ri fun s h=>(m s h).2,lb⟩
 ·rintro ⟨ne,sb,lb⟩;exact ⟨ss,rfl,ne,List.Pairwise.sublist sb hs,fun s h=>⟨nm s (sb.subset h),sb.subset h⟩,lb⟩
def NL:Sp:=fun vs H Q _=>∃ (p:Addr) (kd:Int),vs=[.ref p,.int kd]/\Ax H p /\
 ∀ (H':Hp) (c m:Addr) (n:Nat) (xs:List Str) (ws:List AI) (Aq As:List Bg) (x:V) (d:PyData),Ax H' p->Az p H H'->BZ H' c m n xs ws Aq As x d->(∀ r ∈ As,r.2<=4)->Cu (Aq.map (·.1))->Aq.length<=6->Q (.ref c) H'
structure Qc (H:Hp) (c m pp o t T:Addr) (n:Nat) (xs:List Str) (ws:List AI) (Aq As:List Bg) (x:V) (d:PyData) (ss:List Str) (zs:List (Str × Str)) (qs:List Bg) (lv:Int):Prop where
 cp:CP H c m T n xs ws Aq As qs x d
 pap:H pp=some (.tup [.ref o,.ref t,.ref T,.int lv])
 op:H o=some (.tup (ss.map V.str))
 sl:ss.length<=60
 sh:∀ s ∈ ss,s.length<=1000
 wk:∃ us,H t=some (.tup us)/\AE H us (zs.map FD)
 zn:zs.map (·.1)=As.map (·.1)
 zo:∀ z ∈ zs,AY z.2=true
 lv0:0<=lv
theorem Qc.same {H H':Hp} {c m pp o t T:Addr} {n:Nat} {xs:List Str} {ws:List AI} {Aq As:List Bg} {x:V} {d:PyData} {ss:List Str} {zs:List (Str × Str)} {qs:List Bg} {lv:Int} (h:Qc H c m pp o t T n xs ws Aq As x d ss zs qs lv) (s:Ao H H'):Qc H' c m pp o t T n xs ws Aq As x d ss zs qs lv:=by
 obtain ⟨us,a,b⟩:=h.wk;exact ⟨h.cp.same s,s _ _ h.pap,s _ _ h.op,h.sl,h.sh,⟨us,s _ _ a,Us b s⟩,h.zn,h.zo,h.lv0⟩
theorem Qc.zl {H:Hp} {c m pp o t T:Addr} {n:Nat} {xs:List Str} {ws:List AI} {Aq As:List Bg} {x:V} {d:PyData} {ss:List Str} {zs:List (Str × Str)} {qs:List Bg} {lv:Int} (h:Qc H c m pp o t T n xs ws Aq As x d ss zs qs lv):zs.length=As.length:=by
 have:=congrArg bg h.zn;rwa [Z0,Z0] at this
def OkP (ws:List AI) (Aq As:List Bg) (x:V) (ss:List Str) (zs:List (Str × Str)) (qs:List Bg) (lv:Int):Prop:=
 VB (Aq.map (·.1)) x (ss.map PyData.str)/\(∀ z ∈ zs,z.2 ∈ ss)/\(x=.non->lv=0)/\BJ ws Aq As qs lv=true
theorem Qc.goes {K:Z1} {H:Hp} {c m pp o t T:Addr} {n:Nat} {xs:List Str} {ws:List AI} {Aq As:List Bg} {x:V} {d:PyData} {ss:List Str} {zs:List (Str × Str)} {qs:List Bg} {lv:Int} (h:Qc H c m pp o t T n xs ws Aq As x d ss zs qs lv):RQ K H (.ref t) (As.map (·.1)) ss (zs.all fun z=>decide (z.2 ∈ ss)):=by
 obtain ⟨us,ht,du⟩:=h.wk;have ul:=Ij du;have zl:=h.zl;refine .inr ⟨t,us,rfl,ht,by rw [Z0]; lia,zs.map fun z=>decide (z.2 ∈ ss),by rw [Z0]; lia,by rw [aW]; rfl,fun i u y c' a1 a2 a3=>?_⟩;obtain ⟨z,tt,ez,rfl,htt⟩:=G7 du a1;obtain ⟨r,er,rz⟩:=Tu h.zn ez;rw [Z6,er] at a2;cases a2
 rw [Z6,ez] at a3;cases a3
 have zn:=h.zo z (Z2 ez);refine ⟨tt,.str z.2,rfl,?_,.inr ⟨z.2,rfl,ZV (IM zn) (by decide),by rw [zn]; rfl⟩⟩;show H tt=some (.tup [.str r.1,.str z.2])
 rw [rz];exact htt
def ND:Sp:=fun vs H Q _=>∃ (c m pp o t T:Addr) (n:Nat) (xs:List Str) (ws:List AI) (Aq As:List Bg) (x:V) (d:PyData) (ss:List Str) (zs:List (Str × Str)) (qs:List Bg) (lv:Int),vs=[.ref c,.ref pp]/\Qc H c m pp o t T n xs ws Aq As x d ss zs qs lv /\
 ∀ (b:Bool) (H':Hp),Ao H H'->(b=true ↔ OkP ws Aq As x ss zs qs lv)->Q (.bl b) H'
def Q2:Sp:=fun vs H Q _=>∃ (c m pp o t T A:Addr) (n:Nat) (xs:List Str) (ws:List AI) (Aq As:List Bg) (x:V) (d:PyData) (ss:List Str) (zs:List (Str × Str)) (qs:List Bg) (lv:Int),vs=[.ref c,.ref A,.ref pp]/\Qc H c m pp o t T n xs ws Aq As x d ss zs qs lv/\Cu (Aq.map (·.1))/\Aq.length<=6/\BY H A xs ws /\
 ∀ (b:Bool) (H':Hp),Ao H H'->(b=true ↔ OkP ws Aq As x ss zs qs lv)->Q (.bl b) H'
def LC:Sp:=fun vs H Q _=>∃ (p c m A:Addr) (n:Nat) (xs:List Str) (ws:List AI) (Aq As:List Bg) (x:V) (d:PyData),vs=[.ref p,.ref c,.ref A]/\Ax H p/\BZ H c m n xs ws Aq As x d/\(∀ r ∈ As,r.2<=4)/\BY H A xs ws /\
 ∀ (H':Hp) (pp o t T:Addr) (ss:List Str) (zs:List (Str × Str)) (qs:List Bg) (lv:Int),Ax H' p->Az p H H'->Qc H' c m pp o t T n xs ws Aq As x d ss zs qs lv->Q (.ref pp) H'
def Q4:Sp:=fun vs H Q _=>∃ (c:Addr) (sites:List Str) (x:V) (d:PyData),vs=[.ref c]/\Oy H c sites x d/\sites.length<=6 /\
 ∀ (H':Hp) (D:Addr) (us:List V) (os:List (List Str)),Ao H H'->H D=none->H' D=some (.lst us)->BV H' us os->Opens sites x os->os.length<=1024->Q (.ref D) H'
def NH:Sp:=fun vs H Q _=>∃ i:Int,vs=[.int i]/\0<=i/\Q (.bl true) H
def NA:Sp:=fun vs H Q _=>∃ (c m t:Addr) (n:Nat) (xs:List Str) (ws:List AI) (Aq As:List Bg) (x:V) (d:PyData) (us:List V),vs=[.ref c,.ref t]/\BZ H c m n xs ws Aq As x d/\H t=some (.tup us)/\us.length=As.length /\
 (∀ (i:Nat) u r,us[i]? = some u->As[i]? = some r->∃ tt p,u=.ref tt/\H tt=some (.tup [.str r.1,p]))/\∀ H',Ao H H'->Q (.bl true) H'
def RP (st ss:List Str):Prop:=ss.length<=30/\(∀ s ∈ ss,s.length<=1000)/\(ss ≠ []->Str.ofString "zzzzzz" ∉ ss->∀ s ∈ ss,s ∈ st)
theorem SG {K:Z1} {H:Hp} {o:Addr} {ss:List Str} {Q:VK} (ho:H o=some (.tup (ss.map V.str))) (ne:1<=ss.length) (l:ss.length<=10) (q:∀ (T:Addr) (H':Hp) (sx:List Str),Ao H H'->H' T=some (.tup (sx.map V.str))->sx.length<=20->(∀ s ∈ sx,s ∈ ss)->Q (.ref T) H'):TL K (.ref o) (some (-1)) none H fun y H1=>MF K (.ref o) y H1 Q:=by
 have big:1000<=sizeLine:=by decide
 have un:1<=(ss.map V.str).length:=by rw [Z0]; exact ne
 have l':(ss.map V.str).length<=10:=by rw [Z0]; exact l
 refine ⟨o,_,rfl,A1.of ho,fun _=>HL ho ho (by lia) fun T H' s' hT=>q T H' (ss ++ ss) s' (by rw [hT,ZC]) (by rw [Z7]; lia) (fun s hs=>(ZM.mp hs).elim id id),fun _ p hp=>?_⟩;rw [Tc _ un];refine HL (Ad hp _ _ ho) Ab (by rw [aG]; lia) fun T H' s' hT=>q T H' (ss ++ ss.drop (ss.length - 1)) ((Ad hp).trans s') ?_ (by rw [Z7,aG]; lia) (fun s hs=>(ZM.mp hs).elim id cj)
 rw [hT,ZC,fc,Z0]
def Ov (H5:Hp) (p c A D o W:Addr) (As:List Bg) (st:List Str) (i:Nat) (σ:St) (H:Hp):Prop:=
 ∃ (v6 v7 v8 v9 v10 v11:Option V) (wus:List V) (zs:List (Str × Str)),σ=[some (.ref p),some (.ref c),some (.ref A),some (.ref D),some (.ref o),some (.ref W),v6,v7,v8,v9,v10,v11]/\Ax H p/\Az p H5 H/\H W=some (.lst wus)/\AE H wus (zs.map FD)/\zs.length=i/\zs.map (·.1)=(As.take i).map (·.1)/\∀ z ∈ zs,z.2 ∈ st
theorem Ov.step {H5 Hx:Hp} {p c A D o W T3:Addr} {As:List Bg} {st:List Str} {i:Nat} {wus:List V} {zs:List (Str × Str)} {r:Bg} {hs:Str} {v7 v9 v10 v11:Option V} (hW5:H5 W=none) (nW:W ≠ p) (hP:Ax Hx p) (k:Az p H5 Hx) (hW:Hx W=some (.lst wus)) (dw:AE Hx wus (zs.map FD)) (zl:zs.length=i) (zn:zs.map (·.1)=(As.take i).map (·.1)) (zss:∀ z ∈ zs,z.2 ∈ st) (er:As[i]? = some r) (hm:hs ∈ st) (hT:Hx T3=none) :
  Ov H5 p c A D o W As st (i + 1) [some (.ref p),some (.ref c),some (.ref A),some (.ref D),some (.ref o),some (.ref W),some (.str r.1),v7,some (.str hs),v9,v10,v11] (upd (upd Hx T3 (.tup [.str r.1,.str hs])) W (.lst (wus ++ [.ref T3]))):=by
 have sT:=Ad (o:=.tup [.str r.1,.str hs]) hT;have Km:(upd Hx T3 (.tup [.str r.1,.str hs])) T3=some (.tup [.str r.1,.str hs]):=Ab;generalize upd Hx T3 (.tup [.str r.1,.str hs])=J0 at sT Km;have Zf:=sT _ _ hW;have tp:∀ b ys,J0 b=some (.tup ys)->(upd J0 W (.lst (wus ++ [.ref T3]))) b=some (.tup ys):=fun b ys z=>by
  rw [Ae (CB z Zf (fun q=>by cases q))];exact z
 refine ⟨_,_,_,_,_,_,wus ++ [.ref T3],zs ++ [(r.1,hs)],rfl,(hP.same sT).other nW,fun b o' hb z=>by rw [Ae (Ah z hW5)]; exact sT _ _ (k _ _ hb z),Ab,?_,by rw [Z7,zl]; rfl,?_,fun z hz=>?_⟩
 ·rw [ZC];exact CO (Di (fun b ys z=>tp b ys (sT _ _ z)) dw) (.cons (Lv (z:=(r.1,hs)) (tp _ _ Km)) .nil)
 ·rw [ZC,zn,ZH,er,ZC];rfl
 ·rcases ZM.mp hz with hz | hz
  ·exact zss z hz
  ·rw [ZN.mp hz];exact hm
def Ge (bb:Bool) (h:Heap) (l:Addr) (ys:Array Value):Prop:=match bb with | true=>h.IsTuple l ys | false=>h.IsList l ys
def Jy (bb:Bool) (h:Heap) (i l:Addr) (k:Nat):Prop:=match bb with | true=>h.IsTupleIter i l k | false=>h.IsListIter i l k
def itN:Bool->String | true=>"tuple_iterator" | false=>"list_iterator"
def Ti (K:Z1) (bb:Bool) (H:Hp) (a:Addr) (xs:List V):Prop:=match bb with | true=>A1 K H a xs | false=>AS K H a xs
section
variable {bb:Bool} {h h':Heap} {a b i l:Addr} {k:Nat} {items:Array Value}
theorem Ge.extBut (x:Ge bb h a items) (hs:Heap.ExtBut b h h') (hab:a ≠ b):Ge bb h' a items:=by
 cases bb
 ·exact Heap.IsList.extBut x hs hab
 ·exact Heap.IsTuple.extBut x hs hab
theorem Jy.extBut (x:Jy bb h i l k) (hs:Heap.ExtBut b h h') (hab:i ≠ b):Jy bb h' i l k:=by
 cases bb
 ·exact Heap.IsListIter.extBut x hs hab
 ·exact Heap.IsTupleIter.extBut x hs hab
theorem Jy.at (x:Jy bb h i l k) (e:∀ o,h.get? i=some o->h'.get? i=some o):Jy bb h' i l k:=by
 cases bb
 ·exact Heap.IsListIter.at x e
 ·exact D5 x e
theorem Jy.ex (x:Jy bb h i l k):∃ o,h.get? i=some o/\o.data=.fields #[.ref l,rawInt k]:=by
 cases bb
 ·obtain ⟨o,e,_,d⟩:=x; exact ⟨o,e,d⟩
 ·obtain ⟨o,e,_,d⟩:=x; exact ⟨o,e,d⟩
theorem Jy.lt (x:Jy bb h i l k):i < h.objs.size:=let ⟨_,e,_⟩:=x.ex; Z5 e
theorem Ge.lt (x:Ge bb h a items):a < h.objs.size:=by
 cases bb
 ·obtain ⟨_,e,_⟩:=x; exact Z5 e
 ·obtain ⟨_,e,_⟩:=x; exact Z5 e
end
theorem Aw.seqB {X:Cx} {pins:List (Addr × Obj)} {σ:St} {H:Hp} {s:Shared} {bb:Bool} {a:Addr} {xs:List V} (I:Aw X pins σ H s) (h:Ti X.K bb H a xs):∃ Ar:List Value,AD xs Ar/\Ge bb s.heap a Ar.toArray/\xs.length<=sizeLine:=by
 cases bb
 ·obtain ⟨Ar,r,p,z⟩:=I.list h; exact ⟨Ar,r,p.isList,z⟩
 ·obtain ⟨Ar,r,p,z⟩:=I.tuple h; exact ⟨Ar,r,p,z⟩
theorem Aw.seqB_inj {X:Cx} {pins:List (Addr × Obj)} {σ:St} {H:Hp} {s:Shared} {bb:Bool} {a:Addr} {xs ys:List V} (I:Aw X pins σ H s) (h:Ti X.K bb H a xs) (h':Ti X.K bb H a ys):xs=ys:=by
 cases bb
 ·exact I.list_inj h h'
 ·exact I.tuple_inj h h'
section
variable {prog:Program} {w:World} {A:Around} {E:Value->Shared->Prop} {s:Shared}
theorem KW {bb:Bool} {it l:Addr} {i:Nat} {items} {x:Value} {Q:Value->Shared->Prop} (hit:Jy bb s.heap it l i) (hl:Ge bb s.heap l items) (hx:items[i]? = some x)
  (hQ:∀ h',Jy bb h' it l (i + 1)->Heap.SameBut it s.heap h'->Q x { s with heap:=h' }):wpAny (model prog w) A (Builtin.SmallTypes.nextOf (.ref it)) Q E s:=by
 cases bb
 ·exact wpAny_nextOf_list_item hit hl hx hQ
 ·exact C6 hit hl hx hQ
theorem LY {bb:Bool} {it l:Addr} {i:Nat} {items} {Q:Value->Shared->Prop} (hh:A.handled=none) (hit:Jy bb s.heap it l i) (hl:Ge bb s.heap l items) (hx:items[i]? = none)
  (hE:∀ h' e,Heap.ExtBut it s.heap h'->(∃ o,h'.get? e=some o/\o.cls=.type "StopIteration")->E (.ref e) { s with heap:=h' }):wpAny (model prog w) A (Builtin.SmallTypes.nextOf (.ref it)) Q E s:=by
 cases bb
 ·exact wpAny_nextOf_list_end hh hit hl hx hE
 ·exact Eg hh hit hl hx hE
theorem Ih {bb:Bool} {z TI TO i1 i2 l1 l2:Addr} {k1 k2:Nat} {xs ys:Array Value} {x y a b:Value} {Q:Value->Shared->Prop} (D:ZipApart z TI TO i1 i2 l1 l2)
  (hz:IsZip s.heap z TI TO .none) (hTI:IsPair s.heap TI (.ref i1) (.ref i2)) (hTO:IsPair s.heap TO a b)
  (h1:s.heap.IsTupleIter i1 l1 k1) (h2:Jy bb s.heap i2 l2 k2) (JF:s.heap.IsTuple l1 xs) (Jw:Ge bb s.heap l2 ys) (hx:xs[k1]? = some x) (hy:ys[k2]? = some y)
  (hQ:∀ h',IsZip h' z TI TO (rawInt s.heap.objs.size)->IsPair h' TO x y->h'.IsTupleIter i1 l1 (k1 + 1)->Jy bb h' i2 l2 (k2 + 1)->IsPair h' s.heap.objs.size x y->h'.objs.size=s.heap.objs.size + 1 ->
   (∀ c o,c ≠ z->c ≠ TO->c ≠ i1->c ≠ i2->s.heap.get? c=some o->h'.get? c=some o)->Q (.ref s.heap.objs.size) { s with heap:=h' }) :
  wpAny (model prog w) A (Builtin.«zip.__next__» ⟨[.ref z],[]⟩) (fun fin s'=>∃ v,fin=.done (.ret v)/\Q v s') E s:=by
 show wpAny _ _ (field (.ref z) 2 >>= _) _ _ _
 refine wpAny_bind (wpAny_field hz rfl (x:=.bool false) rfl ?_);show wpAny _ _ (field (.ref z) 3 >>= _) _ _ _
 refine wpAny_bind (wpAny_field hz rfl (x:=.ref TI) rfl ?_);refine wpAny_bind (wpAny_seqItems hTI rfl ?_);show wpAny _ _ (Builtin.SmallTypes.ownedTupleIsFree (.ref z) >>= _) _ _ _
 refine wpAny_bind ?_;unfold Builtin.SmallTypes.ownedTupleIsFree;refine wpAny_bind (wpAny_field hz rfl (x:=.none) rfl (wpAny_pure ?_));simp only [if_true];refine wpAny_bind (wpAny_rule ?_);refine wpAny_bind (wpAny_field hz rfl (x:=.ref TO) rfl ?_);refine wpAny_bind (wpAny_setField_rec hz (by simp) fun By Hr CN=>?_);replace Hr:IsZip By z TI TO .ellipsis:=Hr;refine wpAny_bind ?_;simp only [eG,eM,eN,eT];refine wpAny_bind (wpAny_bind (wpAny_onRaise ?_));show wpAny _ _ (Builtin.SmallTypes.nextOf (.ref i1) >>= _) _ _ _
 refine wpAny_bind (C6 (h1.extBut CN.extBut D.i1z) (JF.extBut CN.extBut D.l1z) hx fun G5 Ul Dx=>wpAny_pure ?_);have Jc:IsPair G5 TO a b:=Dx.extBut _ _ D.TOi1 (CN.extBut _ _ D.TOz hTO);refine wpAny_bind (wpAny_seqItems Jc rfl ?_);refine wpAny_bind (wpAny_updateSeq_pair Jc fun HJ Lg DN=>?_);replace Lg:IsPair HJ TO x b:=Lg;refine wpAny_bind (wpAny_letGo (wpAny_pure ?_));refine wpAny_bind (wpAny_bind (wpAny_onRaise ?_));show wpAny _ _ (Builtin.SmallTypes.nextOf (.ref i2) >>= _) _ _ _
 refine wpAny_bind (KW (((h2.extBut CN.extBut D.i2z).extBut Dx.extBut D.i12.symm).extBut DN.extBut D.TOi2.symm)
  (((Jw.extBut CN.extBut D.l2z).extBut Dx.extBut D.l2i1).extBut DN.extBut D.l2TO) hy fun MZ Xd Ht=>wpAny_pure ?_)
 have R5:IsPair MZ TO x b:=Ht.extBut _ _ D.TOi2 Lg;refine wpAny_bind (wpAny_seqItems R5 rfl ?_);refine wpAny_bind (wpAny_updateSeq_pair R5 fun Dg Jb Hs=>?_);replace Jb:IsPair Dg TO x y:=Jb;refine wpAny_bind (wpAny_letGo (wpAny_pure (wpAny_pure ?_)));refine wpAny_bind (wpAny_seqItems Jb rfl ?_);refine wpAny_bind (wpAny_newTuple ?_);have hsz:Dg.objs.size=s.heap.objs.size:=by rw [Hs.1,Ht.1,DN.1,Dx.1,CN.1]
 have Ub:IsZip Dg z TI TO .ellipsis:=Hs.extBut _ _ D.TOz.symm (Ht.extBut _ _ D.i2z.symm (DN.extBut _ _ D.TOz.symm (Dx.extBut _ _ D.i1z.symm Hr)));have WC:∀ c o,c ≠ z->c ≠ TO->c ≠ i1->c ≠ i2->s.heap.get? c=some o->Dg.get? c=some o:=fun c o c1 c2 c3 c4 e=>
  Hs.extBut _ _ c2 (Ht.extBut _ _ c4 (DN.extBut _ _ c2 (Dx.extBut _ _ c3 (CN.extBut _ _ c1 e))))
 have Uk:Dg.IsTupleIter i1 l1 (k1 + 1):=((Ul.extBut DN.extBut D.TOi1.symm).extBut Ht.extBut D.i12).extBut Hs.extBut D.TOi1.symm;have Uj:Jy bb Dg i2 l2 (k2 + 1):=Xd.extBut Hs.extBut D.TOi2.symm;have hzlt:z < Dg.objs.size:=Z5 Ub;have hTOlt:TO < Dg.objs.size:=Z5 Jb;have hi1lt:i1 < Dg.objs.size:=by obtain ⟨_,e,_⟩:=Uk; exact Z5 e
 have hi2lt:i2 < Dg.objs.size:=Uj.lt;show wpAny _ _ (Builtin.SmallTypes.ownedTupleHandOut (.ref z) (.ref Dg.objs.size) >>= _) _ _ _
 refine wpAny_bind ?_;unfold Builtin.SmallTypes.ownedTupleHandOut;have Wy:IsZip (Dg.push { cls:=.type "tuple",data:=.seq #[x,y] }) z TI TO .ellipsis:=Zz _ Ub;refine wpAny_bind (wpAny_setField_rec Wy (by simp) fun YH Rz R1=>?_);replace Rz:IsZip YH z TI TO (rawInt Dg.objs.size):=Rz;refine wpAny_setField_rec Rz (by simp) fun Rx Og R0=>?_
 replace Og:IsZip Rx z TI TO (rawInt Dg.objs.size):=Og;have up:∀ c o,c ≠ z->Dg.get? c=some o->Rx.get? c=some o:=fun c o c1 e=>R0.extBut _ _ c1 (R1.extBut _ _ c1 (Zz _ e))
 have Uh:IsPair Rx Dg.objs.size x y:=R0.extBut _ _ (aD hzlt) (R1.extBut _ _ (aD hzlt) (Z9 _ rfl));have hz8:Rx.objs.size=Dg.objs.size + 1:=by rw [R0.1,R1.1,ae]
 rw [hsz] at Og Uh hz8;refine wpAny_pure ⟨_,rfl,?_⟩;show Q (.ref Dg.objs.size) _
 rw [hsz];exact hQ Rx Og (up _ _ D.TOz Jb) (Uk.at fun o e=>up _ o D.i1z e) (Uj.at fun o e=>up _ o D.i2z e) Uh hz8 fun c o c1 c2 c3 c4 e=>up c o c1 (WC c o c1 c2 c3 c4 e)
theorem J2 {bb:Bool} {z TI TO i1 i2 l1 l2:Addr} {k1 k2:Nat} {xs ys:Array Value} {a b:Value} {Q:Fin->Shared->Prop} (hh:A.handled=none) (D:ZipApart z TI TO i1 i2 l1 l2)
  (hz:IsZip s.heap z TI TO .none) (hTI:IsPair s.heap TI (.ref i1) (.ref i2)) (hTO:IsPair s.heap TO a b)
  (h1:s.heap.IsTupleIter i1 l1 k1) (h2:Jy bb s.heap i2 l2 k2) (JF:s.heap.IsTuple l1 xs) (Jw:Ge bb s.heap l2 ys) (hend:xs[k1]? = none\/ys[k2]? = none)
  (hE:∀ h' e,(∀ c o,c ≠ z->c ≠ TO->c ≠ i1->c ≠ i2->s.heap.get? c=some o->h'.get? c=some o)->(∃ o,h'.get? e=some o/\o.cls=.type "StopIteration")->E (.ref e) { s with heap:=h' }) :
  wpAny (model prog w) A (Builtin.«zip.__next__» ⟨[.ref z],[]⟩) Q E s:=by
 show wpAny _ _ (field (.ref z) 2 >>= _) _ _ _
 refine wpAny_bind (wpAny_field hz rfl (x:=.bool false) rfl ?_);show wpAny _ _ (field (.ref z) 3 >>= _) _ _ _
 refine wpAny_bind (wpAny_field hz rfl (x:=.ref TI) rfl ?_);refine wpAny_bind (wpAny_seqItems hTI rfl ?_);show wpAny _ _ (Builtin.SmallTypes.ownedTupleIsFree (.ref z) >>= _) _ _ _
 refine wpAny_bind ?_;unfold Builtin.SmallTypes.ownedTupleIsFree;refine wpAny_bind (wpAny_field hz rfl (x:=.none) rfl (wpAny_pure ?_));simp only [if_true];refine wpAny_bind (wpAny_rule ?_);refine wpAny_bind (wpAny_field hz rfl (x:=.ref TO) rfl ?_);refine wpAny_bind (wpAny_setField_rec hz (by simp) fun By Hr CN=>?_);replace Hr:IsZip By z TI TO .ellipsis:=Hr;refine wpAny_bind ?_;simp only [eG,eM,eN,eT];refine wpAny_bind (wpAny_bind (wpAny_onRaise ?_));show wpAny _ _ (Builtin.SmallTypes.nextOf (.ref i1) >>= _) _ _ _
 cases hx:xs[k1]? with
 | none=>
  refine wpAny_bind (Eg hh (h1.extBut CN.extBut D.i1z) (JF.extBut CN.extBut D.l1z) hx fun G5 e Dx he=>?_);obtain ⟨oe,hoe,hce⟩:=he;have Ud:IsZip G5 z TI TO .ellipsis:=Dx _ _ D.i1z.symm Hr;have hez:e ≠ z:=fun x=>by subst x; rw [Ud] at hoe; cases hoe; simp at hce
  refine wpAny_setField_rec Ud (by simp) fun HJ _ DN=>hE HJ e (fun c o c1 _ c3 _ x=>DN.extBut _ _ c1 (Dx _ _ c3 (CN.extBut _ _ c1 x))) ⟨oe,DN.extBut _ _ hez hoe,hce⟩
 | some x=>
  have hy:ys[k2]? = none:=by rcases hend with h | h; rw [hx] at h; cases h; exact h
  refine wpAny_bind (C6 (h1.extBut CN.extBut D.i1z) (JF.extBut CN.extBut D.l1z) hx fun G5 Ul Dx=>wpAny_pure ?_);have Jc:IsPair G5 TO a b:=Dx.extBut _ _ D.TOi1 (CN.extBut _ _ D.TOz hTO);refine wpAny_bind (wpAny_seqItems Jc rfl ?_);refine wpAny_bind (wpAny_updateSeq_pair Jc fun HJ Lg DN=>?_);refine wpAny_bind (wpAny_letGo (wpAny_pure ?_));refine wpAny_bind (wpAny_bind (wpAny_onRaise ?_));show wpAny _ _ (Builtin.SmallTypes.nextOf (.ref i2) >>= _) _ _ _
  refine wpAny_bind (LY hh (((h2.extBut CN.extBut D.i2z).extBut Dx.extBut D.i12.symm).extBut DN.extBut D.TOi2.symm)
   (((Jw.extBut CN.extBut D.l2z).extBut Dx.extBut D.l2i1).extBut DN.extBut D.l2TO) hy fun MZ e Ht he=>?_)
  obtain ⟨oe,hoe,hce⟩:=he;have Uc:IsZip MZ z TI TO .ellipsis:=Ht _ _ D.i2z.symm (DN.extBut _ _ D.TOz.symm (Dx.extBut _ _ D.i1z.symm Hr));have hez:e ≠ z:=fun x=>by subst x; rw [Uc] at hoe; cases hoe; simp at hce
  refine wpAny_setField_rec Uc (by simp) fun Dg _ Hs=>hE Dg e (fun c o c1 c2 c3 c4 x=>Hs.extBut _ _ c1 (Ht _ _ c4 (DN.extBut _ _ c2 (Dx.extBut _ _ c3 (CN.extBut _ _ c1 x))))) ⟨oe,Hs.extBut _ _ hez hoe,hce⟩
theorem Gs {bb:Bool} {z TI TO i1 i2 l1 l2:Addr} {k1 k2:Nat} {xs ys:Array Value} {x y a b:Value} {Q:Option Value->Shared->Prop} (D:ZipApart z TI TO i1 i2 l1 l2)
  (hz:IsZip s.heap z TI TO .none) (hTI:IsPair s.heap TI (.ref i1) (.ref i2)) (hTO:IsPair s.heap TO a b)
  (h1:s.heap.IsTupleIter i1 l1 k1) (h2:Jy bb s.heap i2 l2 k2) (JF:s.heap.IsTuple l1 xs) (Jw:Ge bb s.heap l2 ys) (hx:xs[k1]? = some x) (hy:ys[k2]? = some y)
  (hQ:∀ h',IsZip h' z TI TO (rawInt s.heap.objs.size)->IsPair h' TO x y->h'.IsTupleIter i1 l1 (k1 + 1)->Jy bb h' i2 l2 (k2 + 1)->IsPair h' s.heap.objs.size x y->h'.objs.size=s.heap.objs.size + 1 ->
   (∀ c o,c ≠ z->c ≠ TO->c ≠ i1->c ≠ i2->s.heap.get? c=some o->h'.get? c=some o)->Q (some (.ref s.heap.objs.size)) { s with heap:=h' }) :
  wpAny (model prog w) A (pyNext (.ref z)) Q E s:=by
 have hT:s.TypeIs (.ref z) "zip":=⟨_,hz,rfl⟩
 unfold pyNext;exact wpAny_bind (wpAny_attempt (wpAny_callSpecial?_slot (name:=Str.ofString "__next__") hT F.slot_zip_next
  (wpAny_call_entry F.slot_zip_next hT F.entry_zip_next
   (Ih D hz hTI hTO h1 h2 JF Jw hx hy fun h' a1 a2 a3 a4 a5 a6 a7=>wpAny_pure (hQ h' a1 a2 a3 a4 a5 a6 a7)) (F.args_zip_next_1 _))))
theorem HC {bb:Bool} {z TI TO i1 i2 l1 l2:Addr} {k1 k2:Nat} {xs ys:Array Value} {a b:Value} {Q:Option Value->Shared->Prop} (hh:A.handled=none) (D:ZipApart z TI TO i1 i2 l1 l2)
  (hz:IsZip s.heap z TI TO .none) (hTI:IsPair s.heap TI (.ref i1) (.ref i2)) (hTO:IsPair s.heap TO a b)
  (h1:s.heap.IsTupleIter i1 l1 k1) (h2:Jy bb s.heap i2 l2 k2) (JF:s.heap.IsTuple l1 xs) (Jw:Ge bb s.heap l2 ys) (hend:xs[k1]? = none\/ys[k2]? = none)
  (hQ:∀ h',(∀ c o,c ≠ z->c ≠ TO->c ≠ i1->c ≠ i2->s.heap.get? c=some o->h'.get? c=some o)->Q none { s with heap:=h' }):wpAny (model prog w) A (pyNext (.ref z)) Q E s:=by
 have hT:s.TypeIs (.ref z) "zip":=⟨_,hz,rfl⟩
 unfold pyNext;refine wpAny_bind (wpAny_attempt (wpAny_callSpecial?_slot (name:=Str.ofString "__next__") hT F.slot_zip_next
  (wpAny_call_entry F.slot_zip_next hT F.entry_zip_next (J2 hh D hz hTI hTO h1 h2 JF Jw hend fun h' e hk he=>?_) (F.args_zip_next_1 _))))
 obtain ⟨o,ho,hc⟩:=he;refine wpAny_bind (wpAny_isInstance (T:="StopIteration") (b:=true) ⟨o,ho,hc⟩ isSubtype_stop ?_);exact wpAny_pure (hQ _ hk)
end
abbrev Nx (h:Heap) (l1:Addr):Heap:=h.push { cls:=.type "tuple_iterator",data:=.fields #[.ref l1,.int 0 0] }
abbrev Nw (bb:Bool) (h:Heap) (l1 l2:Addr):Heap:=(Nx h l1).push { cls:=.type (itN bb),data:=.fields #[.ref l2,.int 0 0] }
abbrev Nv (bb:Bool) (h:Heap) (l1 l2:Addr):Heap:=(Nw bb h l1 l2).push { cls:=.type "tuple",data:=.seq #[.ref h.objs.size,.ref (Nx h l1).objs.size] }
abbrev Nu (bb:Bool) (h:Heap) (l1 l2:Addr):Heap:=(Nv bb h l1 l2).push { cls:=.type "tuple",data:=.seq #[.none,.none] }
abbrev Ig (bb:Bool) (h:Heap) (l1 l2:Addr):Heap:=(Nu bb h l1 l2).push { cls:=.type "zip",data:=.fields #[.none,.bool false,.bool false,.ref (Nw bb h l1 l2).objs.size,.ref (Nv bb h l1 l2).objs.size] }
theorem IT (bb:Bool) (l1 l2:Addr) (xs ys:Array Value) :
  Meets (Builtin.«zip.__new__» ⟨[.type "zip",.ref l1,.ref l2],[]⟩) (fun _ R s=>s.heap.IsTuple l1 xs/\Ge bb s.heap l2 ys /\
   R (.ok (.ret (.ref (Nu bb s.heap l1 l2).objs.size))) { s with heap:=Ig bb s.heap l1 l2 }):=
 .of_wp fun prog w A R s h=>by
  obtain ⟨hp,g,d,tk,os⟩:=s; obtain ⟨JF,Jw,h⟩:=h;have hsub:=sub_zip;have WY:Heap.IsTuple (Shared.heap ⟨hp,g,d,tk,os⟩) l1 xs:=JF;cases bb
  ·have Qa:Heap.IsList (Shared.heap ⟨hp.push { cls:=.type "tuple_iterator",data:=.fields #[.ref l1,.int 0 0] },g,d,tk,os⟩) l2 ys:=Heap.IsList.push Jw _;wp_walk using wpAny_pyIter_tuple WY,wpAny_pyIter_list Qa;exact ⟨_,rfl,h⟩
  ·have Qa:Heap.IsTuple (Shared.heap ⟨hp.push { cls:=.type "tuple_iterator",data:=.fields #[.ref l1,.int 0 0] },g,d,tk,os⟩) l2 ys:=Heap.IsTuple.push Jw _;wp_walk using wpAny_pyIter_tuple WY,wpAny_pyIter_tuple Qa;exact ⟨_,rfl,h⟩
section
variable {prog:Program} {w:World} {A:Around} {E:Value->Shared->Prop} {s:Shared}
theorem PM {bb:Bool} {l1 l2:Addr} {xs ys:Array Value} {Q:Value->Shared->Prop} (JF:s.heap.IsTuple l1 xs) (Jw:Ge bb s.heap l2 ys)
  (h:∀ h',IsZip h' (s.heap.objs.size + 4) (s.heap.objs.size + 2) (s.heap.objs.size + 3) .none->IsPair h' (s.heap.objs.size + 2) (.ref s.heap.objs.size) (.ref (s.heap.objs.size + 1)) ->
   IsPair h' (s.heap.objs.size + 3) .none .none->h'.IsTupleIter s.heap.objs.size l1 0->Jy bb h' (s.heap.objs.size + 1) l2 0->h'.objs.size=s.heap.objs.size + 5 ->
   (∀ c o,s.heap.get? c=some o->h'.get? c=some o)->Q (.ref (s.heap.objs.size + 4)) { s with heap:=h' }) :
  wpAny (model prog w) A (call (.type "zip") [.ref l1,.ref l2]) Q E s:=by
 refine callType_new F.called_zip (by decide) (F.typeCall_zip_2 _ _) (F.newCall_zip_2 _ _) (fun obj=>F.args_object_init_3 obj _ _) F.entry_zip_new
  (IT bb l1 l2 xs ys) ⟨JF,Jw,?_⟩
 have z1:(Nx s.heap l1).objs.size=s.heap.objs.size + 1:=ae ..;have z2:(Nw bb s.heap l1 l2).objs.size=s.heap.objs.size + 2:=by rw [ae,z1]
 have z3:(Nv bb s.heap l1 l2).objs.size=s.heap.objs.size + 3:=by rw [ae,z2]
 have z4:(Nu bb s.heap l1 l2).objs.size=s.heap.objs.size + 4:=by rw [ae,z3]
 have z5:(Ig bb s.heap l1 l2).objs.size=s.heap.objs.size + 5:=by rw [ae,z4]
 have g5:(Ig bb s.heap l1 l2).get? (Nu bb s.heap l1 l2).objs.size=some _:=Z9 _ rfl;have g4:(Ig bb s.heap l1 l2).get? (Nv bb s.heap l1 l2).objs.size=some _:=Zz _ (Z9 _ rfl);have g3:(Ig bb s.heap l1 l2).get? (Nw bb s.heap l1 l2).objs.size=some _:=Zz _ (Zz _ (Z9 _ rfl));have g2:(Ig bb s.heap l1 l2).get? (Nx s.heap l1).objs.size=some _:=Zz _ (Zz _ (Zz _ (Z9 _ rfl)));have g1:(Ig bb s.heap l1 l2).get? s.heap.objs.size=some _:=Zz _ (Zz _ (Zz _ (Zz _ (Z9 _ rfl))));show _/\_
 rw [z2,z3,z4] at g5;rw [z1,z2] at g3;rw [z3] at g4;rw [z1] at g2;rw [z4];exact ⟨⟨_,g5,rfl⟩,h _ g5 g3 g4 ⟨_,g1,rfl,rfl⟩ (by cases bb <;> exact ⟨_,g2,rfl,rfl⟩) z5 fun c o x=>
  Zz _ (Zz _ (Zz _ (Zz _ (Zz _ x))))⟩
end
def Mv (K:Z1) (bb:Bool) (a b:Addr):It:=
 ⟨fun i H=>∃ xs ys x y,A1 K H a xs/\Ti K bb H b ys/\xs[i]? = some x/\ys[i]? = some y,
   fun i H v H'=>∃ T x y,H T=none/\v=.ref T/\H'=upd H T (.tup [x,y])/\(∀ xs,A1 K H a xs->xs[i]? = some x)/\(∀ ys,Ti K bb H b ys->ys[i]? = some y),
   fun i H=>∃ xs ys,A1 K H a xs/\Ti K bb H b ys/\(xs.length<=i\/ys.length<=i)⟩
theorem O2 {bb:Bool} {P:Program} {w:World} {K:Z1} {es:List Expr} {x1} {pos:Pos} (a b z TI TO i1 i2:Addr) (D:ZipApart z TI TO i1 i2 a b) :
  Mr P w K (.Tuple es x1 pos) (Mv K bb a b) [z,TI,TO,i1,i2] z (fun i h=>IsZip h z TI TO .none/\IsPair h TI (.ref i1) (.ref i2)/\(∃ c d,IsPair h TO c d)/\h.IsTupleIter i1 a i/\Jy bb h i2 b i) where
 mem:=by simp
 obj:=fun i h st c hc=>by
  obtain ⟨h1,h2,⟨_,_,h3⟩,⟨o4,e4,c4,d4⟩,h5⟩:=st;obtain ⟨o5,e5,d5⟩:=h5.ex;simp only [Z3,Z8,or_false] at hc;rcases hc with rfl | rfl | rfl | rfl | rfl
  ·exact ⟨_,h1,fun v q=>by cases q⟩
  ·exact ⟨_,h2,fun v q=>by cases q⟩
  ·exact ⟨_,h3,fun v q=>by cases q⟩
  ·exact ⟨_,e4,fun v q=>by rw [d4] at q; cases q⟩
  ·exact ⟨_,e5,fun v q=>by rw [d5] at q; cases q⟩
 keep:=fun i h h' st k=>by
  obtain ⟨h1,h2,⟨c,d,h3⟩,h4,h5⟩:=st;exact ⟨k _ (by simp) _ h1,k _ (by simp) _ h2,⟨c,d,k _ (by simp) _ h3⟩,D5 h4 fun o e=>k _ (by simp) _ e,h5.at fun o e=>k _ (by simp) o e⟩
 item:=by
  intro X hP hw hK hc i pins s σ H E I hf st hg;subst hP hw hK;obtain ⟨xs,ys,x,y,hq,VT,hx,hy⟩:=hg;obtain ⟨Ar,rv,p,hz⟩:=I.tuple hq;obtain ⟨HG,VO,p2,Wz⟩:=I.seqB VT;obtain ⟨u,hu,ru⟩:=rv.get hx;obtain ⟨u2,XQ,ru2⟩:=VO.get hy;obtain ⟨h1,h2,⟨c,d,h3⟩,h4,h5⟩:=st;refine Gs D h1 h2 h3 h4 h5 (show s.heap.IsTuple a Ar.toArray from p) p2 (x:=u) (y:=u2) (by simpa using hu) (by simpa using XQ) fun h' g1 g2 g3 g4 g5 g6 g7=>?_
  have kk:∀ b' o,b' ∉ [z,TI,TO,i1,i2]->s.heap.get? b'=some o->h'.get? b'=some o:=fun b' o hb e=>by
   simp only [Z3,Z8,or_false,not_or] at hb;exact g7 b' o hb.1 hb.2.2.1 hb.2.2.2.1 hb.2.2.2.2 e
  have I1:=I.turnedT (t':=s.toks) (xs:=[x,y]) hf kk ⟨by show 2<=sizeLine; decide,[u,u2],.cons ru (.cons ru2 .nil),⟨_,g5,rfl,0,rfl⟩,fun o e=>by rw [g5] at e; cases e; rfl⟩;have hT:H s.heap.objs.size=none:=I.hok.fresh (Z4 _);have ltz:=Z5 h1;have hf1:∀ b' ∈ [z,TI,TO,i1,i2],(upd H s.heap.objs.size (.tup [x,y])) b'=none:=fun b' hb=>by
   have lt:b' < s.heap.objs.size:=by
    simp only [Z3,Z8,or_false] at hb;rcases hb with rfl | rfl | rfl | rfl | rfl
    ·exact Z5 h1
    ·exact Z5 h2
    ·exact Z5 h3
    ·obtain ⟨_,e,_⟩:=h4; exact Z5 e
    ·exact h5.lt
   rw [Ae (ZE lt)];exact (hf b' hb).1
  refine ⟨.ref s.heap.objs.size,rfl,wpAny_letOwnedTupleGo_zip g1 fun Zn z1 sb=>?_⟩;obtain ⟨_,f1,_,f3,f4,f5⟩:=hf z (by simp);have I2:=I1.turned (t':=s.toks) (h':=Zn) (it:=z) (fun b' o hb e=>(sb.2 b' hb).trans e) (hf1 z (by simp)) f1 f3 f4 f5;have h2s:IsPair h' TI (.ref i1) (.ref i2):=g7 TI _ D.TIz D.TITO D.TIi1 D.TIi2 h2;exact ⟨.ref s.heap.objs.size,_,I2,rfl,⟨_,x,y,hT,rfl,rfl,fun Xr Mg=>by rw [I.tuple_inj Mg hq]; exact hx,fun ys' hy'=>by rw [I.seqB_inj hy' VT]; exact hy⟩,
   ⟨z1,(sb.2 _ D.TIz).trans h2s,⟨_,_,(sb.2 _ D.TOz).trans g2⟩,D5 g3 fun o e=>(sb.2 _ D.i1z).trans e,g4.at fun o e=>(sb.2 _ D.i2z).trans e⟩,hf1⟩
 done:=by
  intro X hP hw hK hc i pins s σ H E I hf st hg;subst hP hw hK;obtain ⟨xs,ys,hq,VT,hx⟩:=hg;obtain ⟨Ar,rv,p,hz⟩:=I.tuple hq;obtain ⟨HG,VO,p2,Wz⟩:=I.seqB VT;obtain ⟨h1,h2,⟨c,d,h3⟩,h4,h5⟩:=st;have e1:=rv.length;have e2:=VO.length;refine HC (I.ok.hd hc) D h1 h2 h3 h4 h5 (show s.heap.IsTuple a Ar.toArray from p) p2 ?_ fun h' g7=>⟨rfl,I.turnedL (t':=s.toks) hf fun b' o hb e=>?_⟩
  ·rcases hx with hx | hx
   ·exact .inl (by simp; lia)
   ·exact .inr (by simp; lia)
  ·simp only [Z3,Z8,or_false,not_or] at hb;exact g7 b' o hb.1 hb.2.2.1 hb.2.2.2.1 hb.2.2.2.2 e
 self:=fun _ _ _ _ _ st h=>wpAny_pyIter_zip st.1 h
def iZipB (K:Z1) (bb:Bool) (ta:TA):TI:=fun σ H R=>ta σ H fun vs H1=>∃ a b,vs=[.ref a,.ref b]/\(∃ xs,A1 K H1 a xs)/\(∃ ys,Ti K bb H1 b ys)/\R (Mv K bb a b) H1
theorem NV (bb:Bool) {X:Cx} {es:List Expr} {x1} {tp:Pos} {a b:Expr} {ta:TA} {p pos:Pos} (hg:Gl X "zip") (hm:X.mg "zip"=none) (ha:PA X [a,b] ta) (hs:starEach [a,b] X.env=[(false,eval a X.env),(false,eval b X.env)]:=by rfl) (VR:starEach [b] X.env=[(false,eval b X.env)]:=by rfl) :
  PI X (.Tuple es x1 tp) (.Call (.Name "zip" p) [a,b] [] pos) (iZipB X.K bb ta):=by
 intro pins s σ H R I h;refine Call_ (G3 I hg hm boot_zip (PyProof.Rows.callWith_type1 (Bx (ha (pos:=pos) (pins:=pins) s σ H _ I h) fun us s1 ⟨vs,H1,I1,r1,q1⟩=>?_) (by rw [hs,VR]) (by rw [VR]; rfl)));obtain ⟨a',b',e,⟨xs,hx⟩,⟨ys,hy⟩,q⟩:=q1;subst e;obtain ⟨Ar,rv,pt,hz⟩:=I1.tuple hx;obtain ⟨HG,VO,pl,Wz⟩:=I1.seqB hy;cases r1 with
 | cons r rr=>
  cases rr with
  | cons r' rr=>
   cases rr
   cases r
   cases r'
   have lta:a' < s1.heap.objs.size:=by obtain ⟨o,e,_⟩:=pt; exact Z5 e
   have ltb:b' < s1.heap.objs.size:=by exact pl.lt
   refine PM (show s1.heap.IsTuple a' Ar.toArray from pt) pl fun h' g1 g2 g3 g4 g5 g6 g7=>?_
   have I2:Aw X pins σ H1 { s1 with heap:=h' }:=I1.kept (t':=s1.toks) g7;have D:ZipApart (s1.heap.objs.size + 4) (s1.heap.objs.size + 2) (s1.heap.objs.size + 3) s1.heap.objs.size (s1.heap.objs.size + 1) a' b':=by
    have la:@LT.lt Nat _ a' s1.heap.objs.size:=lta;have lb:@LT.lt Nat _ b' s1.heap.objs.size:=ltb;constructor <;> (intro z0; have z1:@Eq Nat _ _:=z0; lia)
   refine wpAny_pyIter_zip g1 ?_;refine ⟨_,_,_,_,H1,rfl,I2,O2 a' b' _ _ _ _ _ D,⟨g1,g2,⟨_,_,g3⟩,g4,g5⟩,fun c hc=>?_,q⟩;have le:s1.heap.objs.size<=c:=by
    simp only [Z3,Z8,or_false] at hc;rcases hc with rfl | rfl | rfl | rfl | rfl <;> first | exact Nat.le_add_right _ _ | exact Z4 _
   exact I1.fpOk le (I1.hok.fresh le)
theorem Pw {bb:Bool} {K:Z1} {a b:Addr} {xs ys:List V} {g:TG} {tb:TS} {D:EV} {σ:St} {H:Hp} (ll:xs.length=ys.length) (Pv:Nat->St->Hp->Prop) (h0:Pv 0 σ H) (hl:∀ i σ H,i<=xs.length->Pv i σ H->A1 K H a xs/\Ti K bb H b ys)
  (hs:∀ i x y σ H T,xs[i]? = some x->ys[i]? = some y->Pv i σ H->H T=none->g (.ref T) σ (upd H T (.tup [x,y])) fun AA H2=>tb { D with nx:=Pv (i + 1),ct:=Pv (i + 1),bk:=D.nx } AA H2) (hd:∀ σ H,Pv xs.length σ H->D.nx σ H) :
  ∃ W:Nat->Nat->St->Hp->Prop,(∃ m,W 0 m σ H)/\∀ i m σ H,W i m σ H ->
   ((Mv K bb a b).stop i H/\D.nx σ H)\/((Mv K bb a b).go i H/\∃ N:St->Hp->Prop,(∀ A3 H',N A3 H'->∃ m',m' < m/\W (i + 1) m' A3 H')/\∀ x H',(Mv K bb a b).yld i H x H'->g x σ H' fun AA H2=>tb { D with nx:=N,ct:=N,bk:=D.nx } AA H2):=by
 exists fun i m σ H=>m=xs.length - i/\i<=xs.length/\Pv i σ H,⟨xs.length,by simp,ZX _,h0⟩
 rintro i m σ H ⟨rfl,hi,p⟩;obtain ⟨q1,q2⟩:=hl i σ H hi p;by_cases B5:i < xs.length
 ·refine .inr ⟨⟨xs,ys,xs[i],ys[i]'(by lia),q1,q2,by simp [B5],Zy _⟩,Pv (i + 1),fun A3 H' p'=>⟨xs.length - (i + 1),by lia,rfl,B5,p'⟩,fun x H' y=>?_⟩;obtain ⟨T,u,v,hT,rfl,rfl,e1,e2⟩:=y;exact hs i u v σ _ T (e1 xs q1) (e2 ys q2) p hT
 ·have e:i=xs.length:=by lia
  subst e;exact .inl ⟨⟨xs,ys,q1,q2,.inl (Z4 _)⟩,hd σ H p⟩
theorem OP {bb:Bool} {K:Z1} {a b:Addr} {xs ys:List V} {g:TG} {te:TE} {H:Hp} {σ0:St} {R:Addr->Hp->Prop} (ll:xs.length=ys.length) (I:Addr->Nat->St->Hp->List V->Prop) (big:xs.length < sizeLine)
  (h0:∀ D,H D=none->I D 0 σ0 (upd H D (.lst [])) [])
  (hs:∀ D i σ H' acc,H D=none->I D i σ H' acc->A1 K H' a xs/\Ti K bb H' b ys/\H' D=some (.lst acc)/\acc.length=i)
  (turn:∀ D i σ H' acc x y T (B:St->V->Hp->Prop),H D=none->xs[i]? = some x->ys[i]? = some y->H' T=none->I D i σ H' acc->(∀ AA v H5,H5 D=some (.lst acc)->I D (i + 1) AA (upd H5 D (.lst (acc ++ [v]))) (acc ++ [v])->B AA v H5)->g (.ref T) σ (upd H' T (.tup [x,y])) fun AA H3=>te AA H3 (B AA))
  (fin:∀ D σ H' acc,H D=none->I D xs.length σ H' acc->R D H') :
  ∀ D,H D=none->∃ W:Nat->Nat->St->Hp->Prop,(∃ m,W 0 m σ0 (upd H D (.lst []))) /\
   ∀ i m A3 H',W i m A3 H'->((Mv K bb a b).stop i H'/\R D H')\/((Mv K bb a b).go i H'/\∀ x H2,(Mv K bb a b).yld i H' x H2->g x A3 H2 fun AA H3=>J5 AA H3 fun b H4=>
    if b=true then te AA H4 (fun v H5=>∃ acc,H5 D=some (.lst acc)/\acc.length < sizeLine/\∃ m',m' < m/\W (i + 1) m' AA (upd H5 D (.lst (acc ++ [v])))) else ∃ m',m' < m/\W (i + 1) m' AA H4):=by
 intro D hD;exists fun i m σ H'=>m=xs.length - i/\i<=xs.length/\∃ acc,I D i σ H' acc,⟨xs.length,rfl,ZX _,[],h0 D hD⟩
 rintro i m σ H' ⟨rfl,hi,acc,p⟩;obtain ⟨s1,VN,s2,s3⟩:=hs D i σ H' acc hD p;by_cases B5:i < xs.length
 ·refine .inr ⟨⟨xs,ys,xs[i],ys[i]'(by lia),s1,VN,Zy B5,Zy (by lia)⟩,fun x H2 y=>?_⟩;obtain ⟨T,x',y',hT,rfl,rfl,ex,ey⟩:=y;have e:∀ (F:St->V->Hp->Prop) (G:St->Hp->Prop),(fun (AA:St) (H3:Hp)=>J5 AA H3 fun b H4=>if b=true then te AA H4 (F AA) else G AA H4)=fun AA H3=>te AA H3 (F AA):=by
   intro F G;funext AA H3;show (if true=true then te AA H3 (F AA) else G AA H3)=_
   rw [if_pos rfl]
  rw [e (fun AA v H5=>∃ acc,H5 D=some (.lst acc)/\acc.length < sizeLine/\∃ m',m' < xs.length - i/\(m'=xs.length - (i + 1)/\i + 1<=xs.length/\∃ ET,I D (i + 1) AA (upd H5 D (.lst (acc ++ [v]))) ET)) (fun AA H4=>∃ m',m' < xs.length - i/\(m'=xs.length - (i + 1)/\i + 1<=xs.length/\∃ ET,I D (i + 1) AA H4 ET))];refine turn D i σ H' acc x' y' T _ hD (ex xs s1) (ey ys VN) hT p fun AA v H5 d5 p5=>?_
  exact ⟨acc,d5,by lia,xs.length - (i + 1),by lia,rfl,B5,_,p5⟩
 ·have e:i=xs.length:=by lia
  subst e;exact .inl ⟨⟨xs,ys,s1,VN,.inl (Z4 _)⟩,fin D σ H' acc hD p⟩
end L2
namespace K20
open PySem L2
def top (i:Nat):Stmt:=PySem.Challenge.pw_openhouses_k20_papers_let_by.main.body.getD i (.Pass ⟨0,0,0,0⟩)
abbrev Dk:Stmt:=top 2
theorem MB:A5 ["thing"] ["thing"] (An Dk):=⟨rfl,rfl,rfl,by decide +kernel,rfl,by decide +kernel,by decide +kernel⟩
abbrev Dd:Stmt:=top 3
theorem Fs:A5 ["things"] ["things"] (An Dd):=⟨rfl,rfl,rfl,by decide +kernel,rfl,by decide +kernel,by decide +kernel⟩
abbrev En:Stmt:=top 5
theorem Hc:A5 ["thing"] ["thing"] (An En):=⟨rfl,rfl,rfl,by decide +kernel,rfl,by decide +kernel,by decide +kernel⟩
abbrev BE:Stmt:=top 6
theorem DZ:A5 ["thing","least"] ["thing","least"] (An BE):=⟨rfl,rfl,rfl,by decide +kernel,rfl,by decide +kernel,by decide +kernel⟩
abbrev CY:Stmt:=top 8
theorem Fm:A5 ["web","places","ways","beside","one","other","length"] ["web"] (An CY):=⟨rfl,rfl,rfl,by decide +kernel,rfl,by decide +kernel,by decide +kernel⟩
abbrev KC:Stmt:=top 10
theorem NO:A5 ["web","place","told"] ["web","place"] (An KC):=⟨rfl,rfl,rfl,by decide +kernel,rfl,by decide +kernel,by decide +kernel⟩
abbrev DE:Stmt:=top 11
theorem FG:A5 ["case"] ["case"] (An DE):=⟨rfl,rfl,rfl,by decide +kernel,rfl,by decide +kernel,by decide +kernel⟩
abbrev EY:Stmt:=top 12
theorem Ir:A5 ["web","starts","beside","reached","settled","so_far","start","here","name","by_here"] ["web","starts"] (An EY):=⟨rfl,rfl,rfl,by decide +kernel,rfl,by decide +kernel,by decide +kernel⟩
abbrev Dc:Stmt:=top 14
theorem Fq:A5 ["case","thing","sites"] ["case","thing"] (An Dc):=⟨rfl,rfl,rfl,by decide +kernel,rfl,by decide +kernel,by decide +kernel⟩
abbrev CK:Stmt:=top 15
theorem ED:A5 ["case","web","sites","folk","limit"] ["case"] (An CK):=⟨rfl,rfl,rfl,by decide +kernel,rfl,by decide +kernel,by decide +kernel⟩
abbrev BF:Stmt:=top 17
theorem Ea:A5 ["case","thing"] ["case","thing"] (An BF):=⟨rfl,rfl,rfl,by decide +kernel,rfl,by decide +kernel,by decide +kernel⟩
abbrev Eo:Stmt:=top 18
theorem Hd:A5 ["thing","places"] ["thing","places"] (An Eo):=⟨rfl,rfl,rfl,by decide +kernel,rfl,by decide +kernel,by decide +kernel⟩
abbrev DH:Stmt:=top 19
theorem FJ:A5 ["row","place"] ["row","place"] (An DH):=⟨rfl,rfl,rfl,by decide +kernel,rfl,by decide +kernel,by decide +kernel⟩
abbrev DI:Stmt:=top 21
theorem FK:A5 ["case","prices","away","manys"] ["case","prices","away"] (An DI):=⟨rfl,rfl,rfl,by decide +kernel,rfl,by decide +kernel,by decide +kernel⟩
abbrev HQ:Stmt:=top 22
theorem LI:A5 ["case","prices","levy"] ["case","prices","levy"] (An HQ):=⟨rfl,rfl,rfl,by decide +kernel,rfl,by decide +kernel,by decide +kernel⟩
abbrev Ek:Stmt:=top 23
theorem GQ:A5 ["case","aways","prices","levy"] ["case","aways","prices","levy"] (An Ek):=⟨rfl,rfl,rfl,by decide +kernel,rfl,by decide +kernel,by decide +kernel⟩
abbrev De:Stmt:=top 24
theorem Ft:A5 ["case","thing"] ["case","thing"] (An De):=⟨rfl,rfl,rfl,by decide +kernel,rfl,by decide +kernel,by decide +kernel⟩
abbrev Fd:Stmt:=top 25
theorem Iy:A5 ["case","thing"] ["case","thing"] (An Fd):=⟨rfl,rfl,rfl,by decide +kernel,rfl,by decide +kernel,by decide +kernel⟩
abbrev EZ:Stmt:=top 27
theorem Iu:A5 ["case","paper","opening","ways","prices","levy"] ["case","paper"] (An EZ):=⟨rfl,rfl,rfl,by decide +kernel,rfl,by decide +kernel,by decide +kernel⟩
abbrev Df:Stmt:=top 28
theorem Fu:A5 ["case","opening","thing"] ["case","opening","thing"] (An Df):=⟨rfl,rfl,rfl,by decide +kernel,rfl,by decide +kernel,by decide +kernel⟩
abbrev Fb:Stmt:=top 30
theorem Iv:A5 ["_law_script","_law_k","_law_cell"] ["_law_script","_law_k"] (An Fb):=⟨rfl,rfl,rfl,by decide +kernel,rfl,by decide +kernel,by decide +kernel⟩
abbrev Bn:Stmt:=top 31
theorem GU:A5 ["_law_pen_here","_law_many","_law_digit","_law_number"] ["_law_pen_here","_law_many"] (An Bn):=⟨rfl,rfl,rfl,by decide +kernel,rfl,by decide +kernel,by decide +kernel⟩
abbrev DG:Stmt:=top 32
theorem FI:A5 ["_law_pen_here","_law_many","_law_letters","_law_base","_law_at","_law_first","_law_step","_law_more","_law_found","_law_k","_law_sign"] ["_law_pen_here","_law_many"] (An DG):=⟨rfl,rfl,rfl,by decide +kernel,rfl,by decide +kernel,by decide +kernel⟩
abbrev Cp:Stmt:=top 33
theorem EE:A5 ["_law_pen_here","_law_names_here","_law_kind","_law_size","_law_pairs","_law_k","_law_other","_law_one"] ["_law_pen_here","_law_names_here","_law_kind"] (An Cp):=⟨rfl,rfl,rfl,by decide +kernel,rfl,by decide +kernel,by decide +kernel⟩
abbrev Ds:Stmt:=top 34
theorem GV:A5 ["_law_pen_here","_law_names_here","_law_most","_law_pool"] ["_law_pen_here","_law_names_here","_law_most"] (An Ds):=⟨rfl,rfl,rfl,by decide +kernel,rfl,by decide +kernel,by decide +kernel⟩
abbrev Em:Stmt:=top 35
theorem GZ:A5 ["_law_pen_here","_law_kind","_law_wide","_law_names_here","_law_much","_law_ways_here","_law_dear","_law_sites","_law_folk","_law_limit"] ["_law_pen_here","_law_kind"] (An Em):=⟨rfl,rfl,rfl,by decide +kernel,rfl,by decide +kernel,by decide +kernel⟩
abbrev El:Stmt:=top 36
theorem GY:A5 ["_law_case_here","_law_places","_law_ways_here","_law_away","_law_one","_law_other","_law_length","_law_by","_law_both"] ["_law_case_here"] (An El):=⟨rfl,rfl,rfl,by decide +kernel,rfl,by decide +kernel,by decide +kernel⟩
abbrev C2:Stmt:=top 38
theorem E4:A5 ["_law_case_here","_law_found","_law_place","_law_dues","_law_most"] ["_law_case_here"] (An C2):=⟨rfl,rfl,rfl,by decide +kernel,rfl,by decide +kernel,by decide +kernel⟩
abbrev Dt:Stmt:=top 40
theorem GX:A5 ["_law_case_here","_law_away","_law_prices_here","_law_site","_law_found","_law_place","_law_many"] ["_law_case_here","_law_away","_law_prices_here","_law_site"] (An Dt):=⟨rfl,rfl,rfl,by decide +kernel,rfl,by decide +kernel,by decide +kernel⟩
abbrev DF:Stmt:=top 42
theorem FH:A5 ["_law_case_here","_law_away","_law_prices_here","_law_levy"] ["_law_case_here","_law_away","_law_prices_here","_law_levy"] (An DF):=⟨rfl,rfl,rfl,by decide +kernel,rfl,by decide +kernel,by decide +kernel⟩
abbrev CZ:Stmt:=top 43
theorem Fo:A5 ["_law_case_here","_law_away","_law_prices_here","_law_levy","_law_at","_law_place","_law_price","_law_many","_law_others","_law_some_here","_law_site","_law_dues"] ["_law_case_here","_law_away","_law_prices_here","_law_levy","_law_at"] (An CZ):=⟨rfl,rfl,rfl,by decide +kernel,rfl,by decide +kernel,by decide +kernel⟩
abbrev C1:Stmt:=top 44
theorem Fp:A5 ["_law_pen_here","_law_case_here","_law_away","_law_levy","_law_prices_here","_law_order","_law_k","_law_at","_law_full","_law_some_here"] ["_law_pen_here","_law_case_here","_law_away","_law_levy"] (An C1):=⟨rfl,rfl,rfl,by decide +kernel,rfl,by decide +kernel,by decide +kernel⟩
abbrev Fc:Stmt:=top 45
theorem Iw:A5 ["_law_case_here","_law_away","_law_paper_here","_law_opening","_law_walks","_law_prices_here","_law_levy"] ["_law_case_here","_law_away","_law_paper_here"] (An Fc):=⟨rfl,rfl,rfl,by decide +kernel,rfl,by decide +kernel,by decide +kernel⟩
abbrev Ci:Stmt:=top 46
theorem DY:A5 ["_law_thing"] ["_law_thing"] (An Ci):=⟨rfl,rfl,rfl,by decide +kernel,rfl,by decide +kernel,by decide +kernel⟩
abbrev BQ:Stmt:=top 47
theorem DC:A5 ["_law_case_here","_law_rows","_law_row","_law_own"] ["_law_case_here","_law_rows"] (An BQ):=⟨rfl,rfl,rfl,by decide +kernel,rfl,by decide +kernel,by decide +kernel⟩
abbrev Ce:Stmt:=top 48
theorem EF:A5 ["_law_away","_law_place","_law_opening"] ["_law_away","_law_place","_law_opening"] (An Ce):=⟨rfl,rfl,rfl,by decide +kernel,rfl,by decide +kernel,by decide +kernel⟩
abbrev Bb:Stmt:=top 49
theorem C0:A5 ["_law_pen_here","_law_case_here","_law_away","_law_sites","_law_opening","_law_walks","_law_place","_law_many","_law_house","_law_levy","_law_prices_here","_law_at"] ["_law_pen_here","_law_case_here","_law_away"] (An Bb):=⟨rfl,rfl,rfl,by decide +kernel,rfl,by decide +kernel,by decide +kernel⟩
abbrev QG:Stmt:=top 50
theorem QF:A5 ["_law_script","_law_k","_law_pen_here","_law_case_here","_law_away","_law_turn","_law_paper_here","_law_found"] ["_law_script"] (An QG):=⟨rfl,rfl,rfl,by decide +kernel,rfl,by decide +kernel,by decide +kernel⟩
section
variable {P:Program} {w:World} {K:Z1} {mg:Str->Option Value} {base:Heap}
theorem LV (h_int:mg "int"=none) {f:Addr} {fd:FuncData} (F:D6 K "_law_fars" "_law_fars" El f fd):A7 P w K mg base Bq 1 f fd ["_law_case_here"] NJ:=by
 refine F.ok GY (fun vs H Q E h=>?_) (fun cdv A outer s H vs Q E hr h=>?_)
 ·obtain ⟨cc,q,n,xs,ws,Aq,As,x,d,rfl,_⟩:=h;rfl
 ·obtain ⟨cc,q,n,xs,ws,Aq,As,x,d,rfl,cw,k⟩:=h;have hu:=CV hr;have nd:=GY.nd;have big:16000000 < sizeLine:=by decide
  have two:2<=sizeLine:=by decide
  have mw:=cw.map;have X5:=cw.n1;have S4:=cw.n30;obtain ⟨c1,c2,DV,Fv,hcc,_⟩:=cw.ex;obtain ⟨r0,okw,pos,uni⟩:=mw.web X5 S4;obtain ⟨D,e,us,hq,hD,hE,hW⟩:=mw.at'.ex;have ends:=okw.ends;have x30:xs.length<=30:=okw.l30;have w64:=okw.l64;have wof:∀ u ∈ ws,u.1 ∈ xs/\u.2.1 ∈ xs/\u.1 ≠ u.2.1/\1<=u.2.2:=fun u hu=>⟨(ends u hu).1,(ends u hu).2,mw.apart hu,pos u hu⟩
  have hwl:us.length=ws.length:=by rw [Jl hW,Z0]
  refine ⟨_,(Ag (DP (A2 (A8 K rfl) (pv 0) Af (fun _ _=>rfl)) (AW K rfl rfl (Am (Ai (i:=1) nd rfl (Or.inl rfl)) (Am (Ai (i:=2) nd rfl (Or.inl rfl)) AV))))
  (Ag (Ap (i:=3) nd rfl (Or.inl rfl) QX)
  (Ag (BB PassesOwn.never rfl (Bi K rfl (pv 1)) (Ai (i:=4) nd rfl (Or.inl rfl))
  (Ak (BB PassesOwn.never rfl (Bi K rfl (pv 1)) (Ai (i:=5) nd rfl (Or.inl rfl))
  (Ak (DM hu (pv 3) (AB (Aa (pv 4) (Aa (pv 5) Ac))) (A2 (FV K rfl) (Bs (Aa QV (Aa Af Ac))) (AF Ei (by rfl) h_int PyProof.Rows.boot_int (Aa (BS E5 (pv 4) (pv 5) (AO _)) Ac)) (fun _ _=>rfl)) rfl)))))
  (Ag (BB PassesOwn.never rfl (Bi K rfl (pv 2)) (AW K rfl rfl (Am (Ai (i:=4) nd rfl (Or.inl rfl)) (Am (Ai (i:=5) nd rfl (Or.inl rfl)) (Am (Ai (i:=6) nd rfl (Or.inl rfl)) AV))))
  (Ag (DM hu (pv 3) (AB (Aa (pv 4) (Aa (pv 5) Ac))) (pv 6) rfl)
  (Ak (DM hu (pv 3) (AB (Aa (pv 5) (Aa (pv 4) Ac))) (pv 6) rfl))))
  (Ag (BB PassesOwn.never rfl (Bi K rfl (pv 1)) (Ai (i:=7) nd rfl (Or.inl rfl))
  (Ak (BB PassesOwn.never rfl (Bi K rfl (pv 1)) (Ai (i:=4) nd rfl (Or.inl rfl))
  (Ak (BB PassesOwn.never rfl (Bi K rfl (pv 1)) (Ai (i:=5) nd rfl (Or.inl rfl))
  (Ak (B7 (I0 (IB (FP (Bo hu (pv 3) (AB (Aa (pv 4) (Aa (pv 7) Ac))) (fun _ _=>rfl)))) (KJ (IB (FP (Bo hu (pv 3) (AB (Aa (pv 7) (Aa (pv 5) Ac))) (fun _ _=>rfl)))))).pt
  (Ag (Ap (i:=8) nd rfl (Or.inl rfl) (Ay Ba (Bo hu (pv 3) (AB (Aa (pv 4) (Aa (pv 7) Ac))) (fun _ _=>rfl)) (Bo hu (pv 3) (AB (Aa (pv 7) (Aa (pv 5) Ac))) (fun _ _=>rfl))))
  (Ak (B7 (DL (IB (MJ (Bo hu (pv 3) (AB (Aa (pv 4) (Aa (pv 5) Ac))) (fun _ _=>rfl)))) (CD (AN Rg (pv 8) (Bo hu (pv 3) (AB (Aa (pv 4) (Aa (pv 5) Ac))) (fun _ _=>rfl)) (AO _)))).pt
  (Ak (DM hu (pv 3) (AB (Aa (pv 4) (Aa (pv 5) Ac))) (pv 8) rfl))
  AR)))
  AR)))))))
  (Ak (A4 (pv 3)))))))),?_⟩
  exists _,rfl,cc,_,_,_,rfl,rfl,A1.of hcc,rfl,q,_,rfl,A1.of hq,rfl,_,_,rfl,_,_,rfl,rfl;intro A hA;have V0:MV (upd H A (.dT [])) A (fun _ _=>none) 0:=⟨[],Ab,Z4 _,fun x y=>rfl⟩
  have nAD:∀ {b:Addr} {u:HO},H b=some u->b ≠ A:=fun z=>Ah z hA
  have strAt:∀ {i:Nat} {v:V},(xs.map V.str)[i]? = some v->∃ x,xs[i]? = some x/\v=.str x/\i < xs.length:=fun {i v} h=>by
   rw [Z6] at h;cases ex:xs[i]? with
   | none=>rw [ex] at h; cases h
   | some x=>rw [ex] at h; exact ⟨x,rfl,(ZR.inj h).symm,(ZA.mp ex).1⟩
  refine ⟨_,rfl,D,rfl,⟨_,A1.of (Ad hA _ _ hD)⟩,C7 (xs:=xs.map V.str) (fun i σ H2=>(∃ v4 v5 v6 v7 v8,σ=[some (.ref cc),some (.ref D),some (.ref e),some (.ref A),v4,v5,v6,v7,v8])/\Ao H H2/\∃ G,MV H2 A G (i * 30)/\(∀ x y v,G x y=some v->x ∈ xs/\y ∈ xs/\v=oI (if x=y then some 0 else none))/\∀ (a:Nat) x,a < i->xs[a]? = some x->∀ y ∈ xs,∃ v,G x y=some v)
   ⟨⟨_,_,_,_,_,rfl⟩,Ad hA,_,V0.up (ZX _),fun x y v h=>(by cases h),fun j x hj=>absurd hj (aK _)⟩ (fun i σ H2 _ hP=>A1.of (hP.2.1 _ _ hD)) (fun i v σ H2 hv hP rt bk N hNi=>?_) (fun σ H2 hP=>?_)⟩
  ·obtain ⟨⟨v4,v5,v6,v7,v8,rfl⟩,s2,G0,hG0,m1,m2⟩:=hP;obtain ⟨one,eone,rfl,ilt⟩:=strAt hv;refine ⟨_,rfl,D,rfl,⟨_,A1.of (s2 _ _ hD)⟩,C7 (xs:=xs.map V.str) (fun j σ H3=>(∃ v5 v6 v7 v8,σ=[some (.ref cc),some (.ref D),some (.ref e),some (.ref A),some (.str one),v5,v6,v7,v8])/\Ao H H3/\∃ G,MV H3 A G (i * 30 + j)/\(∀ x y v,G x y=some v->x ∈ xs/\y ∈ xs/\v=oI (if x=y then some 0 else none))/\(∀ (a:Nat) x,a < i->xs[a]? = some x->∀ y ∈ xs,∃ v,G x y=some v)/\∀ (b:Nat) y,b < j->xs[b]? = some y->∃ v,G one y=some v)
    ⟨⟨_,_,_,_,rfl⟩,s2,G0,hG0.up (by lia),m1,m2,fun b y hb=>absurd hb (aK _)⟩ (fun i σ H3 _ hP=>A1.of (hP.2.1 _ _ hD)) (fun j v σ H3 hv hP rt bk N hNj=>?_) (fun σ H3 hP=>?_)⟩
   ·obtain ⟨⟨v5,v6,v7,v8,rfl⟩,s3,G1,Yg,m3,m4,m5⟩:=hP;obtain ⟨oth,eoth,rfl,jlt⟩:=strAt hv;have cb:i * 30 + j < 16000000:=by
     have:i * 30<=30 * 30:=cq _ (by lia);lia
    refine ⟨(by show 2<=sizeLine; lia),fun L hL=>?_⟩;have q1:=Ad (o:=.lst [.non,.int 0]) hL;have hL':(upd H3 L (.lst [.non,.int 0])) L=some (.lst [.non,.int 0]):=Ab;generalize upd H3 L (.lst [.non,.int 0])=H4 at q1 hL' ⊢;have ix:Gk [V.non,.int 0] (if decide (V.str one=V.str oth)=true then 1 else 0)=some (oI (if one=oth then some 0 else none)):=by
     by_cases z:one=oth
     ·subst z;rw [if_pos (decide_eq_true rfl),if_pos rfl];rfl
     ·rw [if_neg (fun h=>z (by have:=of_decide_eq_true h; injection this)),if_neg z];rfl
    refine ⟨_,rfl,_,rfl,rfl,.inr ⟨_,rfl,L,_,_,_,rfl,rfl,AS.of hL',ix,?_⟩⟩;refine ⟨_,rfl,_,rfl,_,rfl,two,fun t ht=>?_⟩;have q2:=q1.trans (Ad (o:=.tup [.str one,.str oth]) ht);obtain ⟨H5,dp,hG5,kvs,e5⟩:=(Yg.same q2).put (by lia) (v:=oI (if one=oth then some 0 else none)) (t:=t) (x:=one) (y:=oth) Ab;refine ⟨A,H5,rfl,dp,hNj _ _ ⟨⟨_,_,_,_,rfl⟩,fun b u z=>?_,_,hG5.up (by lia),fun x y v h=>?_,fun a x ha ex y hy=>?_,fun b y hb ey=>?_⟩⟩
    ·rw [e5,Ae (nAD z)];exact q2 _ _ (s3 _ _ z)
    ·unfold MA at h;split at h
     ·rename_i hc
      obtain ⟨rfl,rfl⟩:=hc;cases h
      exact ⟨Z2 eone,Z2 eoth,rfl⟩
     ·exact m3 x y v h
    ·unfold MA;split
     ·exact ⟨_,rfl⟩
     ·exact m4 a x ha ex y hy
    ·unfold MA;split
     ·exact ⟨_,rfl⟩
     ·rename_i hc
      refine m5 b y ?_ ey;have:b ≠ j:=by
       rintro rfl;rw [eoth] at ey;exact hc ⟨rfl,(ZR.inj ey).symm⟩
      lia
   ·obtain ⟨⟨v5,v6,v7,v8,rfl⟩,s3,G1,Yg,m3,m4,m5⟩:=hP;rw [Z0] at Yg m5;refine hNi _ _ ⟨⟨_,_,_,_,_,rfl⟩,s3,G1,Yg.up (by lia),m3,fun a x ha ex y hy=>?_⟩;by_cases ea:a=i
    ·subst ea;rw [eone] at ex;cases ex
     obtain ⟨b,hb,eb⟩:=ZQ hy;exact m5 b y hb (by rw [Zy hb,eb])
    ·exact m4 a x (by lia) ex y hy
  obtain ⟨⟨v4,v5,v6,v7,v8,rfl⟩,s2,G,hG,m1,m2⟩:=hP;rw [Z0] at hG m2;obtain ⟨M,hMe⟩:∃ M:Str->Str->Option Int,M=fun x y=>if x=y/\x ∈ xs then some 0 else none:=⟨_,rfl⟩
  have hM:MO H2 A xs M 1000:=by
   refine ⟨G,hG.up (by lia),fun x hx y hy=>?_,fun x y hn=>?_⟩
   ·obtain ⟨a,ha,ea⟩:=ZQ hx;obtain ⟨v,hv⟩:=m2 a x ha (by rw [Zy ha,ea]) y hy;rw [hv,(m1 x y v hv).2.2,hMe];by_cases z:x=y
    ·rw [if_pos z];show _=some (oI (if x=y/\x ∈ xs then some 0 else none))
     rw [if_pos ⟨z,hx⟩]
    ·rw [if_neg z];show _=some (oI (if x=y/\x ∈ xs then some 0 else none))
     rw [if_neg (fun h=>z h.1)]
   ·cases hg:G x y with
    | none=>rfl
    | some v=>exact absurd ⟨(m1 x y v hg).1,(m1 x y v hg).2.1⟩ hn
  have m1:∀ x y n,M x y=some n->x=y/\n=0:=fun x y n h=>by
   rw [hMe] at h;dsimp only at h;split at h
   ·rename_i hc
    cases h
    exact ⟨hc.1,rfl⟩
   ·cases h
  have Xj:∀ x ∈ xs,M x x=some 0:=fun x hx=>by
   rw [hMe];exact if_pos ⟨rfl,hx⟩
  refine ⟨_,rfl,e,rfl,⟨_,A1.of (s2 _ _ hE)⟩,C7 (xs:=us) (fun i σ H3=>(∃ v4 v5 v6 v7 v8,σ=[some (.ref cc),some (.ref D),some (.ref e),some (.ref A),v4,v5,v6,v7,v8])/\Ao H H3/\∃ M,MO H3 A xs M (1000 + 2 * i)/\(∀ x y n,M x y=some n->(x=y/\n=0)\/BP ws x y n)/\(∀ x ∈ xs,M x x=some 0)/\∀ x y n,BP (ws.take i) x y n->M x y=some n)
   ⟨⟨_,_,_,_,_,rfl⟩,s2,M,(hM.up (by lia)),fun x y n h=>.inl (m1 x y n h),Xj,fun x y n h=>(by obtain ⟨u,hu,_⟩:=h; exact absurd hu Z8)⟩ (fun i σ H3 _ hP=>A1.of (hP.2.1 _ _ hE)) (fun i v σ H3 hv hP rt bk N hN=>?_) (fun σ H3 hP=>?_)⟩
  ·obtain ⟨⟨v4,v5,v6,v7,v8,rfl⟩,s3,M,hM,n1,n2,n3⟩:=hP;obtain ⟨u,tt,gu,rfl,htt⟩:=ER hW hv;have um:=Z2 gu;have une:u.1 ≠ u.2.1:=(wof u um).2.2.1;have hi:i < ws.length:=(ZA.mp gu).1;exists tt,_,rfl,A1.of (s3 _ _ htt),rfl,_,_,rfl,_,_,rfl,_,_,rfl,rfl;refine ⟨_,rfl,_,rfl,_,rfl,_,rfl,two,fun t ht=>?_⟩;obtain ⟨H4,dp,hM4,kvs,e4⟩:=(hM.same (Ad (o:=.tup [.str u.1,.str u.2.1]) ht)).put (by lia) (wof u um).1 (wof u um).2.1 (n:=u.2.2) (t:=t) (x:=u.1) (y:=u.2.1) Ab;have s4:Ao H H4:=fun b o z=>by
    rw [e4,Ae (nAD z)];exact Ad ht _ _ (s3 _ _ z)
   exists A,H4,rfl,dp;refine ⟨_,rfl,_,rfl,_,rfl,_,rfl,two,fun t2 Eu=>?_⟩;obtain ⟨H5,dp2,hM5,kvs2,e5⟩:=(hM4.same (Ad (o:=.tup [.str u.2.1,.str u.1]) Eu)).put (by lia) (wof u um).2.1 (wof u um).1 (n:=u.2.2) (t:=t2) (x:=u.2.1) (y:=u.1) Ab;refine ⟨A,H5,rfl,dp2,hN _ _ ⟨⟨_,_,_,_,_,rfl⟩,fun b o z=>?_,_,(hM5.up (by lia)),fun a b n h=>?_,fun x hx=>?_,fun a b n h=>?_⟩⟩
   ·rw [e5,Ae (nAD z)];exact Ad Eu _ _ (s4 _ _ z)
   ·unfold KA at h;split at h
    ·rename_i hc
     cases h
     exact .inr ⟨u,um,.inr ⟨hc.2.symm,hc.1.symm⟩,rfl⟩
    ·split at h
     ·rename_i hc
      cases h
      exact .inr ⟨u,um,.inl ⟨hc.1.symm,hc.2.symm⟩,rfl⟩
     ·exact n1 a b n h
   ·unfold KA;rw [if_neg (fun z=>une (z.2.symm.trans z.1)),if_neg (fun z=>une (z.1.symm.trans z.2))];exact n2 x hx
   ·have hE':BP ws a b n:=by
     obtain ⟨v,hv,r⟩:=h;exact ⟨v,cg hv,r⟩
    unfold KA;split
    ·rename_i hc
     have:=uni _ _ _ _ hE' ⟨u,um,.inr ⟨hc.2.symm,hc.1.symm⟩,rfl⟩;rw [this]
    ·rename_i hc1
     split
     ·rename_i hc
      have:=uni _ _ _ _ hE' ⟨u,um,.inl ⟨hc.1.symm,hc.2.symm⟩,rfl⟩;rw [this]
     ·rename_i RT
      refine n3 a b n ?_;obtain ⟨v,hv,ev,el⟩:=h;rw [ZH,gu] at hv;rcases ZM.mp hv with hv | hv
      ·exact ⟨v,hv,ev,el⟩
      ·have:v=u:=by simpa using hv
       subst this;rcases ev with ⟨x1,x2⟩ | ⟨x1,x2⟩
       ·exact absurd ⟨x1.symm,x2.symm⟩ RT
       ·exact absurd ⟨x2.symm,x1.symm⟩ hc1
  obtain ⟨⟨v4,v5,v6,v7,v8,rfl⟩,s3,M,hM,n1,n2,n3⟩:=hP;rw [hwl,ZP] at n3;have FW0:FW ws xs 0 M:=by
   refine ⟨fun x y n h=>?_,fun x y m g=>?_,fun x hx=>⟨0,n2 x hx,aB _⟩⟩
   ·rcases n1 x y n h with ⟨rfl,rfl⟩ | h
    ·exact .nil x
    ·have:=Bt.cons h (.nil y);rwa [dq] at this
   ·cases g with
    | edge e=>exact ⟨m,n3 x y m e,aB _⟩
    | cons _ h _=>exact absurd h Z8
  refine ⟨_,rfl,D,rfl,⟨_,A1.of (s3 _ _ hD)⟩,C7 (xs:=xs.map V.str) (fun t σ H4=>(∃ v4 v5 v6 v7 v8,σ=[some (.ref cc),some (.ref D),some (.ref e),some (.ref A),v4,v5,v6,v7,v8])/\Ao H H4/\∃ M,MO H4 A xs M (2000 + t * 1000)/\FW ws xs t M)
   ⟨⟨_,_,_,_,_,rfl⟩,s3,M,(hM.up (by lia)),FW0⟩ (fun i σ H4 _ hP=>A1.of (hP.2.1 _ _ hD)) (fun t v σ H4 hv hP rt bk N hNt=>?_) (fun σ H4 hP=>?_)⟩
  ·obtain ⟨⟨v4,v5,v6,v7,v8,rfl⟩,s4,M0,hM0,fw⟩:=hP;have strAt:∀ {i:Nat} {v:V},(xs.map V.str)[i]? = some v->∃ x,xs[i]? = some x/\v=.str x/\i < xs.length:=fun {i v} h=>by
    rw [Z6] at h;cases ex:xs[i]? with
    | none=>rw [ex] at h; cases h
    | some x=>rw [ex] at h; exact ⟨x,rfl,(ZR.inj h).symm,(ZA.mp ex).1⟩
   obtain ⟨mid,emid,rfl,tlt⟩:=strAt hv;refine ⟨_,rfl,D,rfl,⟨_,A1.of (s4 _ _ hD)⟩,C7 (xs:=xs.map V.str) (fun i σ H5=>(∃ v4 v5 v6 v8,σ=[some (.ref cc),some (.ref D),some (.ref e),some (.ref A),v4,v5,v6,some (.str mid),v8])/\Ao H H5/\∃ M,MO H5 A xs M (2000 + t * 1000 + i * 30)/\Gg M0 M/\(∀ x y n,M x y=some n->Bt ws x y n)/\∀ (a:Nat) x,a < i->xs[a]? = some x->∀ y ∈ xs,∀ p1 p2,M0 x mid=some p1->M0 mid y=some p2->∃ n,M x y=some n/\n<=p1 + p2)
    ⟨⟨_,_,_,_,rfl⟩,s4,M0,(hM0.up (by lia)),Gg.refl _,fw.sound,fun a x ha=>absurd ha (aK _)⟩ (fun i σ H5 _ hP=>A1.of (hP.2.1 _ _ hD)) (fun i v σ H5 hv hP rt bk N hNi=>?_) (fun σ H5 hP=>?_)⟩
   ·obtain ⟨⟨v4,v5,v6,v8,rfl⟩,s5,M1,Vu,Wt,Yx,Sd⟩:=hP;obtain ⟨one,eone,rfl,ilt⟩:=strAt hv;refine ⟨_,rfl,D,rfl,⟨_,A1.of (s5 _ _ hD)⟩,C7 (xs:=xs.map V.str) (fun j σ H6=>(∃ v5 v6 v8,σ=[some (.ref cc),some (.ref D),some (.ref e),some (.ref A),some (.str one),v5,v6,some (.str mid),v8])/\Ao H H6/\∃ M,MO H6 A xs M (2000 + t * 1000 + i * 30 + j)/\Gg M1 M/\(∀ x y n,M x y=some n->Bt ws x y n)/\∀ (b:Nat) y,b < j->xs[b]? = some y->∀ p1 p2,M0 one mid=some p1->M0 mid y=some p2->∃ n,M one y=some n/\n<=p1 + p2)
     ⟨⟨_,_,_,rfl⟩,s5,M1,(Vu.up (by lia)),Gg.refl _,Yx,fun b y hb=>absurd hb (aK _)⟩ (fun i σ H6 _ hP=>A1.of (hP.2.1 _ _ hD)) (fun j v σ H6 hv hP rt bk N hNj=>?_) (fun σ H6 hP=>?_)⟩
    ·obtain ⟨⟨v5,v6,v8,rfl⟩,s6,M2,Oi,VP,Q6,Ql⟩:=hP;obtain ⟨oth,eoth,rfl,jlt⟩:=strAt hv;have cb:2000 + t * 1000 + i * 30 + j < 16000000:=by
      have:t * 1000<=30 * 1000:=cq _ (by lia);have:i * 30<=30 * 30:=cq _ (by lia);lia
     have moAll:=Wt.trans VP;have keepM:∀ {H7:Hp} {v8':Option V},Ao H6 H7->(∀ p1 p2,M0 one mid=some p1->M0 mid oth=some p2->∃ n,M2 one oth=some n/\n<=p1 + p2) ->
       (∃ w5 w6 w8,([some (.ref cc),some (.ref D),some (.ref e),some (.ref A),some (.str one),some (.str oth),v6,some (.str mid),v8']:St)=[some (.ref cc),some (.ref D),some (.ref e),some (.ref A),some (.str one),w5,w6,some (.str mid),w8])/\Ao H H7/\∃ M,MO H7 A xs M (2000 + t * 1000 + i * 30 + (j + 1))/\Gg M1 M/\(∀ x y n,M x y=some n->Bt ws x y n)/\∀ (b:Nat) y,b < j + 1->xs[b]? = some y->∀ p1 p2,M0 one mid=some p1->M0 mid y=some p2->∃ n,M one y=some n/\n<=p1 + p2:=by
      intro H7 v8' s7 hv2;refine ⟨⟨_,_,_,rfl⟩,s6.trans s7,M2,((Oi.same s7).up (by lia)),VP,Q6,fun b y hb ey p1 p2 q1 q2=>?_⟩;by_cases eb:b=j
      ·subst eb;rw [eoth] at ey;cases ey
       exact hv2 p1 p2 q1 q2
      ·exact Ql b y (by lia) ey p1 p2 q1 q2
     have hone:one ∈ xs:=Z2 eone;have hoth:oth ∈ xs:=Z2 eoth;have hmid:mid ∈ xs:=Z2 emid;refine ⟨_,rfl,_,rfl,_,rfl,two,fun t1 Fi=>?_⟩;have z1:=Ad (o:=.tup [.str one,.str mid]) Fi;exists A,_,rfl,(Oi.same z1).get hone hmid Ab,_,rfl;cases eo:M2 one mid with
     | none=>
      refine Bp ?_;refine Bp ?_;refine hNj _ _ (keepM z1 fun p1 p2 q1 _=>?_);obtain ⟨n',e',_⟩:=moAll one mid p1 q1;rw [eo] at e';cases e'
     | some a1=>
      refine Cr ?_;refine ⟨_,rfl,_,rfl,_,rfl,two,fun t2 Eu=>?_⟩;have z2:=z1.trans (Ad (o:=.tup [.str mid,.str oth]) Eu);exists A,_,rfl,(Oi.same z2).get hmid hoth Ab,_,rfl;cases em:M2 mid oth with
      | none=>
       refine Bp ?_;refine hNj _ _ (keepM z2 fun p1 p2 _ q2=>?_);obtain ⟨n',e',_⟩:=moAll mid oth p2 q2;rw [em] at e';cases e'
      | some a2=>
       refine Cr ?_;refine ⟨_,rfl,_,rfl,_,rfl,two,fun t3 YO=>?_⟩;have z3:=z2.trans (Ad (o:=.tup [.str one,.str mid]) YO);have g3:=(Oi.same z3).get (x:=one) (y:=mid) (t:=t3) hone hmid Ab;rw [eo] at g3;refine ⟨A,.int a1,rfl,g3,_,rfl,_,rfl,_,rfl,two,fun t4 YN=>?_⟩;have z4:=z3.trans (Ad (o:=.tup [.str mid,.str oth]) YN);have g4:=(Oi.same z4).get (x:=mid) (y:=oth) (t:=t4) hmid hoth Ab;rw [em] at g4;exists A,.int a2,rfl,g4,_,_,rfl,rfl;have low:∀ p1 p2,M0 one mid=some p1->M0 mid oth=some p2->a1 + a2<=p1 + p2:=fun p1 p2 q1 q2=>by
        obtain ⟨n1',Ur,l1'⟩:=moAll one mid p1 q1;obtain ⟨n2',Uq,l2'⟩:=moAll mid oth p2 q2;rw [eo] at Ur;rw [em] at Uq;cases Ur
        cases Uq
        lia
       have putM:∀ {H7:Hp} (nn:Int),Ao H6 H7->nn<=a1 + a2->(∀ n,M2 one oth=some n->nn<=n)->Bt ws one oth nn->∀ t6,H7 t6=none->∃ a H8,V.ref A=.ref a/\F8 (upd H7 t6 (.tup [.str one,.str oth])) a (.ref t6) (.int nn) H8 /\
         ((∃ w5 w6 w8,([some (.ref cc),some (.ref D),some (.ref e),some (.ref A),some (.str one),some (.str oth),v6,some (.str mid),some (.int (a1 + a2))]:St)=[some (.ref cc),some (.ref D),some (.ref e),some (.ref A),some (.str one),w5,w6,some (.str mid),w8])/\Ao H H8/\∃ M,MO H8 A xs M (2000 + t * 1000 + i * 30 + (j + 1))/\Gg M1 M/\(∀ x y n,M x y=some n->Bt ws x y n)/\∀ (b:Nat) y,b < j + 1->xs[b]? = some y->∀ p1 p2,M0 one mid=some p1->M0 mid y=some p2->∃ n,M one y=some n/\n<=p1 + p2):=by
        intro H7 nn s7 YZ hle hws t6 W5;have z6:=s7.trans (Ad (o:=.tup [.str one,.str oth]) W5);obtain ⟨H8,dp,hM8,kvs,e8⟩:=(Oi.same z6).put (by lia) hone hoth (n:=nn) (t:=t6) (x:=one) (y:=oth) Ab;have mo8:Gg M2 (KA M2 one oth nn):=fun x y n h=>by
         unfold KA;split
         ·rename_i hc
          obtain ⟨rfl,rfl⟩:=hc;exact ⟨_,rfl,hle n h⟩
         ·exact ⟨n,h,aB _⟩
        refine ⟨A,H8,rfl,dp,⟨_,_,_,rfl⟩,fun b o z=>?_,_,hM8,VP.trans mo8,fun x y n h=>?_,fun b y hb ey p1 p2 q1 q2=>?_⟩
        ·rw [e8,Ae (nAD z)];exact z6 _ _ (s6 _ _ z)
        ·unfold KA at h;split at h
         ·rename_i hc
          obtain ⟨rfl,rfl⟩:=hc;cases h
          exact hws
         ·exact Q6 x y n h
        ·by_cases eb:b=j
         ·subst eb;rw [eoth] at ey;cases ey
          refine ⟨nn,?_,ff YZ (low p1 p2 q1 q2)⟩;unfold KA;rw [if_pos ⟨rfl,rfl⟩]
         ·obtain ⟨n,en,ln⟩:=Ql b y (by lia) ey p1 p2 q1 q2;obtain ⟨n',Zo,ln'⟩:=mo8 one y n en;exact ⟨n',Zo,by lia⟩
       have w12:=(Q6 _ _ _ eo).app (Q6 _ _ _ em);refine ⟨_,rfl,_,rfl,_,rfl,two,fun t5 XX=>?_⟩;have z5:=z4.trans (Ad (o:=.tup [.str one,.str oth]) XX);exists A,_,rfl,(Oi.same z5).get (x:=one) (y:=oth) (t:=t5) hone hoth Ab,_,rfl;cases ez:M2 one oth with
       | none=>
        refine Cr ?_;refine Cr ?_;refine ⟨_,rfl,_,rfl,_,rfl,_,rfl,two,fun t6 W5=>?_⟩;exact (putM (a1 + a2) z5 (aB _) (fun n h=>by rw [ez] at h; cases h) w12 t6 W5).imp fun _ h=>h.imp fun _ h=>⟨h.1,h.2.1,hNj _ _ h.2.2⟩
       | some a3=>
        refine Bp ?_;refine ⟨_,rfl,_,rfl,_,rfl,_,rfl,two,fun t6 W5=>?_⟩;have z6:=z5.trans (Ad (o:=.tup [.str one,.str oth]) W5);have g6:=(Oi.same z6).get (x:=one) (y:=oth) (t:=t6) hone hoth Ab;rw [ez] at g6;exists A,.int a3,rfl,g6,_,_,rfl,rfl,_,rfl;refine CA (fun B5=>?_) (fun B5=>?_)
        ·have B5:=of_decide_eq_true B5;refine ⟨_,rfl,_,rfl,_,rfl,_,rfl,two,fun t7 ht7=>?_⟩;exact (putM (a1 + a2) z6 (aB _) (fun n h=>by rw [ez] at h; cases h; lia) w12 t7 ht7).imp fun _ h=>h.imp fun _ h=>⟨h.1,h.2.1,hNj _ _ h.2.2⟩
        ·have B5:¬ a1 + a2 < a3:=fun z=>B5 (decide_eq_true z)
         refine hNj _ _ (keepM z6 fun p1 p2 q1 q2=>⟨a3,ez,?_⟩);have:=low p1 p2 q1 q2;lia
    ·obtain ⟨⟨v5,v6,v8,rfl⟩,s6,M2,Oi,VP,Q6,Ql⟩:=hP;rw [Z0] at Oi Ql;refine hNi _ _ ⟨⟨_,_,_,_,rfl⟩,s6,M2,(Oi.up (by lia)),Wt.trans VP,Q6,fun a x ha ex y hy p1 p2 q1 q2=>?_⟩;by_cases ea:a=i
     ·subst ea;rw [eone] at ex;cases ex
      obtain ⟨b,hb,eb⟩:=ZQ hy;exact Ql b y hb (by rw [Zy hb,eb]) p1 p2 q1 q2
     ·obtain ⟨n,en,ln⟩:=Sd a x (by lia) ex y hy p1 p2 q1 q2;obtain ⟨n',Zo,ln'⟩:=VP x y n en;exact ⟨n',Zo,by lia⟩
   ·obtain ⟨⟨v4,v5,v6,v8,rfl⟩,s5,M1,Vu,Wt,Yx,Sd⟩:=hP;rw [Z0] at Vu Sd;refine hNt _ _ ⟨⟨_,_,_,_,_,rfl⟩,s5,M1,(Vu.up (by lia)),fw.next pos ends emid Wt Yx fun x hx y hy p1 p2 q1 q2=>?_⟩;obtain ⟨a,ha,ea⟩:=ZQ hx;exact Sd a x ha (by rw [Zy ha,ea]) y hy p1 p2 q1 q2
  ·obtain ⟨⟨v4,v5,v6,v7,v8,rfl⟩,s4,M1,Vu,fw⟩:=hP;rw [Z0] at Vu fw;exact ⟨_,rfl,k H4 A s4 hA ⟨_,_,Vu.md (fun x hx y hy=>let ⟨nn,e,_⟩:=fw.doneW ends (fun x hx y hy=>let ⟨kk,a,_⟩:=mw.sums X5 S4 x hx y hy; ⟨kk,a⟩) x hx y hy; ⟨nn,e⟩),fun x hx y hy=>(fw.doneW ends (fun x hx y hy=>let ⟨kk,a,_⟩:=mw.sums X5 S4 x hx y hy; ⟨kk,a⟩) x hx y hy).imp fun nn h=>⟨by rw [if_pos ⟨hx,hy⟩]; exact h.1,h.2,mw.bound X5 S4 hx hy h.2⟩⟩⟩
end
section
variable {P:Program} {w:World} {K:Z1} {mg:Str->Option Value} {base:Heap}
theorem MP (h_abs:mg "abs"=none) (h_len:mg "len"=none) {f:Addr} {fd:FuncData} (F:D6 K "_law_pen" "_law_pen" Fb f fd):A7 P w K mg base Bq 1 f fd ["_law_script","_law_k"] (Qx K):=by
 refine F.ok Iv (fun vs H Q E h=>?_) (fun cdv A outer s H vs Q E hr h=>?_)
 ·obtain ⟨a,ns,k,rfl,_⟩:=h;rfl
 ·obtain ⟨a,ns,k,rfl,hS,k0,q⟩:=h;have nd:=Iv.nd;have big:100000 < sizeLine:=by decide
  refine ⟨_,(Ag (Ap (i:=2) nd rfl (Or.inl rfl) (Ay Ba (Ay C5 Af (pv 1)) Af))
  (Ag (B7 (AN Rg (pv 1) (Aj AH (by rfl) h_len PySem.boot_len (Aa (pv 0) Ac)) (AO _))
  (Ak (Ap (i:=2) nd rfl (Or.inl rfl) (A2 Be (pv 0) (pv 1) (fun _ _=>rfl))))
  AR)
  (Ag (B7 (AN Ri (Aj Mq (by rfl) h_abs PyProof.Rows.boot_abs (Aa (pv 2) Ac)) (Ay MK Af Af) (AO _))
  (Ak (A4 (Bs (Aa (Aj Mq (by rfl) h_abs PyProof.Rows.boot_abs (Aa (pv 2) Ac)) (Aa Af (Aa (pv 1) Ac))))))
  AR)
  (Ak (A4 (Bs (Aa (Ay Ba (Ay EH (pv 2) Af) (Ay C5 Af (pv 1))) (Aa Af (Aa (pv 1) Ac))))))))),?_⟩
  have WO:=hS.sq;exists _,rfl,_,_,rfl,rfl,.inl ⟨by decide,by decide⟩,_,_,rfl,rfl;exists _,rfl,_,rfl,a,_,rfl,.inl WO,_,_,rfl,rfl,_,rfl;refine CA (fun B5=>?_) (fun _=>?_)
  ·rw [decide_eq_true_eq,Z0] at B5;obtain ⟨c,hc⟩:=RK (ns:=ns) (i:=k) k0 B5;exists _,rfl,_,rfl,a,_,_,_,rfl,rfl,WO,hc;exists _,rfl,_,rfl,_,_,rfl,rfl,⟨by decide,by decide,by decide⟩,_,_,rfl,rfl,_,rfl;refine CA (fun _=>?_) (fun _=>?_)
   ·exact ⟨_,rfl,_,rfl,_,rfl,(by show 3<=sizeLine; decide),fun p hp=>q p _ _ _ hp⟩
   ·exact ⟨_,rfl,_,_,rfl,rfl,(by show (0:Int) < 2147483629; decide),_,rfl,_,_,rfl,rfl,.inl ⟨by decide,by decide⟩,_,_,rfl,rfl,_,rfl,(by show 3<=sizeLine; decide),fun p hp=>q p _ _ _ hp⟩
  ·exists _,rfl,_,rfl,_,_,rfl,rfl,⟨by decide,by decide,by decide⟩,_,_,rfl,rfl,_,rfl;refine CA (fun _=>?_) (fun _=>?_)
   ·exact ⟨_,rfl,_,rfl,_,rfl,(by show 3<=sizeLine; decide),fun p hp=>q p _ _ _ hp⟩
   ·exact ⟨_,rfl,_,_,rfl,rfl,(by show (0:Int) < 2147483629; decide),_,rfl,_,_,rfl,rfl,.inl ⟨by decide,by decide⟩,_,_,rfl,rfl,_,rfl,(by show 3<=sizeLine; decide),fun p hp=>q p _ _ _ hp⟩
theorem B8  {f:Addr} {fd:FuncData} (F:D6 K "_law_take" "_law_take" Bn f fd):A7 P w K mg base Bq 1 f fd ["_law_pen_here","_law_many"] Cz:=by
 refine F.ok GU (fun vs H Q E h=>?_) (fun cdv A outer s H vs Q E hr h=>?_)
 ·obtain ⟨p,m,rfl,_⟩:=h;rfl
 ·obtain ⟨p,m,rfl,⟨a,b,c,hp⟩,hm,Vt,k⟩:=h;have nd:=GU.nd;have big:100000 < sizeLine:=by decide
  refine ⟨_,(Ag (B7 (AN E5 (A2 Be (pv 0) Af (fun _ _=>rfl)) Af (AO _))
  (Ag (Ap (i:=2) nd rfl (Or.inl rfl) (Ay EH (A2 Be (pv 0) Af (fun _ _=>rfl)) (pv 1)))
  (Ag (DP (Ay LQ (A2 Be (pv 0) Af (fun _ _=>rfl)) (pv 1)) (MH (pv 0) Af Iq))
  (Ak (A4 (pv 2)))))
  AR)
  (Ag (DP (Ay Ba (A2 Be (pv 0) Af (fun _ _=>rfl)) Af) (MH (pv 0) Af Iq))
  (Ag (Ap (i:=3) nd rfl (Or.inl rfl) (Ay EH (Ay Ba (Ay Ba (Ay C5 (A2 Be (pv 0) Af (fun _ _=>rfl)) Af) (Ay C5 Af (A2 Be (pv 0) Af (fun _ _=>rfl)))) Af) Af))
  (Ag (DP (Ay EH (Ay Ba (Ay Ba (Ay C5 (pv 3) (Ay Ba (Ay EH (pv 3) Af) Af)) (Ay C5 Af (A2 Be (pv 0) Af (fun _ _=>rfl)))) Af) Af) (MH (pv 0) Af Iq))
  (Ak (A4 (Ay EH (Ay LQ (A2 Be (pv 0) Af (fun _ _=>rfl)) Af) (pv 1)))))))),?_⟩
  have sq:∀ {H':Hp} {a b c:Int},H' p=some (.lst (Au a b c))->AS K H' p (Au a b c):=fun h=>.inl (.inl h)
  exists _,rfl,p,_,_,_,rfl,rfl,sq hp,US _ _ _,rfl,_,rfl;refine CA (fun _=>?_) (fun _=>?_)
  ·exists _,rfl,p,_,_,_,rfl,rfl,sq hp,KL _ _ _,_,rfl,_,_,rfl,rfl,hm;exists _,rfl,p,_,_,_,rfl,rfl,sq hp,KL _ _ _,_,rfl,_,_,rfl,rfl,⟨hm,Vt⟩,_,rfl,p,_,_,0,rfl,rfl,hp,rfl,_,rfl;exact k _ _ _ _ (bp _ (by lia)) (bH _ hm)
  ·exists _,rfl,p,_,_,_,rfl,rfl,sq hp,MI _ _ _,_,_,rfl,rfl,_,rfl,p,_,_,2,rfl,rfl,hp,rfl;have XY:(upd H p (.lst (Au a b (c + 1)))) p=some (.lst (Au a b (c + 1))):=Ab;exists _,rfl,p,_,_,_,rfl,rfl,sq XY,KL _ _ _,_,_,rfl,rfl,.inr ⟨by decide,by decide⟩,_,rfl,p,_,_,_,rfl,rfl,sq XY,MI _ _ _,_,_,rfl,rfl,.inl ⟨by decide,by decide⟩,_,_,rfl,rfl,_,_,rfl,rfl,_,_,rfl,rfl,(by show (0:Int) < 2147483647; decide)
   have h0:0<=(a * 48271 + 30011 * (c + 1) + 977) % 2147483647:=bp _ (by decide);have h1:(a * 48271 + 30011 * (c + 1) + 977) % 2147483647 < 2147483647:=bH _ (by decide);exists _,rfl,_,rfl,_,_,rfl,rfl,(by show (0:Int) < 65521; decide),_,_,rfl,rfl,_,_,rfl,rfl,.inl ⟨Int.lt_of_lt_of_le (b:=0) (by decide) h0,Int.lt_trans h1 (by decide)⟩,_,rfl,p,_,_,_,rfl,rfl,sq XY,MI _ _ _,_,_,rfl,rfl,.inl ⟨by decide,by decide⟩,_,_,rfl,rfl,_,_,rfl,rfl,_,_,rfl,rfl,(by show (0:Int) < 2147483587; decide),_,rfl,p,_,_,0,rfl,rfl,XY,rfl;exists _,rfl,p,_,_,_,rfl,rfl,sq Ab,KL _ _ _,_,_,rfl,rfl,⟨by decide,by decide⟩,_,rfl,_,_,rfl,rfl,hm;rw [FE];exact k _ _ _ _ (bp _ (by lia)) (bH _ hm)
end
section
variable {P:Program} {w:World} {K:Z1} {mg:Str->Option Value} {base:Heap}
theorem Hh (h_len:mg "len"=none) (h_list:mg "list"=none) (h_min:mg "min"=none) (h_range:mg "range"=none) {fT:Addr} {fdT:FuncData} (XT:Fn K mg "_law_take" Bn ["_law_pen_here","_law_many"] fT fdT) (GT:A7 P w K mg base Bq 1 fT fdT ["_law_pen_here","_law_many"] Cz) {f:Addr} {fd:FuncData} (F:D6 K "_law_some" "_law_some" Ds f fd):A7 P w K mg base Bq 2 f fd ["_law_pen_here","_law_names_here","_law_most"] K4:=by
 refine F.ok GV (fun vs H Q E h=>?_) (fun cdv A outer s H vs Q E hr h=>?_)
 ·obtain ⟨p,e,xs,most,rfl,_⟩:=h;rfl
 ·obtain ⟨p,e,xs,most,rfl,P0,he,nep,x1,x30,m1,m30,k⟩:=h;have nd:=GV.nd;have big:100000 < sizeLine:=by decide
  refine ⟨_,(Ag (Ap (i:=3) nd rfl (Or.inr rfl) (AF Ga (by rfl) h_list PyProof.Rows.boot_list (Aa (pv 1) Ac)))
  (Ak (A4 (Bl (N:=["_law_k","_law_pen_here","_law_pool"]) (σ0:=fun σ=>[none,some 0,some 3].map fun j=>j.bind fun j=>(σ[j]?).join) rfl (AJ.caught (by rfl) (by decide +kernel) rfl (by decide +kernel) (by intro y hy; simp only [Z3,Z8,or_false] at hy; rcases hy with rfl | rfl <;> rfl)
   (by intro y hy e; simp only [Z3,Z8,or_false] at hy; rcases hy with rfl | rfl | rfl | rfl | rfl | rfl <;> first | exact ⟨_,rfl⟩ | cases e)) (fun σ _=>Bj.of [none,some 0,some 3] rfl (by
   intro i j x h1 h2;match i,h1,h2 with
   | 0,_,h2=>cases h2
   | 1,h1,h2=>cases h1; cases h2; exact ⟨rfl,.inl rfl,.inl rfl⟩
   | 2,h1,h2=>cases h1; cases h2; exact ⟨rfl,.inl rfl,.inl rfl⟩
   | n + 3,h1,_=>cases h1)) (CF (by rfl) h_range (Aa (Aj (Kt rfl) (by rfl) h_min PyProof.Rows.boot_min (Aa (Aj AH (by rfl) h_len PySem.boot_len (Aa (pv 1) Ac)) (Aa (Ay Ba Af (Al GT (hr.mono (by decide)) (by rfl) XT.mg XT.F.kp XT.b .nil Av (Aa (pv 0) (Aa (pv 2) Ac)))) Ac))) Ac))
   (fun s2 H C fp=>⟨(Ai (i:=0) (show (["_law_k","_law_pen_here","_law_pool"]:List Str).Nodup by decide +kernel) rfl (Or.inl rfl)),Bd,(UU K rfl PySem.F.plainAttrs_list PySem.F.slot_list_pop PySem.F.type_list_pop Ma (pv 2) (Aa (Al GT (hr.mono (by decide)) (by rfl) XT.mg XT.F.kp XT.b .nil Av (Aa (pv 1) (Aa (Aj (AK K rfl) (by rfl) h_len PySem.boot_len (Aa (pv 2) Ac)) Ac))) Ac))⟩))))),?_⟩
  refine ⟨_,rfl,e,_,rfl,.inl (AS.of he),fun PL hPL=>?_⟩;have s0:=Ad (o:=.lst (xs.map V.str)) hPL;have nPL:PL ≠ p:=P0.ne hPL;have P1:Ax (upd H PL (.lst (xs.map V.str))) p:=P0.other nPL;have hPP:(upd H PL (.lst (xs.map V.str))) PL=some (.lst (xs.map V.str)):=Ab;generalize upd H PL (.lst (xs.map V.str))=H1 at s0 P1 hPP;refine ⟨_,rfl,e,_,rfl,.inl (AS.of (s0 _ _ he)),_,rfl,_,rfl,p,most,rfl,P1,by lia,by lia,fun d a b c d0 d1=>⟨_,_,rfl,rfl,_,_,rfl,_,rfl,?_,?_,?_⟩⟩
  ·split <;> lia
  ·split <;> lia
  rw [Z0];obtain ⟨n,en,n1,nm,nx⟩:∃ n:Nat,(if (1 + d) < (xs.length:Int) then (1 + d) else (xs.length:Int)).toNat=n/\1<=n/\(n:Int)<=most/\n<=xs.length:=by
   refine ⟨_,rfl,?_,?_,?_⟩ <;> (split <;> lia)
  rw [en];have P2:Ax (upd H1 p (.lst (Au a b c))) p:=Ax.set a b c;have Yf:(upd H1 p (.lst (Au a b c))) PL=some (.lst (xs.map V.str)):=by rw [Ae nPL]; exact hPP
  have k2:∀ b' o,b' ≠ p->b' ≠ PL->H b'=some o->(upd H1 p (.lst (Au a b c))) b'=some o:=fun b' o hb _ z=>by rw [Ae hb]; exact s0 _ _ z
  have fr:∀ D,(upd H1 p (.lst (Au a b c))) D=none->H D=none:=fun D hD=>by
   have nD:=P2.ne hD;rw [Ae nD] at hD;cases z:H D with
   | none=>rfl
   | some o=>rw [s0 _ _ z] at hD; cases hD
  generalize upd H1 p (.lst (Au a b c))=H2 at P2 Yf k2 fr;refine LJ (n:=n) (fun D i σ H' acc=>∃ (v0:Option V) (ys left:List Str),σ=[v0,some (.ref p),some (.ref PL)]/\Ax H' p/\(∀ b o,b ≠ p->b ≠ PL->H b=some o->H' b=some o)/\H' PL=some (.lst (left.map V.str))/\H' D=some (.lst acc)/\acc=ys.map V.str/\acc.length=i/\(ys ++ left).Perm xs)
   (by lia) (fun D hD=>⟨_,[],xs,rfl,P2.other (P2.ne hD),fun b o h1 h2 z=>by rw [Ae (Ah z (fr D hD))]; exact k2 b o h1 h2 z,by rw [Ae (Ah Yf hD)]; exact Yf,Ab,rfl,rfl,List.Perm.refl _⟩)
   (fun D i σ H' acc hD ⟨v0,ys,left,_,_,_,_,AQ,_,al,_⟩=>⟨AQ,al⟩) ?_ ?_
  ·rintro D i σ H' acc B hD hi ⟨v0,ys,left,rfl,P3,k3,h3,AQ,ea,al,pm⟩ hB;have yl:ys.length=i:=by rw [<-al,ea,Z0]
   have ll:ys.length + left.length=xs.length:=by rw [<-Z7]; exact pm.length_eq
   have nD:=P2.ne hD;have nDP:D ≠ PL:=fun z=>by rw [z,Yf] at hD; cases hD
   refine ⟨_,rfl,.inl ⟨rfl,_,AS.of h3⟩,_,rfl,_,rfl,PL,_,rfl,.inl (AS.of h3),p,_,rfl,P3,?_,?_,fun e' a1 b1 c1 Yl Wb=>?_⟩
   ·rw [Z0]; lia
   ·rw [Z0]; lia
   rw [Z0] at Wb;obtain ⟨q,rfl⟩:∃ q:Nat,e'=(q:Int):=⟨e'.toNat,by lia⟩
   have hq:q < left.length:=by lia
   have hget:left[q]? = some left[q]:=Zy hq;have h4:(upd H' p (.lst (Au a1 b1 c1))) PL=some (.lst (left.map V.str)):=by rw [Ae nPL]; exact h3
   exists PL,_,_,q,.str left[q],rfl,rfl,h4,by lia,by lia,?_,by rw [Z6,hget]; rfl
   ·rw [Z0];exact (HX (by show Rw left.length (q:Int)=some q; unfold Rw; rw [if_pos (by lia),if_pos (by lia)]; rfl)).1
   rw [Gz];refine hB _ _ _ (by rw [Ae nDP,Ae nD]; exact AQ) ⟨_,ys ++ [left[q]],left.eraseIdx q,rfl,((Ax.set a1 b1 c1).other nPL).other nD,fun b' o hb Ia z=>?_,?_,Ab,by rw [ea,ZC]; rfl,by rw [Z7,al]; rfl,?_⟩
   ·rw [Ae (Ah z (fr D hD)),Ae Ia,Ae hb];exact k3 b' o hb Ia z
   ·rw [Ae nDP.symm];exact Ab
   ·refine List.Perm.trans ?_ pm;rw [aP];exact List.Perm.append_left _ (E6 hget)
  ·rintro D σ H' acc hD ⟨v0,ys,left,rfl,P3,k3,h3,AQ,ea,al,pm⟩;have yl:ys.length=n:=by rw [<-al,ea,Z0]
   exact k H' D ys left P3 (fun b' o hb z=>k3 b' o hb (Ah z hPL) z) (fr D hD) (by rw [AQ,ea]) pm (by lia) (by lia)
end
section
variable {P:Program} {w:World} {K:Z1} {mg:Str->Option Value} {base:Heap}
theorem KS (h_len:mg "len"=none) (h_range:mg "range"=none) {fT:Addr} {fdT:FuncData} (XT:Fn K mg "_law_take" Bn ["_law_pen_here","_law_many"] fT fdT) (GT:A7 P w K mg base Bq 1 fT fdT ["_law_pen_here","_law_many"] Cz) {f:Addr} {fd:FuncData} (F:D6 K "_law_names" "_law_names" DG f fd):A7 P w K mg base Bq 2 f fd ["_law_pen_here","_law_many"] LD:=by
 refine F.ok FI (fun vs H Q E h=>?_) (fun cdv A outer s H vs Q E hr h=>?_)
 ·obtain ⟨p,n,rfl,_⟩:=h;rfl
 ·obtain ⟨p,n,rfl,hP,hn,k⟩:=h;have nd:=FI.nd;have big:100000 < sizeLine:=by decide
  refine ⟨_,(Ag (Ap (i:=2) nd rfl (Or.inr rfl) Fy)
  (Ag (Ap (i:=3) nd rfl (Or.inl rfl) (Hf PySem.F.plainAttrs_str PySem.F.slot_str_join PySem.F.type_str_join S6 Fy (Aa (Bl (N:=["_law_k","_law_pen_here","_law_letters"]) (σ0:=fun σ=>[none,some 0,some 2].map fun j=>j.bind fun j=>(σ[j]?).join) rfl (AJ.caught (by rfl) (by decide +kernel) rfl (by decide +kernel) (by intro y hy; simp only [Z3,Z8,or_false] at hy; rcases hy with rfl | rfl <;> rfl)
   (by intro y hy e; simp only [Z3,Z8,or_false] at hy; rcases hy with rfl | rfl | rfl | rfl | rfl <;> first | exact ⟨_,rfl⟩ | cases e)) (fun σ _=>Bj.of [none,some 0,some 2] rfl (by
   intro i j x h1 h2;match i,h1,h2 with
   | 0,_,h2=>cases h2
   | 1,h1,h2=>cases h1; cases h2; exact ⟨rfl,.inl rfl,.inl rfl⟩
   | 2,h1,h2=>cases h1; cases h2; exact ⟨rfl,.inl rfl,.inl rfl⟩
   | n + 3,h1,_=>cases h1)) (CF (by rfl) h_range (Aa (Al GT (hr.mono (by decide)) (by rfl) XT.mg XT.F.kp XT.b .nil Av (Aa (pv 0) (Aa Af Ac))) Ac))
   (fun s2 H C fp=>⟨(Ai (i:=0) (show (["_law_k","_law_pen_here","_law_letters"]:List Str).Nodup by decide +kernel) rfl (Or.inl rfl)),Bd,(A2 Rv (pv 2) (Al GT (hr.mono (by decide)) (by rfl) XT.mg XT.F.kp XT.b .nil Av (Aa (pv 1) (Aa Af Ac))) (fun _ _=>rfl))⟩)) Ac)))
  (Ag (Ap (i:=4) nd rfl (Or.inl rfl) (Al GT (hr.mono (by decide)) (by rfl) XT.mg XT.F.kp XT.b .nil Av (Aa (pv 0) (Aa (Ay Ba (Aj Gb (by rfl) h_len PySem.boot_len (Aa (pv 3) Ac)) Af) Ac))))
  (Ag (Ap (i:=5) nd rfl (Or.inl rfl) (Al GT (hr.mono (by decide)) (by rfl) XT.mg XT.F.kp XT.b .nil Av (Aa (pv 0) (Aa Af Ac))))
  (Ag (Ap (i:=6) nd rfl (Or.inl rfl) (A2 Be (Bs (Aa Af (Aa Af (Aa Af (Aa Af Ac))))) (Al GT (hr.mono (by decide)) (by rfl) XT.mg XT.F.kp XT.b .nil Av (Aa (pv 0) (Aa Af Ac))) (fun _ _=>rfl)))
  (Ag (Ap (i:=7) nd rfl (Or.inl rfl) (Al GT (hr.mono (by decide)) (by rfl) XT.mg XT.F.kp XT.b .nil Av (Aa (pv 0) (Aa Af Ac))))
  (Ag (Ap (i:=8) nd rfl (Or.inl rfl) (Bs Ac))
  (Ag (BB PassesOwn.never rfl (CF (by rfl) h_range (Aa (pv 1) Ac)) (Ai (i:=9) nd rfl (Or.inl rfl))
  (Ag (Ap (i:=10) nd rfl (Or.inl rfl) (A2 Rv (pv 2) (Ay EH (Ay Ba (pv 5) (Ay C5 (pv 6) (pv 9))) Af) (fun _ _=>rfl)))
  (Ak (FN (Hf PySem.F.plainAttrs_list PySem.F.slot_list_append PySem.F.type_list_append CH (pv 8) (Aa (Ay Fz (Ay Fz (Ay Fz (FO (pv 3) Ck (Cj (pv 4))) (pv 10)) (FO (pv 3) (Cj (pv 4)) Ck)) (Ay Rf Fy (Ay C5 (pv 7) (Ay EH (pv 9) Af)))) Ac))))))
  (Ak (A4 (pv 8))))))))))),?_⟩
  refine ⟨rfl,_,rfl,p,5,rfl,hP,by decide,by decide,fun d a b c da db=>⟨_,rfl,by lia,by lia,?_⟩⟩;show ∀ D,(upd H p (.lst (Au a b c))) D=none->_
  have P1:Ax (upd H p (.lst (Au a b c))) p:=Ax.set a b c;have q1:Az p H (upd H p (.lst (Au a b c))):=Az.upd;generalize upd H p (.lst (Au a b c))=H1 at P1 q1;refine LJ (n:=d.toNat) (fun D i σ H' acc=>∃ (v0:Option V) (ss:List Str),σ=[v0,some (.ref p),some (.str FU)]/\Ax H' p/\Az p H1 H'/\H' D=some (.lst acc)/\acc=ss.map V.str/\acc.length=i/\∀ s ∈ ss,s.length=1/\Tq s)
   (by lia) (fun D hD=>⟨_,[],rfl,P1.other (P1.ne hD),Az.of_same (Ad hD),Ab,rfl,rfl,fun s hs=>nomatch hs⟩) (fun D i σ H' acc hD ⟨v0,ss,_,_,_,AQ,_,al,_⟩=>⟨AQ,al⟩) ?_ ?_
  ·rintro D i σ H' acc B hD hi ⟨v0,ss,rfl,P2,q2,AQ,ea,al,lo⟩ hB;have nD:=P1.ne hD;refine ⟨_,rfl,_,rfl,p,26,rfl,P2,by decide,by decide,fun e a1 b1 c1 Yl Wb=>?_⟩;have lc:=Ho _ (Lj (Et Yl Wb));exists _,_,_,rfl,rfl,by decide,Et Yl Wb
   refine hB _ _ _ (by rw [Ae nD]; exact AQ) ⟨_,ss ++ [⟨#[97 + e.toNat]⟩],rfl,(Ax.set a1 b1 c1).other nD,fun b' o hb z=>?_,Ab,by rw [ea,ZC]; rfl,by rw [Z7,al]; rfl,fun s hs=>?_⟩
   ·rw [Ae (Ah z hD),Ae hb];exact q2 b' o hb z
   ·rcases ZM.mp hs with hs | hs
    ·exact lo s hs
    ·rw [ZN] at hs;subst hs;refine ⟨rfl,fun c hc=>?_⟩;have:c=97 + e.toNat:=by simpa using hc
     subst this;exact lc
  rintro D0 σ0 H2 acc hD0 ⟨v0,ss,rfl,P2,q2,AQ,ea,al,lo⟩;obtain ⟨j1,j2,j3⟩:=Ru lo;have sl:ss.length=d.toNat:=by rw [<-al,ea,Z0]
  exists _,D0,ss,rfl,rfl,by rw [AQ,ea],by decide,by lia
  generalize Txt.join (Str.ofString "") ss=bs at j1 j2;have bl:bs.length<=4:=by lia
  refine ⟨_,rfl,_,rfl,bs,rfl,by lia,_,_,rfl,rfl,p,_,rfl,P2,by lia,by lia,fun at' a2 b2 c2 at0 Uu=>?_⟩;refine ⟨_,rfl,p,26,rfl,Ax.set a2 b2 c2,by decide,by decide,fun st a3 b3 c3 Il st1=>?_⟩;rw [FE];refine ⟨(by show 4<=sizeLine; lia),fun T8 hT8=>?_⟩;have n8:T8 ≠ p:=(Ax.set (H:=H2) (p:=p) a3 b3 c3).ne hT8;refine ⟨_,rfl,p,4,rfl,(Ax.set a3 b3 c3).other n8,by decide,by decide,fun e8 a4 b4 c4 e8a e8b=>?_⟩;obtain ⟨sp,hsp⟩:=RK (ns:=[1,5,7,11]) e8a e8b;exists T8,_,_,.int sp,rfl,rfl,AS.of (by rw [Ae n8]; exact Ab),hsp;have spm:sp ∈ ([1,3,5,7,9,11,15,17]:List Int):=by
   have:=Lj hsp;simp only [ZL,cD,Z3,V.int.injEq,Z8,or_false] at this;rcases this with rfl | rfl | rfl | rfl <;> simp
  have spb:0<=sp/\sp<=17:=by
   simp only [Z3,Z8,or_false] at spm;rcases spm with rfl | rfl | rfl | rfl | rfl | rfl | rfl | rfl <;> lia
  have P4:Ax (upd (upd (upd H2 p (.lst (Au a3 b3 c3))) T8 (.lst [.int 1,.int 5,.int 7,.int 11])) p (.lst (Au a4 b4 c4))) p:=Ax.set _ _ _;have q4:Az p H2 (upd (upd (upd H2 p (.lst (Au a3 b3 c3))) T8 (.lst [.int 1,.int 5,.int 7,.int 11])) p (.lst (Au a4 b4 c4))):=(Az.upd.trans (Az.of_same (Ad hT8))).trans Az.upd;generalize upd (upd (upd H2 p (.lst (Au a3 b3 c3))) T8 (.lst [.int 1,.int 5,.int 7,.int 11])) p (.lst (Au a4 b4 c4))=H4 at P4 q4;refine ⟨_,rfl,p,2,rfl,P4,by decide,by decide,fun mo a5 b5 c5 mo0 Wt=>?_⟩;have P5:Ax (upd H4 p (.lst (Au a5 b5 c5))) p:=Ax.set _ _ _;have q5:Az p H (upd H4 p (.lst (Au a5 b5 c5))):=((q1.trans q2).trans q4).trans Az.upd;generalize upd H4 p (.lst (Au a5 b5 c5))=H5 at P5 q5;refine ⟨(by show 0<=sizeLine; lia),fun D hD=>?_⟩;have nD:D ≠ p:=P5.ne hD;have fD:H D=none:=by
   cases z:H D with
   | none=>rfl
   | some o=>rw [q5 _ _ nD z] at hD; cases hD
  exists _,rfl,n,rfl,by lia,by lia
  refine Dn (n:=n) (lo:=0) (fun j σ H'=>∃ (xs:List Str) (v9 v10:Option V),σ=[some (.ref p),some (.int n),some (.str FU),some (.str bs),some (.int at'),some (.int st),some (.int sp),some (.int mo),some (.ref D),v9,v10]/\H'=upd H5 D (.lst (xs.map V.str))/\xs.length=j/\(∀ x ∈ xs,AY x=true)/\∀ (i:Nat) x,xs[i]? = some x->∃ tl,x.cps.toList=(Txt.slice bs none (some at')).cps.toList ++ (OW n st sp i ++ tl))
   ⟨[],_,_,rfl,rfl,rfl,(fun x hx=>nomatch hx),(fun i x e=>by simp at e)⟩ ?_ ?_
  ·rintro j σ H' hj ⟨xs,v9,v10,rfl,rfl,xl,nm,sh⟩;have r0:0<=(st + sp * (0 + (j:Int))) % 26:=bp _ (by decide);have r1:(st + sp * (0 + (j:Int))) % 26 < 26:=bH _ (by decide);exists _,rfl,_,rfl,_,rfl,_,rfl,_,_,rfl,rfl,.inl ⟨by lia,by lia⟩,_,_,rfl,rfl,_,_,rfl,rfl,(by show (0:Int) < 26; decide),_,_,_,rfl,rfl,by decide,Et r0 r1
   have lc:=Ho _ (Lj (Et r0 r1));have s1:=Q7 (z:=bs) at0 (by lia);have s2:=M9 (z:=bs) at0 (by lia);have w1:=JZ (z:=bs) none (some at') j1;have w2:=JZ (z:=bs) (some at') none j1;have dD:(upd H5 D (.lst (xs.map V.str))) D=some (.lst (xs.map V.str)):=Ab;have m01:mo * ((0 + (j:Int)) % 2)=0\/mo * ((0 + (j:Int)) % 2)=1:=by
    have e1:mo=0\/mo=1:=by lia
    have e2:(0 + (j:Int)) % 2=0\/(0 + (j:Int)) % 2=1:=by lia
    rcases e1 with rfl | rfl <;> rcases e2 with e2 | e2 <;> rw [e2] <;> simp
   have hz:∀ z:Str,z=(if mo * ((0 + (j:Int)) % 2)=1 then Str.ofString "n" else Str.empty)->z.length<=1/\Tq z:=fun z e=>by
    subst e;split
    ·refine ⟨by decide,fun c hc=>?_⟩;have e:(Str.ofString "n").cps.toList=[110]:=by decide +kernel
     rw [e,ZN] at hc;subst hc;decide
    ·exact ⟨by decide,fun c hc=>by cases hc⟩
   obtain ⟨zz,ezz⟩:∃ zz,zz=(if mo * ((0 + (j:Int)) % 2)=1 then Str.ofString "n" else Str.empty):=⟨_,rfl⟩
   obtain ⟨z1,z2⟩:=hz zz ezz;have fin:∀ (x:Str),x=Txt.slice bs none (some at') ++ ⟨#[97 + ((st + sp * (0 + (j:Int))) % 26).toNat]⟩ ++ Txt.slice bs (some at') none ++ zz->AY x=true/\∃ tl,x.cps.toList=(Txt.slice bs none (some at')).cps.toList ++ (OW n st sp j ++ tl):=fun x e=>by
    have ec:x.cps.toList=(Txt.slice bs none (some at')).cps.toList ++ ([97 + ((st + sp * (0 + (j:Int))) % 26).toNat] ++ ((Txt.slice bs (some at') none).cps.toList ++ zz.cps.toList)):=by
     rw [e,Str.cps_append,Str.cps_append,Str.cps_append,cu,cu,cu,aP,aP]
    have el:x.length=(Txt.slice bs none (some at')).length + 1 + (Txt.slice bs (some at') none).length + zz.length:=by
     rw [e,Str.length_append,Str.length_append,Str.length_append];rfl
    exists Rl (by lia) (by lia) fun c hc=>?_
    ·rw [ec,ZM,ZM,ZM,ZN] at hc;rcases hc with hc | hc | hc | hc
     ·exact w1 c hc
     ·rw [hc]; exact lc
     ·exact w2 c hc
     ·exact z2 c hc
    ·exists (Txt.slice bs (some at') none).cps.toList ++ zz.cps.toList;rw [ec];unfold OW;rw [if_neg (by lia),cJ]
   exists _,rfl,.inl ⟨rfl,_,AS.of dD⟩,_,rfl,_,rfl,_,rfl,bs,rfl,by lia,_,rfl,_,_,rfl,rfl,?_,_,rfl,_,rfl,_,rfl,bs,rfl,by lia,_,_,rfl,rfl,?_,_,rfl,_,rfl,_,_,rfl,rfl,(by show (0:Int) < 2; decide),_,_,rfl,rfl,.inl ⟨by lia,by lia⟩,_,_,rfl,rfl,m01,_,_,rfl,rfl,?_,D,_,_,rfl,rfl,dD,(by rw [Z0]; lia)
   ·show (Txt.slice bs none (some at')).length + 1<=sizeLine
    lia
   ·rw [Str.length_append];show (Txt.slice bs none (some at')).length + 1 + _<=sizeLine
    lia
   ·rw [<-ezz,Str.length_append,Str.length_append];show (Txt.slice bs none (some at')).length + 1 + _ + _<=sizeLine
    lia
   rw [<-ezz];obtain ⟨f1,f2⟩:=fin _ rfl;refine ⟨xs ++ [_],_,_,rfl,by rw [FE,ZC]; rfl,by rw [Z7,xl]; rfl,fun x hx=>?_,fun i x e=>?_⟩
   ·rcases ZM.mp hx with hx | hx
    ·exact nm x hx
    ·rw [ZN.mp hx];exact f1
   ·by_cases hi:i < xs.length
    ·rw [aE hi] at e;exact sh i x e
    ·have WD:i=j:=by
      have:=(ZA.mp e).1;rw [Z7,aZ] at this;lia
     subst WD;rw [ao (by lia),xl,dt,au] at e;rw [<-ZR.inj e];exact f2
  ·rintro σ H' ⟨xs,v9,v10,rfl,rfl,xl,nm,sh⟩;exact ⟨_,rfl,k _ D xs (P5.other nD) (fun b' o hb z=>by rw [Ae (Ah z fD)]; exact q5 _ _ hb z) fD Ab xl (LZ sh fun i j hij hj tl U9=>Va (by lia) spm hij (by lia) tl U9) nm⟩
end
section
variable {P:Program} {w:World} {K:Z1} {mg:Str->Option Value} {base:Heap}
theorem Qj (h_sorted:mg "sorted"=none) (h_tuple:mg "tuple"=none) {fT:Addr} {fdT:FuncData} (XT:Fn K mg "_law_take" Bn ["_law_pen_here","_law_many"] fT fdT) (GT:A7 P w K mg base Bq 1 fT fdT ["_law_pen_here","_law_many"] Cz)
  {f:Addr} {cdv:Value} {A:Around} {outer:List Env} {s:Shared} {H:Hp} {E:XK} (hr:DA 1 (A.deeper (PyProof.Rows.envOfC "_law_ways" (An Cp) s.heap.objs.size f cdv))) :
  ∃ t,Mt (JI Bq P w K mg base ["_law_pen_here","_law_names_here","_law_kind","_law_size","_law_pairs","_law_k","_law_other","_law_one"] "_law_ways" (An Cp) f cdv A outer s H E).nox ((Cn Cp).drop 4) t /\
   ∀ (W:EV) (H1:Hp) (p e L:Addr) (kd sz:Int) (v5 v6 v7:Option V) (us:List V) (qs:List (Str × Str)) (xs:List Str),Ax H1 p->H1 L=some (.lst us)->L ≠ p->BV H1 us (qs.map Eb)->D3 xs (qs.map LP)->us.length<=30->1<=sz->sz<=9 ->
    (∀ (H':Hp) (T:Addr) (O0:List V) (ws Gj:List AI),Ax H' p->Az p H1 H'->H' T=some (.tup O0)->AE H' O0 (ws.map EB)->ws.Perm (Gj.map Er)->D3 xs Gj->(∀ u ∈ Gj,u.2.2<=9)->Gj.length<=30->W.rt (.ref T) H') ->
    t W [some (.ref p),some (.ref e),some (.int kd),some (.int sz),some (.ref L),v5,v6,v7] H1:=by
 have nd:=EE.nd;have hu:=CV hr;have big:100000 < sizeLine:=by decide
 refine ⟨_,(Ak (A4 (AF B3 (by rfl) h_tuple PyProof.Rows.boot_tuple (Aa (Aj (F6 K rfl) (by rfl) h_sorted PyProof.Rows.boot_sorted (Aa (Bl (N:=["_law_pair","_law_pen_here","_law_size"]) (σ0:=fun σ=>[none,some 0,some 3].map fun j=>j.bind fun j=>(σ[j]?).join) rfl (AJ.caught (by rfl) (by decide +kernel) rfl (by decide +kernel) (by intro y hy; simp only [Z3,Z8,or_false] at hy; rcases hy with rfl | rfl <;> rfl)
   (by intro y hy e; simp only [Z3,Z8,or_false] at hy; rcases hy with rfl | rfl | rfl | rfl | rfl | rfl | rfl <;> first | exact ⟨_,rfl⟩ | cases e)) (fun σ _=>Bj.of [none,some 0,some 3] rfl (by
   intro i j x h1 h2;match i,h1,h2 with
   | 0,_,h2=>cases h2
   | 1,h1,h2=>cases h1; cases h2; exact ⟨rfl,.inl rfl,.inl rfl⟩
   | 2,h1,h2=>cases h1; cases h2; exact ⟨rfl,.inl rfl,.inl rfl⟩
   | n + 3,h1,_=>cases h1)) (Fe (pv 4))
   (fun s2 H C fp=>⟨(Ai (i:=0) (show (["_law_pair","_law_pen_here","_law_size"]:List Str).Nodup by decide +kernel) rfl (Or.inl rfl)),Bd,(Ay (LR K rfl) (AF (Dz K rfl) (by rfl) h_tuple PyProof.Rows.boot_tuple (Aa (Aj HM (by rfl) h_sorted PyProof.Rows.boot_sorted (Aa (pv 0) Ac)) Ac)) (AB (Aa (Ay Ba Af (Al GT (hr.mono (by decide)) (by rfl) XT.mg XT.F.kp XT.b .nil Av (Aa (pv 1) (Aa (pv 2) Ac)))) Ac)))⟩)) Ac)) Ac)))),?_⟩
 intro W H1 p e L kd sz v5 v6 v7 us qs xs P1 hL nL tU wc ul z1 z9 k;have ql:us.length=qs.length:=by rw [tU.len,Z0]
 exists _,rfl,L,rfl,⟨_,AS.of hL⟩
 refine Br Dm (xs:=us) (fun D j σ H' acc=>∃ (v0:Option V) (ls:List Int),σ=[v0,some (.ref p),some (.int sz)]/\Ax H' p/\Az p H1 H'/\H' D=some (.lst acc)/\acc.length=j/\ls.length=j/\(∀ l ∈ ls,1<=l/\l<=9)/\AE H' acc (((qs.zip ls).map fun c=>Er (c.1.2,c.1.1,c.2)).map EB))
  (by lia) (fun D hD=>⟨_,[],rfl,P1.other (P1.ne hD),Az.of_same (Ad hD),Ab,rfl,rfl,(fun l hl=>nomatch hl),by rw [List.zip_nil_right]; exact .nil⟩)
  (fun D j σ H' acc hD ⟨v0,ls,_,_,kp,AQ,al,_⟩=>⟨AS.of (kp _ _ nL hL),AQ,al⟩) ?_ ?_
 ·rintro D j σ H' acc x' B hD ex ⟨v0,ls,rfl,P2,kp,AQ,al,ll,lb,dd⟩ hB;obtain ⟨t,g,rfl,eg,ht⟩:=tU.get ex;obtain ⟨q,eq,rfl⟩:∃ q,qs[j]? = some q/\g=Eb q:=by
   rw [Z6] at eg;cases z:qs[j]? with
   | none=>rw [z] at eg; cases eg
   | some q=>rw [z] at eg; exact ⟨q,rfl,(ZR.inj eg).symm⟩
  have nD:=P1.ne hD;have tp:t ≠ p:=by intro y; subst y; obtain ⟨_,_,_,y⟩:=P1; rw [y] at ht; cases ht
  have Eu:=kp _ _ tp ht;refine ⟨_,rfl,t,q.1,q.2,rfl,Eu,fun l hl=>⟨l,_,rfl,.inl ⟨AS.of Ab,fun T1 R7=>?_⟩⟩⟩;have s1:=(Ad (o:=.lst [.str (Cb q.1 q.2),.str (Cc q.1 q.2)]) hl).trans (Ad (o:=.tup [.str (Cb q.1 q.2),.str (Cc q.1 q.2)]) R7);have SN:(upd (upd H' l (.lst [.str (Cb q.1 q.2),.str (Cc q.1 q.2)])) T1 (.tup [.str (Cb q.1 q.2),.str (Cc q.1 q.2)])) T1=some (.tup [.str (Cb q.1 q.2),.str (Cc q.1 q.2)]):=Ab;have P3:Ax (upd (upd H' l (.lst [.str (Cb q.1 q.2),.str (Cc q.1 q.2)])) T1 (.tup [.str (Cb q.1 q.2),.str (Cc q.1 q.2)])) p:=by obtain ⟨_,_,_,z⟩:=P2; exact ⟨_,_,_,s1 _ _ z⟩
  generalize upd (upd H' l (.lst [.str (Cb q.1 q.2),.str (Cc q.1 q.2)])) T1 (.tup [.str (Cb q.1 q.2),.str (Cc q.1 q.2)])=H3 at s1 SN P3;have n1:T1 ≠ p:=by intro y; subst y; obtain ⟨_,_,_,y⟩:=P3; rw [y] at SN; cases SN
  refine ⟨_,rfl,_,rfl,p,sz,rfl,P3,by lia,by lia,fun d a b c d0 d1=>⟨_,_,rfl,rfl,(by show 1<=sizeLine; lia),fun T2 PY=>?_⟩⟩;have Zi:(upd (upd H3 p (.lst (Au a b c))) T2 (.tup [.int (1 + d)])) T1=some (.tup [.str (Cb q.1 q.2),.str (Cc q.1 q.2)]):=Ad PY _ _ (by rw [Ae n1]; exact SN);refine ⟨T1,T2,_,_,rfl,rfl,A1.of Zi,A1.of Ab,by simp,by show 2 + 1<=sizeLine; lia,(fun z=>by cases z),fun _ T hT=>?_⟩;have P4:Ax (upd (upd (upd H3 p (.lst (Au a b c))) T2 (.tup [.int (1 + d)])) T (.tup [.str (Cb q.1 q.2),.str (Cc q.1 q.2),.int (1 + d)])) p:=by
   have z:Ax (upd (upd H3 p (.lst (Au a b c))) T2 (.tup [.int (1 + d)])) p:=(Ax.set a b c).other ((Ax.set (H:=H3) a b c).ne PY);exact z.other (z.ne hT)
  have k4:∀ b' o,b' ≠ p->H' b'=some o->(upd (upd (upd H3 p (.lst (Au a b c))) T2 (.tup [.int (1 + d)])) T (.tup [.str (Cb q.1 q.2),.str (Cc q.1 q.2),.int (1 + d)])) b'=some o:=fun b' o hb z=>Ad hT _ _ (Ad PY _ _ (by rw [Ae hb]; exact s1 _ _ z))
  have Km:(upd (upd (upd H3 p (.lst (Au a b c))) T2 (.tup [.int (1 + d)])) T (.tup [.str (Cb q.1 q.2),.str (Cc q.1 q.2),.int (1 + d)])) T=some (.tup [.str (Cb q.1 q.2),.str (Cc q.1 q.2),.int (1 + d)]):=Ab;show B _ _ (upd (upd (upd H3 p (.lst (Au a b c))) T2 (.tup [.int (1 + d)])) T (.tup [.str (Cb q.1 q.2),.str (Cc q.1 q.2),.int (1 + d)]))
  generalize upd (upd (upd H3 p (.lst (Au a b c))) T2 (.tup [.int (1 + d)])) T (.tup [.str (Cb q.1 q.2),.str (Cc q.1 q.2),.int (1 + d)])=H5 at P4 k4 Km;have WZ:=k4 _ _ nD AQ;have nT:T ≠ D:=CB Km WZ (fun z=>by cases z);refine hB _ _ _ WZ ⟨_,ls ++ [1 + d],rfl,P4.other nD,fun b' o hb z=>by rw [Ae (Ah z hD)]; exact k4 _ _ hb (kp _ _ hb z),Ab,by rw [Z7,al]; rfl,by rw [Z7,ll]; rfl,fun l hl=>?_,?_⟩
  ·rcases ZM.mp hl with hl | hl
   ·exact lb l hl
   ·rw [ZN.mp hl]; lia
  ·rw [Ls (a:=q) (by rw [ll]; exact eq),ZC,ZC];refine CO (Dp dd fun b' ys z=>?_) (.cons (.tup (vs:=[.str (Cb q.1 q.2),.str (Cc q.1 q.2),.int (1 + d)]) (by rw [Ae nT]; exact Km) ?_) .nil)
   ·rw [Ae (CB z AQ (fun y=>by cases y))];exact k4 _ _ (by intro y; subst y; obtain ⟨_,_,_,y⟩:=P2; rw [y] at z; cases z) z
   ·show AE _ _ [.str (Cb q.2 q.1),.str (Cc q.2 q.1),.int (1 + d)]
    rw [Pg q.2 q.1,Pj q.2 q.1];exact .cons (.str _) (.cons (.str _) (.cons (.int _) .nil))
 ·rintro D σ H' acc hD ⟨v0,ls,rfl,P2,kp,AQ,al,ll,lb,dd⟩;have nD:=P1.ne hD;refine ⟨D,acc,_,rfl,AS.of AQ,dd,(by lia),fun l Ej GK hl Mx pm=>⟨l,_,rfl,.inl ⟨AS.of Ab,fun T hT=>?_⟩⟩⟩;have s1:=(Ad (o:=.lst Ej) hl).trans (Ad (o:=.tup Ej) hT);refine k _ T Ej GK ((qs.zip ls).map fun c=>(c.1.2,c.1.1,c.2)) (by obtain ⟨_,_,_,z⟩:=P2; exact ⟨_,_,_,s1 _ _ z⟩) (kp.trans (Az.of_same s1)) Ab (Dp Mx fun b ys z=>s1 _ _ z) (by rw [az]; exact pm) (wc.lens ?_ ?_) ?_ ?_
  ·rw [Z0,bU,Z0];lia
  ·intro i u u' e1 e2;rw [Z6] at e1 e2;cases z:qs[i]? with
   | none=>rw [z] at e1; cases e1
   | some q=>
    rw [z] at e1;cases e1
    have hi:=(ZA.mp z).1;have el:ls[i]? = some (ls[i]'(by lia)):=Zy _;have ez:(qs.zip ls)[i]? = some (q,ls[i]'(by lia)):=bJ.mpr ⟨z,el⟩;rw [ez] at e2;cases e2
    exact ⟨rfl,rfl,(lb _ (Z2 el)).1⟩
  ·intro u hu;obtain ⟨⟨q,l⟩,hc,rfl⟩:=ZD.mp hu;exact (lb l (bQ hc).2).2
  ·rw [Z0,bU];lia
theorem LU (h_int:mg "int"=none) (h_len:mg "len"=none) (h_range:mg "range"=none) (h_sorted:mg "sorted"=none) (h_tuple:mg "tuple"=none) {fT:Addr} {fdT:FuncData} (XT:Fn K mg "_law_take" Bn ["_law_pen_here","_law_many"] fT fdT) (GT:A7 P w K mg base Bq 1 fT fdT ["_law_pen_here","_law_many"] Cz) {f:Addr} {fd:FuncData} (F:D6 K "_law_ways" "_law_ways" Cp f fd):A7 P w K mg base Bq 2 f fd ["_law_pen_here","_law_names_here","_law_kind"] N3:=by
 refine F.ok EE (fun vs H Q E h=>?_) (fun cdv A outer s H vs Q E hr h=>?_)
 ·obtain ⟨p,e,xs,kd,rfl,_⟩:=h;rfl
 ·obtain ⟨p,e,xs,kd,rfl,P0,he,nep,xnd,xnm,x1,x26,k⟩:=h;have nd:=EE.nd;have hu:=CV hr;have Ja:=hr.units;obtain ⟨tE,hE,kE⟩:=Qj (P:=P) (w:=w) (K:=K) (mg:=mg) (base:=base) h_sorted h_tuple XT GT (f:=f) (cdv:=cdv) (A:=A) (outer:=outer) (s:=s) (H:=H) (E:=E) hr;have big:100000 < sizeLine:=by decide
  refine ⟨_,(Ag (Ap (i:=3) nd rfl (Or.inr rfl) (A2 Be (Bs (Aa Af (Aa Af (Aa Af (Aa Af Ac))))) (Al GT (hr.mono (by decide)) (by rfl) XT.mg XT.F.kp XT.b .nil Av (Aa (pv 0) (Aa Af Ac))) (fun _ _=>rfl)))
  (Ag (Ap (i:=4) nd rfl (Or.inl rfl) (Bs Ac))
  (Ag (BB PassesOwn.never rfl (OT (by rfl) h_range (Aa Af (Aa (Aj AH (by rfl) h_len PySem.boot_len (Aa (pv 1) Ac)) Ac))) (Ai (i:=5) nd rfl (Or.inl rfl))
  (Ag (Ap (i:=6) nd rfl (Or.inl rfl) (A2 Be (Bs (Aa (Ay KN (pv 5) Af) (Aa (Al GT (hr.mono (by decide)) (by rfl) XT.mg XT.F.kp XT.b .nil Av (Aa (pv 0) (Aa (pv 5) Ac))) Ac))) (AF Ei (by rfl) h_int PyProof.Rows.boot_int (Aa (BS Rh (pv 2) Af (AO _)) Ac)) (fun _ _=>rfl)))
  (Ak (FN (Hf PySem.F.plainAttrs_list PySem.F.slot_list_append PySem.F.type_list_append CH (pv 4) (Aa (AB (Aa (A2 Be (pv 1) (pv 5) (fun _ _=>rfl)) (Aa (A2 Be (pv 1) (pv 6) (fun _ _=>rfl)) Ac))) Ac))))))
  (Ag (B7 (AN E5 (pv 2) Af (AO _))
  (Ak (BB PassesOwn.never rfl (CF (by rfl) h_range (Aa (Al GT (hr.mono (by decide)) (by rfl) XT.mg XT.F.kp XT.b .nil Av (Aa (pv 0) (Aa Af Ac))) Ac)) (Ai (i:=5) nd rfl (Or.inl rfl))
  (Ag (Ap (i:=7) nd rfl (Or.inl rfl) (A2 Be (pv 1) (Al GT (hr.mono (by decide)) (by rfl) XT.mg XT.F.kp XT.b .nil Av (Aa (pv 0) (Aa (Aj AH (by rfl) h_len PySem.boot_len (Aa (pv 1) Ac)) Ac))) (fun _ _=>rfl)))
  (Ag (Ap (i:=6) nd rfl (Or.inl rfl) (A2 Be (pv 1) (Al GT (hr.mono (by decide)) (by rfl) XT.mg XT.F.kp XT.b .nil Av (Aa (pv 0) (Aa (Aj AH (by rfl) h_len PySem.boot_len (Aa (pv 1) Ac)) Ac))) (fun _ _=>rfl)))
  (Ak (B7 (I0 (AN Hg (pv 7) (pv 6) (AO _)) (I0 (AN (DQ Ja) (AB (Aa (pv 7) (Aa (pv 6) Ac))) (pv 4) (by rfl)) (KJ (AN (DQ Ja) (AB (Aa (pv 6) (Aa (pv 7) Ac))) (pv 4) (by rfl))))).pt
  (Ak (FN (Hf PySem.F.plainAttrs_list PySem.F.slot_list_append PySem.F.type_list_append CH (pv 4) (Aa (AB (Aa (pv 7) (Aa (pv 6) Ac))) Ac))))
  AR))))))
  AR)
  hE)))),?_⟩
  refine ⟨(by show 4<=sizeLine; lia),fun T4 Ye=>?_⟩;have n4:T4 ≠ p:=P0.ne Ye;refine ⟨_,rfl,p,4,rfl,P0.other n4,by decide,by decide,fun e4 a1 b1 c1 e4a e4b=>?_⟩;obtain ⟨sz,hsz⟩:=RK (ns:=[1,2,4,9]) e4a e4b;have szb:1<=sz/\sz<=9:=by
   have:=Lj hsz;simp only [ZL,cD,Z3,V.int.injEq,Z8,or_false] at this;rcases this with rfl | rfl | rfl | rfl <;> lia
  exists T4,_,_,.int sz,rfl,rfl,AS.of (by rw [Ae n4]; exact Ab),hsz;have P1:Ax (upd (upd H T4 (.lst [.int 1,.int 2,.int 4,.int 9])) p (.lst (Au a1 b1 c1))) p:=Ax.set _ _ _;have q1:Az p H (upd (upd H T4 (.lst [.int 1,.int 2,.int 4,.int 9])) p (.lst (Au a1 b1 c1))):=(Az.of_same (Ad Ye)).trans Az.upd;generalize upd (upd H T4 (.lst [.int 1,.int 2,.int 4,.int 9])) p (.lst (Au a1 b1 c1))=H1 at P1 q1;refine ⟨(by show 0<=sizeLine; lia),fun L hL=>?_⟩;have nL:L ≠ p:=P1.ne hL;have VV:=q1 _ _ nep he;have neL:e ≠ L:=Ah VV hL;have s2:=Ad (o:=.lst []) hL;exists _,rfl,e,_,rfl,.inl (AS.of (s2 _ _ VV)),_,_,rfl,⟨by lia,by lia,by rw [Z0]; lia,by rw [Z0]; lia⟩
  refine Dn (lo:=1) (fun j σ H'=>∃ (v5 v6 v7:Option V) (us:List V) (qs:List (Str × Str)),σ=[some (.ref p),some (.ref e),some (.int kd),some (.int sz),some (.ref L),v5,v6,v7]/\Ax H' p/\(∀ b o,b ≠ p->b ≠ L->H1 b=some o->H' b=some o)/\H' L=some (.lst us)/\BV H' us (qs.map Eb)/\us.length=j/\Lm xs (j + 1) (qs.map LP))
   ⟨_,_,_,[],[],rfl,P1.other nL,fun b o _ hb z=>s2 _ _ z,Ab,.nil,rfl,Lm.nil xs⟩ ?_ ?_
  ·rintro j σ H' hj ⟨v5,v6,v7,us,qs,rfl,P2,k2,Qa,tU,ul,tr⟩;rw [Z0] at hj;have Nc:j + 1 < xs.length:=by lia
   have Zc:=k2 _ _ nep neL VV;have ql:qs.length=j:=by rw [<-ul,tU.len,Z0]
   refine ⟨_,rfl,_,_,rfl,rfl,_,rfl,_,rfl,p,_,rfl,P2,by lia,by lia,fun d a2 b2 c2 d0 d1=>⟨(by show 2<=sizeLine; lia),fun T2 PY=>?_⟩⟩;have P3:Ax (upd (upd H' p (.lst (Au a2 b2 c2))) T2 (.lst [.int (1 + (j:Int) - 1),.int d])) p:=(Ax.set a2 b2 c2).other ((Ax.set (H:=H') a2 b2 c2).ne PY);have k3:∀ b o,b ≠ p->H' b=some o->(upd (upd H' p (.lst (Au a2 b2 c2))) T2 (.lst [.int (1 + (j:Int) - 1),.int d])) b=some o:=fun b o hb z=>Ad PY _ _ (by rw [Ae hb]; exact z)
   have WM:(upd (upd H' p (.lst (Au a2 b2 c2))) T2 (.lst [.int (1 + (j:Int) - 1),.int d])) T2=some (.lst [.int (1 + (j:Int) - 1),.int d]):=Ab;generalize upd (upd H' p (.lst (Au a2 b2 c2))) T2 (.lst [.int (1 + (j:Int) - 1),.int d])=H3 at P3 k3 WM;obtain ⟨o,hv,o0⟩:∃ o:Nat,Gk [V.int (1 + (j:Int) - 1),V.int d] (if decide ((0:Int) < kd)=true then 1 else 0)=some (.int (o:Int))/\o < j + 1:=by
    by_cases z:decide ((0:Int) < kd)=true
    ·rw [if_pos z];obtain ⟨o,rfl⟩:∃ o:Nat,d=(o:Int):=⟨d.toNat,by lia⟩
     exact ⟨o,rfl,by lia⟩
    ·rw [if_neg z,show 1 + (j:Int) - 1=((j:Nat):Int) by lia];exact ⟨j,rfl,by lia⟩
   refine ⟨_,rfl,_,_,rfl,rfl,.inr ⟨_,rfl,T2,_,_,_,rfl,rfl,AS.of WM,hv,?_⟩⟩;have VU:=k3 _ _ nep Zc;have PZ:=k3 _ _ nL Qa;have ea:(xs.map V.str)[j + 1]? = some (.str xs[j + 1]):=by rw [Z6,Zy Nc]; rfl
   have eo:(xs.map V.str)[o]? = some (.str (xs[o]'(by lia))):=by rw [Z6,Zy (by lia)]; rfl
   have e1j:(1 + (j:Int))=((j + 1:Nat):Int):=by lia
   refine ⟨_,rfl,.inl ⟨rfl,_,AS.of PZ⟩,_,rfl,_,rfl,e,_,_,_,rfl,rfl,AS.of VU,(by rw [e1j]; exact Co ea),_,rfl,_,rfl,e,_,_,_,rfl,rfl,AS.of VU,Co eo,(by show 2<=sizeLine; lia),fun T hT=>⟨L,_,_,rfl,rfl,Ad hT _ _ PZ,by lia,?_⟩⟩;have sT:=Ad (o:=.tup [.str xs[j + 1],.str (xs[o]'(by lia))]) hT;have nT:T ≠ L:=CB Ab (sT _ _ PZ) (fun z=>by cases z);have kT:∀ b ys,H' b=some (.tup ys)->(upd (upd H3 T (.tup [.str xs[j + 1],.str (xs[o]'(by lia))])) L (.lst (us ++ [.ref T]))) b=some (.tup ys):=fun b ys z=>by
    rw [Ae (CB z Qa (fun y=>by cases y))];exact sT _ _ (k3 _ _ (by intro y; subst y; obtain ⟨_,_,_,y⟩:=P2; rw [y] at z; cases z) z)
   exists _,_,_,us ++ [.ref T],qs ++ [(xs[j + 1],xs[o]'(by lia))],rfl,(P3.other (P3.ne hT)).other nL,fun b o' hb Ia z=>by rw [Ae Ia]; exact sT _ _ (k3 _ _ hb (k2 _ _ hb Ia z)),Ab,?_,by rw [Z7,ul]; rfl
   ·rw [ZC];exact (tU.keep kT).app (.cons (by rw [Ae nT]; exact Ab) .nil)
   ·rw [ZC];exact tr.more xnd Nc [o] (by simp) (by intro y hy; rw [ZN.mp hy]; exact o0) (by simp) rfl (fun q u y e1 e2=>by
     cases q with
     | zero=>
      simp at e1 e2;subst e1 e2;exact ⟨Zy _,Zy _,aB _⟩
     | succ q=>simp at e2)
  ·rintro σ H' ⟨v5,v6,v7,us,qs,rfl,P2,k2,Qa,tU,ul,tr⟩;have jx:(((xs.map V.str).length:Int) - 1).toNat + 1=xs.length:=by rw [Z0]; lia
   rw [jx] at tr;have wc:=(tr.ways xnd).c;have ul':us.length<=25:=by rw [ul,Z0]; lia
   have last:∀ (H':Hp) (v5 v6 v7:Option V) (us:List V) (qs:List (Str × Str)) (D:EV),(∀ v H',D.rt v H' ↔ Q v H')->Ax H' p->(∀ b o,b ≠ p->b ≠ L->H1 b=some o->H' b=some o)->H' L=some (.lst us)->BV H' us (qs.map Eb)->D3 xs (qs.map LP)->us.length<=30->tE D [some (.ref p),some (.ref e),some (.int kd),some (.int sz),some (.ref L),v5,v6,v7] H':=fun H' v5 v6 v7 us qs D hD P3 k3 PZ Wg VL Ys=>by
    refine kE D H' p e L kd sz v5 v6 v7 us qs xs P3 PZ nL Wg VL Ys szb.1 szb.2 fun H2 T O0 ws Gj P4 k4 hT dd pm w0 l9 l30=>(hD _ _).mpr ?_
    exact k H2 T O0 ws Gj P4 (fun b o hb z=>k4 b o hb (k3 b o hb (Ah (q1 _ _ hb z) hL) (q1 _ _ hb z))) hT dd pm w0 l9 l30
   exists _,rfl,rfl,_,rfl;refine CA (fun _=>?_) (fun _=>last _ _ _ _ us qs _ (fun _ _=>Iff.rfl) P2 k2 Qa tU wc (by lia));refine ⟨_,rfl,p,5,rfl,P2,by decide,by decide,fun d a2 b2 c2 d0 d1=>⟨_,rfl,by lia,by lia,?_⟩⟩;refine Dn (lo:=0) (fun j σ H'=>∃ (v5 v6 v7:Option V) (us:List V) (qs:List (Str × Str)),σ=[some (.ref p),some (.ref e),some (.int kd),some (.int sz),some (.ref L),v5,v6,v7]/\Ax H' p/\(∀ b o,b ≠ p->b ≠ L->H1 b=some o->H' b=some o)/\H' L=some (.lst us)/\BV H' us (qs.map Eb)/\us.length<=25 + j/\D3 xs (qs.map LP))
    ⟨_,_,_,us,qs,rfl,Ax.set _ _ _,fun b o hb Ia z=>by rw [Ae hb]; exact k2 b o hb Ia z,by rw [Ae nL]; exact Qa,tU.keep fun b ys z=>by rw [Ae (by intro y; subst y; obtain ⟨_,_,_,y⟩:=P2; rw [y] at z; cases z)]; exact z,by lia,wc⟩ ?_ ?_
   ·rintro j σ H3 hj ⟨v5,v6,v7,us,qs,rfl,P3,k3,PZ,Wg,Ys,VL⟩;have VU:=k3 _ _ nep neL VV;have xl0:(0:Int) < ((xs.map V.str).length:Int):=by rw [Z0]; lia
    have xlB:((xs.map V.str).length:Int) < 2 ^ 600:=by rw [Z0]; lia
    refine ⟨_,rfl,_,rfl,_,rfl,e,_,rfl,.inl (AS.of VU),p,_,rfl,P3,xl0,xlB,fun g a3 b3 c3 g0 g1=>?_⟩;rw [Z0] at g1;obtain ⟨gn,rfl⟩:∃ n:Nat,g=n:=⟨g.toNat,by lia⟩
    have hgn:gn < xs.length:=by lia
    have eg:(xs.map V.str)[gn]? = some (.str xs[gn]):=by rw [Z6,Zy hgn]; rfl
    have P4:Ax (upd H3 p (.lst (Au a3 b3 c3))) p:=Ax.set _ _ _;have k4:∀ b o,b ≠ p->H3 b=some o->(upd H3 p (.lst (Au a3 b3 c3))) b=some o:=fun b o hb z=>by rw [Ae hb]; exact z
    generalize upd H3 p (.lst (Au a3 b3 c3))=H4 at P4 k4;have he4:=k4 _ _ nep VU;exists e,_,_,_,rfl,rfl,AS.of he4,Co eg;refine ⟨_,rfl,_,rfl,_,rfl,e,_,rfl,.inl (AS.of he4),p,_,rfl,P4,xl0,xlB,fun h a4 b4 c4 h0 h1=>?_⟩;rw [Z0] at h1;obtain ⟨hn,rfl⟩:∃ n:Nat,h=n:=⟨h.toNat,by lia⟩
    have hhn:hn < xs.length:=by lia
    have eh:(xs.map V.str)[hn]? = some (.str xs[hn]):=by rw [Z6,Zy hhn]; rfl
    have P5:Ax (upd H4 p (.lst (Au a4 b4 c4))) p:=Ax.set _ _ _;have k5:∀ b o,b ≠ p->H3 b=some o->(upd H4 p (.lst (Au a4 b4 c4))) b=some o:=fun b o hb z=>by rw [Ae hb]; exact k4 _ _ hb z
    generalize upd H4 p (.lst (Au a4 b4 c4))=H5 at P5 k5;have he5:=k5 _ _ nep VU;exists e,_,_,_,rfl,rfl,AS.of he5,Co eh;have m1:xs[gn] ∈ xs:=ar hgn;have m2:xs[hn] ∈ xs:=ar hhn;generalize xs[gn]=o1 at m1;generalize xs[hn]=o2 at m2;have VY:=k5 _ _ nL PZ;have np:∀ {HH:Hp} {b:Addr} {ys:List V},Ax HH p->HH b=some (.tup ys)->b ≠ p:=fun P z y=>by subst y; obtain ⟨_,_,_,y⟩:=P; rw [y] at z; cases z
    have Xt:BV H5 us (qs.map Eb):=Wg.keep fun b ys z=>k5 _ _ (np P3 z) z
    exists _,rfl,_,rfl,rfl,_,rfl;have inv:∀ {H6:Hp} (v5 v6 v7:Option V),Ao H5 H6->∃ (v5' v6' v7':Option V) (us:List V) (qs:List (Str × Str)),[some (.ref p),some (.ref e),some (.int kd),some (.int sz),some (.ref L),v5,v6,v7]=[some (.ref p),some (.ref e),some (.int kd),some (.int sz),some (.ref L),v5',v6',v7']/\Ax H6 p/\(∀ b o,b ≠ p->b ≠ L->H1 b=some o->H6 b=some o)/\H6 L=some (.lst us)/\BV H6 us (qs.map Eb)/\us.length<=25 + (j + 1)/\D3 xs (qs.map LP):=fun v5 v6 v7 s6=>
     ⟨_,_,_,us,qs,rfl,by obtain ⟨_,_,_,z⟩:=P5; exact ⟨_,_,_,s6 _ _ z⟩,fun b o hb Ia z=>s6 _ _ (k5 _ _ hb (k3 b o hb Ia z)),s6 _ _ VY,Xt.keep (fun b ys z=>s6 _ _ z),by lia,VL⟩
    refine CA (fun z1=>?_) (fun _=>Bp (inv _ _ _ fun b o z=>z));have Vf:o1 ≠ o2:=by
     intro y;subst y;simp at z1
    refine ⟨_,rfl,_,rfl,(by show 2<=sizeLine; lia),fun T1 R7=>?_⟩;have t1:=Ad (o:=.tup [.str o1,.str o2]) R7;exists _,rfl,T1,L,[o1,o2],us,qs.map Eb,rfl,rfl,Ab,t1 _ _ VY,Xt.keep (fun b ys z=>t1 _ _ z),_,rfl;refine CA (fun z2=>?_) (fun _=>Bp (inv _ _ _ t1));refine ⟨_,rfl,_,rfl,(by show 2<=sizeLine; lia),fun T2 PY=>?_⟩;have t2:=t1.trans (Ad (o:=.tup [.str o2,.str o1]) PY);exists _,rfl,T2,L,[o2,o1],us,qs.map Eb,rfl,rfl,Ab,t2 _ _ VY,Xt.keep (fun b ys z=>t2 _ _ z),_,rfl;refine CA (fun z3=>?_) (fun _=>inv _ _ _ t2);have y2:[o1,o2] ∉ qs.map Eb:=by simpa using z2
    have y3:[o2,o1] ∉ qs.map Eb:=by simpa using z3
    generalize upd (upd H5 T1 (.tup [.str o1,.str o2])) T2 (.tup [.str o2,.str o1])=H6 at t2;have hL6:=t2 _ _ VY;refine ⟨_,rfl,.inl ⟨rfl,_,AS.of hL6⟩,_,rfl,_,rfl,(by show 2<=sizeLine; lia),fun T hT=>⟨L,_,_,rfl,rfl,Ad hT _ _ hL6,by lia,?_⟩⟩;have sT:=t2.trans (Ad (o:=.tup [.str o1,.str o2]) hT);have nT:T ≠ L:=CB Ab (sT _ _ VY) (fun z=>by cases z);exists _,_,_,us ++ [.ref T],qs ++ [(o1,o2)],rfl,(by obtain ⟨_,_,_,z⟩:=P5; exact ⟨_,_,_,by rw [Ae nL.symm]; exact sT _ _ z⟩),fun b o hb Ia z=>by rw [Ae Ia]; exact sT _ _ (k5 _ _ hb (k3 b o hb Ia z)),Ab,?_,by rw [Z7]; simp; lia
    ·rw [ZC];refine (Xt.keep fun b ys z=>?_).app (.cons (by rw [Ae nT]; exact Ab) .nil);rw [Ae (CB z VY (fun y=>by cases y))];exact sT _ _ z
    ·rw [ZC];refine VL.snoc (x:=o2) (y:=o1) m2 m1 (fun y=>Vf y.symm) (aB _) fun u hu=>?_
     obtain ⟨q,hq,rfl⟩:=ZD.mp hu;have w1:Eb q ∈ qs.map Eb:=ZD.mpr ⟨q,hq,rfl⟩;rintro ⟨f1 | f1,f2 | f2⟩
     ·exact Vf (f2.trans f1.symm)
     ·refine y2 ?_;rw [f1,f2];exact w1
     ·refine y3 ?_;rw [f1,f2];exact w1
     ·exact Vf (f2.trans f1.symm)
   ·rintro σ H3 ⟨v5,v6,v7,us,qs,rfl,P3,k3,PZ,Wg,Ys,VL⟩;exact last _ _ _ _ us qs _ (fun _ _=>Iff.rfl) P3 k3 PZ Wg VL (by lia)
end
section
variable {P:Program} {w:World} {K:Z1} {mg:Str->Option Value} {base:Heap}
theorem LW (h_int:mg "int"=none) (h_len:mg "len"=none) (h_sorted:mg "sorted"=none) (h_tuple:mg "tuple"=none) {fT fN fW fS:Addr} {fdT fdN fdW fdS:FuncData} (XT:Fn K mg "_law_take" Bn ["_law_pen_here","_law_many"] fT fdT) (GT:A7 P w K mg base Bq 1 fT fdT ["_law_pen_here","_law_many"] Cz) (XN:Fn K mg "_law_names" DG ["_law_pen_here","_law_many"] fN fdN) (GN:A7 P w K mg base Bq 2 fN fdN ["_law_pen_here","_law_many"] LD) (XW:Fn K mg "_law_ways" Cp ["_law_pen_here","_law_names_here","_law_kind"] fW fdW) (GW:A7 P w K mg base Bq 2 fW fdW ["_law_pen_here","_law_names_here","_law_kind"] N3) (XS:Fn K mg "_law_some" Ds ["_law_pen_here","_law_names_here","_law_most"] fS fdS) (GS:A7 P w K mg base Bq 2 fS fdS ["_law_pen_here","_law_names_here","_law_most"] K4) {f:Addr} {fd:FuncData} (F:D6 K "_law_case" "_law_case" Em f fd):A7 P w K mg base Bq 3 f fd ["_law_pen_here","_law_kind"] NL:=by
 refine F.ok GZ (fun vs H Q E h=>?_) (fun cdv A outer s H vs Q E hr h=>?_)
 ·obtain ⟨p,kd,rfl,_⟩:=h;rfl
 ·obtain ⟨p,kd,rfl,hP,k⟩:=h;have nd:=GZ.nd;have big:100000 < sizeLine:=by decide
  refine ⟨_,(Ag (Ap (i:=2) nd rfl (Or.inl rfl) (AF Ei (by rfl) h_int PyProof.Rows.boot_int (Aa (BS E5 (Al GT (hr.mono (by decide)) (by rfl) XT.mg XT.F.kp XT.b .nil Av (Aa (pv 0) (Aa Af Ac))) Af (AO _)) Ac)))
  (Ag (Ap (i:=3) nd rfl (Or.inl rfl) (Al GN (hr.mono (by decide)) (by rfl) XN.mg XN.F.kp XN.b .nil Av (Aa (pv 0) (Aa (A2 Be (Bs (Aa (Ay Ba Af (Al GT (hr.mono (by decide)) (by rfl) XT.mg XT.F.kp XT.b .nil Av (Aa (pv 0) (Aa Af Ac)))) (Aa (Ay Ba Af (Al GT (hr.mono (by decide)) (by rfl) XT.mg XT.F.kp XT.b .nil Av (Aa (pv 0) (Aa Af Ac)))) Ac))) (pv 2) (fun _ _=>rfl)) Ac))))
  (Ag (Ap (i:=4) nd rfl (Or.inr rfl) (A2 Be (Bs (Aa Af (Aa Af (Aa Af (Aa Af (Aa (Ay MK Af Af) (Aa (Ay MK Af Af) Ac))))))) (Al GT (hr.mono (by decide)) (by rfl) XT.mg XT.F.kp XT.b .nil Av (Aa (pv 0) (Aa Af Ac))) (fun _ _=>rfl)))
  (Ag (NT (ix:=5) (N:=["_law_row","_law_much"]) (σ0:=fun σ=>[none,some 4].map fun j=>j.bind fun j=>(σ[j]?).join) nd rfl (Or.inl rfl) rfl (AJ.caught (by rfl) (by decide +kernel) rfl (by decide +kernel) (by intro y hy; simp only [Z3,Z8,or_false] at hy; rcases hy with rfl <;> rfl)
   (by intro y hy e; simp only [Z3,Z8,or_false] at hy; rcases hy with rfl | rfl | rfl <;> first | exact ⟨_,rfl⟩ | cases e)) (fun σ _=>Bj.of [none,some 4] rfl (by
   intro i j x h1 h2;match i,h1,h2 with
   | 0,_,h2=>cases h2
   | 1,h1,h2=>cases h1; cases h2; exact ⟨rfl,.inl rfl,.inl rfl⟩
   | n + 2,h1,_=>cases h1)) (Gu (Al GW (hr.mono (by decide)) (by rfl) XW.mg XW.F.kp XW.b .nil Av (Aa (pv 0) (Aa (pv 3) (Aa (pv 1) Ac)))))
   (fun s2 H C fp=>⟨(Ai (i:=0) (show (["_law_row","_law_much"]:List Str).Nodup by decide +kernel) rfl (Or.inl rfl)),Bd,(Ay (LR K rfl) (Cf (CW K rfl) (pv 0) Ck (Cj Af)) (AB (Aa (Ay C5 (A2 (A8 K rfl) (pv 0) Af (fun _ _=>rfl)) (pv 1)) Ac)))⟩))
  (Ag (Ap (i:=6) nd rfl (Or.inr rfl) (A2 Be (Bs (Aa Af (Aa Af (Aa Af (Aa Af Ac))))) (Al GT (hr.mono (by decide)) (by rfl) XT.mg XT.F.kp XT.b .nil Av (Aa (pv 0) (Aa Af Ac))) (fun _ _=>rfl)))
  (Ag (Ap (i:=7) nd rfl (Or.inl rfl) (Aj (D1 K rfl) (by rfl) h_sorted PyProof.Rows.boot_sorted (Aa (Bl (N:=["_law_place","_law_pen_here","_law_much","_law_dear"]) (σ0:=fun σ=>[none,some 0,some 4,some 6].map fun j=>j.bind fun j=>(σ[j]?).join) rfl (AJ.caught (by rfl) (by decide +kernel) rfl (by decide +kernel) (by intro y hy; simp only [Z3,Z8,or_false] at hy; rcases hy with rfl | rfl | rfl <;> rfl)
   (by intro y hy e; simp only [Z3,Z8,or_false] at hy; rcases hy with rfl | rfl | rfl | rfl | rfl | rfl <;> first | exact ⟨_,rfl⟩ | cases e)) (fun σ _=>Bj.of [none,some 0,some 4,some 6] rfl (by
   intro i j x h1 h2;match i,h1,h2 with
   | 0,_,h2=>cases h2
   | 1,h1,h2=>cases h1; cases h2; exact ⟨rfl,.inl rfl,.inl rfl⟩
   | 2,h1,h2=>cases h1; cases h2; exact ⟨rfl,.inl rfl,.inl rfl⟩
   | 3,h1,h2=>cases h1; cases h2; exact ⟨rfl,.inl rfl,.inl rfl⟩
   | n + 4,h1,_=>cases h1)) (Fe (Al GS (hr.mono (by decide)) (by rfl) XS.mg XS.F.kp XS.b .nil Av (Aa (pv 0) (Aa (pv 3) (Aa (A2 Be (Bs (Aa Af (Aa Af Ac))) (pv 2) (fun _ _=>rfl)) Ac)))))
   (fun s2 H C fp=>⟨(Ai (i:=0) (show (["_law_place","_law_pen_here","_law_much","_law_dear"]:List Str).Nodup by decide +kernel) rfl (Or.inl rfl)),Bd,(AB (Aa (pv 0) (Aa (Ay C5 (pv 2) (Al GT (hr.mono (by decide)) (by rfl) XT.mg XT.F.kp XT.b .nil Av (Aa (pv 1) (Aa (pv 3) Ac)))) Ac)))⟩)) Ac)))
  (Ag (Ap (i:=8) nd rfl (Or.inl rfl) (Aj (D1 K rfl) (by rfl) h_sorted PyProof.Rows.boot_sorted (Aa (Bl (N:=["_law_place","_law_pen_here"]) (σ0:=fun σ=>[none,some 0].map fun j=>j.bind fun j=>(σ[j]?).join) rfl (AJ.caught (by rfl) (by decide +kernel) rfl (by decide +kernel) (by intro y hy; simp only [Z3,Z8,or_false] at hy; rcases hy with rfl <;> rfl)
   (by intro y hy e; simp only [Z3,Z8,or_false] at hy; rcases hy with rfl | rfl | rfl | rfl <;> first | exact ⟨_,rfl⟩ | cases e)) (fun σ _=>Bj.of [none,some 0] rfl (by
   intro i j x h1 h2;match i,h1,h2 with
   | 0,_,h2=>cases h2
   | 1,h1,h2=>cases h1; cases h2; exact ⟨rfl,.inl rfl,.inl rfl⟩
   | n + 2,h1,_=>cases h1)) (Fe (Al GS (hr.mono (by decide)) (by rfl) XS.mg XS.F.kp XS.b .nil Av (Aa (pv 0) (Aa (pv 3) (Aa (A2 Be (Bs (Aa Af (Aa Af Ac))) (pv 2) (fun _ _=>rfl)) Ac)))))
   (fun s2 H C fp=>⟨(Ai (i:=0) (show (["_law_place","_law_pen_here"]:List Str).Nodup by decide +kernel) rfl (Or.inl rfl)),Bd,(AB (Aa (pv 0) (Aa (Ay Ba Af (Al GT (hr.mono (by decide)) (by rfl) XT.mg XT.F.kp XT.b .nil Av (Aa (pv 1) (Aa Af Ac)))) Ac)))⟩)) Ac)))
  (Ag (Ap (i:=9) nd rfl (Or.inl rfl) (A2 Be (Bs (Aa QV (Aa (Ay Ba Af (Al GT (hr.mono (by decide)) (by rfl) XT.mg XT.F.kp XT.b .nil Av (Aa (pv 0) (Aa (Ay Ba (Aj AH (by rfl) h_len PySem.boot_len (Aa (pv 7) Ac)) Af) Ac)))) Ac))) (Al GT (hr.mono (by decide)) (by rfl) XT.mg XT.F.kp XT.b .nil Av (Aa (pv 0) (Aa Af Ac))) (fun _ _=>rfl)))
  (Ak (A4 (AB (Aa (AB (Aa (AF B3 (by rfl) h_tuple PyProof.Rows.boot_tuple (Aa (Aj Eh (by rfl) h_sorted PyProof.Rows.boot_sorted (Aa (pv 3) Ac)) Ac)) (Aa (AF B3 (by rfl) h_tuple PyProof.Rows.boot_tuple (Aa (pv 5) Ac)) Ac))) (Aa (AF B3 (by rfl) h_tuple PyProof.Rows.boot_tuple (Aa (pv 7) Ac)) (Aa (AF B3 (by rfl) h_tuple PyProof.Rows.boot_tuple (Aa (pv 8) Ac)) (Aa (pv 9) Ac))))))))))))))),?_⟩
  refine ⟨_,rfl,p,12,rfl,hP,by decide,BW (by decide),fun d1 a1 b1 c1 Zr Zq=>⟨rfl,.inr ⟨_,rfl,?_⟩⟩⟩;have Xs:=U4 (decide (V.int d1=V.int 11));generalize (if decide (V.int d1=V.int 11)=true then (1:Int) else 0)=wv at Xs ⊢;have P1:Ax (upd H p (.lst (Au a1 b1 c1))) p:=Ax.set _ _ _;have k1:Az p H (upd H p (.lst (Au a1 b1 c1))):=Az.upd;generalize upd H p (.lst (Au a1 b1 c1))=H1 at P1 k1 ⊢;refine ⟨_,rfl,_,rfl,p,8,rfl,P1,by decide,BW (by decide),fun d2 a2 b2 c2 d20 d21=>⟨_,_,rfl,rfl,?_⟩⟩;refine ⟨_,rfl,p,6,rfl,Ax.set _ _ _,by decide,BW (by decide),fun d3 a3 b3 c3 d30 d31=>⟨_,_,rfl,rfl,(by show 2<=sizeLine; lia),fun L1 WY=>?_⟩⟩;have P2:Ax (upd (upd (upd H1 p (.lst (Au a2 b2 c2))) p (.lst (Au a3 b3 c3))) L1 (.lst [.int (1 + d2),.int (20 + d3)])) p:=(Ax.set a3 b3 c3).same (Ad WY);have k2:Az p H1 (upd (upd (upd H1 p (.lst (Au a2 b2 c2))) p (.lst (Au a3 b3 c3))) L1 (.lst [.int (1 + d2),.int (20 + d3)])):=(Az.upd.trans Az.upd).trans (Az.of_same (Ad WY));have WX:(upd (upd (upd H1 p (.lst (Au a2 b2 c2))) p (.lst (Au a3 b3 c3))) L1 (.lst [.int (1 + d2),.int (20 + d3)])) L1=some (.lst [.int (1 + d2),.int (20 + d3)]):=Ab;generalize upd (upd (upd H1 p (.lst (Au a2 b2 c2))) p (.lst (Au a3 b3 c3))) L1 (.lst [.int (1 + d2),.int (20 + d3)])=H2 at P2 k2 WX ⊢;obtain ⟨n,hn,n1,YA⟩:∃ n:Nat,Gk [V.int (1 + d2),.int (20 + d3)] wv=some (.int (n:Int))/\1<=n/\n<=26:=by
   rcases Xs with rfl | rfl
   ·exact ⟨(1 + d2).toNat,by rw [dU (by lia)]; rfl,by lia,by lia⟩
   ·exact ⟨(20 + d3).toNat,by rw [dU (by lia)]; rfl,by lia,by lia⟩
  refine ⟨_,rfl,L1,_,_,_,rfl,rfl,AS.of WX,hn,p,n,rfl,P2,YA,fun H3 D xs P3 k3 hDn hD xl xnd xnm=>?_⟩;have nDp:D ≠ p:=P2.ne hDn;refine ⟨_,_,rfl,rfl,⟨by decide,by decide,by decide⟩,_,_,rfl,rfl,⟨by decide,by decide,by decide⟩,(by show 6<=sizeLine; lia),fun L2 Qa=>?_⟩;have s3:=Ad (o:=.lst [.int 1,.int 1,.int 1,.int 1,.int (10 ^ (9:Int).toNat),.int (10 ^ (20:Int).toNat)]) Qa;refine ⟨_,rfl,p,6,rfl,P3.same s3,by decide,BW (by decide),fun d4 a4 b4 c4 d40 d41=>?_⟩;obtain ⟨mu,hmu,X7,X6⟩:∃ mu:Int,Gk [V.int 1,.int 1,.int 1,.int 1,.int (10 ^ (9:Int).toNat),.int (10 ^ (20:Int).toNat)] d4=some (.int mu)/\1<=mu/\mu<=10 ^ 20:=by
   have:d4=0\/d4=1\/d4=2\/d4=3\/d4=4\/d4=5:=by lia
   rcases this with rfl | rfl | rfl | rfl | rfl | rfl <;> exact ⟨_,rfl,by decide,by decide⟩
  have nL2:L2 ≠ p:=P3.ne Qa;have k4:Az p H3 (upd (upd H3 L2 (.lst [.int 1,.int 1,.int 1,.int 1,.int (10 ^ (9:Int).toNat),.int (10 ^ (20:Int).toNat)])) p (.lst (Au a4 b4 c4))):=(Az.of_same s3).trans Az.upd;have P4:Ax (upd (upd H3 L2 (.lst [.int 1,.int 1,.int 1,.int 1,.int (10 ^ (9:Int).toNat),.int (10 ^ (20:Int).toNat)])) p (.lst (Au a4 b4 c4))) p:=Ax.set _ _ _;have WW:(upd (upd H3 L2 (.lst [.int 1,.int 1,.int 1,.int 1,.int (10 ^ (9:Int).toNat),.int (10 ^ (20:Int).toNat)])) p (.lst (Au a4 b4 c4))) L2=some (.lst [.int 1,.int 1,.int 1,.int 1,.int (10 ^ (9:Int).toNat),.int (10 ^ (20:Int).toNat)]):=by rw [Ae nL2,Ab]
  generalize upd (upd H3 L2 (.lst [.int 1,.int 1,.int 1,.int 1,.int (10 ^ (9:Int).toNat),.int (10 ^ (20:Int).toNat)])) p (.lst (Au a4 b4 c4))=H4 at k4 P4 WW ⊢;exists L2,_,_,_,rfl,rfl,AS.of WW,hmu;have hD4:=k4 _ _ nDp hD;refine ⟨_,rfl,_,rfl,_,rfl,p,D,xs,kd,rfl,P4,hD4,nDp,xnd,xnm,by lia,by lia,fun H5 T us ws Gj P5 k5 hT dus wp wc w9 wl=>?_⟩;have nTp:T ≠ p:=by intro z; subst z; obtain ⟨_,_,_,z⟩:=P5; rw [z] at hT; cases hT
  have ul:=dus.len;rw [Z0] at ul;have wlen:ws.length=Gj.length:=by rw [wp.length_eq,Z0]
  exists T,rfl,⟨_,A1.of hT⟩
  refine Br Bv (xs:=us) (fun C i σ H' acc=>∃ v:Option V,σ=[v,some (.int mu)]/\Ao H5 H'/\H' C=some (.lst acc)/\AE H' acc (((ws.take i).map (Fw mu)).map EB)/\acc.length=i)
   (by lia) (fun C hC=>⟨_,rfl,Ad hC,Ab,.nil,rfl⟩) (fun C i σ H' acc hC ⟨v,_,sa,hCC,_,al⟩=>⟨A1.of (sa _ _ hT),hCC,al⟩) ?_ ?_
  ·rintro C i σ H' acc x B hC ex ⟨v,rfl,sa,hCC,dd,al⟩ hB;obtain ⟨u,tt,eu,rfl,htt⟩:=ER dus ex;have W3:=sa _ _ htt;refine ⟨_,rfl,_,rfl,tt,_,rfl,A1.of W3,(by show ¬ ((0:Nat)=0/\(2:Nat)=3); decide),fun Z hZ=>?_⟩;have q1:=Ad (o:=.tup (FY [.str u.1,.str u.2.1,.int u.2.2] none (some 2))) hZ;have hZ':(upd H' Z (.tup (FY [.str u.1,.str u.2.1,.int u.2.2] none (some 2)))) Z=some (.tup [.str u.1,.str u.2.1]):=Ab;generalize upd H' Z (.tup (FY [.str u.1,.str u.2.1,.int u.2.2] none (some 2)))=H6 at q1 hZ' ⊢;have ub:1<=u.2.2/\u.2.2<=9:=by
    obtain ⟨u0,W2,e⟩:=ZD.mp (wp.mem_iff.mp (Z2 eu));have e2:u.2.2=u0.2.2:=by rw [<-e]; rfl
    rw [e2];exact ⟨(wc.1 u0 W2).2.2.2,w9 u0 W2⟩
   refine ⟨_,rfl,tt,_,_,_,rfl,rfl,A1.of (q1 _ _ W3),rfl,_,rfl,_,_,rfl,rfl,.inl ⟨by lia,by lia⟩,(by show 1<=sizeLine; lia),fun Y hY=>?_⟩;have q2:=Ad (o:=.tup [.int (u.2.2 * mu)]) hY;have hY':(upd H6 Y (.tup [.int (u.2.2 * mu)])) Y=some (.tup [.int (u.2.2 * mu)]):=Ab;generalize upd H6 Y (.tup [.int (u.2.2 * mu)])=H7 at q2 hY' ⊢;refine ⟨Z,Y,_,_,rfl,rfl,A1.of (q2 _ _ hZ'),A1.of hY',by simp,(by show 2 + 1<=sizeLine; lia),fun z=>absurd z (by simp),fun _ X hX=>?_⟩;have q3:=Ad (o:=.tup ([.str u.1,.str u.2.1] ++ [.int (u.2.2 * mu)])) hX;have Yd:(upd H7 X (.tup ([.str u.1,.str u.2.1] ++ [.int (u.2.2 * mu)]))) X=some (.tup [.str u.1,.str u.2.1,.int (u.2.2 * mu)]):=Ab;generalize upd H7 X (.tup ([.str u.1,.str u.2.1] ++ [.int (u.2.2 * mu)]))=H8 at q3 Yd ⊢;have q:=q1.trans (q2.trans q3);have c8:=q _ _ hCC;have nX:X ≠ C:=by intro z; subst z; rw [c8] at Yd; cases Yd
   refine hB _ _ _ c8 ⟨_,rfl,fun b o e=>by rw [Ae (Ah e hC)]; exact q _ _ (sa _ _ e),Ab,?_,by rw [Z7,al]; rfl⟩;rw [ZH,eu,ZC,ZC];refine CO (Dp dd fun b ys e=>?_) (.cons (.tup (by rw [Ae nX]; exact Yd) (.cons (.str _) (.cons (.str _) (.cons (.int _) .nil)))) .nil);rw [Ae (by intro z; subst z; rw [hCC] at e; cases e)];exact q _ _ e
  rintro W σ H6 acc hW ⟨v,rfl,Y0,hWW,dW,wal⟩;rw [ul,ZP] at dW;have nWp:W ≠ p:=P5.ne hW;have P6:=P5.same Y0;refine ⟨(by show 4<=sizeLine; lia),fun L3 PZ=>?_⟩;have s6:=Ad (o:=.lst [.int 1,.int 4,.int 12,.int 40]) PZ;refine ⟨_,rfl,p,4,rfl,P6.same s6,by decide,BW (by decide),fun d5 a5 b5 c5 d50 d51=>?_⟩;obtain ⟨de,hde,de1,de2⟩:∃ de:Int,Gk [V.int 1,.int 4,.int 12,.int 40] d5=some (.int de)/\1<=de/\de<=40:=by
   have:d5=0\/d5=1\/d5=2\/d5=3:=by lia
   rcases this with rfl | rfl | rfl | rfl <;> exact ⟨_,rfl,by decide,by decide⟩
  have nL3:L3 ≠ p:=P6.ne PZ;have k7:Az p H6 (upd (upd H6 L3 (.lst [.int 1,.int 4,.int 12,.int 40])) p (.lst (Au a5 b5 c5))):=(Az.of_same s6).trans Az.upd;have P7:Ax (upd (upd H6 L3 (.lst [.int 1,.int 4,.int 12,.int 40])) p (.lst (Au a5 b5 c5))) p:=Ax.set _ _ _;have WV:(upd (upd H6 L3 (.lst [.int 1,.int 4,.int 12,.int 40])) p (.lst (Au a5 b5 c5))) L3=some (.lst [.int 1,.int 4,.int 12,.int 40]):=by rw [Ae nL3,Ab]
  generalize upd (upd H6 L3 (.lst [.int 1,.int 4,.int 12,.int 40])) p (.lst (Au a5 b5 c5))=H7 at k7 P7 WV ⊢;exists L3,_,_,_,rfl,rfl,AS.of WV,hde;have k47:Az p H4 H7:=k5.trans ((Az.of_same Y0).trans k7);have hDxa:=k47 _ _ nDp hD4;obtain ⟨moa,hmoa,YC,moa2⟩:∃ mo:Int,Gk [V.int 6,.int 3] wv=some (.int mo)/\1<=mo/\mo<=6:=by
   rcases Xs with rfl | rfl
   ·exact ⟨_,rfl,by decide,by decide⟩
   ·exact ⟨_,rfl,by decide,by decide⟩
  refine ⟨_,rfl,_,rfl,(by show 2<=sizeLine; lia),fun La hLa=>?_⟩;have sLa:=Ad (o:=.lst [V.int 6,.int 3]) hLa;have WU:(upd H7 La (.lst [V.int 6,.int 3])) La=some (.lst [V.int 6,.int 3]):=Ab;have PLa:=P7.same sLa;have hDa:=sLa _ _ hDxa;generalize upd H7 La (.lst [V.int 6,.int 3])=HLa at sLa WU PLa hDa;refine ⟨_,rfl,La,_,_,_,rfl,rfl,AS.of WU,hmoa,p,D,xs,moa,rfl,PLa,hDa,nDp,by lia,by lia,YC,by lia,fun Ha Da ysa zsa Pa ka fa da pma l1a l2a=>?_⟩;have nDa:Da ≠ p:=PLa.ne fa;exists Da,rfl,⟨_,AS.of da⟩
  have ysuba:∀ y ∈ ysa,y ∈ xs:=fun y hy=>pma.mem_iff.mp (av _ hy)
  have ynda:ysa.Nodup:=(aI.mp (pma.nodup_iff.mpr xnd)).1;refine Br Dm (xs:=ysa.map V.str) (fun D i σ H' acc=>∃ (v:Option V) (rs:List Bg),σ=[v,some (.ref p),some (.int mu),some (.int de)]/\Ax H' p/\(∀ b o,b ≠ p->Ha b=some o->H' b=some o)/\H' D=some (.lst acc)/\AE H' acc (rs.map C9)/\acc.length=i/\rs.map (·.1)=ysa.take i/\∀ r ∈ rs,0<=r.2/\r.2 < 10 ^ 30)
   (by rw [Z0]; lia) (fun D hD=>⟨_,[],rfl,Pa.other (Pa.ne hD),fun b o hb e=>Ad hD _ _ e,Ab,.nil,rfl,rfl,fun r hr=>(nomatch hr)⟩)
   (fun D i σ H' acc hD ⟨v,rs,_,_,kp,AQ,_,al,_⟩=>⟨AS.of (kp _ _ nDa da),AQ,al⟩) ?_ ?_
  ·rintro D i σ H' acc x B hD ex ⟨v,rs,rfl,P2,k2,d2,dd,al,rt,rl⟩ hB;obtain ⟨y,ey,rfl⟩:∃ y,ysa[i]? = some y/\x=.str y:=by
    rw [Z6] at ex;cases z:ysa[i]? with
    | none=>rw [z] at ex; cases ex
    | some y=>rw [z] at ex; exact ⟨y,rfl,(ZR.inj ex).symm⟩
   have nD:D ≠ p:=Pa.ne hD;refine ⟨_,rfl,_,rfl,_,rfl,_,rfl,p,de,rfl,P2,by lia,BW (by lia),fun l' a b c la lb=>⟨_,_,rfl,rfl,.inr ⟨by lia,by lia⟩,?_⟩⟩;have hl:0<=mu * l'/\mu * l' < 10 ^ 30:=by
    have h1:0<=mu * l':=cU (by lia) la;have h2:mu * l'<=10 ^ 20 * 40:=cn X6 (by lia) la (by decide);have h3:(10:Int) ^ 20 * 40 < 10 ^ 30:=by decide
    exact ⟨h1,by lia⟩
   refine ⟨(by show 2<=sizeLine; lia),fun T hT=>?_⟩;have d3:(upd (upd H' p (.lst (Au a b c))) T (.tup [.str y,.int (mu * l')])) D=some (.lst acc):=Ad hT _ _ (by rw [Ae nD]; exact d2);have nT:T ≠ D:=by intro z; subst z; rw [Ae nD,d2] at hT; cases hT
   have nTp:T ≠ p:=(Ax.set (H:=H') (p:=p) a b c).ne hT;refine hB _ _ _ d3 ⟨_,rs ++ [(y,mu * l')],rfl,((Ax.set a b c).other nTp).other nD,fun b' o hb e=>?_,Ab,?_,by rw [Z7,al]; rfl,?_,fun r hr=>?_⟩
   ·rw [Ae (Ah e hD)];exact Ad hT _ _ (by rw [Ae hb]; exact k2 b' o hb e)
   ·rw [ZC];refine CO (Bh dd fun b' ys e=>?_) (.cons (FL (u:=(y,mu * l')) (by rw [Ae nT]; exact Ab)) .nil);rw [Ae (by intro z; subst z; rw [d2] at e; cases e)];exact Ad hT _ _ (by rw [Ae (by intro z; subst z; obtain ⟨_,_,_,z⟩:=P2; rw [z] at e; cases e)]; exact e)
   ·rw [ZC,rt,ZH,ey];rfl
   ·rcases ZM.mp hr with hr | hr
    ·exact rl r hr
    ·rw [ZN] at hr;subst hr;exact hl
  rintro Sa σa HSa usa hSa ⟨va,rsa,rfl,PSa,kSa,dSa,dda,ala,rta,rla⟩;have rlena:rsa.length=ysa.length:=by
   have:=congrArg bg rta;rw [Z0,ZS,Z0,fg] at this;exact this
  rw [Z0,ZP] at rta;have nSa:Sa ≠ p:=Pa.ne hSa;have qa:Az p HLa HSa:=fun b o hb e=>kSa b o hb (ka b o hb e)
  refine ⟨Sa,usa,rsa,rfl,AS.of dSa,dda,(by have:=A9 dda; lia),fun la wsa UM hla ddda pmsa risa=>?_⟩;have sa:=Ad (o:=.lst wsa) hla;have hLLa:(upd HSa la (.lst wsa)) la=some (.lst wsa):=Ab;have PTa:=PSa.same sa;have dTa:AE (upd HSa la (.lst wsa)) wsa (UM.map C9):=Bh ddda (fun b ys z=>sa _ _ z);generalize upd HSa la (.lst wsa)=HTa at sa hLLa PTa dTa;have nla:la ≠ p:=PSa.ne hla;have qTa:Az p HLa HTa:=qa.trans (Az.of_same sa);have oka:DT xs 0 rsa:=⟨fun r hr=>ysuba _ (by rw [<-rta]; exact dN hr),by rw [rta]; exact ynda,rla,by lia⟩
  have hDxb:HTa D=some (.lst (xs.map V.str)):=qTa _ _ nDp hDa;obtain ⟨mob,hmob,YB,mob2⟩:∃ mo:Int,Gk [V.int 8,.int 25] wv=some (.int mo)/\1<=mo/\mo<=30:=by
   rcases Xs with rfl | rfl
   ·exact ⟨_,rfl,by decide,by decide⟩
   ·exact ⟨_,rfl,by decide,by decide⟩
  refine ⟨_,rfl,_,rfl,(by show 2<=sizeLine; lia),fun Lb hLb=>?_⟩;have sLb:=Ad (o:=.lst [V.int 8,.int 25]) hLb;have WT:(upd HTa Lb (.lst [V.int 8,.int 25])) Lb=some (.lst [V.int 8,.int 25]):=Ab;have PLb:=PTa.same sLb;have hDb:=sLb _ _ hDxb;generalize upd HTa Lb (.lst [V.int 8,.int 25])=HLb at sLb WT PLb hDb;refine ⟨_,rfl,Lb,_,_,_,rfl,rfl,AS.of WT,hmob,p,D,xs,mob,rfl,PLb,hDb,nDp,by lia,by lia,YB,by lia,fun Hb Db ysb zsb Pb kb fb db pmb l1b l2b=>?_⟩;have nDb:Db ≠ p:=PLb.ne fb;exists Db,rfl,⟨_,AS.of db⟩
  have ysubb:∀ y ∈ ysb,y ∈ xs:=fun y hy=>pmb.mem_iff.mp (av _ hy)
  have yndb:ysb.Nodup:=(aI.mp (pmb.nodup_iff.mpr xnd)).1;refine Br Dm (xs:=ysb.map V.str) (fun D i σ H' acc=>∃ (v:Option V) (rs:List Bg),σ=[v,some (.ref p)]/\Ax H' p/\(∀ b o,b ≠ p->Hb b=some o->H' b=some o)/\H' D=some (.lst acc)/\AE H' acc (rs.map C9)/\acc.length=i/\rs.map (·.1)=ysb.take i/\∀ r ∈ rs,1<=r.2/\r.2<=4)
   (by rw [Z0]; lia) (fun D hD=>⟨_,[],rfl,Pb.other (Pb.ne hD),fun b o hb e=>Ad hD _ _ e,Ab,.nil,rfl,rfl,fun r hr=>(nomatch hr)⟩)
   (fun D i σ H' acc hD ⟨v,rs,_,_,kp,AQ,_,al,_⟩=>⟨AS.of (kp _ _ nDb db),AQ,al⟩) ?_ ?_
  ·rintro D i σ H' acc x B hD ex ⟨v,rs,rfl,P2,k2,d2,dd,al,rt,rl⟩ hB;obtain ⟨y,ey,rfl⟩:∃ y,ysb[i]? = some y/\x=.str y:=by
    rw [Z6] at ex;cases z:ysb[i]? with
    | none=>rw [z] at ex; cases ex
    | some y=>rw [z] at ex; exact ⟨y,rfl,(ZR.inj ex).symm⟩
   have nD:D ≠ p:=Pb.ne hD;refine ⟨_,rfl,_,rfl,p,4,rfl,P2,by decide,BW (by decide),fun l' a b c la lb=>⟨_,_,rfl,rfl,?_⟩⟩;have hl:1<=1 + l'/\1 + l'<=4:=⟨by lia,by lia⟩
   refine ⟨(by show 2<=sizeLine; lia),fun T hT=>?_⟩;have d3:(upd (upd H' p (.lst (Au a b c))) T (.tup [.str y,.int (1 + l')])) D=some (.lst acc):=Ad hT _ _ (by rw [Ae nD]; exact d2);have nT:T ≠ D:=by intro z; subst z; rw [Ae nD,d2] at hT; cases hT
   have nTp:T ≠ p:=(Ax.set (H:=H') (p:=p) a b c).ne hT;refine hB _ _ _ d3 ⟨_,rs ++ [(y,1 + l')],rfl,((Ax.set a b c).other nTp).other nD,fun b' o hb e=>?_,Ab,?_,by rw [Z7,al]; rfl,?_,fun r hr=>?_⟩
   ·rw [Ae (Ah e hD)];exact Ad hT _ _ (by rw [Ae hb]; exact k2 b' o hb e)
   ·rw [ZC];refine CO (Bh dd fun b' ys e=>?_) (.cons (FL (u:=(y,1 + l')) (by rw [Ae nT]; exact Ab)) .nil);rw [Ae (by intro z; subst z; rw [d2] at e; cases e)];exact Ad hT _ _ (by rw [Ae (by intro z; subst z; obtain ⟨_,_,_,z⟩:=P2; rw [z] at e; cases e)]; exact e)
   ·rw [ZC,rt,ZH,ey];rfl
   ·rcases ZM.mp hr with hr | hr
    ·exact rl r hr
    ·rw [ZN] at hr;subst hr;exact hl
  rintro Sb σb HSb usb hSb ⟨vb,rsb,rfl,PSb,kSb,dSb,ddb,alb,rtb,rlb⟩;have rlenb:rsb.length=ysb.length:=by
   have:=congrArg bg rtb;rw [Z0,ZS,Z0,fg] at this;exact this
  rw [Z0,ZP] at rtb;have nSb:Sb ≠ p:=Pb.ne hSb;have qb:Az p HLb HSb:=fun b o hb e=>kSb b o hb (kb b o hb e)
  refine ⟨Sb,usb,rsb,rfl,AS.of dSb,ddb,(by have:=A9 ddb; lia),fun lb wsb UL hlb dddb pmsb _=>?_⟩;have sb:=Ad (o:=.lst wsb) hlb;have hLLb:(upd HSb lb (.lst wsb)) lb=some (.lst wsb):=Ab;have PTb:=PSb.same sb;have dTb:AE (upd HSb lb (.lst wsb)) wsb (UL.map C9):=Bh dddb (fun b ys z=>sb _ _ z);generalize upd HSb lb (.lst wsb)=HTb at sb hLLb PTb dTb;have nlb:lb ≠ p:=PSb.ne hlb;have qTb:Az p HLb HTb:=qb.trans (Az.of_same sb);have ten:(4:Int) < 10 ^ 30:=by decide
  have okb:DT xs 1 rsb:=⟨fun r hr=>ysubb _ (by rw [<-rtb]; exact dN hr),by rw [rtb]; exact yndb,fun r hr=>⟨(rlb r hr).1,by have:=(rlb r hr).2; lia⟩,by lia⟩
  have Ze:=rlena;have hla:∀ b o,b ≠ p->HTa b=some o->HTb b=some o:=fun b o hb e=>qTb b o hb (sLb _ _ e)
  have wsl:wsa.length=rsa.length:=by rw [dTa.len,Z0,pmsa.length_eq]
  refine ⟨_,rfl,_,rfl,la,_,rfl,.inl (AS.of (hla _ _ nla hLLa)),_,_,rfl,rfl,p,(wsa.length:Int) + 1,rfl,PTb,by lia,BW (by lia),fun d6 a6 b6 c6 d60 d61=>⟨_,_,rfl,rfl,(by show 2<=sizeLine; lia),fun L4 hL4=>?_⟩⟩;have P8:Ax (upd (upd HTb p (.lst (Au a6 b6 c6))) L4 (.lst [.non,.int (1 + d6)])) p:=(Ax.set a6 b6 c6).same (Ad hL4);have k8:Az p HTb (upd (upd HTb p (.lst (Au a6 b6 c6))) L4 (.lst [.non,.int (1 + d6)])):=Az.upd.trans (Az.of_same (Ad hL4));have SR:(upd (upd HTb p (.lst (Au a6 b6 c6))) L4 (.lst [.non,.int (1 + d6)])) L4=some (.lst [.non,.int (1 + d6)]):=Ab;generalize upd (upd HTb p (.lst (Au a6 b6 c6))) L4 (.lst [.non,.int (1 + d6)])=H8 at P8 k8 SR ⊢;have nL4:L4 ≠ p:=by intro z; subst z; obtain ⟨_,_,_,z⟩:=P8; rw [z] at SR; cases SR
  refine ⟨_,rfl,p,2,rfl,P8,by decide,BW (by decide),fun d7 a7 b7 c7 d70 d71=>?_⟩;obtain ⟨x,dx,hx,lim⟩:∃ (x:V) (dx:PyData),Gk [V.non,.int (1 + d6)] d7=some x/\Lim x dx:=by
   have:d7=0\/d7=1:=by lia
   have ten2:(100:Int) < 10 ^ 30:=by decide
   rcases this with rfl | rfl
   ·exact ⟨_,_,rfl,.inl ⟨rfl,rfl⟩⟩
   ·exact ⟨_,_,rfl,.inr ⟨_,rfl,rfl,by lia,by lia⟩⟩
  have k9:Az p HTb (upd H8 p (.lst (Au a7 b7 c7))):=k8.trans Az.upd;have P9:Ax (upd H8 p (.lst (Au a7 b7 c7))) p:=Ax.set _ _ _;have hL9:(upd H8 p (.lst (Au a7 b7 c7))) L4=some (.lst [.non,.int (1 + d6)]):=by rw [Ae nL4]; exact SR
  generalize upd H8 p (.lst (Au a7 b7 c7))=H9 at k9 P9 hL9 ⊢;exists L4,_,_,x,rfl,rfl,AS.of hL9,hx;have Wx:Az p HTa H9:=fun b o hb e=>k9 _ _ hb (hla _ _ hb e)
  have XH:Az p H6 H9:=k7.trans ((Az.of_same sLa).trans (qTa.trans Wx));have hD9:H9 D=some (.lst (xs.map V.str)):=Wx _ _ nDp hDxb;have hW9:H9 W=some (.lst acc):=XH _ _ nWp hWW;have dW9:AE H9 acc ((ws.map (Fw mu)).map EB):=Dp dW (Dq P6 XH);have hA9:H9 la=some (.lst wsa):=Wx _ _ nla hLLa;have dA9:AE H9 wsa (UM.map C9):=Bh dTa (Dq PTa Wx);have hB9:H9 lb=some (.lst wsb):=k9 _ _ nlb hLLb;have dB9:AE H9 wsb (UL.map C9):=Bh dTb (Dq PTb k9);have kp9:Az p H H9:=k1.trans (k2.trans (k3.trans (k4.trans (k5.trans ((Az.of_same Y0).trans XH)))));clear hla Wx XH k9;refine ⟨_,rfl,D,xs,rfl,AS.of hD9,by lia,fun l1 ps JF pp so=>⟨l1,_,rfl,.inl ⟨AS.of Ab,fun T1 R7=>?_⟩⟩⟩;have r1:=(Ad (o:=.lst (ps.map V.str)) JF).trans (Ad (o:=.tup (ps.map V.str)) R7);have SO:(upd (upd H9 l1 (.lst (ps.map V.str))) T1 (.tup (ps.map V.str))) T1=some (.tup (ps.map V.str)):=Ab;generalize upd (upd H9 l1 (.lst (ps.map V.str))) T1 (.tup (ps.map V.str))=J0 at r1 SO ⊢;refine ⟨_,rfl,W,_,rfl,.inl ⟨AS.of (r1 _ _ hW9),fun T2 PY=>?_⟩⟩;have r2:=Ad (o:=.tup acc) PY;have WN:(upd J0 T2 (.tup acc)) T2=some (.tup acc):=Ab;generalize upd J0 T2 (.tup acc)=Jz at r2 WN ⊢;refine ⟨(by show 2<=sizeLine; lia),fun M hM=>?_⟩;have r3:=Ad (o:=.tup [.ref T1,.ref T2]) hM;have hM':(upd Jz M (.tup [.ref T1,.ref T2])) M=some (.tup [.ref T1,.ref T2]):=Ab;generalize upd Jz M (.tup [.ref T1,.ref T2])=Lo at r3 hM' ⊢;have Y3:=r1.trans (r2.trans r3);refine ⟨_,rfl,la,_,rfl,.inl ⟨AS.of (Y3 _ _ hA9),fun T3 VW=>?_⟩⟩;have r4:=Ad (o:=.tup wsa) VW;have WL:(upd Lo T3 (.tup wsa)) T3=some (.tup wsa):=Ab;generalize upd Lo T3 (.tup wsa)=Xn at r4 WL ⊢;refine ⟨_,rfl,lb,_,rfl,.inl ⟨AS.of (r4 _ _ (Y3 _ _ hB9)),fun T4 Ye=>?_⟩⟩;have r5:=Ad (o:=.tup wsb) Ye;have WK:(upd Xn T4 (.tup wsb)) T4=some (.tup wsb):=Ab;generalize upd Xn T4 (.tup wsb)=H14 at r5 WK ⊢;refine ⟨_,rfl,(by show 4<=sizeLine; lia),fun U hU=>?_⟩;have r6:=Ad (o:=.tup [.ref M,.ref T3,.ref T4,x]) hU;have hU':(upd H14 U (.tup [.ref M,.ref T3,.ref T4,x])) U=some (.tup [.ref M,.ref T3,.ref T4,x]):=Ab;generalize upd H14 U (.tup [.ref M,.ref T3,.ref T4,x])=H15 at r6 hU' ⊢;have X2:=r4.trans (r5.trans r6);have Wn:=Y3.trans X2;have pl:=pp.length_eq;have mw:Gh H15 M ps.length ps (ws.map (Fw mu)):=Pk X7 X6 (X2 _ _ hM') (X2 _ _ (r3 _ _ (r2 _ _ SO))) (X2 _ _ (r3 _ _ WN)) (Dp dW9 fun b ys z=>Wn _ _ z) pp so xnd xnm wp wc w9 wl;refine k H15 U M ps.length ps _ UM UL x dx (P9.same Wn) (kp9.trans (Az.of_same Wn)) ⟨⟨T3,T4,wsa,wsb,hU',r6 _ _ (r5 _ _ WL),Bh dA9 (fun b ys z=>Wn _ _ z),r6 _ _ WK,Bh dB9 (fun b ys z=>Wn _ _ z)⟩,mw,by lia,by lia,(oka.perm pmsa).names pp,(okb.perm pmsb).names pp,?_,?_,lim⟩ (fun r hr=>(rlb r (pmsb.mem_iff.mp hr)).2) (OM risa (oka.perm pmsa).nd) (by rw [pmsa.length_eq]; lia)
  ·rw [pmsa.length_eq]; lia
  ·rw [pmsb.length_eq]; lia
end
section
variable {P:Program} {w:World} {K:Z1} {mg:Str->Option Value} {base:Heap}
theorem IF {f:Addr} {fd:FuncData} (F:D6 K "neighbours" "neighbours" CY f fd):A7 P w K mg base Bq 1 f fd ["web"] (Qz K):=by
 refine F.ok Fm (fun vs H Q E h=>?_) (fun cdv A outer s H vs Q E hr h=>?_)
 ·obtain ⟨q,ps,ws,r,rfl,_⟩:=h;rfl
 ·obtain ⟨q,ps,ws,r,rfl,ok,k⟩:=h;obtain ⟨tp,tw,us,hq,htp,htw,hD⟩:=ok.web.ex;have nd:=Fm.nd;have hu:=CV hr;have big:1000 < sizeLine:=by decide
  have l30:=ok.l30;have l64:=ok.l64;refine ⟨_,Ag (DP (pv 0) (AW K rfl rfl (Am (Ai (i:=1) nd rfl (Or.inl rfl)) (Am (Ai (i:=2) nd rfl (Or.inl rfl)) AV))))
   (Ag (QQ (ix:=3) (N:=["place"]) (σ0:=fun _=>[none]) nd rfl (Or.inl rfl) rfl (AJ.plain (by decide +kernel) (by decide +kernel) rfl (by decide +kernel)) (fun σ _=>Bj.none _ _ _ ["place"] σ) (Bi K rfl (pv 1))
    (fun s2 H C fp=>⟨Ai (i:=0) (show (["place"]:List Str).Nodup by decide +kernel) rfl (Or.inl rfl),Bd,pv 0,LO⟩))
   (Ag (BB PassesOwn.never rfl (Bi K rfl (pv 2)) (AW K rfl rfl (Am (Ai (i:=4) nd rfl (Or.inl rfl)) (Am (Ai (i:=5) nd rfl (Or.inl rfl)) (Am (Ai (i:=6) nd rfl (Or.inl rfl)) AV))))
    (Ag (DM hu (Bo hu (pv 3) (pv 4) (fun _ _=>rfl)) (pv 5) (pv 6) rfl) (Ak (DM hu (Bo hu (pv 3) (pv 5) (fun _ _=>rfl)) (pv 4) (pv 6) rfl))))
   (Ak (A4 (pv 3))))),?_⟩
  exists _,rfl,q,_,rfl,A1.of hq,rfl,_,_,rfl,_,_,rfl,rfl;refine ⟨_,rfl,tp,rfl,⟨_,A1.of htp⟩,fun C hC=>⟨fun i m A3 H'=>m=ps.length - i/\i<=ps.length/\(∃ v,A3=[v])/\∃ ds:List Addr,Ao H H'/\ds.length=i/\ds.Nodup/\C ∉ ds/\(∀ d ∈ ds,H d=none/\H' d=some (.dK []))/\H' C=some (.dK (sK (NZ (ps.take i) ds))),
   ⟨_,rfl,ZX _,⟨_,rfl⟩,[],Ad hC,rfl,.nil,by simp,by simp,Ab⟩,?_⟩⟩
  rintro i m A3 H' ⟨rfl,hi,⟨v,rfl⟩,ds,s1,dl,dn,dC,dH,Oj⟩;have Na:=s1 _ _ htp;by_cases B5:i < ps.length
  ·refine .inr ⟨⟨_,V.str ps[i],A1.of Na,by rw [Z6,Zy B5]; rfl⟩,?_⟩;rintro x H6 ⟨rfl,hx⟩;have Mg:=hx _ (A1.of Na);rw [Z6,Zy B5] at Mg;cases Mg
   have tl:(ps.take i).length=i:=by rw [ZS]; lia
   have np:ps[i] ∉ (NZ (ps.take i) ds).map (·.1):=by
    rw [IL (by lia)];intro hm;obtain ⟨j,hj,e⟩:=ZQ hm;rw [bK] at e;have:=Hl ok.nd (Zy (show j < ps.length by lia)) (by rw [Zy B5,e]);lia
   refine ⟨_,rfl,fun d hd=>⟨_,Sum.inr ps[i],rfl,Ad hd _ _ Oj,?_,_,by lia,rfl,B5,⟨_,rfl⟩,ds ++ [d],fun b o z=>?_,by simp [dl],?_,?_,fun c hc=>?_,?_⟩⟩
   ·rw [CU];unfold NZ;rw [Z0,bU];lia
   ·rw [Ae (Ah z hC)];exact Ad hd _ _ (s1 _ _ z)
   ·refine aI.mpr ⟨dn,ax.mpr ⟨by simp,.nil⟩,fun a ha b hb=>?_⟩;have e:b=d:=by simpa using hb
    subst e;rintro rfl;rw [(dH _ ha).2] at hd;cases hd
   ·rw [ZM,not_or];refine ⟨dC,fun hm=>?_⟩;have e:C=d:=by simpa using hm
    rw [<-e,Oj] at hd;cases hd
   ·rcases ZM.mp hc with hc | hc
    ·exists (dH c hc).1;rw [Ae (fun z=>dC (by rw [<-z]; exact hc))];exact Ad hd _ _ (dH c hc).2
    ·have e:c=d:=by simpa using hc
     subst e;exists s1.free hd;rw [Ae (fun z=>by rw [z,Oj] at hd; cases hd)];exact Ab
   ·rw [Ab,DO np];have e1:ps.take (i + 1)=ps.take i ++ [ps[i]]:=by rw [ZH,Zy B5]; rfl
    have e2:NZ (ps.take (i + 1)) (ds ++ [d])=NZ (ps.take i) ds ++ [(ps[i],.ref d)]:=by
     unfold NZ;rw [e1,List.zip_append (by lia),ZC];rfl
    rw [e2]
  ·have e0:i=ps.length:=by lia
   subst e0;rw [ZP] at Oj;refine .inl ⟨⟨_,A1.of Na,by rw [Z0]; exact Z4 _⟩,?_⟩;have NB0:NB H' C ps ds (Lr (ws.take 0)) 0:=⟨Oj,dl,dn,dC,fun j p d e1 e2=>⟨[],(dH d (Z2 e2)).2,Z4 _,fun y=>⟨fun z=>absurd z Z8,fun ⟨u,hu,_⟩=>absurd hu Z8⟩⟩⟩
   have Zw:RW H' ps ds (BP (ws.take 0)):=fun j p d nv e1 e2 hr y v hy=>by
    have:nv=[]:=Rd.inj hr (.inl (dH d (Z2 e2)).2);subst this;cases hy
   have hwl:us.length=ws.length:=by rw [Jl hD,Z0]
   refine ⟨_,rfl,tw,rfl,⟨_,A1.of (s1 _ _ htw)⟩,Mi (xs:=us) (fun i σ H2=>(∃ v4 v5 v6,σ=[some (.ref q),some (.ref tp),some (.ref tw),some (.ref C),v4,v5,v6])/\Ao H H2/\NB H2 C ps ds (Lr (ws.take i)) (2 * i)/\RW H2 ps ds (BP (ws.take i))) ⟨⟨_,_,_,rfl⟩,s1,NB0,Zw⟩ (fun i σ H2 _ hP=>A1.of (hP.2.1 _ _ htw)) (fun i x σ H2 hx hP rt bk=>?_) (fun σ H2 hP=>?_)⟩
   ·obtain ⟨⟨v4,v5,v6,rfl⟩,s2,nb,nbv⟩:=hP;obtain ⟨u,t,gu,rfl,ht⟩:=ER hD hx;have WD:i < ws.length:=(ZA.mp gu).1;have XQ:=ok.ends u (Z2 gu);exists t,_,rfl,A1.of (s2 _ _ ht),rfl,_,_,rfl,_,_,rfl,_,_,rfl,rfl;obtain ⟨j,d,nv,a1,a2,a3,a4,a5,a6⟩:=nb.get ok.nd XQ.1;obtain ⟨Ef,b1,b2,b3⟩:=MC nv u.2.1 (.int u.2.2);have dH1:∀ c ∈ ds,H c=none:=fun c hc=>(dH c hc).1
    exists _,rfl,_,rfl,_,rfl,C,_,rfl,?_,_,rfl,d,_,rfl,F8.k (k:=Sum.inr u.2.1) a4 (by rw [CU]; lia)
    ·have:=Cw.k (k:=Sum.inr u.1) nb.top;rw [a3] at this;exact this
    rw [b1];have TV:=nb.put ok.nd a1 a2 a4 b2 b3 a6 a5;have Ws:=nbv.put ok.nd nb.nd a1 a2 a4 b1 (fun _ _ _=>PD) (Ml gu);have s3:Ao H (upd H2 d (.dK (sK Ef))):=fun b o z=>by
     rw [Ae (Ah z (dH1 d (Z2 a2)))];exact s2 _ _ z
    generalize upd H2 d (.dK (sK Ef))=H3 at TV Ws s3 ⊢;obtain ⟨j',d',mv,c1,c2,c3,c4,c5,c6⟩:=TV.get ok.nd XQ.2;obtain ⟨mv',e1,e2,e3⟩:=MC mv u.1 (.int u.2.2);exists _,rfl,_,rfl,_,rfl,C,_,rfl,?_,_,rfl,d',_,rfl,F8.k (k:=Sum.inr u.1) c4 (by rw [CU]; lia)
    ·have:=Cw.k (k:=Sum.inr u.2.1) TV.top;rw [c3] at this;exact this
    rw [e1];have nb3:=TV.put ok.nd c1 c2 c4 e2 e3 c6 c5;have Y9:=Ws.put (Ed':=BP (ws.take (i + 1))) ok.nd TV.nd c1 c2 c4 e1 (fun _ _ _ h=>h) (Ml gu).symm;refine ⟨⟨_,_,_,rfl⟩,fun b o z=>?_,nb3.mono (fun a b=>(RL gu a b).symm) (by lia),Y9⟩;rw [Ae (Ah z (dH1 d' (Z2 c2)))];exact s3 _ _ z
   ·obtain ⟨⟨v4,v5,v6,rfl⟩,s2,nb,nbv⟩:=hP;rw [hwl,ZP] at nb nbv;exact ⟨_,rfl,k H2 C ds s2 (nb.mono (fun _ _=>Iff.rfl) (by lia)) nbv hC fun d hd=>(dH d hd).1⟩
end
section
variable {P:Program} {w:World} {K:Z1} {mg:Str->Option Value} {base:Heap}
structure NbF (K:Z1) (mg:Str->Option Value) (f:Addr) (fd:FuncData):Prop where
 F:D6 K "neighbours" "neighbours" CY f fd
 mg:mg "neighbours"=some (.ref f)
 b:Hw K fd ["web"] []
theorem MM {f fN:Addr} {fd fdN:FuncData} (NK:NbF K mg fN fdN) (hmi:mg "min"=none) (F:D6 K "nearest" "nearest" EY f fd):A7 P w K mg base Bq 2 f fd ["web","starts"] (Qy K):=by
 have GN:A7 P w K mg base Bq 1 fN fdN ["web"] (Qz K):=IF NK.F;refine F.ok Ir (fun vs H Q E h=>?_) (fun cdv A outer s H vs Q E hr h=>?_)
 ·obtain ⟨q,st,ps,ss,ws,r,rfl,_⟩:=h;rfl
 ·obtain ⟨q,st,ps,ss,ws,r,rfl,ok,pos,uniq,hst,ssne,ssn,sssub,k⟩:=h;have nd:=Ir.nd;have hu:=CV hr;have Ja:=hr.units;have big:1000 < sizeLine:=by decide
  have l30:=ok.l30;have ssl:ss.length<=30:=by
   have:=Cg ssn sssub;lia
  refine ⟨_,Ag (Ap (i:=2) nd rfl (Or.inl rfl) (Al GN hr (by rfl) NK.mg NK.F.kp NK.b .nil Av (Aa (pv 0) Ac)))
   (Ag (Ap (i:=3) nd rfl (Or.inr rfl) (ID (N:=["start"]) (σ0:=fun _=>[none]) rfl (AJ.plain (by decide +kernel) (by decide +kernel) rfl (by decide +kernel)) (fun σ _=>Bj.none _ _ _ ["start"] σ) (PI.or (QS K rfl (pv 1)) (Bi K rfl (pv 1)))
    (fun s2 H C fp=>⟨Ai (i:=0) (show (["start"]:List Str).Nodup by decide +kernel) rfl (Or.inl rfl),Bd,pv 0,AB (Aa Af (Aa (pv 0) Ac))⟩)))
   (Ag (Ap (i:=4) nd rfl (Or.inl rfl) LO)
   (Ag (QP PassesOwn.never (QO (pv 3) (fun _=>rfl))
    (Ag (DP (Sv (Aj (Jo rfl Ja) (by rfl) hmi PyProof.Rows.boot_min (Aa
      (Bl (N:=["name","reached"]) (σ0:=fun σ=>[none,some 3].map fun j=>j.bind fun j=>(σ[j]?).join) rfl
       (AJ.caught (by rfl) (by decide +kernel) rfl (by decide +kernel) (by intro y hy; simp only [Z3,Z8,or_false] at hy; rcases hy with rfl <;> rfl)
        (by intro y hy e; simp only [Z3,Z8,or_false] at hy; rcases hy with rfl | rfl | rfl <;> first | exact ⟨_,rfl⟩ | cases e))
       (fun σ _=>Bj.of [none,some 3] rfl (by
        intro i j x h1 h2;match i,h1,h2 with
        | 0,_,h2=>cases h2
        | 1,h1,h2=>cases h1; cases h2; exact ⟨rfl,.inl rfl,.inl rfl⟩
        | n + 2,h1,_=>cases h1)) (NW (pv 3))
       (fun s2 H C fp=>⟨Ai (i:=0) (show (["name","reached"]:List Str).Nodup by decide +kernel) rfl (Or.inl rfl),Bd,AB (Aa (Bo hu (pv 1) (pv 0) (fun _ _=>rfl)) (Aa (pv 0) Ac))⟩)) Ac)))
      (AW K rfl rfl (Am (AW K rfl rfl (Am (Ai (i:=5) nd rfl (Or.inl rfl)) (Am (Ai (i:=6) nd rfl (Or.inl rfl)) AV))) (Am (Ai (i:=7) nd rfl (Or.inl rfl)) AV))))
    (Ag (Su (pv 3) (pv 7))
    (Ag (DM hu (pv 4) (pv 7) (AB (Aa (pv 5) (Aa (pv 6) Ac))) rfl)
    (Ak (BB PassesOwn.never rfl (NW (Bo hu (pv 2) (pv 7) (fun _ _=>rfl))) (Ai (i:=8) nd rfl (Or.inl rfl))
     (Ak (B7 (IB (OU hu (pv 8) (pv 4)))
      (Ag (Ap (i:=9) nd rfl (Or.inl rfl) (AB (Aa (Ay Ba (pv 5) (Bo hu (Bo hu (pv 2) (pv 7) (fun _ _=>rfl)) (pv 8) (fun _ _=>rfl))) (Aa (pv 6) Ac))))
      (Ak (DM hu (pv 3) (pv 8) (Aj (JK rfl Ja) (by rfl) hmi PyProof.Rows.boot_min (Aa (pv 9) (Aa (QY hu (pv 3) (pv 8) (pv 9) ⟨rfl,rfl,rfl,rfl⟩) Ac))) rfl))) AR))))))))
   (Ak (A4 (pv 4)))))),?_⟩
  refine ⟨_,rfl,q,ps,ws,r,rfl,ok,fun H1 B ds s1 nb nbv hB hds=>?_⟩;have nbAt:∀ a,a ∈ ds->∃ u,H1 a=some u:=fun a hm=>by
   obtain ⟨i,hi,e⟩:=ZQ hm;have WD:i < ps.length:=by rw [<-nb.len]; exact hi
   obtain ⟨nv,a1,_⟩:=nb.inner i ps[i] a (Zy WD) (by rw [Zy hi,e]);exact ⟨_,a1⟩
  have VZ:=nb.top;rcases hst with hst | hst
  case' inl=>
   refine .inl ⟨_,rfl,st,rfl,⟨_,AS.of (s1 _ _ hst)⟩,fun RA hRA=>?_⟩
  case' inr=>
   refine .inr ⟨_,rfl,st,rfl,⟨_,A1.of (s1 _ _ hst)⟩,fun RA hRA=>?_⟩
  all_goals
   refine ⟨fun i m A3 H'=>m=ss.length - i/\i<=ss.length/\(∃ v,A3=[v])/\∃ nv:List (Str × V),Ao H1 H'/\H' RA=some (.dK (sK nv))/\nv.map (·.1)=ss.take i/\∀ y v,(y,v) ∈ nv->Jt H' v (0,y),
    ⟨_,rfl,ZX _,⟨_,rfl⟩,[],Ad hRA,Ab,rfl,fun y v hy=>absurd hy Z8⟩,?_⟩
   rintro i m A3 H' ⟨rfl,hi,⟨v,rfl⟩,nv,s2,Oj,nk,np⟩;have Nb:=s2 _ _ (s1 _ _ hst);by_cases B5:i < ss.length
   ·refine .inr ⟨⟨_,V.str ss[i],by first | exact AS.of Nb | exact A1.of Nb,by rw [Z6,Zy B5]; rfl⟩,?_⟩;rintro x H6 ⟨rfl,hx⟩;have Mg:=hx _ (by first | exact AS.of Nb | exact A1.of Nb);rw [Z6,Zy B5] at Mg;cases Mg
    have nn:ss[i] ∉ nv.map (·.1):=by
     rw [nk];intro hm;obtain ⟨j,hj,e⟩:=ZQ hm;rw [ZS] at hj;rw [bK] at e;have:=Hl ssn (Zy (show j < ss.length by lia)) (by rw [Zy B5,e]);lia
    have nl:nv.length=i:=by
     have:=congrArg bg nk;rw [Z0,ZS] at this;lia
    refine ⟨_,rfl,_,rfl,(by show 2<=sizeLine; lia),fun t ht=>⟨_,Sum.inr ss[i],rfl,Ad ht _ _ Oj,by rw [CU]; lia,_,by lia,rfl,B5,⟨_,rfl⟩,nv ++ [(ss[i],.ref t)],fun b o z=>?_,by rw [Ab,DO nn],?_,fun y v hy=>?_⟩⟩
    ·rw [Ae (Ah z hRA)];exact Ad ht _ _ (s2 _ _ z)
    ·rw [ZC,nk,ZH,Zy B5]; rfl
    ·have tk:∀ b xs,(upd H6 t (.tup [.int 0,.str ss[i]])) b=some (.tup xs)->(upd (upd H6 t (.tup [.int 0,.str ss[i]])) RA (.dK (BG (sK nv) (Sum.inr ss[i]:Bm) (.ref t)))) b=some (.tup xs):=fun b xs z=>by
      rw [Ae (CB z (Ad ht _ _ Oj) (by intro z; cases z))]; exact z
     rcases ZM.mp hy with hy | hy
     ·exact (np y v hy).same fun b xs z=>tk b xs (Ad ht _ _ z)
     ·simp only [ZN,Prod.mk.injEq] at hy;obtain ⟨rfl,rfl⟩:=hy;exact ⟨t,rfl,tk _ _ Ab⟩
   ·have e0:i=ss.length:=by lia
    subst e0;rw [ZP] at nk;refine .inl ⟨⟨_,by first | exact AS.of Nb | exact A1.of Nb,by rw [Z0]; exact Z4 _⟩,fun SA hSA=>?_⟩;have sS:=Ad (o:=.dK []) hSA;have aR:RA ∉ ds/\RA ≠ B/\RA ≠ SA/\H RA=none:=⟨(fun hm=>by obtain ⟨u,e⟩:=nbAt RA hm; rw [hRA] at e; cases e),(fun z=>by rw [z,VZ] at hRA; cases hRA),(fun z=>by rw [<-z,Oj] at hSA; cases hSA),s1.free hRA⟩
    have aS:SA ∉ ds/\SA ≠ B/\SA ≠ RA/\H SA=none:=⟨(fun hm=>by obtain ⟨u,e⟩:=nbAt SA hm; rw [s2 _ _ e] at hSA; cases hSA),(fun z=>by rw [z,s2 _ _ VZ] at hSA; cases hSA),(fun z=>aR.2.2.1 z.symm),(s1.trans s2).free hSA⟩
    have s3:Ao H1 (upd H' SA (.dK [])):=s2.trans sS;have N0:NI H (upd H' SA (.dK [])) ps ws B RA SA ds nv [] (fun _ _=>False) (fun y p=>y ∈ ss/\p=(0,y)):=by
     refine ⟨s1.trans s3,nb.r.same s3,nbv.of nb.r (fun d _ nv z=>by rcases z with a | ⟨o,a⟩; exact .inl (s3 _ _ a); exact .inr ⟨o,s3 _ _ a⟩),sS _ _ Oj,Ab,⟨by rw [nk]; exact ssn,fun y v hy=>⟨(0,y),(np y v hy).same fun b xs z=>sS _ _ z,by rw [<-nk]; exact ZD.mpr ⟨_,hy,rfl⟩,rfl⟩,fun y p hp=>?_⟩,⟨.nil,fun y v hy=>absurd hy Z8,fun y p hp=>hp.elim⟩,fun y hy=>sssub y (by rw [<-nk]; exact hy),fun y hy=>absurd hy Z8⟩;obtain ⟨hy,rfl⟩:=hp;rw [<-nk] at hy;obtain ⟨⟨z,v⟩,a,b⟩:=ZD.mp hy;have b':z=y:=b;subst b';exact ⟨v,a,(np z v a).same fun b xs z=>sS _ _ z⟩
    have D0:Ts ws ss (fun _ _=>False) (fun y p=>y ∈ ss/\p=(0,y)):=⟨fun _ _ h=>h.elim,fun y p ⟨h1,h2⟩=>by subst h2; exact ⟨h1,.nil y⟩,fun _ _ _ _ h=>h.elim,fun s hs=>.inr ⟨(0,s),⟨hs,rfl⟩,D7.refl _⟩⟩
    clear Oj Nb np;generalize upd H' SA (.dK [])=H5 at N0 ⊢;refine ⟨fun m σ H2=>∃ nvR nvS S R v5 v6 v7 v8 v9,m=ps.length - nvS.length/\σ=[some (.ref q),some (.ref st),some (.ref B),some (.ref RA),some (.ref SA),v5,v6,v7,v8,v9]/\NI H H2 ps ws B RA SA ds nvR nvS S R/\Ts ws ss S R/\∀ y p,R y p->∀ q,¬ S y q,
     ⟨_,nv,[],_,_,_,_,_,_,_,rfl,rfl,N0,D0,fun _ _ _ _ h=>h⟩,?_⟩
    clear N0 D0 hSA sS s3 s2 nk;rintro m σ H2 ⟨nvR,nvS,S,R,v5,v6,v7,v8,v9,rfl,rfl,N,Dj,dis⟩;exists _,rfl,_,.inr (.inr ⟨_,N.dR,rfl⟩);by_cases hne:nvR=[]
    ·subst hne;refine Bp ?_;have all:∀ x ∈ ps,∃ q,S x q:=Dj.done (fun y p h=>by obtain ⟨v,a,_⟩:=N.pR.2.2 y p h; cases a) ssne ok.con (fun T x hx tx cl=>ok.con (fun z=>T z->T r) (fun h=>h) (fun a b hab h tb=>h (cl b a hab.symm tb)) x hx tx) sssub;refine ⟨_,rfl,k H2 SA nvS N.same aS.2.2.2 N.dS N.pS.1 (fun x=>⟨N.subS x,fun hx=>N.inS.mpr (all x hx)⟩) fun y v hy=>?_⟩;obtain ⟨p,h1,h2⟩:=N.pS.2.1 y v hy;exact ⟨p,h1,Dj.near y p h2⟩
    ·have YW:(!(sK nvR).isEmpty)=true:=by cases nvR with
      | nil=>exact absurd rfl hne
      | cons=>rfl
     rw [YW];refine Cr ?_;obtain ⟨NN,hNN⟩:∃ NN:St->Hp->Prop,NN=fun A3 H'=>∃ m',m' < ps.length - nvS.length/\∃ nvR nvS S R v5 v6 v7 v8 v9,m'=ps.length - nvS.length/\A3=[some (.ref q),some (.ref st),some (.ref B),some (.ref RA),some (.ref SA),v5,v6,v7,v8,v9]/\NI H H' ps ws B RA SA ds nvR nvS S R/\Ts ws ss S R/\∀ y p,R y p->∀ q,¬ S y q:=⟨_,rfl⟩
     exists NN,fun A3 H' z=>by rw [hNN] at z; exact z
     have lR:=N.lenR;have lS:=N.lenS;refine ⟨_,rfl,RA,_,rfl,.inl N.dR,fun o H3 fz C hC=>?_⟩;have fz':H3=upd H2 RA (.frz o (.dK (sK nvR))):=by
      rcases fz with ⟨_,e⟩ | ⟨e,_⟩
      ·exact e
      ·rw [N.dR] at e; cases e
     have hR3:=fz.at;have Yt:∀ b xs,H2 b=some (.tup xs)->H3 b=some (.tup xs):=fun b xs z=>by
      rw [fz.ne (CB z N.dR (by intro z; cases z))]; exact z
     refine ⟨fun i m A3 H'=>m=nvR.length - i/\i<=nvR.length/\(∃ v,A3=[v,some (.ref RA)])/\∃ (acc:List V) (ks:List ((Int × Str) × Str)),Ao H3 H'/\H' C=some (.lst acc)/\acc.length=i/\ks.length=i/\(∀ (j:Nat) v k,acc[j]? = some v->ks[j]? = some k->Uz H' v k)/\(∀ (j:Nat) y v,j < i->nvR[j]? = some (y,v)->∃ p,Jt H3 v p/\ks[j]? = some (p,y)),
      ⟨_,rfl,ZX _,⟨_,rfl⟩,[],[],Ad hC,Ab,rfl,rfl,fun j v k h=>(by simp at h),fun j y v hj=>absurd hj (aK _)⟩,?_⟩
     rintro i m A3 H' ⟨rfl,hi,⟨v,rfl⟩,acc,ks,s4,Oj,al,kl,hky,hks⟩;have WQ:=s4 _ _ hR3;have nCR:RA ≠ C:=Ah hR3 hC;by_cases B5:i < nvR.length
     ·refine .inr ⟨⟨WQ,by rw [CU]; exact B5⟩,?_⟩;rintro z H6 ⟨rfl,key,v2,ek,rfl⟩;obtain ⟨y,ey,rfl⟩:=TB ek;have hm:=Z2 ey;obtain ⟨p,hp,hRp⟩:=N.pR.2.1 y v2 hm;have hp3:=hp.same Yt;refine ⟨_,rfl,_,rfl,RA,v2,rfl,.inl ⟨_,Sum.inr y,.inr ⟨o,WQ⟩,rfl,(DJ N.pR.1 hm).symm⟩,_,rfl,(by show 2<=sizeLine; lia),fun t ht=>?_⟩;have st:=Ad (o:=.tup [v2,.str y]) ht;have hC2:=st _ _ Oj;have tC:∀ b xs,(upd H6 t (.tup [v2,.str y])) b=some (.tup xs)->(upd (upd H6 t (.tup [v2,.str y])) C (.lst (acc ++ [.ref t]))) b=some (.tup xs):=fun b xs z=>by
       rw [Ae (CB z hC2 (by intro z; cases z))]; exact z
      refine ⟨acc,hC2,by lia,_,by lia,rfl,B5,⟨_,rfl⟩,acc ++ [.ref t],ks ++ [(p,y)],fun b u z=>?_,Ab,by simp [al],by simp [kl],fun j v k h1 h2=>?_,fun j y' v' hj h=>?_⟩
      ·rw [Ae (Ah z hC)];exact st _ _ (s4 _ _ z)
      ·by_cases hj:j < acc.length
       ·rw [aE hj] at h1;rw [aE (by lia)] at h2;exact (hky j v k h1 h2).same fun b xs z=>tC b xs (st _ _ z)
       ·rw [ao (by lia)] at h1;rw [ao (by lia)] at h2;have j0:j - acc.length=0:=by
         have:=(ZA.mp h1).1;simp at this;lia
        have j1:j - ks.length=0:=by lia
        rw [j0] at h1;rw [j1] at h2;cases h1
        cases h2
        obtain ⟨t2,e2,g2⟩:=hp3;subst e2;exact ⟨t,t2,rfl,tC _ _ Ab,t2,rfl,tC _ _ (st _ _ (s4 _ _ g2))⟩
      ·by_cases ej:j=i
       ·subst ej;rw [ey] at h;cases h
        exact ⟨p,hp3,by rw [ao (by lia),kl,dt]; rfl⟩
       ·obtain ⟨p',a1,a2⟩:=hks j y' v' (by lia) h;exact ⟨p',a1,by rw [aE (by lia)]; exact a2⟩
     ·have e0:i=nvR.length:=by lia
      subst e0;have ksne:ks ≠ []:=by
       intro z;rw [z] at kl;exact hne (aU.mp kl.symm)
      refine .inl ⟨⟨WQ,by rw [CU]; exact Z4 _⟩,C,acc,ks,rfl,Oj,by lia,ksne,hky,fun v kk hk hKy hmin=>?_⟩;exists RA,o,sK nvR,WQ,fun ob w z=>?_
      ·have z':H RA=some (.frz ob w):=z;rw [aR.2.2.2] at z';cases z'
      obtain ⟨⟨d0,Il⟩,here⟩:=kk;obtain ⟨t,t2,rfl,ht,t2',e2,Eu⟩:=hKy;cases e2
      have t45:∀ b xs,H' b=some (.tup xs)->(upd H' RA (.dK (sK nvR))) b=some (.tup xs):=fun b xs z=>by
       rw [Ae (CB z WQ (by intro z; cases z))]; exact z
      have s25:Ao H2 (upd H' RA (.dK (sK nvR))):=fun b u z=>by
       by_cases eb:b=RA
       ·subst eb;rw [N.dR] at z;cases z
        exact Ab
       ·rw [Ae eb];refine s4 _ _ ?_;rw [fz.ne eb]; exact z
      have N5:=N.grow s25;have XX:=t45 _ _ ht;have W8:=t45 _ _ Eu;have inR:∀ j y p,ks[j]? = some (p,y)->R y p:=fun j y p h=>by
       have hj:j < nvR.length:=by
        have:=(ZA.mp h).1;lia
       obtain ⟨p',a1,a2⟩:=hks j nvR[j].1 nvR[j].2 hj (Zy hj);rw [h] at a2;cases a2
       obtain ⟨p'',b1,b2⟩:=N.pR.2.1 _ _ (ar hj);rw [a1.fn (b1.same Yt)];exact b2
      have hRh:R here (d0,Il):=by
       obtain ⟨j,hj,ej⟩:=ZQ hk;exact inR j here (d0,Il) (by rw [Zy hj,ej])
      have least:∀ z p,R z p->D7 (d0,Il) p:=fun z p hz=>by
       obtain ⟨v,a,b⟩:=N.pR.2.2 z p hz;obtain ⟨j,hj,ej⟩:=ZQ a;obtain ⟨p',a1,a2⟩:=hks j z v hj (by rw [Zy hj,ej]);have:=a1.fn (b.same Yt);subst this;exact hmin _ (Z2 a2)
      have nSh:∀ q,¬ S here q:=dis here _ hRh;have nearH:Nr ws ss here (d0,Il):=Dj.pick pos hRh nSh least;exists t,_,rfl,A1.of XX,rfl,_,_,rfl,t2,_,rfl,A1.of W8,rfl,_,_,rfl,_,_,rfl,rfl,_,_,rfl,rfl;generalize upd H' RA (.dK (sK nvR))=H5 at N5 XX W8 s25 ⊢;have hin:here ∈ nvR.map (·.1):=N5.inR.mpr ⟨_,hRh⟩;have hps:here ∈ ps:=N5.subR here hin;exists _,rfl,_,rfl,RA,_,Sum.inr here,rfl,N5.dR,rfl,by rw [He,decide_eq_true hin]
      rw [So];have N6:=N5.setR aR (N5.pR.drop here) (fun y hy=>by
       obtain ⟨e,he,ee⟩:=ZD.mp hy;exact N5.subR y (ZD.mpr ⟨e,(aJ.mp he).1,ee⟩))
      generalize upd H5 RA (.dK (sK (nvR.filter fun q=>decide (q.1 ≠ here))))=H6 at N6 ⊢;have nhS:here ∉ nvS.map (·.1):=fun h=>by
       obtain ⟨q,hq⟩:=N6.inS.mp h;exact nSh q hq
      refine ⟨_,rfl,_,rfl,(by show 2<=sizeLine; lia),fun t3 YO=>?_⟩;have N7:=N6.grow (Ad (o:=.tup [.int d0,.str Il]) YO);have W7:(upd H6 t3 (.tup [.int d0,.str Il])) t3=some (.tup [.int d0,.str Il]):=Ab;generalize upd H6 t3 (.tup [.int d0,.str Il])=H7 at N7 W7 ⊢;exists _,rfl,_,rfl,SA,_,rfl,F8.k (k:=Sum.inr here) N7.dS (by rw [CU]; have:=N7.lenS; lia);rw [DO nhS];have N8:=N7.setS aS (N7.pS.put (DO nhS) (p:=(d0,Il)) ⟨t3,rfl,W7⟩) (fun y hy=>by
       rw [ZC] at hy;rcases ZM.mp hy with hy | hy
       ·exact N7.subS y hy
       ·have:y=here:=by simpa using hy
        rw [this]; exact hps)
      generalize upd H7 SA (.dK (sK (nvS ++ [(here,.ref t3)])))=H8 at N8 ⊢;obtain ⟨S',Oh⟩:∃ S':Str->Int × Str->Prop,S'=fun z q=>(z=here/\q=(d0,Il))\/(z ≠ here/\S z q):=⟨_,rfl⟩
      obtain ⟨Pe,hnvS⟩:∃ Pe:List (Str × V),Pe=nvS ++ [(here,.ref t3)]:=⟨_,rfl⟩
      rw [<-Oh,<-hnvS] at N8;have nSl:Pe.length=nvS.length + 1:=by rw [hnvS]; simp
      have nearS:∀ y q,S' y q->Nr ws ss y q:=fun y q h=>by
       rw [Oh] at h;rcases h with ⟨rfl,rfl⟩ | ⟨_,h⟩
       ·exact nearH
       ·exact Dj.near y q h
      have hSh:S' here (d0,Il):=by rw [Oh]; exact .inl ⟨rfl,rfl⟩
      have toS:∀ y q,S y q->∃ q',S' y q':=fun y q h=>by
       by_cases e:y=here
       ·rw [e]; exact ⟨_,hSh⟩
       ·exact ⟨q,by rw [Oh]; exact .inr ⟨e,h⟩⟩
      obtain ⟨i0,d,S5,a1,a2,a3,a4,a5⟩:=N8.nr.get ok.nd hps;have dm:=Z2 a2;refine ⟨_,rfl,_,rfl,B,.ref d,rfl,?_,d,sK S5,rfl,a4,fun o9 H9 fz9=>?_⟩
      ·have:=Cw.k (k:=Sum.inr here) N8.nr.top;rw [a3] at this;exact this
      have N9:=N8.frz aR.1 aS.1 hds a1 a2 fz9 a5;obtain ⟨Pv,hPv⟩:∃ Pv:Nat->St->Hp->Prop,Pv=fun i σ H'=>∃ HE R' v8 v9,σ=[some (.ref q),some (.ref st),some (.ref B),some (.ref RA),some (.ref SA),some (.int d0),some (.str Il),some (.str here),v8,v9]/\NI H H' ps ws B RA SA ds HE Pe S' R'/\H' d=some (.frz o9 (.dK (sK S5))) /\
        (∀ y p,R' y p->p.2 ∈ ss/\Bt ws p.2 y p.1)/\(∀ s ∈ ss,(∃ q,S' s q)\/∃ q,R' s q/\D7 q (0,s)) /\
        (∀ x q y l,S' x q->BP ws x y l->(∃ q',S' y q')\/(∃ q',R' y q'/\D7 q' (q.1 + l,q.2))\/(x=here/\∀ (j:Nat) (v:V),j < i->S5[j]? ≠ some (y,v)))/\(∀ y p,R' y p->∀ q,¬ S' y q):=⟨_,rfl⟩
      refine Py (a:=d) (o:=o9) (kvs:=sK S5) Pv ?_ (fun i σ H' _ hP=>by rw [hPv] at hP; obtain ⟨_,_,_,_,_,_,z,_⟩:=hP; exact z) (fun i key v σ H' hx hP rt bk=>?_) (fun σ H' hP=>?_)
      ·rw [hPv];refine ⟨_,_,_,_,rfl,N9,fz9.at,fun y p h=>Dj.reach y p h.2,fun s hs=>?_,fun x qq y l hx he=>?_,fun y p h qq hq=>?_⟩
       ·rcases Dj.start s hs with ⟨qq,h⟩ | ⟨qq,h,le⟩
        ·exact .inl (toS s qq h)
        ·by_cases e:s=here
         ·rw [e]; exact .inl ⟨_,hSh⟩
         ·exact .inr ⟨qq,⟨e,h⟩,le⟩
       ·by_cases ex:x=here
        ·exact .inr (.inr ⟨ex,fun j v hj=>absurd hj (aK _)⟩)
        ·rw [Oh] at hx;rcases hx with ⟨h,_⟩ | ⟨_,hx⟩
         ·exact absurd h ex
         ·rcases Dj.relax x qq y l hx he with ⟨q',h⟩ | ⟨q',h,le⟩
          ·exact .inl (toS y q' h)
          ·by_cases e:y=here
           ·rw [e]; exact .inl ⟨_,hSh⟩
           ·exact .inr (.inl ⟨q',⟨e,h⟩,le⟩)
       ·rw [Oh] at hq;rcases hq with ⟨h2,_⟩ | ⟨_,h2⟩
        ·exact h.1 h2
        ·exact dis y p h.2 qq h2
      ·rw [hPv] at hP;obtain ⟨HE,R',v8,v9,rfl,RX,hf,rch,sta,rel,Ta⟩:=hP;obtain ⟨y,e1,rfl⟩:=TB hx;have hym:=Z2 e1;obtain ⟨w0,hw0⟩:∃ w0,B4 (sK S5) (Sum.inr y:Bm)=some w0:=by
        have:(B4 (sK S5) (Sum.inr y:Bm)).isSome=true:=by rw [He,decide_eq_true (ZD.mpr ⟨_,hym,rfl⟩)]
        exact bI.mp this
       obtain ⟨l,rfl,ed⟩:=RX.nbv i0 here d S5 a1 a2 (.inr ⟨o9,hf⟩) y w0 (Kb hw0);have hyp:y ∈ ps:=by
        obtain ⟨u,hu,e⟩:=ed.adj;obtain ⟨q1,q2⟩:=ok.ends u hu;rcases e with ⟨_,e⟩ | ⟨e,_⟩
        ·rw [<-e]; exact q2
        ·rw [<-e]; exact q1
       exists _,rfl,_,rfl,SA,_,rfl,Cw.k (k:=Sum.inr y) RX.dS,_,rfl;rw [He];have step:∀ {z:Str},(∀ (j:Nat) (v:V),j < i->S5[j]? ≠ some (z,v))->z ≠ y->∀ (j:Nat) (v:V),j < i + 1->S5[j]? ≠ some (z,v):=fun h2 hz j v hj e=>by
        by_cases ej:j=i
        ·subst ej;rw [e1] at e;cases e
         exact hz rfl
        ·exact h2 j v (by lia) e
       by_cases hy:y ∈ Pe.map (·.1)
       ·rw [decide_eq_true hy];refine Bp ?_;show Pv (i + 1) _ _
        rw [hPv];refine ⟨HE,R',_,_,rfl,RX,hf,rch,sta,fun x qq z l' Mg he=>?_,Ta⟩;rcases rel x qq z l' Mg he with h | h | ⟨h1,h2⟩
        ·exact .inl h
        ·exact .inr (.inl h)
        ·by_cases ez:z=y
         ·rw [ez]; exact .inl (RX.inS.mp hy)
         ·exact .inr (.inr ⟨h1,step h2 ez⟩)
       ·rw [decide_eq_false hy];refine Cr ?_;have nSy:∀ qq,¬ S' y qq:=fun qq h=>hy (RX.inS.mpr ⟨qq,h⟩)
        have dgT:Cw H' B (.str here) (some (.ref d)):=by
         have:=Cw.k (k:=Sum.inr here) RX.nr.top;rw [a3] at this;exact this
        refine ⟨_,rfl,_,rfl,_,rfl,B,.ref d,rfl,dgT,_,rfl,d,.int l,rfl,.inl ⟨_,Sum.inr y,.inr ⟨o9,hf⟩,rfl,hw0.symm⟩,_,_,rfl,rfl,_,rfl,(by show 2<=sizeLine; lia),fun t4 YN=>?_⟩;have s4':=Ad (o:=.tup [.int (d0 + l),.str Il]) YN;have Qd:=RX.grow s4';have WE:=s4' _ _ hf;have W6:(upd H' t4 (.tup [.int (d0 + l),.str Il])) t4=some (.tup [.int (d0 + l),.str Il]):=Ab;generalize upd H' t4 (.tup [.int (d0 + l),.str Il])=Jz at Qd WE W6 ⊢;have cand:Jt Jz (.ref t4) (d0 + l,Il):=⟨t4,rfl,W6⟩
        have candW:Il ∈ ss/\Bt ws Il y (d0 + l):=⟨nearH.1.1,nearH.1.2.snoc ed⟩
        have lR':=Qd.lenR;have fin:∀ (x:V) (pn:Int × Str),Jt Jz x pn->D7 pn (d0 + l,Il)->(∀ old,R' y old->D7 pn old)->(pn.2 ∈ ss/\Bt ws pn.2 y pn.1) ->
          Pv (i + 1) [some (.ref q),some (.ref st),some (.ref B),some (.ref RA),some (.ref SA),some (.int d0),some (.str Il),some (.str here),some (.str y),some (.ref t4)] (upd Jz RA (.dK (BG (sK HE) (Sum.inr y:Bm) x))):=by
         intro x pn hx1 hle hold hW;obtain ⟨nv2,p1,p2,p3⟩:=MC HE y x;rw [p1,hPv];have N12:=Qd.setR aR (Qd.pR.put p1 hx1) (fun z hz=>by
          rcases (p3 z).mp hz with hz | rfl
          ·exact Qd.subR z hz
          ·exact hyp)
         refine ⟨nv2,_,_,_,rfl,N12,?_,fun z p hz=>?_,fun s hs=>?_,fun x' qq z l' Mg he=>?_,fun z p hz qq hq=>?_⟩
         ·rw [Ae (fun z=>aR.1 (by rw [<-z]; exact dm))]; exact WE
         ·rcases hz with ⟨rfl,rfl⟩ | ⟨_,hz⟩
          ·exact hW
          ·exact rch z p hz
         ·rcases sta s hs with h | ⟨qq,h,le⟩
          ·exact .inl h
          ·by_cases e:s=y
           ·subst e;exact .inr ⟨pn,.inl ⟨rfl,rfl⟩,(hold qq h).trans le⟩
           ·exact .inr ⟨qq,.inr ⟨e,h⟩,le⟩
         ·rcases rel x' qq z l' Mg he with h | ⟨q',h,le⟩ | ⟨h1,h2⟩
          ·exact .inl h
          ·by_cases e:z=y
           ·subst e;exact .inr (.inl ⟨pn,.inl ⟨rfl,rfl⟩,(hold q' h).trans le⟩)
           ·exact .inr (.inl ⟨q',.inr ⟨e,h⟩,le⟩)
          ·by_cases e:z=y
           ·subst e;subst h1;have e2:=uniq _ _ _ _ he ed;subst e2;have e3:=Qd.pS.fn Mg hSh;subst e3;exact .inr (.inl ⟨pn,.inl ⟨rfl,rfl⟩,hle⟩)
           ·exact .inr (.inr ⟨h1,step h2 e⟩)
         ·rcases hz with ⟨rfl,rfl⟩ | ⟨_,hz⟩
          ·exact nSy qq hq
          ·exact Ta z p hz qq hq
        have put:∀ {x:V},F8 Jz RA (.str y) x (upd Jz RA (.dK (BG (sK HE) (Sum.inr y:Bm) x))):=fun {x}=>F8.k (k:=Sum.inr y) Qd.dR (by rw [CU]; lia)
        obtain ⟨w1,pq,ew,hw1,hold,hWq⟩:∃ w1 pq,(B4 (sK HE) (Sum.inr y:Bm)).getD (.ref t4)=w1/\Jt Jz w1 pq/\(∀ old,R' y old->D7 pq old)/\(pq.2 ∈ ss/\Bt ws pq.2 y pq.1):=by
         cases hv:B4 (sK HE) (Sum.inr y:Bm) with
         | none=>
          refine ⟨_,_,rfl,cand,fun old h=>?_,candW⟩;have h1:y ∈ HE.map (·.1):=Qd.inR.mpr ⟨old,h⟩;have h2:(B4 (sK HE) (Sum.inr y:Bm)).isSome=true:=by rw [He,decide_eq_true h1]
          rw [hv] at h2;cases h2
         | some w1=>
          obtain ⟨pq,h1,h2⟩:=Qd.pR.2.1 y w1 (Kb hv);exact ⟨w1,pq,rfl,h1,fun old h=>by rw [Qd.pR.fn h2 h]; exact D7.refl _,rch y pq h2⟩
        refine ⟨_,rfl,_,rfl,RA,rfl,.inl ⟨_,.inl Qd.dR⟩,_,rfl,_,rfl,_,Cw.k (k:=Sum.inr y) Qd.dR,_,_,(d0 + l,Il),pq,rfl,cand,(by rw [ew]; exact hw1),fun le=>⟨_,rfl,_,rfl,RA,_,rfl,put,?_⟩,fun le=>⟨_,rfl,_,rfl,RA,_,rfl,put,?_⟩⟩
        ·rw [ew];exact fin w1 pq hw1 le hold hWq
        ·exact fin (.ref t4) _ cand (D7.refl _) (fun old h=>le.trans (hold old h)) candW
      ·rw [hPv] at hP;obtain ⟨HE,R',v8,v9,rfl,RX,hf,rch,sta,rel,Ta⟩:=hP;show NN _ _
       rw [hNN];refine ⟨_,?_,HE,Pe,S',R',_,_,_,_,_,rfl,rfl,RX,⟨nearS,rch,fun x qq y l hx he=>?_,sta⟩,Ta⟩
       ·have:=RX.lenS;lia
       ·rcases rel x qq y l hx he with h | h | ⟨rfl,h2⟩
        ·exact .inl h
        ·exact .inr h
        ·exfalso
         obtain ⟨⟨z,v⟩,Vt,e⟩:=ZD.mp ((a5 y).mpr he.adj);have e':z=y:=e;subst e';obtain ⟨j,hj,e2⟩:=ZQ Vt;exact h2 j v (by rw [CU]; exact hj) (by rw [Zy hj,e2])
end
section
variable {P:Program} {w:World} {K:Z1} {mg:Str->Option Value} {base:Heap}
structure NeF (K:Z1) (mg:Str->Option Value) (fN:Addr) (fdN:FuncData) (f:Addr) (fd:FuncData):Prop where
 N:NbF K mg fN fdN
 mi:mg "min"=none
 F:D6 K "nearest" "nearest" EY f fd
 mg:mg "nearest"=some (.ref f)
 b:Hw K fd ["web","starts"] []
theorem S2 {f fN fE:Addr} {fd fdN fdE:FuncData} (EK:NeF K mg fN fdN fE fdE) (F:D6 K "fars" "fars" KC f fd):A7 P w K mg base Bq 3 f fd ["web","place"] (Q3 K):=by
 have GE:A7 P w K mg base Bq 2 fE fdE ["web","starts"] (Qy K):=MM EK.N EK.mi EK.F;refine F.ok NO (fun vs H Q E h=>?_) (fun cdv A outer s H vs Q E hr h=>?_)
 ·obtain ⟨q,ps,ws,r,x,rfl,_⟩:=h;rfl
 ·obtain ⟨q,ps,ws,r,x,rfl,ok,pos,uniq,hx,k⟩:=h;have hu:=CV hr;have nd:=NO.nd;have big:1000 < sizeLine:=by decide
  have l30:=ok.l30;refine ⟨_,Ag (Ap (i:=2) nd rfl (Or.inr rfl) (Al GE hr (by rfl) EK.mg EK.F.kp EK.b .nil Av (Aa (pv 0) (Aa (Bs (Aa (pv 1) Ac)) Ac))))
   (Ak (A4 (ID (N:=["name","told"]) (σ0:=fun σ=>[none,some 2].map fun j=>j.bind fun j=>(σ[j]?).join) rfl
      (AJ.caught (by rfl) (by decide +kernel) rfl (by decide +kernel) (by intro y hy; simp only [Z3,Z8,or_false] at hy; rcases hy with rfl <;> rfl)
       (by intro y hy e; simp only [Z3,Z8,or_false] at hy; rcases hy with rfl | rfl | rfl <;> first | exact ⟨_,rfl⟩ | cases e))
      (fun σ _=>Bj.of [none,some 2] rfl (by
       intro i j x h1 h2;match i,h1,h2 with
       | 0,_,h2=>cases h2
       | 1,h1,h2=>cases h1; cases h2; exact ⟨rfl,.inl rfl,.inl rfl⟩
       | n + 2,h1,_=>cases h1)) (Bi K rfl (A2 (A8 K rfl) (pv 0) Af (fun _ _=>rfl)))
      (fun s2 H C fp=>⟨Ai (i:=0) (show (["name","told"]:List Str).Nodup by decide +kernel) rfl (Or.inl rfl),Bd,pv 0,A2 (A8 K rfl) (Bo hu (pv 1) (pv 0) (fun _ _=>rfl)) Af (fun _ _=>rfl)⟩)))),?_⟩
  refine ⟨_,rfl,_,rfl,(by show 1<=sizeLine; lia),fun st hst=>?_⟩;have s0:=Ad (o:=.lst [.str x]) hst;refine ⟨q,st,ps,[x],ws,r,rfl,ok.same s0,pos,uniq,.inl Ab,by simp,ax.mpr ⟨by simp,.nil⟩,by simpa using hx,fun H1 B nv s1 hB VZ nn nk nr=>?_⟩;have Wm:=s0.trans s1;obtain ⟨tp,tw,us,hq,htp,htw,hD⟩:=ok.web.ex;refine ⟨_,rfl,q,_,0,.ref tp,rfl,rfl,A1.of (Wm _ _ hq),Co (j:=0) rfl,tp,rfl,⟨_,A1.of (Wm _ _ htp)⟩,fun C hC=>?_⟩;exists fun i m A3 H2=>m=ps.length - i/\i<=ps.length/\(∃ v,A3=[v,some (.ref B)])/\∃ nc:List (Str × V),H2=upd H1 C (.dK (sK nc))/\nc.map (·.1)=ps.take i/\∀ y v,(y,v) ∈ nc->∃ n,v=.int n/\Lq ws x y n,⟨_,rfl,ZX _,⟨_,rfl⟩,[],rfl,rfl,fun y v hy=>absurd hy Z8⟩
  rintro i m A3 H2 ⟨rfl,hi,⟨v,rfl⟩,nc,rfl,ncK,ncV⟩;have sC:=Ad (o:=.dK (sK nc)) hC;have Na:=sC _ _ (Wm _ _ htp);by_cases B5:i < ps.length
  ·refine .inr ⟨⟨_,V.str ps[i],A1.of Na,by rw [Z6,Zy B5]; rfl⟩,?_⟩;rintro z H6 ⟨rfl,hz⟩;have RS:=hz _ (A1.of Na);rw [Z6,Zy B5] at RS;cases RS
   obtain ⟨⟨y,v2⟩,hm,e⟩:=ZD.mp ((nk ps[i]).mpr (ar B5));have e':y=ps[i]:=e;subst e';obtain ⟨p,⟨t,e2,ht⟩,hnr⟩:=nr ps[i] v2 hm;subst e2;have Zm:=sC _ _ VZ;have Eu:=sC _ _ ht;have nn':ps[i] ∉ nc.map (·.1):=by
    rw [ncK];intro Vt;obtain ⟨j,hj,e⟩:=ZQ Vt;rw [ZS] at hj;rw [bK] at e;have:=Hl ok.nd (Zy (show j < ps.length by lia)) (by rw [Zy B5,e]);lia
   have ncl:nc.length=i:=by
    have:=congrArg bg ncK;rw [Z0,ZS] at this;lia
   refine ⟨_,rfl,_,rfl,_,rfl,B,.ref t,rfl,.inl ⟨_,Sum.inr ps[i],.inl Zm,rfl,(DJ nn hm).symm⟩,t,_,0,.int p.1,rfl,rfl,A1.of Eu,Co (j:=0) rfl,_,Sum.inr ps[i],rfl,Ab,by rw [CU]; lia,_,by lia,rfl,B5,⟨_,rfl⟩,nc ++ [(ps[i],.int p.1)],by rw [FE,DO nn'],?_,fun y v hy=>?_⟩
   ·rw [ZC,ncK,ZH,Zy B5]; rfl
   ·rcases ZM.mp hy with hy | hy
    ·exact ncV y v hy
    ·simp only [ZN,Prod.mk.injEq] at hy;obtain ⟨rfl,rfl⟩:=hy;exact ⟨p.1,rfl,hnr.dst.2⟩
  ·have e0:i=ps.length:=by lia
   subst e0;rw [ZP] at ncK;exact .inl ⟨⟨_,A1.of Na,by rw [Z0]; exact Z4 _⟩,k _ C nc (Wm.trans sC) (Wm.free hC) Ab ncK ncV⟩
end
structure TxtN (K:Z1) (mg:Str->Option Value):Prop where
 len:mg "len"=none
 isin:mg "isinstance"=none
 str:mg "str"=none
 all:mg "all"=none
 most:∃ t,mg "MOST_LETTERS"=some (.int 6 t)
section
variable {P:Program} {w:World} {K:Z1} {mg:Str->Option Value} {base:Heap}
theorem HV {f:Addr} {fd:FuncData} (T:TxtN K mg) (F:D6 K "is_name" "is_name" Dk f fd):A7 P w K mg base Bq 1 f fd ["thing"] (K6 K):=by
 refine F.ok MB (fun vs H Q E h=>?_) (fun cdv A outer s H vs Q E hr h=>?_)
 ·obtain ⟨x,rfl,_⟩:=h;rfl
 ·obtain ⟨x,rfl,h⟩:=h;obtain ⟨tk,hmost⟩:=T.most;refine ⟨_,Ag (B7 (DL (BL (Cq (Aj BN (by rfl) T.isin PyProof.Rows.boot_isinstance (Aa (pv 0) (Aa (BI (v:=.ty "str") (by rfl) T.str PyProof.Rows.boot_str rfl) Ac)))))
    (CD (BL (IC Kh Kh Af (Aj Gb (by rfl) T.len PySem.boot_len (Aa (pv 0) Ac)) (Sx (v:=.int 6) (by rfl) hmost ⟨_,rfl⟩))))).pt
    (Ak (A4 Du)) AR)
   (Ak (A4 (Aj (BO rfl) (by rfl) T.all PyProof.Rows.boot_all (Aa
    (Bl (N:=["letter"]) (σ0:=fun _=>[none]) rfl (AJ.plain (by decide +kernel) (by decide +kernel) rfl (by decide +kernel)) (fun σ _=>Bj.none _ _ _ ["letter"] σ) (UP (pv 0))
     (fun s2 H C fp=>⟨Ai (i:=0) (show (["letter"]:List Str).Nodup by decide +kernel) rfl (Or.inl rfl),Bd,QZ Kg Kg Fy (pv 0) Fy⟩)) Ac)))),?_⟩
  rcases h with ⟨t,rfl,ht,k⟩ | ⟨⟨ty,h1,h2⟩,k⟩
  ·exists _,rfl,_,"str",_,_,rfl,D8.str t,rfl,_,rfl;refine Bp ?_;exists _,rfl,t,rfl,ZV ht (by decide),_,_,rfl,rfl,_,rfl;have last:∀ (h1:1<=t.length) (h2:t.length<=6),Qs (iStr (Sf 0)) (Mh 0) J5 (M7 (fun x y H Q=>∃ i j,x=.str i/\y=.str j/\Q (.bl (!(decide (j.cps.toList < i.cps.toList)))) H) (fun x y H Q=>∃ i j,x=.str i/\y=.str j/\Q (.bl (!(decide (j.cps.toList < i.cps.toList)))) H) (tC (.str "a")) (Sf 0) (tC (.str "z"))) (fun _=>[none]) [some (V.str t)] H
     (fun x H1=>∃ (p:Addr) (bs:List Bool),[x]=[V.ref p]/\AS K H1 p (bs.map V.bl)/\Q (.bl (bs.all id)) H1):=by
    intro h1 h2;refine ⟨_,rfl,t,rfl,fun D hD=>⟨fun i m A3 H'=>m=t.cps.size - i/\i<=t.cps.size/\(∃ v,A3=[v])/\H'=upd H D (.lst ((t.cps.toList.take i).map fun c=>V.bl (G2 c))),⟨_,rfl,ZX _,⟨_,rfl⟩,rfl⟩,?_⟩⟩;rintro i m A3 H' ⟨rfl,hi,⟨v,rfl⟩,rfl⟩;by_cases B5:i < t.cps.size
    ·refine .inr ⟨B5,?_⟩;rintro x H2 ⟨rfl,c,hc,rfl⟩;have Kl:t.cps.toList[i]? = some c:=by simpa using hc
     have step:∀ b,b=G2 c->∃ acc,(upd H D (.lst ((t.cps.toList.take i).map fun c=>V.bl (G2 c)))) D=some (.lst acc)/\acc.length < sizeLine/\∃ m',m' < t.cps.size - i/\(m'=t.cps.size - (i + 1)/\i + 1<=t.cps.size/\(∃ v,[some (V.str ⟨#[c]⟩)]=[v]) /\
       upd (upd H D (.lst ((t.cps.toList.take i).map fun c=>V.bl (G2 c)))) D (.lst (acc ++ [V.bl b]))=upd H D (.lst ((t.cps.toList.take (i + 1)).map fun c=>V.bl (G2 c)))):=by
      rintro b rfl;exists _,Ab,?_,_,?_,rfl,B5,⟨_,rfl⟩
      ·rw [Z0,ZS];have:t.length=t.cps.size:=rfl;have:1000 < sizeLine:=by decide
       lia
      ·lia
      ·rw [FE,J4 _ _ _ _ Kl]
     exists _,rfl,_,_,rfl,rfl,_,rfl;rw [leA];refine CA (fun ha=>?_) (fun ha=>?_)
     ·exists _,_,rfl,rfl;rw [leZ];exact step _ (by unfold G2; rw [ha]; rfl)
     ·exact step _ (by unfold G2; rw [Bool.not_eq_true] at ha; rw [ha]; rfl)
    ·have e:i=t.cps.size:=by lia
     subst e;refine .inl ⟨Z4 _,D,t.cps.toList.map G2,rfl,.inl (.inl ?_),?_⟩
     ·rw [Ab,aX (by simp),az];rfl
     ·have e2:(t.cps.toList.map G2).all id=AY t:=by
       unfold AY;rw [aW,decide_eq_true h1,decide_eq_true h2];rfl
      rw [e2];exact k _ (Ad hD)
   refine CA (fun h1=>?_) (fun h1=>?_)
   ·exists _,_,rfl,rfl,_,rfl;rw [decide_eq_true_eq] at h1;refine CA (fun h2=>?_) (fun h2=>?_)
    ·have e:AY t=false:=by
      unfold AY;have:¬ t.length<=6:=by
       intro z;rw [decide_eq_true (show ((t.length:Nat):Int)<=6 by lia)] at h2;cases h2
      rw [decide_eq_false this,Bool.and_false,bV]
     rw [<-e];exact k _ (Ao.refl _)
    ·refine last (by lia) ?_;by_cases z:t.length<=6
     ·exact z
     ·rw [decide_eq_false (show ¬ ((t.length:Nat):Int)<=6 by lia)] at h2;exact absurd rfl h2
   ·exists _,rfl;refine Cr ?_;have e:AY t=false:=by
     unfold AY;rw [decide_eq_true_eq] at h1;rw [decide_eq_false (show ¬ 1<=t.length by lia),bV,bV]
    show Q (.bl false) H
    rw [<-e];exact k _ (Ao.refl _)
  ·exists _,rfl,_,"str",_,_,rfl,h1,h2,_,rfl;exact k
end
section
variable {P:Program} {w:World} {K:Z1} {mg:Str->Option Value} {base:Heap}
theorem KU (h_dict:mg "dict"=none) (h_max:mg "max"=none) (h_sum:mg "sum"=none) {f:Addr} {fd:FuncData} (F:D6 K "gets_from" "gets_from" DI f fd):A7 P w K mg base Bq 1 f fd ["case","prices","away"] Io:=by
 refine F.ok FK (fun vs H Q E h=>?_) (fun cdv A outer s H vs Q E hr h=>?_)
 ·obtain ⟨c,m,t,n,xs,ws,Aq,As,qs,x,d,v,y,rfl,_⟩:=h;rfl
 ·obtain ⟨c,m,t,n,xs,ws,Aq,As,qs,x,d,v,y,rfl,cp,fa,k⟩:=h;have nd:=FK.nd;have hu:=CV hr;have big:100000 < sizeLine:=by decide
  refine ⟨_,(Ag (Ap (i:=3) nd rfl (Or.inr rfl) (AF (BU rfl) (by rfl) h_dict PyProof.Rows.boot_dict (Aa (A2 F1 (pv 0) Af (fun _ _=>rfl)) Ac)))
  (Ak (A4 (Aj (JJ rfl) (by rfl) h_sum PyProof.Rows.boot_sum (Aa (Bl (N:=["place","price","away","manys"]) (σ0:=fun σ=>[none,none,some 2,some 3].map fun j=>j.bind fun j=>(σ[j]?).join) rfl (AJ.caught (by rfl) (by decide +kernel) rfl (by decide +kernel) (by intro y hy; simp only [Z3,Z8,or_false] at hy; rcases hy with rfl | rfl <;> rfl)
   (by intro y hy e; simp only [Z3,Z8,or_false] at hy; rcases hy with rfl | rfl | rfl | rfl | rfl | rfl <;> first | exact ⟨_,rfl⟩ | cases e)) (fun σ _=>Bj.of [none,none,some 2,some 3] rfl (by
   intro i j x h1 h2;match i,h1,h2 with
   | 0,_,h2=>cases h2
   | 1,_,h2=>cases h2
   | 2,h1,h2=>cases h1; cases h2; exact ⟨rfl,.inl rfl,.inl rfl⟩
   | 3,h1,h2=>cases h1; cases h2; exact ⟨rfl,.inl rfl,.inl rfl⟩
   | n + 4,h1,_=>cases h1)) (Gu (pv 1))
   (fun s2 H C fp=>⟨(AW K rfl (n:=2) rfl (Am (Ai (i:=0) (show (["place","price","away","manys"]:List Str).Nodup by decide +kernel) rfl (Or.inl rfl)) (Am (Ai (i:=1) (show (["place","price","away","manys"]:List Str).Nodup by decide +kernel) rfl (Or.inl rfl)) AV))),Bd,(Aj (G9 rfl) (by rfl) h_max PyProof.Rows.boot_max (Aa (Ay KN (pv 1) (Ay C5 (Bo hu (pv 3) (pv 0) (fun _ _=>rfl)) (Bo hu (pv 2) (pv 0) (fun _ _=>rfl)))) (Aa Af Ac)))⟩)) Ac))))),?_⟩
  obtain ⟨us,ht,du⟩:=cp.ex;obtain ⟨t1,t2,DV,Fv,hc,Fi,F3,Eu,hd2⟩:=cp.cw.ex;have ul:=A9 du;have Qq:=A9 hd2;have l2:=cp.cw.l2;have ql:=cp.ok.len;have xnd:=cp.cw.map.at'.nd;refine ⟨_,rfl,c,_,_,_,rfl,rfl,A1.of hc,rfl,t2,Fv,BR As,rfl,Eu,by unfold BR; rw [Z0]; exact Qq,HS hd2,by rw [Dl]; exact cp.cw.ok2.nd,by unfold BR; rw [Z0]; lia,fun B hB=>?_⟩;have s1:=Ad (o:=.dK (sK (BR As))) hB;have R8:(upd H B (.dK (sK (BR As)))) B=some (.dK (sK (BR As))):=Ab;generalize upd H B (.dK (sK (BR As)))=H1 at s1 R8;exists _,rfl,t,rfl,⟨_,A1.of (s1 _ _ ht)⟩
  refine Br Bv (xs:=us) (fun D i A3 H' acc=>∃ v0 v1:Option V,A3=[v0,v1,some v,some (.ref B)]/\Ao H1 H'/\H' D=some (.lst acc)/\acc=(((As.zip qs).take i).map fun z=>EM ws y z.1 z.2.2).map V.int/\acc.length=i)
   (by lia) (fun D hD=>⟨_,_,rfl,Ad hD,Ab,rfl,rfl⟩) (fun D i A3 H' acc hD ⟨v0,v1,_,sa,AQ,_,al⟩=>⟨A1.of (sa _ _ (s1 _ _ ht)),AQ,al⟩) ?_ ?_
  ·rintro D i A3 H' acc x' Bk hD ex ⟨v0,v1,rfl,sa,AQ,ea,al⟩ hBk;obtain ⟨q,tt,eq,rfl,htt⟩:=Bc du ex;obtain ⟨r,er,rq⟩:=cp.ok.at eq;have rm:=Z2 er;have hq1:q.1 ∈ As.map (·.1):=ZD.mpr ⟨r,rm,rq⟩;have ec:G8 As q.1=r.2:=by rw [<-rq]; exact Ey cp.cw.ok2.nd rm
   have r4:=cp.few r rm;have r1:=(cp.cw.ok2.lo r rm).1;obtain ⟨B2,rfl,g2⟩:=((fa.same s1).same sa).get xnd (cp.names q (Z2 eq)).1;have g1:=Iz (sa _ _ R8) cp.cw.ok2.nd hq1;rw [ec] at g1;exists tt,_,rfl,A1.of (sa _ _ (s1 _ _ htt)),rfl,_,_,rfl,_,_,rfl,rfl;exists _,rfl,_,rfl,_,rfl,B,_,rfl,g1,_,rfl,_,rfl,B2,_,rfl,g2,_,_,rfl,rfl,.inl ⟨by lia,by lia⟩,_,_,rfl,rfl,_,_,rfl;refine hBk _ _ _ AQ ⟨_,_,rfl,fun b o e=>by rw [Ae (Ah e hD)]; exact sa _ _ e,Ab,?_,by rw [Z7,al]; rfl⟩;rw [ea,Kq er eq,ZC,Vg];unfold EM;rw [rq];rfl
  ·rintro D A3 H' acc hD ⟨v0,v1,rfl,sa,AQ,ea,al⟩;exists D,_,rfl,AS.of (by rw [AQ,ea]);have e:us.length=(As.zip qs).length:=by rw [Nt ql]; lia
   rw [e,ZP];exact k _ (s1.trans sa)
end
section
variable {P:Program} {w:World} {K:Z1} {mg:Str->Option Value} {base:Heap}
theorem KP {fF:Addr} {fdF:FuncData} (XF:Fn K mg "fars" KC ["web","place"] fF fdF) (GF:A7 P w K mg base Bq 3 fF fdF ["web","place"] (Q3 K)) {f:Addr} {fd:FuncData} (F:D6 K "site_fars" "site_fars" DE f fd):A7 P w K mg base Bq 4 f fd ["case"] Im:=by
 refine F.ok FG (fun vs H Q E h=>?_) (fun cdv A outer s H vs Q E hr h=>?_)
 ·obtain ⟨c,m,n,xs,ws,Aq,As,x,d,rfl,_⟩:=h;rfl
 ·obtain ⟨c,m,n,xs,ws,Aq,As,x,d,rfl,cw,k⟩:=h;have nd:=FG.nd;have big:100000 < sizeLine:=by decide
  refine ⟨_,(Ak (A4 (ID (N:=["place","price","case"]) (σ0:=fun σ=>[none,none,some 0].map fun j=>j.bind fun j=>(σ[j]?).join) rfl (AJ.caught (by rfl) (by decide +kernel) rfl (by decide +kernel) (by intro y hy; simp only [Z3,Z8,or_false] at hy; rcases hy with rfl <;> rfl)
   (by intro y hy e; simp only [Z3,Z8,or_false] at hy; rcases hy with rfl | rfl | rfl | rfl | rfl <;> first | exact ⟨_,rfl⟩ | cases e)) (fun σ _=>Bj.of [none,none,some 0] rfl (by
   intro i j x h1 h2;match i,h1,h2 with
   | 0,_,h2=>cases h2
   | 1,_,h2=>cases h2
   | 2,h1,h2=>cases h1; cases h2; exact ⟨rfl,.inl rfl,.inl rfl⟩
   | n + 3,h1,_=>cases h1)) (Bi K rfl (A2 (A8 K rfl) (pv 0) Af (fun _ _=>rfl)))
   (fun s2 H C fp=>⟨(AW K rfl (n:=2) rfl (Am (Ai (i:=0) (show (["place","price","case"]:List Str).Nodup by decide +kernel) rfl (Or.inl rfl)) (Am (Ai (i:=1) (show (["place","price","case"]:List Str).Nodup by decide +kernel) rfl (Or.inl rfl)) AV))),Bd,(pv 0),(Al GF (hr.mono (by decide)) (by rfl) XF.mg XF.F.kp XF.b .nil Av (Aa (A2 (A8 K rfl) (pv 2) Af (fun _ _=>rfl)) (Aa (pv 0) Ac)))⟩)))),?_⟩
  obtain ⟨t1,t2,DV,Fv,hc,Fi,F3,Eu,hd2⟩:=cw.ex;obtain ⟨r,okw,pos,uni⟩:=cw.map.web cw.n1 cw.n30;have ul:=A9 F3;have l1:=cw.l1;exists _,rfl,c,_,_,_,rfl,rfl,A1.of hc,rfl,t1,rfl,⟨_,A1.of Fi⟩
  refine OQ Bv (xs:=DV) (Aq.map (·.1)) (by rw [Z0,ul]) cw.ok1.nd (fun D i σ H' nv=>∃ (v0 v1:Option V),σ=[v0,v1,some (.ref c)]/\Ao H H'/\H' D=some (.dK (sK nv))/\nv.map (·.1)=(Aq.map (·.1)).take i/\∀ s v,(s,v) ∈ nv->DU H' v xs ws s)
   (by lia) (fun D hD=>⟨_,_,rfl,Ad hD,Ab,rfl,fun s v hm=>nomatch hm⟩) (fun D i σ H' nv hD ⟨v0,v1,_,sa,AQ,nk,_⟩=>⟨A1.of (sa _ _ Fi),AQ,nk⟩) ?_ ?_
  ·rintro D i σ H' nv x' kk B hD ex ek ⟨v0,v1,rfl,sa,AQ,nk,nf⟩ hB;obtain ⟨u,t,eu,rfl,ht⟩:=Bc F3 ex;have e:kk=u.1:=by
    rw [Z6,eu] at ek;exact (ZR.inj ek).symm
   subst e;exists t,_,rfl,A1.of (sa _ _ ht),rfl,_,_,rfl,_,_,rfl,rfl;refine ⟨_,rfl,_,rfl,c,_,_,_,rfl,rfl,A1.of (sa _ _ hc),rfl,_,rfl,m,xs,ws,r,u.1,rfl,okw.same sa,pos,uni,cw.ok1.sub u (Z2 eu),fun H1 B1 nb s1 fB VZ nbK nbV=>?_⟩;have Yh:=s1 _ _ AQ;refine hB _ _ _ Yh ⟨_,_,rfl,fun b o' z=>by rw [Ae (Ah z hD)]; exact s1 _ _ (sa _ _ z),Ab,?_,fun s v hm=>?_⟩
   ·rw [ZC,nk,ZH,ek];rfl
   ·have nB:∀ {b:Addr} {kv:List (Bm × V)},b ≠ D->H1 b=some (.dK kv)->(upd H1 D (.dK (sK (nv ++ [(u.1,.ref B1)])))) b=some (.dK kv):=fun nb z=>by rw [Ae nb]; exact z
    rcases ZM.mp hm with hm | hm
    ·obtain ⟨B2,TV,rfl,z1,z2,z3⟩:=nf s v hm;by_cases e:B2=D
     ·subst e;rw [AQ] at z1;have e:=HO.dK.inj (ZR.inj z1);have YY:((Sum.inr s:Bm),V.ref B2) ∈ sK TV:=by rw [<-e]; exact ZD.mpr ⟨_,hm,rfl⟩
      obtain ⟨⟨y,u'⟩,h1,h2⟩:=ZD.mp YY;cases h2
      obtain ⟨n',e',_⟩:=z3 _ _ h1;cases e'
     ·exact ⟨B2,TV,rfl,nB e (s1 _ _ z1),z2,z3⟩
    ·simp only [ZN,Prod.mk.injEq] at hm;obtain ⟨rfl,rfl⟩:=hm;exact ⟨B1,nb,rfl,nB (fun z=>by rw [z,AQ] at fB; cases fB) VZ,nbK,nbV⟩
  ·rintro D σ H' nv hD ⟨v0,v1,rfl,sa,AQ,nk,nf⟩;rw [ul,show Aq.length=(Aq.map (·.1)).length by rw [Z0],ZP] at nk;exact k H' D nv sa hD AQ nk nf
end
section
variable {P:Program} {w:World} {K:Z1} {mg:Str->Option Value} {base:Heap}
theorem LS (h_all:mg "all"=none) {fG:Addr} {fdG:FuncData} (XG:Fn K mg "gets_from" DI ["case","prices","away"] fG fdG) (GG:A7 P w K mg base Bq 1 fG fdG ["case","prices","away"] Io) {f:Addr} {fd:FuncData} (F:D6 K "stand_by" "stand_by" Ek f fd):A7 P w K mg base Bq 2 f fd ["case","aways","prices","levy"] JW:=by
 refine F.ok GQ (fun vs H Q E h=>?_) (fun cdv A outer s H vs Q E hr h=>?_)
 ·obtain ⟨c,m,t,D0,n,xs,ws,Aq,As,qs,x,d,lv,rfl,_⟩:=h;rfl
 ·obtain ⟨c,m,t,D0,n,xs,ws,Aq,As,qs,x,d,lv,rfl,cp,aw,k⟩:=h;have nd:=GQ.nd;have hu:=CV hr;have big:100000 < sizeLine:=by decide
  refine ⟨_,(Ak (A4 (Aj (BO rfl) (by rfl) h_all PyProof.Rows.boot_all (Aa (Bl (N:=["place","charge","case","aways","prices","levy"]) (σ0:=fun σ=>[none,none,some 0,some 1,some 2,some 3].map fun j=>j.bind fun j=>(σ[j]?).join) rfl (AJ.caught (by rfl) (by decide +kernel) rfl (by decide +kernel) (by intro y hy; simp only [Z3,Z8,or_false] at hy; rcases hy with rfl | rfl | rfl | rfl <;> rfl)
   (by intro y hy e; simp only [Z3,Z8,or_false] at hy; rcases hy with rfl | rfl | rfl | rfl | rfl | rfl | rfl | rfl <;> first | exact ⟨_,rfl⟩ | cases e)) (fun σ _=>Bj.of [none,none,some 0,some 1,some 2,some 3] rfl (by
   intro i j x h1 h2;match i,h1,h2 with
   | 0,_,h2=>cases h2
   | 1,_,h2=>cases h2
   | 2,h1,h2=>cases h1; cases h2; exact ⟨rfl,.inl rfl,.inl rfl⟩
   | 3,h1,h2=>cases h1; cases h2; exact ⟨rfl,.inl rfl,.inl rfl⟩
   | 4,h1,h2=>cases h1; cases h2; exact ⟨rfl,.inl rfl,.inl rfl⟩
   | 5,h1,h2=>cases h1; cases h2; exact ⟨rfl,.inl rfl,.inl rfl⟩
   | n + 6,h1,_=>cases h1)) (Bi K rfl (A2 (A8 K rfl) (pv 0) Af (fun _ _=>rfl)))
   (fun s2 H C fp=>⟨(AW K rfl (n:=2) rfl (Am (Ai (i:=0) (show (["place","charge","case","aways","prices","levy"]:List Str).Nodup by decide +kernel) rfl (Or.inl rfl)) (Am (Ai (i:=1) (show (["place","charge","case","aways","prices","levy"]:List Str).Nodup by decide +kernel) rfl (Or.inl rfl)) AV))),Bd,(BS Kh (Al GG (hr.mono (by decide)) (by rfl) XG.mg XG.F.kp XG.b .nil Av (Aa (pv 2) (Aa (pv 4) (Aa (Bo hu (pv 3) (pv 0) (fun _ _=>rfl)) Ac)))) (Ay Ba (pv 1) (pv 5)) (AO _))⟩)) Ac)))),?_⟩
  obtain ⟨us,ht,du⟩:=cp.ex;obtain ⟨t1,t2,DV,Fv,hc,Fi,F3,Eu,hd2⟩:=cp.cw.ex;have ul:=A9 du;have Se:=A9 F3;have Qq:=A9 hd2;have l1:=cp.cw.l1;have l2:=cp.cw.l2;have ql:=cp.ok.len;exists _,rfl,c,_,_,_,rfl,rfl,A1.of hc,rfl,t1,rfl,⟨_,A1.of Fi⟩
  refine Br Bv (xs:=DV) (fun D i A3 H' acc=>∃ v0 v1:Option V,A3=[v0,v1,some (.ref c),some (.ref D0),some (.ref t),some (.int lv)]/\Ao H H'/\H' D=some (.lst acc)/\acc=((Aq.take i).map fun r=>decide (BH ws r.1 As qs<=r.2 + lv)).map V.bl/\acc.length=i)
   (by lia) (fun D hD=>⟨_,_,rfl,Ad hD,Ab,rfl,rfl⟩) (fun D i A3 H' acc hD ⟨v0,v1,_,sa,AQ,_,al⟩=>⟨A1.of (sa _ _ Fi),AQ,al⟩) ?_ ?_
  ·rintro D i A3 H' acc x' B hD Uo ⟨v0,v1,rfl,sa,AQ,ea,al⟩ hB;obtain ⟨r,tt,er,rfl,htt⟩:=Bc F3 Uo;obtain ⟨v,dg,fa⟩:=(aw.same sa).get cp.cw.ok1.nd (Z2 er);exists tt,_,rfl,A1.of (sa _ _ htt),rfl,_,_,rfl,_,_,rfl,rfl;refine ⟨_,rfl,_,rfl,_,rfl,_,rfl,D0,_,rfl,dg,c,m,t,n,xs,ws,Aq,As,qs,x,d,v,r.1,rfl,cp.same sa,fa,fun H5 s5=>?_⟩;exists _,rfl,_,rfl,_,_,rfl,rfl,_,_,rfl,rfl;refine hB _ _ _ (s5 _ _ AQ) ⟨_,_,rfl,fun b o e=>by rw [Ae (Ah e hD)]; exact s5 _ _ (sa _ _ e),Ab,?_,by rw [Z7,al]; rfl⟩;rw [ea,ZH,er,ZC,ZC];rfl
  ·rintro D A3 H' acc hD ⟨v0,v1,rfl,sa,AQ,ea,al⟩;exists D,_,rfl,AS.of (by rw [AQ,ea]);have e:(((Aq.take DV.length).map fun r=>decide (BH ws r.1 As qs<=r.2 + lv)).all id)=BJ ws Aq As qs lv:=by
    rw [Se,ZP,aW];rfl
   rw [e];exact k _ sa
theorem Hi (h_dict:mg "dict"=none) (h_max:mg "max"=none) {f:Addr} {fd:FuncData} (F:D6 K "_law_gets" "_law_gets" Dt f fd):A7 P w K mg base Bq 1 f fd ["_law_case_here","_law_away","_law_prices_here","_law_site"] K7:=by
 refine F.ok GX (fun vs H Q E h=>?_) (fun cdv A outer s H vs Q E hr h=>?_)
 ·obtain ⟨c,m,t,A0,n,xs,ws,Aq,As,qs,x,d,y,rfl,_⟩:=h;rfl
 ·obtain ⟨c,m,t,A0,n,xs,ws,Aq,As,qs,x,d,y,rfl,cp,kn,hy,k⟩:=h;have nd:=GX.nd;have hu:=CV hr;have big:100000 < sizeLine:=by decide
  refine ⟨_,(Ag (Ap (i:=4) nd rfl (Or.inl rfl) Af)
  (Ag (BB PassesOwn.never rfl (Bi K rfl (A2 (A8 K rfl) (pv 0) Af (fun _ _=>rfl))) (AW K rfl rfl (Am (Ai (i:=5) nd rfl (Or.inl rfl)) (Am (Ai (i:=6) nd rfl (Or.inl rfl)) AV)))
  (Ak (Ap (i:=4) nd rfl (Or.inl rfl) (Ay Ba (pv 4) (Aj (G9 rfl) (by rfl) h_max PyProof.Rows.boot_max (Aa Af (Aa (Ay KN (Bo hu (AF (BU rfl) (by rfl) h_dict PyProof.Rows.boot_dict (Aa (pv 2) Ac)) (pv 5) (fun _ _=>rfl)) (Ay C5 (pv 6) (Bo hu (pv 1) (AB (Aa (pv 5) (Aa (pv 3) Ac))) (fun _ _=>rfl)))) Ac)))))))
  (Ak (A4 (pv 4))))),?_⟩
  obtain ⟨us,ht,du⟩:=cp.ex;obtain ⟨t1,t2,DV,Fv,hc,Fi,F3,Eu,hd2⟩:=cp.cw.ex;have ul:=A9 du;have Se:=A9 F3;have Qq:=A9 hd2;have l1:=cp.cw.l1;have l2:=cp.cw.l2;have ql:=cp.ok.len;refine ⟨_,rfl,c,_,_,_,rfl,rfl,A1.of hc,rfl,t2,rfl,⟨_,A1.of Eu⟩,C7 (xs:=Fv) (fun i σ H'=>(∃ v5 v6,σ=[some (.ref c),some (.ref A0),some (.ref t),some (.str y),some (.int (((As.zip qs).take i).map fun z=>EM ws y z.1 z.2.2).sum),v5,v6])/\Ao H H') ⟨⟨_,_,rfl⟩,Ao.refl _⟩ (fun i σ H' _ hP=>A1.of (hP.2 _ _ Eu)) (fun i v σ H' hv hP rt bk N hN=>?_) (fun σ H' hP=>?_)⟩
  ·obtain ⟨⟨v5,v6,rfl⟩,sa⟩:=hP;obtain ⟨r,tt,er,rfl,htt⟩:=Bc hd2 hv;have rm:=Z2 er;have hi:i < qs.length:=by have:=(ZA.mp er).1; lia
   have eq:qs[i]? = some qs[i]:=Zy hi;obtain ⟨r',er',rq⟩:=cp.ok.at eq;rw [er] at er';cases er'
   have qnd:(qs.map (·.1)).Nodup:=by rw [cp.ok.nm]; exact cp.cw.ok2.nd
   exists tt,_,rfl,A1.of (sa _ _ htt),rfl,_,_,rfl,_,_,rfl,rfl;refine ⟨_,rfl,_,rfl,t,us,BR qs,rfl,sa _ _ ht,by unfold BR; rw [Z0]; exact ul,HS (Bh du fun b ys z=>sa _ _ z),by rw [Dl]; exact qnd,by unfold BR; rw [Z0]; lia,fun B hB=>?_⟩;have q1:=Ad (o:=.dK (sK (BR qs))) hB;have R8:(upd H' B (.dK (sK (BR qs)))) B=some (.dK (sK (BR qs))):=Ab;generalize upd H' B (.dK (sK (BR qs)))=H1 at q1 R8;have g1:=Iz R8 qnd (y:=r.1) (by rw [cp.ok.nm]; exact ZD.mpr ⟨r,rm,rfl⟩);have ec:G8 qs r.1=qs[i].2:=by rw [rq]; exact Ey qnd (Z2 eq)
   rw [ec] at g1;refine ⟨_,rfl,B,_,rfl,g1,_,rfl,_,rfl,_,rfl,_,rfl,(by show 2<=sizeLine; lia),fun T hT=>?_⟩;have q2:=Ad (o:=.tup [.str r.1,.str y]) hT;have Km:(upd H1 T (.tup [.str r.1,.str y])) T=some (.tup [.str r.1,.str y]):=Ab;generalize upd H1 T (.tup [.str r.1,.str y])=H2 at q2 Km;obtain ⟨g2,_,_⟩:=(((kn.same sa).same q1).same q2).get (cp.cw.ok2.sub r rm) hy Km;have r4:=cp.few r rm;have r1:=(cp.cw.ok2.lo r rm).1;exists A0,_,rfl,g2,_,_,rfl,rfl,.inl ⟨by lia,by lia⟩,_,_,rfl,rfl,_,_,rfl,_,_,rfl,rfl;refine hN _ _ ⟨⟨some (.str r.1),some (.int r.2),?_⟩,sa.trans (q1.trans q2)⟩;rw [Kq er eq,List.sum_append,List.sum_singleton,S7];unfold EM;rfl
  ·obtain ⟨⟨v5,v6,rfl⟩,sa⟩:=hP;exists _,rfl;have e:Fv.length=(As.zip qs).length:=by rw [Nt ql]; lia
   rw [e,ZP];exact k _ sa
theorem KQ  {fG:Addr} {fdG:FuncData} (XG:Fn K mg "_law_gets" Dt ["_law_case_here","_law_away","_law_prices_here","_law_site"] fG fdG) (GG:A7 P w K mg base Bq 1 fG fdG ["_law_case_here","_law_away","_law_prices_here","_law_site"] K7) {f:Addr} {fd:FuncData} (F:D6 K "_law_stand" "_law_stand" DF f fd):A7 P w K mg base Bq 2 f fd ["_law_case_here","_law_away","_law_prices_here","_law_levy"] LA:=by
 refine F.ok FH (fun vs H Q E h=>?_) (fun cdv A outer s H vs Q E hr h=>?_)
 ·obtain ⟨c,m,t,A0,n,xs,ws,Aq,As,qs,x,d,lv,rfl,_⟩:=h;rfl
 ·obtain ⟨c,m,t,A0,n,xs,ws,Aq,As,qs,x,d,lv,rfl,cp,kn,k⟩:=h;have nd:=FH.nd;have hu:=CV hr;have big:100000 < sizeLine:=by decide
  refine ⟨_,(Ak (A4 (BS (OZ (bN hu)) (Bl (N:=["_law_place","_law_dues","_law_case_here","_law_away","_law_prices_here","_law_levy"]) (σ0:=fun σ=>[none,none,some 0,some 1,some 2,some 3].map fun j=>j.bind fun j=>(σ[j]?).join) rfl (AJ.caught (by rfl) (by decide +kernel) rfl (by decide +kernel) (by intro y hy; simp only [Z3,Z8,or_false] at hy; rcases hy with rfl | rfl | rfl | rfl <;> rfl)
   (by intro y hy e; simp only [Z3,Z8,or_false] at hy; rcases hy with rfl | rfl | rfl | rfl | rfl | rfl | rfl | rfl <;> first | exact ⟨_,rfl⟩ | cases e)) (fun σ _=>Bj.of [none,none,some 0,some 1,some 2,some 3] rfl (by
   intro i j x h1 h2;match i,h1,h2 with
   | 0,_,h2=>cases h2
   | 1,_,h2=>cases h2
   | 2,h1,h2=>cases h1; cases h2; exact ⟨rfl,.inl rfl,.inl rfl⟩
   | 3,h1,h2=>cases h1; cases h2; exact ⟨rfl,.inl rfl,.inl rfl⟩
   | 4,h1,h2=>cases h1; cases h2; exact ⟨rfl,.inl rfl,.inl rfl⟩
   | 5,h1,h2=>cases h1; cases h2; exact ⟨rfl,.inl rfl,.inl rfl⟩
   | n + 6,h1,_=>cases h1)) (Bi K rfl (A2 (A8 K rfl) (pv 0) Af (fun _ _=>rfl)))
   (fun s2 H C fp=>⟨(AW K rfl (n:=2) rfl (Am (Ai (i:=0) (show (["_law_place","_law_dues","_law_case_here","_law_away","_law_prices_here","_law_levy"]:List Str).Nodup by decide +kernel) rfl (Or.inl rfl)) (Am (Ai (i:=1) (show (["_law_place","_law_dues","_law_case_here","_law_away","_law_prices_here","_law_levy"]:List Str).Nodup by decide +kernel) rfl (Or.inl rfl)) AV))),(HU (AN Rh (Al GG (hr.mono (by decide)) (by rfl) XG.mg XG.F.kp XG.b .nil Av (Aa (pv 2) (Aa (pv 3) (Aa (pv 4) (Aa (pv 0) Ac))))) (Ay Ba (pv 1) (pv 5)) (AO _))),(pv 0)⟩)) (Bs Ac) (AO _)))),?_⟩
  obtain ⟨us,ht,du⟩:=cp.ex;obtain ⟨t1,t2,DV,Fv,hc,Fi,F3,Eu,hd2⟩:=cp.cw.ex;have ul:=A9 du;have Se:=A9 F3;have Qq:=A9 hd2;have l1:=cp.cw.l1;have l2:=cp.cw.l2;have ql:=cp.ok.len;exists _,rfl,c,_,_,_,rfl,rfl,A1.of hc,rfl,t1,rfl,⟨_,A1.of Fi⟩
  refine DK Bv (xs:=DV) (fun D i A3 H' acc=>∃ v0 v1:Option V,A3=[v0,v1,some (.ref c),some (.ref A0),some (.ref t),some (.int lv)]/\Ao H H'/\H' D=some (.lst acc)/\acc=((Aq.take i).filter fun r=>decide (r.2 + lv < BH ws r.1 As qs)).map (fun r=>V.str r.1)/\acc.length<=i)
   (by lia) (fun D hD=>⟨_,_,rfl,Ad hD,Ab,rfl,Z4 _⟩) (fun D i A3 H' acc hD ⟨v0,v1,_,sa,AQ,_,al⟩=>⟨A1.of (sa _ _ Fi),AQ,al⟩) ?_ ?_
  ·rintro D i A3 H' acc x' B N hD Uo ⟨v0,v1,rfl,sa,AQ,ea,al⟩ hB hN;obtain ⟨r,tt,er,rfl,htt⟩:=Bc F3 Uo;have rm:=Z2 er;exists tt,_,rfl,A1.of (sa _ _ htt),rfl,_,_,rfl,_,_,rfl,rfl;refine ⟨_,rfl,_,rfl,_,rfl,_,rfl,c,m,t,A0,n,xs,ws,Aq,As,qs,x,d,r.1,rfl,cp.same sa,kn.same sa,cp.cw.ok1.sub r rm,fun H5 s5=>?_⟩;exists _,rfl,_,rfl,_,_,rfl,rfl,_,_,rfl,rfl,_,rfl;refine CA (fun z=>?_) (fun z=>?_)
   ·refine ⟨_,rfl,hB _ _ _ (s5 _ _ AQ) ⟨_,_,rfl,fun b o e=>by rw [Ae (Ah e hD)]; exact s5 _ _ (sa _ _ e),Ab,?_,by rw [Z7]; show _ + 1<=_; lia⟩⟩;rw [ea,ZH,er,bG,ZC];congr 1;show _=(fh _ [r]).map _
    rw [aT,if_pos z];rfl
   ·refine hN _ _ ⟨_,_,rfl,sa.trans s5,s5 _ _ AQ,?_,by lia⟩;rw [ea,ZH,er,bG,ZC];show _=_ ++ (fh _ [r]).map _
    rw [aT,if_neg z];simp
  ·rintro D A3 H' acc hD ⟨v0,v1,rfl,sa,AQ,ea,al⟩;refine ⟨(by show 0<=sizeLine; lia),fun E' hE=>⟨D,E',acc,rfl,rfl,AS.of (Ad hE _ _ AQ),AS.of Ab,?_⟩⟩;rw [ea,Se,ZP,FX,OB];exact k _ (sa.trans (Ad hE))
end
section
variable {P:Program} {w:World} {K:Z1} {mg:Str->Option Value} {base:Heap}
theorem J7 (h_dict:mg "dict"=none) (h_max:mg "max"=none) (h_min:mg "min"=none) {fG:Addr} {fdG:FuncData} (XG:Fn K mg "_law_gets" Dt ["_law_case_here","_law_away","_law_prices_here","_law_site"] fG fdG) (GG:A7 P w K mg base Bq 1 fG fdG ["_law_case_here","_law_away","_law_prices_here","_law_site"] K7) {f:Addr} {fd:FuncData} (F:D6 K "_law_raised" "_law_raised" CZ f fd):A7 P w K mg base Bq 2 f fd ["_law_case_here","_law_away","_law_prices_here","_law_levy","_law_at"] JX:=by
 refine F.ok Fo (fun vs H Q E h=>?_) (fun cdv A outer s H vs Q E hr h=>?_)
 ·obtain ⟨c,m,t,A0,n,xs,ws,Aq,As,qs,x,d,lv,i,rfl,_⟩:=h;rfl
 ·obtain ⟨c,m,t,A0,n,xs,ws,Aq,As,qs,x,d,lv,i,rfl,cp,kn,lv0,YD,hi,k⟩:=h;have nd:=Fo.nd;have hu:=CV hr;have big:100000 < sizeLine:=by decide
  refine ⟨_,(Ag (DP (A2 (A8 K rfl) (pv 2) (pv 4) (fun _ _=>rfl)) (AW K rfl rfl (Am (Ai (i:=5) nd rfl (Or.inl rfl)) (Am (Ai (i:=6) nd rfl (Or.inl rfl)) AV))))
  (Ag (Ap (i:=7) nd rfl (Or.inl rfl) (Bo hu (AF (BU rfl) (by rfl) h_dict PyProof.Rows.boot_dict (Aa (A2 (A8 K rfl) (pv 0) Af (fun _ _=>rfl)) Ac)) (pv 5) (fun _ _=>rfl)))
  (Ag (Ap (i:=8) nd rfl (Or.inl rfl) (Ay (BM K rfl) (Ay (BM K rfl) (Cf (CW K rfl) (pv 2) Ck (Cj (pv 4))) (AB (Aa (AB (Aa (pv 5) (Aa Af Ac))) Ac))) (Cf (CW K rfl) (pv 2) (Cj (Ay Ba (pv 4) Af)) Ck)))
  (Ag (Ap (i:=9) nd rfl (Or.inl rfl) (Bs Ac))
  (Ag (BB PassesOwn.never rfl (Bi K rfl (A2 (A8 K rfl) (pv 0) Af (fun _ _=>rfl))) (AW K rfl rfl (Am (Ai (i:=10) nd rfl (Or.inl rfl)) (Am (Ai (i:=11) nd rfl (Or.inl rfl)) AV)))
  (Ak (FN (Hf PySem.F.plainAttrs_list PySem.F.slot_list_append PySem.F.type_list_append CH (pv 9) (Aa (Ay Ba (Ay KN (Ay Ba (pv 11) (pv 3)) (Al GG (hr.mono (by decide)) (by rfl) XG.mg XG.F.kp XG.b .nil Av (Aa (pv 0) (Aa (pv 1) (Aa (pv 8) (Aa (pv 10) Ac)))))) (Ay C5 (pv 7) (Bo hu (pv 1) (AB (Aa (pv 5) (Aa (pv 10) Ac))) (fun _ _=>rfl)))) Ac)))))
  (Ak (A4 (Ay (BM K rfl) (Ay (BM K rfl) (Cf (CW K rfl) (pv 2) Ck (Cj (pv 4))) (AB (Aa (AB (Aa (pv 5) (Aa (Aj (G9 rfl) (by rfl) h_max PyProof.Rows.boot_max (Aa Af (Aa (Aj (JM rfl) (by rfl) h_min PyProof.Rows.boot_min (Aa (pv 9) Ac)) Ac))) Ac))) Ac))) (Cf (CW K rfl) (pv 2) (Cj (Ay Ba (pv 4) Af)) Ck))))))))),?_⟩
  obtain ⟨us,ht,du⟩:=cp.ex;obtain ⟨t1,t2,DV,Fv,hc,Fi,F3,Eu,hd2⟩:=cp.cw.ex;have ul:=A9 du;have Se:=A9 F3;have Qq:=A9 hd2;have l1:=cp.cw.l1;have l2:=cp.cw.l2;have ql:=cp.ok.len;have JG:i < us.length:=by lia
  obtain ⟨q,tt,eq,e2,htt⟩:=Bc du (Zy JG);have en:=IJ eq;have qm:=Z2 eq;have Uu:Gk us (i:Int)=some (.ref tt):=by rw [Co (Zy JG),e2]
  obtain ⟨r,er,rq⟩:=cp.ok.at eq;have rm:=Z2 er;exists _,rfl,_,rfl,t,_,_,_,rfl,rfl,A1.of ht,Uu,tt,_,rfl,A1.of htt,rfl,_,_,rfl,_,_,rfl,rfl;refine ⟨_,rfl,c,_,_,_,rfl,rfl,A1.of hc,rfl,t2,Fv,BR As,rfl,Eu,by unfold BR; rw [Z0]; exact Qq,HS hd2,by rw [Dl]; exact cp.cw.ok2.nd,by unfold BR; rw [Z0]; lia,fun B hB=>?_⟩;have b1:=Ad (o:=.dK (sK (BR As))) hB;have R8:(upd H B (.dK (sK (BR As)))) B=some (.dK (sK (BR As))):=Ab;generalize upd H B (.dK (sK (BR As)))=HB at b1 R8 ⊢;have g1:=Iz R8 cp.cw.ok2.nd (y:=q.1) (by rw [<-rq]; exact ZD.mpr ⟨r,rm,rfl⟩);have ec:G8 As q.1=r.2:=by rw [<-rq]; exact Ey cp.cw.ok2.nd rm
  rw [ec] at g1;exists _,rfl,B,_,rfl,g1;have htB:=b1 _ _ ht;refine ⟨_,rfl,_,rfl,_,rfl,Sk htB JG fun Z1a U3 QI Xe=>?_⟩;refine ⟨_,rfl,(by show 2<=sizeLine; lia),fun T hTa=>⟨(by show 1<=sizeLine; lia),fun Ya hYa=>?_⟩⟩;have QL:=Ad (o:=.tup [.str q.1,.int 0]) hTa;have hTTa:(upd U3 T (.tup [.str q.1,.int 0])) T=some (.tup [.str q.1,.int 0]):=Ab;generalize upd U3 T (.tup [.str q.1,.int 0])=U2 at QL hTTa hYa ⊢;have NP:=Ad (o:=.tup [.ref T]) hYa;have hYYa:(upd U2 Ya (.tup [.ref T])) Ya=some (.tup [.ref T]):=Ab;generalize upd U2 Ya (.tup [.ref T])=H3a at NP hYYa ⊢;refine HL (K:=K) (NP _ _ (QL _ _ Xe)) hYYa (by rw [ZS]; show _ + 1<=sizeLine; lia) fun Z2a H4a TF Xc=>?_
  have sAa:=QI.trans (QL.trans (NP.trans TF));exists _,rfl,_,rfl,_,_,rfl,rfl,_,rfl;dsimp only [EW];refine Sl (K:=K) (sAa _ _ htB) JG fun Z3a H5a TC Xb=>?_
  refine HL (K:=K) (TC _ _ Xc) Xb (by rw [Z7,ZS,aG]; show _ + 1 + _<=sizeLine; lia) fun Za U1 Wj Xa=>?_
  have sBa:=TC.trans Wj;have salla:=sAa.trans sBa;have R6:=sBa _ _ (TF _ _ (NP _ _ hTTa));have cpO:CP U1 c m Za n xs ws Aq As (BK qs i 0) x d:=((cp.same b1).same salla).put (Bh du fun b ys z=>salla _ _ (b1 _ _ z)) hi (aB _) (by rw [en]; exact R6) Xa;have sO:=b1.trans salla;refine ⟨(by show 0<=sizeLine; lia),fun L0 Ui=>?_⟩;have hyx:q.1 ∈ xs:=(cp.names q qm).1;have r4:=cp.few r rm;have r1:=(cp.cw.ok2.lo r rm).1;refine ⟨_,rfl,c,_,_,_,rfl,rfl,A1.of (Ad Ui _ _ (sO _ _ hc)),rfl,t1,rfl,⟨_,A1.of (Ad Ui _ _ (sO _ _ Fi))⟩,C7 (xs:=DV) (fun j σ H'=>(∃ v10 v11,σ=[some (.ref c),some (.ref A0),some (.ref t),some (.int lv),some (.int i),some (.str q.1),some (.int q.2),some (.int r.2),some (.ref Za),some (.ref L0),v10,v11])/\Ao U1 H'/\∃ ns:List Int,H' L0=some (.lst (ns.map V.int))/\ns.length=j/\(∀ n ∈ ns,n < 2 ^ 400)/\ns=(Aq.take j).map fun s=>s.2 + lv - BH ws s.1 As (BK qs i 0) + r.2 * dst ws s.1 q.1)
   ⟨⟨_,_,rfl⟩,Ad Ui,[],Ab,rfl,(fun n hn=>nomatch hn),rfl⟩ (fun j σ H' _ hP=>A1.of (hP.2.1 _ _ (sO _ _ Fi))) (fun j v σ H' hv hP rt bk N hN=>?_) (fun σ H' hP=>?_)⟩
  ·obtain ⟨⟨v10,v11,rfl⟩,sa,ns,hL,nl,nb,nv⟩:=hP;obtain ⟨s1,tt1,es,rfl,hts⟩:=Bc F3 hv;have sm:=Z2 es;have jl:j < Aq.length:=(ZA.mp es).1;exists tt1,_,rfl,A1.of (sa _ _ (sO _ _ hts)),rfl,_,_,rfl,_,_,rfl,rfl;refine ⟨_,rfl,.inl ⟨rfl,_,AS.of hL⟩,_,rfl,_,rfl,_,_,rfl,rfl,_,rfl,_,rfl,_,rfl,_,rfl,c,m,Za,A0,n,xs,ws,Aq,As,BK qs i 0,x,d,s1.1,rfl,cpO.same sa,(kn.same sO).same sa,cp.cw.ok1.sub s1 sm,fun H7 s7=>?_⟩;refine ⟨_,_,rfl,rfl,_,rfl,_,rfl,_,rfl,_,rfl,(by show 2<=sizeLine; lia),fun T hT=>?_⟩;have q7:=s7.trans (Ad (o:=.tup [.str q.1,.str s1.1]) hT);have Km:(upd H7 T (.tup [.str q.1,.str s1.1])) T=some (.tup [.str q.1,.str s1.1]):=Ab;generalize upd H7 T (.tup [.str q.1,.str s1.1])=H8 at q7 Km ⊢;obtain ⟨g2,d0,d1⟩:=(((kn.same sO).same sa).same q7).get hyx (cp.cw.ok1.sub s1 sm) Km;exists A0,_,rfl,g2,_,_,rfl,rfl,.inl ⟨by lia,by lia⟩,_,_,rfl,rfl,L0,_,_,rfl,rfl,q7 _ _ hL,by rw [Z0]; lia
   refine hN _ _ ⟨⟨_,_,rfl⟩,fun b o z=>by rw [Ae (Ah z Ui)]; exact q7 _ _ (sa _ _ z),ns ++ [s1.2 + lv - BH ws s1.1 As (BK qs i 0) + r.2 * dst ws s1.1 q.1],by rw [Ab,ZC]; rfl,by rw [Z7,nl]; rfl,fun z hz=>?_,by rw [ZH,es,ZC,<-nv]; rfl⟩;rcases ZM.mp hz with hz | hz
   ·exact nb z hz
   ·rw [ZN] at hz;subst hz;exact QK (cp.cw.ok1.lo s1 sm).2 YD (Pu _ _ _ _) r1 r4 d0 d1
  obtain ⟨⟨v10,v11,rfl⟩,sa,ns,hL,nl,nb,nv⟩:=hP;have one:=cp.cw.ok1.one;have nne:ns ≠ []:=fun z=>by rw [z] at nl; rw [<-Se] at one; simp at nl; lia
  have htE:=sa _ _ (salla _ _ htB);refine ⟨_,rfl,_,rfl,_,rfl,Sk htE JG fun Z1b H1b VN h1b=>?_⟩;refine ⟨_,rfl,_,rfl,L0,ns,rfl,VN _ _ hL,nne,fun mn hm hle=>⟨_,_,rfl,(by show 2<=sizeLine; lia),fun T hTb=>⟨(by show 1<=sizeLine; lia),fun Yb hYb=>?_⟩⟩⟩;have Y5:=Ad (o:=.tup [.str q.1,.int (if mn > 0 then mn else 0)]) hTb;have hTTb:(upd H1b T (.tup [.str q.1,.int (if mn > 0 then mn else 0)])) T=some (.tup [.str q.1,.int (if mn > 0 then mn else 0)]):=Ab;generalize upd H1b T (.tup [.str q.1,.int (if mn > 0 then mn else 0)])=H2b at Y5 hTTb hYb ⊢;have X3:=Ad (o:=.tup [.ref T]) hYb;have hYYb:(upd H2b Yb (.tup [.ref T])) Yb=some (.tup [.ref T]):=Ab;generalize upd H2b Yb (.tup [.ref T])=H3b at X3 hYYb ⊢;refine HL (K:=K) (X3 _ _ (Y5 _ _ h1b)) hYYb (by rw [ZS]; show _ + 1<=sizeLine; lia) fun Z2b H4b s4b h4b=>?_
  have sAb:=VN.trans (Y5.trans (X3.trans s4b));exists _,rfl,_,rfl,_,_,rfl,rfl,_,rfl;dsimp only [EW];refine Sl (K:=K) (sAb _ _ htE) JG fun Z3b H5b s5b h5b=>?_
  refine HL (K:=K) (s5b _ _ h4b) h5b (by rw [Z7,ZS,aG]; show _ + 1 + _<=sizeLine; lia) fun Zb H6b s6b h6b=>?_
  have sBb:=s5b.trans s6b;have sallb:=sAb.trans sBb;have Zh:=sBb _ _ (s4b _ _ (X3 _ _ hTTb));have sF:=b1.trans (salla.trans (sa.trans sallb));have p0:(0:Int)<=(if mn > 0 then mn else 0):=by split <;> lia
  have p1:(if mn > 0 then mn else 0) < (2:Int) ^ 400:=by
   split
   ·exact nb mn hm
   ·exact (by decide +kernel)
  have lo:∀ s ∈ Aq,0<=r.2 * dst ws s.1 q.1:=fun s hs=>cU (by lia) (kn.lo hyx (cp.cw.ok1.sub s hs))
  have room:∀ s ∈ Aq,mn<=s.2 + lv - BH ws s.1 As (BK qs i 0) + r.2 * dst ws s.1 q.1:=fun s hs=>hle _ (by rw [nv,Se,ZP]; exact ZD.mpr ⟨s,hs,rfl⟩)
  exact k H6b Zb _ sF p0 p1 (fun hst p' YS=>OA hst er eq rq (cp.ok.lo q qm) lo room YS) ((cp.same sF).put (Bh du fun b ys z=>sF _ _ z) hi p0 (by rw [en]; exact Zh) h6b)
theorem J8 (h_len:mg "len"=none) (h_list:mg "list"=none) (h_range:mg "range"=none) (h_tuple:mg "tuple"=none) {fT:Addr} {fdT:FuncData} (XT:Fn K mg "_law_take" Bn ["_law_pen_here","_law_many"] fT fdT) (GT:A7 P w K mg base Bq 1 fT fdT ["_law_pen_here","_law_many"] Cz) {fRA:Addr} {fdRA:FuncData} (XRA:Fn K mg "_law_raised" CZ ["_law_case_here","_law_away","_law_prices_here","_law_levy","_law_at"] fRA fdRA) (GRA:A7 P w K mg base Bq 2 fRA fdRA ["_law_case_here","_law_away","_law_prices_here","_law_levy","_law_at"] JX) {f:Addr} {fd:FuncData} (F:D6 K "_law_prices" "_law_prices" C1 f fd):A7 P w K mg base Bq 3 f fd ["_law_pen_here","_law_case_here","_law_away","_law_levy"] Gp:=by
 refine F.ok Fp (fun vs H Q E h=>?_) (fun cdv A outer s H vs Q E hr h=>?_)
 ·obtain ⟨p,c,m,A0,n,xs,ws,Aq,As,x,d,lv,rfl,_⟩:=h;rfl
 ·obtain ⟨p,c,m,A0,n,xs,ws,Aq,As,x,d,lv,rfl,hP,cw,few,kn,lv0,YD,k⟩:=h;have nd:=Fp.nd;have big:100000 < sizeLine:=by decide
  refine ⟨_,(Ag (Ap (i:=4) nd rfl (Or.inl rfl) (AF B3 (by rfl) h_tuple PyProof.Rows.boot_tuple (Aa (Bl (N:=["_law_place","_law_many"]) (σ0:=fun _=>[none,none]) rfl (AJ.plain (by decide +kernel) (by decide +kernel) rfl (by decide +kernel)) (fun σ _=>Bj.none _ _ _ ["_law_place","_law_many"] σ) (Bi K rfl (A2 (A8 K rfl) (pv 1) Af (fun _ _=>rfl)))
   (fun s2 H C fp=>⟨(AW K rfl (n:=2) rfl (Am (Ai (i:=0) (show (["_law_place","_law_many"]:List Str).Nodup by decide +kernel) rfl (Or.inl rfl)) (Am (Ai (i:=1) (show (["_law_place","_law_many"]:List Str).Nodup by decide +kernel) rfl (Or.inl rfl)) AV))),Bd,(AB (Aa (pv 0) (Aa Af Ac)))⟩)) Ac)))
  (Ag (Ap (i:=5) nd rfl (Or.inl rfl) (AF (JN rfl) (by rfl) h_list PyProof.Rows.boot_list (Aa (AF PN (by rfl) h_range PyProof.Rows.boot_range (Aa (Aj AH (by rfl) h_len PySem.boot_len (Aa (pv 4) Ac)) Ac)) Ac)))
  (Ag (BB PassesOwn.never rfl (CF (by rfl) h_range (Aa (Aj AH (by rfl) h_len PySem.boot_len (Aa (pv 4) Ac)) Ac)) (Ai (i:=6) nd rfl (Or.inl rfl))
  (Ag (Ap (i:=7) nd rfl (Or.inl rfl) (Hf PySem.F.plainAttrs_list PySem.F.slot_list_pop PySem.F.type_list_pop Ma (pv 5) (Aa (Al GT (hr.mono (by decide)) (by rfl) XT.mg XT.F.kp XT.b .nil Av (Aa (pv 0) (Aa (Aj AH (by rfl) h_len PySem.boot_len (Aa (pv 5) Ac)) Ac))) Ac)))
  (Ag (Ap (i:=8) nd rfl (Or.inl rfl) (Al GRA (hr.mono (by decide)) (by rfl) XRA.mg XRA.F.kp XRA.b .nil Av (Aa (pv 1) (Aa (pv 2) (Aa (pv 4) (Aa (pv 3) (Aa (pv 7) Ac)))))))
  (Ag (Ap (i:=4) nd rfl (Or.inl rfl) (pv 8))
  (Ak (B7 (AN E5 (Al GT (hr.mono (by decide)) (by rfl) XT.mg XT.F.kp XT.b .nil Av (Aa (pv 0) (Aa Af Ac))) Af (AO _))
  (Ag (Ap (i:=9) nd rfl (Or.inl rfl) (Al GT (hr.mono (by decide)) (by rfl) XT.mg XT.F.kp XT.b .nil Av (Aa (pv 0) (Aa (Ay Ba (A2 (A8 K rfl) (A2 (A8 K rfl) (pv 8) (pv 7) (fun _ _=>rfl)) Af (fun _ _=>rfl)) Af) Ac))))
  (Ak (Ap (i:=4) nd rfl (Or.inl rfl) (Ay (BM K rfl) (Ay (BM K rfl) (Cf (CW K rfl) (pv 8) Ck (Cj (pv 7))) (AB (Aa (AB (Aa (A2 (A8 K rfl) (A2 (A8 K rfl) (pv 8) (pv 7) (fun _ _=>rfl)) Af (fun _ _=>rfl)) (Aa (pv 9) Ac))) Ac))) (Cf (CW K rfl) (pv 8) (Cj (Ay Ba (pv 7) Af)) Ck)))))
  AR))))))
  (Ak (A4 (pv 4)))))),?_⟩
  obtain ⟨t1,t2,DV,Fv,hc,Fi,F3,Eu,hd2⟩:=cw.ex;have Qq:=A9 hd2;have l2:=cw.l2;have one:=cw.ok2.one;exists _,rfl,c,_,_,_,rfl,rfl,A1.of hc,rfl,t2,rfl,⟨_,A1.of Eu⟩
  refine Br Bv (xs:=Fv) (fun D i A3 H' acc=>∃ v0 v1:Option V,A3=[v0,v1]/\Ao H H'/\H' D=some (.lst acc)/\AE H' acc ((Fl (As.take i)).map C9)/\acc.length=i)
   (by lia) (fun D hD=>⟨_,_,rfl,Ad hD,Ab,.nil,rfl⟩) (fun D i A3 H' acc hD ⟨v0,v1,_,sa,AQ,_,al⟩=>⟨A1.of (sa _ _ Eu),AQ,al⟩) ?_ ?_
  ·rintro D i A3 H' acc x' B hD Uo ⟨v0,v1,rfl,sa,AQ,dd,al⟩ hB;obtain ⟨r,tt,er,rfl,htt⟩:=Bc hd2 Uo;exists tt,_,rfl,A1.of (sa _ _ htt),rfl,_,_,rfl,_,_,rfl,rfl;refine ⟨_,rfl,(by show 2<=sizeLine; lia),fun T hT=>?_⟩;have q:=Ad (o:=.tup [.str r.1,.int 0]) hT;have Km:(upd H' T (.tup [.str r.1,.int 0])) T=some (.tup [.str r.1,.int 0]):=Ab;generalize upd H' T (.tup [.str r.1,.int 0])=H6 at q Km ⊢;have d6:=q _ _ AQ;refine hB _ _ _ d6 ⟨_,_,rfl,fun b o e=>by rw [Ae (Ah e hD)]; exact q _ _ (sa _ _ e),Ab,?_,by rw [Z7,al]; rfl⟩;unfold Fl at dd ⊢;rw [ZH,er,ZC,ZC];refine CO (Bh dd fun b ys e=>?_) (.cons (FL (u:=(r.1,0)) (by rw [Ae (by intro z; subst z; rw [d6] at Km; cases Km)]; exact Km)) .nil);rw [Ae (by intro z; subst z; rw [AQ] at e; cases e)];exact q _ _ e
  rintro D A3 H1 acc hD ⟨v0,v1,rfl,sa,AQ,dd,al⟩;rw [Qq,ZP] at dd;refine ⟨D,_,rfl,.inl ⟨AS.of AQ,fun T0 Zj=>?_⟩⟩;have b1:=Ad (o:=.tup acc) Zj;have SQ:(upd H1 T0 (.tup acc)) T0=some (.tup acc):=Ab;have cp0:CP (upd H1 T0 (.tup acc)) c m T0 n xs ws Aq As (Fl As) x d:=⟨(cw.same sa).same b1,few,⟨acc,SQ,Bh dd fun b ys z=>b1 _ _ z⟩,Qf As⟩
  have s2:=sa.trans b1;generalize upd H1 T0 (.tup acc)=H2 at b1 SQ cp0 s2 ⊢;refine ⟨_,rfl,T0,_,rfl,.inr (A1.of SQ),(acc.length:Int),rfl,fun R hR=>⟨R,acc.length,rfl,Ab,by lia,fun O hO=>?_⟩⟩;have s3:=(Ad (o:=.rng 0 (acc.length:Int)) hR).trans (Ad (o:=.lst ((ai acc.length).map fun (i:Nat)=>V.int (i:Int))) hO);have hOO:(upd (upd H2 R (.rng 0 (acc.length:Int))) O (.lst ((ai acc.length).map fun (i:Nat)=>V.int (i:Int)))) O=some (.lst ((ai acc.length).map fun (i:Nat)=>V.int (i:Int))):=Ab;have hO2:H2 O=none:=(Ad (o:=.rng 0 (acc.length:Int)) hR).free hO;generalize upd (upd H2 R (.rng 0 (acc.length:Int))) O (.lst ((ai acc.length).map fun (i:Nat)=>V.int (i:Int)))=H3 at s3 hOO ⊢;have hOH:H O=none:=s2.free hO2;have nOp:O ≠ p:=hP.ne hOH;refine ⟨_,rfl,T0,_,rfl,.inr (A1.of (s3 _ _ SQ)),(acc.length:Int),rfl,by lia,by lia,Dn (n:=(acc.length:Int).toNat) (fun j σ H'=>∃ (v6 v7 v8 v9:Option V) (T:Addr) (qs:List Bg) (os:List Nat),σ=[some (.ref p),some (.ref c),some (.ref A0),some (.int lv),some (.ref T),some (.ref O),v6,v7,v8,v9]/\Ax H' p/\Az p H H'/\CP H' c m T n xs ws Aq As qs x d/\BY H' A0 xs ws/\(BJ ws Aq As qs lv=true/\∀ q ∈ qs,q.2 < 2 ^ 400)/\H' O=some (.lst (os.map fun (i:Nat)=>V.int (i:Int)))/\os.length + j=acc.length/\∀ o ∈ os,o < acc.length)
   ⟨_,_,_,_,T0,Fl As,ai acc.length,rfl,(hP.same s2).same s3,Az.of_same (s2.trans s3),cp0.same s3,(kn.same s2).same s3,⟨My (fun s hs r hr=>cU (by have:=(cw.ok2.lo r hr).1; lia) (kn.lo (cw.ok2.sub r hr) (cw.ok1.sub s hs))) (fun s hs=>(cw.ok1.lo s hs).1) lv0,Qg⟩,hOO,by rw [aH]; rfl,fun o ho=>ba.mp ho⟩ ?_ ?_⟩
  ·rintro j σ H4 hj ⟨v6,v7,v8,v9,T,qs,os,rfl,P4,k4,Ym,VQ,⟨Mw,Yn⟩,VX,ol,ob⟩;rw [bL] at hj;refine ⟨_,rfl,.inl ⟨rfl,_,AS.of VX⟩,_,rfl,_,rfl,O,_,rfl,.inl (AS.of VX),p,_,rfl,P4,?_,BW ?_,fun e' a1 Td c1 Yl Wb=>?_⟩
   ·rw [Z0]; lia
   ·rw [Z0]; lia
   rw [Z0] at Wb;obtain ⟨g,rfl⟩:∃ g:Nat,e'=(g:Int):=⟨e'.toNat,by lia⟩
   have hg:g < os.length:=by lia
   have hget:os[g]? = some os[g]:=Zy hg;have h5:(upd H4 p (.lst (Au a1 Td c1))) O=some (.lst (os.map fun (i:Nat)=>V.int (i:Int))):=by rw [Ae nOp]; exact VX
   exists O,_,_,g,.int (os[g]:Nat),rfl,rfl,h5,by lia,by lia,?_,by rw [Z6,hget]; rfl
   ·rw [Z0];exact (HX (by show Rw os.length (g:Int)=some g; unfold Rw; rw [if_pos (by lia),if_pos (by lia)]; rfl)).1
   rw [Gz];obtain ⟨i,ei⟩:∃ i,i=os[g]:=⟨_,rfl⟩
   rw [<-ei];have hi0:i < acc.length:=by rw [ei]; exact ob _ (ar hg)
   have ql:=Ym.ok.len;have hi:i < qs.length:=by lia
   have P6:Ax (upd (upd H4 p (.lst (Au a1 Td c1))) O (.lst ((os.eraseIdx g).map fun (i:Nat)=>V.int (i:Int)))) p:=(Ax.set a1 Td c1).other nOp;have k6:Az p H (upd (upd H4 p (.lst (Au a1 Td c1))) O (.lst ((os.eraseIdx g).map fun (i:Nat)=>V.int (i:Int)))):=fun b o hb e=>by rw [Ae (Ah e hOH),Ae hb]; exact k4 b o hb e
   have tk:∀ b ys,H4 b=some (.tup ys)->(upd (upd H4 p (.lst (Au a1 Td c1))) O (.lst ((os.eraseIdx g).map fun (i:Nat)=>V.int (i:Int)))) b=some (.tup ys):=fun b ys e=>by
    rw [Ae (by intro z; subst z; rw [VX] at e; cases e),Ae (by intro z; subst z; obtain ⟨_,_,_,z⟩:=P4; rw [z] at e; cases e)];exact e
   have YE:BY (upd (upd H4 p (.lst (Au a1 Td c1))) O (.lst ((os.eraseIdx g).map fun (i:Nat)=>V.int (i:Int)))) A0 xs ws:=by
    obtain ⟨M,cc,⟨kvs,a,b,e⟩,r⟩:=VQ;refine ⟨M,cc,⟨kvs,?_,b,e⟩,r⟩;rw [Ae (by intro z; subst z; rw [VX] at a; cases a),Ae (by intro z; subst z; obtain ⟨_,_,_,z⟩:=P4; rw [z] at a; cases a)];exact a
   have hO6:(upd (upd H4 p (.lst (Au a1 Td c1))) O (.lst ((os.eraseIdx g).map fun (i:Nat)=>V.int (i:Int)))) O=some (.lst ((os.eraseIdx g).map fun (i:Nat)=>V.int (i:Int))):=Ab;have cp6:=Ym.keepT tk;generalize upd (upd H4 p (.lst (Au a1 Td c1))) O (.lst ((os.eraseIdx g).map fun (i:Nat)=>V.int (i:Int)))=H6 at P6 k6 YE hO6 cp6 ⊢;have ol6:(os.eraseIdx g).length + (j + 1)=acc.length:=by rw [bX,if_pos hg]; lia
   have ob6:∀ o ∈ os.eraseIdx g,o < acc.length:=fun o ho=>ob o (List.mem_of_mem_eraseIdx ho)
   refine ⟨_,rfl,_,rfl,_,rfl,_,rfl,_,rfl,c,m,T,A0,n,xs,ws,Aq,As,qs,x,d,lv,i,rfl,cp6,YE,lv0,YD,hi,fun H7 T7 pr s7 pr0 Y6 st7 cp7=>⟨_,rfl,?_⟩⟩;have P7:=P6.same s7;have k7:=k6.trans (Az.of_same s7);have kn7:=YE.same s7;have hO7:=s7 _ _ hO6;refine ⟨_,rfl,p,3,rfl,P7,by decide,BW (by decide),fun e2 a2 b2 c2 e20 Zp=>⟨rfl,_,rfl,?_⟩⟩;have P8:Ax (upd H7 p (.lst (Au a2 b2 c2))) p:=Ax.set _ _ _;have Wv:Az p H7 (upd H7 p (.lst (Au a2 b2 c2))):=Az.upd;generalize upd H7 p (.lst (Au a2 b2 c2))=H8 at P8 Wv ⊢;have k8:=k7.trans Wv;have Zs:=cp7.keepT (Dq P7 Wv);have kn8:=kn7.keep P7 Wv;have hO8:=Wv _ _ nOp hO7;refine CA (fun _=>?_) (fun _=>?_)
   ·obtain ⟨us,ht,du⟩:=Zs.ex;have ul:=A9 du;have pl:=QM (p:=pr) hi;have JG:i < us.length:=by lia
    obtain ⟨q,tt,eq,Uq,htt⟩:=Bc du (Zy JG);have en:=IJ eq;rw [NX hi] at en;subst en;have Uu:Gk us (i:Int)=some (.ref tt):=by rw [Co (Zy JG),Uq]
    refine ⟨_,rfl,_,rfl,_,rfl,T7,_,_,_,rfl,rfl,A1.of ht,Uu,tt,_,_,_,rfl,rfl,A1.of htt,rfl,_,_,rfl,rfl,p,pr + 1,rfl,P8,by lia,Vi Y6,fun e3 a3 b3 c3 e30 e31=>?_⟩;have P9:Ax (upd H8 p (.lst (Au a3 b3 c3))) p:=Ax.set _ _ _;have PV:Az p H8 (upd H8 p (.lst (Au a3 b3 c3))):=Az.upd;generalize upd H8 p (.lst (Au a3 b3 c3))=H9 at P9 PV ⊢;have t9:=Dq P8 PV;have YM:=t9 _ _ ht;have YL:=t9 _ _ htt;refine ⟨_,rfl,_,rfl,_,rfl,Sk YM JG fun Z1a U3 QI Xe=>?_⟩;refine ⟨_,rfl,_,rfl,T7,_,_,_,rfl,rfl,A1.of (QI _ _ YM),Uu,tt,_,_,_,rfl,rfl,A1.of (QI _ _ YL),rfl,_,rfl,(by show 2<=sizeLine; lia),fun T hTa=>⟨(by show 1<=sizeLine; lia),fun Ya hYa=>?_⟩⟩;have QL:=Ad (o:=.tup [.str (Pf qs i).1,.int e3]) hTa;have hTTa:(upd U3 T (.tup [.str (Pf qs i).1,.int e3])) T=some (.tup [.str (Pf qs i).1,.int e3]):=Ab;generalize upd U3 T (.tup [.str (Pf qs i).1,.int e3])=U2 at QL hTTa hYa ⊢;have NP:=Ad (o:=.tup [.ref T]) hYa;have hYYa:(upd U2 Ya (.tup [.ref T])) Ya=some (.tup [.ref T]):=Ab;generalize upd U2 Ya (.tup [.ref T])=H3a at NP hYYa ⊢;refine HL (K:=K) (NP _ _ (QL _ _ Xe)) hYYa (by rw [ZS]; show _ + 1<=sizeLine; lia) fun Z2a H4a TF Xc=>?_
    have sAa:=QI.trans (QL.trans (NP.trans TF));exists _,rfl,_,rfl,_,_,rfl,rfl,_,rfl;dsimp only [EW];refine Sl (K:=K) (sAa _ _ YM) JG fun Z3a H5a TC Xb=>?_
    refine HL (K:=K) (TC _ _ Xc) Xb (by rw [Z7,ZS,aG]; show _ + 1 + _<=sizeLine; lia) fun Za U1 Wj Xa=>?_
    have sBa:=TC.trans Wj;have salla:=sAa.trans sBa;have R6:=sBa _ _ (TF _ _ (NP _ _ hTTa));have cpF:CP U1 c m Za n xs ws Aq As (BK (BK qs i pr) i e3) x d:=((Zs.keepT t9).same salla).put (Bh du fun b ys z=>salla _ _ (t9 _ _ z)) (by lia) e30 (by rw [NX hi]; exact R6) Xa;exact ⟨_,_,_,_,Za,_,os.eraseIdx g,rfl,P9.same salla,(k8.trans PV).trans (Az.of_same salla),cpF,(kn8.keep P8 PV).same salla,⟨by rw [IA hi]; exact st7 Mw e3 (by lia),by rw [IA hi]; exact NQ Yn (cB (by lia) Y6)⟩,salla _ _ (PV _ _ nOp hO8),ol6,ob6⟩
   ·exact ⟨_,_,_,_,T7,_,os.eraseIdx g,rfl,P8,k8,Zs,kn8,⟨st7 Mw pr (aB _),NQ Yn Y6⟩,hO8,ol6,ob6⟩
  ·rintro σ H4 ⟨v6,v7,v8,v9,T,qs,os,rfl,P4,k4,Ym,VQ,⟨Mw,Yn⟩,VX,ol,ob⟩;exact ⟨_,rfl,k H4 T qs P4 k4 Ym Mw Yn⟩
end
section
variable {P:Program} {w:World} {K:Z1} {mg:Str->Option Value} {base:Heap}
theorem Hj (h_bool:mg "bool"=none) (h_int:mg "int"=none) (h_isinstance:mg "isinstance"=none) {f:Addr} {fd:FuncData} (F:D6 K "is_whole" "is_whole" En f fd):A7 P w K mg base Bq 1 f fd ["thing"] (L8 K):=by
 refine F.ok Hc (fun vs H Q E h=>?_) (fun cdv A outer s H vs Q E hr h=>?_)
 ·obtain ⟨v,b,rfl,_⟩:=h;rfl
 ·obtain ⟨v,b,rfl,hb,k⟩:=h;have nd:=Hc.nd;have big:100000 < sizeLine:=by decide
  exists _,(Ak (A4 (Ca (Aj BN (by rfl) h_isinstance PyProof.Rows.boot_isinstance (Aa (pv 0) (Aa (BI (v:=.ty "int") (by rfl) h_int PyProof.Rows.boot_int rfl) Ac))) (C4 (QU (Aj BN (by rfl) h_isinstance PyProof.Rows.boot_isinstance (Aa (pv 0) (Aa (BI (v:=.ty "bool") (by rfl) h_bool PyProof.Rows.boot_bool rfl) Ac))))))))
  rcases hb with ⟨n,rfl,rfl⟩ | ⟨rfl,⟨c,rfl⟩ | ⟨ty,t1,t2⟩⟩
  ·exists _,rfl,_,"int",_,_,rfl,.int _,rfl,_,rfl;refine Cr ?_;exact ⟨_,rfl,_,"bool",_,_,rfl,.int _,rfl,_,rfl,k⟩
  ·exists _,rfl,_,"int",_,_,rfl,.bl _,rfl,_,rfl;refine Cr ?_;exact ⟨_,rfl,_,"bool",_,_,rfl,.bl _,rfl,_,rfl,k⟩
  ·exists _,rfl,_,"int",_,_,rfl,t1,t2,_,rfl;refine Bp ?_;exact k
theorem Ec  {fW:Addr} {fdW:FuncData} (XW:Fn K mg "is_whole" En ["thing"] fW fdW) (GW:A7 P w K mg base Bq 1 fW fdW ["thing"] (L8 K)) {f:Addr} {fd:FuncData} (F:D6 K "is_whole_from" "is_whole_from" BE f fd):A7 P w K mg base Bq 2 f fd ["thing","least"] (Gn K):=by
 refine F.ok DZ (fun vs H Q E h=>?_) (fun cdv A outer s H vs Q E hr h=>?_)
 ·obtain ⟨v,l,b,rfl,_⟩:=h;rfl
 ·obtain ⟨v,l,b,rfl,hb,k⟩:=h;have nd:=DZ.nd;have big:100000 < sizeLine:=by decide
  exists _,(Ak (A4 (Ca (Al GW (hr.mono (by decide)) (by rfl) XW.mg XW.F.kp XW.b .nil Av (Aa (pv 0) Ac)) (C4 (BS Ri (pv 0) (pv 1) (AO _))))))
  rcases hb with ⟨n,rfl,rfl⟩ | ⟨rfl,hb⟩
  ·exists _,rfl,.int n,true,rfl,.inl ⟨n,rfl,rfl⟩,_,rfl;refine Cr ?_;exact ⟨_,rfl,_,rfl,_,_,rfl,rfl,k⟩
  ·exists _,rfl,v,false,rfl,.inr ⟨rfl,hb⟩,_,rfl;refine Bp ?_;exact k
theorem FR (h_isinstance:mg "isinstance"=none) (h_len:mg "len"=none) (h_tuple:mg "tuple"=none) {fI:Addr} {fdI:FuncData} (XI:Fn K mg "is_name" Dk ["thing"] fI fdI) (GI:A7 P w K mg base Bq 1 fI fdI ["thing"] (K6 K)) {f:Addr} {fd:FuncData} (F:D6 K "is_row_of" "is_row_of" DH f fd):A7 P w K mg base Bq 2 f fd ["row","place"] (Qw K):=by
 refine F.ok FJ (fun vs H Q E h=>?_) (fun cdv A outer s H vs Q E hr h=>?_)
 ·obtain ⟨v,y,b,rfl,_⟩:=h;rfl
 ·obtain ⟨v,y,b,rfl,hb,k⟩:=h;have nd:=FJ.nd;have big:100000 < sizeLine:=by decide
  exists _,(Ak (A4 (Ca (Aj BN (by rfl) h_isinstance PyProof.Rows.boot_isinstance (Aa (pv 0) (Aa (BI (v:=.ty "tuple") (by rfl) h_tuple PyProof.Rows.boot_tuple rfl) Ac))) (Ca (BS E5 (Aj AH (by rfl) h_len PySem.boot_len (Aa (pv 0) Ac)) Af (AO _)) (Ca (Al GI (hr.mono (by decide)) (by rfl) XI.mg XI.F.kp XI.b .nil Av (Aa (A2 F1 (pv 0) Af (fun _ _=>rfl)) Ac)) (C4 (BS E5 (A2 F1 (pv 0) Af (fun _ _=>rfl)) (pv 1) (AO _))))))))
  rcases hb with ⟨rfl,ty,t1,t2⟩ | ⟨t,us,rfl,ht,hb⟩
  ·exists _,rfl,_,"tuple",_,_,rfl,t1,t2,_,rfl;refine Bp ?_;exact k _ (Ao.refl _)
  ·exists _,rfl,_,"tuple",_,_,rfl,.tup ht,rfl,_,rfl;refine Cr ?_;exists _,rfl,t,_,rfl,.inr (A1.of ht),rfl,_,rfl;rcases hb with ⟨hl,rfl⟩ | ⟨a,p,rfl,hb⟩
   ·have e:decide (V.int (us.length:Int)=V.int 2)=false:=decide_eq_false fun z=>hl (by injection z with z; lia)
    rw [e];refine Bp ?_;exact k _ (Ao.refl _)
   ·refine Cr ?_;rcases hb with ⟨nS,rfl⟩ | ⟨s1,rfl,l1,rfl⟩
    ·refine ⟨_,rfl,t,_,_,_,rfl,rfl,A1.of ht,rfl,_,rfl,.inr ⟨nS,⟨_,rfl,?_⟩⟩⟩;refine Bp ?_;exact k _ (Ao.refl _)
    ·refine ⟨_,rfl,t,_,_,_,rfl,rfl,A1.of ht,rfl,_,rfl,.inl ⟨s1,rfl,l1,fun H1 q1=>⟨_,rfl,?_⟩⟩⟩;cases hn:AY s1 with
     | false=>
      rw [hn] at k;refine Bp ?_;exact k _ q1
     | true=>
      rw [hn] at k;refine Cr ?_;exists _,rfl,t,_,_,_,rfl,rfl,A1.of (q1 _ _ ht),rfl,_,rfl,rfl;have e:decide (V.str s1=V.str y)=(true && decide (s1=y)):=by
       by_cases z:s1=y
       ·subst z; simp
       ·rw [decide_eq_false z,decide_eq_false fun e=>z (by injection e)]; rfl
      rw [e];exact k _ q1
theorem Hk (h_all:mg "all"=none) (h_isinstance:mg "isinstance"=none) (h_len:mg "len"=none) (h_tuple:mg "tuple"=none) (h_zip:mg "zip"=none) {fR:Addr} {fdR:FuncData} (XR:Fn K mg "is_row_of" DH ["row","place"] fR fdR) (GR:A7 P w K mg base Bq 2 fR fdR ["row","place"] (Qw K)) {f:Addr} {fd:FuncData} (F:D6 K "are_rows" "are_rows" Eo f fd):A7 P w K mg base Bq 3 f fd ["thing","places"] (N4 K):=by
 refine F.ok Hd (fun vs H Q E h=>?_) (fun cdv A outer s H vs Q E hr h=>?_)
 ·obtain ⟨v,L,ys,b,rfl,_⟩:=h;rfl
 ·obtain ⟨v,L,ys,b,rfl,hL,l100,hb,k⟩:=h;have nd:=Hd.nd;have big:100000 < sizeLine:=by decide
  refine ⟨_,(Ag (B7 (DL (BL (Cq (Aj BN (by rfl) h_isinstance PyProof.Rows.boot_isinstance (Aa (pv 0) (Aa (BI (v:=.ty "tuple") (by rfl) h_tuple PyProof.Rows.boot_tuple rfl) Ac))))) (CD (AN Hg (Aj AH (by rfl) h_len PySem.boot_len (Aa (pv 0) Ac)) (Aj AH (by rfl) h_len PySem.boot_len (Aa (pv 1) Ac)) (AO _)))).pt
  (Ak (A4 Du))
  AR)
  (Ak (A4 (Aj (BO rfl) (by rfl) h_all PyProof.Rows.boot_all (Aa (Bl (N:=["row","place"]) (σ0:=fun _=>[none,none]) rfl (AJ.plain (by decide +kernel) (by decide +kernel) rfl (by decide +kernel)) (fun σ _=>Bj.none _ _ _ ["row","place"] σ) (NV false (by rfl) h_zip (Aa (pv 0) (Aa (pv 1) Ac)))
   (fun s2 H C fp=>⟨(AW K rfl (n:=2) rfl (Am (Ai (i:=0) (show (["row","place"]:List Str).Nodup by decide +kernel) rfl (Or.inl rfl)) (Am (Ai (i:=1) (show (["row","place"]:List Str).Nodup by decide +kernel) rfl (Or.inl rfl)) AV))),Bd,(Al GR (hr.mono (by decide)) (by rfl) XR.mg XR.F.kp XR.b .nil Av (Aa (pv 0) (Aa (pv 1) Ac)))⟩)) Ac))))),?_⟩
  rcases hb with ⟨rfl,ty,t1,t2⟩ | ⟨t,us,rfl,ht,hb⟩
  ·exists _,rfl,_,"tuple",_,_,rfl,t1,t2,_,rfl;exact k _ (Ao.refl _)
  ·exists _,rfl,_,"tuple",_,_,rfl,.tup ht,rfl,_,rfl;refine Bp ?_;exists _,rfl,t,_,rfl,.inr (A1.of ht),_,rfl,L,_,rfl,.inl (AS.of hL),rfl,_,rfl;rcases hb with ⟨hl,rfl⟩ | ⟨hl,bs,bl,rfl,hrw⟩
   ·have el:(!decide (V.int (us.length:Int)=V.int ((ys.map V.str).length:Int)))=true:=by
     rw [Z0,decide_eq_false fun z=>hl (by injection z with z; lia)];rfl
    rw [el];refine Cr ?_;exact k _ (Ao.refl _)
   ·have el:(!decide (V.int (us.length:Int)=V.int ((ys.map V.str).length:Int)))=false:=by rw [Z0,hl]; simp
    rw [el];refine Bp ?_;exists _,rfl,_,rfl,t,L,rfl,⟨_,A1.of ht⟩,⟨_,AS.of hL⟩
    refine OP (bb:=false) (xs:=us) (ys:=ys.map V.str) (by rw [Z0]; exact hl) (fun D i A3 H' acc=>∃ v0 v1:Option V,A3=[v0,v1]/\Ao H H'/\H' D=some (.lst acc)/\acc=(bs.take i).map V.bl/\acc.length=i)
     (by lia) (fun D hD=>⟨_,_,rfl,Ad hD,Ab,rfl,rfl⟩) (fun D i A3 H' acc hD ⟨v0,v1,_,sa,AQ,_,al⟩=>⟨A1.of (sa _ _ ht),AS.of (sa _ _ hL),AQ,al⟩) ?_ ?_
    ·rintro D i A3 H' acc x' y' T B hD ex ey hT ⟨v0,v1,rfl,sa,AQ,ea,al⟩ hB;have il:i < us.length:=(ZA.mp ex).1;have ec:bs[i]? = some (bs[i]'(by lia)):=Zy (by lia);have ey':ys[i]? = some (ys[i]'(by lia)):=Zy (by lia);rw [Z6,ey'] at ey;cases ey
     have q1:=Ad (o:=.tup [x',.str (ys[i]'(by lia))]) hT;have Zk:(upd H' T (.tup [x',.str (ys[i]'(by lia))])) T=some (.tup [x',.str (ys[i]'(by lia))]):=Ab;exists T,_,rfl,A1.of Zk,rfl,_,_,rfl,_,_,rfl,rfl;refine ⟨_,rfl,_,rfl,x',ys[i]'(by lia),bs[i]'(by lia),rfl,((hrw i _ _ _ ex ey' ec).same sa).same q1,fun H5 s5=>?_⟩;have q5:=q1.trans s5;refine hB _ _ _ (q5 _ _ AQ) ⟨_,_,rfl,fun b o e=>by rw [Ae (Ah e hD)]; exact q5 _ _ (sa _ _ e),Ab,?_,by rw [Z7,al]; rfl⟩;rw [ea,ZH,ec,ZC];rfl
    ·rintro D A3 H' acc hD ⟨v0,v1,rfl,sa,AQ,ea,al⟩;rw [<-bl,ZP] at ea;exact ⟨D,_,rfl,AS.of (by rw [AQ,ea]),k _ sa⟩
theorem Ee  {fA:Addr} {fdA:FuncData} (XA:Fn K mg "are_rows" Eo ["thing","places"] fA fdA) (GA:A7 P w K mg base Bq 3 fA fdA ["thing","places"] (N4 K)) {f:Addr} {fd:FuncData} (F:D6 K "are_folk_rows" "are_folk_rows" BF f fd):A7 P w K mg base Bq 4 f fd ["case","thing"] (K8 K):=by
 refine F.ok Ea (fun vs H Q E h=>?_) (fun cdv A outer s H vs Q E hr h=>?_)
 ·obtain ⟨c,m,n,xs,ws,Aq,As,x,d,v,b,rfl,_⟩:=h;rfl
 ·obtain ⟨c,m,n,xs,ws,Aq,As,x,d,v,b,rfl,cw,hb,k⟩:=h;have nd:=Ea.nd;have big:100000 < sizeLine:=by decide
  refine ⟨_,(Ak (A4 (Al GA (hr.mono (by decide)) (by rfl) XA.mg XA.F.kp XA.b .nil Av (Aa (pv 1) (Aa (Bl (N:=["place","many"]) (σ0:=fun _=>[none,none]) rfl (AJ.plain (by decide +kernel) (by decide +kernel) rfl (by decide +kernel)) (fun σ _=>Bj.none _ _ _ ["place","many"] σ) (Gu (A2 F1 (pv 0) Af (fun _ _=>rfl)))
   (fun s2 H C fp=>⟨(AW K rfl (n:=2) rfl (Am (Ai (i:=0) (show (["place","many"]:List Str).Nodup by decide +kernel) rfl (Or.inl rfl)) (Am (Ai (i:=1) (show (["place","many"]:List Str).Nodup by decide +kernel) rfl (Or.inl rfl)) AV))),Bd,(pv 0)⟩)) Ac))))),?_⟩
  obtain ⟨t1,t2,DV,Fv,hc,Fi,F3,Eu,hd2⟩:=cw.ex;have ul:=A9 hd2;have l2:=cw.l2;exists _,rfl,_,rfl,c,_,_,_,rfl,rfl,A1.of hc,rfl,t2,rfl,⟨_,A1.of Eu⟩
  refine Br Bv (xs:=Fv) (fun D i A3 H' acc=>∃ v0 v1:Option V,A3=[v0,v1]/\Ao H H'/\H' D=some (.lst acc)/\acc=((As.map (·.1)).take i).map V.str/\acc.length=i)
   (by lia) (fun D hD=>⟨_,_,rfl,Ad hD,Ab,rfl,rfl⟩) (fun D i A3 H' acc hD ⟨v0,v1,_,sa,AQ,_,al⟩=>⟨A1.of (sa _ _ Eu),AQ,al⟩) ?_ ?_
  ·rintro D i A3 H' acc x' B hD ex ⟨v0,v1,rfl,sa,AQ,ea,al⟩ hB;obtain ⟨q,tt,eq,rfl,htt⟩:=Bc hd2 ex;exists tt,_,rfl,A1.of (sa _ _ htt),rfl,_,_,rfl,_,_,rfl,rfl;refine ⟨_,rfl,hB _ _ _ AQ ⟨_,_,rfl,fun b o e=>by rw [Ae (Ah e hD)]; exact sa _ _ e,Ab,?_,by rw [Z7,al]; rfl⟩⟩;rw [ea,ZH,Z6,eq,ZC];rfl
  ·rintro D A3 H' acc hD ⟨v0,v1,rfl,sa,AQ,ea,al⟩;refine ⟨v,D,As.map (·.1),b,rfl,?_,by rw [Z0]; lia,hb.same sa,fun H2 s2=>k _ (sa.trans s2)⟩;have e:Fv.length=(As.map (·.1)).length:=by rw [Z0]; exact ul
   rw [AQ,ea,e,ZP]
theorem JB (h_all:mg "all"=none) {fO:Addr} {fdO:FuncData} (XO:Fn K mg "are_folk_rows" BF ["case","thing"] fO fdO) (GO:A7 P w K mg base Bq 4 fO fdO ["case","thing"] (K8 K)) {fF:Addr} {fdF:FuncData} (XF:Fn K mg "is_whole_from" BE ["thing","least"] fF fdF) (GF:A7 P w K mg base Bq 2 fF fdF ["thing","least"] (Gn K)) {f:Addr} {fd:FuncData} (F:D6 K "are_prices" "are_prices" De f fd):A7 P w K mg base Bq 5 f fd ["case","thing"] (T5 K):=by
 refine F.ok Ft (fun vs H Q E h=>?_) (fun cdv A outer s H vs Q E hr h=>?_)
 ·obtain ⟨c,m,n,xs,ws,Aq,As,x,d,v,b,rfl,_⟩:=h;rfl
 ·obtain ⟨c,m,n,xs,ws,Aq,As,x,d,v,b,rfl,cw,hb,k⟩:=h;have nd:=Ft.nd;have big:100000 < sizeLine:=by decide
  refine ⟨_,(Ak (A4 (Ca (Al GO (hr.mono (by decide)) (by rfl) XO.mg XO.F.kp XO.b .nil Av (Aa (pv 0) (Aa (pv 1) Ac))) (C4 (Aj (BO rfl) (by rfl) h_all PyProof.Rows.boot_all (Aa (Bl (N:=["place","price"]) (σ0:=fun _=>[none,none]) rfl (AJ.plain (by decide +kernel) (by decide +kernel) rfl (by decide +kernel)) (fun σ _=>Bj.none _ _ _ ["place","price"] σ) (Gu (pv 1))
   (fun s2 H C fp=>⟨(AW K rfl (n:=2) rfl (Am (Ai (i:=0) (show (["place","price"]:List Str).Nodup by decide +kernel) rfl (Or.inl rfl)) (Am (Ai (i:=1) (show (["place","price"]:List Str).Nodup by decide +kernel) rfl (Or.inl rfl)) AV))),Bd,(Al GF (hr.mono (by decide)) (by rfl) XF.mg XF.F.kp XF.b .nil Av (Aa (pv 1) (Aa Af Ac)))⟩)) Ac)))))),?_⟩
  rcases hb with ⟨rfl,hb⟩ | ⟨t,us,rfl,ht,hl,bs,bl,rfl,hrw⟩
  ·refine ⟨_,rfl,_,rfl,c,m,n,xs,ws,Aq,As,x,d,v,false,rfl,cw,hb,fun H1 s1=>⟨_,rfl,?_⟩⟩;refine Bp ?_;exact k _ s1
  ·have l2:=cw.l2;rw [Z0] at hl;have rows:Ez K H (.ref t) (As.map (·.1)) true:=.inr ⟨t,us,rfl,ht,.inr ⟨by rw [Z0]; exact hl,us.map fun _=>true,by rw [Z0],by rw [aW]; exact (aj.mpr fun _ _=>rfl).symm,fun i u y c' a1 a2 a3=>by
    have il:i < us.length:=(ZA.mp a1).1;obtain ⟨tt,p,rfl,htt,_⟩:=hrw i u y (bs[i]'(by lia)) a1 a2 (Zy (by lia));rw [Z6,a1] at a3;cases a3
    rw [Z6] at a2;cases er:As[i]? with
    | none=>rw [er] at a2; cases a2
    | some r=>
     rw [er] at a2;cases a2
     exact Gf.right (cw.map.at'.nm _ (cw.ok2.sub r (Z2 er))) htt⟩⟩
   refine ⟨_,rfl,_,rfl,c,m,n,xs,ws,Aq,As,x,d,.ref t,true,rfl,cw,rows,fun H1 s1=>⟨_,rfl,?_⟩⟩;refine Cr ?_;exists _,rfl,t,rfl,⟨_,A1.of (s1 _ _ ht)⟩
   refine Br Bv (xs:=us) (fun D i A3 H' acc=>∃ v0 v1:Option V,A3=[v0,v1]/\Ao H1 H'/\H' D=some (.lst acc)/\acc=(bs.take i).map V.bl/\acc.length=i)
    (by lia) (fun D hD=>⟨_,_,rfl,Ad hD,Ab,rfl,rfl⟩) (fun D i A3 H' acc hD ⟨v0,v1,_,sa,AQ,_,al⟩=>⟨A1.of (sa _ _ (s1 _ _ ht)),AQ,al⟩) ?_ ?_
   ·rintro D i A3 H' acc x' B hD ex ⟨v0,v1,rfl,sa,AQ,ea,al⟩ hB;have il:i < us.length:=(ZA.mp ex).1;have ec:bs[i]? = some (bs[i]'(by lia)):=Zy (by lia);obtain ⟨tt,p,rfl,htt,np⟩:=hrw i x' ((As[i]'(by lia)).1) (bs[i]'(by lia)) ex (by rw [Z6,Zy (by lia)]; rfl) ec;exists tt,_,rfl,A1.of (sa _ _ (s1 _ _ htt)),rfl,_,_,rfl,_,_,rfl,rfl;refine ⟨_,rfl,p,0,bs[i]'(by lia),rfl,(np.same s1).same sa,hB _ _ _ AQ ⟨_,_,rfl,fun b o e=>by rw [Ae (Ah e hD)]; exact sa _ _ e,Ab,?_,by rw [Z7,al]; rfl⟩⟩;rw [ea,ZH,ec,ZC];rfl
   ·rintro D A3 H' acc hD ⟨v0,v1,rfl,sa,AQ,ea,al⟩;rw [<-bl,ZP] at ea;exact ⟨D,_,rfl,AS.of (by rw [AQ,ea]),k _ (s1.trans sa)⟩
theorem MR  {fF:Addr} {fdF:FuncData} (XF:Fn K mg "is_whole_from" BE ["thing","least"] fF fdF) (GF:A7 P w K mg base Bq 2 fF fdF ["thing","least"] (Gn K)) {f:Addr} {fd:FuncData} (F:D6 K "is_levy" "is_levy" Fd f fd):A7 P w K mg base Bq 3 f fd ["case","thing"] (NC K):=by
 refine F.ok Iy (fun vs H Q E h=>?_) (fun cdv A outer s H vs Q E hr h=>?_)
 ·obtain ⟨c,m,n,xs,ws,Aq,As,x,d,v,b,rfl,_⟩:=h;rfl
 ·obtain ⟨c,m,n,xs,ws,Aq,As,x,d,v,b,rfl,cw,hb,k⟩:=h;have nd:=Iy.nd;have big:100000 < sizeLine:=by decide
  exists _,(Ak (A4 (Ca (Al GF (hr.mono (by decide)) (by rfl) XF.mg XF.F.kp XF.b .nil Av (Aa (pv 1) (Aa Af Ac))) (C4 (TU (IE (FP (A2 F1 (pv 0) Af (fun _ _=>rfl)))) (C4 (BS E5 (pv 1) Af (AO _))))))))
  obtain ⟨t1,t2,DV,Fv,hc,Fi,F3,Eu,hd2⟩:=cw.ex;rcases hb with ⟨rfl,hb⟩ | ⟨lv,rfl,l0,rfl⟩
  ·exists _,rfl,v,0,false,rfl,hb,_,rfl;refine Bp ?_;exact k
  ·exists _,rfl,.int lv,0,true,rfl,.inl ⟨lv,rfl,(decide_eq_true l0).symm⟩,_,rfl;refine Cr ?_;exists _,rfl,c,_,_,_,rfl,rfl,A1.of hc,rfl,_,rfl;rcases cw.lim with ⟨rfl,_⟩ | ⟨j,rfl,_⟩
   ·refine Bp ?_;exists _,rfl,rfl;have e:decide (V.int lv=V.int 0)=(!decide (V.non=V.non) || decide (lv=0)):=by
     rw [decide_eq_true (rfl:V.non=V.non)];by_cases z:lv=0
     ·subst z; simp
     ·rw [decide_eq_false z,decide_eq_false fun e=>z (by injection e)]; rfl
    rw [e];exact k
   ·refine Cr ?_;have e:(!decide (V.int j=V.non) || decide (lv=0))=true:=by
     have ne:¬ V.int j=V.non:=by intro e; cases e
     rw [decide_eq_false ne];rfl
    rw [e] at k;exact k
theorem Rk  {fP:Addr} {fdP:FuncData} (XP:Fn K mg "are_prices" De ["case","thing"] fP fdP) (GP:A7 P w K mg base Bq 5 fP fdP ["case","thing"] (T5 K)) {fL:Addr} {fdL:FuncData} (XL:Fn K mg "is_levy" Fd ["case","thing"] fL fdL) (GL:A7 P w K mg base Bq 3 fL fdL ["case","thing"] (NC K)) {fSF:Addr} {fdSF:FuncData} (XSF:Fn K mg "site_fars" DE ["case"] fSF fdSF) (GSF:A7 P w K mg base Bq 4 fSF fdSF ["case"] Im) {fB:Addr} {fdB:FuncData} (XB:Fn K mg "stand_by" Ek ["case","aways","prices","levy"] fB fdB) (GB:A7 P w K mg base Bq 2 fB fdB ["case","aways","prices","levy"] JW) {f:Addr} {fd:FuncData} (F:D6 K "stand" "stand" HQ f fd):A7 P w K mg base Bq 6 f fd ["case","prices","levy"] (L9 K):=by
 refine F.ok LI (fun vs H Q E h=>?_) (fun cdv A outer s H vs Q E hr h=>?_)
 ·obtain ⟨c,m,n,xs,ws,Aq,As,x,d,v,l,rfl,_⟩:=h;rfl
 ·obtain ⟨c,m,n,xs,ws,Aq,As,x,d,v,l,rfl,cw,k⟩:=h;have nd:=LI.nd;have big:100000 < sizeLine:=by decide
  refine ⟨_,(Ag (B7 (DL (BL (Cq (Al GP (hr.mono (by decide)) (by rfl) XP.mg XP.F.kp XP.b .nil Av (Aa (pv 0) (Aa (pv 1) Ac))))) (CD (BL (Cq (Al GL (hr.mono (by decide)) (by rfl) XL.mg XL.F.kp XL.b .nil Av (Aa (pv 0) (Aa (pv 2) Ac))))))).pt
  (Ak (A4 Du))
  AR)
  (Ak (A4 (Al GB (hr.mono (by decide)) (by rfl) XB.mg XB.F.kp XB.b .nil Av (Aa (pv 0) (Aa (Al GSF (hr.mono (by decide)) (by rfl) XSF.mg XSF.F.kp XSF.b .nil Av (Aa (pv 0) Ac)) (Aa (pv 1) (Aa (pv 2) Ac)))))))),?_⟩
  rcases k with ⟨hb,k⟩ | ⟨t,qs,rfl,cp,k⟩
  ·refine ⟨_,rfl,_,rfl,c,m,n,xs,ws,Aq,As,x,d,v,false,rfl,cw,hb,fun H1 s1=>⟨_,rfl,?_⟩⟩;exact k _ s1
  ·refine ⟨_,rfl,_,rfl,c,m,n,xs,ws,Aq,As,x,d,.ref t,true,rfl,cw,cp.prices,fun H1 s1=>⟨_,rfl,?_⟩⟩;refine Bp ?_;rcases k with ⟨hb,k⟩ | ⟨lv,rfl,hb,k⟩
   ·exists _,rfl,_,rfl,c,m,n,xs,ws,Aq,As,x,d,l,false,rfl,cw.same s1,hb.same s1,_,rfl;exact k _ s1
   ·exists _,rfl,_,rfl,c,m,n,xs,ws,Aq,As,x,d,.int lv,true,rfl,cw.same s1,hb.same s1,_,rfl;refine Bp ?_;refine ⟨_,rfl,_,rfl,c,m,n,xs,ws,Aq,As,x,d,rfl,cw.same s1,fun H2 D nv s2 hD AQ ks fs=>?_⟩;have OJ:=s1.trans s2;exact ⟨_,rfl,_,rfl,c,m,t,D,n,xs,ws,Aq,As,qs,x,d,lv,rfl,cp.same OJ,⟨nv,AQ,ks,fs⟩,fun H3 s3=>k _ (OJ.trans s3)⟩
end
section
variable {P:Program} {w:World} {K:Z1} {mg:Str->Option Value} {base:Heap}
theorem JA (h_all:mg "all"=none) (h_list:mg "list"=none) (h_sorted:mg "sorted"=none) (h_set:mg "set"=none) {fN:Addr} {fdN:FuncData} (XN:Fn K mg "is_name" Dk ["thing"] fN fdN) (GN:A7 P w K mg base Bq 1 fN fdN ["thing"] (K6 K)) {f:Addr} {fd:FuncData} (F:D6 K "are_rising" "are_rising" Dd f fd):A7 P w K mg base Bq 2 f fd ["things"] (LB K):=by
 refine F.ok Fs (fun vs H Q E h=>?_) (fun cdv A outer s H vs Q E hr h=>?_)
 ·obtain ⟨t,xs,ds,rfl,_⟩:=h;rfl
 ·obtain ⟨t,xs,ds,rfl,ht,dx,short,few,k⟩:=h;have nd:=Fs.nd;have Ja:=hr.units;have big:100000 < sizeLine:=by decide
  refine ⟨_,(Ak (A4 (Ca (Aj (BO rfl) (by rfl) h_all PyProof.Rows.boot_all (Aa (Bl (N:=["thing"]) (σ0:=fun _=>[none]) rfl (AJ.plain (by decide +kernel) (by decide +kernel) rfl (by decide +kernel)) (fun σ _=>Bj.none _ _ _ ["thing"] σ) (UQ (pv 0))
   (fun s2 H C fp=>⟨Ai (i:=0) (show (["thing"]:List Str).Nodup by decide +kernel) rfl (Or.inl rfl),Bd,(Al GN (hr.mono (by decide)) (by rfl) XN.mg XN.F.kp XN.b .nil Av (Aa (pv 0) Ac))⟩)) Ac))
   (C4 (BS (Pc Ja) (AF Ga (by rfl) h_list PyProof.Rows.boot_list (Aa (pv 0) Ac)) (Aj (HN rfl) (by rfl) h_sorted PyProof.Rows.boot_sorted (Aa (AF (Mp K rfl rfl) (by rfl) h_set PyProof.Rows.boot_set (Aa (pv 0) Ac)) Ac)) (AO _)))))),?_⟩
  have seq:∀ H',Ao H H'->AS K H' t xs\/A1 K H' t xs:=fun H' sa=>ht.imp (fun z=>AS.of (sa _ _ z)) (fun z=>A1.of (sa _ _ z))
  have dl:=dx.len;exists _,rfl,t,rfl;rcases ht with ht | ht
  ·refine .inl ⟨⟨_,AS.of ht⟩,Br Dm (xs:=xs) (fun D i σ H' acc=>∃ v0:Option V,σ=[v0]/\Ao H H'/\H' D=some (.lst acc)/\acc=((ds.take i).map Hm).map V.bl/\acc.length=i)
    (by lia) (fun D hD=>⟨_,rfl,Ad hD,Ab,rfl,rfl⟩) (fun D i σ H' acc hD ⟨v0,_,sa,AQ,_,al⟩=>⟨AS.of (sa _ _ ht),AQ,al⟩) ?_ ?_⟩
   ·rintro D i σ H' acc x B hD ex ⟨v0,rfl,sa,AQ,rfl,al⟩ hB;obtain ⟨d,ed,hd⟩:=dx.at ex;have Lf:=hd.same sa;have step:∀ H5,Ao H' H5->B [some x] (.bl (Hm d)) H5:=fun H5 s5=>by
     refine hB _ _ _ (s5 _ _ AQ) ⟨_,rfl,fun b o e=>?_,Ab,?_,by rw [Z7,al]; rfl⟩
     ·rw [Ae (Ah e hD)];exact s5 _ _ (sa _ _ e)
     ·rw [ZH,ed,ZC,ZC];rfl
    exists _,rfl,x,rfl;cases d with
    | str y=>
     cases hd
     exact .inl ⟨y,rfl,short y (Z2 ed),step⟩
    | _=>exact .inr ⟨Lf.notStr (fun s=>by intro z; cases z),step _ (Ao.refl _)⟩
   ·rintro D σ H' acc hD ⟨v0,rfl,sa,AQ,rfl,al⟩;rw [dl,ZP] at AQ;exists D,ds.map Hm,rfl,AS.of AQ,_,rfl;refine CA (fun z=>?_) (fun z=>?_)
    ·obtain ⟨ss,rfl,hn⟩:=Gx z;obtain rfl:=dx.txt;rw [Z0] at few;refine ⟨_,rfl,t,_,rfl,seq _ sa,fun l hl=>?_⟩;have s1:=Ad (o:=.lst (ss.map V.str)) hl;refine ⟨_,rfl,t,ss,rfl,seq _ (sa.trans s1),by lia,fun D2 RU=>⟨D2,ss,rfl,Ab,by lia,fun l2 DW Jw Wr MS srt=>?_⟩⟩;have s2:=Ad (o:=setS P w D2 ss) RU;have s3:=Ad (o:=.lst (DW.map V.str)) Jw;exists _,_,.lst (s3 _ _ (s2 _ _ Ab)) (CJ _ ss),.lst Ab (CJ _ DW),by simp only [PyData.canLay0]; exact EL hn,by simp only [PyData.canLay0]; exact EL (fun s hs=>hn s ((MS s).mp hs)),?_
     ·simp only [PyData.depth,F4];decide
     ·refine k _ _ (sa.trans (s1.trans (s2.trans s3))) ?_;rw [Mk];exists fun e=>⟨ss,rfl,hn,(Ep Wr MS srt).mp (EX e)⟩
      rintro ⟨s5,e5,_,r5⟩;obtain rfl:=EX e5;rw [(Ep Wr MS srt).mpr r5]
    ·refine k _ _ sa ⟨fun q=>absurd q (by decide),fun ⟨ss,e,hn,_⟩=>?_⟩;rw [e] at z;exact absurd (Ky hn) z
  ·refine .inr ⟨⟨_,A1.of ht⟩,Br Bv (xs:=xs) (fun D i σ H' acc=>∃ v0:Option V,σ=[v0]/\Ao H H'/\H' D=some (.lst acc)/\acc=((ds.take i).map Hm).map V.bl/\acc.length=i)
    (by lia) (fun D hD=>⟨_,rfl,Ad hD,Ab,rfl,rfl⟩) (fun D i σ H' acc hD ⟨v0,_,sa,AQ,_,al⟩=>⟨A1.of (sa _ _ ht),AQ,al⟩) ?_ ?_⟩
   ·rintro D i σ H' acc x B hD ex ⟨v0,rfl,sa,AQ,rfl,al⟩ hB;obtain ⟨d,ed,hd⟩:=dx.at ex;have Lf:=hd.same sa;have step:∀ H5,Ao H' H5->B [some x] (.bl (Hm d)) H5:=fun H5 s5=>by
     refine hB _ _ _ (s5 _ _ AQ) ⟨_,rfl,fun b o e=>?_,Ab,?_,by rw [Z7,al]; rfl⟩
     ·rw [Ae (Ah e hD)];exact s5 _ _ (sa _ _ e)
     ·rw [ZH,ed,ZC,ZC];rfl
    exists _,rfl,x,rfl;cases d with
    | str y=>
     cases hd
     exact .inl ⟨y,rfl,short y (Z2 ed),step⟩
    | _=>exact .inr ⟨Lf.notStr (fun s=>by intro z; cases z),step _ (Ao.refl _)⟩
   ·rintro D σ H' acc hD ⟨v0,rfl,sa,AQ,rfl,al⟩;rw [dl,ZP] at AQ;exists D,ds.map Hm,rfl,AS.of AQ,_,rfl;refine CA (fun z=>?_) (fun z=>?_)
    ·obtain ⟨ss,rfl,hn⟩:=Gx z;obtain rfl:=dx.txt;rw [Z0] at few;refine ⟨_,rfl,t,_,rfl,seq _ sa,fun l hl=>?_⟩;have s1:=Ad (o:=.lst (ss.map V.str)) hl;refine ⟨_,rfl,t,ss,rfl,seq _ (sa.trans s1),by lia,fun D2 RU=>⟨D2,ss,rfl,Ab,by lia,fun l2 DW Jw Wr MS srt=>?_⟩⟩;have s2:=Ad (o:=setS P w D2 ss) RU;have s3:=Ad (o:=.lst (DW.map V.str)) Jw;exists _,_,.lst (s3 _ _ (s2 _ _ Ab)) (CJ _ ss),.lst Ab (CJ _ DW),by simp only [PyData.canLay0]; exact EL hn,by simp only [PyData.canLay0]; exact EL (fun s hs=>hn s ((MS s).mp hs)),?_
     ·simp only [PyData.depth,F4];decide
     ·refine k _ _ (sa.trans (s1.trans (s2.trans s3))) ?_;rw [Mk];exists fun e=>⟨ss,rfl,hn,(Ep Wr MS srt).mp (EX e)⟩
      rintro ⟨s5,e5,_,r5⟩;obtain rfl:=EX e5;rw [(Ep Wr MS srt).mpr r5]
    ·refine k _ _ sa ⟨fun q=>absurd q (by decide),fun ⟨ss,e,hn,_⟩=>?_⟩;rw [e] at z;exact absurd (Ky hn) z
end
section
variable {P:Program} {w:World} {K:Z1} {mg:Str->Option Value} {base:Heap}
theorem IG (h_len:mg "len"=none) (h_min:mg "min"=none) {f:Addr} {fd:FuncData} (F:D6 K "most_houses" "most_houses" CK f fd):A7 P w K mg base Bq 1 f fd ["case"] Q0:=by
 refine F.ok ED (fun vs H Q E h=>?_) (fun cdv A outer s H vs Q E hr h=>?_)
 ·obtain ⟨c,sites,x,d,rfl,_⟩:=h;rfl
 ·obtain ⟨c,sites,x,d,rfl,cs,k⟩:=h;have nd:=ED.nd;have big:100000 < sizeLine:=by decide
  refine ⟨_,(Ag (DP (pv 0) (AW K rfl rfl (Am (Ai (i:=1) nd rfl (Or.inl rfl)) (Am (Ai (i:=2) nd rfl (Or.inl rfl)) (Am (Ai (i:=3) nd rfl (Or.inl rfl)) (Am (Ai (i:=4) nd rfl (Or.inl rfl)) AV))))))
  (Ak (A4 (QW (IB (MJ (pv 4))) (Aj (AK K rfl) (by rfl) h_len PySem.boot_len (Aa (pv 2) Ac)) (Aj (Kt rfl) (by rfl) h_min PyProof.Rows.boot_min (Aa (pv 4) (Aa (Aj (AK K rfl) (by rfl) h_len PySem.boot_len (Aa (pv 2) Ac)) Ac))))))),?_⟩
  obtain ⟨mV,t2V,t1,DV,Aq,hc,Fi,F3,rfl,snd,sl,lim⟩:=cs;have ul:=A9 F3;exists _,rfl,c,_,rfl,A1.of hc,rfl,_,_,rfl,_,_,rfl,_,_,rfl,_,_,rfl,rfl;exists _,rfl,_,rfl;rcases lim with ⟨rfl,_⟩ | ⟨lm,rfl,_,lm1,lm2⟩
  ·refine CA (fun _=>?_) (fun z=>by simp at z);exists _,rfl,t1,_,rfl,.inr (A1.of Fi);refine k _ (by lia) fun j hj=>?_
   rw [Z0] at hj;simp only [HF,iff_true];lia
  ·refine CA (fun z=>by simp at z) (fun _=>?_);exists _,rfl,_,rfl,t1,_,rfl,.inr (A1.of Fi),_,_,rfl;refine k _ (by split <;> lia) fun j hj=>?_
   rw [Z0] at hj;simp only [HF,decide_eq_true_eq];split <;> lia
end
section
variable {P:Program} {w:World} {K:Z1} {mg:Str->Option Value} {base:Heap}
theorem J9 (h_all:mg "all"=none) (h_dict:mg "dict"=none) (h_isinstance:mg "isinstance"=none) (h_len:mg "len"=none) (h_tuple:mg "tuple"=none) {fM fR:Addr} {fdM fdR:FuncData} (XM:Fn K mg "most_houses" CK ["case"] fM fdM) (GM:A7 P w K mg base Bq 1 fM fdM ["case"] Q0) (XR:Fn K mg "are_rising" Dd ["things"] fR fdR) (GR:A7 P w K mg base Bq 2 fR fdR ["things"] (LB K)) {f:Addr} {fd:FuncData} (F:D6 K "is_opening" "is_opening" Dc f fd):A7 P w K mg base Bq 3 f fd ["case","thing"] (NG K):=by
 refine F.ok Fq (fun vs H Q E h=>?_) (fun cdv A outer s H vs Q E hr h=>?_)
 ·obtain ⟨c,sites,x,d,v,rfl,_⟩:=h;rfl
 ·obtain ⟨c,sites,x,d,v,rfl,cs,k⟩:=h;have nd:=Fq.nd;have hu:=CV hr;have big:1000 < sizeLine:=by decide
  refine ⟨_,(Ag (B7 (DL (BL (Cq (Aj BN (by rfl) h_isinstance PyProof.Rows.boot_isinstance (Aa (pv 1) (Aa (BI (v:=.ty "tuple") (by rfl) h_tuple PyProof.Rows.boot_tuple rfl) Ac))))) (CD (BL (IC Kh Kh Af (Aj AH (by rfl) h_len PySem.boot_len (Aa (pv 1) Ac)) (Al GM (hr.mono (by decide)) (by rfl) XM.mg XM.F.kp XM.b .nil Av (Aa (pv 0) Ac)))))).pt
  (Ak (A4 Du))
  AR)
  (Ag (Ap (i:=2) nd rfl (Or.inr rfl) (AF (BU rfl) (by rfl) h_dict PyProof.Rows.boot_dict (Aa (A2 F1 (pv 0) Af (fun _ _=>rfl)) Ac)))
  (Ak (A4 (Ca (Al GR (hr.mono (by decide)) (by rfl) XR.mg XR.F.kp XR.b .nil Av (Aa (pv 1) Ac)) (C4 (Aj (BO rfl) (by rfl) h_all PyProof.Rows.boot_all (Aa (Bl (N:=["place","sites"]) (σ0:=fun σ=>[none,some 2].map fun j=>j.bind fun j=>(σ[j]?).join) rfl (AJ.caught (by rfl) (by decide +kernel) rfl (by decide +kernel) (by intro y hy; simp only [Z3,Z8,or_false] at hy; rcases hy with rfl <;> rfl)
   (by intro y hy e; simp only [Z3,Z8,or_false] at hy; rcases hy with rfl | rfl | rfl <;> first | exact ⟨_,rfl⟩ | cases e)) (fun σ _=>Bj.of [none,some 2] rfl (by
   intro i j x h1 h2;match i,h1,h2 with
   | 0,_,h2=>cases h2
   | 1,h1,h2=>cases h1; cases h2; exact ⟨rfl,.inl rfl,.inl rfl⟩
   | n + 2,h1,_=>cases h1)) (Gu (pv 1))
   (fun s2 H C fp=>⟨(Ai (i:=0) (show (["place","sites"]:List Str).Nodup by decide +kernel) rfl (Or.inl rfl)),Bd,(IE (UW hu (pv 0) (pv 1)))⟩)) Ac)))))))),?_⟩
  rcases k with ⟨ds,⟨t,xs,rfl,ht,dx,short,few⟩,k⟩ | ⟨⟨ty,t1,t2⟩,k⟩
  ·exists _,rfl,_,"tuple",_,_,rfl,.tup ht,rfl,_,rfl;refine Bp ?_;exists _,rfl,t,_,rfl,.inr (A1.of ht),_,_,rfl,rfl,_,rfl;have dl:=dx.len;refine CA (fun z1=>?_) (fun z1=>?_)
   ·refine ⟨_,rfl,c,sites,x,d,rfl,cs,fun mo mo0 mok=>?_⟩;obtain ⟨mV,t2V,t1,DV,Aq,hc,Fi,F3,rfl,snd,sl,lim⟩:=cs;have ul:=A9 F3;have lens:∀ ss:List Str,Cu ss->(∀ s ∈ ss,AY s=true/\s ∈ Aq.map (·.1))->ss.length<=(Aq.map (·.1)).length:=fun ss ri h=>List.Nodup.length_le_of_subset ri.nodup fun s hs=>(h s hs).2
    rw [Z0] at sl;exists _,_,rfl,rfl,_,rfl;refine CA (fun z2=>?_) (fun z2=>?_)
    ·refine k _ _ (Ao.refl _) ⟨fun q=>absurd q (by decide),fun ⟨ss,e,_,ri,mem,lb⟩=>?_⟩;have:=(mok _ (lens ss ri mem)).mpr lb;rw [dl,e,Z0] at z2;simp [this] at z2
    ·have z3:(xs.length:Int)<=mo:=by simpa using z2
     refine ⟨_,rfl,c,_,_,_,rfl,rfl,A1.of hc,rfl,t1,DV,BR Aq,rfl,Fi,by unfold BR; rw [Z0]; exact ul,HS F3,by rw [Dl]; exact snd,by unfold BR; rw [Z0]; lia,fun B hB=>?_⟩;have s1:=Ad (o:=.dK (sK (BR Aq))) hB;have R8:(upd H B (.dK (sK (BR Aq)))) B=some (.dK (sK (BR Aq))):=Ab;generalize upd H B (.dK (sK (BR Aq)))=H1 at s1 R8;refine ⟨_,rfl,t,xs,ds,rfl,.inr (s1 _ _ ht),dx.mono (fun a o e _=>s1 a o e),short,few,fun b H2 s2 hb=>⟨_,rfl,?_⟩⟩;refine CA (fun z=>?_) (fun z=>?_)
     ·obtain ⟨ss,rfl,hn,ri⟩:=hb.mp z;obtain rfl:=dx.txt;rw [Z0] at few z1 z3;have ne:ss ≠ []:=fun e=>by subst e; simp at z1
      have Zm:=s2 _ _ R8;have Eu:=s2 _ _ (s1 _ _ ht);exists _,rfl,t,rfl,⟨_,A1.of Eu⟩
      refine Br Bv (xs:=ss.map V.str) (fun D i σ H' acc=>∃ v0:Option V,σ=[v0,some (.ref B)]/\Ao H2 H'/\H' D=some (.lst acc)/\acc=((ss.take i).map fun y=>decide (y ∈ Aq.map (·.1))).map V.bl/\acc.length=i)
       (by rw [Z0]; lia) (fun D hD=>⟨_,rfl,Ad hD,Ab,rfl,rfl⟩) (fun D i σ H' acc hD ⟨v0,_,sa,AQ,_,al⟩=>⟨A1.of (sa _ _ Eu),AQ,al⟩) ?_ ?_
      ·rintro D i σ H' acc x' Bk hD ex ⟨v0,rfl,sa,AQ,rfl,al⟩ hBk;obtain ⟨y,ey,rfl⟩:∃ y,ss[i]? = some y/\x'=.str y:=by
        rw [Z6] at ex;cases q:ss[i]? with
        | none=>rw [q] at ex; cases ex
        | some y=>rw [q] at ex; exact ⟨y,rfl,(ZR.inj ex).symm⟩
       exists _,rfl,_,rfl,B,_,rfl,Cw.k (k:=Sum.inr y) (sa _ _ Zm);rw [He,Dl];refine hBk _ _ _ AQ ⟨_,rfl,fun b o e=>?_,Ab,?_,by rw [Z7,al]; rfl⟩
       ·rw [Ae (Ah e hD)];exact sa _ _ e
       ·rw [ZH,ey,ZC,ZC];rfl
      ·rintro D σ H' acc hD ⟨v0,rfl,sa,AQ,rfl,al⟩;rw [Z0,ZP] at AQ;exists D,_,rfl,AS.of AQ;refine k _ _ (s1.trans (s2.trans sa)) ?_;rw [aW,aj];constructor
       ·intro h;have mem:∀ s ∈ ss,AY s=true/\s ∈ Aq.map (·.1):=fun y hy=>⟨hn y hy,by simpa using h y hy⟩
        exact ⟨ss,rfl,ne,ri,mem,(mok _ (lens ss ri mem)).mp z3⟩
       ·rintro ⟨s5,e5,_,_,mem,_⟩ y hy;rw [EX e5] at hy;simpa using (mem y hy).2
     ·refine k _ _ (s1.trans s2) ⟨fun q=>absurd q (by decide),fun ⟨ss,e,_,ri,mem,_⟩=>absurd (hb.mpr ⟨ss,e,fun y hy=>(mem y hy).1,ri⟩) z⟩
   ·exists _,rfl;refine Cr ?_;refine k _ _ (Ao.refl _) ⟨fun q=>absurd q (by decide),fun ⟨ss,e,ne,_⟩=>?_⟩;rw [dl,e,Z0,decide_eq_true_eq] at z1;exact absurd (aU.mp (by lia)) ne
  ·exists _,rfl,_,"tuple",_,_,rfl,t1,t2,_,rfl;exact k _ (Ao.refl _)
theorem JC (h_all:mg "all"=none) {fO:Addr} {fdO:FuncData} (XO:Fn K mg "are_folk_rows" BF ["case","thing"] fO fdO) (GO:A7 P w K mg base Bq 4 fO fdO ["case","thing"] (K8 K)) {fI:Addr} {fdI:FuncData} (XI:Fn K mg "is_name" Dk ["thing"] fI fdI) (GI:A7 P w K mg base Bq 1 fI fdI ["thing"] (K6 K)) {f:Addr} {fd:FuncData} (F:D6 K "are_goings" "are_goings" Df f fd):A7 P w K mg base Bq 5 f fd ["case","opening","thing"] (T6 K):=by
 refine F.ok Fu (fun vs H Q E h=>?_) (fun cdv A outer s H vs Q E hr h=>?_)
 ·obtain ⟨c,m,o,n,xs,ws,Aq,As,x,d,ss,v,b,rfl,_⟩:=h;rfl
 ·obtain ⟨c,m,o,n,xs,ws,Aq,As,x,d,ss,v,b,rfl,cw,ho,hb,k⟩:=h;have nd:=Fu.nd;have big:100000 < sizeLine:=by decide
  refine ⟨_,(Ak (A4 (Ca (Al GO (hr.mono (by decide)) (by rfl) XO.mg XO.F.kp XO.b .nil Av (Aa (pv 0) (Aa (pv 2) Ac))) (C4 (Aj (BO rfl) (by rfl) h_all PyProof.Rows.boot_all (Aa (Bl (N:=["place","house","opening"]) (σ0:=fun σ=>[none,none,some 1].map fun j=>j.bind fun j=>(σ[j]?).join) rfl (AJ.caught (by rfl) (by decide +kernel) rfl (by decide +kernel) (by intro y hy; simp only [Z3,Z8,or_false] at hy; rcases hy with rfl <;> rfl)
   (by intro y hy e; simp only [Z3,Z8,or_false] at hy; rcases hy with rfl | rfl | rfl | rfl | rfl <;> first | exact ⟨_,rfl⟩ | cases e)) (fun σ _=>Bj.of [none,none,some 1] rfl (by
   intro i j x h1 h2;match i,h1,h2 with
   | 0,_,h2=>cases h2
   | 1,_,h2=>cases h2
   | 2,h1,h2=>cases h1; cases h2; exact ⟨rfl,.inl rfl,.inl rfl⟩
   | n + 3,h1,_=>cases h1)) (Bi K rfl (pv 2))
   (fun s2 H C fp=>⟨(AW K rfl (n:=2) rfl (Am (Ai (i:=0) (show (["place","house","opening"]:List Str).Nodup by decide +kernel) rfl (Or.inl rfl)) (Am (Ai (i:=1) (show (["place","house","opening"]:List Str).Nodup by decide +kernel) rfl (Or.inl rfl)) AV))),Bd,(Ca (Al GI (hr.mono (by decide)) (by rfl) XI.mg XI.F.kp XI.b .nil Av (Aa (pv 1) Ac)) (C4 (BS (Vb K rfl) (pv 1) (pv 2) (by rfl))))⟩)) Ac)))))),?_⟩
  rcases hb with ⟨rfl,hb⟩ | ⟨t,us,rfl,ht,hl,bs,bl,rfl,hrw⟩
  ·refine ⟨_,rfl,_,rfl,c,m,n,xs,ws,Aq,As,x,d,v,false,rfl,cw,hb,fun H1 s1=>⟨_,rfl,?_⟩⟩;refine Bp ?_;exact k _ s1
  ·have l2:=cw.l2;rw [Z0] at hl;have rows:Ez K H (.ref t) (As.map (·.1)) true:=.inr ⟨t,us,rfl,ht,.inr ⟨by rw [Z0]; exact hl,us.map fun _=>true,by rw [Z0],by rw [aW]; exact (aj.mpr fun _ _=>rfl).symm,fun i u y c' a1 a2 a3=>by
    have il:i < us.length:=(ZA.mp a1).1;obtain ⟨tt,p,rfl,htt,_⟩:=hrw i u y (bs[i]'(by lia)) a1 a2 (Zy (by lia));rw [Z6,a1] at a3;cases a3
    rw [Z6] at a2;cases er:As[i]? with
    | none=>rw [er] at a2; cases a2
    | some r=>
     rw [er] at a2;cases a2
     exact Gf.right (cw.map.at'.nm _ (cw.ok2.sub r (Z2 er))) htt⟩⟩
   refine ⟨_,rfl,_,rfl,c,m,n,xs,ws,Aq,As,x,d,.ref t,true,rfl,cw,rows,fun H1 s1=>⟨_,rfl,?_⟩⟩;refine Cr ?_;exists _,rfl,t,rfl,⟨_,A1.of (s1 _ _ ht)⟩
   refine Br Bv (xs:=us) (fun D i A3 H' acc=>∃ v0 v1:Option V,A3=[v0,v1,some (.ref o)]/\Ao H1 H'/\H' D=some (.lst acc)/\acc=(bs.take i).map V.bl/\acc.length=i)
    (by lia) (fun D hD=>⟨_,_,rfl,Ad hD,Ab,rfl,rfl⟩) (fun D i A3 H' acc hD ⟨v0,v1,_,sa,AQ,_,al⟩=>⟨A1.of (sa _ _ (s1 _ _ ht)),AQ,al⟩) ?_ ?_
   ·rintro D i A3 H' acc x' B hD ex ⟨v0,v1,rfl,sa,AQ,ea,al⟩ hB;have il:i < us.length:=(ZA.mp ex).1;obtain ⟨bc,ec⟩:∃ bc,bs[i]? = some bc:=⟨_,Zy (by lia)⟩
    obtain ⟨tt,p,rfl,htt,np⟩:=hrw i x' ((As[i]'(by lia)).1) bc ex (by rw [Z6,Zy (by lia)]; rfl) ec;exists tt,_,rfl,A1.of (sa _ _ (s1 _ _ htt)),rfl,_,_,rfl,_,_,rfl,rfl;have fin:∀ H5,Ao H' H5->B [some (.str (As[i]'(by lia)).1),some p,some (.ref o)] (.bl bc) H5:=fun H5 s5=>hB _ _ _ (s5 _ _ AQ) ⟨_,_,rfl,fun b o' q=>by rw [Ae (Ah q hD)]; exact s5 _ _ (sa _ _ q),Ab,by rw [ea,ZH,ec,ZC]; rfl,by rw [Z7,al]; rfl⟩
    rcases np with ⟨nS,rfl⟩ | ⟨s2,rfl,l2',rfl⟩
    ·refine ⟨_,rfl,_,rfl,.inr ⟨(nS.same s1).same sa,⟨_,rfl,?_⟩⟩⟩;refine Bp ?_;exact fin _ (Ao.refl _)
    ·refine ⟨_,rfl,_,rfl,.inl ⟨s2,rfl,l2',fun H5 s5=>⟨_,rfl,?_⟩⟩⟩;cases hn:AY s2 with
     | false=>
      rw [hn] at fin;refine Bp ?_;exact fin _ s5
     | true=>
      rw [hn] at fin;refine Cr ?_;exists _,rfl,_,rfl,o,_,rfl,.inr (A1.of (s5 _ _ (sa _ _ (s1 _ _ ho)))),rfl,G6 ss;rw [IZ];exact fin _ s5
   ·rintro D A3 H' acc hD ⟨v0,v1,rfl,sa,AQ,ea,al⟩;rw [<-bl,ZP] at ea;exact ⟨D,_,rfl,AS.of (by rw [AQ,ea]),k _ (s1.trans sa)⟩
end
section
variable {P:Program} {w:World} {K:Z1} {mg:Str->Option Value} {base:Heap}
theorem IH (h_min:mg "min"=none)  {f:Addr} {fd:FuncData} (F:D6 K "_law_nearest" "_law_nearest" Ce f fd):A7 P w K mg base Bq 1 f fd ["_law_away","_law_place","_law_opening"] K5:=by
 refine F.ok EF (fun vs H Q E h=>?_) (fun cdv A outer s H vs Q E hr h=>?_)
 ·obtain ⟨A0,o,y0,xs,ws,ss,rfl,_⟩:=h;rfl
 ·obtain ⟨A0,o,y0,xs,ws,ss,rfl,kn,hy0,ho,sne,s30,ssx,k⟩:=h;have nd:=EF.nd;have hu:=CV hr;have Ja:=hr.units;have big:100000 < sizeLine:=by decide
  refine ⟨_,(Ak (A4 (A2 (A8 K rfl) (Aj (JL rfl Ja) (by rfl) h_min PyProof.Rows.boot_min (Aa (Bl (N:=["_law_house","_law_away","_law_place"]) (σ0:=fun σ=>[none,some 0,some 1].map fun j=>j.bind fun j=>(σ[j]?).join) rfl (AJ.caught (by rfl) (by decide +kernel) rfl (by decide +kernel) (by intro y hy; simp only [Z3,Z8,or_false] at hy; rcases hy with rfl | rfl <;> rfl)
   (by intro y hy e; simp only [Z3,Z8,or_false] at hy; rcases hy with rfl | rfl | rfl | rfl <;> first | exact ⟨_,rfl⟩ | cases e)) (fun σ _=>Bj.of [none,some 0,some 1] rfl (by
   intro i j x h1 h2;match i,h1,h2 with
   | 0,_,h2=>cases h2
   | 1,h1,h2=>cases h1; cases h2; exact ⟨rfl,.inl rfl,.inl rfl⟩
   | 2,h1,h2=>cases h1; cases h2; exact ⟨rfl,.inl rfl,.inl rfl⟩
   | n + 3,h1,_=>cases h1)) (Bi K rfl (pv 2))
   (fun s2 H C fp=>⟨(Ai (i:=0) (show (["_law_house","_law_away","_law_place"]:List Str).Nodup by decide +kernel) rfl (Or.inl rfl)),Bd,(AB (Aa (Bo hu (pv 1) (AB (Aa (pv 2) (Aa (pv 0) Ac))) (fun _ _=>rfl)) (Aa (pv 0) Ac)))⟩)) Ac)) Af (fun _ _=>rfl)))),?_⟩
  have sl0:1<=ss.length:=eB fun e=>sne (aU.mp e)
  exists _,rfl,o,rfl,⟨_,A1.of ho⟩
  refine Br Bv (xs:=ss.map V.str) (fun D2 j A3 H2 acc=>∃ (v0:Option V) (ks:List (Int × Str)),A3=[v0,some (.ref A0),some (.str y0)]/\Ao H H2/\H2 D2=some (.lst acc)/\acc.length=j/\ks.length=j/\(∀ (q:Nat) w kk,acc[q]? = some w->ks[q]? = some kk->Jt H2 w kk)/\∀ kk ∈ ks,kk.2 ∈ ss)
   (by rw [Z0]; lia) (fun D2 RU=>⟨_,[],rfl,Ad RU,Ab,rfl,rfl,(fun q w kk e=>by simp at e),fun kk hk=>nomatch hk⟩)
   (fun D2 j A3 H2 acc RU ⟨v0,ks,_,sb,Nf,Xl,_⟩=>⟨A1.of (sb _ _ ho),Nf,Xl⟩) ?_ ?_
  ·rintro D2 j A3 H2 acc x' Bk RU ex ⟨v0,ks,rfl,sb,Nf,Xl,kl,kp,km⟩ hBk;obtain ⟨y,ey,rfl⟩:∃ y,ss[j]? = some y/\x'=.str y:=by
    rw [Z6] at ex;cases z:ss[j]? with
    | none=>rw [z] at ex; cases ex
    | some y=>rw [z] at ex; exact ⟨y,rfl,(ZR.inj ex).symm⟩
   have ym':=Z2 ey;refine ⟨_,rfl,_,rfl,_,rfl,(by show 2<=sizeLine; lia),fun T hT=>?_⟩;have sT:=Ad (o:=.tup [.str y0,.str y]) hT;obtain ⟨g2,d0,d1⟩:=(kn.same (sb.trans sT)).get hy0 (ssx y ym') (t:=T) Ab;generalize upd H2 T (.tup [.str y0,.str y])=H8 at sT g2 ⊢;refine ⟨A0,_,rfl,g2,_,rfl,(by show 2<=sizeLine; lia),fun T2 PY=>?_⟩;have sT2:=Ad (o:=.tup [.int (dst ws y y0),.str y]) PY;have WJ:(upd H8 T2 (.tup [.int (dst ws y y0),.str y])) T2=some (.tup [.int (dst ws y y0),.str y]):=Ab;generalize upd H8 T2 (.tup [.int (dst ws y y0),.str y])=H9 at sT2 WJ ⊢;have Y1:=sT.trans sT2;have hDT:=Y1 _ _ Nf;have keep:∀ b ys,H9 b=some (.tup ys)->(upd H9 D2 (.lst (acc ++ [.ref T2]))) b=some (.tup ys):=fun b ys z=>by
    rw [Ae (CB z hDT (fun q=>by cases q))];exact z
   refine hBk _ _ _ hDT ⟨_,ks ++ [(dst ws y y0,y)],rfl,fun b o' z=>by rw [Ae (Ah z RU)]; exact Y1 _ _ (sb _ _ z),Ab,by rw [Z7,Xl]; rfl,by rw [Z7,kl]; rfl,fun q w kk e1 e2=>?_,fun kk hk=>?_⟩
   ·by_cases hq:q < acc.length
    ·rw [aE hq] at e1;rw [aE (by lia)] at e2;exact (kp q w kk e1 e2).same fun b ys z=>keep b ys (Y1 _ _ z)
    ·have VT:=(ZA.mp e1).1;rw [Z7,aZ] at VT;rw [ao (by lia),show q - acc.length=0 by lia,au] at e1;rw [ao (by lia),show q - ks.length=0 by lia,au] at e2;cases e1
     cases e2
     exact ⟨T2,rfl,keep _ _ WJ⟩
   ·rcases ZM.mp hk with hk | hk
    ·exact km kk hk
    ·rw [ZN.mp hk];exact ym'
  rintro D2 A3 H8 acc RU ⟨v0,ks,rfl,sb,Nf,Xl,kl,kp,km⟩;rw [Z0] at Xl kl;refine ⟨D2,acc,ks,rfl,Nf,by lia,fun z=>by rw [z] at kl; simp at kl; lia,kp,fun v kk hkk hpr _=>?_⟩;obtain ⟨tv,rfl,htv⟩:=hpr;have km':=km kk hkk;exact ⟨tv,_,_,_,rfl,rfl,A1.of htv,rfl,k _ _ sb km'⟩
end
section
variable {P:Program} {w:World} {K:Z1} {mg:Str->Option Value} {base:Heap}
theorem MN (h_isinstance:mg "isinstance"=none) (h_len:mg "len"=none) (h_tuple:mg "tuple"=none) {fIO:Addr} {fdIO:FuncData} (XIO:Fn K mg "is_opening" Dc ["case","thing"] fIO fdIO) (GIO:A7 P w K mg base Bq 3 fIO fdIO ["case","thing"] (NG K)) {fAG:Addr} {fdAG:FuncData} (XAG:Fn K mg "are_goings" Df ["case","opening","thing"] fAG fdAG) (GAG:A7 P w K mg base Bq 5 fAG fdAG ["case","opening","thing"] (T6 K)) {fD:Addr} {fdD:FuncData} (XD:Fn K mg "stand" HQ ["case","prices","levy"] fD fdD) (GD:A7 P w K mg base Bq 6 fD fdD ["case","prices","levy"] (L9 K)) {f:Addr} {fd:FuncData} (F:D6 K "lets_by" "lets_by" EZ f fd):A7 P w K mg base Bq 7 f fd ["case","paper"] ND:=by
 refine F.ok Iu (fun vs H Q E h=>?_) (fun cdv A outer s H vs Q E hr h=>?_)
 ·obtain ⟨c,m,pp,o,t,T,n,xs,ws,Aq,As,x,d,ss,zs,qs,lv,rfl,_⟩:=h;rfl
 ·obtain ⟨c,m,pp,o,t,T,n,xs,ws,Aq,As,x,d,ss,zs,qs,lv,rfl,pa,k⟩:=h;have nd:=Iu.nd;have big:100000 < sizeLine:=by decide
  refine ⟨_,(Ag (B7 (DL (BL (Cq (Aj (Bz K rfl) (by rfl) h_isinstance PyProof.Rows.boot_isinstance (Aa (pv 1) (Aa (BI (v:=.ty "tuple") (by rfl) h_tuple PyProof.Rows.boot_tuple rfl) Ac))))) (CD (AN Hg (Aj (AK K rfl) (by rfl) h_len PySem.boot_len (Aa (pv 1) Ac)) Af (AO _)))).pt
  (Ak (A4 Du))
  AR)
  (Ag (DP (pv 1) (AW K rfl rfl (Am (Ai (i:=2) nd rfl (Or.inl rfl)) (Am (Ai (i:=3) nd rfl (Or.inl rfl)) (Am (Ai (i:=4) nd rfl (Or.inl rfl)) (Am (Ai (i:=5) nd rfl (Or.inl rfl)) AV))))))
  (Ak (A4 (Ca (Al GIO (hr.mono (by decide)) (by rfl) XIO.mg XIO.F.kp XIO.b .nil Av (Aa (pv 0) (Aa (pv 2) Ac))) (Ca (Al GAG (hr.mono (by decide)) (by rfl) XAG.mg XAG.F.kp XAG.b .nil Av (Aa (pv 0) (Aa (pv 2) (Aa (pv 3) Ac)))) (C4 (Al GD (hr.mono (by decide)) (by rfl) XD.mg XD.F.kp XD.b .nil Av (Aa (pv 0) (Aa (pv 4) (Aa (pv 5) Ac))))))))))),?_⟩
  have cw:=pa.cp.cw;exists _,rfl,_,"tuple",_,_,rfl,.tup pa.pap,rfl,_,rfl;refine Bp ?_;exists _,rfl,pp,_,rfl,.inr (A1.of pa.pap),rfl,_,rfl;refine Bp ?_;exists _,rfl,pp,_,rfl,A1.of pa.pap,rfl,_,_,rfl,_,_,rfl,_,_,rfl,_,_,rfl,rfl;refine ⟨_,rfl,_,rfl,c,Aq.map (·.1),x,d,.ref o,rfl,cw.sites,.inl ⟨_,Ow.strs pa.op pa.sl pa.sh,fun b H1 s1 hb=>⟨_,rfl,?_⟩⟩⟩;cases b with
  | false=>
   refine Bp ?_;exact k false _ s1 ⟨(fun z=>by cases z),fun ok=>hb.mpr ok.1⟩
  | true=>
   refine Cr ?_;have isop:=hb.mp rfl;have go:=pa.goes (K:=K);obtain ⟨g,eg⟩:∃ g,g=zs.all fun z=>decide (z.2 ∈ ss):=⟨_,rfl⟩
   rw [<-eg] at go;refine ⟨_,rfl,_,rfl,_,rfl,c,m,o,n,xs,ws,Aq,As,x,d,ss,.ref t,g,rfl,cw.same s1,s1 _ _ pa.op,go.same s1,fun H2 s2=>⟨_,rfl,?_⟩⟩;have OJ:=s1.trans s2;have p2:=pa.same OJ;cases g with
   | false=>
    refine Bp ?_;exact k false _ OJ ⟨(fun z=>by cases z),fun ok=>by rw [eg]; exact aj.mpr fun z hz=>decide_eq_true (ok.2.1 z hz)⟩
   | true=>
    refine Cr ?_;have zal:∀ z ∈ zs,z.2 ∈ ss:=fun z hz=>of_decide_eq_true (aj.mp eg.symm z hz)
    by_cases hlv:x=.non->lv=0
    ·refine ⟨_,rfl,_,rfl,_,rfl,c,m,n,xs,ws,Aq,As,x,d,.ref T,.int lv,rfl,p2.cp.cw,.inr ⟨T,qs,rfl,p2.cp,.inr ⟨lv,rfl,.inr ⟨lv,rfl,pa.lv0,?_⟩,fun H3 s3=>k _ _ (OJ.trans s3) ⟨fun z=>⟨isop,zal,hlv,z⟩,fun ok=>ok.2.2.2⟩⟩⟩⟩;by_cases z:x=.non
     ·rw [hlv z,decide_eq_true (rfl:(0:Int)=0),Bool.or_true]
     ·rw [decide_eq_false z]; rfl
    ·refine ⟨_,rfl,_,rfl,_,rfl,c,m,n,xs,ws,Aq,As,x,d,.ref T,.int lv,rfl,p2.cp.cw,.inr ⟨T,qs,rfl,p2.cp,.inl ⟨.inr ⟨lv,rfl,pa.lv0,?_⟩,fun H3 s3=>k false _ (OJ.trans s3) ⟨(fun z=>by cases z),fun ok=>absurd ok.2.2.1 hlv⟩⟩⟩⟩;by_cases z:x=.non
     ·rw [decide_eq_true z,decide_eq_false fun e=>hlv fun _=>e]; rfl
     ·exact absurd (fun h=>absurd h z) hlv
theorem Gv (h_bool:mg "bool"=none) (h_int:mg "int"=none) (h_isinstance:mg "isinstance"=none)  {f:Addr} {fd:FuncData} (F:D6 K "_law_is_number" "_law_is_number" Ci f fd):A7 P w K mg base Bq 1 f fd ["_law_thing"] NH:=by
 refine F.ok DY (fun vs H Q E h=>?_) (fun cdv A outer s H vs Q E hr h=>?_)
 ·obtain ⟨i,rfl,_⟩:=h;rfl
 ·obtain ⟨i,rfl,i0,k⟩:=h;have nd:=DY.nd;have big:100000 < sizeLine:=by decide
  exists _,(Ak (A4 (Ca (Aj (Bz K rfl) (by rfl) h_isinstance PyProof.Rows.boot_isinstance (Aa (pv 0) (Aa (BI (v:=.ty "int") (by rfl) h_int PyProof.Rows.boot_int rfl) Ac))) (Ca (QU (Aj (Bz K rfl) (by rfl) h_isinstance PyProof.Rows.boot_isinstance (Aa (pv 0) (Aa (BI (v:=.ty "bool") (by rfl) h_bool PyProof.Rows.boot_bool rfl) Ac)))) (C4 (BS Ri (pv 0) Af (AO _)))))))
  exists _,rfl,_,"int",_,_,rfl,.int _,rfl,_,rfl;refine Cr ?_;exists _,rfl,_,"bool",_,_,rfl,.int _,rfl,_,rfl,_,rfl;refine Cr ?_;exists _,rfl,_,_,rfl,rfl;show Q (.bl (decide (0<=i))) H
  rw [decide_eq_true i0];exact k
theorem FQ (h_isinstance:mg "isinstance"=none) (h_len:mg "len"=none) (h_tuple:mg "tuple"=none) (h_zip:mg "zip"=none)  {f:Addr} {fd:FuncData} (F:D6 K "_law_rows_right" "_law_rows_right" BQ f fd):A7 P w K mg base Bq 1 f fd ["_law_case_here","_law_rows"] NA:=by
 refine F.ok DC (fun vs H Q E h=>?_) (fun cdv A outer s H vs Q E hr h=>?_)
 ·obtain ⟨c,m,t,n,xs,ws,Aq,As,x,d,us,rfl,_⟩:=h;rfl
 ·obtain ⟨c,m,t,n,xs,ws,Aq,As,x,d,us,rfl,cw,ht,ul,al,k⟩:=h;have nd:=DC.nd;have hu:=CV hr;have big:100000 < sizeLine:=by decide
  refine ⟨_,(Ag (B7 (DL (BL (Cq (Aj (Bz K rfl) (by rfl) h_isinstance PyProof.Rows.boot_isinstance (Aa (pv 1) (Aa (BI (v:=.ty "tuple") (by rfl) h_tuple PyProof.Rows.boot_tuple rfl) Ac))))) (CD (AN Hg (Aj (AK K rfl) (by rfl) h_len PySem.boot_len (Aa (pv 1) Ac)) (Aj (AK K rfl) (by rfl) h_len PySem.boot_len (Aa (A2 (A8 K rfl) (pv 0) Af (fun _ _=>rfl)) Ac)) (AO _)))).pt
  (Ak (A4 Du))
  AR)
  (Ag (BB PassesOwn.never rfl (NV true (by rfl) h_zip (Aa (pv 1) (Aa (A2 (A8 K rfl) (pv 0) Af (fun _ _=>rfl)) Ac))) (AW K rfl rfl (Am (Ai (i:=2) nd rfl (Or.inl rfl)) (Am (Ai (i:=3) nd rfl (Or.inl rfl)) AV)))
  (Ak (B7 (DL (BL (Cq (Aj (Bz K rfl) (by rfl) h_isinstance PyProof.Rows.boot_isinstance (Aa (pv 2) (Aa (BI (v:=.ty "tuple") (by rfl) h_tuple PyProof.Rows.boot_tuple rfl) Ac))))) (DL (AN Hg (Aj (AK K rfl) (by rfl) h_len PySem.boot_len (Aa (pv 2) Ac)) Af (AO _)) (CD (AN Hg (A2 (A8 K rfl) (pv 2) Af (fun _ _=>rfl)) (A2 (A8 K rfl) (pv 3) Af (fun _ _=>rfl)) (AO _))))).pt
  (Ak (A4 Du))
  AR)))
  (Ak (A4 Du)))),?_⟩
  obtain ⟨t1,t2,DV,Fv,hc,Fi,F3,Eu,hd2⟩:=cw.ex;have Qq:=A9 hd2;exists _,rfl,_,"tuple",_,_,rfl,.tup ht,rfl,_,rfl;refine Bp ?_;exists _,rfl,t,_,rfl,.inr (A1.of ht),_,rfl,c,_,_,_,rfl,rfl,A1.of hc,rfl,t2,_,rfl,.inr (A1.of Eu),rfl,_,rfl;have e:(!decide (V.int (us.length:Int)=V.int (Fv.length:Int)))=false:=by
   rw [show us.length=Fv.length by lia,decide_eq_true rfl];rfl
  rw [e];refine Bp ?_;refine ⟨_,rfl,_,rfl,c,_,_,_,rfl,rfl,A1.of hc,rfl,t,t2,rfl,⟨_,A1.of ht⟩,⟨_,A1.of Eu⟩,Pw (bb:=true) (xs:=us) (ys:=Fv) (by lia) (fun i σ H'=>(∃ v2 v3:Option V,σ=[some (.ref c),some (.ref t),v2,v3])/\Ao H H')
   ⟨⟨_,_,rfl⟩,Ao.refl _⟩ (fun i σ H' _ hP=>⟨A1.of (hP.2 _ _ ht),A1.of (hP.2 _ _ Eu)⟩) (fun i u y σ H' Tz hu' hy hP hTz=>?_) (fun σ H4 hP=>?_)⟩
  ·obtain ⟨⟨v2,v3,rfl⟩,sa⟩:=hP;obtain ⟨r,tr,er,rfl,htr⟩:=Bc hd2 hy;obtain ⟨tt,p,rfl,htt⟩:=al i u r hu' er;have q1:=Ad (o:=.tup [.ref tt,.ref tr]) hTz;have Km:(upd H' Tz (.tup [.ref tt,.ref tr])) Tz=some (.tup [.ref tt,.ref tr]):=Ab;generalize upd H' Tz (.tup [.ref tt,.ref tr])=H5 at q1 Km ⊢;have s5:=sa.trans q1;exists Tz,_,rfl,A1.of Km,rfl,_,_,rfl,_,_,rfl,rfl;exists _,rfl,_,"tuple",_,_,rfl,.tup (s5 _ _ htt),rfl,_,rfl;refine Bp ?_;exists _,rfl,tt,_,rfl,.inr (A1.of (s5 _ _ htt)),rfl,_,rfl;refine Bp ?_;exists _,rfl,tt,_,_,_,rfl,rfl,A1.of (s5 _ _ htt),rfl,_,rfl,tr,_,_,_,rfl,rfl,A1.of (s5 _ _ htr),rfl,rfl,_,rfl;have e2:(!decide (V.str r.1=V.str r.1))=false:=by rw [decide_eq_true rfl]; rfl
   rw [e2];refine Bp ?_;exact ⟨⟨_,_,rfl⟩,s5⟩
  ·obtain ⟨⟨v2,v3,rfl⟩,s4⟩:=hP;exact k _ s4
theorem MQ (h_isinstance:mg "isinstance"=none) (h_len:mg "len"=none) (h_tuple:mg "tuple"=none) {fOP:Addr} {fdOP:FuncData} (XOP:Fn K mg "_law_openings" C2 ["_law_case_here"] fOP fdOP) (GOP:A7 P w K mg base Bq 1 fOP fdOP ["_law_case_here"] Q4) {fRR:Addr} {fdRR:FuncData} (XRR:Fn K mg "_law_rows_right" BQ ["_law_case_here","_law_rows"] fRR fdRR) (GRR:A7 P w K mg base Bq 1 fRR fdRR ["_law_case_here","_law_rows"] NA) {fNU:Addr} {fdNU:FuncData} (XNU:Fn K mg "_law_is_number" Ci ["_law_thing"] fNU fdNU) (GNU:A7 P w K mg base Bq 1 fNU fdNU ["_law_thing"] NH) {fST:Addr} {fdST:FuncData} (XST:Fn K mg "_law_stand" DF ["_law_case_here","_law_away","_law_prices_here","_law_levy"] fST fdST) (GST:A7 P w K mg base Bq 2 fST fdST ["_law_case_here","_law_away","_law_prices_here","_law_levy"] LA) {f:Addr} {fd:FuncData} (F:D6 K "_law_let" "_law_let" Fc f fd):A7 P w K mg base Bq 3 f fd ["_law_case_here","_law_away","_law_paper_here"] Q2:=by
 refine F.ok Iw (fun vs H Q E h=>?_) (fun cdv A outer s H vs Q E hr h=>?_)
 ·obtain ⟨c,m,pp,o,t,T,A0,n,xs,ws,Aq,As,x,d,ss,zs,qs,lv,rfl,_⟩:=h;rfl
 ·obtain ⟨c,m,pp,o,t,T,A0,n,xs,ws,Aq,As,x,d,ss,zs,qs,lv,rfl,pa,ri,s6,kn,k⟩:=h;have nd:=Iw.nd;have hu:=CV hr;have Ja:=hr.units;have big:100000 < sizeLine:=by decide
  refine ⟨_,(Ag (B7 (DL (BL (Cq (Aj (Bz K rfl) (by rfl) h_isinstance PyProof.Rows.boot_isinstance (Aa (pv 2) (Aa (BI (v:=.ty "tuple") (by rfl) h_tuple PyProof.Rows.boot_tuple rfl) Ac))))) (CD (AN Hg (Aj (AK K rfl) (by rfl) h_len PySem.boot_len (Aa (pv 2) Ac)) Af (AO _)))).pt
  (Ak (A4 Du))
  AR)
  (Ag (DP (pv 2) (AW K rfl rfl (Am (Ai (i:=3) nd rfl (Or.inr rfl)) (Am (Ai (i:=4) nd rfl (Or.inl rfl)) (Am (Ai (i:=5) nd rfl (Or.inl rfl)) (Am (Ai (i:=6) nd rfl (Or.inl rfl)) AV))))))
  (Ag (B7 (DL (BL (Cq (Aj (Bz K rfl) (by rfl) h_isinstance PyProof.Rows.boot_isinstance (Aa (pv 3) (Aa (BI (v:=.ty "tuple") (by rfl) h_tuple PyProof.Rows.boot_tuple rfl) Ac))))) (CD (AN (DQ Ja) (pv 3) (Al GOP (hr.mono (by decide)) (by rfl) XOP.mg XOP.F.kp XOP.b .nil Av (Aa (pv 0) Ac)) (by rfl)))).pt
  (Ak (A4 Du))
  AR)
  (Ag (B7 (DL (BL (Cq (Al GRR (hr.mono (by decide)) (by rfl) XRR.mg XRR.F.kp XRR.b .nil Av (Aa (pv 0) (Aa (pv 4) Ac))))) (CD (BL (Cq (Al GRR (hr.mono (by decide)) (by rfl) XRR.mg XRR.F.kp XRR.b .nil Av (Aa (pv 0) (Aa (pv 5) Ac))))))).pt
  (Ak (A4 Du))
  AR)
  (Ag (B7 (AN (Kf (bN hu)) (Bl (N:=["_law_row","_law_opening"]) (σ0:=fun σ=>[none,some 3].map fun j=>j.bind fun j=>(σ[j]?).join) rfl (AJ.caught (by rfl) (by decide +kernel) rfl (by decide +kernel) (by intro y hy; simp only [Z3,Z8,or_false] at hy; rcases hy with rfl <;> rfl)
   (by intro y hy e; simp only [Z3,Z8,or_false] at hy; rcases hy with rfl | rfl | rfl <;> first | exact ⟨_,rfl⟩ | cases e)) (fun σ _=>Bj.of [none,some 3] rfl (by
   intro i j x h1 h2;match i,h1,h2 with
   | 0,_,h2=>cases h2
   | 1,h1,h2=>cases h1; cases h2; exact ⟨rfl,.inl rfl,.inl rfl⟩
   | n + 2,h1,_=>cases h1)) (Bi K rfl (pv 4))
   (fun s2 H C fp=>⟨(Ai (i:=0) (show (["_law_row","_law_opening"]:List Str).Nodup by decide +kernel) rfl (Or.inl rfl)),(HU (AN (Ke K rfl) (A2 (A8 K rfl) (pv 0) Af (fun _ _=>rfl)) (pv 1) (by rfl))),(pv 0)⟩)) (Bs Ac) (AO _))
  (Ak (A4 Du))
  AR)
  (Ag (B7 (DL (AN (Kf (bN hu)) (Bl (N:=["_law_row"]) (σ0:=fun _=>[none]) rfl (AJ.plain (by decide +kernel) (by decide +kernel) rfl (by decide +kernel)) (fun σ _=>Bj.none _ _ _ ["_law_row"] σ) (Bi K rfl (pv 5))
   (fun s2 H C fp=>⟨(Ai (i:=0) (show (["_law_row"]:List Str).Nodup by decide +kernel) rfl (Or.inl rfl)),(HU (BL (Cq (Al GNU (hr.mono (by decide)) (by rfl) XNU.mg XNU.F.kp XNU.b .nil Av (Aa (A2 (A8 K rfl) (pv 0) Af (fun _ _=>rfl)) Ac))))),(pv 0)⟩)) (Bs Ac) (AO _)) (CD (BL (Cq (Al GNU (hr.mono (by decide)) (by rfl) XNU.mg XNU.F.kp XNU.b .nil Av (Aa (pv 6) Ac)))))).pt
  (Ak (A4 Du))
  AR)
  (Ak (A4 (Ca (TU (IE (FP (A2 (A8 K rfl) (pv 0) Af (fun _ _=>rfl)))) (C4 (BS E5 (pv 6) Af (AO _)))) (C4 (Al GST (hr.mono (by decide)) (by rfl) XST.mg XST.F.kp XST.b .nil Av (Aa (pv 0) (Aa (pv 1) (Aa (pv 5) (Aa (pv 6) Ac))))))))))))))),?_⟩
  obtain ⟨us,ht,du⟩:=pa.wk;obtain ⟨pus,hT,dp⟩:=pa.cp.ex;have cw:=pa.cp.cw;obtain ⟨t1,t2,DV,Fv,hc,Fi,F3,Eu,hd2⟩:=cw.ex;have ul:=Ij du;have pl:=A9 dp;have zl:=pa.zl;have ql:=pa.cp.ok.len;have l2:=cw.l2;have nms:∀ s ∈ Aq.map (·.1),AY s=true:=fun s hs=>by
   obtain ⟨r,hr,e⟩:=ZD.mp hs;have e':r.1=s:=e;rw [<-e'];exact cw.map.at'.nm _ (cw.ok1.sub r hr)
  exists _,rfl,_,"tuple",_,_,rfl,.tup pa.pap,rfl,_,rfl;refine Bp ?_;exists _,rfl,pp,_,rfl,.inr (A1.of pa.pap),rfl,_,rfl;refine Bp ?_;exists _,rfl,pp,_,rfl,A1.of pa.pap,rfl,_,_,rfl,_,_,rfl,_,_,rfl,_,_,rfl,rfl;exists _,rfl,_,"tuple",_,_,rfl,.tup pa.op,rfl,_,rfl;refine Bp ?_;refine ⟨_,rfl,_,rfl,c,Aq.map (·.1),x,d,rfl,cw.sites,(by rw [Z0]; exact s6),fun H1 L vs os s1 hL hLL tU opn o1024=>?_⟩;exists o,L,ss,vs,os,rfl,rfl,s1 _ _ pa.op,hLL,tU,_,rfl;have iff:=(opn.2.2 ss).trans (Rj ri nms).symm;by_cases hin:ss ∈ os
  case neg=>
   rw [decide_eq_false hin];refine Cr ?_;exact k false _ s1 ⟨(fun z=>by cases z),fun ok=>absurd (iff.mpr ok.1) hin⟩
  rw [decide_eq_true hin];refine Bp ?_;have isop:=iff.mp hin;refine ⟨_,rfl,_,rfl,c,m,t,n,xs,ws,Aq,As,x,d,us,rfl,cw.same s1,s1 _ _ ht,by lia,fun i u r a1 a2=>?_,fun H2 s2=>⟨_,rfl,?_⟩⟩
  ·obtain ⟨z,tt,ez,rfl,htt⟩:=G7 du a1;obtain ⟨r',er,rz⟩:=Tu pa.zn ez;rw [a2] at er;cases er
   exact ⟨tt,_,rfl,by rw [rz]; exact s1 _ _ htt⟩
  refine Bp ?_;have X1:=s1.trans s2;refine ⟨_,rfl,_,rfl,c,m,T,n,xs,ws,Aq,As,x,d,pus,rfl,cw.same X1,X1 _ _ hT,by lia,fun i u r a1 a2=>?_,fun H3 s3=>⟨_,rfl,?_⟩⟩
  ·obtain ⟨q,tt,eq,rfl,htt⟩:=Bc dp a1;have:=congrArg (fun l=>l[i]?) pa.cp.ok.nm;rw [Z6,Z6,eq,a2] at this;have e:q.1=r.1:=ZR.inj this;exact ⟨tt,_,rfl,by rw [<-e]; exact X1 _ _ htt⟩
  refine Bp ?_;have Wl:=X1.trans s3;exists _,rfl,t,rfl,⟨_,A1.of (Wl _ _ ht)⟩
  refine DK Bv (xs:=us) (fun D i A3 H' acc=>∃ v0:Option V,A3=[v0,some (.ref o)]/\Ao H3 H'/\H' D=some (.lst acc)/\(acc=[] ↔ ∀ z ∈ zs.take i,z.2 ∈ ss)/\acc.length<=i)
   (by lia) (fun D hD=>⟨_,rfl,Ad hD,Ab,by simp,Z4 _⟩)
   (fun D i A3 H' acc hD ⟨v0,_,sa,AQ,_,al⟩=>⟨A1.of (sa _ _ (Wl _ _ ht)),AQ,al⟩) ?_ ?_
  ·rintro D i A3 H' acc x' B N hD ex ⟨v0,rfl,sa,AQ,ea,al⟩ hB hN;obtain ⟨z,tz,ez,rfl,htz⟩:=G7 du ex;have YK:=sa _ _ (Wl _ _ htz);exists _,rfl,tz,_,_,_,rfl,rfl,A1.of YK,rfl,_,rfl,o,_,rfl,.inr (A1.of (sa _ _ (Wl _ _ pa.op))),rfl,G6 ss,_,rfl;rw [IZ];refine CA (fun hz=>?_) (fun hz=>?_)
   ·have RS:¬ z.2 ∈ ss:=by simpa using hz
    exists _,rfl;refine hB _ _ _ AQ ⟨_,rfl,fun b o' z=>by rw [Ae (Ah z hD)]; exact sa _ _ z,Ab,?_,by rw [Z7]; simp; lia⟩;rw [ZH,ez];refine ⟨fun h=>absurd h (by simp),fun h=>absurd (h z (ZF _ (by simp))) RS⟩
   ·have RS:z.2 ∈ ss:=by simpa using hz
    refine hN _ _ ⟨_,rfl,sa,AQ,ea.trans ⟨fun h y hy=>?_,fun h y hy=>?_⟩,by lia⟩
    ·rw [ZH,ez] at hy;rcases ZM.mp hy with hy | hy
     ·exact h y hy
     ·have:y=z:=by simpa using hy
      rw [this];exact RS
    ·refine h y ?_;rw [ZH];exact av _ hy
  rintro D A3 H4 acc hD ⟨v0,rfl,s4,AQ,ea,al⟩;rw [ul,ZP] at ea;refine ⟨(by show 0<=sizeLine; lia),fun E' hE=>⟨D,E',acc,rfl,rfl,AS.of (Ad hE _ _ AQ),AS.of Ab,_,rfl,?_⟩⟩;have sE:=Ad (o:=.lst []) hE;generalize upd H4 E' (.lst [])=H5 at sE ⊢;have Wk:=Wl.trans (s4.trans sE);by_cases ha:acc=[]
  case neg=>
   have e:(!acc.isEmpty)=true:=by
    cases acc with
    | nil=>exact absurd rfl ha
    | cons _ _=>rfl
   rw [e];refine Cr ?_;exact k false _ Wk ⟨(fun z=>by cases z),fun ok=>absurd (ea.mpr ok.2.1) ha⟩
  have zal:=ea.mp ha;subst ha;refine Bp ?_;exists _,rfl,T,rfl,⟨_,A1.of (Wk _ _ hT)⟩
  refine DK Bv (xs:=pus) (fun D i A3 H' acc=>∃ v0:Option V,A3=[v0]/\Ao H5 H'/\H' D=some (.lst acc)/\acc=[]/\acc.length<=i)
   (by lia) (fun D hD=>⟨_,rfl,Ad hD,Ab,rfl,Z4 _⟩)
   (fun D i A3 H' acc hD ⟨v0,_,sa,AQ,_,al⟩=>⟨A1.of (sa _ _ (Wk _ _ hT)),AQ,al⟩) ?_ ?_
  ·rintro D i A3 H' acc x' B N hD ex ⟨v0,rfl,sa,AQ,ea,al⟩ hB hN;obtain ⟨q,tq,eq,rfl,htq⟩:=Bc dp ex;exists _,rfl,tq,_,_,_,rfl,rfl,A1.of (sa _ _ (Wk _ _ htq)),rfl,q.2,rfl,pa.cp.ok.lo q (Z2 eq),_,rfl;refine Bp ?_;exact hN _ _ ⟨_,rfl,sa,AQ,ea,by lia⟩
  rintro D2 A3 H6 acc RU ⟨v0,rfl,s6,Nf,rfl,_⟩;refine ⟨(by show 0<=sizeLine; lia),fun E2 hE2=>⟨D2,E2,[],rfl,rfl,AS.of (Ad hE2 _ _ Nf),AS.of Ab,_,rfl,?_⟩⟩;have sE2:=Ad (o:=.lst []) hE2;generalize upd H6 E2 (.lst [])=H7 at sE2 ⊢;have TJ:=Wk.trans (s6.trans sE2);refine Bp ?_;exists _,rfl,lv,rfl,pa.lv0,_,rfl;refine Bp ?_;exists _,rfl,c,_,_,_,rfl,rfl,A1.of (TJ _ _ hc),rfl,_,rfl;by_cases z:x=.non
  ·rw [decide_eq_true z];refine Bp ?_;exists _,rfl,rfl,_,rfl;by_cases z0:lv=0
   ·rw [decide_eq_true (show V.int lv=V.int 0 by rw [z0])];refine Cr ?_;exact ⟨_,rfl,_,rfl,_,rfl,_,rfl,c,m,T,A0,n,xs,ws,Aq,As,qs,x,d,lv,rfl,pa.cp.same TJ,kn.same TJ,fun H8 s8=>k _ _ (TJ.trans s8) ⟨fun z1=>⟨isop,zal,fun _=>z0,z1⟩,fun ok=>ok.2.2.2⟩⟩
   ·rw [decide_eq_false (show ¬ V.int lv=V.int 0 from fun e=>z0 (by injection e))];refine Bp ?_;exact k false _ TJ ⟨(fun z=>by cases z),fun ok=>absurd (ok.2.2.1 z) z0⟩
  ·rw [decide_eq_false z];refine Cr ?_;exists _,rfl;refine Cr ?_;exact ⟨_,rfl,_,rfl,_,rfl,_,rfl,c,m,T,A0,n,xs,ws,Aq,As,qs,x,d,lv,rfl,pa.cp.same TJ,kn.same TJ,fun H8 s8=>k _ _ (TJ.trans s8) ⟨fun z1=>⟨isop,zal,fun h=>absurd h z,z1⟩,fun ok=>ok.2.2.2⟩⟩
end
section
variable {P:Program} {w:World} {K:Z1} {mg:Str->Option Value} {base:Heap}
theorem UZ  
  {f:Addr} {cdv:Value} {A:Around} {outer:List Env} {s:Shared} {H:Hp} {E:XK} (hr:DA 3 (A.deeper (PyProof.Rows.envOfC "_law_paper" (An Bb) s.heap.objs.size f cdv))) :
  ∃ tl,Mt (JI Bq P w K mg base ["_law_pen_here","_law_case_here","_law_away","_law_sites","_law_opening","_law_walks","_law_place","_law_many","_law_house","_law_levy","_law_prices_here","_law_at"] "_law_paper" (An Bb) f cdv A outer s H E).nox ((SU ((Cn Bb).getD 4 (.Pass ⟨0,0,0,0⟩))).drop 2) tl /\
   ∀ (W:EV) (H6:Hp) (W0:Addr) (wus:List V) (y hs:Str) (v0 v1 v2 v3 v4 v7 v9 v10 v11:Option V),H6 W0=some (.lst wus)->wus.length<=100->(∀ T3,H6 T3=none->W.nx [v0,v1,v2,v3,v4,some (.ref W0),some (.str y),v7,some (.str hs),v9,v10,v11] (upd (upd H6 T3 (.tup [.str y,.str hs])) W0 (.lst (wus ++ [.ref T3]))))->tl W [v0,v1,v2,v3,v4,some (.ref W0),some (.str y),v7,some (.str hs),v9,v10,v11] H6:=by
 have nd:=C0.nd;have big:100000 < sizeLine:=by decide
 exists _,(Ak (FN (Hf PySem.F.plainAttrs_list PySem.F.slot_list_append PySem.F.type_list_append CH (pv 5) (Aa (AB (Aa (pv 6) (Aa (pv 8) Ac))) Ac))))
 intro W H6 W0 wus y hs v0 v1 v2 v3 v4 v7 v9 v10 v11 hW wl fin;refine ⟨_,rfl,.inl ⟨rfl,_,AS.of hW⟩,_,rfl,_,rfl,(by show 2<=sizeLine; lia),fun T3 VW=>?_⟩;exact ⟨W0,_,_,rfl,rfl,Ad VW _ _ hW,by lia,fin T3 VW⟩
theorem UX (h_tuple:mg "tuple"=none) {fT:Addr} {fdT:FuncData} (XT:Fn K mg "_law_take" Bn ["_law_pen_here","_law_many"] fT fdT) (GT:A7 P w K mg base Bq 1 fT fdT ["_law_pen_here","_law_many"] Cz)
  {f:Addr} {cdv:Value} {A:Around} {outer:List Env} {s:Shared} {H:Hp} {E:XK} (hr:DA 3 (A.deeper (PyProof.Rows.envOfC "_law_paper" (An Bb) s.heap.objs.size f cdv))) :
  ∃ tl,Mt (JI Bq P w K mg base ["_law_pen_here","_law_case_here","_law_away","_law_sites","_law_opening","_law_walks","_law_place","_law_many","_law_house","_law_levy","_law_prices_here","_law_at"] "_law_paper" (An Bb) f cdv A outer s H E).nox ((Cn Bb).drop 8) tl /\
   ∀ (W:EV) (H6:Hp) (p c m o W0 T:Addr) (n:Nat) (xs:List Str) (ws:List AI) (Aq As:List Bg) (x:V) (d:PyData) (ss:List Str) (zs:List (Str × Str)) (qs:List Bg) (lv:Int) (wus:List V) (v1 v2 v3 v6 v7 v8 v11:Option V),Ax H6 p->W0 ≠ p->CP H6 c m T n xs ws Aq As qs x d->H6 o=some (.tup (ss.map V.str))->ss.length<=60->(∀ s ∈ ss,s.length<=1000)->H6 W0=some (.lst wus)->AE H6 wus (zs.map FD)->zs.map (·.1)=As.map (·.1)->(∀ z ∈ zs,AY z.2=true)->0<=lv->(∀ (H':Hp) (pp t:Addr) (Rp:Int),Ax H' p->Az p H6 H'->Qc H' c m pp o t T n xs ws Aq As x d ss zs qs Rp->W.rt (.ref pp) H')->tl W [some (.ref p),v1,v2,v3,some (.ref o),some (.ref W0),v6,v7,v8,some (.int lv),some (.ref T),v11] H6:=by
 have nd:=C0.nd;have big:100000 < sizeLine:=by decide
 refine ⟨_,(Ag (B7 (AN E5 (Al GT (hr.mono (by decide)) (by rfl) XT.mg XT.F.kp XT.b .nil Av (Aa (pv 0) (Aa Af Ac))) Af (AO _))
  (Ak (Ap (i:=9) nd rfl (Or.inl rfl) (Ay Ba (pv 9) Af)))
  AR)
  (Ak (A4 (AB (Aa (pv 4) (Aa (AF (Dz K rfl) (by rfl) h_tuple PyProof.Rows.boot_tuple (Aa (pv 5) Ac)) (Aa (pv 10) (Aa (pv 9) Ac)))))))),?_⟩
 intro W H6 p c m o W0 T n xs ws Aq As x d ss zs qs lv wus v1 v2 v3 v6 v7 v8 v11 P6 nW cp ho sl sh hW dw zn zo lv0 fin;refine ⟨_,rfl,p,8,rfl,P6,by decide,BW (by decide),fun e a7 b7 c7 e0 e1=>⟨rfl,_,rfl,?_⟩⟩;have P7:Ax (upd H6 p (.lst (Au a7 b7 c7))) p:=Ax.set _ _ _;have SH:Az p H6 (upd H6 p (.lst (Au a7 b7 c7))):=Az.upd;generalize upd H6 p (.lst (Au a7 b7 c7))=H7 at P7 SH ⊢;have t7:=Dq P6 SH;have hW7:=SH _ _ nW hW;have ret:∀ (Rp:Int),0<=Rp->∀ tw,H7 tw=none->∀ pp,(upd H7 tw (.tup wus)) pp=none->W.rt (.ref pp) (upd (upd H7 tw (.tup wus)) pp (.tup [.ref o,.ref tw,.ref T,.int Rp])):=fun Rp l0 tw htw pp hpp=>by
  have s1:=Ad (o:=.tup wus) htw;have hTW:(upd H7 tw (.tup wus)) tw=some (.tup wus):=Ab;generalize upd H7 tw (.tup wus)=H8 at s1 hTW hpp ⊢;have s2:=Ad (o:=.tup [.ref o,.ref tw,.ref T,.int Rp]) hpp;have OJ:=s1.trans s2;exact fin _ pp tw Rp (P7.same OJ) (SH.trans (Az.of_same OJ)) ⟨(cp.keepT t7).same OJ,Ab,OJ _ _ (t7 _ _ ho),sl,sh,⟨wus,s2 _ _ hTW,Us (Di t7 dw) OJ⟩,zn,zo,l0⟩
 refine CA (fun _=>?_) (fun _=>?_)
 ·exists _,rfl,_,_,rfl,rfl;exact ⟨_,rfl,_,rfl,W0,_,rfl,.inl ⟨AS.of hW7,fun tw htw=>⟨_,rfl,_,rfl,(by show 4<=sizeLine; lia),fun pp hpp=>ret (lv + 1) (by lia) tw htw pp hpp⟩⟩⟩
 ·exact ⟨_,rfl,_,rfl,W0,_,rfl,.inl ⟨AS.of hW7,fun tw htw=>⟨_,rfl,_,rfl,(by show 4<=sizeLine; lia),fun pp hpp=>ret lv lv0 tw htw pp hpp⟩⟩⟩
theorem UY (h_int:mg "int"=none) (h_len:mg "len"=none) (h_tuple:mg "tuple"=none) {fT:Addr} {fdT:FuncData} (XT:Fn K mg "_law_take" Bn ["_law_pen_here","_law_many"] fT fdT) (GT:A7 P w K mg base Bq 1 fT fdT ["_law_pen_here","_law_many"] Cz) {fPL:Addr} {fdPL:FuncData} (XPL:Fn K mg "_law_prices" C1 ["_law_pen_here","_law_case_here","_law_away","_law_levy"] fPL fdPL) (GPL:A7 P w K mg base Bq 3 fPL fdPL ["_law_pen_here","_law_case_here","_law_away","_law_levy"] Gp) {fNE:Addr} {fdNE:FuncData} (XNE:Fn K mg "_law_nearest" Ce ["_law_away","_law_place","_law_opening"] fNE fdNE) (GNE:A7 P w K mg base Bq 1 fNE fdNE ["_law_away","_law_place","_law_opening"] K5)
  {f:Addr} {cdv:Value} {A:Around} {outer:List Env} {s:Shared} {H:Hp} {E:XK} (hr:DA 3 (A.deeper (PyProof.Rows.envOfC "_law_paper" (An Bb) s.heap.objs.size f cdv))) :
  ∃ tl,Mt (JI Bq P w K mg base ["_law_pen_here","_law_case_here","_law_away","_law_sites","_law_opening","_law_walks","_law_place","_law_many","_law_house","_law_levy","_law_prices_here","_law_at"] "_law_paper" (An Bb) f cdv A outer s H E).nox ((Cn Bb).drop 3) tl /\
   ∀ (W:EV) (H6:Hp) (p c m A0 D o:Addr) (n:Nat) (xs:List Str) (ws:List AI) (Aq As:List Bg) (x:V) (d:PyData) (ss:List Str) (v5 v6 v7 v8 v9 v10 v11:Option V),Ax H6 p->BZ H6 c m n xs ws Aq As x d->(∀ r ∈ As,r.2<=4)->BY H6 A0 xs ws->D ≠ p->H6 D=some (.lst ((Aq.map (·.1)).map V.str))->H6 o=some (.tup (ss.map V.str))->RP (Aq.map (·.1)) ss->(∀ (H':Hp) (pp o t T:Addr) (ss:List Str) (zs:List (Str × Str)) (qs:List Bg) (lv:Int),Ax H' p->Az p H6 H'->Qc H' c m pp o t T n xs ws Aq As x d ss zs qs lv->W.rt (.ref pp) H')->tl W [some (.ref p),some (.ref c),some (.ref A0),some (.ref D),some (.ref o),v5,v6,v7,v8,v9,v10,v11] H6:=by
 have nd:=C0.nd;have hu:=CV hr;have big:100000 < sizeLine:=by decide
 obtain ⟨tlA,htA,rdA⟩:=UZ (P:=P) (w:=w) (K:=K) (mg:=mg) (base:=base) (f:=f) (cdv:=cdv) (A:=A) (outer:=outer) (s:=s) (H:=H) (E:=E) hr;obtain ⟨tlC,htC,rdC⟩:=UX (P:=P) (w:=w) (K:=K) (mg:=mg) (base:=base) h_tuple XT GT (f:=f) (cdv:=cdv) (A:=A) (outer:=outer) (s:=s) (H:=H) (E:=E) hr;refine ⟨_,(Ag (Ap (i:=5) nd rfl (Or.inl rfl) (Bs Ac))
  (Ag (BB PassesOwn.never rfl (Bi K rfl (A2 (A8 K rfl) (pv 1) Af (fun _ _=>rfl))) (AW K rfl rfl (Am (Ai (i:=6) nd rfl (Or.inl rfl)) (Am (Ai (i:=7) nd rfl (Or.inl rfl)) AV)))
  (Ag (Ap (i:=8) nd rfl (Or.inl rfl) (A2 (FV K rfl) (pv 3) (Al GT (hr.mono (by decide)) (by rfl) XT.mg XT.F.kp XT.b .nil Av (Aa (pv 0) (Aa (Aj (AK K rfl) (by rfl) h_len PySem.boot_len (Aa (pv 3) Ac)) Ac))) (fun _ _=>rfl)))
  (Ag (B7 (I0 (AN (ML (bN hu)) (pv 4) (AB Ac) (AO _)) (I0 (AN (Ke K rfl) Fy (pv 4) (by rfl)) (KJ (AN Rh (Al GT (hr.mono (by decide)) (by rfl) XT.mg XT.F.kp XT.b .nil Av (Aa (pv 0) (Aa Af Ac))) Af (AO _))))).pt
  (Ak (Ap (i:=8) nd rfl (Or.inl rfl) (A2 (FV K rfl) (Bs (Aa (Al GNE (hr.mono (by decide)) (by rfl) XNE.mg XNE.F.kp XNE.b .nil Av (Aa (pv 2) (Aa (pv 6) (Aa (pv 4) Ac)))) (Aa (A2 (A8 K rfl) (pv 4) (Al GT (hr.mono (by decide)) (by rfl) XT.mg XT.F.kp XT.b .nil Av (Aa (pv 0) (Aa (Aj (AK K rfl) (by rfl) h_len PySem.boot_len (Aa (pv 4) Ac)) Ac))) (fun _ _=>rfl)) Ac))) (Al GT (hr.mono (by decide)) (by rfl) XT.mg XT.F.kp XT.b .nil Av (Aa (pv 0) (Aa Af Ac))) (fun _ _=>rfl))))
  AR)
  htA)))
  (Ag (Ap (i:=9) nd rfl (Or.inl rfl) (Ay C5 (Al GT (hr.mono (by decide)) (by rfl) XT.mg XT.F.kp XT.b .nil Av (Aa (pv 0) (Aa Af Ac))) (AF Ei (by rfl) h_int PyProof.Rows.boot_int (Aa (IE (FP (A2 (A8 K rfl) (pv 1) Af (fun _ _=>rfl)))) Ac))))
  (Ag (Ap (i:=10) nd rfl (Or.inl rfl) (Al GPL (hr.mono (by decide)) (by rfl) XPL.mg XPL.F.kp XPL.b .nil Av (Aa (pv 0) (Aa (pv 1) (Aa (pv 2) (Aa (pv 9) Ac))))))
  (Ag (B7 (AN E5 (Al GT (hr.mono (by decide)) (by rfl) XT.mg XT.F.kp XT.b .nil Av (Aa (pv 0) (Aa Af Ac))) Af (AO _))
  (Ag (Ap (i:=11) nd rfl (Or.inl rfl) (Al GT (hr.mono (by decide)) (by rfl) XT.mg XT.F.kp XT.b .nil Av (Aa (pv 0) (Aa (Aj (AK K rfl) (by rfl) h_len PySem.boot_len (Aa (pv 10) Ac)) Ac))))
  (Ak (Ap (i:=10) nd rfl (Or.inl rfl) (Ay (BM K rfl) (Ay (BM K rfl) (Cf (CW K rfl) (pv 10) Ck (Cj (pv 11))) (AB (Aa (AB (Aa (A2 (A8 K rfl) (A2 (A8 K rfl) (pv 10) (pv 11) (fun _ _=>rfl)) Af (fun _ _=>rfl)) (Aa (Ay Ba (A2 (A8 K rfl) (A2 (A8 K rfl) (pv 10) (pv 11) (fun _ _=>rfl)) Af (fun _ _=>rfl)) Af) Ac))) Ac))) (Cf (CW K rfl) (pv 10) (Cj (Ay Ba (pv 11) Af)) Ck)))))
  AR)
  htC))))),?_⟩
 intro W H5 p c m A0 D o n xs ws Aq As x d ss v5 v6 v7 v8 v9 v10 v11 P5 cw few kn nD hD ho ox fin;obtain ⟨t1,t2,DV,Fv,hc,Fi,F3,Eu,hd2⟩:=cw.ex;have Qq:=A9 hd2;have l1:=cw.l1;have l2:=cw.l2;have one:=cw.ok1.one;have one2:=cw.ok2.one;obtain ⟨ol,osh,osub⟩:=ox;have ln:((Aq.map (·.1)).map V.str).length=Aq.length:=by rw [Z0,Z0]
 have sx:∀ s ∈ Aq.map (·.1),s ∈ xs/\AY s=true:=fun s hs=>by
  obtain ⟨r,hr,e⟩:=ZD.mp hs;have e':r.1=s:=e;rw [<-e'];exact ⟨cw.ok1.sub r hr,cw.map.at'.nm _ (cw.ok1.sub r hr)⟩
 refine ⟨(by show 0<=sizeLine; lia),fun W0 Zg=>?_⟩;have nW:W0 ≠ p:=P5.ne Zg;have sW:=Ad (o:=.lst []) Zg;refine ⟨_,rfl,c,_,_,_,rfl,rfl,A1.of (sW _ _ hc),rfl,t2,rfl,⟨_,A1.of (sW _ _ Eu)⟩,C7 (xs:=Fv) (Ov H5 p c A0 D o W0 As (Aq.map (·.1)))
   ⟨_,_,_,_,_,_,[],[],rfl,P5.same sW,Az.of_same sW,Ab,.nil,rfl,rfl,fun z hz=>nomatch hz⟩ (fun i σ H' _ ⟨_,_,_,_,_,_,_,_,_,P6,k6,_⟩=>A1.of (Dq P5 k6 _ _ Eu)) (fun i v σ H' hv Zl rt bk N hN=>?_) (fun σ H6 Zl=>?_)⟩
 ·obtain ⟨v6,v7,v8,v9,v10,v11,wus,zs,rfl,P6,k6,hW,dw,zl,zn,zss⟩:=Zl;obtain ⟨r,tt,er,rfl,htt⟩:=Bc hd2 hv;have il:=(ZA.mp hv).1;have t6:=Dq P5 k6;have wl:=Ij dw;have rx:r.1 ∈ xs:=cw.ok2.sub r (Z2 er);exists tt,_,rfl,A1.of (t6 _ _ htt),rfl,_,_,rfl,_,_,rfl,rfl;have app:∀ (Hx:Hp) (hs:Str),Ax Hx p->Az p H' Hx->hs ∈ Aq.map (·.1)->tlA ⟨N,rt,bk,N⟩ [some (.ref p),some (.ref c),some (.ref A0),some (.ref D),some (.ref o),some (.ref W0),some (.str r.1),some (.int r.2),some (.str hs),v9,v10,v11] Hx:=fun Hx hs Px kx hm=>by
   have hWx:=kx _ _ nW hW;exact rdA _ Hx W0 wus r.1 hs _ _ _ _ _ _ _ _ _ hWx (by lia) fun T3 VW=>hN _ _ (Ov.step Zg nW Px (k6.trans kx) hWx (Di (Dq P6 kx) dw) zl zn zss er hm VW)
  have hD6:=k6 _ _ nD hD;refine ⟨_,rfl,_,rfl,_,rfl,D,_,rfl,.inl (AS.of hD6),p,_,rfl,P6,?_,BW ?_,fun e2 a7 b7 c7 e20 Zp=>?_⟩
  ·rw [ln]; lia
  ·rw [ln]; lia
  rw [ln] at Zp;obtain ⟨g,rfl⟩:∃ g:Nat,e2=(g:Int):=⟨e2.toNat,by lia⟩
  have hg:g < (Aq.map (·.1)).length:=by rw [Z0]; lia
  have P7:Ax (upd H' p (.lst (Au a7 b7 c7))) p:=Ax.set _ _ _;have SH:Az p H' (upd H' p (.lst (Au a7 b7 c7))):=Az.upd;generalize upd H' p (.lst (Au a7 b7 c7))=H7 at P7 SH ⊢;exists D,_,_,.str (Aq.map (·.1))[g],rfl,rfl,AS.of (SH _ _ nD hD6),Co (by rw [Z6,Zy hg]; rfl);have gm:(Aq.map (·.1))[g] ∈ Aq.map (·.1):=ar hg;have ho7:=Dq P6 SH _ _ (t6 _ _ ho);refine ⟨_,rfl,(by show 0<=sizeLine; lia),fun Z hZ=>⟨o,Z,_,rfl,rfl,A1.of (Ad hZ _ _ ho7),A1.of Ab,_,rfl,?_⟩⟩;have sZ:=Ad (o:=.tup []) hZ;generalize upd H7 Z (.tup [])=H8 at sZ ⊢;have P8:=P7.same sZ;have k8:=SH.trans (Az.of_same sZ);by_cases sne:ss=[]
  ·subst sne;refine Bp ?_;exact app H8 _ P8 k8 gm
  have e:(!(ss.map V.str).isEmpty)=true:=by
   cases ss with
   | nil=>exact absurd rfl sne
   | cons _ _=>rfl
  rw [e];refine Cr ?_;exists _,rfl,o,_,rfl,.inr (A1.of (sZ _ _ ho7)),rfl,G6 ss,_,rfl;rw [IZ];by_cases zz:Str.ofString "zzzzzz" ∈ ss
  ·rw [decide_eq_true zz];refine Bp ?_;exact app H8 _ P8 k8 gm
  rw [decide_eq_false zz];refine Cr ?_;refine ⟨_,rfl,p,8,rfl,P8,by decide,BW (by decide),fun e3 a9 b9 c9 e30 e31=>⟨_,_,rfl,rfl,_,rfl,?_⟩⟩;have P9:Ax (upd H8 p (.lst (Au a9 b9 c9))) p:=Ax.set _ _ _;have PV:Az p H8 (upd H8 p (.lst (Au a9 b9 c9))):=Az.upd;generalize upd H8 p (.lst (Au a9 b9 c9))=H9 at P9 PV ⊢;have k9:=k8.trans PV;refine CA (fun _=>?_) (fun _=>app H9 _ P9 k9 gm);have ssub:=osub sne zz;have sl0:1<=ss.length:=eB fun e=>sne (aU.mp e)
  have YU:=Dq P6 k9 _ _ (t6 _ _ ho);have kn9:=(kn.keep P5 k6).keep P6 k9;refine ⟨_,rfl,_,rfl,_,rfl,A0,o,r.1,xs,ws,ss,rfl,kn9,rx,YU,sne,ol,(fun s hs=>(sx s (ssub s hs)).1),fun J0 VS TH hm1=>?_⟩;have P10:=P9.same TH;refine ⟨_,rfl,_,rfl,_,rfl,o,_,rfl,.inr (A1.of (TH _ _ YU)),p,_,rfl,P10,?_,BW ?_,fun e4 a11 Zv c11 e40 e41=>?_⟩
  ·rw [Z0]; lia
  ·rw [Z0]; lia
  rw [Z0] at e41;obtain ⟨g2,rfl⟩:∃ g2:Nat,e4=(g2:Int):=⟨e4.toNat,by lia⟩
  have hg2:g2 < ss.length:=by lia
  have To:Ax (upd J0 p (.lst (Au a11 Zv c11))) p:=Ax.set _ _ _;have Vj:Az p J0 (upd J0 p (.lst (Au a11 Zv c11))):=Az.upd;generalize upd J0 p (.lst (Au a11 Zv c11))=Jz at To Vj ⊢;have YV:=Dq P10 Vj _ _ (TH _ _ YU);refine ⟨o,_,_,.str ss[g2],rfl,rfl,A1.of YV,Co (by rw [Z6,Zy hg2]; rfl),(by show 2<=sizeLine; lia),fun M2 Oi=>?_⟩;have Yy:=Ad (o:=.lst [.str VS,.str ss[g2]]) Oi;have WR:(upd Jz M2 (.lst [.str VS,.str ss[g2]])) M2=some (.lst [.str VS,.str ss[g2]]):=Ab;generalize upd Jz M2 (.lst [.str VS,.str ss[g2]])=Lo at Yy WR ⊢;have RN:=To.same Yy;refine ⟨_,rfl,p,2,rfl,RN,by decide,BW (by decide),fun e5 a13 V6 c13 e50 e51=>?_⟩;obtain ⟨hs,ehs,hsm⟩:∃ hs:Str,Gk [V.str VS,.str ss[g2]] e5=some (.str hs)/\hs ∈ ss:=by
   have:e5=0\/e5=1:=by lia
   rcases this with rfl | rfl
   ·exact ⟨_,rfl,hm1⟩
   ·exact ⟨_,rfl,ar hg2⟩
  have Xm:Ax (upd Lo p (.lst (Au a13 V6 c13))) p:=Ax.set _ _ _;have MW:Az p Lo (upd Lo p (.lst (Au a13 V6 c13))):=Az.upd;generalize upd Lo p (.lst (Au a13 V6 c13))=Xn at Xm MW ⊢;exists M2,_,_,_,rfl,rfl,AS.of (MW _ _ (To.ne Oi) WR),ehs;exact app Xn hs Xm ((k9.trans (Az.of_same TH)).trans (Vj.trans ((Az.of_same Yy).trans MW))) (ssub hs hsm)
 ·obtain ⟨v6,v7,v8,v9,v10,v11,wus,zs,rfl,P6,k6,hW,dw,zl,zn,zss⟩:=Zl;rw [Qq,ZP] at zn;refine ⟨_,rfl,p,9,rfl,P6,by decide,BW (by decide),fun e4 a9 b9 c9 e40 e41=>?_⟩;have P9:Ax (upd H6 p (.lst (Au a9 b9 c9))) p:=Ax.set _ _ _;have PV:Az p H6 (upd H6 p (.lst (Au a9 b9 c9))):=Az.upd;generalize upd H6 p (.lst (Au a9 b9 c9))=H9 at P9 PV ⊢;have k09:=k6.trans PV;have t09:=Dq P5 k09;refine ⟨_,rfl,c,_,_,_,rfl,rfl,A1.of (t09 _ _ hc),rfl,.inr ⟨_,rfl,_,_,rfl,rfl,.inl ⟨by lia,by lia⟩,?_⟩⟩;have lok:VD x (e4 * (if (!decide (x=.non))=true then 1 else 0)):=by
   by_cases z:x=.non
   ·rw [decide_eq_true z];exact ⟨by simp,by simp,fun _=>by simp⟩
   ·rw [decide_eq_false z];exact ⟨by simp; lia,by simp; lia,fun h=>absurd h z⟩
  refine ⟨_,rfl,_,rfl,_,rfl,_,rfl,p,c,m,A0,n,xs,ws,Aq,As,x,d,_,rfl,P9,cw.keepT t09,few,kn.keep P5 k09,lok.1,lok.2.1,fun Jz T qs To k11 Zt st11 _=>?_⟩;refine ⟨_,rfl,p,4,rfl,To,by decide,BW (by decide),fun e a12 V7 c12 e0 e1=>⟨rfl,_,rfl,?_⟩⟩;have RN:Ax (upd Jz p (.lst (Au a12 V7 c12))) p:=Ax.set _ _ _;have Me:Az p Jz (upd Jz p (.lst (Au a12 V7 c12))):=Az.upd;generalize upd Jz p (.lst (Au a12 V7 c12))=Lo at RN Me ⊢;have RJ:=Zt.keepT (Dq To Me);have kA:Az p H6 Lo:=PV.trans (k11.trans Me);have YG:=k6.trans kA;have WH:=kA _ _ nW hW;have Xi:=Di (Dq P6 kA) dw;have WB:=Dq P5 YG _ _ ho;have zo:∀ z ∈ zs,AY z.2=true:=fun z hz=>(sx _ (zss z hz)).2
  refine CA (fun _=>?_) (fun _=>rdC _ Lo p c m o W0 T n xs ws Aq As x d ss zs qs _ wus _ _ _ _ _ _ _ RN nW RJ WB (by lia) osh WH Xi zn zo lok.1 fun H' pp t Rp Pp kp pax=>fin H' pp o t T ss zs qs Rp Pp (YG.trans kp) pax);obtain ⟨us,ht,du⟩:=RJ.ex;have ul:=A9 du;have ql:=RJ.ok.len;refine ⟨_,rfl,_,rfl,T,_,rfl,.inr (A1.of ht),p,_,rfl,RN,by lia,BW (by lia),fun e2 a13 V6 c13 e20 Zp=>?_⟩;obtain ⟨i,rfl⟩:∃ i:Nat,e2=(i:Int):=⟨e2.toNat,by lia⟩
  have JG:i < us.length:=by lia
  have hi:i < qs.length:=by lia
  have Xm:Ax (upd Lo p (.lst (Au a13 V6 c13))) p:=Ax.set _ _ _;have MW:Az p Lo (upd Lo p (.lst (Au a13 V6 c13))):=Az.upd;generalize upd Lo p (.lst (Au a13 V6 c13))=Xn at Xm MW ⊢;have Xv:=Dq RN MW;have SK:=Xv _ _ ht;obtain ⟨q,tt,eq,Uq,htt⟩:=Bc du (Zy JG);have en:=IJ eq;have q0:=RJ.ok.lo q (Z2 eq);have Ue:=Xv _ _ htt;have Uu:Gk us (i:Int)=some (.ref tt):=by rw [Co (Zy JG),Uq]
  refine ⟨_,rfl,_,rfl,_,rfl,Sk SK JG fun Z1a U3 QI Xe=>?_⟩;refine ⟨_,rfl,_,rfl,T,_,_,_,rfl,rfl,A1.of (QI _ _ SK),Uu,tt,_,_,_,rfl,rfl,A1.of (QI _ _ Ue),rfl,_,rfl,_,rfl,T,_,_,_,rfl,rfl,A1.of (QI _ _ SK),Uu,tt,_,_,_,rfl,rfl,A1.of (QI _ _ Ue),rfl,_,_,rfl,rfl,(by show 2<=sizeLine; lia),fun T1 R7=>⟨(by show 1<=sizeLine; lia),fun Ya hYa=>?_⟩⟩;have QL:=Ad (o:=.tup [.str q.1,.int (q.2 + 1)]) R7;have hTTa:(upd U3 T1 (.tup [.str q.1,.int (q.2 + 1)])) T1=some (.tup [.str q.1,.int (q.2 + 1)]):=Ab;generalize upd U3 T1 (.tup [.str q.1,.int (q.2 + 1)])=U2 at QL hTTa hYa ⊢;have NP:=Ad (o:=.tup [.ref T1]) hYa;have hYYa:(upd U2 Ya (.tup [.ref T1])) Ya=some (.tup [.ref T1]):=Ab;generalize upd U2 Ya (.tup [.ref T1])=H3a at NP hYYa ⊢;refine HL (K:=K) (NP _ _ (QL _ _ Xe)) hYYa (by rw [ZS]; show _ + 1<=sizeLine; lia) fun Z2a H4a TF Xc=>?_
  have sAa:=QI.trans (QL.trans (NP.trans TF));exists _,rfl,_,rfl,_,_,rfl,rfl,_,rfl;dsimp only [EW];refine Sl (K:=K) (sAa _ _ SK) JG fun Z3a H5a TC Xb=>?_
  refine HL (K:=K) (TC _ _ Xc) Xb (by rw [Z7,ZS,aG]; show _ + 1 + _<=sizeLine; lia) fun Za U1 Wj Xa=>?_
  have sBa:=TC.trans Wj;have sal:=sAa.trans sBa;have R6:=sBa _ _ (TF _ _ (NP _ _ hTTa));have kB:Az p Lo U1:=MW.trans (Az.of_same sal);have cpF:CP U1 c m Za n xs ws Aq As (BK qs i (q.2 + 1)) x d:=((RJ.keepT Xv).same sal).put (Bh du fun b ys z=>sal _ _ (Xv _ _ z)) hi (by lia) (by rw [en]; exact R6) Xa;exact rdC _ U1 p c m o W0 Za n xs ws Aq As x d ss zs _ _ wus _ _ _ _ _ _ _ (Xm.same sal) nW cpF (Dq RN kB _ _ WB) (by lia) osh (kB _ _ nW WH) (Di (Dq RN kB) Xi) zn zo lok.1 fun H' pp t Rp Pp kp pax=>fin H' pp o t Za ss zs _ Rp Pp ((YG.trans kB).trans kp) pax
theorem KR (h_int:mg "int"=none) (h_len:mg "len"=none) (h_sorted:mg "sorted"=none) (h_tuple:mg "tuple"=none) {fT:Addr} {fdT:FuncData} (XT:Fn K mg "_law_take" Bn ["_law_pen_here","_law_many"] fT fdT) (GT:A7 P w K mg base Bq 1 fT fdT ["_law_pen_here","_law_many"] Cz) {fS:Addr} {fdS:FuncData} (XS:Fn K mg "_law_some" Ds ["_law_pen_here","_law_names_here","_law_most"] fS fdS) (GS:A7 P w K mg base Bq 2 fS fdS ["_law_pen_here","_law_names_here","_law_most"] K4) {fPL:Addr} {fdPL:FuncData} (XPL:Fn K mg "_law_prices" C1 ["_law_pen_here","_law_case_here","_law_away","_law_levy"] fPL fdPL) (GPL:A7 P w K mg base Bq 3 fPL fdPL ["_law_pen_here","_law_case_here","_law_away","_law_levy"] Gp) {fNE:Addr} {fdNE:FuncData} (XNE:Fn K mg "_law_nearest" Ce ["_law_away","_law_place","_law_opening"] fNE fdNE) (GNE:A7 P w K mg base Bq 1 fNE fdNE ["_law_away","_law_place","_law_opening"] K5) {f:Addr} {fd:FuncData} (F:D6 K "_law_paper" "_law_paper" Bb f fd):A7 P w K mg base Bq 4 f fd ["_law_pen_here","_law_case_here","_law_away"] LC:=by
 refine F.ok C0 (fun vs H Q E h=>?_) (fun cdv A outer s H vs Q E hr h=>?_)
 ·obtain ⟨p,c,m,A0,n,xs,ws,Aq,As,x,d,rfl,_⟩:=h;rfl
 ·obtain ⟨p,c,m,A0,n,xs,ws,Aq,As,x,d,rfl,hP,cw,few,kn,k⟩:=h;have nd:=C0.nd;have big:100000 < sizeLine:=by decide
  obtain ⟨tlB,htB,rdB⟩:=UY (P:=P) (w:=w) (K:=K) (mg:=mg) (base:=base) h_int h_len h_tuple XT GT XPL GPL XNE GNE (f:=f) (cdv:=cdv) (A:=A) (outer:=outer) (s:=s) (H:=H) (E:=E) hr;refine ⟨_,(Ag (NT (ix:=3) (N:=["_law_place","_law_dues"]) (σ0:=fun _=>[none,none]) nd rfl (Or.inl rfl) rfl (AJ.plain (by decide +kernel) (by decide +kernel) rfl (by decide +kernel)) (fun σ _=>Bj.none _ _ _ ["_law_place","_law_dues"] σ) (Bi K rfl (A2 (A8 K rfl) (pv 1) Af (fun _ _=>rfl)))
   (fun s2 H C fp=>⟨(AW K rfl (n:=2) rfl (Am (Ai (i:=0) (show (["_law_place","_law_dues"]:List Str).Nodup by decide +kernel) rfl (Or.inl rfl)) (Am (Ai (i:=1) (show (["_law_place","_law_dues"]:List Str).Nodup by decide +kernel) rfl (Or.inl rfl)) AV))),Bd,(pv 0)⟩))
  (Ag (Ap (i:=4) nd rfl (Or.inl rfl) (AF (Dz K rfl) (by rfl) h_tuple PyProof.Rows.boot_tuple (Aa (Aj Eh (by rfl) h_sorted PyProof.Rows.boot_sorted (Aa (Al GS (hr.mono (by decide)) (by rfl) XS.mg XS.F.kp XS.b .nil Av (Aa (pv 0) (Aa (pv 3) (Aa (Aj (AK K rfl) (by rfl) h_len PySem.boot_len (Aa (pv 3) Ac)) Ac)))) Ac)) Ac)))
  (Ag (B7 (AN E5 (Al GT (hr.mono (by decide)) (by rfl) XT.mg XT.F.kp XT.b .nil Av (Aa (pv 0) (Aa Af Ac))) Af (AO _))
  (Ak (Ap (i:=4) nd rfl (Or.inl rfl) (A2 (FV K rfl) (Bs (Aa (Ra (pv 4) (TR Qp Af)) (Aa (Ay (BM K rfl) (pv 4) (Cf (Sj K rfl) (pv 4) (Cj (TR Qp Af)) Ck)) (Aa (AB Ac) (Aa (Ay (BM K rfl) (pv 4) (AB (Aa Fy Ac))) Ac))))) (Al GT (hr.mono (by decide)) (by rfl) XT.mg XT.F.kp XT.b .nil Av (Aa (pv 0) (Aa Af Ac))) (fun _ _=>rfl))))
  AR)
  htB))),?_⟩
  obtain ⟨t1,t2,DV,Fv,hc,Fi,F3,Eu,hd2⟩:=cw.ex;have Se:=A9 F3;have l1:=cw.l1;have one:=cw.ok1.one;exists _,rfl,c,_,_,_,rfl,rfl,A1.of hc,rfl,t1,rfl,⟨_,A1.of Fi⟩
  refine Br Bv (xs:=DV) (fun D i A3 H' acc=>∃ v0 v1:Option V,A3=[v0,v1]/\Ao H H'/\H' D=some (.lst acc)/\acc=((Aq.map (·.1)).take i).map V.str/\acc.length=i)
   (by lia) (fun D hD=>⟨_,_,rfl,Ad hD,Ab,rfl,rfl⟩) (fun D i A3 H' acc hD ⟨v0,v1,_,sa,AQ,_,al⟩=>⟨A1.of (sa _ _ Fi),AQ,al⟩) ?_ ?_
  ·rintro D i A3 H' acc x' B hD ex ⟨v0,v1,rfl,sa,AQ,ea,al⟩ hB;obtain ⟨q,tt,eq,rfl,htt⟩:=Bc F3 ex;exists tt,_,rfl,A1.of (sa _ _ htt),rfl,_,_,rfl,_,_,rfl,rfl;refine ⟨_,rfl,hB _ _ _ AQ ⟨_,_,rfl,fun b o e=>by rw [Ae (Ah e hD)]; exact sa _ _ e,Ab,?_,by rw [Z7,al]; rfl⟩⟩;rw [ea,ZH,Z6,eq,ZC];rfl
  rintro D A3 H1 acc hD ⟨v0,v1,rfl,s1,AQ,ea,al⟩;have e1:DV.length=(Aq.map (·.1)).length:=by rw [Z0]; exact Se
  rw [ea,e1,ZP] at AQ;clear ea al acc;have nDp:D ≠ p:=hP.ne hD;have P1:=hP.same s1;have ln:((Aq.map (·.1)).map V.str).length=Aq.length:=by rw [Z0,Z0]
  refine ⟨_,rfl,_,rfl,_,rfl,D,_,rfl,.inl (AS.of AQ),p,D,Aq.map (·.1),_,rfl,P1,AQ,nDp,by rw [Z0]; lia,by rw [Z0]; lia,by rw [ln]; lia,by rw [ln]; lia,fun H3 E' ys zs0 P3 k3 hE hEE pm y1 ym=>?_⟩;rw [ln] at ym;refine ⟨E',ys,rfl,AS.of hEE,by lia,fun l ss hl pm2 srt=>⟨l,_,rfl,.inl ⟨AS.of Ab,fun o ho=>?_⟩⟩⟩;have sl:=Ad (o:=.lst (ss.map V.str)) hl;have so:=Ad (o:=.tup (ss.map V.str)) ho;have hoo:(upd (upd H3 l (.lst (ss.map V.str))) o (.tup (ss.map V.str))) o=some (.tup (ss.map V.str)):=Ab;have X0:=sl.trans so;generalize upd (upd H3 l (.lst (ss.map V.str))) o (.tup (ss.map V.str))=H4 at X0 hoo ⊢;have sll:=pm2.length_eq;have ssub:∀ y ∈ ss,y ∈ Aq.map (·.1):=fun y hy=>pm.mem_iff.mp (av _ (pm2.mem_iff.mp hy))
  have snm:∀ s ∈ ss,s.length<=1000:=fun s hs=>by
   obtain ⟨r,hr,e⟩:=ZD.mp (ssub s hs);have e':r.1=s:=e;rw [<-e'];exact ZV (IM (cw.map.at'.nm _ (cw.ok1.sub r hr))) (by decide)
  have P4:=P3.same X0;have k04:Az p H H4:=((Az.of_same s1).trans k3).trans (Az.of_same X0);refine ⟨_,rfl,p,12,rfl,P4,by decide,BW (by decide),fun e a5 b5 c5 e0 Ur=>⟨rfl,_,rfl,?_⟩⟩;have P5:Ax (upd H4 p (.lst (Au a5 b5 c5))) p:=Ax.set _ _ _;have X9:Az p H4 (upd H4 p (.lst (Au a5 b5 c5))):=Az.upd;generalize upd H4 p (.lst (Au a5 b5 c5))=H5 at P5 X9 ⊢;have XJ:=k04.trans X9;have WZ:H5 D=some (.lst ((Aq.map (·.1)).map V.str)):=((k3.trans (Az.of_same X0)).trans X9) _ _ nDp AQ;have XZ:=Dq P4 X9 _ _ hoo;have ox5:RP (Aq.map (·.1)) ss:=⟨by lia,snm,fun _ _=>ssub⟩
  refine CA (fun _=>?_) (fun _=>rdB _ H5 p c m A0 D o n xs ws Aq As x d ss _ _ _ _ _ _ _ P5 (cw.keepT (Dq hP XJ)) few (kn.keep hP XJ) nDp WZ XZ ox5 fun H' pp o t T ss zs qs lv Pp kp pax=>k H' pp o t T ss zs qs lv Pp (XJ.trans kp) pax);refine ⟨_,rfl,o,_,rfl,A1.of XZ,fun r1 hr1=>?_⟩;have Yw:=Ad (o:=.tup (ss.map V.str).reverse) hr1;have WA:(upd H5 r1 (.tup (ss.map V.str).reverse)) r1=some (.tup (ss.reverse.map V.str)):=by rw [Ab,List.map_reverse]
  generalize upd H5 r1 (.tup (ss.map V.str).reverse)=H6 at Yw WA ⊢;exists _,rfl,_,rfl,_,rfl,_,rfl;dsimp only [EW];refine SG (K:=K) (Yw _ _ XZ) (by lia) (by lia) fun r2 H7 s2x sr2 hr2 l2x m2x=>?_
  refine ⟨(by show 0<=sizeLine; lia),fun r3 hr3=>?_⟩;have Xw:=Ad (o:=.tup []) hr3;have W9:(upd H7 r3 (.tup [])) r3=some (.tup (([]:List Str).map V.str)):=Ab;generalize upd H7 r3 (.tup [])=H8 at Xw W9 ⊢;have Yz:=Yw.trans (sr2.trans Xw);refine ⟨_,rfl,(by show 1<=sizeLine; lia),fun Y hY=>?_⟩;have sY:=Ad (o:=.tup [.str (Str.ofString "zzzzzz")]) hY;have hYY:(upd H8 Y (.tup [.str (Str.ofString "zzzzzz")])) Y=some (.tup [.str (Str.ofString "zzzzzz")]):=Ab;generalize upd H8 Y (.tup [.str (Str.ofString "zzzzzz")])=H9 at sY hYY ⊢;refine HL (K:=K) ((Yz.trans sY) _ _ XZ) hYY (by rw [Z0]; show _ + 1<=sizeLine; lia) fun r4 J0 sr4 hr4=>?_
  have YR:J0 r4=some (.tup ((ss ++ [Str.ofString "zzzzzz"]).map V.str)):=by rw [hr4,ZC]; rfl
  have Wi:=sY.trans sr4;refine ⟨(by show 4<=sizeLine; lia),fun M hM=>?_⟩;have sM:=Ad (o:=.lst [.ref r1,.ref r2,.ref r3,.ref r4]) hM;have WS:(upd J0 M (.lst [.ref r1,.ref r2,.ref r3,.ref r4])) M=some (.lst [.ref r1,.ref r2,.ref r3,.ref r4]):=Ab;generalize upd J0 M (.lst [.ref r1,.ref r2,.ref r3,.ref r4])=Jz at sM WS ⊢;have s5B:=Yz.trans (Wi.trans sM);have To:=P5.same s5B;have nM:M ≠ p:=(P5.same (Yz.trans Wi)).ne hM;refine ⟨_,rfl,p,4,rfl,To,by decide,BW (by decide),fun e5 a12 V7 c12 e50 e51=>?_⟩;have RN:Ax (upd Jz p (.lst (Au a12 V7 c12))) p:=Ax.set _ _ _;have Me:Az p Jz (upd Jz p (.lst (Au a12 V7 c12))):=Az.upd;generalize upd Jz p (.lst (Au a12 V7 c12))=Lo at RN Me ⊢;have k5C:Az p H5 Lo:=(Az.of_same s5B).trans Me;have YF:=XJ.trans k5C;have tC:=Dq To Me;have h1:=tC _ _ (sM _ _ (Wi _ _ (Xw _ _ (sr2 _ _ WA))));have h2:=tC _ _ (sM _ _ (Wi _ _ (Xw _ _ hr2)));have h3:=tC _ _ (sM _ _ (Wi _ _ W9));have h4:=tC _ _ (sM _ _ YR);obtain ⟨o2,Q6,eo2,PX,ox2⟩:∃ (o2:Addr) (Q6:List Str),Gk [V.ref r1,.ref r2,.ref r3,.ref r4] e5=some (.ref o2)/\Lo o2=some (.tup (Q6.map V.str))/\RP (Aq.map (·.1)) Q6:=by
   have:e5=0\/e5=1\/e5=2\/e5=3:=by lia
   rcases this with rfl | rfl | rfl | rfl
   ·exact ⟨_,_,rfl,h1,by rw [bj]; lia,fun s hs=>snm s (eI.mp hs),fun _ _ s hs=>ssub s (eI.mp hs)⟩
   ·exact ⟨_,_,rfl,h2,by lia,fun s hs=>snm s (m2x s hs),fun _ _ s hs=>ssub s (m2x s hs)⟩
   ·exact ⟨_,_,rfl,h3,by show 0<=30; lia,(fun s hs=>nomatch hs),fun h=>absurd rfl h⟩
   ·refine ⟨_,_,rfl,h4,by rw [Z7]; show _ + 1<=30; lia,fun s hs=>?_,fun _ h=>absurd (ZF _ (ZN.mpr rfl)) h⟩;rcases ZM.mp hs with hs | hs
    ·exact snm s hs
    ·rw [ZN.mp hs];decide +kernel
  exists M,_,_,_,rfl,rfl,AS.of (Me _ _ nM WS),eo2;exact rdB _ Lo p c m A0 D o2 n xs ws Aq As x d Q6 _ _ _ _ _ _ _ RN (cw.keepT (Dq hP YF)) few (kn.keep hP YF) nDp (k5C _ _ nDp WZ) PX ox2 fun H' pp o t T ss zs qs lv Pp kp pax=>k H' pp o t T ss zs qs lv Pp (YF.trans kp) pax
end
section
variable {P:Program} {w:World} {K:Z1} {mg:Str->Option Value} {base:Heap}
theorem HD (h_int:mg "int"=none) (h_len:mg "len"=none) (h_sorted:mg "sorted"=none) {f:Addr} {fd:FuncData} (F:D6 K "_law_openings" "_law_openings" C2 f fd):A7 P w K mg base Bq 1 f fd ["_law_case_here"] Q4:=by
 refine F.ok E4 (fun vs H Q E h=>?_) (fun cdv A outer s H vs Q E hr h=>?_)
 ·obtain ⟨c,sites,x,d,rfl,_⟩:=h;rfl
 ·obtain ⟨c,sites,x,d,rfl,cs,s6,k⟩:=h;have nd:=E4.nd;have big:100000 < sizeLine:=by decide
  refine ⟨_,(Ag (Ap (i:=1) nd rfl (Or.inl rfl) (Bs (Aa (AB Ac) Ac)))
  (Ag (BB PassesOwn.never rfl (Bi K rfl (A2 (A8 K rfl) (pv 0) Af (fun _ _=>rfl))) (AW K rfl rfl (Am (Ai (i:=2) nd rfl (Or.inr rfl)) (Am (Ai (i:=3) nd rfl (Or.inl rfl)) AV)))
  (Ak (Ap (i:=1) nd rfl (Or.inl rfl) (Ay Vc (pv 1) (Bl (N:=["_law_one","_law_place"]) (σ0:=fun σ=>[none,some 2].map fun j=>j.bind fun j=>(σ[j]?).join) rfl (AJ.caught (by rfl) (by decide +kernel) rfl (by decide +kernel) (by intro y hy; simp only [Z3,Z8,or_false] at hy; rcases hy with rfl <;> rfl)
   (by intro y hy e; simp only [Z3,Z8,or_false] at hy; rcases hy with rfl | rfl | rfl <;> first | exact ⟨_,rfl⟩ | cases e)) (fun σ _=>Bj.of [none,some 2] rfl (by
   intro i j x h1 h2;match i,h1,h2 with
   | 0,_,h2=>cases h2
   | 1,h1,h2=>cases h1; cases h2; exact ⟨rfl,.inl rfl,.inl rfl⟩
   | n + 2,h1,_=>cases h1)) (Fe (pv 1))
   (fun s2 H C fp=>⟨(Ai (i:=0) (show (["_law_one","_law_place"]:List Str).Nodup by decide +kernel) rfl (Or.inl rfl)),Bd,(Ay (BM K rfl) (pv 0) (AB (Aa (pv 1) Ac)))⟩))))))
  (Ag (Ap (i:=4) nd rfl (Or.inr rfl) (A2 Be (Bs (Aa (A2 (A8 K rfl) (pv 0) Af (fun _ _=>rfl)) (Aa (Aj AH (by rfl) h_len PySem.boot_len (Aa (A2 (A8 K rfl) (pv 0) Af (fun _ _=>rfl)) Ac)) Ac))) (AF Ei (by rfl) h_int PyProof.Rows.boot_int (Aa (IE (MJ (A2 (A8 K rfl) (pv 0) Af (fun _ _=>rfl)))) Ac)) (fun _ _=>rfl)))
  (Ak (A4 (Aj (Fj K rfl) (by rfl) h_sorted PyProof.Rows.boot_sorted (Aa (Bl (N:=["_law_one","_law_most"]) (σ0:=fun σ=>[none,some 4].map fun j=>j.bind fun j=>(σ[j]?).join) rfl (AJ.caught (by rfl) (by decide +kernel) rfl (by decide +kernel) (by intro y hy; simp only [Z3,Z8,or_false] at hy; rcases hy with rfl <;> rfl)
   (by intro y hy e; simp only [Z3,Z8,or_false] at hy; rcases hy with rfl | rfl | rfl | rfl <;> first | exact ⟨_,rfl⟩ | cases e)) (fun σ _=>Bj.of [none,some 4] rfl (by
   intro i j x h1 h2;match i,h1,h2 with
   | 0,_,h2=>cases h2
   | 1,h1,h2=>cases h1; cases h2; exact ⟨rfl,.inl rfl,.inl rfl⟩
   | n + 2,h1,_=>cases h1)) (Fe (pv 1))
   (fun s2 H C fp=>⟨(Ai (i:=0) (show (["_law_one","_law_most"]:List Str).Nodup by decide +kernel) rfl (Or.inl rfl)),(HU (IC Rg Kh Af (Aj (AK K rfl) (by rfl) h_len PySem.boot_len (Aa (pv 0) Ac)) (pv 1))),(pv 0)⟩)) Ac))))))),?_⟩
  obtain ⟨mV,t2V,t1,DV,Aq,hc,Fi,F3,rfl,snd,sl,lim⟩:=cs;have ul:=A9 F3;rw [Z0] at sl;refine ⟨(by show 0<=sizeLine; lia),fun T0 Zj=>⟨(by show 1<=sizeLine; lia),fun L0 Ui=>?_⟩⟩;have s0:=(Ad (o:=.tup []) Zj).trans (Ad (o:=.lst [.ref T0]) Ui);exists _,rfl,c,_,_,_,rfl,rfl,A1.of (s0 _ _ hc),rfl,t1,rfl,⟨_,A1.of (s0 _ _ Fi)⟩
  refine Mi (xs:=DV) (fun i σ H'=>∃ (L:Addr) (us:List V) (fs:List (List Str)) (v2 v3 v4:Option V),σ=[some (.ref c),some (.ref L),v2,v3,v4]/\Ao H H'/\H' L=some (.lst us)/\BV H' us fs/\Hv ((Aq.map (·.1)).take i) 100 fs/\fs.length<=2 ^ i)
   ⟨L0,[.ref T0],[[]],_,_,_,rfl,s0,Ab,.cons (by rw [Ae (by intro z; subst z; rw [Ab] at Ui; cases Ui)]; exact Ab) .nil,Hv.nil (by decide),Z4 _⟩
   (fun i σ H' _ ⟨_,_,_,_,_,_,_,sa,_⟩=>A1.of (sa _ _ Fi)) ?_ ?_
  ·rintro i xx σ H' ex ⟨L,us,fs,v2,v3,v4,rfl,sa,hL,tU,sub,fl⟩ rt bk;obtain ⟨u,t,eu,rfl,ht⟩:=Bc F3 ex;have hi:i < Aq.length:=(ZA.mp eu).1;have f512:fs.length<=512:=ZV fl (ZV (cv (by decide) (show i<=9 by lia)) (by decide));have hul:=tU.len;have Xg:∀ f ∈ fs,f.length<=10:=fun f hf=>by
    have:=((sub.2 f).mp hf).1.length_le;rw [ZS,Z0] at this;lia
   exists t,_,rfl,A1.of (sa _ _ ht),rfl,_,_,rfl,_,_,rfl,rfl;exists _,rfl,_,rfl,L,rfl,⟨_,AS.of hL⟩
   refine Br Dm (xs:=us) (fun D j A3 H2 acc=>∃ v0:Option V,A3=[v0,some (.str u.1)]/\Ao H' H2/\H2 D=some (.lst acc)/\BV H2 acc ((fs.take j).map (· ++ [u.1]))/\acc.length=j)
    (by lia) (fun D hD=>⟨_,rfl,Ad hD,Ab,.nil,rfl⟩) (fun D j A3 H2 acc hD ⟨v0,_,sb,AQ,_,al⟩=>⟨AS.of (sb _ _ hL),AQ,al⟩) ?_ ?_
   ·rintro D j A3 H2 acc x' B hD Uo ⟨v0,rfl,sb,AQ,tp,al⟩ hB;obtain ⟨tf,f,rfl,ef,htf⟩:=tU.get Uo;have fm:=Xg f (Z2 ef);refine ⟨_,rfl,_,rfl,(by show 1<=sizeLine; lia),fun T1 R7=>?_⟩;have q1:=Ad (o:=.tup [.str u.1]) R7;have SO:(upd H2 T1 (.tup [.str u.1])) T1=some (.tup [.str u.1]):=Ab;refine HL (K:=K) (q1 _ _ (sb _ _ htf)) SO (by rw [Z0]; show f.length + 1<=sizeLine; lia) fun T H5 s5 hT=>?_
    have q5:=q1.trans s5;refine hB _ _ _ (q5 _ _ AQ) ⟨_,rfl,fun b o' z=>by rw [Ae (Ah z hD)]; exact q5 _ _ (sb _ _ z),Ab,?_,by rw [Z7,al]; rfl⟩;rw [ZH,ef,ZC];have Zk:H5 T=some (.tup ((f ++ [u.1]).map V.str)):=by rw [hT,ZC]; rfl
    refine ((tp.keep fun b ys z=>q5 _ _ z).app (.cons Zk .nil)).keep fun b ys z=>?_
    rw [Ae (CB z (q5 _ _ AQ) (fun q=>by cases q))];exact z
   ·rintro D A3 H2 acc hD ⟨v0,rfl,sb,AQ,tp,al⟩;refine ⟨L,D,us,acc,rfl,rfl,sb _ _ hL,AQ,by lia,fun p hp=>?_⟩;have sp:=Ad (o:=.lst (us ++ acc)) hp;rw [hul,ZP] at tp;have e0:(Aq.map (·.1))[i]? = some u.1:=by rw [Z6,eu]; rfl
    have e1:(Aq.map (·.1)).take (i + 1)=(Aq.map (·.1)).take i ++ [u.1]:=by rw [ZH,e0]; rfl
    have nin:u.1 ∉ (Aq.map (·.1)).take i:=by
     have:=snd.sublist (dZ (i + 1) _);rw [e1] at this;exact fun z=>(aI.mp this).2.2 _ z _ (by simp) rfl
    have ef:(fs.filter fun f=>decide ((f.length:Int) < 100))=fs:=List.filter_eq_self.mpr fun f hf=>decide_eq_true (by have:=Xg f hf; lia)
    exists p,us ++ acc,fs ++ fs.map (· ++ [u.1]),_,_,_,rfl,(sa.trans sb).trans sp,Ab,((tU.keep fun b ys z=>sb _ _ z).app tp).keep (fun b ys z=>sp _ _ z),?_
    ·rw [e1];have:=Hv.step nin sub;rw [ef] at this;exact this
    ·rw [Z7,Z0,Nat.pow_succ];lia
  ·rintro σ H' ⟨L,us,fs,v2,v3,v4,rfl,sa,hL,tU,sub,fl⟩;rw [ul,aX (by rw [Z0]; exact Z4 _)] at sub;rw [ul] at fl;have f64:fs.length<=64:=ZV fl (ZV (cv (by decide) (by rw [Z0] at s6; exact s6)) (by decide));have Xh:fs.length<=1024:=ZV fl (ZV (cv (by decide) sl) (by decide));have hul:=tU.len;have Kl:=sa _ _ hc;have YQ:=sa _ _ Fi;obtain ⟨mo,hmo,mok⟩:∃ mo:Int,Gk [x,V.int (DV.length:Int)] (if decide (x=.non)=true then 1 else 0)=some (.int mo)/\∀ f ∈ fs,((f.length:Int)<=mo ↔ HF x f.length=true):=by
    rcases lim with ⟨rfl,_⟩ | ⟨i,rfl,_,i1,i2⟩
    ·refine ⟨DV.length,rfl,fun f hf=>⟨fun _=>rfl,fun _=>?_⟩⟩;have:=((sub.2 f).mp hf).1.length_le;rw [Z0] at this;lia
    ·exact ⟨i,rfl,fun f hf=>⟨fun h=>decide_eq_true h,fun h=>of_decide_eq_true h⟩⟩
   refine ⟨_,rfl,c,_,_,_,rfl,rfl,A1.of Kl,rfl,_,rfl,c,_,_,_,rfl,rfl,A1.of Kl,rfl,t1,_,rfl,.inr (A1.of YQ),(by show 2<=sizeLine; lia),fun M hM=>?_⟩;have sM:=Ad (o:=.lst [x,.int (DV.length:Int)]) hM;have WS:(upd H' M (.lst [x,.int (DV.length:Int)])) M=some (.lst [x,.int (DV.length:Int)]):=Ab;generalize upd H' M (.lst [x,.int (DV.length:Int)])=H1 at sM WS ⊢;refine ⟨_,rfl,c,_,_,_,rfl,rfl,A1.of (sM _ _ Kl),rfl,.inr ⟨_,rfl,M,_,_,_,rfl,rfl,AS.of WS,hmo,?_⟩⟩;exists _,rfl,L,rfl,⟨_,AS.of (sM _ _ hL)⟩
   refine DK Dm (xs:=us) (fun D i A3 H2 acc=>∃ v0:Option V,A3=[v0,some (.int mo)]/\Ao H1 H2/\H2 D=some (.lst acc)/\BV H2 acc ((fs.take i).filter fun f=>decide (0 < f.length) && HF x f.length)/\acc.length<=i)
    (by lia) (fun D hD=>⟨_,rfl,Ad hD,Ab,.nil,Z4 _⟩) (fun D i A3 H2 acc hD ⟨v0,_,sb,AQ,_,al⟩=>⟨AS.of (sb _ _ (sM _ _ hL)),AQ,al⟩) ?_ ?_
   ·rintro D i A3 H2 acc x' B N hD ex ⟨v0,rfl,sb,AQ,tp,al⟩ hB hN;obtain ⟨tf,f,rfl,ef,htf⟩:=tU.get ex;have W4:=sb _ _ (sM _ _ htf);have mk:=mok f (Z2 ef);have yes:(decide (0 < f.length) && HF x f.length)=true->B [some (.ref tf),some (.int mo)] (.ref tf) H2:=fun z=>by
     refine hB _ _ _ AQ ⟨_,rfl,fun b o' z=>by rw [Ae (Ah z hD)]; exact sb _ _ z,Ab,?_,by rw [Z7]; simp; lia⟩;rw [ZH,ef,bG];simp only [eO,aT,z,if_true,eP];refine (tp.app (.cons W4 .nil)).keep fun b ys z=>?_
     rw [Ae (CB z AQ (fun q=>by cases q))];exact z
    have no:(decide (0 < f.length) && HF x f.length)=false->N [some (.ref tf),some (.int mo)] H2:=fun z=>by
     refine hN _ _ ⟨_,rfl,sb,AQ,?_,by lia⟩;rw [ZH,ef,bG];simp only [eO,aT,z,ZY,if_false,eP,bC];exact tp
    exists _,rfl,tf,_,rfl,.inr (A1.of W4),_,_,rfl,rfl,_,rfl;rw [Z0];refine CA (fun z1=>?_) (fun z1=>?_)
    ·have Xo:0 < f.length:=by have:=of_decide_eq_true z1; lia
     exists _,rfl,_,_,rfl,rfl,_,rfl;refine CA (fun z=>?_) (fun z=>?_)
     ·exact ⟨_,rfl,yes (by rw [decide_eq_true Xo,mk.mp (of_decide_eq_true z)]; rfl)⟩
     ·refine no ?_;rw [decide_eq_true Xo,Bool.true_and];cases hb:HF x f.length with
      | false=>rfl
      | true=>exact absurd (decide_eq_true (mk.mpr hb)) z
    ·have z0:¬ ((0:Int) < f.length):=by simpa using z1
     have Xo:¬ 0 < f.length:=by lia
     exists _,rfl;refine Bp ?_;exact no (by rw [decide_eq_false Xo]; rfl)
   ·rintro D A3 H2 acc hD ⟨v0,rfl,sb,AQ,tp,al⟩;rw [hul,ZP] at tp;refine ⟨D,acc,fun _=>true,rfl,AS.of AQ,tp.kinds (fun f hf=>?_),?_,fun l Ej hl pm=>?_⟩
    ·have:=(aJ.mp hf).2;simp only [af,decide_eq_true_eq] at this;intro z;rw [z] at this;simp at this
    ·have e1:=tp.len;have e2:=(List.length_filter_lt_length_iff_exists (p:=fun f:List Str=>decide (0 < f.length) && HF x f.length) (l:=fs)).mpr ⟨[],(sub.2 []).mpr ⟨cN _,by decide⟩,by simp⟩;lia
    ·obtain ⟨os,po,to⟩:=BV.perm pm tp;have Xx:=Ad (o:=.lst Ej) hl;refine k _ l Ej os (((sa.trans sM).trans sb).trans Xx) ?_ Ab (to.keep fun b ys z=>Xx _ _ z) ⟨po.nodup_iff.mpr (sub.1.sublist cx),?_,fun ss=>?_⟩ (by rw [po.length_eq]; exact ZV (dk _ _) Xh)
     ·exact ((sa.trans sM).trans sb).free hl
     ·trivial
     ·rw [po.mem_iff,aJ,sub.2,af,decide_eq_true_eq];constructor
      ·rintro ⟨⟨h1,_⟩,h2,h3⟩;exact ⟨by intro z; rw [z] at h2; simp at h2,h1,h3⟩
      ·rintro ⟨h1,h2,h3⟩;refine ⟨⟨h2,?_⟩,bh.mpr h1,h3⟩;have:=h2.length_le;rw [Z0] at this;lia
end
def NF (K:Z1):Sp:=fun vs H Q _=>∃ (a:Addr) (ns:List Int),vs=[.ref a]/\Tj K H a (ns.map V.int)/\ns.length<=63/\∀ H',Q (.bl true) H'
section
variable {P:Program} {w:World} {K:Z1} {mg:Str->Option Value} {base:Heap}
theorem Ve (h_bool:mg "bool"=none) (h_isinstance:mg "isinstance"=none) (h_range:mg "range"=none) {fE:Addr} {fdE:FuncData} (XE:Fn K mg "_law_pen" Fb ["_law_script","_law_k"] fE fdE) (GE:A7 P w K mg base Bq 1 fE fdE ["_law_script","_law_k"] (Qx K)) {fT:Addr} {fdT:FuncData} (XT:Fn K mg "_law_take" Bn ["_law_pen_here","_law_many"] fT fdT) (GT:A7 P w K mg base Bq 1 fT fdT ["_law_pen_here","_law_many"] Cz) {fC:Addr} {fdC:FuncData} (XC:Fn K mg "_law_case" Em ["_law_pen_here","_law_kind"] fC fdC) (GC:A7 P w K mg base Bq 3 fC fdC ["_law_pen_here","_law_kind"] NL) {fFL:Addr} {fdFL:FuncData} (XFL:Fn K mg "_law_fars" El ["_law_case_here"] fFL fdFL) (GFL:A7 P w K mg base Bq 1 fFL fdFL ["_law_case_here"] NJ) {fPA:Addr} {fdPA:FuncData} (XPA:Fn K mg "_law_paper" Bb ["_law_pen_here","_law_case_here","_law_away"] fPA fdPA) (GPA:A7 P w K mg base Bq 4 fPA fdPA ["_law_pen_here","_law_case_here","_law_away"] LC) {fLB:Addr} {fdLB:FuncData} (XLB:Fn K mg "lets_by" EZ ["case","paper"] fLB fdLB) (GLB:A7 P w K mg base Bq 7 fLB fdLB ["case","paper"] ND) {fLL:Addr} {fdLL:FuncData} (XLL:Fn K mg "_law_let" Fc ["_law_case_here","_law_away","_law_paper_here"] fLL fdLL) (GLL:A7 P w K mg base Bq 3 fLL fdLL ["_law_case_here","_law_away","_law_paper_here"] Q2) {f:Addr} {fd:FuncData}
  (F:D6 K "law" "law" QG f fd):A7 P w K mg base Bq 8 f fd ["_law_script"] (NF K):=by
 refine F.ok QF (fun vs H Q E h=>?_) (fun cdv A outer s H vs Q E hr h=>?_)
 ·obtain ⟨a,ns,rfl,_⟩:=h;rfl
 ·obtain ⟨a,ns,rfl,hS,hlen,k⟩:=h;have nd:=QF.nd;have big:100000 < sizeLine:=by decide
  refine ⟨_,(Ag (BB PassesOwn.never rfl (CF (by rfl) h_range (Aa Af Ac)) (Ai (i:=1) nd rfl (Or.inl rfl))
  (Ag (Ap (i:=2) nd rfl (Or.inl rfl) (Al GE (hr.mono (by decide)) (by rfl) XE.mg XE.F.kp XE.b .nil Av (Aa (pv 0) (Aa (pv 1) Ac))))
  (Ag (Ap (i:=3) nd rfl (Or.inl rfl) (Al GC (hr.mono (by decide)) (by rfl) XC.mg XC.F.kp XC.b .nil Av (Aa (pv 2) (Aa (Al GT (hr.mono (by decide)) (by rfl) XT.mg XT.F.kp XT.b .nil Av (Aa (pv 2) (Aa Af Ac))) Ac))))
  (Ag (Ap (i:=4) nd rfl (Or.inl rfl) (Al GFL (hr.mono (by decide)) (by rfl) XFL.mg XFL.F.kp XFL.b .nil Av (Aa (pv 3) Ac)))
  (Ak (BB PassesOwn.never rfl (CF (by rfl) h_range (Aa Af Ac)) (Ai (i:=5) nd rfl (Or.inl rfl))
  (Ag (Ap (i:=6) nd rfl (Or.inl rfl) (Al GPA (hr.mono (by decide)) (by rfl) XPA.mg XPA.F.kp XPA.b .nil Av (Aa (pv 2) (Aa (pv 3) (Aa (pv 4) Ac)))))
  (Ag (Ap (i:=7) nd rfl (Or.inl rfl) (Al GLB (hr.mono (by decide)) (by rfl) XLB.mg XLB.F.kp XLB.b .nil Av (Aa (pv 3) (Aa (pv 6) Ac))))
  (Ak (B7 (DL (BL (Cq (Aj (Bz K rfl) (by rfl) h_isinstance PyProof.Rows.boot_isinstance (Aa (pv 7) (Aa (BI (v:=.ty "bool") (by rfl) h_bool PyProof.Rows.boot_bool rfl) Ac))))) (CD (AN Hg (pv 7) (Al GLL (hr.mono (by decide)) (by rfl) XLL.mg XLL.F.kp XLL.b .nil Av (Aa (pv 3) (Aa (pv 4) (Aa (pv 6) Ac)))) (AO _)))).pt
  (Ak (A4 Du))
  AR))))))))))
  (Ak (A4 Du))),?_⟩
  refine ⟨3,rfl,by decide,by decide,Dn (n:=3) (fun _ σ H'=>(∃ v1 v2 v3 v4 v5 v6 v7,σ=[some (.ref a),v1,v2,v3,v4,v5,v6,v7])/\Tj K H' a (ns.map V.int)) ⟨⟨_,_,_,_,_,_,_,rfl⟩,hS⟩ ?_ (fun σ H' _=>k H')⟩;rintro j σ H0 hj ⟨⟨v1,v2,v3,v4,v5,v6,v7,rfl⟩,S0⟩;refine ⟨_,rfl,_,rfl,a,ns,0 + (j:Int),rfl,S0,by lia,fun p y0 y1 y2 hp=>?_⟩;have P1:Ax (upd H0 p (.lst (Au y0 y1 y2))) p:=Ax.set _ _ _;have q1:Ao H0 (upd H0 p (.lst (Au y0 y1 y2))):=Ad hp;generalize upd H0 p (.lst (Au y0 y1 y2))=H1 at P1 q1 ⊢;refine ⟨_,rfl,_,rfl,p,3,rfl,P1,by decide,BW (by decide),fun d1 a1 b1 c1 Zr Zq=>?_⟩;refine ⟨p,d1,rfl,Ax.set _ _ _,fun H2 c m n xs ws Aq As x d P2 k2 cw few ri r6=>?_⟩;have k02:Az p H1 H2:=Az.upd.trans k2;refine ⟨_,rfl,c,m,n,xs,ws,Aq,As,x,d,rfl,cw,fun H3 A0 s3 hA kn=>?_⟩;refine ⟨6,rfl,by decide,by decide,Dn (n:=6) (fun _ σ H'=>(∃ v1 v5 v6 v7,σ=[some (.ref a),v1,some (.ref p),some (.ref c),some (.ref A0),v5,v6,v7])/\Ax H' p/\Az p H1 H'/\BZ H' c m n xs ws Aq As x d/\BY H' A0 xs ws) ⟨⟨_,_,_,_,rfl⟩,P2.same s3,k02.trans (Az.of_same s3),cw.same s3,kn⟩ ?_ ?_⟩
  ·rintro i0 σ H4 hi0 ⟨⟨v1,v5,v6,v7,rfl⟩,P4,k4,cw4,VQ⟩;refine ⟨_,rfl,_,rfl,_,rfl,p,c,m,A0,n,xs,ws,Aq,As,x,d,rfl,P4,cw4,few,VQ,fun H5 pp o t T ss zs qs lv P5 k5 pa=>?_⟩;have kn5:=VQ.keep P4 k5;refine ⟨_,rfl,_,rfl,c,m,pp,o,t,T,n,xs,ws,Aq,As,x,d,ss,zs,qs,lv,rfl,pa,fun b H6 s6 hb=>?_⟩;exists _,rfl,_,"bool",_,_,rfl,.bl _,rfl,_,rfl;refine Bp ?_;refine ⟨_,rfl,_,rfl,_,rfl,_,rfl,c,m,pp,o,t,T,A0,n,xs,ws,Aq,As,x,d,ss,zs,qs,lv,rfl,pa.same s6,ri,r6,kn5.same s6,fun b2 H7 s7 Zd=>⟨rfl,_,rfl,?_⟩⟩;have eb:b=b2:=aA.mpr (hb.trans Zd.symm);rw [eb,decide_eq_true rfl];refine Bp ?_;have Xz:=s6.trans s7;exact ⟨⟨_,_,_,_,rfl⟩,P5.same Xz,(k4.trans k5).trans (Az.of_same Xz),pa.cp.cw.same Xz,kn5.same Xz⟩
  ·rintro σ H4 ⟨⟨v1,v5,v6,v7,rfl⟩,P4,k4,cw4,VQ⟩;exact ⟨⟨_,_,_,_,_,_,_,rfl⟩,S0.same fun b o z=>k4 b o (Ah z hp) (q1 _ _ z)⟩
end
end K20
namespace L2
open PySem PySem.Spec PyProof.Rows
def At (K:Z1) (n:Str) (st:Stmt) (f:Addr) (fd:FuncData):Prop:=ag K mainGlobals n=some (some (.ref f))/\D6 K n n st f fd
section
variable {K:Z1} {h:Heap} {mg:Str->Option Value} {n p q r t u:Str} {st:Stmt} {f:Addr} {fd:FuncData}
theorem at_mk {oc:Value} {od an:Option Addr} {osl:Array (Option Value)} {kV doc pm cdv ct:Value} (a:ag K mainGlobals n=some (some (.ref f))) (l:K.lookup f=some ⟨oc,od,.func (aV n n (Ew st) (Cn st) (An st) .none kV doc pm an cdv ct),osl⟩)
  (c:bR K cdv n=true) (k:bP K (.ref f)=true):At K n st f (aV n n (Ew st) (Cn st) (An st) .none kV doc pm an cdv ct):=⟨a,Vv l c k⟩
abbrev BA (n:Str) (st:Stmt) (us:List Value) (ps:List (Str × Value)):Prop:=∀ (kV doc pm:Value) (an:Option Addr) (cdv ct:Value),bindArgs (aV n n (Ew st) (Cn st) (An st) .none kV doc pm an cdv ct) ⟨us,[]⟩=pure ps
theorem SV (X:K.In h) (G:h.Ns mainGlobals mg) (A:At K n st f fd) (hb:∀ x,BA n st [x] [(p,x)]):Fn K mg n st [p] f fd:=⟨A.2,aL X G A.1,A.2.binds fun _ _ _ _ _ _ us hl=>by obtain ⟨x,rfl⟩:=len1 hl; exact hb ..⟩
theorem Ni (X:K.In h) (G:h.Ns mainGlobals mg) (A:At K n st f fd) (hb:∀ x y,BA n st [x,y] [(p,x),(q,y)]):Fn K mg n st [p,q] f fd:=⟨A.2,aL X G A.1,A.2.binds fun _ _ _ _ _ _ us hl=>by obtain ⟨x,y,rfl⟩:=len2 hl; exact hb ..⟩
theorem Um (X:K.In h) (G:h.Ns mainGlobals mg) (A:At K n st f fd) (hb:∀ x y z,BA n st [x,y,z] [(p,x),(q,y),(r,z)]):Fn K mg n st [p,q,r] f fd:=⟨A.2,aL X G A.1,A.2.binds fun _ _ _ _ _ _ us hl=>by obtain ⟨x,y,z,rfl⟩:=len3 hl; exact hb ..⟩
theorem fa4 (X:K.In h) (G:h.Ns mainGlobals mg) (A:At K n st f fd) (hb:∀ x y z w,BA n st [x,y,z,w] [(p,x),(q,y),(r,z),(t,w)]):Fn K mg n st [p,q,r,t] f fd:=⟨A.2,aL X G A.1,A.2.binds fun _ _ _ _ _ _ us hl=>by obtain ⟨x,y,z,w,rfl⟩:=len4 hl; exact hb ..⟩
theorem fa5 (X:K.In h) (G:h.Ns mainGlobals mg) (A:At K n st f fd) (hb:∀ x y z w v,BA n st [x,y,z,w,v] [(p,x),(q,y),(r,z),(t,w),(u,v)]):Fn K mg n st [p,q,r,t,u] f fd:=⟨A.2,aL X G A.1,A.2.binds fun _ _ _ _ _ _ us hl=>by obtain ⟨x,y,z,w,v,rfl⟩:=len5 hl; exact hb ..⟩
end
end L2
namespace K20
open PySem L2
theorem all_mk {l:cH} {w:World} {K:Z1} {h:Heap} {mg:Str->Option Value} {fa f1 f2 f3 f4 f5 f6 f7 f8 f9 f10 f11 f12 f13 f14 f15 f16 f17 f18 f19 f20 f21 f22 f23 f24 f25 f26 f27 f28 f29 f30 f31 f32 f33 f34 f35 f36 f37 f38:Addr} {d1 d2 d3 d4 d5 d6 d7 d8 d9 Zr Zq d12 d13 d14 d15 d16 d17 d18 d19 d20 d21 d22 d23 d24 d25 d26 d27 d28 d29 d30 d31 d32 d33 d34 d35 d36 d37 d38:FuncData} (X:K.In h) (G:h.Ns mainGlobals mg) (hfa:mg "law"=some (.ref fa))
  (a1:At K "is_name" Dk f1 d1) (a2:At K "are_rising" Dd f2 d2) (a3:At K "is_whole" En f3 d3) (a4:At K "is_whole_from" BE f4 d4) (a5:At K "neighbours" CY f5 d5) (a6:At K "fars" KC f6 d6) (a7:At K "site_fars" DE f7 d7) (a8:At K "nearest" EY f8 d8) (a9:At K "is_opening" Dc f9 d9) (a10:At K "most_houses" CK f10 Zr) (a11:At K "are_folk_rows" BF f11 Zq) (a12:At K "are_rows" Eo f12 d12) (a13:At K "is_row_of" DH f13 d13) (a14:At K "gets_from" DI f14 d14) (a15:At K "stand" HQ f15 d15) (a16:At K "stand_by" Ek f16 d16) (a17:At K "are_prices" De f17 d17) (a18:At K "is_levy" Fd f18 d18) (a19:At K "lets_by" EZ f19 d19) (a20:At K "are_goings" Df f20 d20) (a21:At K "_law_pen" Fb f21 d21) (a22:At K "_law_take" Bn f22 d22) (a23:At K "_law_names" DG f23 d23) (a24:At K "_law_ways" Cp f24 d24) (a25:At K "_law_some" Ds f25 d25) (a26:At K "_law_case" Em f26 d26) (a27:At K "_law_fars" El f27 d27) (a28:At K "_law_openings" C2 f28 d28) (a29:At K "_law_gets" Dt f29 d29) (a30:At K "_law_stand" DF f30 d30) (a31:At K "_law_raised" CZ f31 d31) (a32:At K "_law_prices" C1 f32 d32) (a33:At K "_law_let" Fc f33 d33) (a34:At K "_law_is_number" Ci f34 d34) (a35:At K "_law_rows_right" BQ f35 d35) (a36:At K "_law_nearest" Ce f36 d36) (a37:At K "_law_paper" Bb f37 d37) (a38:At K "law" QG f38 d38)
  (z1:ag K mainGlobals "bool"=some none) (z2:ag K mainGlobals "isinstance"=some none) (z3:ag K mainGlobals "range"=some none) (z4:ag K mainGlobals "abs"=some none) (z5:ag K mainGlobals "len"=some none) (z6:ag K mainGlobals "int"=some none) (z7:ag K mainGlobals "sorted"=some none) (z8:ag K mainGlobals "tuple"=some none) (z9:ag K mainGlobals "list"=some none) (z10:ag K mainGlobals "min"=some none) (z11:ag K mainGlobals "dict"=some none) (z12:ag K mainGlobals "max"=some none) (z13:ag K mainGlobals "all"=some none) (z14:ag K mainGlobals "set"=some none) (z15:ag K mainGlobals "str"=some none) (z16:ag K mainGlobals "zip"=some none) (z17:ag K mainGlobals "sum"=some none) {tc1:Tok} (w1:ag K mainGlobals "MOST_LETTERS"=some (some (.int 6 tc1))) :
  ∃ fd:FuncData,(∀ (s:Shared) (v:Value),BindsTo s fd ⟨[v],[]⟩ [("_law_script",v)])/\∀ base:Heap,K.In base->base.Ns mainGlobals mg->A7 l.prog w K mg base Bq 8 fa fd ["_law_script"] (NF K):=by
 cases hfa.symm.trans (aL X G a38.1)
 have y1:=ZW X G z1;have y2:=ZW X G z2;have y3:=ZW X G z3;have y4:=ZW X G z4;have y5:=ZW X G z5;have y6:=ZW X G z6;have y7:=ZW X G z7;have y8:=ZW X G z8;have y9:=ZW X G z9;have VJ:=ZW X G z10;have Wf:=ZW X G z11;have Xq:=ZW X G z12;have Qh:=ZW X G z13;have y14:=ZW X G z14;have Xp:=ZW X G z15;have Yo:=ZW X G z16;have y17:=ZW X G z17;have n1:=SV X G a1 (p:="thing") fun _ _ _ _ _ _ _=>rfl
 have n2:=SV X G a2 (p:="things") fun _ _ _ _ _ _ _=>rfl
 have n3:=SV X G a3 (p:="thing") fun _ _ _ _ _ _ _=>rfl
 have n4:=Ni X G a4 (p:="thing") (q:="least") fun _ _ _ _ _ _ _ _=>rfl
 have n5:=SV X G a5 (p:="web") fun _ _ _ _ _ _ _=>rfl
 have n6:=Ni X G a6 (p:="web") (q:="place") fun _ _ _ _ _ _ _ _=>rfl
 have n7:=SV X G a7 (p:="case") fun _ _ _ _ _ _ _=>rfl
 have n8:=Ni X G a8 (p:="web") (q:="starts") fun _ _ _ _ _ _ _ _=>rfl
 have n9:=Ni X G a9 (p:="case") (q:="thing") fun _ _ _ _ _ _ _ _=>rfl
 have n10:=SV X G a10 (p:="case") fun _ _ _ _ _ _ _=>rfl
 have n11:=Ni X G a11 (p:="case") (q:="thing") fun _ _ _ _ _ _ _ _=>rfl
 have n12:=Ni X G a12 (p:="thing") (q:="places") fun _ _ _ _ _ _ _ _=>rfl
 have n13:=Ni X G a13 (p:="row") (q:="place") fun _ _ _ _ _ _ _ _=>rfl
 have n14:=Um X G a14 (p:="case") (q:="prices") (r:="away") fun _ _ _ _ _ _ _ _ _=>rfl
 have n15:=Um X G a15 (p:="case") (q:="prices") (r:="levy") fun _ _ _ _ _ _ _ _ _=>rfl
 have n16:=fa4 X G a16 (p:="case") (q:="aways") (r:="prices") (t:="levy") fun _ _ _ _ _ _ _ _ _ _=>rfl
 have n17:=Ni X G a17 (p:="case") (q:="thing") fun _ _ _ _ _ _ _ _=>rfl
 have n18:=Ni X G a18 (p:="case") (q:="thing") fun _ _ _ _ _ _ _ _=>rfl
 have n19:=Ni X G a19 (p:="case") (q:="paper") fun _ _ _ _ _ _ _ _=>rfl
 have n20:=Um X G a20 (p:="case") (q:="opening") (r:="thing") fun _ _ _ _ _ _ _ _ _=>rfl
 have n21:=Ni X G a21 (p:="_law_script") (q:="_law_k") fun _ _ _ _ _ _ _ _=>rfl
 have TX:=Ni X G a22 (p:="_law_pen_here") (q:="_law_many") fun _ _ _ _ _ _ _ _=>rfl
 have n23:=Ni X G a23 (p:="_law_pen_here") (q:="_law_many") fun _ _ _ _ _ _ _ _=>rfl
 have n24:=Um X G a24 (p:="_law_pen_here") (q:="_law_names_here") (r:="_law_kind") fun _ _ _ _ _ _ _ _ _=>rfl
 have n25:=Um X G a25 (p:="_law_pen_here") (q:="_law_names_here") (r:="_law_most") fun _ _ _ _ _ _ _ _ _=>rfl
 have YA:=Ni X G a26 (p:="_law_pen_here") (q:="_law_kind") fun _ _ _ _ _ _ _ _=>rfl
 have n27:=SV X G a27 (p:="_law_case_here") fun _ _ _ _ _ _ _=>rfl
 have n28:=SV X G a28 (p:="_law_case_here") fun _ _ _ _ _ _ _=>rfl
 have n29:=fa4 X G a29 (p:="_law_case_here") (q:="_law_away") (r:="_law_prices_here") (t:="_law_site") fun _ _ _ _ _ _ _ _ _ _=>rfl
 have n30:=fa4 X G a30 (p:="_law_case_here") (q:="_law_away") (r:="_law_prices_here") (t:="_law_levy") fun _ _ _ _ _ _ _ _ _ _=>rfl
 have n31:=fa5 X G a31 (p:="_law_case_here") (q:="_law_away") (r:="_law_prices_here") (t:="_law_levy") (u:="_law_at") fun _ _ _ _ _ _ _ _ _ _ _=>rfl
 have n32:=fa4 X G a32 (p:="_law_pen_here") (q:="_law_case_here") (r:="_law_away") (t:="_law_levy") fun _ _ _ _ _ _ _ _ _ _=>rfl
 have n33:=Um X G a33 (p:="_law_case_here") (q:="_law_away") (r:="_law_paper_here") fun _ _ _ _ _ _ _ _ _=>rfl
 have n34:=SV X G a34 (p:="_law_thing") fun _ _ _ _ _ _ _=>rfl
 have n35:=Ni X G a35 (p:="_law_case_here") (q:="_law_rows") fun _ _ _ _ _ _ _ _=>rfl
 have n36:=Um X G a36 (p:="_law_away") (q:="_law_place") (r:="_law_opening") fun _ _ _ _ _ _ _ _ _=>rfl
 have n37:=Um X G a37 (p:="_law_pen_here") (q:="_law_case_here") (r:="_law_away") fun _ _ _ _ _ _ _ _ _=>rfl
 obtain ⟨oc,od,kV,doc,pm,an,cdv,ct,osl,e,lk,hcd⟩:=a38.2.ex;exact ⟨d38,fun s v=>by subst e; exact .of_eq rfl,fun base _ _=>Ve y1 y2 y3 n21 (MP y4 y5 a21.2) TX (B8 a22.2) YA (LW y6 y5 y7 y8 TX (B8 a22.2) n23 (KS y5 y3 TX (B8 a22.2) a23.2) n24 (LU y6 y5 y3 y7 y8 TX (B8 a22.2) a24.2) n25 (Hh y5 y9 VJ y3 TX (B8 a22.2) a25.2) a26.2) n27 (LV y6 a27.2) n37 (KR y6 y5 y7 y8 TX (B8 a22.2) n25 (Hh y5 y9 VJ y3 TX (B8 a22.2) a25.2) n32 (J8 y5 y9 y3 y8 TX (B8 a22.2) n31 (J7 Wf Xq VJ n29 (Hi Wf Xq a29.2) a31.2) a32.2) n36 (IH VJ a36.2) a37.2) n19 (MN y2 y5 y8 n9 (J9 Qh Wf y2 y5 y8 n10 (IG y5 VJ a10.2) n2 (JA Qh y9 y7 y14 n1 (HV ⟨y5,y2,Xp,Qh,⟨_,aL X G w1⟩⟩ a1.2) a2.2) a9.2) n20 (JC Qh n11 (Ee n12 (Hk Qh y2 y5 y8 Yo n13 (FR y2 y5 y8 n1 (HV ⟨y5,y2,Xp,Qh,⟨_,aL X G w1⟩⟩ a1.2) a13.2) a12.2) a11.2) n1 (HV ⟨y5,y2,Xp,Qh,⟨_,aL X G w1⟩⟩ a1.2) a20.2) n15 (Rk n17 (JB Qh n11 (Ee n12 (Hk Qh y2 y5 y8 Yo n13 (FR y2 y5 y8 n1 (HV ⟨y5,y2,Xp,Qh,⟨_,aL X G w1⟩⟩ a1.2) a13.2) a12.2) a11.2) n4 (Ec n3 (Hj y1 y6 y2 a3.2) a4.2) a17.2) n18 (MR n4 (Ec n3 (Hj y1 y6 y2 a3.2) a4.2) a18.2) n7 (KP n6 (S2 ⟨⟨n5.F,n5.mg,n5.b⟩,VJ,n8.F,n8.mg,n8.b⟩ a6.2) a7.2) n16 (LS Qh n14 (KU Wf Xq y17 a14.2) a16.2) a15.2) a19.2) n33 (MQ y2 y5 y8 n28 (HD y6 y5 y7 a28.2) n35 (FQ y2 y5 y8 Yo a35.2) n34 (Gv y1 y6 y2 a34.2) n30 (KQ n29 (Hi Wf Xq a29.2) a30.2) a33.2) a38.2⟩
theorem UH {K:Z1} {H:Hp} {a:Addr} {xs:List V} (o:Tp H) (h:AS K H a xs):Tj K H a xs:=by
 rcases h with (h | ⟨ob,h⟩) | h
 ·rcases o a with z | ⟨ob,ys,z⟩ <;> (rw [h] at z; cases z)
 ·exact .inl ⟨ob,h⟩
 ·exact .inr h
theorem walk {l:cH} {q:Program} {loose:List Str} {XP:(Str->Option Value)->Heap->Prop} {YP:World->Heap->Prop} {d:DefRec} {K:Params->Z1} (hn:l.most=some 63) (hdf:d.params.defaults=[])
  (hY:∀ (w:World) (h:Heap),YP w h->(K w.params).In h)
  (F:∀ (w:World) (mg:Str->Option Value) (fa:Addr) (h:Heap),(K w.params).In h->h.Ns mainGlobals mg->mg d.name=some (.ref fa) ->
   ∃ fd:FuncData,(∀ (s:Shared) (u:Value),BindsTo s fd ⟨[u],[]⟩ [("_law_script",u)])/\∀ base:Heap,(K w.params).In base->base.Ns mainGlobals mg->A7 l.prog w (K w.params) mg base Bq 8 fa fd ["_law_script"] (NF (K w.params))) :
  eD q loose XP YP l.row.toRowW d [] (fun f vs=>PySem.call f vs):=
 L2.walk_of (n:=63) (k:=8) (x:="_law_script") (CX:=fun _=>Bq) (sp:=fun w=>NF (K w.params)) hn (by decide) hdf ⟨rfl,by decide,by decide,rfl⟩ hY F (fun _ _ a ns hl ho hS=>⟨a,ns,rfl,UH ho hS,hl,fun _=>rfl⟩) fun _ _ _ _ _ z=>z
end K20
structure PySem.W.Fast:Prop where
  (tw10413026426795381013 tw14980973065094855792 tw16347436232211971962 tw12002692024649802441 tw7397050069386591325 tw8212487990195404561 tw11021523945567121375 tw15964753768077912450 tw5400670679262489347 tw11245963097698952404 tw14172083674315584458 tw3907899009546432881 tw16623786110344288670 tw2351376583791863439 tw11389118714625891577 tw7820937888379260868 tw11962240745188403604 tw9524112139914545460 tw7457804110527450676 tw146483618019338139 tw17322545082072056490 tw14496396211558243763 tw1249899014740104019 tw16489961443026693297 tw9976746848292090369 tw12847595949665894785 tw2083043753076697472 tw15718202057075568256 tw2005105077745791628 tw14490844585493952625 tw15720521461184168104 tw15405344226617499054 tw5908049194122287733 tw776115637302775027 tw7002553654895940921 tw12183123227873886265 tw9029309047526754074 tw12118789405349201630 tw17920613581420407612 tw3474757465290888524 tw9911469167256170726 tw17523044175368643909 tw14921281546675754449 tw4348664329235702654 tw8232464901358931128 tw13185671169236176642 tw296233530243916248 tw6504269929637371814 tw8257065166546544985 tw15675065226428088544 tw5128564797342593725 tw6733878116372116214 tw8626872767581004174 tw15717234509464109960 tw12688843961073526727 tw16195972946959990145 tw5092572390516741680 tw9654684077221615237 tw15896650697169413629 tw7564122601171955059 tw11624645515880187744 tw5300986374918187843 tw11455175275443354751 tw7782600691598876137 tw9603175655338689957 tw17300343388839657865 tw12469924755490221886 tw2470986195255605549 tw52280491343506579 tw2452867063791539913 tw9499880886384752667 tw8468567967183779221 tw17505433317828793992 tw17588677317846846419 tw3217028702876455726 tw5534121092692459237 tw2167309802608441349 tw6362334066876998835 tw13922783346994584445 tw14205444715060889376 tw17805234061358884311 tw8681138012291402285 tw10470980498168443038 tw7655433524114041250 tw1968197987106423422 tw2137716996757476302 tw1464654723081256343 tw8563633936609941385 tw11781865772568840670 tw17904518898895152384 tw14801384727785055510 tw6838090738446877336 tw6437635348583152499 tw18185533391398838217 tw6559719829958978772 tw13551674674785782412 tw7255195440285101863 tw10101251961668751199 tw10070072934333155416 tw13888981885891443405 tw15067645545590672314 tw9912422017859420850 tw136013261744188796 tw7399941437579002063 tw6255379511841778737 tw3110906397792509199 tw11082440251354914186 tw4685559031619197284 tw8901015895020909133 tw17937908748291200340 tw7332816192067272599 tw5723147529783353320 tw5310879077629451357 tw967561921492339442 tw6603687961115773304 tw3181321526823343706 tw10627036542950434875 tw1473911499297846466 tw428854016692646946 tw16436413843421450569 tw15245206633230761486 tw1219433676604735637 tw16142353841231574431:True)
open PySem PySem.W PyProof.Rows
set_option maxRecDepth 100000 in
set_option maxHeartbeats 0 in
theorem PySem.Challenge.cw_openhouses_k20_papers_let_by_holds : PySem.Challenge.rw_openhouses_k20_papers_let_by.Holds := by
 w_on; o_law; k_head; (case hw=>w_witness2)
 k_fill
 refine K20.walk (l:=PySem.Challenge.rw_openhouses_k20_papers_let_by) rfl rfl (fun w h Y=>PySem.W.kIn_of Y) ?F
 case F=>
  intro w mg fa h KX G hmg;refine' K20.all_mk KX G hmg (L2.at_mk ?a1 ?l1 ?c1 ?k1) (L2.at_mk ?a2 ?l2 ?c2 ?k2) (L2.at_mk ?a3 ?l3 ?c3 ?k3) (L2.at_mk ?a4 ?l4 ?c4 ?k4) (L2.at_mk ?a5 ?l5 ?c5 ?k5) (L2.at_mk ?a6 ?l6 ?c6 ?k6) (L2.at_mk ?a7 ?l7 ?c7 ?k7) (L2.at_mk ?a8 ?l8 ?c8 ?k8) (L2.at_mk ?a9 ?l9 ?c9 ?k9) (L2.at_mk ?a10 ?l10 ?c10 ?k10) (L2.at_mk ?a11 ?l11 ?c11 ?k11) (L2.at_mk ?a12 ?l12 ?c12 ?k12) (L2.at_mk ?a13 ?l13 ?c13 ?k13) (L2.at_mk ?a14 ?l14 ?c14 ?k14) (L2.at_mk ?a15 ?l15 ?c15 ?k15) (L2.at_mk ?a16 ?l16 ?c16 ?k16) (L2.at_mk ?a17 ?l17 ?c17 ?k17) (L2.at_mk ?a18 ?l18 ?c18 ?k18) (L2.at_mk ?a19 ?l19 ?c19 ?k19) (L2.at_mk ?a20 ?l20 ?c20 ?k20) (L2.at_mk ?a21 ?l21 ?c21 ?k21) (L2.at_mk ?a22 ?l22 ?c22 ?k22) (L2.at_mk ?a23 ?l23 ?c23 ?k23) (L2.at_mk ?a24 ?l24 ?c24 ?k24) (L2.at_mk ?a25 ?l25 ?c25 ?k25) (L2.at_mk ?a26 ?l26 ?c26 ?k26) (L2.at_mk ?a27 ?l27 ?c27 ?k27) (L2.at_mk ?a28 ?l28 ?c28 ?k28) (L2.at_mk ?a29 ?l29 ?c29 ?k29) (L2.at_mk ?a30 ?l30 ?c30 ?k30) (L2.at_mk ?a31 ?l31 ?c31 ?k31) (L2.at_mk ?a32 ?l32 ?c32 ?k32) (L2.at_mk ?a33 ?l33 ?c33 ?k33) (L2.at_mk ?a34 ?l34 ?c34 ?k34) (L2.at_mk ?a35 ?l35 ?c35 ?k35) (L2.at_mk ?a36 ?l36 ?c36 ?k36) (L2.at_mk ?a37 ?l37 ?c37 ?k37) (L2.at_mk ?a38 ?l38 ?c38 ?k38) ?z1 ?z2 ?z3 ?z4 ?z5 ?z6 ?z7 ?z8 ?z9 ?z10 ?z11 ?z12 ?z13 ?z14 ?z15 ?z16 ?z17 ?w1;any_goals k_is
