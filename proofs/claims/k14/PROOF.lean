import PyProof.Rows.All
import Wide.All
import OpenK.AllK
import Wide.FinOn
import Lean
import PyProof.EqAt
import PyProof.EqKinds
import PyProof.TupleCall
import PyProof.P3Eq
import PyProof.NeData
import PyProof.P3In
import PyProof.StrLawsChain
import KE.KIntText
import KE.IntTextLaws
import PyProof.Rows.StrJoinMade
import PyProof.Rows.FStr
import PyProof.ListMulRoad
import PyProof.EnumStmt
import PyProof.Rows.SortRev
import PySem.Challenge.RW_openhouses_k14_whole_costs_hang_together
open List renaming length_map→ZR,getElem?_eq_getElem→ZS,mem_cons→ZU,mem_of_getElem?→ZW,length_append→ZY,mem_map→ZZ,map_append→aa,not_mem_nil→af,getElem?_eq_some_iff→ag,getElem?_map→ai,getD_eq_getElem?_getD→aj,mem_singleton→ar,map_cons→au,mem_append_right→aw,mem_cons_of_mem→aA,size_toArray→aB,take_add_one→aD,getElem_of_mem→aF,mem_append→aG,mem_cons_self→aJ,length_cons→aK,take_length→aL,length_take→aO,getElem?_append_right→aP,map_map→aT,mem_append_left→aV,getElem?_cons_zero→aX,getElem?_append_left→aY,length_singleton→bo,mem_filter→bq,nodup_cons→br,nodup_append→b8,append_assoc→bB,map_congr_left→bD,exists_mem_of_ne_nil→bE,length→bH,find?_cons→bM,length_pos_iff→bN,getElem_map→bR,drop_eq_getElem_cons→bU,pairwise_map→bX,getElem?_of_mem→bY,filter_cons→bZ,any_eq_true→cg,ext_getElem→cj,take_of_length_le→cq,filter_append→cu,append_nil→cy,extract_eq_take_drop→cD,pairwise_iff_getElem→cE,range→cJ,not_lt→cK,getElem_take→cM,take_append_drop→cS,getElem_inj→cW,length_drop→cX,all_eq_true→cZ,any_cons→de,filter_nil→di,filter_sublist→dk,reverse_append→dq,pairwise_cons→dv,perm_ext_iff_of_nodup→dy,lookup_cons→dF,getElem_mem→dI,length_eq_zero_iff→dJ,nil_sublist→dM,getElem?_set_self→dN,map_nil→dO,length_zip→dW,length_filter_le→dY,lt_irrefl→eh,drop_zero→e6,cons→eA,filterMap_cons→eC,mem_map_of_mem→eD,map_eq_nil_iff→eE,cons_append→eP,sublist_nil→eQ,foldl_cons→eR,of_mem_zip→eU,length_nil→eV,nil_append→eW,mem_range→fc,nodup_nil→ff,getElem?_take_of_lt→fj,all_cons→fk,lt_trans→fu,getElem?_cons_succ→fJ,pairwise_singleton→fK,idxOf?_eq_some_iff→fU,perm_append_comm→fZ,getElem?_eq_none→gb,getElem?_set_ne→gf,mem_erase_of_ne→gi,length_eraseIdx→gn,reverse_reverse→gq,getElem_toArray→gr,take_succ_cons→gz,drop_succ_cons→g5,mem_filterMap→g6,map_inj_right→g7,ext_getElem?→g8,take_sublist→g9,flatten_cons→gB,length_range→gC,getElem_zip→gF,take_succ→gG,take_zero→gH,le_trans→gL,lt_asymm→gM,sum_cons→gN,take_nil→gO,drop_nil→gP,map_take→gR,map_drop→gT,foldl→gZ
open PySem.Heap renaming get?_push_of_some→ZT,lt_size→ae,get?_push_size→ah,get?_update_other→bj,size_push→bx,get?_update_self→b7,get?_update_ne→cG,size_update→gE
open PySem.W renaming Frag→ZV,mg_none_of→bz,nsIn→bC,fnOf→ck,keepIn→dP,codeIn→dQ,mg_of→e7,methodObj→eF,OpenLaw→eL,cellsFrom_some→fg,WalkO→gD
open Nat renaming le_refl→ZX,lt_of_lt_of_le→ak,ne_of_lt→ao,zero_le→aH,lt_succ_of_lt→aN,le_trans→aQ,lt_succ_self→aU,le_succ→aW,lt_irrefl→bp,ne_of_gt→bA,zero_add→bG,le_of_lt→cN,le_succ_of_le→cQ,lt_or_ge→dt,not_lt→dU,sub_self→dX,pow_le_pow_right→eB,eq_zero_or_pos→eJ,log2_lt→eX,min_self→gc,not_lt_zero→gI,add_assoc→gU,le_of_eq→gY,mod_lt→h8
open Bool renaming false_eq_true→aq,false_ne_true→az,and_eq_true→b9,eq_iff_iff→bV,not_true→cH,not_eq_true'→eK,or_false→gJ,and_true→gK
open Array renaming length_toList→aE,toList_append→aZ,size_push→bg,getElem?_toList→bh,size_append→bL,getElem?_eq_getElem→bT,toList_push→bW,size_extract→cn,perm_iff_toList_perm→cB,toList_inj→cV,toList_extract→dc,toList_reverse→df,getD_eq_getD_getElem?→dj,toList→eI,toList_setIfInBounds→eY,size_map→eZ,ext→fq,getElem?_eq_none→fQ,toArray_toList→fY,size_reverse→gy,getD→gX
open Option renaming some→aI,toList_some→bF,none→cY,toList→dB,isSome_iff_exists→fe,map_eq_some_iff→fo,isSome_some→gh,isSome_map→gx,map_some→gA
open Int renaming mul_le_mul_of_nonneg_right→aM,le_refl→bJ,mul_le_mul_of_nonneg_left→bK,zero_add→bQ,lt_of_le_of_lt→cx,emod_nonneg→cz,le_trans→cF,emod_lt_of_pos→cL,mul_comm→cR,add_mul→dh,le_of_lt→du,mul_nonneg→dz,lt_of_lt_of_le→dA,toNat_natCast→dE,le_antisymm→dZ,add_assoc→eG,le_of_eq→eM,zero_mul→eN,lt_trans→eO,mul_le_mul→fh,add_zero→fX,natAbs_dvd_natAbs→gj,add_le_add→gQ,mul_assoc→gW,mul_add→h7
set_option Elab.async false
set_option linter.all false
set_option maxRecDepth 100000
set_option maxHeartbeats 4000000
namespace L2
open PySem PySem.W PyProof.Rows
structure PN (lt:Keyed->Keyed->Bool):Prop where
 irr:∀ a,lt a a=false
 tra:∀ a b c,lt a b=true->lt b c=true->lt a c=true
 neg:∀ a b c,lt a c=true->lt a b=true\/lt b c=true
def Nl (lt:Keyed->Keyed->Bool) (a b:Keyed):Prop:=lt b a=false
section
variable {lt:Keyed->Keyed->Bool}
theorem PN.rfl' (h:PN lt) (a:Keyed):Nl lt a a:=h.irr a
theorem PN.of_lt (h:PN lt) {a b:Keyed} (e:lt a b=true):Nl lt a b:=by
 unfold Nl;cases z:lt b a
 ·rfl
 ·have:=h.tra _ _ _ e z;rw [h.irr] at this;cases this
theorem PN.trans (h:PN lt) {a b c:Keyed} (x:Nl lt a b) (y:Nl lt b c):Nl lt a c:=by
 unfold Nl at *;cases z:lt c a
 ·rfl
 ·rcases h.neg _ b _ z with q | q
  ·rw [y] at q; cases q
  ·rw [x] at q; cases q
end
def AQ (xs:Array Keyed) (i:Nat):Keyed:=xs.getD i (Value.none,Value.none)
theorem Of {xs:Array Keyed} {i:Nat} (h:i < xs.size):xs[i]? = some (AQ xs i):=by
 unfold AQ;simp [gX,h]
theorem Gv {xs ys:Array Keyed} {i j:Nat} (h:xs[i]? = ys[j]?):AQ xs i=AQ ys j:=by
 unfold AQ;rw [dj,dj,h]
theorem K7 {xs:Array Keyed} {i:Nat} (h:i < xs.size):AQ xs i ∈ xs:=Array.mem_of_getElem? (Of h)
def KS (prog:Program) (w:World) (A:Around) (s:Shared) (κ:SortKind) (lt:Keyed->Keyed->Bool) (a0:Array Keyed):Prop:=
 ∀ x y,x ∈ a0->y ∈ a0->∀ (Q:Bool->Shared->Prop) (E:Value->Shared->Prop),Q (lt x y) s->wpAny (model prog w) A (keyLt' κ x.1 y.1) Q E s
section
variable {prog:Program} {w:World} {A:Around} {E:Value->Shared->Prop} {s:Shared} {κ:SortKind} {lt:Keyed->Keyed->Bool} {a0:Array Keyed}
theorem AA {xs:Array Keyed} {i:Nat} {Q:Keyed->SortSt->Prop} {st:SortSt} (hi:i < xs.size) (h:Q (AQ xs i) st):wpS (model prog w) A E s (elem' xs i) Q st:=by
 rw [elem'_eq,Of hi];exact wpS_pure h
theorem F2 {x y:Keyed} {Q:Option Bool->SortSt->Prop} {st:SortSt} (an:KS prog w A s κ lt a0) (hk:kindOf st=κ) (hx:x ∈ a0) (hy:y ∈ a0) (h:Q (some (lt x y)) st) :
  wpS (model prog w) A E s (lt' x y) Q st:=by
 rw [lt'_eq];refine wpS_bind (wpS_get ?_);rw [hk];refine wpS_bind (wpS_lift (wpAny_attempt (an x y hx hy _ _ ⟨rfl,?_⟩)));exact wpS_pure h
theorem By {i j:Nat} {Q:Option Bool->SortSt->Prop} {st:SortSt} (an:KS prog w A s κ lt a0) (hk:kindOf st=κ) (hp:(arrOf st).Perm a0) (hi:i < a0.size) (hj:j < a0.size)
  (h:Q (some (lt (AQ (arrOf st) i) (AQ (arrOf st) j))) st):wpS (model prog w) A E s (ltAt' i j) Q st:=by
 rw [ltAt'_eq];refine wpS_bind (wpS_get ?_);have e:=hp.size_eq;refine wpS_bind (AA (by lia) (wpS_bind (AA (by lia) ?_)));exact F2 an hk ((Array.Perm.mem_iff hp).mp (K7 (by lia))) ((Array.Perm.mem_iff hp).mp (K7 (by lia))) h
def Tv:Bool->Keyed->Array Keyed->Nat->Nat->Nat->StateT SortSt Sem (Option Nat):=sortPriv% PySem.Builtin.gallop
def UD (lt:Keyed->Keyed->Bool) (left:Bool) (key x:Keyed):Bool:=if left=true then lt x key else !(lt key x)
def Wc (left:Bool) (key:Keyed) (arr:Array Keyed) (base i:Nat):StateT SortSt Sem (Option Bool):=do
 let x <- elem' arr (base + i)
 if left=true then lt' x key else do
  let r <- lt' key x
  pure (Option.map (fun b=>!b) r)
theorem Qf {left:Bool} {key:Keyed} {arr:Array Keyed} {base i:Nat} {Q:Option Bool->SortSt->Prop} {st:SortSt} (an:KS prog w A s κ lt a0) (hk:kindOf st=κ)
  (hkey:key ∈ a0) (hx:AQ arr (base + i) ∈ a0) (hi:base + i < arr.size) (h:Q (some (UD lt left key (AQ arr (base + i)))) st):wpS (model prog w) A E s (Wc left key arr base i) Q st:=by
 unfold Wc;refine wpS_bind (AA hi ?_);unfold UD at h;cases left with
 | true=>
  simp only [if_true] at h ⊢;exact F2 an hk hx hkey h
 | false=>
  simp only [aq,if_false] at h ⊢;exact wpS_bind (F2 an hk hkey hx (wpS_pure h))
theorem Ld {ρ:Type} {body:Nat->Option ρ × Nat × Nat->StateT SortSt Sem (ForInStep (Option ρ × Nat × Nat))} {f:Nat->Bool} {n lo hi:Nat} {st:SortSt}
  (hs:∀ x l (R:ForInStep (Option ρ × Nat × Nat)->SortSt->Prop),R (.done (none,l,l)) st->wpS (model prog w) A E s (body x (none,l,l)) R st)
  (hg:∀ x l r (R:ForInStep (Option ρ × Nat × Nat)->SortSt->Prop),l < r->r<=n ->
   (f (l + (r - l) / 2)=true->R (.yield (none,l + (r - l) / 2 + 1,r)) st)->(f (l + (r - l) / 2)=false->R (.yield (none,l,l + (r - l) / 2)) st)->wpS (model prog w) A E s (body x (none,l,r)) R st)
  (hl:lo<=hi) (hn:hi<=n) (mono:∀ i j,i<=j->j < n->f j=true->f i=true)
  (h1:∀ i,i < lo->f i=true) (h2:∀ i,hi<=i->i < n->f i=false) :
  wpS (model prog w) A E s (forIn [0:n] (none,lo,hi) body) (fun c An=>An=st/\∃ r,c=(none,r,r)/\r<=n/\(∀ i,i < r->f i=true)/\(∀ i,r<=i->i < n->f i=false)) st:=by
 refine wpS_forRange (I:=fun x c An=>An=st/\∃ l r,c=(none,l,r)/\l<=r/\r<=n/\r - l<=n - x/\(∀ i,i < l->f i=true)/\(∀ i,r<=i->i < n->f i=false)) ?_ ?_ ⟨rfl,lo,hi,rfl,hl,hn,by lia,h1,h2⟩
 ·rintro x c An _ hx ⟨rfl,l,r,rfl,q1,q2,q3,q4,q5⟩;by_cases hlr:l < r
  ·have hm:l + (r - l) / 2 < r:=by lia
   refine hg _ _ _ _ hlr q2 (fun e=>?_) (fun e=>?_)
   ·exact ⟨rfl,_,r,rfl,by lia,by lia,by lia,fun i i1=>mono _ _ (by lia) (by lia) e,q5⟩
   ·refine ⟨rfl,l,_,rfl,by lia,by lia,by lia,q4,fun i i1 i2=>?_⟩;cases z:f i
    ·rfl
    ·rw [mono _ _ i1 i2 z] at e; cases e
  ·have:l=r:=by lia
   subst this;exact hs _ _ _ ⟨rfl,l,rfl,q2,q4,q5⟩
 ·rintro c An ⟨rfl,l,r,rfl,q1,q2,q3,q4,q5⟩;have:l=r:=by lia
  subst this;exact ⟨rfl,l,rfl,q2,q4,q5⟩
end
section lists
variable {lt:Keyed->Keyed->Bool}
theorem Eh {xs:Array Keyed} {i:Nat} (h:i < xs.toList.length):xs.toList[i]=AQ xs i:=by
 have h':i < xs.size:=by simpa using h
 unfold AQ;simp [gX,h']
theorem IH {xs:Array Keyed} {i:Nat} (h:i < xs.size):xs.toList.drop i=AQ xs i :: xs.toList.drop (i + 1):=by
 rw [bU (by simpa using h),Eh]
theorem Li {xs:Array Keyed} {i:Nat} (h:i < xs.size):xs.toList.take (i + 1)=xs.toList.take i ++ [AQ xs i]:=by
 rw [gG,ZS (by simpa using h),Eh];rfl
theorem JL (xs:Array Keyed) (i k:Nat):xs.toList.drop i=(xs.extract i (i + k)).toList ++ xs.toList.drop (i + k):=by
 rw [dc,cD,Nat.add_sub_cancel_left,<-List.drop_drop];exact (cS _ _).symm
theorem EI {xs:Array Keyed} {i j:Nat} (h:i<=j):xs.toList.take j=xs.toList.take i ++ (xs.extract i j).toList:=by
 rw [dc,cD];have:j=i + (j - i):=by lia
 rw [this,List.take_add,<-this]
theorem UE {xs:Array Keyed} (h:∀ i j,i < j->j < xs.size->Nl lt (AQ xs i) (AQ xs j)):xs.toList.Pairwise (Nl lt):=by
 rw [cE];intro i j hi hj hij;rw [Eh,Eh];exact h i j hij (by simpa using hj)
theorem ER (xs:Array Keyed) (i:Nat):(xs.extract i).toList=xs.toList.drop i:=by
 rw [dc,cD];exact cq (by simp)
theorem EO (xs:Array Keyed) (i:Nat):(xs.extract 0 i).toList=xs.toList.take i:=by
 rw [dc,cD];rfl
end lists
section
variable {prog:Program} {w:World} {A:Around} {E:Value->Shared->Prop} {s:Shared} {κ:SortKind} {lt:Keyed->Keyed->Bool} {a0:Array Keyed}
def Rw:Array Keyed->Array Keyed->StateT SortSt Sem (Array Keyed):=sortPriv% PySem.Builtin.mergeLo
abbrev Cj (st:SortSt) (g:Nat):SortSt:=SortSt.mk' (kindOf st) (arrOf st) (pendingOf st) g (failedOf st)
theorem Bw {α:Type} {c:Prop} [Decidable c] {t e:StateT SortSt Sem α} {Q:α->SortSt->Prop} {st:SortSt} (hp:c->wpS (model prog w) A E s t Q st) (hn:¬ c->wpS (model prog w) A E s e Q st):wpS (model prog w) A E s (if c then t else e) Q st:=by
 by_cases h:c
 ·rw [if_pos h]; exact hp h
 ·rw [if_neg h]; exact hn h
theorem Bz {α:Type} {m n:Nat} {t e:StateT SortSt Sem α} {Q:α->SortSt->Prop} {st:SortSt} (hp:m=n->wpS (model prog w) A E s t Q st) (hn:¬ m=n->wpS (model prog w) A E s e Q st):wpS (model prog w) A E s (if (m == n)=true then t else e) Q st:=
 Bw (fun h=>hp (by simpa using h)) (fun h=>hn (by simpa using h))
theorem dup1 {G:Prop} {α:Type} {T:α->Prop} (main:(∀ x,T x)->G) (leaf:∀ x,T x):G:=main leaf
theorem TJ {G:Prop} {α β:Type} {T:α->β->Prop} (C:α->β->Prop) (main:(∀ x y,C x y->T x y)->G) (leaf:∀ x y,C x y->T x y):G:=main leaf
end
section
variable {prog:Program} {w:World} {A:Around} {E:Value->Shared->Prop} {s:Shared} {κ:SortKind} {lt:Keyed->Keyed->Bool} {a0:Array Keyed}
def Rx:Array Keyed->Array Keyed->StateT SortSt Sem (Array Keyed):=sortPriv% PySem.Builtin.mergeHi
end
section segs
variable {lt:Keyed->Keyed->Bool}
def SS (lt:Keyed->Keyed->Bool) (xs:Array Keyed) (lo hi:Nat):Prop:=∀ i j,lo<=i->i<=j->j < hi->Nl lt (AQ xs i) (AQ xs j)
def NS (lt:Keyed->Keyed->Bool) (xs:Array Keyed) (lo hi:Nat):Prop:=∀ i j,lo<=i->i<=j->j < hi->Nl lt (AQ xs j) (AQ xs i)
theorem Dg {xs:Array Keyed} {i j:Nat} (hj:j<=xs.size) (k:Nat):AQ (mirror xs i j ((j - i) / 2)) k=if i<=k/\k < j then AQ xs (i + j - 1 - k) else AQ xs k:=by
 have e:=getElem?_mirror_all (i:=i) hj k;split at e
 ·rw [if_pos ‹_›]; exact Gv e
 ·rw [if_neg ‹_›]; exact Gv e
theorem Ft {xs:Array Keyed} {src d:Nat} (hs:src < xs.size) (hd:d<=src) (k:Nat) :
  AQ (bubble xs src d) k=if k=src - d then AQ xs src else if src - d < k/\k<=src then AQ xs (k - 1) else AQ xs k:=by
 have e:=getElem?_bubble hs d hd k;by_cases h1:k=src - d
 ·rw [if_pos h1] at e ⊢; exact Gv e
 ·by_cases h2:src - d < k/\k<=src
  ·rw [if_neg h1,if_pos h2] at e ⊢; exact Gv e
  ·rw [if_neg h1,if_neg h2] at e ⊢; exact Gv e
theorem NS.mirror {xs:Array Keyed} {lo hi:Nat} (h:NS lt xs lo hi) (hs:hi<=xs.size):SS lt (mirror xs lo hi ((hi - lo) / 2)) lo hi:=by
 intro i j h1 h2 h3;rw [Dg hs,Dg hs,if_pos ⟨h1,by lia⟩,if_pos ⟨by lia,h3⟩];exact h _ _ (by lia) (by lia) (by lia)
theorem NS.even {xs:Array Keyed} {lo p hi:Nat} (h:NS lt xs lo hi) (hs:hi<=xs.size) (hp:lo<=p) (e:∀ i j,p<=i->i < hi->p<=j->j < hi->Nl lt (AQ xs i) (AQ xs j)) {top:Nat} (ht:hi<=top) (h':NS lt xs lo top) :
  NS lt (PyProof.Rows.mirror xs p hi ((hi - p) / 2)) lo top:=by
 intro i j h1 h2 h3;rw [Dg hs,Dg hs];by_cases c1:p<=j/\j < hi
 ·rw [if_pos c1];by_cases c2:p<=i/\i < hi
  ·rw [if_pos c2];exact e _ _ (by lia) (by lia) (by lia) (by lia)
  ·rw [if_neg c2];exact h' _ _ h1 (by lia) (by lia)
 ·rw [if_neg c1];by_cases c2:p<=i/\i < hi
  ·rw [if_pos c2];exact h' _ _ (by lia) (by lia) h3
  ·rw [if_neg c2];exact h' _ _ h1 h2 h3
def Kp (xs ys:Array Keyed) (lo:Nat):Prop:=ys.Perm xs/\∀ k,k < lo->AQ ys k=AQ xs k
theorem Kp.refl (xs:Array Keyed) (lo:Nat):Kp xs xs lo:=⟨Array.Perm.refl _,fun _ _=>rfl⟩
theorem Kp.size {xs ys:Array Keyed} {lo:Nat} (h:Kp xs ys lo):ys.size=xs.size:=h.1.size_eq
theorem Kp.mirror {xs ys:Array Keyed} {lo i j:Nat} (h:Kp xs ys lo) (hj:j<=xs.size) (hi:lo<=i):Kp xs (PyProof.Rows.mirror ys i j ((j - i) / 2)) lo:=by
 refine ⟨(mirror_perm _ _ _ _).trans h.1,fun k hk=>?_⟩;rw [Dg (by rw [h.size]; exact hj),if_neg (by lia)];exact h.2 k hk
theorem Kp.bubble {xs ys:Array Keyed} {lo src d:Nat} (h:Kp xs ys lo) (hs:src < xs.size) (hd:lo + d<=src):Kp xs (PyProof.Rows.bubble ys src d) lo:=by
 refine ⟨(bubble_perm _ _ _).trans h.1,fun k hk=>?_⟩;rw [Ft (by rw [h.size]; exact hs) (by lia),if_neg (by lia),if_neg (by lia)];exact h.2 k hk
end segs
section
variable {prog:Program} {w:World} {A:Around} {E:Value->Shared->Prop} {s:Shared} {κ:SortKind} {lt:Keyed->Keyed->Bool} {a0:Array Keyed}
theorem C9 {i j:Nat} {Q:Unit->SortSt->Prop} {st:SortSt} (h:Q () (setArr st (mirror (arrOf st) i j ((j - i) / 2)))):wpS (model prog w) A E s (reverseSlice' i j) Q st:=by
 rw [reverseSlice'_eq];exact wpS_modify h
theorem Hv {body:Nat->Option (Option Nat) × Nat->StateT SortSt Sem (ForInStep (Option (Option Nat) × Nat))} {f:Nat->Bool} {a nrem:Nat} {st:SortSt} (ha:a<=nrem)
  (hb:∀ x n (R:ForInStep (Option (Option Nat) × Nat)->SortSt->Prop),a<=n->n < nrem->(f n=true->R (.done (none,n)) st)->(f n=false->R (.yield (none,n + 1)) st)->wpS (model prog w) A E s (body x (none,n)) R st) :
  wpS (model prog w) A E s (forIn [a:nrem] (none,a) body) (fun c An=>An=st/\∃ n,c=(none,n)/\a<=n/\n<=nrem/\(∀ i,a<=i->i < n->f i=false)/\(n=nrem\/f n=true)) st:=by
 refine wpS_forRange (I:=fun x c An=>An=st/\c=(none,x)/\(∀ i,a<=i->i < x->f i=false)) ?_ ?_ ⟨rfl,rfl,fun i h1 h2=>by lia⟩
 ·rintro x c An h1 h2 ⟨rfl,rfl,q⟩;refine hb _ _ _ h1 h2 (fun e=>⟨rfl,x,rfl,h1,by lia,q,.inr e⟩) (fun e=>⟨rfl,rfl,fun i i1 i2=>?_⟩);by_cases z:i=x
  ·rw [z]; exact e
  ·exact q i i1 (by lia)
 ·rintro c An ⟨rfl,rfl,q⟩;rw [Nat.max_eq_right ha] at q ⊢;exact ⟨rfl,nrem,rfl,ha,ZX _,q,.inl rfl⟩
theorem Ur {xs:Array Keyed} (sw:PN lt) {lo a n:Nat} (h:SS lt xs lo (lo + a)) (ha:1<=a) (q:∀ i,a<=i->i < n->lt (AQ xs (lo + i)) (AQ xs (lo + i - 1))=false):SS lt xs lo (lo + n):=by
 have step:∀ d,a + d<=n->SS lt xs lo (lo + (a + d)):=by
  intro d;induction d with
  | zero=>intro _; exact h
  | succ d ih=>
   intro hd i j h1 h2 h3;by_cases hj:j < lo + (a + d)
   ·exact ih (by lia) i j h1 h2 hj
   ·have ej:j=lo + (a + d):=by lia
    by_cases hi:i=j
    ·rw [hi]; exact sw.rfl' _
    ·have q1:=q (a + d) (by lia) (by lia);rw [<-ej] at q1;exact sw.trans (ih (by lia) i (j - 1) h1 (by lia) (by lia)) q1
 rcases dt n a with BE | hge
 ·exact fun i j h1 h2 h3=>h i j h1 h2 (by lia)
 ·have:=step (n - a) (by lia);rw [show a + (n - a)=n by lia] at this;exact this
theorem Jf {lo nrem:Nat} {Q:Option Nat->SortSt->Prop} {st:SortSt} (sw:PN lt) (an:KS prog w A s κ lt a0) (hk:kindOf st=κ) (hp:(arrOf st).Perm a0) (hn:lo + nrem<=a0.size) (h1:1<=nrem)
  (h:∀ m ys,Kp (arrOf st) ys lo->1<=m->m<=nrem->SS lt ys lo (lo + m)->Q (some m) (setArr st ys)):wpS (model prog w) A E s (countRun' lo nrem) Q st:=by
 have hz:=hp.size_eq;refine wpS_bind (wpS_mono (Hv (f:=fun n=>lt (AQ (arrOf st) (lo + n)) (AQ (arrOf st) (lo + n - 1))) h1 ?_) ?_)
 ·intro x n R n1 n2 y1 y2;dsimp only;refine wpS_bind (By an hk hp (by lia) (by lia) ?_);dsimp only;cases e:lt (AQ (arrOf st) (lo + n)) (AQ (arrOf st) (lo + n - 1))
  ·exact wpS_pure (y2 e)
  ·exact wpS_pure (y1 e)
 rintro c An ⟨rfl,n,rfl,n1,n2,q,hor⟩;dsimp only;have s0:SS lt (arrOf An) lo (lo + 1):=fun i j a1 a2 a3=>by
  have:i=j:=by lia
  rw [this];exact sw.rfl' _
 have sn:SS lt (arrOf An) lo (lo + n):=Ur sw s0 (ZX _) q;by_cases hnn:n=nrem
 ·rw [if_pos (by simpa using hnn)];exact wpS_pure (h n _ (Kp.refl _ _) n1 n2 sn)
 rw [if_neg (by simpa using hnn)];have BE:lt (AQ (arrOf An) (lo + n)) (AQ (arrOf An) (lo + n - 1))=true:=hor.resolve_left hnn;by_cases hgt:n > 1
 case' pos=>
  rw [if_pos hgt];refine wpS_bind (By an hk hp (by lia) (by lia) ?_);dsimp only;cases hrose:lt (AQ (arrOf An) lo) (AQ (arrOf An) (lo + n - 1))
  case' true=>
   simp only [if_true];exact wpS_pure (h n _ (Kp.refl _ _) n1 n2 sn)
  case' false=>
   simp only [aq,if_false];refine wpS_bind (C9 ?_);have even:∀ i j,lo<=i->i < lo + n->lo<=j->j < lo + n->Nl lt (AQ (arrOf An) i) (AQ (arrOf An) j):=by
    intro i j a1 a2 a3 a4;have b1:=sn lo j (ZX _) a3 a4;have b2:=sn i (lo + n - 1) a1 (by lia) (by lia);exact sw.trans (sw.trans b2 hrose) b1
   have ns0:NS lt (arrOf An) lo (lo + n):=fun i j a1 a2 a3=>even j i (by lia) a3 a1 (by lia)
   have ns1:NS lt (arrOf An) lo (lo + (n + 1)):=by
    intro i j a1 a2 a3;by_cases hj:j < lo + n
    ·exact ns0 i j a1 a2 hj
    ·have ej:j=lo + n:=by lia
     by_cases hi:i=j
     ·rw [hi]; exact sw.rfl' _
     ·rw [ej];exact sw.trans (sw.of_lt BE) (even _ _ (by lia) (by lia) a1 (by lia))
   have kp:Kp (arrOf An) (mirror (arrOf An) lo (lo + n) ((lo + n - lo) / 2)) lo:=(Kp.refl _ _).mirror (by lia) (ZX _);have ns:NS lt (mirror (arrOf An) lo (lo + n) ((lo + n - lo) / 2)) lo (lo + (n + 1)):=ns0.even (by lia) (ZX _) even (by lia) ns1;obtain ⟨ys,ey⟩:∃ ys,ys=mirror (arrOf An) lo (lo + n) ((lo + n - lo) / 2):=⟨_,rfl⟩
   rw [<-ey] at kp ns;show wpS (model prog w) A E s _ Q (setArr An (mirror (arrOf An) lo (lo + n) ((lo + n - lo) / 2)))
   rw [<-ey]
 case' neg=>
  rw [if_neg hgt];have en:n=1:=by lia
  have kp:Kp (arrOf An) (arrOf An) lo:=Kp.refl _ _;have ns:NS lt (arrOf An) lo (lo + (n + 1)):=by
   intro i j a1 a2 a3;by_cases hi:i=j
   ·rw [hi]; exact sw.rfl' _
   ·have e1:j=lo + n:=by lia
    have e2:i=lo + n - 1:=by lia
    rw [e1,e2];exact sw.of_lt BE
  obtain ⟨ys,ey⟩:∃ ys,ys=arrOf An:=⟨_,rfl⟩
  rw [<-ey] at ns;have kp:Kp (arrOf An) ys lo:=by rw [ey]; exact Kp.refl _ _
  show wpS (model prog w) A E s _ Q (setArr An (arrOf An))
  rw [<-ey]
 all_goals
  refine wpS_bind (wpS_lift (wpAny_rule ⟨rfl,?_⟩));refine wpS_bind (wpS_mono (wpS_forRange (I:=fun x c Bj=>∃ neq ys,c=(none,x,neq)/\Bj=setArr An ys/\Kp (arrOf An) ys lo/\NS lt ys lo (lo + x)/\neq + 1<=x /\
    (∀ i j,lo + x - (neq + 1)<=i->i < lo + x->lo + x - (neq + 1)<=j->j < lo + x->Nl lt (AQ ys i) (AQ ys j)))
   (Q:=fun c Bj=>∃ m neq ys,c=(none,m,neq)/\Bj=setArr An ys/\Kp (arrOf An) ys lo/\n + 1<=m/\m<=nrem/\NS lt ys lo (lo + m)/\neq + 1<=m /\
    (∀ i j,lo + m - (neq + 1)<=i->i < lo + m->lo + m - (neq + 1)<=j->j < lo + m->Nl lt (AQ ys i) (AQ ys j))) ?dstep ?dfin ?dinit) ?dpost)
  case dinit=>
   refine ⟨0,ys,rfl,rfl,kp,ns,by lia,fun i j a1 a2 a3 a4=>?_⟩;have:i=j:=by lia
   rw [this];exact sw.rfl' _
  case dfin=>
   rintro c Bj ⟨neq,ys,rfl,rfl,kp,ns,a1,a2⟩;have e:max (n + 1) nrem=nrem:=by lia
   rw [e] at ns a1 a2 ⊢;exact ⟨nrem,neq,ys,rfl,rfl,kp,by lia,ZX _,ns,a1,a2⟩
  case dstep=>
   rintro x c Bj x1 x2 ⟨neq,ys,rfl,rfl,kp,ns,a1,a2⟩;dsimp only;have hzy:=kp.size;have hpy:(arrOf (setArr An ys)).Perm a0:=kp.1.trans hp;refine wpS_bind (By (st:=setArr An ys) an hk hpy (by lia) (by lia) ?_);dsimp only;cases hless:lt (AQ ys (lo + x)) (AQ ys (lo + x - 1))
   ·simp only [aq,if_false];refine wpS_bind (By (st:=setArr An ys) an hk hpy (by lia) (by lia) ?_);dsimp only;cases hlarger:lt (AQ ys (lo + x - 1)) (AQ ys (lo + x))
    ·simp only [aq,if_false];refine wpS_pure ⟨neq + 1,ys,rfl,rfl,kp,?_,by lia,?_⟩
     ·intro i j b1 b2 b3;by_cases hj:j < lo + x
      ·exact ns i j b1 b2 hj
      ·have ej:j=lo + x:=by lia
       by_cases hi:i=j
       ·rw [hi]; exact sw.rfl' _
       ·rw [ej];exact sw.trans hlarger (ns _ _ b1 (by lia) (by lia))
     ·have pin:∀ i,lo + (x + 1) - (neq + 1 + 1)<=i->i < lo + (x + 1)->Nl lt (AQ ys i) (AQ ys (lo + x - 1))/\Nl lt (AQ ys (lo + x - 1)) (AQ ys i):=by
       intro i b1 b2;by_cases hi:i=lo + x
       ·rw [hi];exact ⟨hlarger,hless⟩
       ·exact ⟨a2 _ _ (by lia) (by lia) (by lia) (by lia),a2 _ _ (by lia) (by lia) (by lia) (by lia)⟩
      intro i j b1 b2 b3 b4;exact sw.trans (pin i b1 b2).1 (pin j b3 b4).2
    ·simp only [if_true];exact wpS_pure ⟨x,neq,ys,rfl,rfl,kp,x1,by lia,ns,a1,a2⟩
   ·simp only [if_true];have LI:NS lt ys lo (lo + (x + 1)):=by
     intro i j b1 b2 b3;by_cases hj:j < lo + x
     ·exact ns i j b1 b2 hj
     ·have ej:j=lo + x:=by lia
      by_cases hi:i=j
      ·rw [hi]; exact sw.rfl' _
      ·rw [ej];exact sw.trans (sw.of_lt hless) (ns _ _ b1 (by lia) (by lia))
    have one:∀ (zs:Array Keyed) i j,lo + (x + 1) - (0 + 1)<=i->i < lo + (x + 1)->lo + (x + 1) - (0 + 1)<=j->j < lo + (x + 1)->Nl lt (AQ zs i) (AQ zs j):=by
     intro zs i j b1 b2 b3 b4;have:i=j:=by lia
     rw [this];exact sw.rfl' _
    by_cases hq:neq > 0
    ·rw [if_pos hq];refine wpS_bind (C9 (wpS_pure ⟨0,_,rfl,rfl,kp.mirror (by lia) (by lia),?_,by lia,one _⟩));exact ns.even (by show _<=ys.size; lia) (by lia) a2 (by lia) LI
    ·rw [if_neg hq];exact wpS_pure ⟨0,ys,rfl,rfl,kp,LI,by lia,one _⟩
  case dpost=>
   rintro c Bj ⟨m,neq,zs,rfl,rfl,kz,m1,m2,nz,a1,a2⟩;dsimp only;have hzz:=kz.size;by_cases hq:neq > 0
   case' pos=>
    rw [if_pos hq];refine wpS_bind (C9 ?_);have Sj:Kp (arrOf An) (mirror zs (lo + m - (neq + 1)) (lo + m) ((lo + m - (lo + m - (neq + 1))) / 2)) lo:=kz.mirror (by lia) (by lia);have YI:NS lt (mirror zs (lo + m - (neq + 1)) (lo + m) ((lo + m - (lo + m - (neq + 1))) / 2)) lo (lo + m):=nz.even (by lia) (by lia) a2 (ZX _) nz;obtain ⟨us,eu⟩:∃ us,us=mirror zs (lo + m - (neq + 1)) (lo + m) ((lo + m - (lo + m - (neq + 1))) / 2):=⟨_,rfl⟩
    rw [<-eu] at Sj YI;show wpS (model prog w) A E s _ Q (setArr An (mirror zs (lo + m - (neq + 1)) (lo + m) ((lo + m - (lo + m - (neq + 1))) / 2)))
    rw [<-eu]
   case' neg=>
    rw [if_neg hq];obtain ⟨us,eu⟩:∃ us,us=zs:=⟨_,rfl⟩
    have Sj:Kp (arrOf An) us lo:=by rw [eu]; exact kz
    have YI:NS lt us lo (lo + m):=by rw [eu]; exact nz
    rw [<-eu]
   all_goals
    have hzu:=Sj.size;refine wpS_bind (C9 ?_);show wpS (model prog w) A E s _ Q (setArr An (mirror us lo (lo + m) ((lo + m - lo) / 2)))
    have kv:Kp (arrOf An) (mirror us lo (lo + m) ((lo + m - lo) / 2)) lo:=Sj.mirror (by lia) (ZX _);have sv:SS lt (mirror us lo (lo + m) ((lo + m - lo) / 2)) lo (lo + m):=YI.mirror (by lia);obtain ⟨vs,ev⟩:∃ vs,vs=mirror us lo (lo + m) ((lo + m - lo) / 2):=⟨_,rfl⟩
    rw [<-ev] at kv sv;rw [<-ev];have hzv:=kv.size;refine wpS_bind (wpS_mono (Hv (f:=fun n=>lt (AQ vs (lo + n)) (AQ vs (lo + n - 1))) m2 ?_) ?_)
    ·intro x n R n1 n2 y1 y2;dsimp only;refine wpS_bind (By (st:=setArr An vs) an hk (kv.1.trans hp) (by lia) (by lia) ?_);dsimp only;cases e:lt (AQ vs (lo + n)) (AQ vs (lo + n - 1))
     ·exact wpS_pure (y2 e)
     ·exact wpS_pure (y1 e)
    rintro c Ya ⟨rfl,n',rfl,b1,b2,b3,_⟩;exact wpS_pure (h n' vs kv (by lia) b2 (Ur sw sv (by lia) b3))
theorem Hk {lo n ok:Nat} {Q:Bool->SortSt->Prop} {st:SortSt} (sw:PN lt) (an:KS prog w A s κ lt a0) (hk:kindOf st=κ) (hp:(arrOf st).Perm a0) (hn:lo + n<=a0.size) (h1:1<=ok) (hok:ok<=n)
  (hs:SS lt (arrOf st) lo (lo + ok)) (h:∀ ys,Kp (arrOf st) ys lo->SS lt ys lo (lo + n)->Q true (setArr st ys)):wpS (model prog w) A E s (binarySort' lo n ok) Q st:=by
 have hz:=hp.size_eq;refine wpS_bind (wpS_mono (wpS_forRange (I:=fun k c An=>c=(none,())/\∃ ys,An=setArr st ys/\Kp (arrOf st) ys lo/\SS lt ys lo (lo + k))
  (Q:=fun c An=>c=(none,())/\∃ ys,An=setArr st ys/\Kp (arrOf st) ys lo/\SS lt ys lo (lo + n)) ?step ?fin ?init) ?post)
 case init=>
  rw [Nat.max_eq_left h1];exact ⟨rfl,arrOf st,rfl,Kp.refl _ _,hs⟩
 case fin=>
  rintro c An ⟨rfl,ys,rfl,kp,ss⟩;rw [show max (max ok 1) n=n by lia] at ss;exact ⟨rfl,ys,rfl,kp,ss⟩
 case post=>
  rintro c An ⟨rfl,ys,rfl,kp,ss⟩;exact wpS_pure (h ys kp ss)
 case step=>
  rintro k c An k1 k2 ⟨rfl,ys,rfl,kp,ss⟩;dsimp only;have hzy:=kp.size;have hpy:(arrOf (setArr st ys)).Perm a0:=kp.1.trans hp;refine wpS_bind (wpS_mono (Ld (f:=fun m=>!(lt (AQ ys (lo + k)) (AQ ys (lo + m)))) (n:=k) ?_ ?_ (aH _) (ZX _) ?_ ?_ ?_) ?_)
  ·intro x l R hR;dsimp only;rw [if_pos (ZX _)];exact wpS_pure hR
  ·intro x l r R hlr hrk y1 y2;dsimp only;rw [if_neg (by lia),show (l + r) / 2=l + (r - l) / 2 by lia];refine wpS_bind (By (st:=setArr st ys) an hk hpy (by lia) (by lia) ?_);dsimp only;cases e:lt (AQ ys (lo + k)) (AQ ys (lo + (l + (r - l) / 2)))
   ·exact wpS_pure (y1 (by rw [e]; rfl))
   ·exact wpS_pure (y2 (by rw [e]; rfl))
  ·intro i j hij hj e;simp only [eK] at e ⊢;exact sw.trans (ss _ _ (by lia) (by lia) (by lia)) e
  ·intro i hi;lia
  ·intro i hi1 Xd;lia
  ·rintro c G5 ⟨rfl,r,rfl,r1,r2,r3⟩;refine wpS_bind ?_;rw [show (sortPriv% PySem.Builtin.moveDown)=moveDown' from rfl,moveDown'_eq];refine wpS_modify (wpS_pure ⟨rfl,bubble ys (lo + k) (lo + k - (lo + r)),rfl,kp.bubble (by lia) (by lia),?_⟩);intro i j a1 a2 a3;rw [Ft (by lia) (by lia),Ft (by lia) (by lia)];have g1:∀ m,lo<=m->m < lo + r->Nl lt (AQ ys m) (AQ ys (lo + k)):=fun m b1 b2=>by
    have q:=r2 (m - lo) (by lia);simp only [eK] at q;rw [show lo + (m - lo)=m by lia] at q;exact q
   have g2:∀ m,lo + r<=m->m < lo + k->Nl lt (AQ ys (lo + k)) (AQ ys m):=fun m b1 b2=>by
    have q:=r3 (m - lo) (by lia) (by lia);simp only [Bool.not_eq_false'] at q;rw [show lo + (m - lo)=m by lia] at q;exact sw.of_lt q
   repeat' split
   all_goals first
    | exact sw.rfl' _
    | exact g1 _ (by lia) (by lia)
    | exact g2 _ (by lia) (by lia)
    | exact ss _ _ (by lia) (by lia) (by lia)
    | (exfalso; lia)
end
section
variable {lt:Keyed->Keyed->Bool}
theorem FN (xs:Array Keyed) (i:Nat):AQ xs i=xs.toList.getD i (Value.none,Value.none):=by
 unfold AQ;rw [dj,aj,bh]
theorem GY {xs:Array Keyed} {a b i:Nat} (h1:a + i < b) (h2:b<=xs.size):AQ (xs.extract a b) i=AQ xs (a + i):=by
 apply Gv;rw [Array.getElem?_extract,if_pos (by lia)]
theorem Ly (base:Nat):∀ (l:List Keyed) (off:Nat) (xs:Array Keyed),base + off + l.length<=xs.size ->
  ((l.zipIdx off).foldl (fun a x=>a.setIfInBounds (base + x.2) x.1) xs).toList=xs.toList.take (base + off) ++ l ++ xs.toList.drop (base + off + l.length)
 | [],off,xs,h=>by simp
 | y :: l,off,xs,h=>by
  rw [List.zipIdx_cons,eR];have hl:base + off < xs.toList.length:=by simp at h ⊢; lia
  rw [Ly base l (off + 1) (xs.setIfInBounds (base + off) y) (by rw [Array.size_setIfInBounds]; simp at h ⊢; lia)];rw [eY,<-gU,gG,List.take_set_of_le (ZX _),dN hl,List.drop_set_of_lt (by lia)];simp only [dB,aK];rw [show base + off + 1 + l.length=base + off + (l.length + 1) by lia];simp
theorem Pq {a b:List Keyed} {k:Nat} {d:Keyed} (h:k < a.length):(a ++ b).getD k d=a.getD k d:=by
 rw [aj,aj,aY h]
theorem Pp {a b:List Keyed} {k:Nat} {d:Keyed} (h:a.length<=k):(a ++ b).getD k d=b.getD (k - a.length) d:=by
 rw [aj,aj,aP h]
def Qg (p:Nat × Nat × Nat):Nat × Nat:=(p.1,p.2.1)
end
section
variable {prog:Program} {w:World} {A:Around} {E:Value->Shared->Prop} {s:Shared} {κ:SortKind} {lt:Keyed->Keyed->Bool} {a0:Array Keyed}
theorem Su {σ:Type} {M:Model} {st An:σ} {Q:PUnit->σ->Prop} (h:Q ⟨⟩ An):wpS M A E s (set An:StateT σ Sem PUnit) Q st:=by
 unfold wpS;rw [StateT.run_set];exact wpAny_pure ⟨rfl,h⟩
end
section
variable {prog:Program} {w:World} {A:Around} {E:Value->Shared->Prop} {s:Shared} {κ:SortKind} {lt:Keyed->Keyed->Bool} {a0:Array Keyed}
theorem Iu (p:Array (Nat × Nat × Nat)) (i:Nat) (f:Nat × Nat × Nat->Nat × Nat × Nat) (hf:∀ x,Qg (f x)=Qg x):(p.modify i f).toList.map Qg=p.toList.map Qg:=by
 apply g8;intro k;rw [ai,ai,bh,bh,Array.getElem?_modify];split
 ·cases p[k]? with
  | none=>rfl
  | some x=>show some (Qg (f x))=some (Qg x); rw [hf]
 ·rfl
theorem VO (c:Bool) (n:Nat) (h:1 < n):(if c=true then n - 2 - 1 else n - 2) + 1 < n:=by
 split <;> lia
end
end L2
namespace L2
open PySem PySem.Spec PyProof.Rows
abbrev AK:=Sum Int Str
def GX:AK->Value->Bool
 | .inl k,v=>Value.isInt k v
 | .inr x,v=>Value.isStrOf x v
def keyH (w:World):AK->Int
 | .inl k=>hashInt k
 | .inr x=>hashStr w x
theorem Bn:∀ {k:AK} {v:Value},GX k v=true->(∃ i t,k=Sum.inl i/\v=Value.int i t)\/(∃ x t,k=Sum.inr x/\v=Value.str x t)
 | .inl i,v,h=>by
  obtain ⟨t,e⟩:=Value.isInt_shape (k:=i) (v:=v) h;exact .inl ⟨i,t,rfl,e⟩
 | .inr x,v,h=>by
  obtain ⟨t,e⟩:=Value.isStrOf_shape (x:=x) (v:=v) h;exact .inr ⟨x,t,rfl,e⟩
theorem Pf (i:Int) (t:Tok):GX (.inl i) (.int i t)=true:=by simp [GX,Value.isInt]
theorem Pe (x:Str) (t:Tok):GX (.inr x) (.str x t)=true:=by simp [GX,Value.isStrOf]
theorem Vx (a b:Int):decide ((Sum.inl a:AK)=Sum.inl b)=(a == b):=by
 by_cases e:a=b
 ·subst e; simp
 ·have h:¬ (Sum.inl a:AK)=Sum.inl b:=fun q=>e (Sum.inl.inj q)
  rw [decide_eq_false h];exact (beq_eq_false_iff_ne.mpr e).symm
theorem Vu (a b:Str):decide ((Sum.inr a:AK)=Sum.inr b)=decide (a=b):=by
 by_cases e:a=b
 ·subst e; simp
 ·have h:¬ (Sum.inr a:AK)=Sum.inr b:=fun q=>e (Sum.inr.inj q)
  rw [decide_eq_false h,decide_eq_false e]
theorem Vw (a:Int) (b:Str):decide ((Sum.inl a:AK)=Sum.inr b)=false:=decide_eq_false (fun q=>nomatch q)
theorem Vv (a:Str) (b:Int):decide ((Sum.inr a:AK)=Sum.inl b)=false:=decide_eq_false (fun q=>nomatch q)
def AO (prog:Program) (w:World):PySem.KeyKind prog w AK where
 is:=GX
 hash:=keyH w
 inj:=fun v a b ha hb=>by
  rcases Bn ha with ⟨i,t,rfl,rfl⟩ | ⟨x,t,rfl,rfl⟩
  ·rcases Bn hb with ⟨j,u,rfl,e⟩ | ⟨y,u,rfl,e⟩
   ·injection e with e1 _; rw [e1]
   ·exact nomatch e
  ·rcases Bn hb with ⟨j,u,rfl,e⟩ | ⟨y,u,rfl,e⟩
   ·exact nomatch e
   ·injection e with e1 _; rw [e1]
 byValue:=fun k v h=>by
  rcases Bn h with ⟨i,t,rfl,rfl⟩ | ⟨x,t,rfl,rfl⟩ <;> rfl
 pyHash:=fun hv h=>by
  rcases Bn hv with ⟨i,t,rfl,rfl⟩ | ⟨x,t,rfl,rfl⟩
  ·exact wpAny_pyHash_int h
  ·exact wpAny_pyHash_str h
 eqBool:=fun hu hv h=>by
  rcases Bn hu with ⟨i,t,rfl,rfl⟩ | ⟨x,t,rfl,rfl⟩
  ·rcases Bn hv with ⟨j,u,rfl,rfl⟩ | ⟨y,u,rfl,rfl⟩
   ·rw [Vx] at h; exact wpAny_eqBool_int h
   ·rw [Vw] at h; exact SeqAt.EqAt.int_str i t y u _ _ _ _ h
  ·rcases Bn hv with ⟨j,u,rfl,rfl⟩ | ⟨y,u,rfl,rfl⟩
   ·rw [Vv] at h; exact SeqAt.EqAt.str_int x t j u _ _ _ _ h
   ·rw [Vu] at h; exact wpAny_eqBool_str h
 «strs»:=fun k x t v h=>by
  rcases Bn h with ⟨i,u,rfl,e⟩ | ⟨y,u,rfl,e⟩
  ·exact nomatch e
  ·injection e with e1 _;subst e1;cases v <;> rfl
theorem MQ (prog:Program) (w:World) (k:AK) (v:Value):(AO prog w).is k v=GX k v:=rfl
theorem LK (prog:Program) (w:World) (i:Int) (t:Tok):(AO prog w).is (.inl i) (.int i t)=true:=Pf i t
theorem GR (prog:Program) (w:World) (x:Str) (t:Tok):(AO prog w).is (.inr x) (.str x t)=true:=Pe x t
inductive V where
 | non | bl (b:Bool) | int (i:Int) | str (x:Str) | byt (b:Array UInt8) | flt (b:UInt64) | ref (a:Addr) | ty (n:String)
 deriving DecidableEq
def AF:V->Value->Prop
 | .non,u=>u=Value.none
 | .bl b,u=>u=Value.bool b
 | .int i,u=>∃ t,u=Value.int i t
 | .str x,u=>∃ t,u=Value.str x t
 | .byt b,u=>∃ t,u=Value.bytes b t
 | .flt b,u=>∃ t,u=Value.float b t
 | .ref a,u=>u=Value.ref a
 | .ty n,u=>u=Value.type n
abbrev A3:List V->List Value->Prop:=Paired AF
theorem A3.length {xs:List V} {us:List Value} (r:A3 xs us):xs.length=us.length:=Paired.length r
theorem A3.get:∀ {xs:List V} {us:List Value} {i:Nat} {x:V},A3 xs us->xs[i]? = some x->∃ u,us[i]? = some u/\AF x u
 | _,_,_,_,.nil,e=>by simp at e
 | _,_,0,_,.cons r _,e=>by simp at e; subst e; exact ⟨_,rfl,r⟩
 | _,_,i + 1,x,.cons _ t,e=>by
  obtain ⟨u,h1,h2⟩:=A3.get (i:=i) (x:=x) t (by simpa using e);exact ⟨u,by simpa using h1,h2⟩
theorem A3.set {x:V} {u:Value} (r:AF x u):∀ {xs:List V} {us:List Value} (i:Nat),A3 xs us->A3 (xs.set i x) (us.set i u)
 | _,_,_,.nil=>.nil
 | _,_,0,.cons _ t=>.cons r t
 | _,_,i + 1,.cons q t=>.cons q (A3.set r i t)
theorem A3.append:∀ {xs ys:List V} {us ws:List Value},A3 xs us->A3 ys ws->A3 (xs ++ ys) (us ++ ws)
 | _,_,_,_,.nil,s=>s
 | _,_,_,_,.cons r t,s=>.cons r (A3.append t s)
theorem A3.take:∀ {xs:List V} {us:List Value} (n:Nat),A3 xs us->A3 (xs.take n) (us.take n)
 | _,_,0,_=>.nil
 | _,_,_ + 1,.nil=>.nil
 | _,_,n + 1,.cons r t=>.cons r (A3.take n t)
theorem A3.drop:∀ {xs:List V} {us:List Value} (n:Nat),A3 xs us->A3 (xs.drop n) (us.drop n)
 | _,_,0,r=>r
 | _,_,_ + 1,.nil=>.nil
 | _,_,n + 1,.cons _ t=>A3.drop n t
def Hu:Option V->Option Value->Prop
 | some v,some u=>AF v u
 | none,none=>True
 | _,_=>False
def KV {κ:Type}:List (κ × V)->List (κ × Value)->Prop:=Paired fun (p:κ × V) (q:κ × Value)=>p.1=q.1/\AF p.2 q.2
def kV:AK->V
 | .inl i=>.int i
 | .inr x=>.str x
inductive HO where
 /-- a list -/
 | lst (xs:List V)
 /-- a tuple (never changes) -/
 | tup (xs:List V)
 /-- a dict whose keys are ints and texts; one whose keys are tuples of ints and texts (the empty one is both) -/
 | dK (kvs:List (AK × V)) | dT (kvs:List (List AK × V))
 /-- a set of ints: Az members,Az size -/
 | set (S:Int->Bool) (n:Nat)
 /-- an instance of the class at C,Az dict at dx,Az attributes -/
 | ins (C dx:Addr) (fs:List (Str × V))
 /-- the dict of the instance at x -/
 | own (x:Addr)
 /-- the dict of an exception -/
 | xd (fs:List (Str × V))
 /-- a bound method,f of x -/
 | met (f x:Addr)
 /-- a range object lo,lo + 1,.. below hi -/
 | rng (lo hi:Int)
 /-- a thing that is known to the object (the script; a dict while a loop walks it): read,never written while it is so -/
 | frz (o:Obj) (u:HO)
 /-- a code WD table -/
 | tbl (ps:Array Value)
 /-- any other thing,by what is true of Az one object (a def of one's own: SetO a S n:=HO.ext fun h=>..) -/
 | ext (φ:Heap->Prop)
abbrev Hp:=Addr->Option HO
def upd (H:Hp) (a:Addr) (o:HO):Hp:=fun b=>if b=a then some o else H b
theorem Ab {H:Hp} {a:Addr} {o:HO}:upd H a o a=some o:=by unfold upd; rw [if_pos rfl]
theorem Ae {H:Hp} {a b:Addr} {o:HO} (h:b ≠ a):upd H a o b=H b:=by unfold upd; rw [if_neg h]
theorem Hw {H:Hp} {a:Addr} {o u:HO}:upd (upd H a o) a u=upd H a u:=by
 funext b; unfold upd; split <;> rfl
theorem B8 {H:Hp} {a b:Addr} {o u:HO} (h:H a=some o) (h':H b=some u) (d:o ≠ u):a ≠ b:=by
 intro e; subst e; rw [h] at h'; exact d (aI.inj h')
theorem Ah {H:Hp} {a b:Addr} {o:HO} (h:H a=some o) (h':H b=none):a ≠ b:=by
 intro e; subst e; rw [h] at h'; cases h'
def Mp (h:Heap) (a:Addr):Prop:=∀ o,h.get? a=some o->o.dict=none
theorem Mp.new {h:Heap} {o:Obj} (hd:o.dict=none) (hf:o.isFreed=false):Mp (h.push o) h.objs.size:=fun o' e=>by
 rw [ah _ hf] at e;cases e
 exact hd
section
variable (P:Program) (w:World)
def AU (H:Hp) (h:Heap) (a:Addr):HO->Prop
 | .lst xs=>xs.length<=sizeLine/\∃ (Az:List Value) (n:Nat),A3 xs Az/\h.get? a=some { cls:=.type "list",data:=.seq Az.toArray n }
 | .tup xs=>xs.length<=sizeLine/\∃ Az:List Value,A3 xs Az/\IsTup h a Az.toArray/\Mp h a
 | .dK kvs=>kvs.length<=sizeLine/\(a == sysModules)=false/\∃ vs,KV kvs vs/\h.DictOf (AO P w) a vs
 | .dT kvs=>kvs.length<=sizeLine/\(a == sysModules)=false/\∃ xs:List (List AK × Addr × Value),
   Paired (fun (p:List AK × V) (q:List AK × Addr × Value)=>p.1=q.1/\H q.2.1=some (.tup (p.1.map kV))/\AF p.2 q.2.2) kvs xs /\
   ∃ o es ep,h.get? a=some o/\o.ExactDict/\o.data=.dict es ep/\es.toList=xs.map (entryOfKey (tupleKind (AO P w)))/\(xs.map (·.1)).Nodup
 | .set S n=>h.SetOf (intKind P w) a S n
 | .ins C dx fs=>H dx=some (.own a)/\fs.length<=1000/\dx ≠ a/\h.get? a=some (PySem.W.instObj C dx) /\
   ∃ mA,h.Ns1 dx mA/\(∀ f,Hu (fs.lookup f) (mA f))/\PySem.Within mA (fs.map (·.1))
 | .own _=>∃ o,h.get? a=some o
 | .xd fs=>∃ mA,h.Ns1 a mA/\∀ f,Hu (fs.lookup f) (mA f)
 | .rng lo hi=>∃ t u v,h.get? a=some { cls:=.type "range",data:=.fields #[.int lo t,.int hi u,.int 1 v] }
 | .frz o u=>h.get? a=some o/\AU H h a u
 | .tbl ps=>h.get? a=some { cls:=.none,data:=.fields ps }
 | .met f x=>h.get? a=some (eF (.ref f) (.ref x))
 | .ext φ=>φ h/\(∃ o,h.get? a=some o)/\∀ h1 h2:Heap,φ h1->(∀ o,h1.get? a=some o->h2.get? a=some o)->φ h2
def Gb (H:Hp) (h:Heap):Prop:=∀ a o,H a=some o->AU P w H h a o
end
section
variable {P:Program} {w:World} {H H':Hp} {h h':Heap} {a:Addr} {o:HO}
theorem AU.lt (x:AU P w H h a o):a < h.objs.size:=by
 cases o with
 | lst xs=>obtain ⟨_,_,_,_,e⟩:=x; exact ae e
 | tup xs=>obtain ⟨_,_,_,p,_⟩:=x; exact p.lt
 | dK kvs=>obtain ⟨_,_,_,_,o,_,_,e,_⟩:=x; exact ae e
 | dT kvs=>obtain ⟨_,_,_,_,o,_,_,e,_⟩:=x; exact ae e
 | set S n=>obtain ⟨o,_,_,_,e,_⟩:=x; exact ae e
 | ins C dx fs=>obtain ⟨_,_,_,e,_⟩:=x; exact ae e
 | own y=>obtain ⟨_,e⟩:=x; exact ae e
 | xd fs=>obtain ⟨_,⟨_,_,_,e,_⟩,_⟩:=x; exact ae e
 | rng lo hi=>obtain ⟨_,_,_,e⟩:=x; exact ae e
 | frz ob u=>obtain ⟨e,_⟩:=x; exact ae e
 | tbl ps=>exact ae (show h.get? a=some _ from x)
 | met f y=>exact ae (show h.get? a=some _ from x)
 | ext φ=>obtain ⟨_,⟨_,e⟩,_⟩:=x; exact ae e
theorem Paired.mapP {α β:Type} {F G:α->β->Prop}:∀ {LP:List α} {LO:List β},Paired F LP LO->(∀ a b,F a b->G a b)->Paired G LP LO
 | _,_,.nil,_=>.nil
 | _,_,.cons r t,f=>.cons (f _ _ r) (Paired.mapP t f)
theorem AU.stay (x:AU P w H h a o) (k:∀ b u,(b=a\/H b=some (.own a))->h.get? b=some u->h'.get? b=some u)
  (ho:∀ b,H b=some (.own a)->H' b=some (.own a)) (ht:∀ b xs,H b=some (.tup xs)->H' b=some (.tup xs)):AU P w H' h' a o:=by
 induction o with
 | lst xs=>obtain ⟨z,Az,n,r,e⟩:=x; exact ⟨z,Az,n,r,k _ _ (.inl rfl) e⟩
 | tup xs=>
  obtain ⟨z,Az,r,⟨ob,e,c⟩,dn⟩:=x;have e':=k _ _ (.inl rfl) e;exact ⟨z,Az,r,⟨ob,e',c⟩,fun o q=>by rw [e'] at q; cases q; exact dn _ e⟩
 | dK kvs=>obtain ⟨z,y,vs,r,ob,es,ep,e,c⟩:=x; exact ⟨z,y,vs,r,ob,es,ep,k _ _ (.inl rfl) e,c⟩
 | dT kvs=>
  obtain ⟨z,y,xs,r,ob,es,ep,e,c⟩:=x;exact ⟨z,y,xs,Paired.mapP r fun p q z=>⟨z.1,ht _ _ z.2.1,z.2.2⟩,ob,es,ep,k _ _ (.inl rfl) e,c⟩
 | set S n=>obtain ⟨ob,es,ep,t,e,c⟩:=x; exact ⟨ob,es,ep,t,k _ _ (.inl rfl) e,c⟩
 | ins C dx fs=>
  obtain ⟨d,z,ne,e,mA,⟨od,es,ep,e2,c⟩,r⟩:=x;exact ⟨ho _ d,z,ne,k _ _ (.inl rfl) e,mA,⟨od,es,ep,k _ _ (.inr d) e2,c⟩,r⟩
 | own y=>obtain ⟨ob,e⟩:=x; exact ⟨ob,k _ _ (.inl rfl) e⟩
 | xd fs=>obtain ⟨mA,⟨od,es,ep,e,c⟩,r⟩:=x; exact ⟨mA,⟨od,es,ep,k _ _ (.inl rfl) e,c⟩,r⟩
 | rng lo hi=>obtain ⟨t,u,v,e⟩:=x; exact ⟨t,u,v,k _ _ (.inl rfl) e⟩
 | frz ob u ih=>obtain ⟨e,q⟩:=x; exact ⟨k _ _ (.inl rfl) e,ih q⟩
 | tbl ps=>
  have e:h.get? a=some { cls:=.none,data:=.fields ps }:=x;show h'.get? a=some { cls:=.none,data:=.fields ps }
  exact k a _ (.inl rfl) e
 | met f y=>
  have e:h.get? a=some (eF (.ref f) (.ref y)):=x;show h'.get? a=some (eF (.ref f) (.ref y))
  exact k a _ (.inl rfl) e
 | ext φ=>obtain ⟨p,⟨o,e⟩,st⟩:=x; exact ⟨st _ _ p fun o q=>k _ _ (.inl rfl) q,⟨o,k _ _ (.inl rfl) e⟩,st⟩
theorem Gb.lt (x:Gb P w H h) (e:H a=some o):a < h.objs.size:=(x a o e).lt
theorem Gb.fresh (x:Gb P w H h) (e:h.objs.size<=a):H a=none:=by
 cases q:H a with
 | none=>rfl
 | some u=>exact absurd (ak (x.lt q) e) (bp _)
theorem Gb.kept (x:Gb P w H h) (k:∀ b u,h.get? b=some u->h'.get? b=some u):Gb P w H h':=fun a o e=>
 (x a o e).stay (fun b u _ q=>k b u q) (fun _ q=>q) fun _ _ q=>q
theorem Gb.laid (x:Gb P w H h) (k:∀ b u,h.get? b=some u->h'.get? b=some u) (hp:h.objs.size<=a) (new:AU P w (upd H a o) h' a o):Gb P w (upd H a o) h':=fun b u e=>by
 have hn:=x.fresh hp;by_cases hb:b=a
 ·subst hb; rw [Ab] at e; cases e; exact new
 ·rw [Ae hb] at e;exact (x b u e).stay (fun c v _ q=>k c v q) (fun c q=>by rw [Ae (Ah q hn)]; exact q) fun c xs q=>by rw [Ae (Ah q hn)]; exact q
end
def Rd (H:Hp) (a:Addr) (u:HO):Prop:=H a=some u\/∃ o,H a=some (.frz o u)
theorem Rd.ok {P:Program} {w:World} {H:Hp} {h:Heap} {a:Addr} {u:HO} (r:Rd H a u) (x:Gb P w H h):AU P w H h a u:=by
 rcases r with r | ⟨o,r⟩
 ·exact x a u r
 ·obtain ⟨_,q⟩:=x a _ r;exact q
def Mut:Option HO->Prop
 | some (.lst _)=>True
 | some (.dK _)=>True
 | some (.dT _)=>True
 | some (.set _ _)=>True
 | some (.ins _ _ _)=>True
 | some (.ext _)=>True
 | _=>False
section
variable {P:Program} {w:World} {H:Hp} {h h':Heap} {x e:Addr} {o':HO}
theorem Gb.write (ok:Gb P w H h) (mu:Mut (H x)) (he:e=x\/H e=some (.own x)) (k:∀ b u,b ≠ e->h.get? b=some u->h'.get? b=some u) (heo:∃ u,h'.get? e=some u)
  (new:AU P w (upd H x o') h' x o'):Gb P w (upd H x o') h':=fun b u q=>by
 have nown:∀ c y,H c=some (.own y)->c ≠ x:=fun c y r z=>by subst z; rw [r] at mu; exact mu
 have ntup:∀ c xs,H c=some (.tup xs)->c ≠ x:=fun c xs r z=>by subst z; rw [r] at mu; exact mu
 by_cases hb:b=x
 ·subst hb; rw [Ab] at q; cases q; exact new
 ·rw [Ae hb] at q;by_cases hbe:b=e
  ·have q':H b=some (.own x):=by
    rcases he with z | z
    ·exact absurd (hbe.trans z) hb
    ·rw [hbe]; exact z
   rw [q] at q'; cases q';obtain ⟨v,hv⟩:=heo;exact ⟨v,by rw [hbe]; exact hv⟩
  ·refine (ok b u q).stay (fun c v hc r=>k c v ?_ r) (fun c r=>by rw [Ae (nown c b r)]; exact r) fun c xs r=>by rw [Ae (ntup c xs r)]; exact r
   rcases hc with rfl | hc
   ·exact hbe
   ·rintro rfl;rcases he with z | z
    ·exact nown c b hc z
    ·rw [hc] at z; cases z; exact hb rfl
end
structure Un (fs ex:List Addr) (H H':Hp) (h h':Heap):Prop where
 keep:∀ b o,h.get? b=some o->H b=none->b ∉ fs->b ∉ ex->h'.get? b=some o
 slot:∀ b o,h.get? b=some o->H b=none->b ∈ fs->b ∉ ex->∃ sl,h'.get? b=some { o with slots:=sl }
 free:∀ b o,h.get? b=some o->H b=none->b ∉ ex->H' b=none
 there:∀ b o,h.get? b=some o->b ∉ ex->∃ o',h'.get? b=some o'
 tups:∀ b xs,H b=some (.tup xs)->H' b=some (.tup xs)
 frzs:∀ b o u,H b=some (.frz o u)->H' b=some (.frz o u)
 tbls:∀ b ps,H b=some (.tbl ps)->∃ more,H' b=some (.tbl (ps ++ more))
section
variable {fs Wu ex ex':List Addr} {H H1 H2:Hp} {h h1 h2 h':Heap} {a x e:Addr} {o:HO}
theorem Un.any (u:Un fs ex H H1 h h1) {b:Addr} {ob:Obj} (q:h.get? b=some ob) (n:H b=none) (hx:b ∉ ex):∃ sl,h1.get? b=some { ob with slots:=sl }:=by
 by_cases hb:b ∈ fs
 ·exact u.slot b ob q n hb hx
 ·exact ⟨ob.slots,u.keep b ob q n hb hx⟩
theorem Un.kept (k:∀ b u,h.get? b=some u->h'.get? b=some u):Un fs ex H H h h':=
 ⟨fun b ob q _ _ _=>k b ob q,fun b ob q _ _ _=>⟨ob.slots,k b ob q⟩,fun _ _ _ n _=>n,fun b ob q _=>⟨ob,k b ob q⟩,fun _ _ q=>q,fun _ _ _ q=>q,fun _ ps q=>⟨#[],by rw [q]; simp⟩⟩
theorem Un.refl:Un fs ex H H h h:=Un.kept fun _ _ q=>q
theorem Un.laid (k:∀ b u,h.get? b=some u->h'.get? b=some u) (hp:h.objs.size<=a) (hn:H a=none):Un fs ex H (upd H a o) h h' where
 keep:=fun b u q _ _ _=>k b u q
 slot:=fun b u q _ _ _=>⟨u.slots,k b u q⟩
 free:=fun b u q n _=>by rw [Ae (ao (ak (ae q) hp))]; exact n
 there:=fun b u q _=>⟨u,k b u q⟩
 tups:=fun b xs q=>by rw [Ae (Ah q hn)]; exact q
 frzs:=fun b u xs q=>by rw [Ae (Ah q hn)]; exact q
 tbls:=fun b ps q=>⟨#[],by rw [Ae (Ah q hn),q]; simp⟩
theorem Un.write (mu:Mut (H x)) (he:e=x\/H e=some (.own x)) (k:∀ b u,b ≠ e->h.get? b=some u->h'.get? b=some u) (heo:∃ u,h'.get? e=some u):Un fs ex H (upd H x o) h h':=by
 have hx:∀ b,H b=none->b ≠ x:=fun b n z=>by subst z; rw [n] at mu; exact mu
 have hb:∀ b,H b=none->b ≠ e:=fun b n z=>by
  subst z;rcases he with r | r
  ·exact hx b n r
  ·rw [n] at r; cases r
 have hm:∀ b u,H b=some u->¬ Mut (some u)->b ≠ x:=fun b u q nm z=>by subst z; rw [q] at mu; exact nm mu
 refine ⟨fun b u q n _ _=>k b u (hb b n) q,fun b u q n _ _=>⟨u.slots,k b u (hb b n) q⟩,fun b u q n _=>by rw [Ae (hx b n)]; exact n,fun b u q _=>?_,
  fun b xs q=>by rw [Ae (hm b _ q fun z=>z)]; exact q,fun b u xs q=>by rw [Ae (hm b _ q fun z=>z)]; exact q,fun b ps q=>⟨#[],by rw [Ae (hm b _ q fun z=>z),q]; simp⟩⟩
 by_cases hbe:b=e
 ·subst hbe; exact heo
 ·exact ⟨u,k b u hbe q⟩
end
def trk (h:Heap) (H:Hp):List Addr:=(cJ h.objs.size).filter fun a=>(H a).isSome
def KA (h:Heap) (H:Hp):Heap:=PySem.W.hideAll h (trk h H)
theorem Pm (h:Heap) (H:Hp):(KA h H).objs.size=h.objs.size:=PySem.W.hideAll_size _ _
theorem RE {h:Heap} {H:Hp} {b:Addr} {o:Obj} (e:h.get? b=some o) (n:H b=none):(KA h H).get? b=some o:=
 PySem.W.hideAll_get _ e fun hm=>by
  have q:(H b).isSome=true:=(bq.mp hm).2;rw [n] at q; simp at q
theorem Tb {h:Heap} {H:Hp} {b:Addr} {o:Obj} (e:(KA h H).get? b=some o):h.get? b=some o/\H b=none:=by
 have e':h.get? b=some o:=PySem.W.of_hideAll (trk h H) e;refine ⟨e',?_⟩;cases q:H b with
 | none=>rfl
 | some x=>
  have hm:b ∈ trk h H:=bq.mpr ⟨fc.mpr (ae e'),by simp [q]⟩;have z:(KA h H).get? b=none:=PySem.W.hideAll_none (trk h H) hm;rw [z] at e; cases e
def TX (g h:Heap) (L:Addr):List (Addr × Obj):=(cJ h.objs.size).filterMap fun a=>if a=L\/(g.get? a).isSome=true then none else (h.get? a).map fun o=>(a,o)
def Br (g h:Heap) (L d:Addr):List (Addr × Obj):=(TX g h L).filter fun p=>decide (p.1 ≠ d)
structure Mod (K:ZV) (mg:Str->Option Value) (base:Heap):Prop where
 kin:K.In base
 glob:base.Ns mainGlobals mg
 blt:∃ mb,base.Ns builtinsNs mb/\∀ x:Str,x ≠ "__name__"->mb x=bootBuiltins x
 nolimit:base.NoLimit
structure Cx where
 prog:Program
 w:World
 K:ZV
 mg:Str->Option Value
 base:Heap
 A:Around
 N:List Str
 s₀:Shared
 H₀:Hp
 env:Env
 outer:List Env
 stack:List Env
 ex:List Addr
 fn:Str->Bool
 calm:Bool
 pn:List (Addr × Obj)
 xe:Value->Shared->Prop
def RJ (l:List Env):List Addr:=l.filterMap (·.frame)
abbrev Cx.fs (X:Cx):List Addr:=RJ X.outer
def Vis (sc:Scope) (x:Str):Prop:=sc.names.lookup x=some .local\/sc.names.lookup x=some .cell\/sc.names.lookup x=some .free
def UN (sc:Scope) (x:Str):Prop:=sc.names.lookup x=some .local\/sc.names.lookup x=some .cell
def Look (env:Env) (h:Heap) (m:Str->Option Value) (x:Str) (u:Value):Prop:=
 (env.kindOf x=some .local/\m x=some u)\/((env.kindOf x=some .cell\/env.kindOf x=some .free)/\∃ c,env.cells.lookup x=some c/\h.IsCell c (some u))
structure Cx.Ok (X:Cx):Prop where
 mod:Mod X.K X.mg X.base
 kind:X.env.scope.kind=.function
 glob:X.env.globals=mainGlobals
 blt:X.env.builtins=builtinsNs
 above:X.s₀.heap.objs.size<=X.env.locals
 inj:∀ x y c,X.env.cells.lookup x=some c->X.env.cells.lookup y=some c->x=y
 has:∀ x,(X.env.kindOf x=some .cell\/X.env.kindOf x=some .free)->∃ c,X.env.cells.lookup x=some c
 cab:∀ x c,X.fn x=true->X.env.cells.lookup x=some c->X.s₀.heap.objs.size<=c
 hd:X.calm=true->X.A.handled=none
 frames:X.A.frames=some X.stack
 stk:X.stack=X.outer\/(X.stack=X.env :: X.outer/\X.env.frame=some X.env.locals)
 exf:∀ b ∈ X.ex,b ≠ X.env.locals/\∀ x c,X.env.cells.lookup x=some c->c ≠ b
 bs:∀ b o,X.base.get? b=some o->X.s₀.heap.get? b=some o/\X.H₀ b=none
 bsz:X.base.objs.size<=X.s₀.heap.objs.size
 noex:∀ b o,X.base.get? b=some o->b ∉ X.ex
 exfs:∀ b ∈ X.ex,b ∉ X.fs
 funs:X.s₀.heap.FunFrames X.base X.outer
 frf:∀ b ∈ X.fs,X.H₀ b=none
structure Au (X:Cx) (pins:List (Addr × Obj)) (σ:List (Option V)) (H:Hp) (s:Shared):Prop where
 ok:X.Ok
 os:s.os=X.s₀.os
 bare:AllBare s.gens
 base:Un X.fs X.ex X.H₀ H X.s₀.heap s.heap
 loc:∃ m,s.heap.Ns X.env.locals m/\∀ (i:Nat) (x:Str) (v:V),X.N[i]? = some x->σ[i]? = some (some v)->Vis X.env.scope x->∃ u,AF v u/\Look X.env s.heap m x u
 cell:∀ x c,X.env.cells.lookup x=some c->∃ v,s.heap.IsCell c v
 free:H X.env.locals=none
 freeC:∀ x c,X.env.cells.lookup x=some c->H c=none
 pin:∀ p ∈ X.pn ++ pins,s.heap.get? p.1=some p.2/\H p.1=none/\p.1 ≠ X.env.locals/\p.1 ∉ X.fs/\∀ v,p.2.data ≠ .cell v
 hok:Gb X.prog X.w H s.heap
 len:σ.length=X.N.length
section
variable {X:Cx} {pins:List (Addr × Obj)} {σ:List (Option V)} {H H':Hp} {s:Shared} {h':Heap}
theorem Cx.Ok.nofr (ok:X.Ok) {b:Addr} {o:Obj} (e:X.base.get? b=some o):b ∉ X.fs:=fun hb=>by
 have:=(ok.funs.mem hb).1;rw [e] at this; cases this
theorem Au.bs (I:Au X pins σ H s):∀ b o,X.base.get? b=some o->s.heap.get? b=some o/\H b=none:=fun b o e=>
 ⟨I.base.keep b o (I.ok.bs b o e).1 (I.ok.bs b o e).2 (I.ok.nofr e) (I.ok.noex b o e),I.base.free b o (I.ok.bs b o e).1 (I.ok.bs b o e).2 (I.ok.noex b o e)⟩
theorem Au.bk (I:Au X pins σ H s):∀ b o,X.base.get? b=some o->s.heap.get? b=some o:=fun b o e=>(I.bs b o e).1
theorem Au.mod (I:Au X pins σ H s):Mod X.K X.mg X.base:=I.ok.mod
theorem Au.kIn (I:Au X pins σ H s):X.K.In s.heap:=I.ok.mod.kin.keeps I.bk
theorem Au.lt (I:Au X pins σ H s):X.env.locals < s.heap.objs.size:=let ⟨_,hn,_⟩:=I.loc; hn.lt
theorem Au.sz (I:Au X pins σ H s):X.s₀.heap.objs.size<=s.heap.objs.size:=aQ I.ok.above (cN I.lt)
theorem Au.nofs (I:Au X pins σ H s) {a:Addr} (h:s.heap.objs.size<=a):a ∉ X.fs:=fun hb=>by
 obtain ⟨_,o,ho,_⟩:=I.ok.funs.mem hb;exact absurd (ak (ae ho) (aQ I.sz h)) (bp _)
theorem Au.cne (I:Au X pins σ H s):∀ x c,X.env.cells.lookup x=some c->c ≠ X.env.locals:=fun x c e z=>by
 obtain ⟨v,o,ho,hd⟩:=I.cell x c e;obtain ⟨m,⟨o',es,ep,K9,Gw,_⟩,_⟩:=I.loc;rw [z,K9] at ho; cases ho; rw [Gw] at hd; cases hd
theorem Au.funs (I:Au X pins σ H s):s.heap.FunFrames X.base X.outer:=by
 have all:∀ (l:List Env),(∀ b ∈ RJ l,b ∈ X.fs)->X.s₀.heap.FunFrames X.base l->s.heap.FunFrames X.base l:=by
  intro l;induction l with
  | nil=>intro _ _; trivial
  | cons env r ih=>
   intro hs hl;obtain ⟨hk,⟨L,o,hf,hn,ho,hd⟩,hr⟩:=hl;have hL:L ∈ X.fs:=hs L (by unfold RJ; rw [eC,hf]; exact aJ);obtain ⟨sl,e⟩:=I.base.slot L o ho (I.ok.frf L hL) hL fun z=>I.ok.exfs L z hL
   exact ⟨hk,⟨L,_,hf,hn,e,hd⟩,ih (fun b hb=>hs b (by unfold RJ; rw [eC,hf]; exact aA _ hb)) hr⟩
 exact all X.outer (fun _ hb=>hb) I.ok.funs
theorem Au.stack (I:Au X pins σ H s):s.heap.FunFrames X.base X.stack:=by
 rcases I.ok.stk with e | ⟨e,hf⟩
 ·rw [e]; exact I.funs
 ·rw [e];obtain ⟨m,hn,_⟩:=I.loc;refine .cons (by rw [I.ok.kind]; decide) hf hn ?_ I.funs;exact Heap.get?_none_of_le (aQ I.ok.bsz I.ok.above)
theorem Au.stkSub (I:Au X pins σ H s):∀ b ∈ RJ X.stack,b ∈ X.env.locals :: X.fs:=fun b hb=>by
 rcases I.ok.stk with e | ⟨e,hf⟩
 ·rw [e] at hb; exact aA _ hb
 ·rw [e] at hb;unfold RJ at hb;rw [eC,hf] at hb;exact hb
theorem Au.stkFree (I:Au X pins σ H s):∀ b ∈ RJ X.stack,H b=none:=fun b hb=>by
 rcases ZU.mp (I.stkSub b hb) with e | hb
 ·rw [e]; exact I.free
 ·obtain ⟨_,o,ho,_⟩:=I.ok.funs.mem hb;exact I.base.free b o ho (I.ok.frf b hb) fun z=>I.ok.exfs b z hb
theorem Au.step {g':Array GenState} {t':Nat} {d':Drawn} {ch:List Addr} (I:Au X pins σ H s)
  (hch:∀ b ∈ ch,(b ∈ X.ex\/X.s₀.heap.objs.size<=b)/\b ≠ X.env.locals/\(∀ x c,X.env.cells.lookup x=some c->c ≠ b)/\∀ p ∈ X.pn ++ pins,p.1 ≠ b)
  (keep:∀ b o,b ≠ X.env.locals->b ∉ X.fs->b ∉ ch->s.heap.get? b=some o->H b=none->h'.get? b=some o)
  (slot:∀ b o,b ≠ X.env.locals->b ∈ X.fs->b ∉ ch->s.heap.get? b=some o->H b=none->∃ sl,h'.get? b=some { o with slots:=sl }) (free:∀ b o,b ∉ ch->s.heap.get? b=some o->H b=none->H' b=none)
  (there:∀ b o,b ∉ ch->s.heap.get? b=some o->∃ o',h'.get? b=some o')
  (tups:∀ b xs,H b=some (.tup xs)->H' b=some (.tup xs)) (frzs:∀ b o u,H b=some (.frz o u)->H' b=some (.frz o u)) (tbls:∀ b ps,H b=some (.tbl ps)->∃ more,H' b=some (.tbl (ps ++ more)))
  (ns:∀ m,s.heap.Ns X.env.locals m->h'.Ns X.env.locals m) (hok:Gb X.prog X.w H' h') (hg:AllBare g') :
  Au X pins σ H' { s with heap:=h',gens:=g',drawn:=d',toks:=t' }:=by
 have neL:∀ b o,X.s₀.heap.get? b=some o->b ≠ X.env.locals:=fun b o e=>ao (ak (ae e) I.ok.above)
 have neC:∀ b o,X.s₀.heap.get? b=some o->b ∉ X.ex->b ∉ ch:=fun b o e hx hb=>by
  rcases (hch b hb).1 with z | z
  ·exact hx z
  ·exact absurd (ak (ae e) z) (bp _)
 have cellK:∀ x c,X.env.cells.lookup x=some c->∀ v,s.heap.IsCell c v->h'.IsCell c v:=fun x c e v ⟨o,ho,hd⟩=>by
  have nch:c ∉ ch:=fun z=>(hch c z).2.2.1 x c e rfl
  by_cases hc:c ∈ X.fs
  ·obtain ⟨sl,q⟩:=slot c o (I.cne x c e) hc nch ho (I.freeC x c e);exact ⟨_,q,hd⟩
  ·exact ⟨o,keep c o (I.cne x c e) hc nch ho (I.freeC x c e),hd⟩
 refine ⟨I.ok,I.os,hg,⟨fun b o e n hb hx=>?_,fun b o e n hb hx=>?_,fun b o e n hx=>?_,fun b o e hx=>?_,fun b xs e=>tups b xs (I.base.tups b xs e),fun b o xs e=>frzs b o xs (I.base.frzs b o xs e),fun b ps e=>?_⟩,?_,fun x c e=>?_,?_,fun x c e=>?_,fun p hp=>?_,hok,I.len⟩
 ·exact keep b o (neL b o e) hb (neC b o e hx) (I.base.keep b o e n hb hx) (I.base.free b o e n hx)
 ·obtain ⟨sl,e1⟩:=I.base.slot b o e n hb hx;obtain ⟨Yc,e2⟩:=slot b _ (neL b o e) hb (neC b o e hx) e1 (I.base.free b o e n hx);exact ⟨Yc,e2⟩
 ·obtain ⟨o',e1⟩:=I.base.there b o e hx;exact free b o' (neC b o e hx) e1 (I.base.free b o e n hx)
 ·obtain ⟨o',e1⟩:=I.base.there b o e hx;exact there b o' (neC b o e hx) e1
 ·obtain ⟨m1,e1⟩:=I.base.tbls b ps e;obtain ⟨m2,e2⟩:=tbls b _ e1;exact ⟨m1 ++ m2,by rw [e2,Array.append_assoc]⟩
 ·obtain ⟨m,hn,hl⟩:=I.loc;refine ⟨m,ns m hn,fun i x v e1 e2 e3=>?_⟩;obtain ⟨u,r,l⟩:=hl i x v e1 e2 e3;refine ⟨u,r,?_⟩;rcases l with l | ⟨k,c,e,z⟩
  ·exact .inl l
  ·exact .inr ⟨k,c,e,cellK x c e _ z⟩
 ·obtain ⟨v,z⟩:=I.cell x c e;exact ⟨v,cellK x c e v z⟩
 ·obtain ⟨m,⟨o,_,_,ho,_⟩,_⟩:=I.loc;exact free _ o (fun z=>(hch _ z).2.1 rfl) ho I.free
 ·obtain ⟨v,o,ho,hd⟩:=I.cell x c e;exact free c o (fun z=>(hch c z).2.2.1 x c e rfl) ho (I.freeC x c e)
 ·obtain ⟨e,n,ne,nf,d⟩:=I.pin p hp;have nch:p.1 ∉ ch:=fun z=>(hch p.1 z).2.2.2 p hp rfl
  exact ⟨keep p.1 p.2 ne nf nch e n,free p.1 p.2 nch e n,ne,nf,d⟩
theorem Au.un {t':Nat} (I:Au X pins σ H s) (u:Un X.fs [] H H' s.heap h') (hok:Gb X.prog X.w H' h'):Au X pins σ H' { s with heap:=h',toks:=t' }:=by
 obtain ⟨m,⟨o,es,ep,ho,r⟩,_⟩:=id I.loc;obtain ⟨sl,hL⟩:=u.any ho I.free (by simp);exact I.step (g':=s.gens) (d':=s.drawn) (ch:=[]) (fun _ z=>nomatch z) (fun b o _ hb _ e n=>u.keep b o e n hb (by simp)) (fun b o _ hb _ e n=>u.slot b o e n hb (by simp)) (fun b o _ e n=>u.free b o e n (by simp)) (fun b o _ e=>u.there b o e (by simp)) u.tups u.frzs u.tbls (fun m' hm=>by
  obtain ⟨o',Tz,TC,K9,r'⟩:=hm;rw [ho] at K9; cases K9;exact ⟨_,Tz,TC,hL,r'⟩) hok I.bare
theorem Au.call {g':Array GenState} {t':Nat} {d':Drawn} {ch:List Addr} (I:Au X pins σ H s) (u:Un (RJ X.stack) ch H H' s.heap h') (hok:Gb X.prog X.w H' h') (hg:AllBare g')
  (hch:∀ b ∈ ch,(b ∈ X.ex\/X.s₀.heap.objs.size<=b)/\b ≠ X.env.locals/\(∀ x c,X.env.cells.lookup x=some c->c ≠ b)/\∀ p ∈ X.pn ++ pins,p.1 ≠ b) :
  Au X pins σ H' { s with heap:=h',gens:=g',drawn:=d',toks:=t' }:=by
 obtain ⟨m,⟨o,es,ep,ho,r⟩,_⟩:=id I.loc;obtain ⟨sl,hL⟩:=u.any ho I.free fun z=>(hch _ z).2.1 rfl
 exact I.step (ch:=ch) hch (fun b o hL hb hc e n=>u.keep b o e n (fun z=>(ZU.mp (I.stkSub b z)).elim hL hb) hc) (fun b o _ _ hc e n=>u.any e n hc) (fun b o hc e n=>u.free b o e n hc) (fun b o hc e=>u.there b o e hc) u.tups u.frzs u.tbls (fun m' hm=>by
  obtain ⟨o',Tz,TC,K9,r'⟩:=hm;rw [ho] at K9; cases K9;exact ⟨_,Tz,TC,hL,r'⟩) hok hg
theorem Au.turned {t':Nat} {it:Addr} (I:Au X pins σ H s) (k:∀ b o,b ≠ it->s.heap.get? b=some o->h'.get? b=some o) (hn:H it=none) (hL:it ≠ X.env.locals)
  (h1:it ∈ X.ex\/X.s₀.heap.objs.size<=it) (h2:∀ x c,X.env.cells.lookup x=some c->c ≠ it) (h3:∀ p ∈ X.pn ++ pins,p.1 ≠ it):Au X pins σ H { s with heap:=h',toks:=t' }:=by
 have nit:∀ b u,H b=some u->b ≠ it:=fun b u e z=>by rw [z,hn] at e; cases e
 refine I.step (g':=s.gens) (d':=s.drawn) (ch:=[it]) (fun b hb=>?_) (fun b o _ _ hc e _=>k b o (fun z=>hc (by simp [z])) e) (fun b o _ _ hc e _=>⟨o.slots,k b o (fun z=>hc (by simp [z])) e⟩) (fun _ _ _ _ n=>n)
  (fun b o hc e=>⟨o,k b o (fun z=>hc (by simp [z])) e⟩) (fun _ _ e=>e) (fun _ _ _ e=>e) (fun b ps e=>⟨#[],by rw [e]; simp⟩) (fun m hm=>?_) (fun b u e=>?_) I.bare
 ·have e:b=it:=by simpa using hb
  subst e;exact ⟨h1,hL,h2,h3⟩
 ·obtain ⟨o,es,ep,ho,r⟩:=hm;exact ⟨o,es,ep,k _ o (Ne.symm hL) ho,r⟩
 ·refine (I.hok b u e).stay (fun c v hc q=>k c v ?_ q) (fun _ q=>q) fun _ _ q=>q
  rcases hc with z | z
  ·rw [z]; exact nit b u e
  ·exact nit c _ z
theorem Au.tok (I:Au X pins σ H s) (t:Nat):Au X pins σ H { s with toks:=t }:=I.un (h':=s.heap) (t':=t) Un.refl I.hok
theorem Au.kept {t':Nat} (I:Au X pins σ H s) (k:∀ b u,s.heap.get? b=some u->h'.get? b=some u):Au X pins σ H { s with heap:=h',toks:=t' }:=I.un (Un.kept k) (I.hok.kept k)
theorem Au.laid {a:Addr} {o:HO} {t':Nat} (I:Au X pins σ H s) (k:∀ b u,s.heap.get? b=some u->h'.get? b=some u) (hp:s.heap.objs.size<=a) (new:AU X.prog X.w (upd H a o) h' a o) :
  Au X pins σ (upd H a o) { s with heap:=h',toks:=t' }:=I.un (Un.laid k hp (I.hok.fresh hp)) (I.hok.laid k hp new)
theorem Au.write {x e:Addr} {o:HO} {t':Nat} (I:Au X pins σ H s) (mu:Mut (H x)) (he:e=x\/H e=some (.own x)) (k:∀ b u,b ≠ e->s.heap.get? b=some u->h'.get? b=some u) (heo:∃ u,h'.get? e=some u)
  (new:AU X.prog X.w (upd H x o) h' x o):Au X pins σ (upd H x o) { s with heap:=h',toks:=t' }:=I.un (Un.write mu he k heo) (I.hok.write mu he k heo new)
theorem Au.pins_of {Uy:List (Addr × Obj)} (I:Au X pins σ H s) (h:∀ p ∈ Uy,s.heap.get? p.1=some p.2/\H p.1=none/\p.1 ≠ X.env.locals/\p.1 ∉ X.fs/\∀ v,p.2.data ≠ .cell v):Au X Uy σ H s:=
 ⟨I.ok,I.os,I.bare,I.base,I.loc,I.cell,I.free,I.freeC,fun p hp=>(aG.mp hp).elim (fun z=>I.pin p (aV _ z)) (h p),I.hok,I.len⟩
theorem Ik {N:List Str} (hN:N.Nodup) {i j:Nat} {x:Str} (a:N[i]? = some x) (b:N[j]? = some x):i=j:=by
 obtain ⟨h1,e1⟩:=ag.mp a;obtain ⟨h2,e2⟩:=ag.mp b;exact (cW hN).mp (e1.trans e2.symm)
theorem Gj {M:Model} {A:Around} {E:Value->Shared->Prop} {i:Nat} {x:Str} {v:V} {u:Value} {Q:Unit->Shared->Prop} (I:Au X pins σ H s) (hN:X.N.Nodup) (hi:X.N[i]? = some x) (hx:UN X.env.scope x) (r:AF v u)
  (h:∀ s',Au X pins (σ.set i (some v)) H s'->(∃ a,Heap.SameBut a s.heap s'.heap/\(a=X.env.locals\/X.env.cells.lookup x=some a))->Q () s') (hf:X.fn x=true\/X.env.scope.names.lookup x=some .local:=by first | exact .inl rfl | exact .inr rfl | assumption):wpAny M A (storeName X.env x u) Q E s:=by
 obtain ⟨m,hn,hl⟩:=id I.loc;have hcls:(X.env.scope.kind == .class || (X.env.scope.kind == .module && X.env.locals != X.env.globals))=false:=by rw [I.ok.kind]; rfl
 have hiσ:i < σ.length:=by rw [I.len]; exact (ag.mp hi).1
 have cne:=I.cne;have tracked:∀ {a:Addr} {h':Heap},(∃ o,s.heap.get? a=some o/\H a=none)->Heap.SameBut a s.heap h'->Gb X.prog X.w H h':=fun {a h'} ha hs b ob e=>by
  obtain ⟨_,_,hfree⟩:=ha;refine (I.hok b ob e).stay (fun c w' hc q=>(hs.2 c ?_).trans q) (fun _ q=>q) fun _ _ q=>q
  rintro rfl;rcases hc with rfl | hc
  ·rw [hfree] at e; cases e
  ·rw [hfree] at hc; cases hc
 rcases hx with hk | hk
 ·refine wpAny_storeName_local hk hn (fun h' Ym hs=>?_) hcls;obtain ⟨oL,_,_,hoL,_⟩:=id hn;refine h _ ⟨I.ok,I.os,I.bare,⟨fun b o e n hb hx=>?_,fun b o e n hb hx=>?_,I.base.free,fun b o e hx=>?_,I.base.tups,I.base.frzs,I.base.tbls⟩,⟨_,Ym,fun j y v' e1 e2 e3=>?_⟩,fun y c e=>?_,I.free,I.freeC,fun p hp=>?_,tracked ⟨oL,hoL,I.free⟩ hs,by simpa using I.len⟩ ⟨_,hs,.inl rfl⟩
  ·exact (hs.2 b (ao (ak (ae e) I.ok.above))).trans (I.base.keep b o e n hb hx)
  ·obtain ⟨sl,e1⟩:=I.base.slot b o e n hb hx;exact ⟨sl,(hs.2 b (ao (ak (ae e) I.ok.above))).trans e1⟩
  ·obtain ⟨o',e1⟩:=I.base.there b o e hx;exact ⟨o',(hs.2 b (ao (ak (ae e) I.ok.above))).trans e1⟩
  ·by_cases hj:j=i
   ·subst hj;rw [hi] at e1; cases e1;rw [dN hiσ] at e2;cases e2
    exact ⟨u,r,.inl ⟨hk,by simp⟩⟩
   ·rw [gf (Ne.symm hj)] at e2;obtain ⟨u',r',q⟩:=hl j y v' e1 e2 e3;refine ⟨u',r',?_⟩;rcases q with ⟨k,e⟩ | ⟨k,c,e,z⟩
    ·refine .inl ⟨k,?_⟩;have:y ≠ x:=fun e=>hj (Ik hN e1 (e ▸ hi))
     simp [this,e]
    ·exact .inr ⟨k,c,e,z.sameBut hs (cne y c e)⟩
  ·obtain ⟨w',z⟩:=I.cell y c e;exact ⟨w',z.sameBut hs (cne y c e)⟩
  ·obtain ⟨e,n,ne,nf,d⟩:=I.pin p hp;exact ⟨(hs.2 p.1 ne).trans e,n,ne,nf,d⟩
 ·have hfn:X.fn x=true:=by
   rcases hf with z | z
   ·exact z
   ·rw [z] at hk; cases hk
  obtain ⟨c,hc⟩:=I.ok.has x (.inl hk);obtain ⟨w',z⟩:=I.cell x c hc;refine wpAny_storeName_cell I.ok.kind hk hc z (fun h' Mv hs=>?_);obtain ⟨oc,hoc,hocd⟩:=id z;refine h { s with heap:=h' } ⟨I.ok,I.os,I.bare,⟨fun b o e n hb hx=>?_,fun b o e n hb hx=>?_,I.base.free,fun b o e hx=>?_,I.base.tups,I.base.frzs,I.base.tbls⟩,⟨m,hn.sameBut hs (Ne.symm (cne x c hc)),fun j y v' e1 e2 e3=>?_⟩,fun y c' e=>?_,I.free,I.freeC,fun p hp=>?_,tracked ⟨oc,hoc,I.freeC x c hc⟩ hs,by simpa using I.len⟩ ⟨c,hs,.inr hc⟩
  ·exact (hs.2 b (ao (ak (ae e) (I.ok.cab x c hfn hc)))).trans (I.base.keep b o e n hb hx)
  ·obtain ⟨sl,e1⟩:=I.base.slot b o e n hb hx;exact ⟨sl,(hs.2 b (ao (ak (ae e) (I.ok.cab x c hfn hc)))).trans e1⟩
  ·obtain ⟨o',e1⟩:=I.base.there b o e hx;exact ⟨o',(hs.2 b (ao (ak (ae e) (I.ok.cab x c hfn hc)))).trans e1⟩
  ·by_cases hj:j=i
   ·subst hj;rw [hi] at e1; cases e1;rw [dN hiσ] at e2;cases e2
    exact ⟨u,r,.inr ⟨.inl hk,c,hc,Mv⟩⟩
   ·rw [gf (Ne.symm hj)] at e2;obtain ⟨u',r',q⟩:=hl j y v' e1 e2 e3;refine ⟨u',r',?_⟩;rcases q with q | ⟨k,c',e,z'⟩
    ·exact .inl q
    ·refine .inr ⟨k,c',e,z'.sameBut hs ?_⟩;rintro rfl;exact hj (Ik hN e1 (I.ok.inj _ _ _ e hc ▸ hi))
  ·by_cases hcc:c'=c
   ·subst hcc; exact ⟨_,Mv⟩
   ·obtain ⟨w2,z2⟩:=I.cell y c' e;exact ⟨w2,z2.sameBut hs hcc⟩
  ·obtain ⟨e,n,ne,nf,d⟩:=I.pin p hp;refine ⟨(hs.2 p.1 ?_).trans e,n,ne,nf,d⟩;intro q;rw [q,hoc] at e;have q':oc=p.2:=aI.inj e;exact d w' (by rw [<-q']; exact hocd)
theorem Lm {M:Model} {A:Around} {E:Value->Shared->Prop} {i:Nat} {x:Str} {v:V} {u:Value} {Q:Unit->Shared->Prop} (I:Au X pins σ H s) (hN:X.N.Nodup) (hi:X.N[i]? = some x) (hx:UN X.env.scope x) (r:AF v u)
  (h:∀ s',Au X pins (σ.set i (some v)) H s'->Q () s') (hf:X.fn x=true\/X.env.scope.names.lookup x=some .local:=by first | exact .inl rfl | exact .inr rfl | assumption):wpAny M A (storeName X.env x u) Q E s:=
 Gj I hN hi hx r (fun s' I' _=>h s' I') hf
theorem Au.call' {s':Shared} {ch:List Addr} (I:Au X pins σ H s) (ho:s'.os=s.os) (u:Un (RJ X.stack) ch H H' s.heap s'.heap) (hok:Gb X.prog X.w H' s'.heap) (hg:AllBare s'.gens)
  (hch:∀ b ∈ ch,(b ∈ X.ex\/X.s₀.heap.objs.size<=b)/\b ≠ X.env.locals/\(∀ x c,X.env.cells.lookup x=some c->c ≠ b)/\∀ p ∈ X.pn ++ pins,p.1 ≠ b):Au X pins σ H' s':=by
 obtain ⟨h',g',d',t',o'⟩:=s';have e:o'=s.os:=ho;subst e;exact I.call (g':=g') (t':=t') (d':=d') u hok hg hch
end
abbrev XK:=Value->Option Addr->Hp->Prop
abbrev St:=List (Option V)
abbrev VK:=V->Hp->Prop
abbrev TE:=St->Hp->VK->Prop
abbrev TT:=St->Hp->(Bool->Hp->Prop)->Prop
abbrev TA:=St->Hp->(List V->Hp->Prop)->Prop
structure EX where
 nx:St->Hp->Prop
 rt:VK
 bk:St->Hp->Prop:=fun _ _=>False
 ct:St->Hp->Prop:=fun _ _=>False
abbrev TS:=EX->St->Hp->Prop
def EP (X:Cx) (pins:List (Addr × Obj)) (σ:St) (Q:VK) (u:Value) (s':Shared):Prop:=∃ v H',Au X pins σ H' s'/\AF v u/\Q v H'
def TP (X:Cx) (pins:List (Addr × Obj)) (σ:St) (Q:Bool->Hp->Prop) (b:Bool) (s':Shared):Prop:=∃ H',Au X pins σ H' s'/\Q b H'
def AP (X:Cx) (pins:List (Addr × Obj)) (σ:St) (Q:List V->Hp->Prop) (us:List Value) (s':Shared):Prop:=∃ vs H',Au X pins σ H' s'/\A3 vs us/\Q vs H'
def SP (X:Cx) (pins:List (Addr × Obj)) (D:EX) (f:Flow) (s':Shared):Prop:=
 match f with
 | .next=>∃ A8 H',Au X pins A8 H' s'/\D.nx A8 H'
 | .brk=>∃ A8 H',Au X pins A8 H' s'/\D.bk A8 H'
 | .cont=>∃ A8 H',Au X pins A8 H' s'/\D.ct A8 H'
 | .ret u=>∃ v A8 H',Au X pins A8 H' s'/\AF v u/\D.rt v H'
def PE (X:Cx) (e:Expr) (t:TE):Prop:=
 ∀ ⦃pins:List (Addr × Obj)⦄ (s:Shared) (σ:St) (H:Hp) (Q:VK),Au X pins σ H s->t σ H Q->wpAny (model X.prog X.w) X.A (eval e X.env) (EP X pins σ Q) X.xe s
def PT (X:Cx) (e:Expr) (t:TT):Prop:=
 ∀ ⦃pins:List (Addr × Obj)⦄ (s:Shared) (σ:St) (H:Hp) (Q:Bool->Hp->Prop),Au X pins σ H s->t σ H Q->wpAny (model X.prog X.w) X.A (isTrue e X.env (eval e X.env)) (TP X pins σ Q) X.xe s
def PW (X:Cx) (e:Expr) (t:TT):Prop:=
 ∀ ⦃whole:Sem Value⦄ (pins:List (Addr × Obj)) (s:Shared) (σ:St) (H:Hp) (Q:Bool->Hp->Prop),Au X pins σ H s->t σ H Q->wpAny (model X.prog X.w) X.A (isTrue e X.env whole) (TP X pins σ Q) X.xe s
theorem PW.pt {X:Cx} {e:Expr} {t:TT} (h:PW X e t):PT X e t:=@h _
def PA (X:Cx) (es:List Expr) (t:TA):Prop:=
 ∀ ⦃pos:Pos⦄ (pins:List (Addr × Obj)) (s:Shared) (σ:St) (H:Hp) (Q:List V->Hp->Prop),Au X pins σ H s->t σ H Q->wpAny (model X.prog X.w) X.A (spliced (backTo pos (starEach es X.env))) (AP X pins σ Q) X.xe s
def PS (X:Cx) (st:Stmt) (t:TS):Prop:=
 ∀ ⦃pins:List (Addr × Obj)⦄ (s:Shared) (σ:St) (H:Hp) (D:EX),Au X pins σ H s->t D σ H->wpAny (model X.prog X.w) X.A (exec st X.env) (SP X pins D) X.xe s
def Ov (X:Cx) (st:List Stmt) (t:TS):Prop:=
 ∀ ⦃pins:List (Addr × Obj)⦄ (s:Shared) (σ:St) (H:Hp) (D:EX),Au X pins σ H s->t D σ H->wpAny (model X.prog X.w) X.A (execs st X.env) (SP X pins D) X.xe s
theorem BC {α:Type} {t:Sem α} {Q Q':α->Shared->Prop} {M:Model} {A:Around} {E:Value->Shared->Prop} {s:Shared} (h:wpAny M A t Q E s) (hQ:∀ a s,Q a s->Q' a s):wpAny M A t Q' E s:=wpAny_mono h hQ fun _ _ x=>x
section
variable {X:Cx}
def tVar (i:Nat):TE:=fun σ H Q=>∃ v,σ[i]? = some (some v)/\Q v H
def tC (v:V):TE:=fun _ H Q=>Q v H
theorem Vl {i:Nat} {x:Str} {pos:Pos} (hN:X.N[i]? = some x) (hv:Vis X.env.scope x) (hd:(x == ("__debug__":Str))=false:=by decide) (hcd:(x == ("__classdict__":Str))=false:=by decide):PE X (.Name x pos) (tVar i):=by
 intro pins s σ H Q I h;obtain ⟨v,e,h⟩:=h;obtain ⟨m,hn,hl⟩:=I.loc;obtain ⟨u,r,l⟩:=hl i x v hN e hv;have fin:EP X pins σ Q u s:=⟨v,H,I,r,h⟩
 rcases l with ⟨hk,hm⟩ | ⟨hk,c,hc,hcell⟩
 ·exact wpAny_Name (wpAny_loadName_local I.ok.kind hk hn hm fin) hd
 ·rcases hk with hk | hk
  ·exact wpAny_Name (wpAny_loadName_cell I.ok.kind hk hc hcell fin) hd
  ·exact wpAny_Name (wpAny_loadName_free I.ok.kind hk hc hcell fin hcd) hd
theorem Ad {i j pos}:PE X (.Constant (.int i) j pos) (tC (.int i)):=fun _ _ _ H _ I h=>wpAny_Constant_int ⟨.int i,H,I.tok _,⟨_,rfl⟩,h⟩
theorem Es {b j pos}:PE X (.Constant (.bool b) j pos) (tC (.bl b)):=fun _ _ _ H _ I h=>Constant_bool ⟨.bl b,H,I,rfl,h⟩
theorem MM {j pos}:PE X (.Constant .none j pos) (tC .non):=fun _ _ _ H _ I h=>Constant_none ⟨.non,H,I,rfl,h⟩
theorem Ku {x j pos}:PE X (.Constant (.str x) j pos) (tC (.str x)):=fun _ _ _ H _ I h=>Calls.Constant_str ⟨.str x,H,I.tok _,⟨_,rfl⟩,h⟩
def Gl (X:Cx) (x:Str):Prop:=X.env.kindOf x=some .globalImplicit
theorem Tn {E:Value->Shared->Prop} {pins:List (Addr × Obj)} {s:Shared} {σ:St} {H:Hp} {x:Str} {u:Value} {pos:Pos} {Q:Value->Shared->Prop} (I:Au X pins σ H s) (hg:Gl X x) (hm:X.mg x=some u) (h:Q u s)
  (hd:(x == ("__debug__":Str))=false:=by decide):wpAny (model X.prog X.w) X.A (eval (.Name x pos) X.env) Q E s:=
 Calls.Name_function_global I.ok.kind hg (Calls.loadGlobal_global (by rw [I.ok.glob]; exact I.mod.glob.keeps I.bk) hm h) hd
theorem K3 {E:Value->Shared->Prop} {pins:List (Addr × Obj)} {s:Shared} {σ:St} {H:Hp} {x:Str} {u:Value} {pos:Pos} {Q:Value->Shared->Prop} (I:Au X pins σ H s) (hg:Gl X x) (hm:X.mg x=none) (hv:bootBuiltins x=some u) (h:Q u s)
  (hn:x ≠ "__name__":=by decide) (hd:(x == ("__debug__":Str))=false:=by decide):wpAny (model X.prog X.w) X.A (eval (.Name x pos) X.env) Q E s:=by
 obtain ⟨mb,h1,h2⟩:=I.mod.blt;exact Calls.Name_function_global I.ok.kind hg (Calls.loadGlobal_builtin (by rw [I.ok.glob]; exact I.mod.glob.keeps I.bk) hm (by rw [I.ok.blt]; exact h1.keeps I.bk) ((h2 x hn).trans hv) h) hd
variable {a b:Expr} {ta tb:TE} {pos:Pos}
def PC (X:Cx) (op:CmpOp) (a b:Expr) (t:TE):Prop:=
 ∀ ⦃pins:List (Addr × Obj)⦄ (s:Shared) (σ:St) (H:Hp) (Q:VK),Au X pins σ H s->t σ H Q ->
  wpAny (model X.prog X.w) X.A (eval a X.env) (fun v Bb=>wpAny (model X.prog X.w) X.A (eval b X.env) (fun u Ey=>wpAny (model X.prog X.w) X.A (compareOp op v u) (EP X pins σ Q) X.xe Ey) X.xe Bb) X.xe s
theorem Ro (b:Expr) {op:CmpOp} (h:op ≠ .In) (h2:op ≠ .NotIn):behindInMarks op b=false:=by
 have e1:(op == CmpOp.In)=false:=by cases op <;> first | rfl | exact absurd rfl h
 have e2:(op == CmpOp.NotIn)=false:=by cases op <;> first | rfl | exact absurd rfl h2
 cases b <;> simp [behindInMarks,e1,e2]
def tIsN (ta:TE):TE:=fun σ H Q=>ta σ H fun x H1=>Q (.bl (decide (x=.non))) H1
theorem AF.none_iff {x:V} {v:Value} (r:AF x v):(v == Value.none)=decide (x=.non):=by
 cases x with
 | non=>cases r; rfl
 | bl _=>cases r; rfl
 | int _=>obtain ⟨t,rfl⟩:=r; rfl
 | str _=>obtain ⟨t,rfl⟩:=r; rfl
 | byt _=>obtain ⟨t,rfl⟩:=r; rfl
 | flt _=>obtain ⟨t,rfl⟩:=r; rfl
 | ref _=>cases r; rfl
 | ty _=>cases r; rfl
theorem Vn {j pos'} (ha:PE X a ta):PC X .Is a (.Constant .none j pos') (tIsN ta):=by
 intro pins s σ H Q I h;refine BC (ha (pins:=pins) s σ H _ I h) fun v s1 ⟨x,H1,I1,r1,q1⟩=>?_
 exact Constant_none (is_none_gen ⟨.bl _,H1,I1,by rw [r1.none_iff]; rfl,q1⟩)
def tB (t:TE):TT:=fun σ H Q=>t σ H fun x H1=>∃ c,x=.bl c/\Q c H1
theorem QW {op:CmpOp} {t:TE} (h:PC X op a b t) (h1:behindInMarks op b=false:=by first | exact Ro _ (by decide) (by decide) | rfl):PT X (.Compare a [op] [b] pos) (tB t):=by
 intro pins s σ H Q I hw;refine wpAny_isTrue_Compare1 (BC (h (pins:=pins) s σ H _ I hw) fun v s1 h1=>BC h1 fun u s2 h2=>BC h2 fun c s3 ⟨x,H1,I1,r1,q1⟩=>?_) h1;obtain ⟨d,rfl,q⟩:=q1;cases r1
 exact wpAny_truthy_bool ⟨H1,I1,q⟩
theorem Kr {e:Expr} {t:TE} (h:PE X e t) (he:∀ whole,isTrue e X.env whole=(do let v <- whole; standAt e.pos; holding [v] (truthy v)):=by intro _; rfl):PT X e (tB t):=by
 intro pins s σ H Q I hw;refine isTrue_plain (BC (h (pins:=pins) s σ H _ I hw) fun v s1 ⟨x,H1,I1,r1,q1⟩=>?_) (he _);obtain ⟨d,rfl,q⟩:=q1;cases r1
 exact wpAny_truthy_bool ⟨H1,I1,q⟩
variable {tA XZ:TT} {Br:List Expr}
def tAnd (t u:TT):TT:=fun σ H Q=>t σ H fun c H1=>if c=true then u σ H1 Q else Q false H1
def tOr (t u:TT):TT:=fun σ H Q=>t σ H fun c H1=>if c=true then Q true H1 else u σ H1 Q
def tNot (t:TT):TT:=fun σ H Q=>t σ H fun c H1=>Q (!c) H1
theorem Kq (ha:PT X a tA):PW X (.BoolOp .And [a] pos) tA:=by
 intro wh pins s σ H Q I h;refine isTrue_and (BC (ha (pins:=pins) s σ H Q I h) fun c s1 e=>?_);cases c with
 | true=>exact isTrue_and_nil e
 | false=>exact e
theorem HU (ha:PT X a tA):PW X (.BoolOp .Or [a] pos) tA:=by
 intro wh pins s σ H Q I h;refine isTrue_or (BC (ha (pins:=pins) s σ H Q I h) fun c s1 e=>?_);cases c with
 | false=>exact isTrue_or_nil e
 | true=>exact e
theorem MF (ha:PT X a tA) (hb:PW X (.BoolOp .And (b :: Br) pos) XZ):PW X (.BoolOp .And (a :: b :: Br) pos) (tAnd tA XZ):=by
 intro wh pins s σ H Q I h;refine isTrue_and (BC (ha (pins:=pins) s σ H _ I h) fun c s1 ⟨H1,I1,q1⟩=>?_);cases c with
 | true=>exact hb (whole:=wh) (pins:=pins) s1 σ H1 Q I1 q1
 | false=>exact ⟨H1,I1,q1⟩
theorem HV (ha:PT X a tA) (hb:PW X (.BoolOp .Or (b :: Br) pos) XZ):PW X (.BoolOp .Or (a :: b :: Br) pos) (tOr tA XZ):=by
 intro wh pins s σ H Q I h;refine isTrue_or (BC (ha (pins:=pins) s σ H _ I h) fun c s1 ⟨H1,I1,q1⟩=>?_);cases c with
 | true=>exact ⟨H1,I1,q1⟩
 | false=>exact hb (whole:=wh) (pins:=pins) s1 σ H1 Q I1 q1
theorem HW (ha:PT X a tA):PT X (.UnaryOp .Not a pos) (tNot tA):=by
 intro pins s σ H Q I h;exact isTrue_not (ha (pins:=pins) s σ H (fun c H1=>Q (!c) H1) I h)
def tAndV (ta tb:TE):TE:=fun σ H Q=>ta σ H fun x H1=>∃ c,x=.bl c/\if c=true then tb σ H1 Q else Q (.bl false) H1
def tOrV (ta tb:TE):TE:=fun σ H Q=>ta σ H fun x H1=>∃ c,x=.bl c/\if c=true then Q (.bl true) H1 else tb σ H1 Q
theorem ML {op} {t:TE} (h:PE X a t):PE X (.BoolOp op [a] pos) t:=fun pins s σ H Q I hw=>BoolOp_one (h (pins:=pins) s σ H Q I hw)
theorem Rk (ha:PE X a ta) (hb:PE X (.BoolOp .And (b :: Br) pos) tb):PE X (.BoolOp .And (a :: b :: Br) pos) (tAndV ta tb):=by
 intro pins s σ H Q I h;refine BoolOp_and (BC (ha (pins:=pins) s σ H _ I h) fun v s1 ⟨x,H1,I1,r1,q1⟩=>?_);obtain ⟨c,rfl,q1⟩:=q1;cases r1
 refine wpAny_truthy_bool ?_;cases c with
 | true=>exact hb (pins:=pins) s1 σ H1 Q I1 q1
 | false=>exact ⟨.bl false,H1,I1,rfl,q1⟩
theorem pe_or (ha:PE X a ta) (hb:PE X (.BoolOp .Or (b :: Br) pos) tb):PE X (.BoolOp .Or (a :: b :: Br) pos) (tOrV ta tb):=by
 intro pins s σ H Q I h;refine BoolOp_or (BC (ha (pins:=pins) s σ H _ I h) fun v s1 ⟨x,H1,I1,r1,q1⟩=>?_);obtain ⟨c,rfl,q1⟩:=q1;cases r1
 refine wpAny_truthy_bool ?_;cases c with
 | false=>exact hb (pins:=pins) s1 σ H1 Q I1 q1
 | true=>exact ⟨.bl true,H1,I1,rfl,q1⟩
def tIf (t:TT) (ta tb:TE):TE:=fun σ H Q=>t σ H fun c H1=>if c=true then ta σ H1 Q else tb σ H1 Q
theorem Rj {c:Expr} (hc:PT X c tA) (ha:PE X a ta) (hb:PE X b tb):PE X (.IfExp c a b pos) (tIf tA ta tb):=by
 intro pins s σ H Q I h;refine wpAny_IfExp (BC (hc (pins:=pins) s σ H _ I h) fun d s1 ⟨H1,I1,q1⟩=>?_);cases d with
 | true=>exact ha (pins:=pins) s1 σ H1 Q I1 q1
 | false=>exact hb (pins:=pins) s1 σ H1 Q I1 q1
end
def AV (K:ZV) (H:Hp) (a:Addr) (xs:List V):Prop:=
 Rd H a (.lst xs) \/
  ∃ (o:Obj) (Az:Array Value) (n:Nat),K.lookup a=some o/\o.cls=.type "list"/\o.dict=none/\o.data=.seq Az n/\Az.size<=sizeLine/\A3 xs Az.toList
def A2 (K:ZV) (H:Hp) (a:Addr) (xs:List V):Prop:=
 Rd H a (.tup xs) \/
  ∃ (o:Obj) (Az:Array Value) (n:Nat),K.lookup a=some o/\o.cls=.type "tuple"/\o.data=.seq Az n/\Az.size<=sizeLine/\A3 xs Az.toList
def absV:Value->Option V
 | .none=>some .non
 | .bool b=>some (.bl b)
 | .int i _=>some (.int i)
 | .str x _=>some (.str x)
 | .bytes b _=>some (.byt b)
 | .float b _=>some (.flt b)
 | .ref a=>some (.ref a)
 | .type n=>some (.ty n)
 | _=>none
theorem AF.abs {x:V} {u:Value} (r:AF x u):absV u=some x:=by
 cases x with
 | non=>cases r; rfl
 | bl _=>cases r; rfl
 | int _=>obtain ⟨t,rfl⟩:=r; rfl
 | str _=>obtain ⟨t,rfl⟩:=r; rfl
 | byt _=>obtain ⟨t,rfl⟩:=r; rfl
 | flt _=>obtain ⟨t,rfl⟩:=r; rfl
 | ref _=>cases r; rfl
 | ty _=>cases r; rfl
theorem AF.inj {x y:V} {u:Value} (r:AF x u) (q:AF y u):x=y:=aI.inj (r.abs.symm.trans q.abs)
theorem A3.inj:∀ {xs ys:List V} {us:List Value},A3 xs us->A3 ys us->xs=ys
 | _,_,_,.nil,.nil=>rfl
 | _,_,_,.cons r t,.cons r' t'=>by rw [r.inj r',A3.inj t t']
section
variable {X:Cx} {pins:List (Addr × Obj)} {σ:St} {H:Hp} {s:Shared} {a:Addr} {xs ys:List V}
theorem AV.of {K:ZV} (h:H a=some (.lst xs)):AV K H a xs:=.inl (.inl h)
theorem A2.of {K:ZV} (h:H a=some (.tup xs)):A2 K H a xs:=.inl (.inl h)
theorem Au.list (I:Au X pins σ H s) (h:AV X.K H a xs):∃ Az:List Value,A3 xs Az/\PlainL s.heap a Az.toArray/\xs.length<=sizeLine:=by
 rcases h with h | ⟨o,Az,n,hk,hc,hd,hs,hz,r⟩
 ·obtain ⟨z,Az,n,r,e⟩:=h.ok I.hok;exact ⟨Az,r,⟨_,n,e,rfl,rfl,rfl⟩,z⟩
 ·refine ⟨Az.toList,r,⟨o,n,I.kIn a o hk,hc,hd,by simpa using hs⟩,?_⟩;have e:=r.length;simp only [aE] at e;lia
theorem Au.tuple (I:Au X pins σ H s) (h:A2 X.K H a xs):∃ Az:List Value,A3 xs Az/\IsTup s.heap a Az.toArray/\xs.length<=sizeLine:=by
 rcases h with h | ⟨o,Az,n,hk,hc,hs,hz,r⟩
 ·obtain ⟨z,Az,r,p,_⟩:=h.ok I.hok;exact ⟨Az,r,p,z⟩
 ·refine ⟨Az.toList,r,⟨o,I.kIn a o hk,hc,n,by simpa using hs⟩,?_⟩;have e:=r.length;simp only [aE] at e;lia
theorem Au.list_inj (I:Au X pins σ H s) (h:AV X.K H a xs) (h':AV X.K H a ys):xs=ys:=by
 obtain ⟨Az,r,⟨o,n,e,_,_,d⟩,_⟩:=I.list h;obtain ⟨its',r',⟨o',n',e',_,_,d'⟩,_⟩:=I.list h';rw [e] at e'; cases e';rw [d] at d';injection d' with d1 _;have:Az=its':=by simpa using congrArg eI d1
 subst this;exact r.inj r'
theorem Au.tuple_inj (I:Au X pins σ H s) (h:A2 X.K H a xs) (h':A2 X.K H a ys):xs=ys:=by
 obtain ⟨Az,r,⟨o,e,_,n,d⟩,_⟩:=I.tuple h;obtain ⟨its',r',⟨o',e',_,n',d'⟩,_⟩:=I.tuple h';rw [e] at e'; cases e';rw [d] at d';injection d' with d1 _;have:Az=its':=by simpa using congrArg eI d1
 subst this;exact r.inj r'
end
abbrev Cx.wish (X:Cx) (E:Value->Shared->Prop):Cx:={ X with xe:=E }
abbrev Cx.nox (X:Cx):Cx:=X.wish fun _ _=>False
theorem Cx.Ok.wish {X:Cx} (ok:X.Ok) (E:Value->Shared->Prop):(X.wish E).Ok:=
 ⟨ok.mod,ok.kind,ok.glob,ok.blt,ok.above,ok.inj,ok.has,ok.cab,ok.hd,ok.frames,ok.stk,ok.exf,ok.bs,ok.bsz,ok.noex,ok.exfs,ok.funs,ok.frf⟩
theorem Cx.Ok.unwish {X:Cx} {E:Value->Shared->Prop} (ok:(X.wish E).Ok):X.Ok:=
 ⟨ok.mod,ok.kind,ok.glob,ok.blt,ok.above,ok.inj,ok.has,ok.cab,ok.hd,ok.frames,ok.stk,ok.exf,ok.bs,ok.bsz,ok.noex,ok.exfs,ok.funs,ok.frf⟩
section
variable {X:Cx} {pins:List (Addr × Obj)} {σ:St} {H:Hp} {s:Shared} {E:Value->Shared->Prop}
theorem Au.wish (I:Au X pins σ H s) (E:Value->Shared->Prop):Au (X.wish E) pins σ H s:=⟨I.ok.wish E,I.os,I.bare,I.base,I.loc,I.cell,I.free,I.freeC,I.pin,I.hok,I.len⟩
theorem Au.unwish (I:Au (X.wish E) pins σ H s):Au X pins σ H s:=⟨I.ok.unwish,I.os,I.bare,I.base,I.loc,I.cell,I.free,I.freeC,I.pin,I.hok,I.len⟩
theorem SP.unwish {D:EX} {f:Flow} {s':Shared} (h:SP (X.wish E) pins D f s'):SP X pins D f s':=by
 cases f with
 | next=>obtain ⟨A8,H',I,q⟩:=h; exact ⟨A8,H',I.unwish,q⟩
 | brk=>obtain ⟨A8,H',I,q⟩:=h; exact ⟨A8,H',I.unwish,q⟩
 | cont=>obtain ⟨A8,H',I,q⟩:=h; exact ⟨A8,H',I.unwish,q⟩
 | ret u=>obtain ⟨v,A8,H',I,r,q⟩:=h; exact ⟨v,A8,H',I.unwish,r,q⟩
theorem Ov.nox {st:List Stmt} {t:TS} (h:Ov X.nox st t):Ov X st t:=fun pins s σ H D I hw=>
 wpAny_mono (h (pins:=pins) s σ H D (I.wish _) hw) (fun _ _ q=>q.unwish) fun _ _ z=>False.elim z
end
section
variable {X:Cx} {st:Stmt} {Br:List Stmt} {t u:TS} {e:Expr} {te:TE} {pos:Pos}
def tNext:TS:=fun D σ H=>D.nx σ H
def tSeq (t u:TS):TS:=fun D σ H=>t { D with nx:=u D } σ H
theorem Bs:Ov X [] tNext:=fun _ _ σ H _ I h=>wpAny_execs_nil ⟨σ,H,I,h⟩
theorem Ag (h1:PS X st t) (h2:Ov X Br u):Ov X (st :: Br) (tSeq t u):=by
 intro pins s σ H D I h;refine wpAny_execs_cons (BC (h1 (pins:=pins) s σ H { D with nx:=u D } I h) fun f s1 q=>?_);cases f with
 | next=>
  obtain ⟨A8,H',I',q⟩:=q;exact h2 (pins:=pins) s1 A8 H' D I' q
 | ret v=>exact q
 | brk=>exact q
 | cont=>exact q
theorem Ao (h1:PS X st t):Ov X [st] t:=by
 intro pins s σ H D I h;refine wpAny_execs_cons (BC (h1 (pins:=pins) s σ H D I h) fun f s1 q=>?_);cases f with
 | next=>exact wpAny_execs_nil q
 | ret v=>exact q
 | brk=>exact q
 | cont=>exact q
theorem Au.quiet {pins:List (Addr × Obj)} {σ:St} {H:Hp} {s:Shared} (I:Au X pins σ H s):interactive X.env=false:=by simp [interactive,I.ok.kind]
def tDrop (te:TE):TS:=fun D σ H=>te σ H fun _ H1=>D.nx σ H1
theorem HB (he:PE X e te) (hs:swapsWith e none pos.line X.env=pure false:=by rfl):PS X (.Expr e pos) (tDrop te):=by
 intro pins s σ H D I h;exact wpAny_Expr_any (BC (he (pins:=pins) s σ H _ I h) fun v s1 ⟨x,H1,I1,r1,q1⟩=>⟨σ,H1,I1,q1⟩) I.quiet hs
def tRet (te:TE):TS:=fun D σ H=>te σ H D.rt
theorem AB (he:PE X e te):PS X (.Return (some e) pos) (tRet te):=by
 intro pins s σ H D I h;exact wpAny_Return_some (BC (he (pins:=pins) s σ H _ I h) fun v s1 ⟨x,H1,I1,r1,q1⟩=>⟨x,σ,H1,I1,r1,q1⟩)
def tIfS (c:TT) (t u:TS):TS:=fun D σ H=>c σ H fun b H1=>if b=true then t D σ H1 else u D σ H1
theorem Co {c:Expr} {a b:List Stmt} {tc:TT} (hc:PT X c tc) (ha:Ov X a t) (hb:Ov X b u):PS X (.If c a b pos) (tIfS tc t u):=by
 intro pins s σ H D I h;refine wpAny_If (BC (hc (pins:=pins) s σ H _ I h) fun d s1 ⟨H1,I1,q1⟩=>?_);cases d with
 | true=>exact ha (pins:=pins) s1 σ H1 D I1 q1
 | false=>exact hb (pins:=pins) s1 σ H1 D I1 q1
end
abbrev TG:=V->St->Hp->(St->Hp->Prop)->Prop
abbrev So:=List V->St->Hp->(St->Hp->Prop)->Prop
def PG (X:Cx) (target:Expr) (t:TG):Prop:=
 ∀ ⦃pins:List (Addr × Obj)⦄ (s:Shared) (σ:St) (H:Hp) (v:V) (u:Value) (Q:St->Hp->Prop),Au X pins σ H s->AF v u->t v σ H Q ->
  wpAny (model X.prog X.w) X.A (assign target X.env u) (fun _ s'=>∃ A8 H',Au X pins A8 H' s'/\Q A8 H') X.xe s
def Wx (X:Cx) (ts:List Expr) (t:So):Prop:=
 ∀ ⦃pins:List (Addr × Obj)⦄ (s:Shared) (σ:St) (H:Hp) (vs:List V) (us:List Value) (Q:St->Hp->Prop),Au X pins σ H s->A3 vs us->t vs σ H Q ->
  wpAny (model X.prog X.w) X.A (assignInOrder ((assignEach ts X.env).map (·.2)) us) (fun _ s'=>∃ A8 H',Au X pins A8 H' s'/\Q A8 H') X.xe s
abbrev We:=V->V->V->Hp->(Hp->Prop)->Prop
def PSet (X:Cx) (t:We):Prop:=
 ∀ ⦃pins:List (Addr × Obj)⦄ (s:Shared) (σ:St) (H:Hp) (o i v:V) (ov iv u:Value) (Q:Hp->Prop),Au X pins σ H s->AF o ov->AF i iv->AF v u->t o i v H Q ->
  wpAny (model X.prog X.w) X.A (setItem ov iv u) (fun _ s'=>∃ H',Au X pins σ H' s'/\Q H') X.xe s
section
variable {X:Cx} {pos:Pos}
def Hc (i:Nat):TG:=fun v σ H Q=>Q (σ.set i (some v)) H
theorem Ak {i:Nat} {x:Str} (hN:X.N.Nodup) (hi:X.N[i]? = some x) (hx:UN X.env.scope x) (hf:X.fn x=true\/X.env.scope.names.lookup x=some .local:=by first | exact .inl rfl | exact .inr rfl | assumption):PG X (.Name x pos) (Hc i):=by
 intro pins s σ H v u Q I r h;exact wpAny_assign_Name (Lm I hN hi hx r (fun s' I'=>⟨_,H,I',h⟩) hf)
def gNil:So:=fun vs σ H Q=>vs=[]/\Q σ H
def gCons (t:TG) (u:So):So:=fun vs σ H Q=>∃ v r,vs=v :: r/\t v σ H fun A8 H'=>u r A8 H' Q
theorem B5:Wx X [] gNil:=by
 intro pins s σ H vs us Q I r h;obtain ⟨e,h⟩:=h;subst e;cases r
 exact assignInOrder_nil ⟨σ,H,I,h⟩
theorem Av {e:Expr} {es:List Expr} {t:TG} {u:So} (h1:PG X e t) (h2:Wx X es u)
  (hs:(assignEach (e :: es) X.env).map (·.2)=assign e X.env :: (assignEach es X.env).map (·.2):=by rfl):Wx X (e :: es) (gCons t u):=by
 intro pins s σ H vs us Q I r h;obtain ⟨v,vr,e1,h⟩:=h;subst e1;cases r with
 | cons r rr=>
  rw [hs];refine assignInOrder_cons (BC (h1 (pins:=pins) s σ H _ _ _ I r h) fun _ s1 ⟨UQ,H1,I1,q1⟩=>?_);exact h2 (pins:=pins) s1 UQ H1 _ _ Q I1 rr q1
def gTup (K:ZV) (n:Nat) (t:So):TG:=fun v σ H Q=>∃ a xs,v=.ref a/\A2 K H a xs/\xs.length=n/\t xs σ H Q
theorem Rg {es:List Expr} {k:Nat} {t:So} {n:Nat} (hc:X.calm=true) (h:Wx X es t)
  (hn:(assignEach es X.env).length=n:=by rfl) (hst:(assignEach es X.env).findIdx? (·.1)=none:=by rfl):PG X (.Tuple es k pos) (gTup X.K n t):=by
 intro pins s σ H v u Q I r hw;obtain ⟨a,xs,e1,hq,hl,hw⟩:=hw;subst e1;cases r
 obtain ⟨Az,rv,ht,hz⟩:=I.tuple hq;refine assign_Tuple_tuple (I.ok.hd hc) ht (by simp [hn,<-hl,rv.length]) hst fun h' hx=>?_
 have I1:Au X pins σ H { s with heap:=h' }:=I.kept (t':=s.toks) fun b o e=>hx b o (ao (ae e)) e
 exact h (pins:=pins) _ σ H xs _ Q I1 (by simpa using rv) hw
def gSub (to ti:TE) (t:We):TG:=fun v σ H Q=>to σ H fun o H1=>ti σ H1 fun i H2=>t o i v H2 fun H3=>Q σ H3
theorem Rh {o i:Expr} {to ti:TE} {t:We} (ho:PE X o to) (hi:PE X i ti) (hs:PSet X t)
  (ha:∀ v,assign (.Subscript o i pos) X.env v=(do
   let ov <- holding [v] (eval o X.env)
   let iv <- holding [v,ov] (eval i X.env)
   standAt pos
   holding [v,ov,iv] (setItem ov iv v)
   release [v,ov,iv] []):=by intro _; rfl):PG X (.Subscript o i pos) (gSub to ti t):=by
 intro pins s σ H v u Q I r h;rw [ha];refine wpAny_bind (wpAny_holding (BC (ho (pins:=pins) s σ H _ I h) fun ov s1 ⟨x,H1,I1,r1,q1⟩=>?_));refine wpAny_bind (wpAny_holding (BC (hi (pins:=pins) s1 σ H1 _ I1 q1) fun iv s2 ⟨y,H2,I2,r2,q2⟩=>?_));refine wpAny_bind (wpAny_standAt (wpAny_bind (wpAny_holding (BC (hs (pins:=pins) s2 σ H2 x y v ov iv u _ I2 r1 r2 r q2) fun _ s3 ⟨H3,I3,q3⟩=>?_))));exact wpAny_release ⟨σ,H3,I3,q3⟩
def Qt (te:TE) (g:TG):TS:=fun D σ H=>te σ H fun x H1=>g x σ H1 D.nx
theorem Ee {tg e:Expr} {te:TE} {g:TG} (he:PE X e te) (hg:PG X tg g) (hs:swapsWithSole [tg] e pos.line X.env=pure false:=by rfl) (hw:swappedStores [tg] e X.env=pure none:=by rfl)
  (h1:(assignEach [tg] X.env).map (·.2)=[assign tg X.env]:=by rfl):PS X (.Assign [tg] e pos) (Qt te g):=by
 intro pins s σ H D I h;refine wpAny_Assign_stores (BC (he (pins:=pins) s σ H _ I h) fun v s1 ⟨x,H1,I1,r1,q1⟩=>?_) hs hw;rw [h1];exact BC (hg (pins:=pins) s1 σ H1 x v _ I1 r1 q1) fun _ s2 q=>q
theorem As {i:Nat} {x:Str} {e:Expr} {te:TE} {pos':Pos} (hN:X.N.Nodup) (hi:X.N[i]? = some x) (hx:UN X.env.scope x) (he:PE X e te) (hs:swapsWith e (some (.Name x pos')) pos.line X.env=pure false:=by rfl) (hf:X.fn x=true\/X.env.scope.names.lookup x=some .local:=by first | exact .inl rfl | exact .inr rfl | assumption) :
  PS X (.Assign [.Name x pos'] e pos) (Qt te (Hc i)):=by
 intro pins s σ H D I h;refine wpAny_Assign_Name (BC (he (pins:=pins) s σ H _ I h) fun v s1 ⟨y,H1,I1,r1,q1⟩=>?_) hs;exact Lm I1 hN hi hx r1 (fun s2 I2=>⟨_,H1,I2,q1⟩) hf
end
section
variable {X:Cx} {pos:Pos}
def UX (c:TT) (tb:TS):TS:=fun D σ H=>∃ W:Nat->St->Hp->Prop,(∃ m,W m σ H)/\∀ m σ H,W m σ H ->
 c σ H fun b H1=>if b=true then ∃ N:St->Hp->Prop,(∀ A8 H',N A8 H'->∃ m',m' < m/\W m' A8 H')/\tb { D with nx:=N,ct:=N,bk:=D.nx } σ H1 else D.nx σ H1
theorem QY {c:Expr} {body:List Stmt} {tc:TT} {tb:TS} (hp:PassesOwn (model X.prog X.w) X.A X.env X.xe) (hc:PT X c tc) (hb:Ov X body tb):PS X (.While c body [] pos) (UX tc tb):=by
 intro pins s σ H D I h;obtain ⟨W,⟨m0,w0⟩,turn⟩:=h;refine wpAny_While (codeAny_whileLoop (fun n s'=>∃ A8 H',Au X pins A8 H' s'/\W n A8 H') ?_ m0 ⟨σ,H,I,w0⟩);rintro n s1 ⟨UQ,H1,I1,w1⟩;refine wpAny_passesOwn hp (BC (hc (pins:=pins) s1 UQ H1 _ I1 (turn n UQ H1 w1)) fun b s2 ⟨H2,I2,q2⟩=>?_);cases b with
 | true=>
  obtain ⟨N,hN,q2⟩:=q2;rw [if_pos rfl];refine wpAny_passesOwn hp (BC (hb (pins:=pins) s2 UQ H2 _ I2 q2) fun f s3 q3=>?_);cases f with
  | next=>
   obtain ⟨Qc,H3,I3,n3⟩:=q3;obtain ⟨m',hm,w3⟩:=hN Qc H3 n3;exact ⟨m',hm,Qc,H3,I3,w3⟩
  | cont=>
   obtain ⟨Qc,H3,I3,n3⟩:=q3;obtain ⟨m',hm,w3⟩:=hN Qc H3 n3;exact ⟨m',hm,Qc,H3,I3,w3⟩
  | brk=>exact q3
  | ret v=>exact q3
 | false=>
  rw [if_neg az];exact wpAny_execs_nil ⟨UQ,H2,I2,q2⟩
end
structure It where
 go:Nat->Hp->Prop
 yld:Nat->Hp->V->Hp->Prop
 stop:Nat->Hp->Prop
def EG (X:Cx) (pins:List (Addr × Obj)) (H:Hp) (b:Addr):Prop:=
 H b=none/\b ≠ X.env.locals/\b ∉ X.fs/\(b ∈ X.ex\/X.s₀.heap.objs.size<=b)/\(∀ x c,X.env.cells.lookup x=some c->c ≠ b)/\∀ p ∈ X.pn ++ pins,p.1 ≠ b
theorem Au.fpOk {X:Cx} {pins:List (Addr × Obj)} {σ:St} {H H':Hp} {s:Shared} {b:Addr} (I:Au X pins σ H s) (hb:s.heap.objs.size<=b) (hn:H' b=none):EG X pins H' b:=by
 refine ⟨hn,bA (ak I.lt hb),I.nofs hb,.inr (aQ I.sz hb),fun x c e z=>?_,fun p hp z=>?_⟩
 ·obtain ⟨v,q⟩:=I.cell x c e;exact absurd (ak q.lt (by rw [z]; exact hb)) (bp _)
 ·exact absurd (ak (ae (I.pin p hp).1) (by rw [z]; exact hb)) (bp _)
structure PM (P:Program) (w:World) (K:ZV) (tg:Expr) (J:It) (fp:List Addr) (it:Addr) (tn:Nat->Heap->Prop):Prop where
 mem:it ∈ fp
 obj:∀ i h,tn i h->∀ b ∈ fp,∃ o,h.get? b=some o/\∀ v,o.data ≠ .cell v
 keep:∀ i h h',tn i h->(∀ b ∈ fp,∀ o,h.get? b=some o->h'.get? b=some o)->tn i h'
 item:∀ (X:Cx),X.prog=P->X.w=w->X.K=K->X.calm=true->∀ (i:Nat) (pins:List (Addr × Obj)) (s:Shared) (σ:St) (H:Hp) (E:Value->Shared->Prop),Au X pins σ H s->(∀ b ∈ fp,EG X pins H b)->tn i s.heap->J.go i H ->
  wpAny (model P w) X.A (pyNext (.ref it)) (fun r s1=>∃ u,r=some u /\
   wpAny (model P w) X.A (letOwnedTupleGo tg (.ref it) u) (fun _ s2=>∃ x H',Au X pins σ H' s2/\AF x u/\J.yld i H x H'/\tn (i + 1) s2.heap/\∀ b ∈ fp,H' b=none) E s1) E s
 done:∀ (X:Cx),X.prog=P->X.w=w->X.K=K->X.calm=true->∀ (i:Nat) (pins:List (Addr × Obj)) (s:Shared) (σ:St) (H:Hp) (E:Value->Shared->Prop),Au X pins σ H s->(∀ b ∈ fp,EG X pins H b)->tn i s.heap->J.stop i H ->
  wpAny (model P w) X.A (pyNext (.ref it)) (fun r s1=>r=none/\Au X pins σ H s1) E s
 self:∀ (A:Around) (i:Nat) (s:Shared) (Q:Value->Shared->Prop) (E:Value->Shared->Prop),tn i s.heap->Q (.ref it) s->wpAny (model P w) A (pyIter (.ref it)) Q E s
abbrev TI:=St->Hp->(It->Hp->Prop)->Prop
def PIE (X:Cx) (pins:List (Addr × Obj)) (σ:St) (tg:Expr) (R:It->Hp->Prop) (itv:Value) (s2:Shared):Prop:=
 ∃ (it:Addr) (fp:List Addr) (tn:Nat->Heap->Prop) (J:It) (H':Hp),itv=.ref it/\Au X pins σ H' s2/\PM X.prog X.w X.K tg J fp it tn/\tn 0 s2.heap/\(∀ b ∈ fp,EG X pins H' b)/\R J H'
def PI (X:Cx) (tg iter:Expr) (wi:TI):Prop:=
 ∀ ⦃pins:List (Addr × Obj)⦄ (s:Shared) (σ:St) (H:Hp) (R:It->Hp->Prop),Au X pins σ H s->wi σ H R ->
  wpAny (model X.prog X.w) X.A (eval iter X.env) (fun v s1=>wpAny (model X.prog X.w) X.A (pyIter v) (PIE X pins σ tg R) X.xe s1) X.xe s
theorem LW {M:Model} {A:Around} {E:Value->Shared->Prop} {s:Shared} {tg:Expr} {it:Addr} {u:Value} {o:Obj} {n:String} {vs:Array Value} {Q:Unit->Shared->Prop} (ho:s.heap.get? it=some o) (hc:o.cls=.type n) (hd:o.data=.fields vs)
  (hn:["enumerate","zip","dict_itemiterator","dict_reverseitemiterator","odict_iterator","itertools.zip_longest","itertools.pairwise"].contains n=false) (hQ:Q () s):wpAny M A (letOwnedTupleGo tg (.ref it) u) Q E s:=by
 unfold letOwnedTupleGo;cases tg <;> first
  | exact wpAny_pure hQ
  | (cases u <;> first
    | exact wpAny_pure hQ
    | (refine wpAny_bind (wpAny_load ho ?_)
       rw [hc,hd];show wpAny M A (if (["enumerate","zip","dict_itemiterator","dict_reverseitemiterator","odict_iterator","itertools.zip_longest","itertools.pairwise"].contains n && vs[0]? == some (rawInt _))=true then _ else _) Q E s
       rw [if_neg (by intro h; rw [hn,Bool.false_and] at h; cases h)];exact wpAny_pure hQ))
def Ue (K:ZV) (a:Addr):It:=
 ⟨fun i H=>∃ xs x,AV K H a xs/\xs[i]? = some x,fun i H x H'=>H'=H/\∀ xs,AV K H a xs->xs[i]? = some x,fun i H=>∃ xs,AV K H a xs/\xs.length<=i⟩
def Ud (K:ZV) (a:Addr):It:=
 ⟨fun i H=>∃ xs x,A2 K H a xs/\xs[i]? = some x,fun i H x H'=>H'=H/\∀ xs,A2 K H a xs->xs[i]? = some x,fun i H=>∃ xs,A2 K H a xs/\xs.length<=i⟩
def KR (lo:Int) (n:Nat):It:=⟨fun i _=>i < n,fun i H x H'=>H'=H/\x=.int (lo + i),fun i _=>n<=i⟩
theorem O0 {P:Program} {w:World} {K:ZV} {tg:Expr} (a it:Addr):PM P w K tg (Ue K a) [it] it (fun i h=>h.IsListIter it a i) where
 mem:=by simp
 obj:=fun i h st b hb=>by
  have e:b=it:=by simpa using hb
  subst e;obtain ⟨o,e,c,d⟩:=st;exact ⟨o,e,fun v z=>by rw [d] at z; cases z⟩
 keep:=fun i h h' st k=>st.at fun o e=>k it (by simp) o e
 item:=by
  intro X hP hw hK hc i pins s σ H E I hf st hg;subst hP hw hK;obtain ⟨xs,x,hq,hx⟩:=hg;obtain ⟨Az,rv,p,hz⟩:=I.list hq;obtain ⟨u,hu,ru⟩:=rv.get hx;obtain ⟨f0,f1,f2,f3,f4,f5⟩:=hf it (by simp);refine wpAny_pyNext_list_item st p.isList (x:=u) (by simpa using hu) fun h' An sb=>?_
  have I1:Au X pins σ H { s with heap:=h' }:=I.turned (t':=s.toks) (fun b o hb e=>(sb.2 b hb).trans e) f0 f1 f3 f4 f5;obtain ⟨o,e,c,d⟩:=id An;exact ⟨u,rfl,LW (s:={ s with heap:=h' }) e c d (by decide) ⟨x,H,I1,ru,⟨rfl,fun ys hy=>by rw [I.list_inj hy hq]; exact hx⟩,An,fun b hb=>(hf b hb).1⟩⟩
 done:=by
  intro X hP hw hK hc i pins s σ H E I hf st hg;subst hP hw hK;obtain ⟨xs,hq,hx⟩:=hg;obtain ⟨Az,rv,p,hz⟩:=I.list hq;obtain ⟨f0,f1,f2,f3,f4,f5⟩:=hf it (by simp);have hl:=rv.length;exact wpAny_pyNext_list_end (I.ok.hd hc) st p.isList (by simp; lia) fun h' eb=>⟨rfl,I.turned (t':=s.toks) (fun b o hb e=>eb b o hb e) f0 f1 f3 f4 f5⟩
 self:=fun _ _ _ _ _ st h=>wpAny_pyIter_listiter st h
theorem M4 {P:Program} {w:World} {K:ZV} {tg:Expr} (a it:Addr):PM P w K tg (Ud K a) [it] it (fun i h=>h.IsTupleIter it a i) where
 mem:=by simp
 obj:=fun i h st b hb=>by
  have e:b=it:=by simpa using hb
  subst e;obtain ⟨o,e,c,d⟩:=st;exact ⟨o,e,fun v z=>by rw [d] at z; cases z⟩
 keep:=fun i h h' st k=>st.at fun o e=>k it (by simp) o e
 item:=by
  intro X hP hw hK hc i pins s σ H E I hf st hg;subst hP hw hK;obtain ⟨xs,x,hq,hx⟩:=hg;obtain ⟨Az,rv,p,hz⟩:=I.tuple hq;obtain ⟨u,hu,ru⟩:=rv.get hx;obtain ⟨f0,f1,f2,f3,f4,f5⟩:=hf it (by simp);refine wpAny_pyNext_tuple_item st (show s.heap.IsTuple a Az.toArray from p) (x:=u) (by simpa using hu) fun h' An sb=>?_
  have I1:Au X pins σ H { s with heap:=h' }:=I.turned (t':=s.toks) (fun b o hb e=>(sb.2 b hb).trans e) f0 f1 f3 f4 f5;obtain ⟨o,e,c,d⟩:=id An;exact ⟨u,rfl,LW (s:={ s with heap:=h' }) e c d (by decide) ⟨x,H,I1,ru,⟨rfl,fun ys hy=>by rw [I.tuple_inj hy hq]; exact hx⟩,An,fun b hb=>(hf b hb).1⟩⟩
 done:=by
  intro X hP hw hK hc i pins s σ H E I hf st hg;subst hP hw hK;obtain ⟨xs,hq,hx⟩:=hg;obtain ⟨Az,rv,p,hz⟩:=I.tuple hq;obtain ⟨f0,f1,f2,f3,f4,f5⟩:=hf it (by simp);have hl:=rv.length;exact wpAny_pyNext_tuple_end (I.ok.hd hc) st (show s.heap.IsTuple a Az.toArray from p) (by simp; lia) fun h' eb=>⟨rfl,I.turned (t':=s.toks) (fun b o hb e=>eb b o hb e) f0 f1 f3 f4 f5⟩
 self:=fun _ _ _ _ _ st h=>wpAny_pyIter_tupleiter st h
theorem M5 {P:Program} {w:World} {K:ZV} {tg:Expr} (it:Addr) (lo:Int) (n:Nat):PM P w K tg (KR lo n) [it] it (fun i h=>IsRangeIter h it (lo + (i:Nat) * 1) ((n:Int) - (i:Nat)) 1) where
 mem:=by simp
 obj:=fun i h st b hb=>by
  have e:b=it:=by simpa using hb
  subst e;exact ⟨_,st,fun v z=>by
   have z':Data.fields _=Data.cell v:=z;cases z'⟩
 keep:=fun i h h' st k=>k it (by simp) _ st
 item:=by
  intro X hP hw hK hc i pins s σ H E I hf st hg;subst hP hw hK;obtain ⟨f0,f1,f2,f3,f4,f5⟩:=hf it (by simp);have W:=Walks.range (prog:=X.prog) (w:=X.w) (I.ok.hd hc) it lo 1 n;refine W.item i s _ _ hg st fun v h' tk hv An kk=>?_
  obtain ⟨t,rfl⟩:=hv;have I1:Au X pins σ H { s with heap:=h',toks:=tk }:=I.turned (fun b o hb e=>kk b o (by simpa using hb) e) f0 f1 f3 f4 f5;refine ⟨_,rfl,LW (s:={ s with heap:=h',toks:=tk }) (n:="range_iterator") An rfl rfl (by decide) ⟨.int (lo + i),H,I1,⟨t,?_⟩,⟨rfl,rfl⟩,An,fun b hb=>(hf b hb).1⟩⟩;rw [Int.mul_one]
 done:=by
  intro X hP hw hK hc i pins s σ H E I hf st hg;subst hP hw hK;obtain ⟨f0,f1,f2,f3,f4,f5⟩:=hf it (by simp);exact wpAny_pyNext_range_end (I.ok.hd hc) st (by have:n<=i:=hg; lia) fun h' eb=>⟨rfl,I.turned (t':=s.toks) (fun b o hb e=>eb b o hb e) f0 f1 f3 f4 f5⟩
 self:=fun _ _ _ _ _ st h=>wpAny_pyIter_rangeiter st h
section
variable {X:Cx} {tg:Expr}
def U4 (K:ZV) (tl:TE):TI:=fun σ H R=>tl σ H fun x H1=>∃ a,x=.ref a/\(∃ xs,AV K H1 a xs)/\R (Ue K a) H1
def iTup (K:ZV) (tl:TE):TI:=fun σ H R=>tl σ H fun x H1=>∃ a,x=.ref a/\(∃ xs,A2 K H1 a xs)/\R (Ud K a) H1
theorem NT {l:Expr} {tl:TE} (hl:PE X l tl):PI X tg l (U4 X.K tl):=by
 intro pins s σ H R I h;refine BC (hl (pins:=pins) s σ H _ I h) fun v s1 ⟨x,H1,I1,r1,q1⟩=>?_
 obtain ⟨a,e,⟨xs,hq⟩,q⟩:=q1;subst e;cases r1
 obtain ⟨Az,rv,p,hz⟩:=I1.list hq;refine wpAny_pyIter_list p.isList ?_;refine ⟨s1.heap.objs.size,[s1.heap.objs.size],_,_,H1,rfl,I1.kept (t':=s1.toks) fun b o e=>ZT _ e,O0 a _,⟨_,ah _ rfl,rfl,rfl⟩,fun b hb=>?_,q⟩;have e:b=s1.heap.objs.size:=by simpa using hb
 subst e;exact I1.fpOk (ZX _) (I1.hok.fresh (ZX _))
theorem MH {l:Expr} {tl:TE} (hl:PE X l tl):PI X tg l (iTup X.K tl):=by
 intro pins s σ H R I h;refine BC (hl (pins:=pins) s σ H _ I h) fun v s1 ⟨x,H1,I1,r1,q1⟩=>?_
 obtain ⟨a,e,⟨xs,hq⟩,q⟩:=q1;subst e;cases r1
 obtain ⟨Az,rv,p,hz⟩:=I1.tuple hq;refine wpAny_pyIter_tuple (show s1.heap.IsTuple a Az.toArray from p) ?_;refine ⟨s1.heap.objs.size,[s1.heap.objs.size],_,_,H1,rfl,I1.kept (t':=s1.toks) fun b o e=>ZT _ e,M4 a _,⟨_,ah _ rfl,rfl,rfl⟩,fun b hb=>?_,q⟩;have e:b=s1.heap.objs.size:=by simpa using hb
 subst e;exact I1.fpOk (ZX _) (I1.hok.fresh (ZX _))
theorem Lx {pins:List (Addr × Obj)} {σ:St} {H:Hp} {s:Shared} {R:It->Hp->Prop} {E:Value->Shared->Prop} {lo hi:Int} {t u v:Tok} {tk:Nat} (I:Au X pins σ H s) (h1:-(2 ^ 62)<=lo) (h2:lo < 2 ^ 62) (h3:-(2 ^ 62)<=hi) (h4:hi < 2 ^ 62)
  (q:R (KR lo (hi - lo).toNat) H):wpAny (model X.prog X.w) X.A (pyIter (.ref s.heap.objs.size)) (PIE X pins σ tg R) E { s with heap:=s.heap.push { cls:=.type "range",data:=.fields #[.int lo t,.int hi u,.int 1 v] },toks:=tk }:=by
 refine wpAny_pyIter_range (IsRange.new ..) (small_one h1 h2 h3 h4) ?_;have I1:Au X pins σ H { s with heap:=s.heap.push { cls:=.type "range",data:=.fields #[.int lo t,.int hi u,.int 1 v] },toks:=tk }:=I.kept fun b o e=>ZT _ e
 refine ⟨(s.heap.push { cls:=.type "range",data:=.fields #[.int lo t,.int hi u,.int 1 v] }).objs.size,[(s.heap.push { cls:=.type "range",data:=.fields #[.int lo t,.int hi u,.int 1 v] }).objs.size],_,_,H,rfl,
  I1.kept (t':=tk) fun b o e=>ZT _ e,M5 _ lo (hi - lo).toNat,?_,fun b hb=>?_,q⟩
 ·have e1:lo + ((0:Nat):Int) * 1=lo:=by simp
  have e2:(((hi - lo).toNat:Nat):Int) - ((0:Nat):Int)=Builtin.Range.rangeSize lo hi 1:=by rw [rangeSize_one]; split <;> lia
  show IsRangeIter _ _ (lo + ((0:Nat):Int) * 1) ((((hi - lo).toNat:Nat):Int) - ((0:Nat):Int)) 1
  rw [e1,e2];exact ah _ rfl
 ·have e:b=(s.heap.push { cls:=.type "range",data:=.fields #[.int lo t,.int hi u,.int 1 v] }).objs.size:=by simpa using hb
  subst e;exact I1.fpOk (ZX _) (I1.hok.fresh (ZX _))
def iRng1 (ta:TA):TI:=fun σ H R=>ta σ H fun vs H1=>∃ j:Int,vs=[.int j]/\-(2 ^ 62)<=j/\j < 2 ^ 62/\R (KR 0 j.toNat) H1
def iRng2 (ta:TA):TI:=fun σ H R=>ta σ H fun vs H1=>∃ i j:Int,vs=[.int i,.int j]/\(-(2 ^ 62)<=i/\i < 2 ^ 62/\-(2 ^ 62)<=j/\j < 2 ^ 62)/\R (KR i (j - i).toNat) H1
theorem BQ {a:Expr} {ta:TA} {p pos:Pos} (hg:Gl X "range") (hm:X.mg "range"=none) (ha:PA X [a] ta) (hs:starEach [a] X.env=[(false,eval a X.env)]:=by rfl):PI X tg (.Call (.Name "range" p) [a] [] pos) (iRng1 ta):=by
 intro pins s σ H R I h;refine Call_ (K3 I hg hm boot_range (PyProof.Rows.callWith_type1 (BC (ha (pos:=pos) (pins:=pins) s σ H _ I h) fun us s1 ⟨vs,H1,I1,r1,q1⟩=>?_) hs rfl));obtain ⟨j,e,q1,q2,q⟩:=q1;subst e;cases r1 with
 | cons r rr=>
  cases rr
  obtain ⟨t,rfl⟩:=r;exact call_range_1 (Lx I1 (by lia) (by lia) q1 q2 (by simpa using q))
theorem OQ {a b:Expr} {ta:TA} {p pos:Pos} (hg:Gl X "range") (hm:X.mg "range"=none) (ha:PA X [a,b] ta) (hs:starEach [a,b] X.env=[(false,eval a X.env),(false,eval b X.env)]:=by rfl) (WW:starEach [b] X.env=[(false,eval b X.env)]:=by rfl) :
  PI X tg (.Call (.Name "range" p) [a,b] [] pos) (iRng2 ta):=by
 intro pins s σ H R I h;refine Call_ (K3 I hg hm boot_range (PyProof.Rows.callWith_type1 (BC (ha (pos:=pos) (pins:=pins) s σ H _ I h) fun us s1 ⟨vs,H1,I1,r1,q1⟩=>?_) (by rw [hs,WW]) (by rw [WW]; rfl)));obtain ⟨i,j,e,⟨q1,q2,q3,q4⟩,q⟩:=q1;subst e;cases r1 with
 | cons r rr=>
  cases rr with
  | cons r' rr=>
   cases rr
   obtain ⟨t,rfl⟩:=r;obtain ⟨t',rfl⟩:=r';exact call_range_2 (Lx I1 q1 q2 q3 q4 q)
def tFor (wi:TI) (g:TG) (tb:TS):TS:=fun D σ H=>wi σ H fun J H1=>∃ W:Nat->Nat->St->Hp->Prop,(∃ m,W 0 m σ H1)/\∀ i m σ H,W i m σ H ->
 (J.stop i H/\D.nx σ H)\/(J.go i H/\∃ N:St->Hp->Prop,(∀ A8 H',N A8 H'->∃ m',m' < m/\W (i + 1) m' A8 H')/\∀ x H',J.yld i H x H'->g x σ H' fun A9 H2=>tb { D with nx:=N,ct:=N,bk:=D.nx } A9 H2)
def Fl (fp:List Addr) (h:Heap):List (Addr × Obj):=fp.filterMap fun b=>(h.get? b).map fun o=>(b,o)
theorem BN {fp:List Addr} {h:Heap} {b:Addr} {o:Obj} (hb:b ∈ fp) (e:h.get? b=some o):(b,o) ∈ Fl fp h:=g6.mpr ⟨b,hb,by rw [e]; rfl⟩
theorem OX {fp:List Addr} {h:Heap} {p:Addr × Obj} (hp:p ∈ Fl fp h):p.1 ∈ fp/\h.get? p.1=some p.2:=by
 obtain ⟨b,hb,e⟩:=g6.mp hp;cases q:h.get? b with
 | none=>rw [q] at e; cases e
 | some o=>
  rw [q] at e;have e':(b,o)=p:=aI.inj e;subst e';exact ⟨hb,q⟩
theorem Au.pinned {pins:List (Addr × Obj)} {σ:St} {H:Hp} {s:Shared} {fp:List Addr} (I:Au X pins σ H s) (hf:∀ b ∈ fp,EG X pins H b) (ho:∀ b ∈ fp,∃ o,s.heap.get? b=some o/\∀ v,o.data ≠ .cell v):Au X (pins ++ Fl fp s.heap) σ H s:=
 I.pins_of fun p hp=>(aG.mp hp).elim (fun z=>I.pin p (aw _ z)) fun z=>by
  obtain ⟨hb,e⟩:=OX z;obtain ⟨f0,f1,f2,_⟩:=hf p.1 hb;obtain ⟨o,e',d⟩:=ho p.1 hb;rw [e] at e'; cases e';exact ⟨e,f0,f1,f2,d⟩
theorem Au.unpinned {pins pl:List (Addr × Obj)} {σ:St} {H:Hp} {s:Shared} (I:Au X (pins ++ pl) σ H s):Au X pins σ H s:=I.pins_of fun p hp=>I.pin p (aw _ (aV _ hp))
theorem Cw {iter:Expr} {body:List Stmt} {wi:TI} {g:TG} {tb:TS} {pos:Pos} (hp:PassesOwn (model X.prog X.w) X.A X.env X.xe) (hc:X.calm=true) (hi:PI X tg iter wi) (hg:PG X tg g) (hb:Ov X body tb)
  (hs:∀ x,foldedSetIterable iter X.env x=pure x:=by intro _; rfl):PS X (.For tg iter body [] pos) (tFor wi g tb):=by
 intro pins s σ H D I h;refine wpAny_For (BC (hi (pins:=pins) s σ H _ I h) fun v s1 h1=>BC h1 fun itv s2 h2=>?_) hs;obtain ⟨it,fp,tn,J,H2,e,I2,T,G5,f2,W,⟨m0,w0⟩,turn⟩:=h2;subst e;have stat:∀ {H':Hp},(∀ b ∈ fp,H' b=none)->∀ b ∈ fp,EG X pins H' b:=fun hn b hb=>⟨hn b hb,(f2 b hb).2⟩
 refine codeAny_forLoop_any (fun n s'=>∃ i A8 H',Au X pins A8 H' s'/\tn i s'.heap/\(∀ b ∈ fp,H' b=none)/\W i n A8 H') ?_ m0 ⟨0,σ,H2,I2,G5,fun b hb=>(f2 b hb).1,w0⟩;rintro n s3 ⟨i,Qc,H3,I3,Ya,fr3,w3⟩;rcases turn i n Qc H3 w3 with ⟨stop,qn⟩ | ⟨go,N,hN,step⟩
 ·refine wpAny_passesOwn hp (BC (T.done X rfl rfl rfl hc i (pins:=pins) s3 Qc H3 X.xe I3 (stat fr3) Ya stop) fun r s4 ⟨hr,I4⟩=>?_);subst hr;exact wpAny_execs_nil ⟨Qc,H3,I4,qn⟩
 ·refine wpAny_passesOwn hp (BC (T.item X rfl rfl rfl hc i (pins:=pins) s3 Qc H3 X.xe I3 (stat fr3) Ya go) fun r s4 ⟨u,hr,h4⟩=>?_);subst hr;refine wpAny_passesOwn hp (BC h4 fun _ s5 ⟨x,H5,I5,r5,y5,W5,fr5⟩=>?_);have I5':=I5.pinned (stat fr5) (T.obj _ _ W5);refine wpAny_passesOwn hp (BC (hg s5 Qc H5 x u _ I5' r5 (step x H5 y5)) fun _ s6 ⟨σ6,H6,I6,q6⟩=>?_);refine wpAny_passesOwn hp (BC (hb s6 σ6 H6 _ I6 q6) fun f s7 q7=>?_);have again:∀ {Hi:St} {H7:Hp},Au X (pins ++ Fl fp s5.heap) Hi H7 s7->N Hi H7->∃ m,m < n/\∃ i A8 H',Au X pins A8 H' s7/\tn i s7.heap/\(∀ b ∈ fp,H' b=none)/\W i m A8 H':=fun {Hi H7} I7 n7=>by
   obtain ⟨m',hm,w7⟩:=hN Hi H7 n7;refine ⟨m',hm,i + 1,Hi,H7,I7.unpinned,T.keep _ _ _ W5 fun b hb o e=>(I7.pin (b,o) (aw _ (aw _ (BN hb e)))).1,fun b hb=>?_,w7⟩;obtain ⟨o,e,d⟩:=T.obj _ _ W5 b hb;exact (I7.pin (b,o) (aw _ (aw _ (BN hb e)))).2.1
  cases f with
  | next=>obtain ⟨Hi,H7,I7,n7⟩:=q7; exact again I7 n7
  | cont=>obtain ⟨Hi,H7,I7,n7⟩:=q7; exact again I7 n7
  | brk=>obtain ⟨Hi,H7,I7,q7⟩:=q7; exact ⟨Hi,H7,I7.unpinned,q7⟩
  | ret v=>obtain ⟨x7,Hi,H7,I7,r7,q7⟩:=q7; exact ⟨x7,Hi,H7,I7.unpinned,r7,q7⟩
end
theorem RK {K:ZV} {a:Addr} {xs:List V} {g:TG} {tb:TS} {D:EX} {σ:St} {H:Hp} (Pv:Nat->St->Hp->Prop) (h0:Pv 0 σ H) (hl:∀ i σ H,i<=xs.length->Pv i σ H->AV K H a xs)
  (hs:∀ i x σ H,xs[i]? = some x->Pv i σ H->g x σ H fun A9 H2=>tb { D with nx:=Pv (i + 1),ct:=Pv (i + 1),bk:=D.nx } A9 H2) (hd:∀ σ H,Pv xs.length σ H->D.nx σ H) :
  ∃ W:Nat->Nat->St->Hp->Prop,(∃ m,W 0 m σ H)/\∀ i m σ H,W i m σ H ->
   ((Ue K a).stop i H/\D.nx σ H)\/((Ue K a).go i H/\∃ N:St->Hp->Prop,(∀ A8 H',N A8 H'->∃ m',m' < m/\W (i + 1) m' A8 H')/\∀ x H',(Ue K a).yld i H x H'->g x σ H' fun A9 H2=>tb { D with nx:=N,ct:=N,bk:=D.nx } A9 H2):=by
 refine ⟨fun i m σ H=>m=xs.length - i/\i<=xs.length/\Pv i σ H,⟨xs.length,by simp,aH _,h0⟩,?_⟩;rintro i m σ H ⟨rfl,hi,p⟩;have q:=hl i σ H hi p;by_cases BE:i < xs.length
 ·refine .inr ⟨⟨xs,xs[i],q,by simp [BE]⟩,Pv (i + 1),fun A8 H' p'=>⟨xs.length - (i + 1),by lia,rfl,BE,p'⟩,fun x H' y=>?_⟩;obtain ⟨e,y⟩:=y;subst e;exact hs i x σ _ (y xs q) p
 ·have e:i=xs.length:=by lia
  subst e;exact .inl ⟨⟨xs,q,ZX _⟩,hd σ H p⟩
theorem Tw {K:ZV} {a:Addr} {xs:List V} {g:TG} {tb:TS} {D:EX} {σ:St} {H:Hp} (Pv:Nat->St->Hp->Prop) (h0:Pv 0 σ H) (hl:∀ i σ H,i<=xs.length->Pv i σ H->A2 K H a xs)
  (hs:∀ i x σ H,xs[i]? = some x->Pv i σ H->g x σ H fun A9 H2=>tb { D with nx:=Pv (i + 1),ct:=Pv (i + 1),bk:=D.nx } A9 H2) (hd:∀ σ H,Pv xs.length σ H->D.nx σ H) :
  ∃ W:Nat->Nat->St->Hp->Prop,(∃ m,W 0 m σ H)/\∀ i m σ H,W i m σ H ->
   ((Ud K a).stop i H/\D.nx σ H)\/((Ud K a).go i H/\∃ N:St->Hp->Prop,(∀ A8 H',N A8 H'->∃ m',m' < m/\W (i + 1) m' A8 H')/\∀ x H',(Ud K a).yld i H x H'->g x σ H' fun A9 H2=>tb { D with nx:=N,ct:=N,bk:=D.nx } A9 H2):=by
 refine ⟨fun i m σ H=>m=xs.length - i/\i<=xs.length/\Pv i σ H,⟨xs.length,by simp,aH _,h0⟩,?_⟩;rintro i m σ H ⟨rfl,hi,p⟩;have q:=hl i σ H hi p;by_cases BE:i < xs.length
 ·refine .inr ⟨⟨xs,xs[i],q,by simp [BE]⟩,Pv (i + 1),fun A8 H' p'=>⟨xs.length - (i + 1),by lia,rfl,BE,p'⟩,fun x H' y=>?_⟩;obtain ⟨e,y⟩:=y;subst e;exact hs i x σ _ (y xs q) p
 ·have e:i=xs.length:=by lia
  subst e;exact .inl ⟨⟨xs,q,ZX _⟩,hd σ H p⟩
theorem JG {lo:Int} {n:Nat} {g:TG} {tb:TS} {D:EX} {σ:St} {H:Hp} (Pv:Nat->St->Hp->Prop) (h0:Pv 0 σ H)
  (hs:∀ i σ H,i < n->Pv i σ H->g (.int (lo + i)) σ H fun A9 H2=>tb { D with nx:=Pv (i + 1),ct:=Pv (i + 1),bk:=D.nx } A9 H2) (hd:∀ σ H,Pv n σ H->D.nx σ H) :
  ∃ W:Nat->Nat->St->Hp->Prop,(∃ m,W 0 m σ H)/\∀ i m σ H,W i m σ H ->
   ((KR lo n).stop i H/\D.nx σ H)\/((KR lo n).go i H/\∃ N:St->Hp->Prop,(∀ A8 H',N A8 H'->∃ m',m' < m/\W (i + 1) m' A8 H')/\∀ x H',(KR lo n).yld i H x H'->g x σ H' fun A9 H2=>tb { D with nx:=N,ct:=N,bk:=D.nx } A9 H2):=by
 refine ⟨fun i m σ H=>m=n - i/\i<=n/\Pv i σ H,⟨n,by simp,aH _,h0⟩,?_⟩;rintro i m σ H ⟨rfl,hi,p⟩;by_cases BE:i < n
 ·refine .inr ⟨BE,Pv (i + 1),fun A8 H' p'=>⟨n - (i + 1),by lia,rfl,BE,p'⟩,fun x H' y=>?_⟩;obtain ⟨e,y⟩:=y;subst e y;exact hs i σ _ BE p
 ·have e:i=n:=by lia
  subst e;exact .inl ⟨ZX _,hd σ H p⟩
abbrev R2:=V->V->Hp->VK->Prop
def F1 (X:Cx) (f:Value->Value->Sem Value) (r:R2):Prop:=
 ∀ ⦃pins:List (Addr × Obj)⦄ (s:Shared) (σ:St) (H:Hp) (x y:V) (v u:Value) (Q:VK),Au X pins σ H s->AF x v->AF y u->r x y H Q ->
  wpAny (model X.prog X.w) X.A (f v u) (EP X pins σ Q) X.xe s
def UnR (X:Cx) (f:Value->Sem Value) (r:V->Hp->VK->Prop):Prop:=
 ∀ ⦃pins:List (Addr × Obj)⦄ (s:Shared) (σ:St) (H:Hp) (x:V) (v:Value) (Q:VK),Au X pins σ H s->AF x v->r x H Q ->
  wpAny (model X.prog X.w) X.A (f v) (EP X pins σ Q) X.xe s
def Bp (X:Cx) (f:Value) (r:List V->Hp->VK->Prop):Prop:=
 ∀ ⦃pins:List (Addr × Obj)⦄ (s:Shared) (σ:St) (H:Hp) (xs:List V) (us:List Value) (Q:VK),Au X pins σ H s->A3 xs us->r xs H Q ->
  wpAny (model X.prog X.w) X.A (call f us) (EP X pins σ Q) X.xe s
def TruR (X:Cx) (r:V->Hp->(Bool->Hp->Prop)->Prop):Prop:=
 ∀ ⦃pins:List (Addr × Obj)⦄ (s:Shared) (σ:St) (H:Hp) (x:V) (v:Value) (Q:Bool->Hp->Prop),Au X pins σ H s->AF x v->r x H Q ->
  wpAny (model X.prog X.w) X.A (truthy v) (TP X pins σ Q) X.xe s
def tOp (r:R2) (ta tb:TE):TE:=fun σ H Q=>ta σ H fun x H1=>tb σ H1 fun y H2=>r x y H2 Q
def tUn (r:V->Hp->VK->Prop) (ta:TE):TE:=fun σ H Q=>ta σ H fun x H1=>r x H1 Q
def rI (C:Int->Int->Prop) (g:Int->Int->V):R2:=fun x y H Q=>∃ i j,x=.int i/\y=.int j/\C i j/\Q (g i j) H
def Uw (g:Int->Int->V):R2:=fun x y H Q=>∃ i j,x=.int i/\y=.int j/\Q (g i j) H
def rU (g:Int->V):V->Hp->VK->Prop:=fun x H Q=>∃ i,x=.int i/\Q (g i) H
section
variable {X:Cx} {a b c:Expr} {ta tb tc:TE} {pos:Pos}
theorem Wa (ha:PE X a ta) (hb:PE X b tb) {pins:List (Addr × Obj)} {s:Shared} {σ:St} {H:Hp} {R:V->V->Hp->Prop} (I:Au X pins σ H s)
  (h:ta σ H fun x H1=>tb σ H1 fun y H2=>R x y H2) {Q:Value->Shared->Prop} {f:Value->Value->Sem Value}
  (hf:∀ v u s2 x y H2,Au X pins σ H2 s2->AF x v->AF y u->R x y H2->wpAny (model X.prog X.w) X.A (f v u) Q X.xe s2) :
  wpAny (model X.prog X.w) X.A (eval a X.env) (fun v Bb=>wpAny (model X.prog X.w) X.A (eval b X.env) (fun u Ey=>wpAny (model X.prog X.w) X.A (f v u) Q X.xe Ey) X.xe Bb) X.xe s:=by
 refine BC (ha (pins:=pins) s σ H _ I h) fun v s1 ⟨x,H1,I1,r1,q1⟩=>?_
 refine BC (hb (pins:=pins) s1 σ H1 _ I1 q1) fun u s2 ⟨y,H2,I2,r2,q2⟩=>?_
 exact hf v u s2 x y H2 I2 r1 r2 q2
theorem Aw {op:Operator} {r:R2} (ho:F1 X (binaryOp op) r) (ha:PE X a ta) (hb:PE X b tb):PE X (.BinOp a op b pos) (tOp r ta tb):=by
 intro pins s σ H Q I h;exact wpAny_BinOp (Wa ha hb I h fun v u s2 x y H2 I2 rx ry q=>ho (pins:=pins) s2 σ H2 x y v u Q I2 rx ry q)
theorem Uz {op:UnaryOp} {r:V->Hp->VK->Prop} (ho:UnR X (unaryOp op) r) (ha:PE X a ta):PE X (.UnaryOp op a pos) (tUn r ta):=by
 intro pins s σ H Q I h;exact UnaryOp_ (BC (ha (pins:=pins) s σ H _ I h) fun v s1 ⟨x,H1,I1,r1,q1⟩=>ho (pins:=pins) s1 σ H1 x v Q I1 r1 q1)
theorem Wq {f:Value->Value->Sem Value} {C:Int->Int->Prop} {g:Int->Int->Int}
  (rule:∀ (i j:Int) (t u:Tok) (s:Shared) (Q:Value->Shared->Prop) (E:Value->Shared->Prop),C i j->Q (.int (g i j) s.toks) { s with toks:=s.toks + 1 }->wpAny (model X.prog X.w) X.A (f (.int i t) (.int j u)) Q E s) :
  F1 X f (rI C fun i j=>.int (g i j)):=by
 intro pins s σ H x y v u Q I rx ry h;obtain ⟨i,j,rfl,rfl,hc,q⟩:=h;obtain ⟨t,rfl⟩:=rx;obtain ⟨t',rfl⟩:=ry;exact rule i j t t' s _ _ hc ⟨.int (g i j),H,I.tok _,⟨_,rfl⟩,q⟩
theorem opI0 {f:Value->Value->Sem Value} {g:Int->Int->Int}
  (rule:∀ (i j:Int) (t u:Tok) (s:Shared) (Q:Value->Shared->Prop) (E:Value->Shared->Prop),Q (.int (g i j) s.toks) { s with toks:=s.toks + 1 }->wpAny (model X.prog X.w) X.A (f (.int i t) (.int j u)) Q E s) :
  F1 X f (Uw fun i j=>.int (g i j)):=by
 intro pins s σ H x y v u Q I rx ry h;obtain ⟨i,j,rfl,rfl,q⟩:=h;obtain ⟨t,rfl⟩:=rx;obtain ⟨t',rfl⟩:=ry;exact rule i j t t' s _ _ ⟨.int (g i j),H,I.tok _,⟨_,rfl⟩,q⟩
theorem SW {f:Value->Value->Sem Value} {g:Int->Int->Bool}
  (rule:∀ (i j:Int) (t u:Tok) (s:Shared) (Q:Value->Shared->Prop) (E:Value->Shared->Prop),Q (.bool (g i j)) s->wpAny (model X.prog X.w) X.A (f (.int i t) (.int j u)) Q E s) :
  F1 X f (Uw fun i j=>.bl (g i j)):=by
 intro pins s σ H x y v u Q I rx ry h;obtain ⟨i,j,rfl,rfl,q⟩:=h;obtain ⟨t,rfl⟩:=rx;obtain ⟨t',rfl⟩:=ry;exact rule i j t t' s _ _ ⟨.bl (g i j),H,I,rfl,q⟩
def CDiv (i j:Int):Prop:=0 < j/\j < 1073741824
def CPow (i j:Int):Prop:=0<=j/\j<=1000000/\i.natAbs < 2 ^ 64
def Wj (i j:Int):Prop:=(-(2 ^ 64) < i/\i < 2 ^ 64)\/(-(2 ^ 64) < j/\j < 2 ^ 64)
theorem Wj.ok {i j:Int} (h:Wj i j):IntMulOk i j:=by
 rcases h with ⟨h1,h2⟩ | ⟨h1,h2⟩
 ·exact .of_left (intBits_le_64 h1 h2)
 ·exact .of_right (intBits_le_64 h1 h2)
theorem AY:F1 X (binaryOp .Add) (Uw fun i j=>.int (i + j)):=opI0 fun _ _ _ _ _ _ _ q=>add_int q
theorem MN:F1 X (binaryOp .Sub) (Uw fun i j=>.int (i - j)):=opI0 fun _ _ _ _ _ _ _ q=>sub_int q
theorem Fm:F1 X (binaryOp .Mult) (rI Wj fun i j=>.int (i * j)):=Wq fun _ _ _ _ _ _ _ hc q=>mul_int q hc.ok
theorem Kw:F1 X (binaryOp .FloorDiv) (rI CDiv fun i j=>.int (i / j)):=Wq fun i j _ _ _ _ _ hc q=>by
 have h1:(0:Int) < j:=hc.1;have h2:j < 1073741824:=hc.2;exact floordiv_int (by lia) (by rw [Int.fdiv_eq_ediv_of_nonneg i (by lia)]; exact q) (.inl (PyProof.noPylong_small (by lia)))
theorem EB:F1 X (binaryOp .Mod) (rI (fun _ j=>0 < j) fun i j=>.int (i % j)):=Wq fun i j _ _ _ _ _ hc q=>by
 have h1:(0:Int) < j:=hc;exact mod_int' (by lia) (by rw [Int.fmod_eq_emod_of_nonneg i (by lia)]; exact q)
theorem Kv:F1 X (binaryOp .Pow) (rI CPow fun i j=>.int (i ^ j.toNat)):=Wq fun _ _ _ _ _ _ _ hc q=>pow_int_small hc.1 hc.2.1 hc.2.2 q
theorem unI {f:Value->Sem Value} {g:Int->Int}
  (rule:∀ (i:Int) (t:Tok) (s:Shared) (Q:Value->Shared->Prop) (E:Value->Shared->Prop),Q (.int (g i) s.toks) { s with toks:=s.toks + 1 }->wpAny (model X.prog X.w) X.A (f (.int i t)) Q E s) :
  UnR X f (rU fun i=>.int (g i)):=by
 intro pins s σ H x v Q I rx h;obtain ⟨i,rfl,q⟩:=h;obtain ⟨t,rfl⟩:=rx;exact rule i t s _ _ ⟨.int (g i),H,I.tok _,⟨_,rfl⟩,q⟩
theorem Qn:UnR X (unaryOp .USub) (rU fun i=>.int (-i)):=unI fun _ _ _ _ _ q=>neg_int q
end
def scal:V->V->Bool
 | .non,.non=>true | .non,.int _=>true | .int _,.non=>true | .non,.bl _=>true | .bl _,.non=>true | .non,.str _=>true | .str _,.non=>true
 | .int _,.int _=>true | .bl _,.bl _=>true | .str _,.str _=>true | .byt _,.byt _=>true
 | .int _,.str _=>true | .str _,.int _=>true | .bl _,.str _=>true | .str _,.bl _=>true
 | _,_=>false
def rEq:R2:=fun x y H Q=>scal x y=true/\Q (.bl (decide (x=y))) H
def rNe:R2:=fun x y H Q=>scal x y=true/\Q (.bl (!decide (x=y))) H
theorem Om {i j:Int}:decide (V.int i=V.int j)=(i == j):=by
 rw [bV];simp
theorem RQ {i j:Bool}:decide (V.bl i=V.bl j)=(i == j):=by
 rw [bV];simp
theorem Ol {i j:Str}:decide (V.str i=V.str j)=(i == j):=by
 rw [bV];simp
theorem Oo {i j:Array UInt8}:decide (V.byt i=V.byt j)=(i.toList == j.toList):=by
 rw [bV];cases i
 cases j
 simp
section
variable {X:Cx} {a b c:Expr} {ta tb tc:TE} {pos:Pos}
theorem Bh {pins:List (Addr × Obj)} {σ:St} {H:Hp} {s:Shared} {Q:VK} {k k':Bool} (I:Au X pins σ H s) (q:Q (.bl k) H) (e:k=k'):EP X pins σ Q (.bool k') s:=by
 subst e;exact ⟨.bl k,H,I,rfl,q⟩
theorem Fe:F1 X (compareOp .Eq) rEq:=by
 intro pins s σ H x y v u Q I rx ry h;obtain ⟨hs,q⟩:=h;cases x with
 | non=>
  cases rx
  cases y with
  | non=>cases ry; exact PySem.EqNone.eq_none_none (Bh I q (by simp))
  | bl j=>cases ry; exact PySem.EqNone.eq_none_bool (Bh I q (by simp))
  | int j=>obtain ⟨t',rfl⟩:=ry; exact PySem.EqNone.eq_none_int (Bh I q (by simp))
  | str j=>obtain ⟨t',rfl⟩:=ry; exact PySem.EqNone.eq_none_str (Bh I q (by simp))
  | _=>exact absurd (show false=true from hs) az
 | bl i=>
  cases rx
  cases y with
  | non=>cases ry; exact PySem.EqNone.eq_bool_none (Bh I q (by simp))
  | bl j=>cases ry; exact eq_bool (Bh I q RQ)
  | str j=>obtain ⟨t',rfl⟩:=ry; exact PySem.EqMixed.eq_bool_str (Bh I q (by simp))
  | _=>exact absurd (show false=true from hs) az
 | int i=>
  obtain ⟨t,rfl⟩:=rx;cases y with
  | non=>cases ry; exact PySem.EqNone.eq_int_none (Bh I q (by simp))
  | int j=>obtain ⟨t',rfl⟩:=ry; exact eq_int (Bh I q Om)
  | str j=>obtain ⟨t',rfl⟩:=ry; exact PySem.EqMixed.eq_int_str (Bh I q (by simp))
  | _=>exact absurd (show false=true from hs) az
 | str i=>
  obtain ⟨t,rfl⟩:=rx;cases y with
  | non=>cases ry; exact PySem.EqNone.eq_str_none (Bh I q (by simp))
  | bl j=>cases ry; exact PySem.EqMixed.eq_str_bool (Bh I q (by simp))
  | int j=>obtain ⟨t',rfl⟩:=ry; exact PySem.EqMixed.eq_str_int (Bh I q (by simp))
  | str j=>obtain ⟨t',rfl⟩:=ry; exact eq_str (Bh I q Ol)
  | _=>exact absurd (show false=true from hs) az
 | byt i=>
  obtain ⟨t,rfl⟩:=rx;cases y with
  | byt j=>obtain ⟨t',rfl⟩:=ry; exact PySem.W.eq_bytes (Bh I q Oo)
  | _=>exact absurd (show false=true from hs) az
 | _=>cases y <;> exact absurd (show false=true from hs) az
theorem NV:F1 X (compareOp .NotEq) rNe:=by
 intro pins s σ H x y v u Q I rx ry h;obtain ⟨hs,q⟩:=h;cases x with
 | non=>
  cases rx
  cases y with
  | non=>cases ry; exact PySem.EqNone.ne_none_none (Bh I q (by simp))
  | bl j=>cases ry; exact PySem.EqNone.ne_none_bool (Bh I q (by simp))
  | int j=>obtain ⟨t',rfl⟩:=ry; exact PySem.EqNone.ne_none_int (Bh I q (by simp))
  | str j=>obtain ⟨t',rfl⟩:=ry; exact PySem.EqNone.ne_none_str (Bh I q (by simp))
  | _=>exact absurd (show false=true from hs) az
 | bl i=>
  cases rx
  cases y with
  | non=>cases ry; exact PySem.EqNone.ne_bool_none (Bh I q (by simp))
  | bl j=>cases ry; exact ne_bool (Bh I q (congrArg not RQ))
  | str j=>obtain ⟨t',rfl⟩:=ry; exact PySem.EqMixed.ne_bool_str (Bh I q (by simp))
  | _=>exact absurd (show false=true from hs) az
 | int i=>
  obtain ⟨t,rfl⟩:=rx;cases y with
  | non=>cases ry; exact PySem.EqNone.ne_int_none (Bh I q (by simp))
  | int j=>obtain ⟨t',rfl⟩:=ry; exact ne_int (Bh I q (congrArg not Om))
  | str j=>obtain ⟨t',rfl⟩:=ry; exact PySem.EqMixed.ne_int_str (Bh I q (by simp))
  | _=>exact absurd (show false=true from hs) az
 | str i=>
  obtain ⟨t,rfl⟩:=rx;cases y with
  | non=>cases ry; exact PySem.EqNone.ne_str_none (Bh I q (by simp))
  | bl j=>cases ry; exact PySem.EqMixed.ne_str_bool (Bh I q (by simp))
  | int j=>obtain ⟨t',rfl⟩:=ry; exact PySem.EqMixed.ne_str_int (Bh I q (by simp))
  | str j=>obtain ⟨t',rfl⟩:=ry; exact ne_str (Bh I q (congrArg not Ol))
  | _=>exact absurd (show false=true from hs) az
 | byt i=>
  obtain ⟨t,rfl⟩:=rx;cases y with
  | byt j=>obtain ⟨t',rfl⟩:=ry; exact PySem.W.ne_bytes (Bh I q (congrArg not Oo))
  | _=>exact absurd (show false=true from hs) az
 | _=>cases y <;> exact absurd (show false=true from hs) az
theorem GK:F1 X (compareOp .Lt) (Uw fun i j=>.bl (decide (i < j))):=SW fun _ _ _ _ _ _ _ q=>lt_int q
theorem U0:F1 X (compareOp .LtE) (Uw fun i j=>.bl (decide (i<=j))):=SW fun _ _ _ _ _ _ _ q=>le_int q
theorem Et:F1 X (compareOp .Gt) (Uw fun i j=>.bl (decide (j < i))):=SW fun _ _ _ _ _ _ _ q=>gt_int q
theorem U1:F1 X (compareOp .GtE) (Uw fun i j=>.bl (decide (j<=i))):=SW fun _ _ _ _ _ _ _ q=>ge_int q
theorem AJ (b:Expr) {op:CmpOp} (h:op ≠ .In:=by decide) (h2:op ≠ .NotIn:=by decide):behindInMarks op b=false:=by
 have e1:(op == CmpOp.In)=false:=by cases op <;> first | rfl | exact absurd rfl h
 have e2:(op == CmpOp.NotIn)=false:=by cases op <;> first | rfl | exact absurd rfl h2
 cases b <;> simp [behindInMarks,e1,e2]
theorem BZ {op:CmpOp} {r:R2} (ho:F1 X (compareOp op) r) (ha:PE X a ta) (hb:PE X b tb) (hm:behindInMarks op b=false):PE X (.Compare a [op] [b] pos) (tOp r ta tb):=by
 intro pins s σ H Q I h;exact wpAny_Compare1 (Wa ha hb I h fun v u s2 x y H2 I2 rx ry q=>ho (pins:=pins) s2 σ H2 x y v u Q I2 rx ry q) hm
def Uq (t:TE):TT:=fun σ H Q=>t σ H fun x H'=>∃ k,x=.bl k/\Q k H'
theorem AZ {op:CmpOp} {r:R2} (ho:F1 X (compareOp op) r) (ha:PE X a ta) (hb:PE X b tb) (hm:behindInMarks op b=false):PT X (.Compare a [op] [b] pos) (Uq (tOp r ta tb)):=by
 intro pins s σ H Q I h;refine wpAny_isTrue_Compare1 (BC (ha (pins:=pins) s σ H _ I h) fun v s1 ⟨x,H1,I1,r1,q1⟩=>BC (hb (pins:=pins) s1 σ H1 _ I1 q1) fun u s2 ⟨y,H2,I2,r2,q2⟩=>
  BC (ho (pins:=pins) s2 σ H2 x y v u _ I2 r1 r2 q2) fun c s3 ⟨z,H3,I3,r3,k,e,q3⟩=>?_) hm
 subst e;cases r3
 exact wpAny_truthy_bool ⟨H3,I3,q3⟩
def Vb (r r':R2) (ta tb tc:TE):TE:=fun σ H Q=>ta σ H fun x H1=>tb σ H1 fun y H2=>r x y H2 fun z H3=>∃ k,z=.bl k /\
 (if k=true then tc σ H3 fun w' H4=>r' y w' H4 Q else Q (.bl false) H3)
theorem QX {op YG:CmpOp} {r r':R2} (ho:F1 X (compareOp op) r) (K9:F1 X (compareOp YG) r') (ha:PE X a ta) (hb:PE X b tb) (hc:PE X c tc)
  (hm:lastMarks [op,YG] [b,c]=false:=by with_unfolding_all rfl):PT X (.Compare a [op,YG] [b,c] pos) (Uq (Vb r r' ta tb tc)):=by
 intro pins s σ H Q I h;refine isTrue_chain (BC (ha (pins:=pins) s σ H _ I h) fun v s1 ⟨x,H1,I1,r1,q1⟩=>test_link (BC (hb (pins:=pins) s1 σ H1 _ I1 q1) fun u s2 ⟨y,H2,I2,r2,q2⟩=>
  BC (ho (pins:=pins) s2 σ H2 x y v u _ I2 r1 r2 q2) fun d s3 ⟨z,H3,I3,r3,k,e,q3⟩=>?_)) hm
 subst e;cases r3
 refine wpAny_truthy_bool ?_;cases k with
 | false=>
  obtain ⟨k',e',q'⟩:=q3;cases e'
  exact ite_ff ⟨H3,I3,q'⟩
 | true=>
  refine ite_tt (test_last (BC (hc (pins:=pins) s3 σ H3 _ I3 q3) fun w' s4 ⟨z',H4,I4,r4,q4⟩=>BC (K9 (pins:=pins) s4 σ H4 y z' u w' _ I4 r2 r4 q4) fun d' s5 ⟨z2,H5,I5,r5,k2,e2,q5⟩=>?_));subst e2;cases r5
  exact wpAny_truthy_bool ⟨H5,I5,q5⟩
def Wd (K:ZV) (x:V) (H:Hp) (k:Bool):Prop:=
 match x with
 | .non=>k=false
 | .bl b=>k=b
 | .int i=>k=(i != 0)
 | .str y=>y.length<=sizeLine/\k=((y.length:Int) != 0)
 | .byt y=>y.size<=sizeLine/\k=((y.size:Int) != 0)
 | .ref p=>(∃ xs,AV K H p xs/\k = !xs.isEmpty)\/(∃ xs,A2 K H p xs/\k = !xs.isEmpty)\/∃ kvs,H p=some (.dK kvs)/\k = !kvs.isEmpty
 | _=>False
theorem MY {κ:Type} {kvs:List (κ × V)} {vs:List (κ × Value)} (r:KV kvs vs):(!vs.isEmpty) = !kvs.isEmpty:=by
 cases r <;> rfl
theorem IA {xs:List V} {Az:List Value} (r:A3 xs Az):(!Az.toArray.isEmpty) = !xs.isEmpty:=by
 cases r <;> simp
theorem Gu:(sizeLine:Nat) < 2 ^ 63:=by rw [sizeLine_eq]; decide
theorem UT:TruR X (fun x H Q=>∃ k,Wd X.K x H k/\Q k H):=by
 intro pins s σ H x v Q I rx h;obtain ⟨k,e,q⟩:=h;have hl:=Gu;have hs:sizeLine=16777216:=sizeLine_eq;cases x with
 | non=>
  cases rx
  have e':k=false:=e;subst e';exact truthy_none ⟨H,I,q⟩
 | bl b=>
  cases rx
  have e':k=b:=e;subst e';exact wpAny_truthy_bool ⟨H,I,q⟩
 | int i=>
  obtain ⟨t,rfl⟩:=rx;have e':k=(i != 0):=e;subst e';exact PySem.P.truthy_int ⟨H,I,q⟩
 | str y=>
  obtain ⟨t,rfl⟩:=rx;obtain ⟨hy,e'⟩:y.length<=sizeLine/\k=((y.length:Int) != 0):=e;subst e';exact PySem.P.truthy_str (by lia) ⟨H,I.tok _,q⟩
 | byt y=>
  obtain ⟨t,rfl⟩:=rx;obtain ⟨hy,e'⟩:y.size<=sizeLine/\k=((y.size:Int) != 0):=e;subst e';exact PySem.W.truthy_bytes (by lia) ⟨H,I.tok _,q⟩
 | ref p=>
  cases rx
  have e':(∃ xs,AV X.K H p xs/\k = !xs.isEmpty)\/(∃ xs,A2 X.K H p xs/\k = !xs.isEmpty)\/∃ kvs,H p=some (.dK kvs)/\k = !kvs.isEmpty:=e;rcases e' with ⟨xs,hx,e'⟩ | ⟨xs,hx,e'⟩ | ⟨kvs,hx,e'⟩
  ·subst e';obtain ⟨Az,r,pl,hz⟩:=I.list hx;have hlen:=r.length;exact wpAny_truthy_list pl.isList (by simp only [aB]; lia) ⟨H,I.tok _,by rw [IA r]; exact q⟩
  ·subst e';obtain ⟨Az,r,pl,hz⟩:=I.tuple hx;have hlen:=r.length;exact truthy_tuple pl (by simp only [aB]; lia) ⟨H,I.tok _,by rw [IA r]; exact q⟩
  ·subst e';obtain ⟨hz,hS,vs,r,m⟩:kvs.length<=sizeLine/\(p == sysModules)=false/\∃ vs,KV kvs vs/\s.heap.DictOf (AO X.prog X.w) p vs:=I.hok p _ hx;have hlen:kvs.length=vs.length:=Paired.length r;exact wpAny_truthy_dict hS m (by lia) ⟨H,I.tok _,by rw [MY r]; exact q⟩
 | _=>exact (show False from e).elim
theorem L7 (ha:PE X a ta) (he:∀ whole,isTrue a X.env whole=(do let v <- whole; standAt a.pos; holding [v] (truthy v))) :
  PT X a (fun σ H Q=>ta σ H fun x H'=>∃ k,Wd X.K x H' k/\Q k H'):=by
 intro pins s σ H Q I h;exact isTrue_plain (BC (ha (pins:=pins) s σ H _ I h) fun v s1 ⟨x,H1,I1,r1,q1⟩=>UT (pins:=pins) s1 σ H1 x v Q I1 r1 q1) (he _)
theorem Fo:F1 X (binaryOp .Add) (fun x y H Q=>∃ i j,x=.str i/\y=.str j/\i.length + j.length<=sizeLine/\Q (.str (i ++ j)) H):=by
 intro pins s σ H x y v u Q I rx ry h;obtain ⟨i,j,rfl,rfl,hz,q⟩:=h;obtain ⟨t,rfl⟩:=rx;obtain ⟨t',rfl⟩:=ry;exact add_str (fun t' tk=>⟨.str (i ++ j),H,I.tok _,⟨_,rfl⟩,q⟩) hz
theorem Cd {x:V} {us:List Value} (r:A3 [x] us):∃ u,us=[u]/\AF x u:=by
 cases r with
 | cons r1 r2=>cases r2; exact ⟨_,rfl,r1⟩
theorem Qi {x y:V} {us:List Value} (r:A3 [x,y] us):∃ u w',us=[u,w']/\AF x u/\AF y w':=by
 cases r with
 | cons r1 r2=>
  cases r2 with
  | cons r3 r4=>cases r4; exact ⟨_,_,rfl,r1,r3⟩
theorem PK (hc:X.calm=true):Bp X (.builtin "max") (fun xs H Q=>∃ i j,xs=[.int i,.int j]/\Q (.int (if j > i then j else i)) H):=by
 intro pins s σ H xs us Q I r h;obtain ⟨i,j,rfl,q⟩:=h;obtain ⟨u,w',rfl,⟨t,rfl⟩,⟨t',rfl⟩⟩:=Qi r;refine max_two_ints (I.ok.hd hc) fun h' tk k=>⟨_,H,I.kept k,?_,q⟩
 by_cases hj:j > i
 ·rw [if_pos hj,if_pos hj]; exact ⟨_,rfl⟩
 ·rw [if_neg hj,if_neg hj]; exact ⟨_,rfl⟩
theorem ES (hc:X.calm=true):Bp X (.builtin "min") (fun xs H Q=>∃ i j,xs=[.int i,.int j]/\Q (.int (if j < i then j else i)) H):=by
 intro pins s σ H xs us Q I r h;obtain ⟨i,j,rfl,q⟩:=h;obtain ⟨u,w',rfl,⟨t,rfl⟩,⟨t',rfl⟩⟩:=Qi r;refine min_two_ints (I.ok.hd hc) fun h' tk k=>⟨_,H,I.kept k,?_,q⟩
 by_cases hj:j < i
 ·rw [if_pos hj,if_pos hj]; exact ⟨_,rfl⟩
 ·rw [if_neg hj,if_neg hj]; exact ⟨_,rfl⟩
theorem CW:Bp X (.type "int") (fun xs H Q=>(∃ i,xs=[.int i]/\Q (.int i) H)\/∃ k,xs=[.bl k]/\Q (.int (if k then 1 else 0)) H):=by
 intro pins s σ H xs us Q I r h;rcases h with ⟨i,rfl,q⟩ | ⟨k,rfl,q⟩
 ·obtain ⟨u,rfl,t,rfl⟩:=Cd r;exact call_int_int ⟨.int i,H,I,⟨_,rfl⟩,q⟩
 ·obtain ⟨u,rfl,r1⟩:=Cd r;cases r1
  exact call_int_bool ⟨.int (if k then 1 else 0),H,I.tok _,⟨_,rfl⟩,q⟩
end
section
variable {prog:Program} {w:World} {A:Around} {E:Value->Shared->Prop} {s:Shared} {K:ZV} {x dx C f:Addr} {mA:Str->Option Value} {name:Str} {v:Value}
end
theorem Hu.some_of {v:V} {o:Option Value} (r:Hu (some v) o):∃ u,o=some u/\AF v u:=by
 cases o with
 | none=>exact (show False from r).elim
 | some u=>exact ⟨u,rfl,r⟩
section
variable {P:Program} {w:World} {H H':Hp} {h h':Heap} {a C dx:Addr} {fs Wu:List (Str × V)}
end
section
variable {X:Cx} {pins:List (Addr × Obj)} {σ:St} {H:Hp} {s:Shared} {a C dx:Addr} {fs:List (Str × V)} {f:Str} {v:V} {A:Around} {E:Value->Shared->Prop}
end
section
variable {X:Cx} {o e value:Expr} {f:Str} {pos pos' tpos:Pos} {ta tv:TE}
end
section
variable {X:Cx} {pins:List (Addr × Obj)} {σ:St} {H:Hp} {s:Shared} {A:Around} {E:Value->Shared->Prop} {Q:Value->Shared->Prop} {c:Value} {b:Bool}
end
structure En (k:Nat) (A:Around):Prop where
 hd:A.handled=none
 dp:A.depth + 3 * k + 5 < recursionLimit
 un:A.units + 16 * k + 200 < cLine
 gd:A.guards=some []:=by rfl
theorem En.mono {j k:Nat} {A:Around} (r:En k A) (h:j<=k):En j A:=⟨r.hd,by have:=r.dp; lia,by have:=r.un; lia,r.gd⟩
theorem En.deeper {k:Nat} {A:Around} (r:En (k + 1) A) (env:Env):En k (A.deeper env):=
 ⟨r.hd,by have:=r.dp; show A.depth + 1 + 3 * k + 5 < _; lia,by have:=r.un; show A.units + 3 + 16 * k + 200 < _; lia,r.gd⟩
theorem En.depth {k:Nat} {A:Around} (r:En k A):A.depth < recursionLimit:=by have:=r.dp; lia
theorem En.units {k:Nat} {A:Around} (r:En k A):A.units + 64 < cLine:=by have:=r.un; lia
def tNil:TA:=fun _ H Q=>Q [] H
def tCons (ta:TE) (tr:TA):TA:=fun σ H Q=>ta σ H fun x H1=>tr σ H1 fun xs H2=>Q (x :: xs) H2
section
variable {X:Cx} {e:Expr} {es:List Expr} {te:TE} {t:TA} {pos:Pos}
theorem Ac:PA X [] tNil:=fun _ _ _ _ H Q I h=>Calls.spliced_nil ⟨[],H,I,.nil,h⟩
theorem Aa (ha:PE X e te) (hr:PA X es t) (hs:starEach (e :: es) X.env=(false,eval e X.env) :: starEach es X.env:=by rfl):PA X (e :: es) (tCons te t):=by
 intro pos pins s σ H Q I h;rw [hs];show wpAny _ _ (spliced ((false,eval e X.env) :: backTo pos (starEach es X.env))) _ _ s
 refine Calls.spliced_cons (BC (ha (pins:=pins) s σ H _ I h) fun u s1 ⟨x,H1,I1,r1,q1⟩=>?_);exact BC (hr (pos:=pos) (pins:=pins) s1 σ H1 _ I1 q1) fun us s2 ⟨xs,H2,I2,r2,q2⟩=>⟨x :: xs,H2,I2,.cons r1 r2,q2⟩
def tTup (t:TA):TE:=fun σ H Q=>t σ H fun xs H1=>xs.length<=sizeLine/\∀ p,H1 p=none->Q (.ref p) (upd H1 p (.tup xs))
def tLst (t:TA):TE:=fun σ H Q=>t σ H fun xs H1=>xs.length<=sizeLine/\∀ p,H1 p=none->Q (.ref p) (upd H1 p (.lst xs))
theorem AX {x1} (h:PA X es t):PE X (.Tuple es x1 pos) (tTup t):=by
 intro pins s σ H Q I hq;refine wpAny_Tuple_spliced (BC (h (pos:=pos) (pins:=pins) s σ H _ I hq) fun us s1 ⟨xs,H1,I1,r,z,q⟩=>⟨by rw [<-r.length]; exact z,?_⟩);have hf:H1 s1.heap.objs.size=none:=I1.hok.fresh (ZX _);refine ⟨.ref s1.heap.objs.size,upd H1 s1.heap.objs.size (.tup xs),I1.laid (t':=s1.toks) (fun b u e=>ZT _ e) (ZX _) ?_,rfl,q _ hf⟩;exact ⟨z,us,r,⟨_,ah _ rfl,rfl,_,rfl⟩,Mp.new rfl rfl⟩
theorem BG (h:PA X es t):PE X (.List es pos) (tLst t):=by
 intro pins s σ H Q I hq;refine wpAny_List_spliced (BC (h (pos:=pos) (pins:=pins) s σ H _ I hq) fun us s1 ⟨xs,H1,I1,r,z,q⟩=>⟨by rw [<-r.length]; exact z,?_⟩);have hf:H1 s1.heap.objs.size=none:=I1.hok.fresh (ZX _);refine ⟨.ref s1.heap.objs.size,upd H1 s1.heap.objs.size (.lst xs),I1.laid (t':=s1.toks) (fun b u e=>ZT _ e) (ZX _) ?_,rfl,q _ hf⟩;exact ⟨z,us,0,r,ah _ rfl⟩
end
abbrev Sp:=List V->Hp->VK->XK->Prop
abbrev Se:=List Env->Hp->Shared->XK->Value->Shared->Prop
structure Uh (P:Program) (w:World) (K:ZV) (mg:Str->Option Value) (base:Heap) (A:Around) (outer:List Env) (s:Shared) (H:Hp):Prop where
 frames:A.frames=some outer
 mod:Mod K mg base
 bs:∀ b o,base.get? b=some o->s.heap.get? b=some o/\H b=none
 bsz:base.objs.size<=s.heap.objs.size
 funs:s.heap.FunFrames base outer
 frf:∀ b ∈ RJ outer,H b=none
 hok:Gb P w H s.heap
 bare:AllBare s.gens
def CE (outer:List Env) (P:Program) (w:World) (H:Hp) (s:Shared) (Q:VK) (u:Value) (s':Shared):Prop:=
 ∃ v H',s'.os=s.os/\AllBare s'.gens/\Un (RJ outer) [] H H' s.heap s'.heap/\Gb P w H' s'.heap/\AF v u/\Q v H'
def CR (CX:Se) (outer:List Env) (P:Program) (w:World) (H:Hp) (s:Shared) (Q:VK) (E:XK) (r:Result) (s':Shared):Prop:=
 match r with
 | .ok (.ret u)=>CE outer P w H s Q u s'
 | .ok _=>False
 | .error e=>CX outer H s E e s'
structure AG (P:Program) (w:World) (K:ZV) (mg:Str->Option Value) (base:Heap) (CX:Se) (k:Nat) (f:Addr) (fd:FuncData) (ps:List Str) (sp:Sp):Prop where
 len:∀ vs H Q E,sp vs H Q E->vs.length=ps.length
 run:∀ (A:Around) (outer:List Env) (s:Shared) (H:Hp) (args:Args) (us:List Value) (vs:List V) (Q:VK) (E:XK),En k A->Uh P w K mg base A outer s H->BindsTo s fd args (ps.zip us)->A3 vs us->sp vs H Q E ->
  codeAny (model P w) A (.call (.ref f) args) (CR CX outer P w H s Q E) s
section
variable {X:Cx} {pins:List (Addr × Obj)} {σ:St} {H:Hp} {s s':Shared}
theorem Au.env0 (I:Au X pins σ H s):Uh X.prog X.w X.K X.mg X.base X.A X.stack s H:=
 ⟨I.ok.frames,I.ok.mod,I.bs,aQ I.ok.bsz I.sz,I.stack,I.stkFree,I.hok,I.bare⟩
theorem Au.after {Q:VK} {u:Value} (I:Au X pins σ H s) (h:CE X.stack X.prog X.w H s Q u s'):EP X pins σ Q u s':=by
 obtain ⟨v,H',os,bare,un,hok,r,q⟩:=h;obtain ⟨hh,g,d,t,YF⟩:=s';obtain rfl:YF=s.os:=os;exact ⟨v,H',I.call (h':=hh) (g':=g) (d':=d) (t':=t) (ch:=[]) un hok bare (fun b z=>absurd z (by simp)),r,q⟩
end
def tCall (sp:Sp) (dvs:List V) (E:XK) (t:TA):TE:=fun σ H Q=>t σ H fun vs H1=>sp (vs ++ dvs) H1 Q E
def DO (K:ZV) (fd:FuncData) (ps:List Str) (ds:List Value):Prop:=
 ∀ (s:Shared) (us:List Value),K.In s.heap->(us ++ ds).length=ps.length->BindsTo s fd ⟨us,[]⟩ (ps.zip (us ++ ds))
theorem DO.all {K:ZV} {fd:FuncData} {ps:List Str} (h:∀ us:List Value,us.length=ps.length->bindArgs fd ⟨us,[]⟩=pure (ps.zip us)):DO K fd ps []:=fun s us _ hl=>by
 rw [cy] at hl ⊢;exact .of_eq (h us hl)
def Nq (CX:Se) (X:Cx) (E:XK):Prop:=∀ (pins:List (Addr × Obj)) (σ:St) (H:Hp) (s:Shared) (e:Value) (s':Shared),Au X pins σ H s->CX X.stack H s E e s'->X.xe e s'
section
variable {X:Cx} {CX:Se} {k:Nat} {f C:Addr} {fd:FuncData} {ps:List Str} {sp:Sp} {dvs:List V} {ds:List Value} {E:XK} {x m:Str} {p pos apos:Pos} {e o:Expr} {es:List Expr} {ta:TE} {t:TA}
theorem Vh {pins:List (Addr × Obj)} {σ:St} {H:Hp} {s:Shared} {Q:VK} {us:List Value} {vs:List V} (F:AG X.prog X.w X.K X.mg X.base CX k f fd ps sp) (hr:En k X.A) (hb:DO X.K fd ps ds) (hd:A3 dvs ds) (hx:Nq CX X E)
  (I:Au X pins σ H s) (r:A3 vs us) (h:sp (vs ++ dvs) H Q E):wpAny (model X.prog X.w) X.A (call (.ref f) us) (EP X pins σ Q) X.xe s:=by
 have r2:A3 (vs ++ dvs) (us ++ ds):=r.append hd;have hl:(us ++ ds).length=ps.length:=by rw [<-r2.length]; exact F.len _ _ _ _ h
 refine wpAny_call (codeAny_mono (F.run X.A X.stack s H ⟨us,[]⟩ (us ++ ds) (vs ++ dvs) Q E hr I.env0 (hb s us I.kIn hl) r2 h) fun r s' hq=>?_);cases r with
 | error e=>exact hx pins σ H s e s' I hq
 | ok fl=>
  cases fl with
  | ret u=>exact I.after hq
  | next=>exact False.elim hq
  | brk=>exact False.elim hq
  | cont=>exact False.elim hq
theorem Aj (F:AG X.prog X.w X.K X.mg X.base CX k f fd ps sp) (hr:En k X.A) (hg:Gl X x) (hm:X.mg x=some (.ref f)) (hk:dP X.K (.ref f)=true) (hb:DO X.K fd ps ds) (hd:A3 dvs ds) (hx:Nq CX X E)
  (ha:PA X (e :: es) t) (hdb:(x == ("__debug__":Str))=false:=by decide) (he:starEach (e :: es) X.env=(false,eval e X.env) :: starEach es X.env:=by rfl) (hpl:(backTo pos (starEach es X.env)).any (·.1)=false:=by rfl) :
  PE X (.Call (.Name x p) (e :: es) [] pos) (tCall sp dvs E t):=by
 intro pins s σ H Q I h;refine wpAny_Call_Name_kw (Tn I hg hm ?_ hdb);refine PySem.W.callWith_K (h₀:=X.base) I.ok.mod.kin hk (BC (ha (pos:=pos) (pins:=pins) s σ H _ I h) fun us s1 ⟨vs,H1,I1,r,q⟩=>⟨I1.kIn,?_⟩) he hpl;exact Vh F hr hb hd hx I1 r q
end
section
variable {X:Cx} {CX:Se} {k:Nat} {f C:Addr} {fd:FuncData} {ps ks:List Str} {sp:Sp} {E:XK} {x m:Str} {p pos apos kpos:Pos} {e o:Expr} {es:List Expr} {kws:List Keyword} {te ta:TE} {t tk:TA} {nm:Option Str}
variable {g:List Value->List Value->List Value} {gV:List V->List V->List V}
end
structure AL (N P:List Str) (sc:Scope):Prop where
 kind:sc.kind=.function
 co:sc.isCoroutine=false
 gen:sc.isGenerator=false
 nd:N.Nodup
 pre:N.take P.length=P
 par:∀ x ∈ P,sc.names.lookup x=some .local\/sc.names.lookup x=some .cell
 nofree:∀ y ∈ sc.names,y.2 ≠ .free
theorem JQ {kindOf:Str->Option NameKind} {x:Str}:∀ {binds:List (Str × Value)} {m:Str->Option Value},(∀ v,(x,v) ∉ binds)->bindL kindOf binds m x=m x
 | [],_,_=>rfl
 | (n,v) :: r,m,h=>by
  unfold bindL;rw [JQ fun w hw=>h w (aA _ hw)];split
  ·have:x ≠ n:=by rintro rfl; exact h v aJ
   simp [this]
  ·rfl
theorem JS {kindOf:Str->Option NameKind} {x:Str}:∀ {binds:List (Str × Value)} {m:Str->Option Value},(∀ v,(x,v) ∉ binds)->bindC kindOf binds m x=m x
 | [],_,_=>rfl
 | (n,v) :: r,m,h=>by
  unfold bindC;rw [JS fun w hw=>h w (aA _ hw)];split
  ·rfl
  ·have:x ≠ n:=by rintro rfl; exact h v aJ
   simp [this]
theorem JR {kindOf:Str->Option NameKind} {x:Str} {v:Value}:∀ {P:List Str} {vs:List Value} {i:Nat} {m:Str->Option Value},P.Nodup->P[i]? = some x->vs[i]? = some v->kindOf x=some .local ->
  bindL kindOf (P.zip vs) m x=some v
 | [],_,_,_,_,h,_,_=>by simp at h
 | _ :: _,[],_,_,_,_,h,_=>by simp at h
 | p :: P,w :: vs,0,m,nd,h1,h2,hk=>by
  simp at h1 h2; subst h1; subst h2;show bindL kindOf ((p,w) :: P.zip vs) m p=_
  unfold bindL;rw [JQ fun v hv=>(br.mp nd).1 (eU hv).1,if_pos hk];simp
 | p :: P,w :: vs,i + 1,m,nd,h1,h2,hk=>by
  show bindL kindOf ((p,w) :: P.zip vs) m x=_
  unfold bindL;exact JR (i:=i) (br.mp nd).2 (by simpa using h1) (by simpa using h2) hk
theorem JT {kindOf:Str->Option NameKind} {x:Str} {v:Value}:∀ {P:List Str} {vs:List Value} {i:Nat} {m:Str->Option Value},P.Nodup->P[i]? = some x->vs[i]? = some v->kindOf x ≠ some .local ->
  bindC kindOf (P.zip vs) m x=some v
 | [],_,_,_,_,h,_,_=>by simp at h
 | _ :: _,[],_,_,_,_,h,_=>by simp at h
 | p :: P,w :: vs,0,m,nd,h1,h2,hk=>by
  simp at h1 h2; subst h1; subst h2;show bindC kindOf ((p,w) :: P.zip vs) m p=_
  unfold bindC;rw [JS fun v hv=>(br.mp nd).1 (eU hv).1,if_neg hk];simp
 | p :: P,w :: vs,i + 1,m,nd,h1,h2,hk=>by
  show bindC kindOf ((p,w) :: P.zip vs) m x=_
  unfold bindC;exact JT (i:=i) (br.mp nd).2 (by simpa using h1) (by simpa using h2) hk
def start (N:List Str) (vs:List V):St:=vs.map some ++ List.replicate (N.length - vs.length) none
def Nk (CX:Se) (P:Program) (w:World) (K:ZV) (mg:Str->Option Value) (base:Heap) (N:List Str) (qual:Str) (scope:Scope) (f:Addr) (cd:Value) (A:Around) (outer:List Env) (s:Shared) (H:Hp) (E:XK):Cx where
 prog:=P
 w:=w
 K:=K
 mg:=mg
 base:=base
 A:=A.deeper (envOfC qual scope s.heap.objs.size f cd)
 N:=N
 s₀:=s
 H₀:=H
 env:=envOfC qual scope s.heap.objs.size f cd
 outer:=outer
 stack:=envOfC qual scope s.heap.objs.size f cd :: outer
 ex:=[]
 calm:=true
 fn:=fun _=>true
 pn:=[]
 xe:=fun e s'=>wpAny (model P w) (A.deeper (envOfC qual scope s.heap.objs.size f cd)) (leaving (envOfC qual scope s.heap.objs.size f cd) e) (fun _ W8=>CX outer H s E e W8) (fun e' W8=>CX outer H s E e' W8) s'
theorem Mj {sc:Scope} {n:Nat} {x:Str} (h:sc.names.lookup x=some .cell):∃ c,(cellsFrom n sc.names []).lookup x=some c:=by
 have q:=fg sc.names n [] (.inl h);exact fe.mp q
theorem Pj {CX:Se} {P:Program} {w:World} {K:ZV} {mg:Str->Option Value} {base:Heap} {N ps:List Str} {qual:Str} {scope:Scope} {f:Addr} {cd:Value} {A:Around} {outer:List Env} {s s1:Shared} {H:Hp} {E:XK} {us:List Value} {vs:List V}
  (S:AL N ps scope) (hd:A.handled=none) (e0:Uh P w K mg base A outer s H) (hl:vs.length=ps.length) (r:A3 vs us)
  (x:InCallC s s.heap.objs.size (bindL (envOfC qual scope s.heap.objs.size f cd).kindOf (ps.zip us) fun _=>none) (cellsFrom (s.heap.objs.size + 1) scope.names []) (bindC (envOfC qual scope s.heap.objs.size f cd).kindOf (ps.zip us) fun _=>none) s1) :
  Au (Nk CX P w K mg base N qual scope f cd A outer s H E) [] (start N vs) H s1:=by
 have hpl:ps.length<=N.length:=by have:=congrArg bH S.pre; rw [aO] at this; lia
 obtain ⟨h1,tk,rfl,hk⟩:=x.done;have noA:∀ b:Addr,b ∉ (Nk CX P w K mg base N qual scope f cd A outer s H E).ex:=fun b z=>absurd (show b ∈ ([]:List Addr) from z) (by simp)
 refine ⟨⟨e0.mod,S.kind,rfl,rfl,ZX _,fun y z c h1 h2=>?_,fun y hy=>?_,fun y c _ h=>?_,fun _=>hd,Around.frames_deeper e0.frames,.inr ⟨rfl,rfl⟩,fun b z=>absurd z (noA b),e0.bs,e0.bsz,fun b _ _=>noA b,fun b z=>absurd z (noA b),e0.funs,e0.frf⟩,
  rfl,e0.bare,Un.kept hk,⟨_,x.toInCall.ns,fun i y v h1 h2 h3=>?_⟩,fun y c h=>⟨_,x.cell y c h⟩,e0.hok.fresh (ZX _),fun y c h=>?_,fun p hp=>absurd (show p ∈ ([]:List (Addr × Obj)) from hp) (by simp),e0.hok.kept hk,?_⟩
 ·exact name_of_addr x.apart (PySem.mem_of_lookup h1) (PySem.mem_of_lookup h2)
 ·have hy:scope.names.lookup y=some .cell\/scope.names.lookup y=some .free:=hy;rcases hy with hy | hy
  ·exact Mj hy
  ·exact absurd rfl (S.nofree _ (PySem.mem_of_lookup hy))
 ·exact cN (x.above y c (PySem.mem_of_lookup h))
 ·have hi:i < vs.length:=by
   unfold start at h2;by_cases hi:i < vs.length
   ·exact hi
   ·rw [aP (by simpa using hi)] at h2;rw [List.getElem?_replicate] at h2;split at h2 <;> cases h2
  have ha:vs[i]? = some v:=by
   unfold start at h2;rw [aY (by simpa using hi),ai] at h2;cases e:vs[i]? with
   | none=>rw [e] at h2; cases h2
   | some a=>rw [e] at h2; cases h2; rfl
  obtain ⟨u,hu,rv⟩:=r.get ha;have hp:ps[i]? = some y:=by
   rw [<-S.pre,fj (by lia)]; exact h1
  have ndP:ps.Nodup:=by rw [<-S.pre]; exact S.nd.sublist (g9 _ _)
  refine ⟨u,rv,?_⟩;rcases S.par y (ZW hp) with k | k
  ·exact .inl ⟨k,JR ndP hp hu k⟩
  ·obtain ⟨c,e⟩:=Mj (n:=s.heap.objs.size + 1) k;refine .inr ⟨.inl k,c,e,?_⟩;have q:=x.cell y c e;rw [JT ndP hp hu (by show scope.names.lookup y ≠ _; rw [k]; decide)] at q;exact q
 ·exact e0.hok.fresh (cN (x.above y c (PySem.mem_of_lookup h)))
 ·unfold start;show _=N.length
  rw [ZY,ZR,List.length_replicate];lia
theorem fn_of {CX:Se} {P:Program} {w:World} {K:ZV} {mg:Str->Option Value} {base:Heap} {k:Nat} {f:Addr} {name qual:Str} {params:Arguments} {body:List Stmt} {scope:Scope} {dV kV doc pm Cf ct oc:Value} {an od:Option Addr}
  {osl:Array (Option Value)} {N ps:List Str} {sp:Sp} (lk:K.lookup f=some ⟨oc,od,.func (ck name qual params body scope dV kV doc pm an Cf ct),osl⟩) (hcd:dQ K Cf qual=true) (S:AL N ps scope)
  (len:∀ vs H Q E,sp vs H Q E->vs.length=ps.length)
  (hbody:∀ (A:Around) (outer:List Env) (s:Shared) (H:Hp) (vs:List V) (Q:VK) (E:XK),En k (A.deeper (envOfC qual scope s.heap.objs.size f Cf))->sp vs H Q E ->
   ∃ t,Ov (Nk CX P w K mg base N qual scope f Cf A outer s H E) body t/\t { nx:=fun _ H'=>Q .non H',rt:=Q } (start N vs) H) :
  AG P w K mg base CX (k + 1) f (ck name qual params body scope dV kV doc pm an Cf ct) ps sp:=by
 refine ⟨len,fun A outer s H args us vs Q E hr e0 hb r hsp=>?_⟩;have hl:=len _ _ _ _ hsp;have KX:K.In s.heap:=e0.mod.kin.keeps fun b o e=>(e0.bs b o e).1
 have lim:s.heap.NoLimit:=e0.mod.nolimit.keeps fun b o e=>(e0.bs b o e).1
 have hkind:∀ y ∈ ps.zip us,scope.names.lookup y.1=some .local\/(scope.names.lookup y.1=some .cell/\((cellsFrom (s.heap.objs.size + 1) scope.names []).lookup y.1).isSome=true):=fun ⟨n,v⟩ hy=>by
  rcases S.par n (eU hy).1 with q | q
  ·exact .inl q
  ·exact .inr ⟨q,fg _ _ _ (.inl q)⟩
 refine codeAny_call_function hr.depth (KX _ _ lk) rfl S.co S.gen rfl (PySem.W.codeRec_of KX hcd) (hb _ _ _ _ ?_);refine wpAny_newFunctionEnv_cells S.kind hkind fun env he s1 x=>?_
 subst he;refine ⟨lim.keeps x.toInCall.keep,codeAny_func ?_⟩;obtain ⟨t,ht,hq⟩:=hbody A outer s H vs Q E (hr.deeper _) hsp;have I:Au (Nk CX P w K mg base N qual scope f Cf A outer s H E) [] (start N vs) H s1:=Pj S hr.hd e0 hl r x;refine wpAny_mono (ht s1 (start N vs) H _ I hq) (fun fl s' hs=>?_) fun e s' hs=>hs
 have fin:∀ {A8:St} {H':Hp} {v:V} {u:Value},Au (Nk CX P w K mg base N qual scope f Cf A outer s H E) [] A8 H' s'->AF v u->Q v H'->CE outer P w H s Q u s':=
  fun {A8 H' v u} J rv q=>⟨v,H',J.os,J.bare,J.base,J.hok,rv,q⟩
 cases fl with
 | ret u=>
  obtain ⟨v,A8,H',J,rv,q⟩:=hs;exact fin J rv q
 | next=>
  obtain ⟨A8,H',J,q⟩:=hs;exact fin (v:=V.non) (u:=Value.none) J rfl q
 | brk=>
  obtain ⟨_,_,_,q⟩:=hs;exact False.elim q
 | cont=>
  obtain ⟨_,_,_,q⟩:=hs;exact False.elim q
section
variable {X:Cx} {x:Str} {p pos:Pos} {e:Expr} {es:List Expr} {t:TA} {id T:String} {r:List V->Hp->VK->Prop}
def tCB (r:List V->Hp->VK->Prop) (t:TA):TE:=fun σ H Q=>t σ H fun vs H1=>r vs H1 Q
theorem Aq (hc:Bp X (.builtin id) r) (hg:Gl X x) (hm:X.mg x=none) (hv:bootBuiltins x=some (.builtin id)) (ha:PA X (e :: es) t) (hn:x ≠ "__name__":=by decide) (hdb:(x == ("__debug__":Str))=false:=by decide)
  (he:starEach (e :: es) X.env=(false,eval e X.env) :: starEach es X.env:=by rfl) (hpl:(backTo pos (starEach es X.env)).any (·.1)=false:=by rfl):PE X (.Call (.Name x p) (e :: es) [] pos) (tCB r t):=by
 intro pins s σ H Q I h;refine wpAny_Call_Name_kw (K3 I hg hm hv ?_ hn hdb);exact PyProof.Rows.callWith_builtin1 (BC (ha (pos:=pos) (pins:=pins) s σ H _ I h) fun us s1 ⟨vs,H1,I1,r1,q1⟩=>hc (pins:=pins) s1 σ H1 vs us Q I1 r1 q1) he hpl
theorem A5 (hc:Bp X (.type T) r) (hg:Gl X x) (hm:X.mg x=none) (hv:bootBuiltins x=some (.type T)) (ha:PA X (e :: es) t) (hn:x ≠ "__name__":=by decide) (hdb:(x == ("__debug__":Str))=false:=by decide)
  (he:starEach (e :: es) X.env=(false,eval e X.env) :: starEach es X.env:=by rfl) (hpl:(backTo pos (starEach es X.env)).any (·.1)=false:=by rfl):PE X (.Call (.Name x p) (e :: es) [] pos) (tCB r t):=by
 intro pins s σ H Q I h;refine wpAny_Call_Name_kw (K3 I hg hm hv ?_ hn hdb);exact PyProof.Rows.callWith_type1 (BC (ha (pos:=pos) (pins:=pins) s σ H _ I h) fun us s1 ⟨vs,H1,I1,r1,q1⟩=>hc (pins:=pins) s1 σ H1 vs us Q I1 r1 q1) he hpl
end
end L2
namespace HT
open PySem PyProof.Rows
section
open PySem.SeqAt
open PySem.AutoSeq1 (wpAny_loadPart')
open PySem.MeetsSeq PySem.MeetsSeq2 PySem.MeetsSeq3
end
section
variable {prog:Program} {w:World} {A:Around} {E:Value->Shared->Prop} {s:Shared}
theorem cat_tup {t b:Addr} {vs ws:List Value} {Q:Value->Shared->Prop} (ht:IsTup s.heap t vs.toArray) (hb:IsTup s.heap b ws.toArray) (hv:vs ≠ [])
  (h1:ws=[]->Q (.ref t) s) (h2:ws ≠ []->Q (.ref s.heap.objs.size) { s with heap:=s.heap.push { cls:=.type "tuple",data:=.seq (vs ++ ws).toArray } })
  (hsz:vs.length + ws.length<=sizeLine):wpAny (model prog w) A (binaryOp .Add (.ref t) (.ref b)) Q E s:=by
 obtain ⟨⟨cls,dd,data,sl⟩,ho,hc,n,hd⟩:=id ht;obtain ⟨⟨VY,Mw,data2,PV⟩,Nd,KC,n2,hd2⟩:=id hb;simp only at hc hd KC hd2;subst hc hd KC hd2;have e:vs.toArray ++ ws.toArray=(vs ++ ws).toArray:=by simp
 by_cases hw:ws=[]
 ·exact concat_meets ⟨_,ho,rfl⟩ ⟨_,Nd,rfl⟩ noFill_tuple_add seq_tuple_add PySem.F.slot_tuple_add PySem.F.entry_tuple_add (PySem.F.args_tuple_add_2 _ _)
   (tuple_addW1 t b vs.toArray ws.toArray n n2 dd Mw sl PV (by simpa using hv) (by simp [hw])) ⟨ho,Nd,h1 hw⟩
 ·refine concat_meets ⟨_,ho,rfl⟩ ⟨_,Nd,rfl⟩ noFill_tuple_add seq_tuple_add PySem.F.slot_tuple_add PySem.F.entry_tuple_add (PySem.F.args_tuple_add_2 _ _)
   (tuple_addW2 t b vs.toArray ws.toArray n n2 dd Mw sl PV (by simpa using hv) (by simpa using hw) (by rw [aB,aB]; exact hsz)) ⟨ho,Nd,?_⟩
  rw [e];exact h2 hw
def sIx (n d:Nat):Option Int->Nat
 | none=>d
 | some v=>if v < 0 then (v + (n:Int)).toNat else min v.toNat n
theorem sIx_nat (n d k:Nat):sIx n d (some (k:Int))=min k n:=by
 show (if (k:Int) < 0 then ((k:Int) + (n:Int)).toNat else min (k:Int).toNat n)=min k n
 rw [if_neg (by lia),dE]
theorem Vg (n d:Nat) (hd:d<=n) (o:Option Int):sIx n d o<=n:=by
 cases o with
 | none=>exact hd
 | some v=>
  show (if v < 0 then (v + (n:Int)).toNat else min v.toNat n)<=n
  by_cases hv:v < 0
  ·rw [if_pos hv]; lia
  ·rw [if_neg hv]; exact Nat.min_le_right _ _
theorem Ot (v:Int) (n d:Nat):(if v < 0 then max (v + (n:Int)) 0 else min v (n:Int))=((sIx n d (some v):Nat):Int):=by
 show (if v < 0 then max (v + (n:Int)) 0 else min v (n:Int))=(((if v < 0 then (v + (n:Int)).toNat else min v.toNat n):Nat):Int)
 by_cases hv:v < 0
 ·simp only [if_pos hv]; lia
 ·simp only [if_neg hv]; lia
theorem Nn (lo hi:Option Int) (n:Nat):Builtin.Slice.sliceAdjust lo hi 1 (n:Int)=(((sIx n 0 lo:Nat):Int),((sIx n n hi:Nat):Int)):=by
 have h1:¬ ((1:Int) < 0):=by lia
 unfold Builtin.Slice.sliceAdjust;simp only [h1,if_false];refine Prod.ext ?_ ?_
 ·cases lo with
  | none=>rfl
  | some v=>exact Ot v n 0
 ·cases hi with
  | none=>rfl
  | some v=>exact Ot v n n
theorem MG (i j:Nat):Builtin.Slice.slicePlaces (i:Int) (j:Int) 1=j - i:=by
 unfold Builtin.Slice.slicePlaces;have h1:(1:Int) > 0:=by lia
 simp only [h1,if_true,Int.ediv_one];split <;> lia
theorem HN {v:Value} {o:Option Int} {Q:Option Int->Shared->Prop} (p:IsPart v o) (h:Q o s):wpAny (model prog w) A (Builtin.Slice.slicePartIndex v) Q E s:=by
 cases p with
 | none=>exact slicePart_none h
 | int i t=>exact slicePart_int h
theorem Gk {sl:Addr} {vl vu:Value} {lo hi:Option Int} {n:Nat} {Q:Int × Int × Nat->Shared->Prop} (hs:s.heap.IsSliceOf sl vl vu .none) (pl:IsPart vl lo) (pu:IsPart vu hi)
  (h:Q (((sIx n 0 lo:Nat):Int),1,sIx n n hi - sIx n 0 lo) s):wpAny (model prog w) A (Builtin.Slice.sliceApplied (.ref sl) (pure (n:Int))) Q E s:=by
 obtain ⟨os,hos,hcs,hds⟩:=id hs;unfold Builtin.Slice.sliceApplied Builtin.Slice.sliceFields;refine wpAny_bind (wpAny_bind (wpAny_field hos hds (x:=vl) rfl (wpAny_bind (wpAny_field hos hds (x:=vu) rfl (wpAny_bind (wpAny_field hos hds (x:=.none) rfl (wpAny_pure ?_)))))));refine wpAny_bind (slicePart_none ?_);show wpAny _ _ (if ((1:Int) == 0)=true then _ else _) _ _ s
 rw [if_neg (by decide)];refine wpAny_bind (HN pl (wpAny_bind (HN pu (wpAny_bind (wpAny_pure ?_)))));show wpAny _ _ (match Builtin.Slice.sliceAdjust lo hi 1 (n:Int) with | (lo,hi)=>pure (lo,(1:Int),Builtin.Slice.slicePlaces lo hi 1)) _ _ s
 rw [Nn lo hi n];show wpAny _ _ (pure (((sIx n 0 lo:Nat):Int),(1:Int),Builtin.Slice.slicePlaces ((sIx n 0 lo:Nat):Int) ((sIx n n hi:Nat):Int) 1)) _ _ s
 rw [MG];exact wpAny_pure h
theorem Rf (xs:Array Value) (i k:Nat):((cJ k).filterMap fun (m:Nat)=>xs[((i:Int) + (m:Int) * 1).toNat]?).toArray=((xs.toList.drop i).take k).toArray:=by
 have e:(fun (m:Nat)=>xs[((i:Int) + (m:Int) * 1).toNat]?)=fun m=>xs[i + m]?:=by
  funext m;have:((i:Int) + (m:Int) * 1).toNat=i + m:=by lia
  rw [this]
 rw [e];have:=pick_run xs i k;rw [List.filterMap_map] at this;have e2:((fun x=>xs[x]?) ∘ fun x=>i + x)=fun m=>xs[i + m]?:=rfl
 rw [e2] at this;rw [this]
theorem getItem_tuple_cut {t sl:Addr} {items:Array Value} {vl vu:Value} {lo hi:Option Int} {Q:Value->Shared->Prop} (ht:IsTup s.heap t items) (hs:s.heap.IsSliceOf sl vl vu .none) (pl:IsPart vl lo) (pu:IsPart vu hi)
  (hw:¬ (sIx items.size 0 lo=0/\sIx items.size items.size hi=items.size))
  (h:Q (.ref s.heap.objs.size) { s with heap:=s.heap.push { cls:=.type "tuple",data:=.seq ((items.toList.drop (sIx items.size 0 lo)).take (sIx items.size items.size hi - sIx items.size 0 lo)).toArray } })
  (hsz:items.size<=sizeLine):wpAny (model prog w) A (getItem (.ref t) (.ref sl)) Q E s:=by
 have htake:sizeOk (.seq ((items.toList.drop (sIx items.size 0 lo)).take (sIx items.size items.size hi - sIx items.size 0 lo)).toArray):=by
  show ((items.toList.drop (sIx items.size 0 lo)).take (sIx items.size items.size hi - sIx items.size 0 lo)).toArray.size<=sizeLine
  rw [aB,aO,cX,aE];lia
 have hj:sIx items.size items.size hi<=items.size:=Vg _ _ (ZX _) hi;obtain ⟨os,hos,hcs,hds⟩:=id hs;have hTs:s.TypeIs (.ref sl) "slice":=⟨os,hos,hcs⟩
 unfold getItem;try with_reducible refine wpAny_holding ?_
 first | refine wpAny_bind (wpAny_pure ?_) | skip
 refine wpAny_bind (wpAny_sequenceKey ht.typeIs (by decide) ?_);refine wpAny_bind (wpAny_callSpecial?_slot (name:=Str.ofString "__getitem__") ht.typeIs PyProof.Rows.slot_tuple_getitem
  (wpAny_call_entry PyProof.Rows.slot_tuple_getitem ht.typeIs entry_tuple_getitem ?_ (args_tuple_getitem _ _)))
 show wpAny _ _ (Builtin.Tuple.tupleItemsOf (.ref t) >>= _) _ _ s
 refine wpAny_bind (tupleItemsOf_ ht ?_);refine wpAny_bind (wpAny_typeOf hTs ?_);rw [if_pos (by decide)];refine wpAny_bind (Gk hs pl pu ?_);have hno:¬ ((((sIx items.size 0 lo:Nat):Int) == 0 && (1:Int) == 1 && (sIx items.size items.size hi - sIx items.size 0 lo) == items.size)=true):=by
  intro q;rw [b9,b9] at q;have q1:((sIx items.size 0 lo:Nat):Int)=0:=eq_of_beq q.1.1;have q2:sIx items.size items.size hi - sIx items.size 0 lo=items.size:=eq_of_beq q.2;exact hw ⟨by lia,by lia⟩
 show wpAny _ _ (if (((sIx items.size 0 lo:Nat):Int) == 0 && (1:Int) == 1 && (sIx items.size items.size hi - sIx items.size 0 lo) == items.size)=true then _ else _) _ _ s
 rw [if_neg hno,Rf];first
  | exact wpAny_bind (m:=Builtin.Tuple.tupleExact _) (wpAny_newObj_type (wpAny_pure ⟨_,rfl,wpAny_pure h⟩) htake)
  | exact wpAny_bind (m:=Builtin.Tuple.tupleExact _) (wpAny_newObj_type (wpAny_bind (wpAny_pure (wpAny_pure ⟨_,rfl,wpAny_pure h⟩))) htake)
  | exact wpAny_bind (wpAny_bind (m:=Builtin.Tuple.tupleExact _) (wpAny_newObj_type (wpAny_pure (wpAny_pure ⟨_,rfl,wpAny_pure h⟩)) htake))
  | exact wpAny_bind (wpAny_bind (m:=Builtin.Tuple.tupleExact _) (wpAny_newObj_type (wpAny_pure ⟨_,rfl,wpAny_pure h⟩) htake))
end
end HT
namespace L2
open PySem PySem.Spec PyProof.Rows
abbrev TO:=St->Hp->(Option Int->Hp->Prop)->Prop
def PO (X:Cx) (e:Option Expr) (t:TO):Prop:=
 ∀ ⦃pins:List (Addr × Obj)⦄ (s:Shared) (σ:St) (H:Hp) (Q:Option Int->Hp->Prop),Au X pins σ H s->t σ H Q ->
  wpAny (model X.prog X.w) X.A (evalPart e X.env) (fun u s'=>∃ o H',Au X pins σ H' s'/\IsPart u o/\Q o H') X.xe s
def Kf:TO:=fun _ H Q=>Q none H
def tPart (t:TE):TO:=fun σ H Q=>t σ H fun x H1=>∃ i,x=.int i/\Q (some i) H1
section
variable {X:Cx} {e:Expr} {te:TE} {lo hi:Option Expr} {tl th:TO} {pos p2:Pos}
theorem FH:PO X none Kf:=by
 intro pins s σ H Q I h;rw [evalPart_none];exact wpAny_pure ⟨none,H,I,.none,h⟩
theorem FG (h:PE X e te):PO X (some e) (tPart te):=by
 intro pins s σ H Q I hw;rw [evalPart_some];refine BC (h (pins:=pins) s σ H _ I hw) fun u s1 ⟨x,H1,I1,r1,q1⟩=>?_
 obtain ⟨i,rfl,q⟩:=q1;obtain ⟨t,rfl⟩:=r1;exact ⟨some i,H1,I1,.int i t,q⟩
def SlR (X:Cx) (r:V->Option Int->Option Int->Hp->VK->Prop):Prop:=
 ∀ ⦃pins:List (Addr × Obj)⦄ (s:Shared) (σ:St) (H:Hp) (x:V) (v vl vu:Value) (lo hi:Option Int) (sl:Addr) (Q:VK),Au X pins σ H s->AF x v->s.heap.IsSliceOf sl vl vu .none->IsPart vl lo->IsPart vu hi->r x lo hi H Q ->
  ∃ T id,typeLookup (.type T) "__getitem__"=pure (some (.builtin id))/\s.TypeIs v T/\wpAny (model X.prog X.w) X.A (getItem v (.ref sl)) (EP X pins σ Q) X.xe s
def tSl (r:V->Option Int->Option Int->Hp->VK->Prop) (te:TE) (tl th:TO):TE:=fun σ H Q=>te σ H fun x H1=>tl σ H1 fun l H2=>th σ H2 fun u H3=>r x l u H3 Q
theorem EA {r:V->Option Int->Option Int->Hp->VK->Prop} (hr:SlR X r) (he:PE X e te) (hl:PO X lo tl) (hu:PO X hi th):PE X (.Subscript e (.Slice lo hi none p2) pos) (tSl r te tl th):=by
 intro pins s σ H Q I h;refine Subscript_ (BC (he (pins:=pins) s σ H _ I h) fun v s1 ⟨x,H1,I1,r1,q1⟩=>?_);refine wpAny_Slice (BC (hl (pins:=pins) s1 σ H1 _ I1 q1) fun vl s2 ⟨l,H2,I2,pl,q2⟩=>BC (hu (pins:=pins) s2 σ H2 _ I2 q2) fun vu s3 ⟨u,H3,I3,pu,q3⟩=>?_);rw [evalPart_none];refine wpAny_pure ?_;have I4:Au X pins σ H3 { s3 with heap:=s3.heap.push { cls:=.type "slice",data:=.fields #[vl,vu,.none] } }:=I3.kept (t':=s3.toks) fun b ob q=>ZT _ q
 obtain ⟨T,id,hT,ht,hg⟩:=hr { s3 with heap:=s3.heap.push { cls:=.type "slice",data:=.fields #[vl,vu,.none] } } σ H3 x v vl vu l u s3.heap.objs.size Q I4 r1 (Heap.IsSliceOf.new ..) pl pu q3;show wpAny (model X.prog X.w) X.A (subscriptTail e (.Slice lo hi none p2) v (.ref s3.heap.objs.size)) (EP X pins σ Q) X.xe { s3 with heap:=s3.heap.push { cls:=.type "slice",data:=.fields #[vl,vu,.none] } }
 exact tail_any (ops:=[.ref s3.heap.objs.size,v]) ht hT hg (by with_unfolding_all rfl)
def Mf (xs:List V) (lo hi:Option Int):List V:=(xs.drop (HT.sIx xs.length 0 lo)).take (HT.sIx xs.length xs.length hi - HT.sIx xs.length 0 lo)
theorem Me (xs:List V) (lo hi:Option Int):(Mf xs lo hi).length<=xs.length:=by
 unfold Mf;rw [aO,cX];lia
def SK (K:ZV):V->Option Int->Option Int->Hp->VK->Prop:=fun x lo hi H Q=>∃ a xs,x=.ref a/\A2 K H a xs /\
 ¬ (HT.sIx xs.length 0 lo=0/\HT.sIx xs.length xs.length hi=xs.length)/\∀ p,H p=none->Q (.ref p) (upd H p (.tup (Mf xs lo hi)))
theorem Vd:SlR X (SK X.K):=by
 intro pins s σ H x v vl vu lo hi sl Q I rx hs pl pu h;obtain ⟨a,xs,rfl,hx,hw,q⟩:=h;cases rx
 obtain ⟨Az,r,ht,hz⟩:=I.tuple hx;have hlen:Az.toArray.size=xs.length:=by rw [aB]; exact r.length.symm
 refine ⟨"tuple",_,PyProof.Rows.slot_tuple_getitem.lookup,ht.typeIs,?_⟩;refine HT.getItem_tuple_cut ht hs pl pu (by rw [hlen]; exact hw) ?_ (by rw [hlen]; exact hz);rw [hlen];refine ⟨.ref s.heap.objs.size,_,I.laid (t':=s.toks) (o:=.tup (Mf xs lo hi)) (fun b ob q=>ZT _ q) (ZX _) ?_,rfl,q _ (I.hok.fresh (ZX _))⟩;exact ⟨aQ (Me xs lo hi) hz,_,(r.drop (HT.sIx xs.length 0 lo)).take (HT.sIx xs.length xs.length hi - HT.sIx xs.length 0 lo),IsTup.new _ _,Mp.new rfl rfl⟩
def Ux (K:ZV):R2:=fun x y H Q=>∃ a b xs ys,x=.ref a/\y=.ref b/\A2 K H a xs/\A2 K H b ys/\xs ≠ []/\xs.length + ys.length<=sizeLine /\
 (ys=[]->Q (.ref a) H)/\(ys ≠ []->∀ p,H p=none->Q (.ref p) (upd H p (.tup (xs ++ ys))))
theorem A3.nil_iff {xs:List V} {us:List Value} (r:A3 xs us):us=[] ↔ xs=[]:=by
 cases r with
 | nil=>simp
 | cons _ _=>simp
theorem SV:F1 X (binaryOp .Add) (Ux X.K):=by
 intro pins s σ H x y v u Q I rx ry h;obtain ⟨a,b,xs,ys,rfl,rfl,ha,hb,hx,hz,q1,q2⟩:=h;cases rx
 cases ry
 obtain ⟨Az,r1,p1,_⟩:=I.tuple ha;obtain ⟨Ph,r2,p2,_⟩:=I.tuple hb;refine HT.cat_tup p1 p2 (fun z=>hx (r1.nil_iff.mp z)) (fun z=>⟨.ref a,H,I,rfl,q1 (r2.nil_iff.mp z)⟩) (fun z=>?_) (by rw [<-r1.length,<-r2.length]; exact hz);refine ⟨.ref s.heap.objs.size,_,I.laid (t':=s.toks) (o:=.tup (xs ++ ys)) (fun b ob q=>ZT _ q) (ZX _) ?_,rfl,q2 (fun w=>z (r2.nil_iff.mpr w)) _ (I.hok.fresh (ZX _))⟩;exact ⟨by rw [ZY]; exact hz,_,r1.append r2,IsTup.new _ _,Mp.new rfl rfl⟩
end
def Pg (n:Nat) (i:Int):Option Nat:=if 0<=i then (if i < n then some i.toNat else none) else if -(n:Int)<=i then some (i + n).toNat else none
def Ff {α:Type} (xs:List α) (i:Int):Option α:=(Pg xs.length i).bind fun j=>xs[j]?
theorem K6 {n:Nat} {i:Int} {j:Nat} (h:Pg n i=some j):seqIndex? i n=some j/\j < n/\-(n:Int)<=i/\i < n:=by
 unfold Pg at h;by_cases h0:0<=i
 ·rw [if_pos h0] at h;by_cases h1:i < n
  ·rw [if_pos h1] at h;have e:i.toNat=j:=aI.inj h;exact ⟨by rw [seqIndex_of h0 h1,e],by lia,by lia,h1⟩
  ·rw [if_neg h1] at h; cases h
 ·rw [if_neg h0] at h;by_cases h1:-(n:Int)<=i
  ·rw [if_pos h1] at h;have e:(i + n).toNat=j:=aI.inj h;exact ⟨by rw [seqIndex_neg (by lia) h1,e],by lia,h1,by lia⟩
  ·rw [if_neg h1] at h; cases h
theorem HG {α:Type} {xs:List α} {i:Int} {v:α} (h:Ff xs i=some v):∃ j,seqIndex? i xs.length=some j/\xs[j]? = some v/\j < xs.length/\-(xs.length:Int)<=i/\i < xs.length:=by
 unfold Ff at h;cases e:Pg xs.length i with
 | none=>rw [e] at h; cases h
 | some j=>
  rw [e] at h;obtain ⟨h1,h2,h3,h4⟩:=K6 e;exact ⟨j,h1,h,h2,h3,h4⟩
theorem Cs {α:Type} {xs:List α} {j:Nat} {v:α} (h:xs[j]? = some v):Ff xs (j:Int)=some v:=by
 have hj:j < xs.length:=(ag.mp h).1;have e:Pg xs.length (j:Int)=some j:=by
  unfold Pg;rw [if_pos (by lia),if_pos (by lia)]; simp
 unfold Ff; rw [e]; exact h
theorem RV {α:Type} (xs:List α) (v:α):Ff (xs ++ [v]) (-1)=some v:=by
 have hl:(xs ++ [v]).length=xs.length + 1:=by simp
 have e:Pg (xs ++ [v]).length (-1)=some xs.length:=by
  unfold Pg;rw [hl,if_neg (by decide),if_pos (by lia)];congr 1;lia
 unfold Ff;rw [e];show (xs ++ [v])[xs.length]? = some v
 simp
def Ua (b:Expr):Prop:=∀ o i,subscripted b false o i=operate [o,i] (getItem o i)
def Wz (X:Cx) (r:R2):Prop:=
 ∀ (value slice:Expr) (pins:List (Addr × Obj)) (s:Shared) (σ:St) (H:Hp) (x y:V) (v u:Value) (Q:VK),Au X pins σ H s->AF x v->AF y u->r x y H Q ->
  subscripted slice false v u=operate [v,u] (getItem v u)->wpAny (model X.prog X.w) X.A (subscriptTail value slice v u) (EP X pins σ Q) X.xe s
def MtR (X:Cx) (id:String) (r:V->List V->Hp->VK->Prop):Prop:=
 ∀ ⦃pins:List (Addr × Obj)⦄ (s:Shared) (σ:St) (H:Hp) (x:V) (xs:List V) (v:Value) (us:List Value) (Q:VK),Au X pins σ H s->AF x v->A3 xs us->r x xs H Q ->
  wpAny (model X.prog X.w) X.A (call (.builtin id) (v :: us)) (EP X pins σ Q) X.xe s
section
variable {X:Cx} {a b:Expr} {ta tb:TE} {pos:Pos}
theorem Al {r:R2} (hr:Wz X r) (ha:PE X a ta) (hb:PE X b tb) (hs:Ua b):PE X (.Subscript a b pos) (tOp r ta tb):=by
 intro pins s σ H Q I h;exact Subscript_ (Wa ha hb I h fun v u s2 x y H2 I2 rx ry q=>hr a b (pins:=pins) s2 σ H2 x y v u Q I2 rx ry q (hs _ _))
def rIxL (K:ZV):R2:=fun x y H Q=>∃ p xs i v,x=.ref p/\y=.int i/\AV K H p xs/\Ff xs i=some v/\Q v H
def rIxT (K:ZV):R2:=fun x y H Q=>∃ p xs i v,x=.ref p/\y=.int i/\A2 K H p xs/\Ff xs i=some v/\Q v H
def rIxS:R2:=fun x y H Q=>∃ z i c,x=.str z/\y=.int i/\z.length<=sizeLine/\Ff z.cps.toList i=some c/\Q (.str ⟨#[c]⟩) H
theorem CS:Wz X (rIxL X.K):=by
 intro value slice pins s σ H x y v u Q I rx ry h hs;obtain ⟨p,xs,i,z,rfl,rfl,hq,he,q⟩:=h;cases rx
 obtain ⟨t,rfl⟩:=ry;obtain ⟨Az,r,pl,hz⟩:=I.list hq;obtain ⟨j,h1,h2,h3,h4,h5⟩:=HG he;obtain ⟨w,ew,OG⟩:=r.get h2;have hl:=r.length;have hn:=Gu;have fin:EP X pins σ Q w s:=⟨z,H,I,OG,q⟩
 by_cases h0:0<=i
 ·have hj:i.toNat=j:=by
   rw [seqIndex_of h0 h5] at h1;exact aI.inj h1
  exact item_listR pl.isList h0 (by lia) (by rw [hj]; simpa using ew) fin hs
 ·have hj:(i + (Az.toArray.size:Int)).toNat=j:=by
   rw [seqIndex_neg (by lia) h4] at h1;rw [aB,<-hl];exact aI.inj h1
  exact subscriptTail_builtinR (x:=w) pl.isList.typeIs slot_list_getitem.lookup
   (wpAny_getItem_list_neg (Q:=fun r s'=>r=w/\EP X pins σ Q r s') pl.isList (by lia) (by rw [aB] <;> lia) (by lia) (by rw [hj]; simpa using ew) ⟨rfl,fin⟩) hs
theorem MX:Wz X (rIxT X.K):=by
 intro value slice pins s σ H x y v u Q I rx ry h hs;obtain ⟨p,xs,i,z,rfl,rfl,hq,he,q⟩:=h;cases rx
 obtain ⟨t,rfl⟩:=ry;obtain ⟨Az,r,pl,hz⟩:=I.tuple hq;obtain ⟨j,h1,h2,h3,h4,h5⟩:=HG he;obtain ⟨w,ew,OG⟩:=r.get h2;have hl:=r.length;have hn:=Gu;have fin:EP X pins σ Q w s:=⟨z,H,I,OG,q⟩
 exact subscriptTail_builtinR (x:=w) pl.typeIs slot_tuple_getitem.lookup
  (getItem_tuple (j:=j) (Q:=fun r s'=>r=w/\EP X pins σ Q r s') pl (by lia) (by lia) (by rw [aB,<-hl]; exact h1) (by simpa using ew) ⟨rfl,fin⟩) hs
theorem K5:Wz X rIxS:=by
 intro value slice pins s σ H x y v u Q I rx ry h hs;obtain ⟨z,i,c,rfl,rfl,hz,he,q⟩:=h;obtain ⟨t,rfl⟩:=rx;obtain ⟨t',rfl⟩:=ry;obtain ⟨j,h1,h2,h3,h4,h5⟩:=HG he;have hl:z.cps.toList.length=z.length:=by simp [Str.length]
 rw [hl] at h1 h4 h5;have hn:=Gu;exact tail_any (typeIs_str s z t) slot_str_getitem.lookup (getItem_str (c:=c) (by
  have e1:decide (i < -(2 ^ 63:Int))=false:=decide_eq_false (by lia);have e2:decide (i >= 2 ^ 63)=false:=decide_eq_false (by lia);rw [e1,e2,gJ]) (by rw [h1]; simpa using h2) ⟨.str ⟨#[c]⟩,H,I.tok _,⟨_,rfl⟩,q⟩) hs
theorem MT (Az:List Value) (n j:Nat) (u:Value):Obj.mapSeq (·.setIfInBounds j u) { cls:=.type "list",data:=.seq Az.toArray n } = { cls:=.type "list",data:=.seq (Az.set j u).toArray n }:=by
 simp [Obj.mapSeq]
theorem Au.lst {pins:List (Addr × Obj)} {σ:St} {H:Hp} {s:Shared} {p:Addr} {xs:List V} (I:Au X pins σ H s) (h:H p=some (.lst xs)) :
  ∃ (Az:List Value) (n:Nat),A3 xs Az/\s.heap.get? p=some { cls:=.type "list",data:=.seq Az.toArray n }/\xs.length<=sizeLine:=by
 obtain ⟨z,Az,n,r,e⟩:=I.hok p _ h;exact ⟨Az,n,r,e,z⟩
theorem Au.lstUpd {pins:List (Addr × Obj)} {σ:St} {H:Hp} {s:Shared} {p:Addr} {xs ys:List V} {Az its':List Value} {n n':Nat} {f:Obj->Obj} (I:Au X pins σ H s) (h:H p=some (.lst xs))
  (ho:s.heap.get? p=some { cls:=.type "list",data:=.seq Az.toArray n }) (hf:f { cls:=.type "list",data:=.seq Az.toArray n } = { cls:=.type "list",data:=.seq its'.toArray n' }) (r:A3 ys its') (hz:ys.length<=sizeLine) (t:Nat) :
  Au X pins σ (upd H p (.lst ys)) { s with heap:=s.heap.update p f,toks:=t }:=by
 have e:(s.heap.update p f).get? p=some { cls:=.type "list",data:=.seq its'.toArray n' }:=by
  rw [b7 f ho (by rw [hf] <;> rfl),hf]
 refine I.write (x:=p) (e:=p) (by rw [h]; trivial) (.inl rfl) (fun b u hb q=>(bj _ _ (Ne.symm hb)).trans q) ⟨_,e⟩ ?_;exact ⟨hz,its',n',r,e⟩
def rSetL:V->V->V->Hp->(Hp->Prop)->Prop:=fun o i v H Q=>∃ p xs k j,o=.ref p/\i=.int k/\H p=some (.lst xs)/\Pg xs.length k=some j/\Q (upd H p (.lst (xs.set j v)))
theorem Ls:PSet X rSetL:=by
 intro pins s σ H o i v ov iv u Q I ro ri rv h;obtain ⟨p,xs,k,j,rfl,rfl,hp,hj,q⟩:=h;cases ro
 obtain ⟨t,rfl⟩:=ri;obtain ⟨Az,n,r,ho,hz⟩:=I.lst hp;obtain ⟨h1,h2,h3,h4⟩:=K6 hj;have hl:=r.length;have hn:=Gu;have I':Au X pins σ (upd H p (.lst (xs.set j v))) { s with heap:=s.heap.update p (Obj.mapSeq (·.setIfInBounds j u)) }:=
  I.lstUpd hp ho (MT Az n j u) (r.set rv j) (by rw [List.length_set]; exact hz) s.toks
 by_cases h0:0<=k
 ·have hk:k.toNat=j:=by
   rw [seqIndex_of h0 h4] at h1;exact aI.inj h1
  exact PySem.W.ki_setAt ho h0 (by lia) (by rw [aB,<-hl]; exact h4) (by rw [hk]; exact ⟨_,I',q⟩)
 ·have hk:(k + (Az.toArray.size:Int)).toNat=j:=by
   rw [seqIndex_neg (by lia) h3] at h1;rw [aB,<-hl];exact aI.inj h1
  exact PySem.W.ki_setBack ho (by lia) (by rw [aB,<-hl]; exact h3) (by lia) (by rw [hk]; exact ⟨_,I',q⟩)
def FQ:V->Bool
 | .non=>true
 | .bl _=>true
 | .int _=>true
 | .str _=>true
 | _=>false
def T9:V->V->Bool
 | .non,.non=>true
 | .bl a,.bl b=>a == b
 | .bl a,.int b=>(if a then 1 else 0) == b
 | .int a,.bl b=>a == (if b then 1 else 0)
 | .int a,.int b=>a == b
 | .str a,.str b=>a == b
 | _,_=>false
theorem VS {A:Around} {s:Shared} {y x:V} {u v:Value} (ry:AF y u) (rx:AF x v) (fy:FQ y=true) (fx:FQ x=true):SeqAt.EqAt A s u v (T9 y x):=by
 cases y with
 | non=>
  cases ry
  cases x with
  | non=>cases rx; exact SeqAt.EqAt.same _
  | bl b=>cases rx; exact SeqAt.EqAt.none_bool b
  | int b=>obtain ⟨t,rfl⟩:=rx; exact SeqAt.EqAt.none_int b t
  | str b=>obtain ⟨t,rfl⟩:=rx; exact SeqAt.EqAt.none_str b t
  | _=>exact absurd (show false=true from fx) az
 | bl a=>
  cases ry
  cases x with
  | non=>cases rx; exact SeqAt.EqAt.bool_none a
  | bl b=>cases rx; exact SeqAt.EqAt.bool_bool a b
  | int b=>obtain ⟨t,rfl⟩:=rx; exact SeqAt.EqAt.bool_int a b t
  | str b=>obtain ⟨t,rfl⟩:=rx; exact SeqAt.EqAt.bool_str a b t
  | _=>exact absurd (show false=true from fx) az
 | int a=>
  obtain ⟨t',rfl⟩:=ry;cases x with
  | non=>cases rx; exact SeqAt.EqAt.int_none a t'
  | bl b=>cases rx; exact SeqAt.EqAt.int_bool a t' b
  | int b=>obtain ⟨t,rfl⟩:=rx; exact SeqAt.EqAt.int_int a t' b t
  | str b=>obtain ⟨t,rfl⟩:=rx; exact SeqAt.EqAt.int_str a t' b t
  | _=>exact absurd (show false=true from fx) az
 | str a=>
  obtain ⟨t',rfl⟩:=ry;cases x with
  | non=>cases rx; exact SeqAt.EqAt.str_none a t'
  | bl b=>cases rx; exact SeqAt.EqAt.str_bool a t' b
  | int b=>obtain ⟨t,rfl⟩:=rx; exact SeqAt.EqAt.str_int a t' b t
  | str b=>obtain ⟨t,rfl⟩:=rx; exact SeqAt.EqAt.str_str a t' b t
  | _=>exact absurd (show false=true from fx) az
 | _=>exact absurd (show false=true from fy) az
def TB (x:V) (u:Value):Bool:=match u with
 | .none=>T9 .non x
 | .bool b=>T9 (.bl b) x
 | .int i _=>T9 (.int i) x
 | .str z _=>T9 (.str z) x
 | _=>false
theorem RN {x y:V} {u:Value} (r:AF y u) (f:FQ y=true):TB x u=T9 y x:=by
 cases y with
 | non=>cases r; rfl
 | bl b=>cases r; rfl
 | int i=>obtain ⟨t,rfl⟩:=r; rfl
 | str z=>obtain ⟨t,rfl⟩:=r; rfl
 | _=>exact absurd (show false=true from f) az
theorem KN {x:V}:∀ {xs:List V} {us:List Value},A3 xs us->xs.all FQ=true->us.any (TB x)=xs.any fun y=>T9 y x
 | _,_,.nil,_=>rfl
 | y :: xs,u :: us,.cons r t,f=>by
  rw [fk,b9] at f;rw [de,de,RN r f.1,KN t f.2]
theorem Ir {A:Around} {s:Shared} {x:V} {v:Value} (rx:AF x v) (fx:FQ x=true):∀ {xs:List V} {us:List Value},A3 xs us->xs.all FQ=true->∀ u ∈ us,SeqAt.EqAt A s u v (TB x u)
 | _,_,.nil,_=>fun u hu=>by cases hu
 | y :: xs,u :: us,.cons r t,f=>fun u' hu=>by
  rw [fk,b9] at f;rcases ZU.mp hu with rfl | hu
  ·rw [RN r f.1]; exact VS r rx f.1 fx
  ·exact Ir rx fx t f.2 u' hu
def Wr (x:V) (xs:List V):Bool:=xs.any fun y=>T9 y x
def rIn (K:ZV) (neg:Bool):R2:=fun x y H Q=>∃ p xs,y=.ref p/\(AV K H p xs\/A2 K H p xs)/\FQ x=true/\xs.all FQ=true/\Q (.bl (if neg then !Wr x xs else Wr x xs)) H
theorem OU:F1 X (compareOp .In) (rIn X.K false):=by
 intro pins s σ H x y v u Q I rx ry h;obtain ⟨p,xs,rfl,hq,fx,fs,q⟩:=h;cases ry
 rcases hq with hq | hq
 ·obtain ⟨Az,r,pl,hz⟩:=I.list hq;refine SeqAt.in_listAt (TB x) pl.isList (fun w hw=>Ir rx fx r fs w (by simpa using hw)) ⟨.bl _,H,I,rfl,?_⟩;rw [show Az.toArray.any (TB x)=Az.any (TB x) by simp,KN r fs];exact q
 ·obtain ⟨Az,r,pl,hz⟩:=I.tuple hq;refine SeqAt.in_tupleAt (TB x) pl (fun w hw=>Ir rx fx r fs w (by simpa using hw)) ⟨.bl _,H,I,rfl,?_⟩;rw [show Az.toArray.any (TB x)=Az.any (TB x) by simp,KN r fs];exact q
theorem CU:Bp X (.builtin "len") (fun xs H Q=>∃ p ys,xs=[.ref p]/\(AV X.K H p ys\/A2 X.K H p ys)/\Q (.int ys.length) H):=by
 intro pins s σ H xs us Q I r h;obtain ⟨p,ys,rfl,hq,q⟩:=h;obtain ⟨u,rfl,rx⟩:=Cd r;cases rx
 have hn:=Gu;rcases hq with hq | hq
 ·obtain ⟨Az,r',pl,hz⟩:=I.list hq;have hlen:=r'.length;exact Calls.call_len_list pl.isList (by simp only [aB] <;> lia) ⟨.int ys.length,H,I.tok _,⟨s.toks + 1,by rw [aB,hlen]⟩,q⟩
 ·obtain ⟨Az,r',pl,hz⟩:=I.tuple hq;have hlen:=r'.length;exact len_tuple pl (by simp only [aB] <;> lia) ⟨.int ys.length,H,I.tok _,⟨s.toks + 1,by rw [aB,hlen]⟩,q⟩
theorem KI:Bp X (.type "list") (fun xs H Q=>∃ p ys,xs=[.ref p]/\(AV X.K H p ys\/A2 X.K H p ys)/\∀ l,H l=none->Q (.ref l) (upd H l (.lst ys))):=by
 intro pins s σ H xs us Q I r h;obtain ⟨p,ys,rfl,hq,q⟩:=h;obtain ⟨u,rfl,rx⟩:=Cd r;cases rx
 have fin:∀ (Az:List Value),A3 ys Az->ys.length<=sizeLine->∀ (h':Heap) (c':Nat),(∀ b o',s.heap.get? b=some o'->h'.get? b=some o') ->
   h'.get? s.heap.objs.size=some { cls:=.type "list",dict:=none,data:=.seq Az.toArray c',slots:=#[] }->EP X pins σ Q (.ref s.heap.objs.size) { s with heap:=h' }:=fun Az r' hz h' c' kp e=>
  ⟨.ref s.heap.objs.size,_,I.laid (t':=s.toks) kp (ZX _) (show AU X.prog X.w _ h' _ (.lst ys) from ⟨hz,Az,c',r',e⟩),rfl,q _ (I.hok.fresh (ZX _))⟩
 rcases hq with hq | hq
 ·obtain ⟨Az,r',pl,hz⟩:=I.list hq;have hlen:=r'.length;obtain ⟨o,ho,hc,n,hd⟩:=pl.isList;exact call_list_seq p (.inl rfl) ho hc hd (fun h' c' kp e=>fin Az r' hz h' c' kp e) (by simp only [aB] <;> lia)
 ·obtain ⟨Az,r',pl,hz⟩:=I.tuple hq;have hlen:=r'.length;obtain ⟨o,ho,hc,n,hd⟩:=pl;exact call_list_seq p (.inr rfl) ho hc hd (fun h' c' kp e=>fin Az r' hz h' c' kp e) (by simp only [aB] <;> lia)
theorem Jo:Bp X (.type "tuple") (fun xs H Q=>∃ p ys,xs=[.ref p]/\((AV X.K H p ys/\∀ l,H l=none->Q (.ref l) (upd H l (.tup ys)))\/(A2 X.K H p ys/\Q (.ref p) H))):=by
 intro pins s σ H xs us Q I r h;obtain ⟨p,ys,rfl,h⟩:=h;obtain ⟨u,rfl,rx⟩:=Cd r;cases rx
 rcases h with ⟨hq,q⟩ | ⟨hq,q⟩
 ·obtain ⟨Az,r',pl,hz⟩:=I.list hq;have hlen:=r'.length;refine call_tuple_list pl.isList (fun h' kp=>?_) (by simp only [aB] <;> lia);have I1:Au X pins σ H { s with heap:=h' }:=I.kept (t':=s.toks) kp;have I2:Au X pins σ (upd H h'.objs.size (.tup ys)) { s with heap:=h'.push { cls:=.type "tuple",data:=.seq Az.toArray } }:=
   I1.laid (t':=s.toks) (fun b o e=>ZT _ e) (ZX _) (show AU X.prog X.w _ _ _ (.tup ys) from ⟨hz,Az,r',IsTup.new _ _,Mp.new rfl rfl⟩)
  exact ⟨.ref h'.objs.size,_,I2,rfl,q _ (I1.hok.fresh (ZX _))⟩
 ·obtain ⟨Az,r',pl,hz⟩:=I.tuple hq;exact call_tuple_same pl ⟨.ref p,H,I,rfl,q⟩
def tyV (K:ZV) (T:String) (x:V) (H:Hp):Prop:=match x with
 | .str _=>T="str"
 | .int _=>T="int"
 | .ref p=>(T="list"/\∃ xs,AV K H p xs)\/(T="tuple"/\∃ o,K.lookup p=some o/\o.cls=.type "tuple"/\o.dict=none) \/
   (T="dict"/\((∃ kvs,H p=some (.dK kvs))\/∃ kvs,H p=some (.dT kvs)))\/(T="set"/\∃ S n,H p=some (.set S n))
 | _=>False
theorem Qo {pins:List (Addr × Obj)} {σ:St} {H:Hp} {s:Shared} {T:String} {x:V} {v:Value} (I:Au X pins σ H s) (r:AF x v) (ty:tyV X.K T x H) :
  s.TypeIs v T/\∀ a,v=.ref a->∃ ob,s.heap.get? a=some ob/\ob.dict=none:=by
 cases x with
 | str z=>
  obtain ⟨t,rfl⟩:=r;cases (show T="str" from ty)
  exact ⟨typeIs_str s z t,fun _ e=>nomatch e⟩
 | int i=>
  obtain ⟨t,rfl⟩:=r;cases (show T="int" from ty)
  exact ⟨typeIs_int s i t,fun _ e=>nomatch e⟩
 | ref p=>
  cases r
  rcases ty with ⟨rfl,xs,hq⟩ | ⟨rfl,o,hk,hc,hd⟩ | ⟨rfl,hk⟩ | ⟨rfl,S,n,hk⟩
  ·obtain ⟨Az,_,pl,_⟩:=I.list hq;refine ⟨pl.isList.typeIs,fun a e=>?_⟩;cases e
   obtain ⟨o,n,e,c,hd,_⟩:=pl;exact ⟨o,e,hd⟩
  ·refine ⟨⟨o,I.kIn p o hk,hc⟩,fun a e=>?_⟩;cases e
   exact ⟨o,I.kIn _ o hk,hd⟩
  ·have z:∃ o,s.heap.get? p=some o/\o.ExactDict:=by
    rcases hk with ⟨kvs,hk⟩ | ⟨kvs,hk⟩
    ·obtain ⟨_,_,_,_,o,_,_,e,ex,_⟩:=I.hok p _ hk;exact ⟨o,e,ex⟩
    ·obtain ⟨_,_,_,_,o,_,_,e,ex,_⟩:=I.hok p _ hk;exact ⟨o,e,ex⟩
   obtain ⟨o,e,ex⟩:=z;refine ⟨⟨o,e,ex.1⟩,fun a e2=>?_⟩;cases e2
   exact ⟨o,e,ex.2.1⟩
  ·obtain ⟨o,_,_,_,e,ex,_⟩:=I.hok p _ hk;refine ⟨⟨o,e,ex.1⟩,fun a e2=>?_⟩;cases e2
   exact ⟨o,e,ex.2.1⟩
 | _=>exact False.elim ty
def tBM0 (K:ZV) (T:String) (r:V->List V->Hp->VK->Prop) (to:TE):TE:=fun σ H Q=>to σ H fun x H1=>tyV K T x H1/\r x [] H1 Q
def tBM (K:ZV) (T:String) (r:V->List V->Hp->VK->Prop) (to:TE) (t:TA):TE:=fun σ H Q=>to σ H fun x H1=>tyV K T x H1/\t σ H1 fun xs H2=>r x xs H2 Q
variable {o e:Expr} {es:List Expr} {to:TE} {t:TA} {name:Str} {apos E1:Pos} {T id:String} {r:V->List V->Hp->VK->Prop}
theorem Vm (pa:PlainAttrs T) (slot:Slot T name id) (hty:typeOf (.builtin id)=pure (.type "method_descriptor")) (hm:MtR X id r) (ho:PE X o to)
  (hbase:attributeBase o name X.env (eval o X.env)=eval o X.env:=by rfl) (hline:(apos.endLine == E1.line)=true:=by rfl):PE X (.Call (.Attribute o name apos) [] [] E1) (tBM0 X.K T r to):=by
 intro pins s σ H Q I h;refine wpAny_Call_method0_late hbase hline (BC (ho (pins:=pins) s σ H _ I h) fun v s1 ⟨x,H1,I1,r1,ty,q1⟩=>?_);obtain ⟨h1,h2⟩:=Qo I1 r1 ty;exact ⟨T,id,pa,slot,hty,h1,h2,Calls.callWith_builtin rfl (PySem.evalArgs_none (hm (pins:=pins) s1 σ H1 x [] v [] Q I1 r1 .nil q1))⟩
theorem Ib (pa:PlainAttrs T) (slot:Slot T name id) (hty:typeOf (.builtin id)=pure (.type "method_descriptor")) (hm:MtR X id r) (ho:PE X o to) (ha:PA X (e :: es) t)
  (hbase:attributeBase o name X.env (eval o X.env)=eval o X.env:=by rfl)
  (hfew:((backTo E1 (starEach (e :: es) X.env)).all (fun x=>!x.1) && (backToKw E1 (keywordEach [] X.env)).all (fun x=>x.1.isSome)
   && decide ((e :: es).length + ([]:List Keyword).length + (if ([]:List Keyword).isEmpty then 0 else 1) < 30))=true:=by rfl)
  (hline:(apos.endLine == E1.line)=true:=by rfl) (hs:starEach (e :: es) X.env=(false,eval e X.env) :: starEach es X.env:=by rfl) (hplain:(backTo E1 (starEach es X.env)).any (·.1)=false:=by rfl) :
  PE X (.Call (.Attribute o name apos) (e :: es) [] E1) (tBM X.K T r to t):=by
 intro pins s σ H Q I h;refine wpAny_Call_method_late hbase hfew hline rfl (BC (ho (pins:=pins) s σ H _ I h) fun v s1 ⟨x,H1,I1,r1,ty,q1⟩=>?_);obtain ⟨h1,h2⟩:=Qo I1 r1 ty;refine ⟨T,id,pa,slot,hty,h1,h2,?_⟩;have hA:=ha (pos:=E1) (pins:=pins) s1 σ H1 _ I1 q1;rw [hs] at hA ⊢;refine Calls.callWith_builtin (by show (false || (backTo E1 (starEach es X.env)).any (·.1))=false; rw [hplain] <;> rfl) (Calls.evalArgs_plain ?_);exact BC hA fun us s2 ⟨vs,H2,I2,r2,q2⟩=>hm (pins:=pins) s2 σ H2 x vs v us Q I2 r1 r2 q2
end
def MtM (X:Cx) (id:String) (r:V->List V->Hp->VK->Prop):Prop:=
 ∀ ⦃pins:List (Addr × Obj)⦄ (s:Shared) (σ:St) (H:Hp) (x:V) (xs:List V) (v:Value) (us:List Value) (Q:VK),Au X pins σ H s->AF x v->A3 xs us->r x xs H Q ->
  wpAny (model X.prog X.w) X.A (call (.builtin id) (v :: us)) (EP X pins σ Q) X.xe s
theorem A3.one:∀ {x:V} {us:List Value},A3 [x] us->∃ u,us=[u]/\AF x u
 | _,_,.cons r .nil=>⟨_,rfl,r⟩
theorem A3.eraseIdx:∀ {xs:List V} {us:List Value} (i:Nat),A3 xs us->A3 (xs.eraseIdx i) (us.eraseIdx i)
 | _,_,_,.nil=>.nil
 | _,_,0,.cons _ t=>t
 | _,_,i + 1,.cons r t=>.cons r (A3.eraseIdx i t)
theorem JB {α:Type}:∀ (l:List α) (i:Nat),(l.eraseIdx i).length<=l.length
 | [],_=>ZX _
 | _ :: _,0=>aW _
 | _ :: r,i + 1=>Nat.succ_le_succ (JB r i)
section
variable {X:Cx} {pins:List (Addr × Obj)} {σ:St} {H:Hp} {s:Shared} {l b:Addr} {xs ys zs:List V}
theorem Au.lset {Az its':List Value} {n:Nat} {f:Array Value->Array Value} {t':Nat} (I:Au X pins σ H s) (hH:H l=some (.lst xs))
  (e:s.heap.get? l=some { cls:=.type "list",data:=.seq Az.toArray n }) (hf:f Az.toArray=its'.toArray) (hv:A3 ys its') (hz:ys.length<=sizeLine) :
  Au X pins σ (upd H l (.lst ys)) { s with heap:=s.heap.update l (Obj.mapSeq f),toks:=t' }:=by
 have q:=PySem.IsL.update e f;rw [hf] at q;refine I.write (x:=l) (e:=l) (by rw [hH]; exact trivial) (.inl rfl) (fun b' u hb hu=>(bj s.heap (Obj.mapSeq f) (Ne.symm hb)).trans hu) ⟨_,q⟩ ?_;exact ⟨hz,its',_,hv,q⟩
theorem Au.lnew {Az:List Value} {t':Nat} (I:Au X pins σ H s) (hv:A3 ys Az) (hz:ys.length<=sizeLine) :
  Au X pins σ (upd H s.heap.objs.size (.lst ys)) { s with heap:=s.heap.push { cls:=.type "list",data:=.seq Az.toArray },toks:=t' }:=
 I.laid (fun _ _ q=>ZT _ q) (ZX _) ⟨hz,Az,0,hv,ah _ rfl⟩
theorem Au.fresh (I:Au X pins σ H s):H s.heap.objs.size=none:=I.hok.fresh (ZX _)
theorem Au.lstM (I:Au X pins σ H s) (hH:H l=some (.lst xs)):xs.length<=sizeLine/\∃ (Az:List Value) (n:Nat),A3 xs Az/\xs.length=Az.length/\s.heap.get? l=some { cls:=.type "list",data:=.seq Az.toArray n }:=by
 obtain ⟨z,Az,n,r,e⟩:=I.hok l _ hH;exact ⟨z,Az,n,r,r.length,e⟩
end
section
variable {X:Cx}
def SM:V->List V->Hp->VK->Prop:=fun x vs H Q=>∃ l xs y,x=.ref l/\vs=[y]/\H l=some (.lst xs)/\xs.length < sizeLine/\Q .non (upd H l (.lst (xs ++ [y])))
theorem CV:MtM X "list.append" SM:=by
 intro pins s σ H x vs v us Q I rx rv h;obtain ⟨l,xs,y,rfl,rfl,hH,hz,q⟩:=h;cases rx
 obtain ⟨u,rfl,ru⟩:=rv.one;obtain ⟨z,Az,n,r,hl,e⟩:=I.lstM hH;refine call_meets F.slot_list_append ⟨_,e,rfl⟩ F.entry_list_append (F.args_list_append_2 _ _) (PySem.list_append l Az.toArray n u (by rw [aB]; lia)) ⟨e,?_⟩;refine ⟨.non,_,I.lset (its':=Az ++ [u]) hH e (by simp) (r.append (.cons ru .nil)) ?_,rfl,q⟩;rw [ZY,bo];lia
def Vi:V->List V->Hp->VK->Prop:=fun x vs H Q=>∃ l xs i k y,x=.ref l/\vs=[.int i]/\H l=some (.lst xs)/\-(2 ^ 63)<=i/\i < 2 ^ 63/\seqIndex? i xs.length=some k/\xs[k]? = some y/\Q y (upd H l (.lst (xs.eraseIdx k)))
theorem Rt:MtM X "list.pop" Vi:=by
 intro pins s σ H x vs v us Q I rx rv h;obtain ⟨l,xs,i,k,y,rfl,rfl,hH,h1,h2,hk,hy,q⟩:=h;cases rx
 obtain ⟨u,rfl,ru⟩:=rv.one;obtain ⟨t,rfl⟩:=ru;obtain ⟨z,Az,n,r,hl,e⟩:=I.lstM hH;obtain ⟨w,hw,OG⟩:=r.get hy;refine call_meets F.slot_list_pop ⟨_,e,rfl⟩ F.entry_list_pop (F.args_list_pop_2 _ _)
  (MeetsSeq.list_pop_at l Az.toArray n i t k w (fitsIndex_both h1 h2) (by rw [aB,<-hl]; exact hk) (by rw [<-bh]; exact hw) (by rw [aB]; lia)) ⟨e,?_⟩
 refine ⟨y,_,I.lset (its':=Az.eraseIdx k) hH e ?_ (r.eraseIdx k) ?_,OG,q⟩
 ·show Az.toArray.eraseIdxIfInBounds k=(Az.eraseIdx k).toArray
  rw [List.eraseIdxIfInBounds_toArray]
 ·have:=JB xs k;lia
def rCat:R2:=fun x y H Q=>∃ l b xs zs,x=.ref l/\y=.ref b/\H l=some (.lst xs)/\H b=some (.lst zs)/\xs.length + zs.length<=sizeLine/\∀ p,H p=none->Q (.ref p) (upd H p (.lst (xs ++ zs)))
theorem MO:F1 X (binaryOp .Add) rCat:=by
 intro pins s σ H x y v u Q I rx ry h;obtain ⟨l,b,xs,zs,rfl,rfl,hH,hB,hz,q⟩:=h;cases rx
 cases ry
 obtain ⟨z,Az,n,r,hl,e⟩:=I.lstM hH;obtain ⟨z2,Ph,n2,r2,PX,e2⟩:=I.lstM hB;refine PySem.P.add_list e e2 ?_ (by rw [aB,aB]; lia);have ea:Az.toArray ++ Ph.toArray=(Az ++ Ph).toArray:=by simp
 rw [ea];exact ⟨.ref _,_,I.lnew (t':=s.toks) (r.append r2) (by rw [ZY]; lia),rfl,q _ I.fresh⟩
end
section
variable {prog:Program} {w:World} {A:Around} {E:Value->Shared->Prop} {s:Shared}
set_option maxRecDepth 100000 in
end
section
variable {X:Cx}
end
section
variable {κ:Type} [DecidableEq κ]
def BF (kvs:List (κ × V)) (k:κ):Option V:=(kvs.find? fun kv=>decide (kv.1=k)).map (·.2)
def Bq (kvs:List (κ × V)) (k:κ) (v:V):List (κ × V):=
 if (kvs.any fun kv=>decide (kv.1=k))=true then kvs.map (fun kv=>if kv.1=k then (kv.1,v) else kv) else kvs ++ [(k,v)]
def II (kvs:List (κ × V)) (k:κ):List (κ × V):=kvs.filter fun kv=>decide (kv.1 ≠ k)
theorem DE {p:κ × V} {r:List (κ × V)} {k:κ} (e:p.1=k):BF (p :: r) k=some p.2:=by simp [BF,bM,e]
theorem CY {p:κ × V} {r:List (κ × V)} {k:κ} (e:¬ p.1=k):BF (p :: r) k=BF r k:=by simp [BF,bM,e]
theorem Cg (k:κ):∀ kvs:List (κ × V),(kvs.any fun kv=>decide (kv.1=k))=(BF kvs k).isSome
 | []=>rfl
 | p :: r=>by
  rw [de];by_cases e:p.1=k
  ·simp only [DE e,decide_eq_true e,Bool.true_or,gh]
  ·rw [CY e,decide_eq_false e,Bool.false_or]; exact Cg k r
theorem Dz (kvs:List (κ × V)) (k:κ) (v:V):(Bq kvs k v).length<=kvs.length + 1:=by
 unfold Bq;split
 ·rw [ZR]; lia
 ·rw [ZY,aK,eV]; lia
theorem L4 {kvs:List (κ × V)} {k:κ} (v:V) (h:BF kvs k=none):Bq kvs k v=kvs ++ [(k,v)]:=by
 unfold Bq;rw [Cg,h];exact if_neg (by decide)
theorem Hu.isSome_eq {o:Option V} {u:Option Value} (r:Hu o u):o.isSome=u.isSome:=by
 cases o with
 | none=>cases u with
  | none=>rfl
  | some _=>exact (show False from r).elim
 | some _=>cases u with
  | none=>exact (show False from r).elim
  | some _=>rfl
theorem Hu.getD {o:Option V} {u:Option Value} {d:V} {d':Value} (r:Hu o u) (rd:AF d d'):AF (o.getD d) (u.getD d'):=by
 cases o with
 | none=>cases u with
  | none=>exact rd
  | some _=>exact (show False from r).elim
 | some _=>cases u with
  | none=>exact (show False from r).elim
  | some _=>exact r
theorem KV.val {kvs:List (κ × V)} {vs:List (κ × Value)} (r:KV kvs vs) (k:κ):Hu (BF kvs k) (valueAt vs k):=by
 unfold KV at r;induction r with
 | nil=>exact True.intro
 | @cons p q ps qs h t ih=>
  obtain ⟨h1,h2⟩:=h;by_cases e:p.1=k
  ·have e':q.1=k:=h1.symm.trans e;have b:valueAt (q :: qs) k=some q.2:=by simp [valueAt,bM,e']
   rw [DE e,b]; exact h2
  ·have e':¬ q.1=k:=fun z=>e (h1.trans z)
   have b:valueAt (q :: qs) k=valueAt qs k:=by simp [valueAt,bM,e']
   rw [CY e,b]; exact ih
theorem KV.any {kvs:List (κ × V)} {vs:List (κ × Value)} (r:KV kvs vs) (k:κ):(kvs.any fun kv=>decide (kv.1=k))=vs.any fun kv=>decide (kv.1=k):=by
 unfold KV at r;induction r with
 | nil=>rfl
 | cons h t ih=>rw [de,de,ih,h.1]
theorem KV.repl {kvs:List (κ × V)} {vs:List (κ × Value)} (r:KV kvs vs) (k:κ) {y:V} {u:Value} (ry:AF y u) :
  KV (kvs.map fun kv=>if kv.1=k then (kv.1,y) else kv) (vs.map fun kv=>if kv.1=k then (kv.1,u) else kv):=by
 unfold KV at r ⊢;induction r with
 | nil=>exact .nil
 | @cons p q ps qs h t ih=>
  rw [au,au];refine .cons ?_ ih;obtain ⟨h1,h2⟩:=h;by_cases e:p.1=k
  ·rw [if_pos e,if_pos (h1.symm.trans e)]; exact ⟨h1,ry⟩
  ·rw [if_neg e,if_neg (fun z=>e (h1.trans z))]; exact ⟨h1,h2⟩
theorem KV.put {kvs:List (κ × V)} {vs:List (κ × Value)} (r:KV kvs vs) (k:κ) {y:V} {u:Value} (ry:AF y u):KV (Bq kvs k y) (stored vs k u):=by
 unfold Bq stored;rw [r.any k];by_cases e:(vs.any fun kv=>decide (kv.1=k))=true
 ·rw [if_pos e,if_pos e]; exact r.repl k ry
 ·rw [if_neg e,if_neg e]; exact Paired.snoc r ⟨rfl,ry⟩
theorem KV.drop {kvs:List (κ × V)} {vs:List (κ × Value)} (r:KV kvs vs) (k:κ):KV (II kvs k) (without vs k):=by
 unfold KV at r ⊢;unfold II without;induction r with
 | nil=>exact .nil
 | @cons p q ps qs h t ih=>
  obtain ⟨h1,h2⟩:=h;rw [bZ,bZ];by_cases e:p.1=k
  ·have a:¬ decide (p.1 ≠ k)=true:=by simp [e]
   have b:¬ decide (q.1 ≠ k)=true:=by simp [h1.symm.trans e]
   rw [if_neg a,if_neg b]; exact ih
  ·have e':¬ q.1=k:=fun z=>e (h1.trans z)
   have a:decide (p.1 ≠ k)=true:=by simp [e]
   have b:decide (q.1 ≠ k)=true:=by simp [e']
   rw [if_pos a,if_pos b]; exact .cons ⟨h1,h2⟩ ih
theorem KV.length {kvs:List (κ × V)} {vs:List (κ × Value)} (r:KV kvs vs):kvs.length=vs.length:=Paired.length r
theorem RP (kvs:List (κ × V)) (k:κ):(II kvs k).length<=kvs.length:=dY _ _
end
theorem Iz {P:Program} {w:World} {k:AK} {u:Value} (r:AF (kV k) u):(AO P w).is k u=true:=by
 cases k with
 | inl i=>obtain ⟨t,e⟩:=(show ∃ t,u=Value.int i t from r); subst e; exact LK P w i t
 | inr x=>obtain ⟨t,e⟩:=(show ∃ t,u=Value.str x t from r); subst e; exact GR P w x t
theorem JD {P:Program} {w:World}:∀ {ks:List AK} {us:List Value},A3 (ks.map kV) us->ItemsAre (AO P w) ks us
 | [],_,r=>by rw [dO] at r; cases r; exact .nil
 | k :: ks,_,r=>by
  rw [au] at r;cases r with
  | cons h t=>exact .cons (Iz h) (JD t)
abbrev KT (H:Hp):List (List AK × V)->List (List AK × Addr × Value)->Prop:=Paired fun p q=>p.1=q.1/\H q.2.1=some (.tup (p.1.map kV))/\AF p.2 q.2.2
theorem KT.val {H:Hp} {kvs:List (List AK × V)} {xs:List (List AK × Addr × Value)} (r:KT H kvs xs) (k:List AK):Hu (BF kvs k) ((atKey xs k).map (·.2)):=by
 induction r with
 | nil=>exact True.intro
 | @cons p q ps qs h t ih=>
  obtain ⟨h1,_,h2⟩:=h;by_cases e:p.1=k
  ·have e':q.1=k:=h1.symm.trans e;have b:atKey (q :: qs) k=some q.2:=by simp [atKey,bM,e']
   rw [DE e,b]; exact h2
  ·have e':¬ q.1=k:=fun z=>e (h1.trans z)
   have b:atKey (q :: qs) k=atKey qs k:=by simp [atKey,bM,e']
   rw [CY e,b]; exact ih
theorem KT.repl {H:Hp} {kvs:List (List AK × V)} {xs:List (List AK × Addr × Value)} (r:KT H kvs xs) (k:List AK) {y:V} {u:Value} (ry:AF y u) :
  KT H (kvs.map fun kv=>if kv.1=k then (kv.1,y) else kv) (xs.map (putAt k u)):=by
 induction r with
 | nil=>exact .nil
 | @cons p q ps qs h t ih=>
  rw [au,au];refine .cons ?_ ih;obtain ⟨h1,h2,h3⟩:=h;unfold putAt;by_cases e:p.1=k
  ·rw [if_pos e,if_pos (h1.symm.trans e)]; exact ⟨h1,h2,ry⟩
  ·rw [if_neg e,if_neg (fun z=>e (h1.trans z))]; exact ⟨h1,h2,h3⟩
theorem KT.put {H:Hp} {kvs:List (List AK × V)} {xs:List (List AK × Addr × Value)} (r:KT H kvs xs) (k:List AK) {b:Addr} {y:V} {u:Value} (hb:H b=some (.tup (k.map kV))) (ry:AF y u) :
  KT H (Bq kvs k y) (storedH xs k b u):=by
 have e:(kvs.any fun kv=>decide (kv.1=k))=(atKey xs k).isSome:=by
  rw [Cg,(r.val k).isSome_eq,gx]
 unfold Bq storedH;rw [e];by_cases q:(atKey xs k).isSome=true
 ·rw [if_pos q,if_pos q]; exact r.repl k ry
 ·rw [if_neg q,if_neg q]; exact Paired.snoc r ⟨rfl,hb,ry⟩
theorem KT.keeps {H H':Hp} {kvs:List (List AK × V)} {xs:List (List AK × Addr × Value)} (r:KT H kvs xs) (ht:∀ b ys,H b=some (.tup ys)->H' b=some (.tup ys)):KT H' kvs xs:=
 Paired.mapP r fun _ _ z=>⟨z.1,ht _ _ z.2.1,z.2.2⟩
section
variable {P:Program} {w:World} {H:Hp} {h:Heap} {a:Addr}
theorem Uv {u:HO} (ok:Gb P w H h) (e:Rd H a u):AU P w H h a u:=e.ok ok
theorem JN {kvs:List (AK × V)} (ok:Gb P w H h) (e:Rd H a (.dK kvs)):kvs.length<=sizeLine/\(a == sysModules)=false/\∃ vs,KV kvs vs/\h.DictOf (AO P w) a vs:=
 show AU P w H h a (.dK kvs) from Uv ok e
theorem Ma {kvs:List (AK × V)} (ok:Gb P w H h) (e:H a=some (.dK kvs)):kvs.length<=sizeLine/\(a == sysModules)=false/\∃ vs,KV kvs vs/\h.DictOf (AO P w) a vs:=JN ok (.inl e)
theorem Iy {ks:List AK} (ok:Gb P w H h) (e:H a=some (.tup (ks.map kV))):(tupleKind (AO P w)).is h ks a:=by
 obtain ⟨_,Az,r,⟨o,h1,h2,n,h3⟩,_⟩:=(show AU P w H h a (.tup (ks.map kV)) from ok a _ e)
 exact ⟨o,Az.toArray,n,h1,h2,h3,by simpa using JD r⟩
theorem JJ {kvs:List (List AK × V)} (ok:Gb P w H h) (e:Rd H a (.dT kvs)):kvs.length<=sizeLine/\(a == sysModules)=false /\
  ∃ xs,KT H kvs xs/\h.DictOfH (tupleKind (AO P w)) a xs:=by
 obtain ⟨z,y,xs,r,o,es,ep,h1,h2,h3,h4,h5⟩:=(show AU P w H h a (.dT kvs) from Uv ok e)
 refine ⟨z,y,xs,r,o,es,ep,h1,h2,h3,h4,fun x hx=>?_,h5⟩;have all:∀ {l:List (List AK × V)} {m:List (List AK × Addr × Value)},KT H l m->∀ x ∈ m,(tupleKind (AO P w)).is h x.1 x.2.1:=by
  intro l m q;induction q with
  | nil=>intro x hx; exact nomatch hx
  | @cons p q ps qs hq t ih=>
   intro x hx;rcases ZU.mp hx with e | hx
   ·subst e;exact Iy ok (by rw [<-hq.1]; exact hq.2.1)
   ·exact ih x hx
 exact all r x hx
theorem dt_of {kvs:List (List AK × V)} (ok:Gb P w H h) (e:H a=some (.dT kvs)):kvs.length<=sizeLine/\(a == sysModules)=false /\
  ∃ xs,KT H kvs xs/\h.DictOfH (tupleKind (AO P w)) a xs:=JJ ok (.inl e)
end
def CK (H:Hp) (a:Addr) (y:V) (r:Option V):Prop:=
 (∃ kvs k,Rd H a (.dK kvs)/\y=kV k/\r=BF kvs k)\/∃ kvs k b,Rd H a (.dT kvs)/\y=.ref b/\H b=some (.tup (k.map kV))/\r=BF kvs k
def Gd (H:Hp) (a:Addr) (y v:V) (H':Hp):Prop:=
 (∃ kvs k,H a=some (.dK kvs)/\y=kV k/\kvs.length < sizeLine/\H'=upd H a (.dK (Bq kvs k v))) \/
 ∃ kvs k b,H a=some (.dT kvs)/\y=.ref b/\H b=some (.tup (k.map kV))/\kvs.length < sizeLine/\H'=upd H a (.dT (Bq kvs k v))
theorem CK.k {H:Hp} {a:Addr} {kvs:List (AK × V)} {k:AK} (e:H a=some (.dK kvs)):CK H a (kV k) (BF kvs k):=.inl ⟨kvs,k,.inl e,rfl,rfl⟩
theorem CK.t {H:Hp} {a b:Addr} {kvs:List (List AK × V)} {k:List AK} (e:H a=some (.dT kvs)) (eb:H b=some (.tup (k.map kV))):CK H a (.ref b) (BF kvs k):=.inr ⟨kvs,k,b,.inl e,rfl,eb,rfl⟩
theorem Gd.k {H:Hp} {a:Addr} {kvs:List (AK × V)} {k:AK} {v:V} (e:H a=some (.dK kvs)) (hl:kvs.length < sizeLine):Gd H a (kV k) v (upd H a (.dK (Bq kvs k v))):=.inl ⟨kvs,k,e,rfl,hl,rfl⟩
theorem Gd.t {H:Hp} {a b:Addr} {kvs:List (List AK × V)} {k:List AK} {v:V} (e:H a=some (.dT kvs)) (eb:H b=some (.tup (k.map kV))) (hl:kvs.length < sizeLine) :
  Gd H a (.ref b) v (upd H a (.dT (Bq kvs k v))):=.inr ⟨kvs,k,b,e,rfl,eb,hl,rfl⟩
section
variable {X:Cx} {pins:List (Addr × Obj)} {σ:St} {H:Hp} {s:Shared} {a:Addr} {y v:V} {u r:Value} {o:Option V} {A:Around} {E:Value->Shared->Prop}
theorem Au.big (I:Au X pins σ H s):sysModules < s.heap.objs.size:=by
 have h:mainGlobals < s.heap.objs.size:=(I.mod.glob.keeps I.bk).lt;exact Nat.lt_trans (by decide) h
theorem PB {Q:Value->Shared->Prop} (hu:A.units + 1 < cLine) (I:Au X pins σ H s) (g:CK H a y (some v)) (ry:AF y u) (h:∀ w' s',Au X pins σ H s'->AF v w'->Q w' s') :
  wpAny (model X.prog X.w) A (getItem (.ref a) u) Q E s:=by
 rcases g with ⟨kvs,k,e,ey,l⟩ | ⟨kvs,k,b,e,ey,eb,l⟩
 ·subst ey;obtain ⟨z,hd,vs,rel,dd⟩:=JN I.hok e;obtain ⟨w',hw,OG⟩:=Hu.some_of (v:=v) (o:=valueAt vs k) (by rw [l]; exact rel.val k);exact wpAny_getItem_of (Iz ry) dd.mapOf hw (h w' _ (I.tok _) OG)
 ·subst ey;cases (show u=Value.ref b from ry)
  obtain ⟨z,hd,xs,rel,dd⟩:=JJ I.hok e;obtain ⟨w',hw,OG⟩:=Hu.some_of (v:=v) (o:=(atKey xs k).map (·.2)) (by rw [l]; exact rel.val k);obtain ⟨p,hp,VB⟩:=fo.mp hw;refine wpAny_getItem_heap (tupleKind_room_in1 hu) (Iy I.hok eb) dd hp ?_;rw [VB];exact h w' _ (I.tok _) OG
theorem TL {Q:Value->Shared->Prop} (hu:A.units + 1 < cLine) (I:Au X pins σ H s) (g:CK H a y o) (ry:AF y u) (h:∀ s',Au X pins σ H s'->Q (.bool (!o.isSome)) s') :
  wpAny (model X.prog X.w) A (compareOp .NotIn u (.ref a)) Q E s:=by
 rcases g with ⟨kvs,k,e,ey,l⟩ | ⟨kvs,k,b,e,ey,eb,l⟩
 ·subst ey;obtain ⟨z,hd,vs,rel,dd⟩:=JN I.hok e;refine wpAny_notIn_of (Iz ry) hd dd.mapOf ?_;rw [<-(rel.val k).isSome_eq,<-l];exact h _ (I.tok _)
 ·subst ey;cases (show u=Value.ref b from ry)
  obtain ⟨z,hd,xs,rel,dd⟩:=JJ I.hok e;refine wpAny_notIn_heap (tupleKind_room_in1 hu) (Iy I.hok eb) hd dd ?_;have q:=(rel.val k).isSome_eq;rw [gx] at q;rw [<-q,<-l];exact h _ (I.tok _)
theorem HF {h':Heap} {t':Nat} {ob:HO} (I:Au X pins σ H s) (mu:Mut (H a)) (hs:Heap.SameBut a s.heap h') (he:∃ q,h'.get? a=some q) (new:AU X.prog X.w (upd H a ob) h' a ob) :
  Au X pins σ (upd H a ob) { s with heap:=h',toks:=t' }:=
 I.write (x:=a) (e:=a) mu (.inl rfl) (fun b q hb z=>(hs.2 b hb).trans z) he new
theorem KG {P:Program} {w:World} {H':Hp} {h':Heap} {kvs:List (AK × V)} {vs:List (AK × Value)} (z:kvs.length<=sizeLine) (hd:(a == sysModules)=false) (rel:KV kvs vs) (dd:h'.DictOf (AO P w) a vs) :
  AU P w H' h' a (.dK kvs):=⟨z,hd,vs,rel,dd⟩
theorem P0 {H':Hp} {Q:Unit->Shared->Prop} (hu:A.units + 1 < cLine) (I:Au X pins σ H s) (g:Gd H a y v H') (ry:AF y u) (rv:AF v r) (h:∀ s',Au X pins σ H' s'->Q () s') :
  wpAny (model X.prog X.w) A (setItem (.ref a) u r) Q E s:=by
 rcases g with ⟨kvs,k,e,ey,l,eH⟩ | ⟨kvs,k,b,e,ey,eb,l,eH⟩
 ·subst ey eH;obtain ⟨z,hd,vs,rel,dd⟩:=Ma I.hok e;have hz:vs.length<=sizeLine:=by rw [<-rel.length]; exact z
  have hl:(Bq kvs k v).length<=sizeLine:=by have:=Dz kvs k v; lia
  refine wpAny_setItem_pairs (hsz:=hz) (Iz ry) dd fun h' Oq hs=>h _ ?_
  have he:∃ q,h'.get? a=some q:=let ⟨q,_,_,hq,_⟩:=Oq; ⟨q,hq⟩;exact HF I (by rw [e]; exact True.intro) hs he (KG hl hd (rel.put k rv) Oq)
 ·subst ey eH;cases (show u=Value.ref b from ry)
  obtain ⟨z,hd,xs,rel,dd⟩:=dt_of I.hok e;have hz:xs.length<=sizeLine:=by rw [<-Paired.length rel]; exact z
  have hl:(Bq kvs k v).length<=sizeLine:=by have:=Dz kvs k v; lia
  refine wpAny_setItem_heap (hsz:=hz) (tupleKind_room_in1 hu) (Iy I.hok eb) dd fun h' Oq hs=>h _ ?_
  obtain ⟨q,es,ep,hq,h2,h3,h4,_,h5⟩:=Oq;refine HF I (by rw [e]; exact True.intro) hs ⟨q,hq⟩ ⟨hl,hd,_,(rel.put k eb rv).keeps fun c ys ec=>?_,q,es,ep,hq,h2,h3,h4,h5⟩;rw [Ae (B8 ec e (fun z=>nomatch z))];exact ec
end
section
variable {X:Cx} {pins:List (Addr × Obj)} {σ:St} {H:Hp} {s:Shared} {a:Addr} {kvs:List (AK × V)} {k:AK} {u:Value} {A:Around} {E:Value->Shared->Prop}
theorem PF {Q:Unit->Shared->Prop} (I:Au X pins σ H s) (e:H a=some (.dK kvs)) (ry:AF (kV k) u) (l:(BF kvs k).isSome=true) (h:∀ s',Au X pins σ (upd H a (.dK (II kvs k))) s'->Q () s') :
  wpAny (model X.prog X.w) A (delItem (.ref a) u) Q E s:=by
 obtain ⟨z,hd,vs,rel,dd⟩:=Ma I.hok e;refine wpAny_delItem_slot dd.typeIs (by decide) PySem.F.slot_dict_delitem
  (call_meetsIn PySem.F.slot_dict_delitem dd.typeIs PySem.F.entry_dict_delitem (PySem.F.args_dict_delitem_2 _ _) (meets_dict_delitem_pairs (AO X.prog X.w) a (Iz ry)) ⟨vs,dd,by rw [<-rel.length]; exact z,by rw [<-(rel.val k).isSome_eq]; exact l,fun h' Oq hs=>h _ ?_⟩)
 have he:∃ q,h'.get? a=some q:=let ⟨q,_,_,hq,_⟩:=Oq; ⟨q,hq⟩;exact HF I (by rw [e]; exact True.intro) hs he (KG (aQ (RP kvs k) z) hd (rel.drop k) Oq)
end
def NoSl (i:Expr):Prop:=∀ ov iv,subscripted i false ov iv=operate [ov,iv] (getItem ov iv)
theorem S7 {prog:Program} {w:World} {A:Around} {E:Value->Shared->Prop} {s:Shared} {env:Env} {value slice:Expr} {pos:Pos} {T id:String} {Q:Value->Shared->Prop}
  (hl:typeLookup (.type T) "__getitem__"=pure (some (.builtin id))) (hs:NoSl slice)
  (h:wpAny (model prog w) A (eval value env) (fun o Bb=>wpAny (model prog w) A (eval slice env) (fun i Ey=>Ey.TypeIs o T/\wpAny (model prog w) A (getItem o i) Q E Ey) E Bb) E s) :
  wpAny (model prog w) A (eval (.Subscript value slice pos) env) Q E s:=by
 refine Subscript_ (wpAny_mono h (fun o Bb h₁=>wpAny_mono h₁ (fun i Ey Na=>?_) fun _ _ x=>x) fun _ _ x=>x);obtain ⟨hT,Na⟩:=Na;unfold subscriptTail;refine wpAny_bind ?_;rw [getitemInPython_of_ne hT.not_modules];refine wpAny_bind (wpAny_specialOf hT hl ?_);have fin:wpAny (model prog w) A (subscripted slice false o i) (fun r Dl=>wpAny (model prog w) A (letTemporaryGo value o r >>= fun _=>pure r) Q E Dl) E Ey:=by
  rw [hs o i];exact wpAny_operating (wpAny_mono Na (fun r Dl MZ=>wpAny_bind (wpAny_letTemporaryGo (wpAny_pure MZ))) fun _ _ x=>x)
 first
  | exact wpAny_pure (wpAny_bind fin)
  | exact wpAny_bind (wpAny_pure (wpAny_bind fin))
  | exact wpAny_bind fin
theorem Mc {X:Cx} {pins:List (Addr × Obj)} {σ:St} {H:Hp} {s:Shared} {a:Addr} {y:V} {o:Option V} (I:Au X pins σ H s) (g:CK H a y o):s.TypeIs (.ref a) "dict":=by
 rcases g with ⟨kvs,k,e,_,_⟩ | ⟨kvs,k,b,e,_,_,_⟩
 ·obtain ⟨_,_,vs,_,dd⟩:=JN I.hok e;exact dd.typeIs
 ·obtain ⟨_,_,xs,_,dd⟩:=JJ I.hok e;exact dd.typeIs
def tDGet (td ty:TE):TE:=fun σ H Q=>td σ H fun x H1=>ty σ H1 fun y H2=>∃ a v,x=.ref a/\CK H2 a y (some v)/\Q v H2
def S6 (ty td:TE):TE:=fun σ H Q=>ty σ H fun y H1=>td σ H1 fun x H2=>∃ a o,x=.ref a/\CK H2 a y o/\Q (.bl (!o.isSome)) H2
def sDPut (td ty tv:TE):TS:=fun D σ H=>tv σ H fun v H1=>td σ H1 fun x H2=>ty σ H2 fun y H3=>∃ a H4,x=.ref a/\Gd H3 a y v H4/\D.nx σ H4
def sDDel (td ty:TE):TS:=fun D σ H=>td σ H fun x H1=>ty σ H1 fun y H2=>∃ a kvs k,x=.ref a/\H2 a=some (.dK kvs)/\y=kV k/\(BF kvs k).isSome=true/\D.nx σ (upd H2 a (.dK (II kvs k)))
section
variable {X:Cx} {o i e value:Expr} {pos pos' tpos:Pos} {td ty tv:TE}
theorem B6 (hu:X.A.units + 1 < cLine) (ho:PE X o td) (hi:PE X i ty) (hs:NoSl i):PE X (.Subscript o i pos) (tDGet td ty):=by
 intro pins s σ H Q I h;refine S7 PySem.F.slot_dict_getitem.lookup hs (BC (ho (pins:=pins) s σ H _ I h) fun u s1 ⟨x,H1,I1,rx,q1⟩=>BC (hi (pins:=pins) s1 σ H1 _ I1 q1) fun iv s2 ⟨y,H2,I2,ry,a,v,ex,g,q2⟩=>?_);subst ex;obtain rfl:u=Value.ref a:=rx;exact ⟨Mc I2 g,PB hu I2 g ry fun w' s3 I3 OG=>⟨v,H2,I3,OG,q2⟩⟩
theorem OR (hu:X.A.units + 1 < cLine) (hi:PE X i ty) (ho:PE X o td):PC X .NotIn i o (S6 ty td):=by
 intro pins s σ H Q I h;refine BC (hi (pins:=pins) s σ H _ I h) fun iv s1 ⟨y,H1,I1,ry,q1⟩=>BC (ho (pins:=pins) s1 σ H1 _ I1 q1) fun u s2 ⟨x,H2,I2,rx,a,ov,ex,g,q2⟩=>?_
 subst ex;obtain rfl:u=Value.ref a:=rx;exact TL hu I2 g ry fun s3 I3=>⟨.bl (!ov.isSome),H2,I3,rfl,q2⟩
theorem Du (hu:X.A.units + 1 < cLine) (ho:PE X o td) (hi:PE X i ty) (hv:PE X value tv) (hs:swapsWith value (some (.Subscript o i pos')) pos.line X.env=pure false) :
  PS X (.Assign [.Subscript o i pos'] value pos) (sDPut td ty tv):=by
 intro pins s σ H D I h;refine wpAny_Assign_Subscript (BC (hv (pins:=pins) s σ H _ I h) fun r s1 ⟨v,H1,I1,rv,q1⟩=>BC (ho (pins:=pins) s1 σ H1 _ I1 q1) fun u s2 ⟨x,H2,I2,rx,q2⟩=>BC (hi (pins:=pins) s2 σ H2 _ I2 q2) fun iv s3 ⟨y,H3,I3,ry,a,H4,ex,g,q3⟩=>?_) hs;subst ex;obtain rfl:u=Value.ref a:=rx;exact P0 hu I3 g ry rv fun s4 I4=>⟨σ,H4,I4,q3⟩
theorem SN (ho:PE X o td) (hi:PE X i ty):PS X (.Delete [.Subscript o i tpos] pos) (sDDel td ty):=by
 intro pins s σ H D I h;refine wpAny_Delete (wpAny_deleteEach_cons (wpAny_delete_Subscript (BC (ho (pins:=pins) s σ H _ I h) fun u s1 ⟨x,H1,I1,rx,q1⟩=>BC (hi (pins:=pins) s1 σ H1 _ I1 q1) fun iv s2 ⟨y,H2,I2,ry,a,kvs,k,ex,e,ey,l,q2⟩=>?_)));subst ex ey;obtain rfl:u=Value.ref a:=rx;exact PF I2 e ry l fun s3 I3=>wpAny_deleteEach_nil ⟨σ,_,I3,q2⟩
end
theorem Mb {P:Program} {w:World} {H:Hp} (h:Heap) (hb:sysModules < h.objs.size):AU P w H (h.push { cls:=.type "dict",data:=.dict #[] }) h.objs.size (.dK []):=
 ⟨aH _,beq_eq_false_iff_ne.mpr (Ne.symm (ao hb)),[],.nil,Heap.DictOf.new h⟩
theorem RO {P:Program} {w:World} {H:Hp} (h:Heap) (hb:sysModules < h.objs.size):AU P w H (h.push { cls:=.type "dict",data:=.dict #[] }) h.objs.size (.dT []):=
 ⟨aH _,beq_eq_false_iff_ne.mpr (Ne.symm (ao hb)),[],.nil,_,#[],0,ah _ rfl,⟨rfl,rfl,rfl⟩,rfl,rfl,ff⟩
def UZ:TE:=fun _ H Q=>∀ p,H p=none->Q (.ref p) (upd H p (.dK []))
def UY:TE:=fun _ H Q=>∀ p,H p=none->Q (.ref p) (upd H p (.dT []))
section
variable {X:Cx} {pos:Pos}
theorem LB:PE X (.Dict [] [] pos) UZ:=fun pins s σ H Q I h=>
 wpAny_Dict_empty ⟨.ref s.heap.objs.size,_,I.laid (a:=s.heap.objs.size) (o:=.dK []) (t':=s.toks) (fun _ _ q=>ZT _ q) (ZX _) (Mb s.heap I.big),rfl,h _ (I.hok.fresh (ZX _))⟩
theorem LA:PE X (.Dict [] [] pos) UY:=fun pins s σ H Q I h=>
 wpAny_Dict_empty ⟨.ref s.heap.objs.size,_,I.laid (a:=s.heap.objs.size) (o:=.dT []) (t':=s.toks) (fun _ _ q=>ZT _ q) (ZX _) (RO s.heap I.big),rfl,h _ (I.hok.fresh (ZX _))⟩
end
def Iq (kvs more:List (AK × V)):List (AK × V):=more.foldl (fun acc kv=>Bq acc kv.1 kv.2) kvs
structure M2 (X:Cx) (o:Expr) (m:Str) (apos:Pos) (e f:Expr) (E1:Pos):Prop where
 base:attributeBase o m X.env (eval o X.env)=eval o X.env
 few:((backTo E1 (starEach [e,f] X.env)).all (fun x=>!x.1) && (backToKw E1 (keywordEach [] X.env)).all (fun x=>x.1.isSome)
  && decide (([e,f]:List Expr).length + ([]:List Keyword).length + (if ([]:List Keyword).isEmpty then 0 else 1) < 30))=true
 line:(apos.endLine == E1.line)=true
 trees:backTo E1 (starEach [e,f] X.env)=[(false,eval e X.env),(false,eval f X.env)]
def IsD (H:Hp) (a:Addr):Prop:=(∃ kvs,Rd H a (.dK kvs))\/∃ kvs,Rd H a (.dT kvs)
theorem Vz {X:Cx} {pins:List (Addr × Obj)} {σ:St} {H:Hp} {s:Shared} {a:Addr} (I:Au X pins σ H s) (d:IsD H a) :
  s.TypeIs (.ref a) "dict"/\(∀ b,Value.ref a=.ref b->∃ ob,s.heap.get? b=some ob/\ob.dict=none)/\(a == sysModules)=false:=by
 rcases d with ⟨kvs,e⟩ | ⟨kvs,e⟩
 ·obtain ⟨_,hd,vs,_,dd⟩:=JN I.hok e;refine ⟨dd.typeIs,fun b q=>?_,hd⟩;cases q
  obtain ⟨ob,_,_,h1,h2,_⟩:=dd;exact ⟨ob,h1,h2.2.1⟩
 ·obtain ⟨_,hd,xs,_,dd⟩:=JJ I.hok e;refine ⟨dd.typeIs,fun b q=>?_,hd⟩;cases q
  obtain ⟨ob,_,_,h1,h2,_⟩:=dd;exact ⟨ob,h1,h2.2.1⟩
section
variable {X:Cx} {pins:List (Addr × Obj)} {σ:St} {H:Hp} {s:Shared} {a:Addr} {y d:V} {u r:Value} {o:Option V} {A:Around} {E:Value->Shared->Prop}
theorem VV {Q:Value->Shared->Prop} (hu:A.units + 1 < cLine) (I:Au X pins σ H s) (g:CK H a y o) (ry:AF y u) (rd:AF d r) (h:∀ w' s',Au X pins σ H s'->AF (o.getD d) w'->Q w' s') :
  wpAny (model X.prog X.w) A (call (.builtin "dict.get") [.ref a,u,r]) Q E s:=by
 rcases g with ⟨kvs,k,e,ey,l⟩ | ⟨kvs,k,b,e,ey,eb,l⟩
 ·subst ey;obtain ⟨z,hd,vs,rel,dd⟩:=JN I.hok e;refine call_meetsIn PySem.F.slot_dict_get dd.typeIs PySem.F.entry_dict_get (PySem.F.args_dict_get_3 _ _ _) (meets_dict_get_default (AO X.prog X.w) a (Iz ry) hd r) ⟨_,dd.mapOf,h _ _ (I.tok _) ?_⟩;rw [l];exact (rel.val k).getD rd
 ·subst ey;cases (show u=Value.ref b from ry)
  obtain ⟨z,hd,xs,rel,dd⟩:=JJ I.hok e;refine call_meetsIn PySem.F.slot_dict_get dd.typeIs PySem.F.entry_dict_get (PySem.F.args_dict_get_3 _ _ _) (meetsH_dict_get_default (tupleKind (AO X.prog X.w)) a b hd r) ⟨tupleKind_room_in1 hu,k,xs,Iy I.hok eb,dd,h _ _ (I.tok _) ?_⟩;rw [l];exact (rel.val k).getD rd
end
def Va (td ty tx:TE):TE:=fun σ H Q=>td σ H fun x H1=>∃ a,x=.ref a/\IsD H1 a/\ty σ H1 fun y H2=>tx σ H2 fun z H3=>∃ o,CK H3 a y o/\Q (o.getD z) H3
section
variable {X:Cx} {o e f:Expr} {apos E1:Pos} {td ty tx:TE}
theorem LC (hu:X.A.units + 1 < cLine) (ho:PE X o td) (he:PE X e ty) (hf:PE X f tx) (m:M2 X o "get" apos e f E1):PE X (.Call (.Attribute o "get" apos) [e,f] [] E1) (Va td ty tx):=by
 intro pins s σ H Q I h;refine wpAny_Call_method m.base m.few m.line PySem.F.plainAttrs_dict PySem.F.slot_dict_get PySem.F.type_dict_get (BC (ho (pins:=pins) s σ H _ I h) fun u s1 ⟨x,H1,I1,rx,a,ex,d,q1⟩=>?_);subst ex;obtain rfl:u=Value.ref a:=rx;obtain ⟨t1,t2,_⟩:=Vz I1 d;refine ⟨t1,t2,?_⟩;rw [m.trees];refine Calls.callWith_builtin rfl (Calls.evalArgs_plain (Calls.spliced_cons (BC (he (pins:=pins) s1 σ H1 _ I1 q1) fun iv s2 ⟨y,H2,I2,ry,q2⟩=>
  Calls.spliced_cons (BC (hf (pins:=pins) s2 σ H2 _ I2 q2) fun fv s3 ⟨z,H3,I3,rz,ov,g,q3⟩=>Calls.spliced_nil ?_))))
 exact VV hu I3 g ry rz fun w' s4 I4 OG=>⟨_,H3,I4,OG,q3⟩
end
section
variable {X:Cx} {pins:List (Addr × Obj)} {σ:St} {H:Hp} {s:Shared} {a:Addr} {kvs:List (AK × V)} {A:Around} {E:Value->Shared->Prop}
end
section
variable {X:Cx} {pins:List (Addr × Obj)} {σ:St} {H:Hp} {s:Shared} {a:Addr} {y:V} {u:Value} {A:Around} {E:Value->Shared->Prop}
end
end L2
namespace Att
open PySem PySem.W PySem.Calls PyProof.Rows
theorem Ho {P:Params} {h:Heap}:∀ (ns:List Int) (vs:List Value),WellAll P h vs (ns.map WData.int)->IntsAre vs ns:=by
 intro ns;induction ns with
 | nil=>
  intro vs w;rw [dO] at w;cases w
  exact .nil
 | cons n ns ih=>
  intro vs w;rw [au] at w;cases w with
  | cons a b=>
   cases a
   exact .cons _ _ (ih _ b)
theorem OF {l:OpenLaw} {n:Nat} (hn:l.most=some n) {P:Params} {h:Heap} {args:List WData} {vals:List Value}
  (hpre:l.row.toRowW.claim.pre args=true) (hwl:WellAll P h vals args) :
  ∃ a vs ns,vals=[Value.ref a]/\args=[WData.list (ns.map WData.int)]/\h.get? a=some { cls:=.type "list",data:=.seq vs.toArray }/\IntsAre vs ns/\ns.length<=n:=by
 have hsh:WShape.hasAll [] args [.list .int]=true:=(pre_splitW hpre).1;have hc:l.pre.holds [] { args:=args } = true:=(pre_splitW hpre).2;obtain ⟨d,r,rfl,h1,h2⟩:=hasAllW_cons hsh;obtain rfl:=hasAllW_nil h2;obtain ⟨xs,rfl,h3⟩:=hasW_list h1;obtain ⟨ns,rfl⟩:=items_int h3;have hlen:ns.length<=n:=by
  unfold OpenLaw.pre at hc;have h4:(WTm.not (.lt (.lit (.int (n:Int))) (.len (.arg 0)))).holds [] { args:=[.list (ns.map .int)] } = true:=by
   have h4:=(holds_andW hc).1;rw [hn] at h4;exact h4
  have h5:=condW_of h4 (w_not (w_lt w_lit (w_len_list (w_arg rfl))));rw [ZR] at h5;refine Nat.le_of_not_lt fun q=>?_
  have q':(n:Int) < ((ns.length:Nat):Int):=by lia
  first
   | (rw [decide_eq_true q'] at h5; exact absurd h5 (by decide))
   | (simp at h5; lia)
 cases hwl with
 | cons w1 w2=>
  cases w2
  cases w1 with
  | list ho hall=>exact ⟨_,_,ns,rfl,rfl,ho,Ho ns _ hall,hlen⟩
theorem OO (l:OpenLaw) (args:List WData):l.row.toRowW.claim.post args (.bool true) args=true:=
 postW_of (r:=l.row.toRowW) (X:=(true == true))
  (show WShape.has [] (.bool true) .bool=true by first | rfl | decide | simp [WShape.has,WShape.arms,WShape.armsAll])
  (show (WTm.eq .res (.lit (.bool true))).value [] { args:=args,res:=some (.bool true),after:=args } = some (.bool (true == true)) from w_eq_bool (w_res rfl) w_lit) rfl
theorem attach_call {l:OpenLaw} {n:Nat} {q:Program} {loose:List Str} {XP:(Str->Option Value)->Heap->Prop} {YP:World->Heap->Prop} {d:DefRec}
  (hn:l.most=some n) (hdf:d.params.defaults=[])
  (call:∀ (w:World) (s₀ Bb:Shared) (mg mb:Str->Option Value) (fa:Addr) (o:Obj) (pm cd doc:Value) (a:Addr) (vs:List Value) (ns:List Int),
   Ground q loose [] XP w s₀ mg mb Bb.heap->YP w Bb.heap ->
   Bb.heap.get? fa=some o->o.data=.func (docDef d.name d.params d.body d.scope pm cd doc)->Bb.heap.CodeRec cd d.name->mg d.name=some (.ref fa) ->
   Bb.heap.get? a=some { cls:=.type "list",data:=.seq vs.toArray }->IntsAre vs ns->ns.length<=n->Bb.gens=#[] ->
   codeAny (model l.prog w) callerA (.call (.ref fa) ⟨[.ref a],[]⟩) (fun r s'=>r=.ok (.ret (.bool true))/\OldK Bb.heap s'.heap/\s'.os=Bb.os/\AllBare s'.gens) Bb) :
  WalkO q loose XP YP l.row.toRowW d [] (fun f vs=>PySem.call f vs):=by
 intro w s₀ Bb mg mb G Y fa o pm cd doc dV kV ho hd hcd hD hmg hg args vals as hpre hlay hrd hwl hlo;obtain rfl:dV=.none:=Dflts.none hD hdf;obtain rfl:kV=.none:=Dflts.noKw hD;obtain ⟨a,vs,ns,rfl,rfl,hobj,hints,hlen⟩:=OF hn hpre hwl;refine enter_call (codeAny_mono (call w s₀ Bb mg mb fa o pm cd doc a vs ns G Y ho (fd_plain hd) hcd hmg hobj hints hlen hg) fun r s' hq=>?_);obtain ⟨rfl,h2,h3,h4⟩:=hq;exact ⟨.inl ⟨.bool true,.bool true,[],rfl,fun _=>rfl,.bool true,OO l _,fun _=>⟨List.Pairwise.nil,fun _ hm=>(nomatch hm)⟩⟩,h2,h3,h4⟩
section
variable {prog:Program} {w:World} {A:Around} {E:Value->Shared->Prop} {s:Shared} {K:Frag}
end
end Att
namespace L2
open PySem PySem.Spec PyProof.Rows
theorem Jw:∀ {vs:List Value} {ns:List Int},IntsAre vs ns->A3 (ns.map V.int) vs
 | _,_,.nil=>.nil
 | _,_,.cons n t h=>.cons ⟨t,rfl⟩ (Jw h)
def Uc (H:Hp):Prop:=∀ b,H b=none\/∃ o xs,H b=some (.frz o (.lst xs))
theorem R1 {P:Program} {w:World} {K:ZV} {mg mb:Str->Option Value} {CX:Se} {k:Nat} {fa a:Addr} {fd:FuncData} {x:Str} {sp:Sp} {Bb:Shared} {vs:List Value} {ns:List Int}
  (KX:K.In Bb.heap) (hns:Bb.heap.Ns mainGlobals mg) (hb:Bb.heap.Ns builtinsNs mb) (hbb:∀ x:Str,x ≠ "__name__"->mb x=bootBuiltins x) (hlim:Bb.heap.NoLimit) (hg:Bb.gens=#[])
  (ha:Bb.heap.get? a=some { cls:=.type "list",data:=.seq vs.toArray }) (hi:IntsAre vs ns) (hl:ns.length<=sizeLine) (hr:En k callerA)
  (F:∀ base:Heap,K.In base->base.Ns mainGlobals mg->AG P w K mg base CX k fa fd [x] sp) (hbind:∀ (s:Shared) (u:Value),BindsTo s fd ⟨[u],[]⟩ [(x,u)])
  (hsp:∀ H:Hp,Uc H->AV K H a (ns.map V.int)->sp [.ref a] H (fun v _=>v=.bl true) fun _ _ _=>False)
  (hCX:∀ H e s',CX [] H Bb (fun _ _ _=>False) e s'->False) :
  codeAny (model P w) callerA (.call (.ref fa) ⟨[.ref a],[]⟩) (fun r s'=>r=.ok (.ret (.bool true))/\OldK Bb.heap s'.heap/\s'.os=Bb.os/\AllBare s'.gens) Bb:=by
 have rv:=Jw hi;have lenV:=hi.length;have core:∀ H:Hp,Uc H->AV K H a (ns.map V.int)->Gb P w H Bb.heap->(∀ b,H b ≠ none->b=a)->(H a ≠ none->K.lookup a=none) ->
   codeAny (model P w) callerA (.call (.ref fa) ⟨[.ref a],[]⟩) (fun r s'=>r=.ok (.ret (.bool true))/\OldK Bb.heap s'.heap/\s'.os=Bb.os/\AllBare s'.gens) Bb:=by
  intro H hO hS hok hA hK;have base_of:∀ {b:Addr} {o:Obj},Bb.heap.get? b=some o->H b=none->(KA Bb.heap H).get? b=some o:=fun e n=>RE e n
  have noA:∀ {b:Addr} {o:Obj} {es:Array DictEntry} {ep:Nat},Bb.heap.get? b=some o->o.data=.dict es ep->H b=none:=fun {b o es ep} e d=>by
   cases q:H b with
   | none=>rfl
   | some u=>
    have e':b=a:=hA b (by rw [q]; simp);subst e';rw [ha] at e; cases e;have d':Data.seq vs.toArray _=Data.dict es ep:=d;cases d'
  have nsK:∀ {b:Addr} {m:Str->Option Value},Bb.heap.Ns b m->(KA Bb.heap H).Ns b m:=fun {b m} ⟨o,es,ep,e,d,r⟩=>⟨o,es,ep,base_of e (noA e d),d,r⟩
  have hKb:K.In (KA Bb.heap H):=fun b o e=>base_of (KX b o e) (by
   cases q:H b with
   | none=>rfl
   | some u=>
    have e':b=a:=hA b (by rw [q]; simp);subst e';rw [hK (by rw [q]; simp)] at e; cases e)
  have hM:Mod K mg (KA Bb.heap H):=⟨hKb,nsK hns,⟨mb,nsK hb,hbb⟩,let ⟨mc,h1,h2⟩:=hlim; ⟨mc,nsK h1,h2⟩⟩
  have e0:Uh P w K mg (KA Bb.heap H) callerA [] Bb H:=⟨rfl,hM,fun b o e=>Tb e,gY (Pm _ _),trivial,fun b hb=>absurd (show b ∈ ([]:List Addr) from hb) (by simp),hok,.of_eq hg⟩
  refine codeAny_mono ((F _ hKb (nsK hns)).run callerA [] Bb H ⟨[.ref a],[]⟩ [.ref a] [.ref a] _ _ hr e0 (hbind Bb (.ref a)) (.cons rfl .nil) (hsp H hO hS)) fun r s' h=>?_
  cases r with
  | error e=>exact (hCX H e s' h).elim
  | ok fl=>
   cases fl with
   | next=>exact False.elim h
   | brk=>exact False.elim h
   | cont=>exact False.elim h
   | ret u=>
    obtain ⟨v,H',os,bare,un,Zg,r',q⟩:=h;have q':v=.bl true:=q;subst q';obtain rfl:u=Value.bool true:=r';refine ⟨rfl,OldK.of_keep fun b o e=>?_,os,bare⟩;cases q:H b with
    | none=>exact un.keep b o e q (by intro z; exact absurd (show b ∈ ([]:List Addr) from z) (by simp)) (by simp)
    | some u=>
     rcases hO b with z | ⟨ob,xs,z⟩
     ·rw [q] at z; cases z
     ·have z2:=un.frzs b ob _ z;obtain ⟨e1,_⟩:=hok b _ z;obtain ⟨e2,_⟩:=Zg b _ z2;rw [e] at e1; cases e1;exact e2
 cases hk:K.lookup a with
 | some o=>
  have e:=KX a o hk;rw [ha] at e;cases e
  refine core (fun _=>none) (fun _=>.inl rfl) (.inr ⟨_,vs.toArray,_,hk,rfl,rfl,rfl,by rw [aB,lenV]; exact hl,by simpa using rv⟩) (fun b u z=>by have z':(none:Option HO)=some u:=z; cases z') (fun b z=>absurd rfl z) fun z=>absurd rfl z
 | none=>
  refine core (fun b=>if b=a then some (.frz { cls:=.type "list",data:=.seq vs.toArray } (.lst (ns.map V.int))) else none) (fun b=>?_) (.inl (.inr ⟨{ cls:=.type "list",data:=.seq vs.toArray },if_pos rfl⟩)) (fun b u z=>?_) (fun b z=>?_) fun _=>hk
  ·by_cases hb:b=a
   ·exact .inr ⟨_,_,if_pos hb⟩
   ·exact .inl (if_neg hb)
  ·by_cases hb:b=a
   ·have z':=(if_pos hb).symm.trans z;cases z'
    subst hb;exact ⟨ha,by rw [ZR]; exact hl,vs,_,rv,ha⟩
   ·have z':=(if_neg hb).symm.trans z;cases z'
  ·by_cases hb:b=a
   ·exact hb
   ·exact absurd (if_neg hb) z
theorem walk_of {l:eL} {n k:Nat} {q:Program} {loose:List Str} {XP:(Str->Option Value)->Heap->Prop} {YP:World->Heap->Prop} {d:DefRec} {K:Params->ZV} {CX:World->Se} {sp:World->Sp} {x:Str}
  (hn:l.most=some n) (Zi:n<=sizeLine) (hdf:d.params.defaults=[]) (hr:En k callerA)
  (hY:∀ (w:World) (h:Heap),YP w h->(K w.params).In h)
  (F:∀ (w:World) (mg:Str->Option Value) (fa:Addr) (h:Heap),(K w.params).In h->h.Ns mainGlobals mg->mg d.name=some (.ref fa) ->
   ∃ fd:FuncData,(∀ (s:Shared) (u:Value),BindsTo s fd ⟨[u],[]⟩ [(x,u)]) /\
    ∀ base:Heap,(K w.params).In base->base.Ns mainGlobals mg->AG l.prog w (K w.params) mg base (CX w) k fa fd [x] (sp w))
  (hsp:∀ (w:World) (H:Hp) (a:Addr) (ns:List Int),ns.length<=n->Uc H->AV (K w.params) H a (ns.map V.int)->sp w [.ref a] H (fun v _=>v=.bl true) fun _ _ _=>False)
  (hCX:∀ (w:World) (H:Hp) (s:Shared) (e:Value) (s':Shared),CX w [] H s (fun _ _ _=>False) e s'->False) :
  gD q loose XP YP l.row.toRowW d [] (fun f vs=>PySem.call f vs):=by
 refine Att.attach_call hn hdf fun w s₀ Bb mg mb fa o pm cd doc a vs ns G Y ho hd hcd hmg hobj hints hlen hg=>?_
 have KX:=hY w _ Y;obtain ⟨fd,hb,hF⟩:=F w mg fa _ KX G.T.g hmg;exact R1 KX G.T.g G.T.b G.T.builtins G.T.nolimit hg hobj hints (aQ hlen Zi) hr hF hb (fun H hO hS=>hsp w H a ns hlen hO hS) fun H e s'=>hCX w H Bb e s'
def El (s:Stmt):Arguments:=match s with
 | .FunctionDef _ a _ _ _ _ _ _ _ _=>a
 | _=>{ posonlyargs:=[],args:=[],vararg:=none,kwonlyargs:=[],kw_defaults:=[],kwarg:=none,defaults:=[] }
def CT (s:Stmt):List Stmt:=match s with
 | .FunctionDef _ _ b _ _ _ _ _ _ _=>b
 | _=>[]
def Ay (s:Stmt):Scope:=match s with
 | .FunctionDef _ _ _ _ _ _ sc _ _ _=>sc
 | _=>{ kind:=.function,names:=[],isGenerator:=false,isCoroutine:=false }
abbrev BD:Se:=fun _ _ _ _ _ _=>False
abbrev E0:XK:=fun _ _ _=>False
theorem Ax {X:Cx}:Nq BD X E0:=fun _ _ _ _ _ _ _ h=>h.elim
structure DP (K:ZV) (x qual:Str) (st:Stmt) (f:Addr) (fd:FuncData):Prop where
 ex:∃ (oc:Value) (od:Option Addr) (kV doc pm:Value) (an:Option Addr) (Cf ct:Value) (osl:Array (Option Value)),
  fd=ck x qual (El st) (CT st) (Ay st) .none kV doc pm an Cf ct/\K.lookup f=some ⟨oc,od,.func fd,osl⟩/\dQ K Cf qual=true
 kp:dP K (.ref f)=true
section
variable {P:Program} {w:World} {K:ZV} {mg:Str->Option Value} {base:Heap}
theorem DP.ok {x qual:Str} {st:Stmt} {f:Addr} {fd:FuncData} {N ps:List Str} {k:Nat} {sp:Sp} (F:DP K x qual st f fd) (S:AL N ps (Ay st)) (len:∀ vs H Q E,sp vs H Q E->vs.length=ps.length)
  (hbody:∀ (Cf:Value) (A:Around) (outer:List Env) (s:Shared) (H:Hp) (vs:List V) (Q:VK) (E:XK),En k (A.deeper (envOfC qual (Ay st) s.heap.objs.size f Cf))->sp vs H Q E ->
   ∃ t,Ov (Nk BD P w K mg base N qual (Ay st) f Cf A outer s H E).nox (CT st) t/\t { nx:=fun _ H'=>Q .non H',rt:=Q } (start N vs) H):AG P w K mg base BD (k + 1) f fd ps sp:=by
 obtain ⟨oc,od,kV,doc,pm,an,Cf,ct,osl,rfl,lk,hcd⟩:=F.ex;refine fn_of lk hcd S len fun A outer s H vs Q E hr hsp=>?_
 obtain ⟨t,h,q⟩:=hbody Cf A outer s H vs Q E hr hsp;exact ⟨t,h.nox,q⟩
theorem DP.binds {x qual:Str} {st:Stmt} {f:Addr} {fd:FuncData} {ps:List Str} (F:DP K x qual st f fd)
  (h:∀ (kV doc pm:Value) (an:Option Addr) (Cf ct:Value) (us:List Value),us.length=ps.length->bindArgs (ck x qual (El st) (CT st) (Ay st) .none kV doc pm an Cf ct) ⟨us,[]⟩=pure (ps.zip us)):DO K fd ps []:=by
 obtain ⟨oc,od,kV,doc,pm,an,Cf,ct,osl,rfl,lk,hcd⟩:=F.ex;exact .all (h kV doc pm an Cf ct)
theorem VN {x qual:Str} {st:Stmt} {f:Addr} {oc:Value} {od an:Option Addr} {osl:Array (Option Value)} {kV doc pm Cf ct:Value} (l:K.lookup f=some ⟨oc,od,.func (ck x qual (El st) (CT st) (Ay st) .none kV doc pm an Cf ct),osl⟩)
  (c:dQ K Cf qual=true) (k:dP K (.ref f)=true):DP K x qual st f (ck x qual (El st) (CT st) (Ay st) .none kV doc pm an Cf ct):=⟨⟨oc,od,kV,doc,pm,an,Cf,ct,osl,rfl,l,c⟩,k⟩
end
theorem ED {A:Around} {k:Nat} (hr:En k A):A.units + 1 < cLine:=Nat.lt_of_le_of_lt (Nat.add_le_add_left (by decide:1<=64) _) hr.units
section
variable {X:Cx}
theorem pv (i:Nat) {x:Str} {pos:Pos} (hN:X.N[i]? = some x:=by rfl) (hv:Vis X.env.scope x:=by first | exact Or.inl rfl | exact Or.inr (Or.inl rfl) | exact Or.inr (Or.inr rfl)) (hd:(x == ("__debug__":Str))=false:=by decide)
  (hcd:(x == ("__classdict__":Str))=false:=by decide):PE X (.Name x pos) (tVar i):=Vl hN hv hd hcd
end
theorem R6 {A B:Prop} (h:B):if false=true then A else B:=by
 rw [if_neg az];exact h
theorem Vy {A B:Prop} (h:A):if true=true then A else B:=by
 rw [if_pos rfl];exact h
theorem BB {c A B:Prop} [Decidable c] (h1:c->A) (h2:¬ c->B):if c then A else B:=by
 by_cases h:c
 ·rw [if_pos h];exact h1 h
 ·rw [if_neg h];exact h2 h
def AD (H H':Hp):Prop:=∀ b o,H b=some o->H' b=some o
theorem AD.refl (H:Hp):AD H H:=fun _ _ h=>h
theorem AD.trans {H H1 H2:Hp} (a:AD H H1) (b:AD H1 H2):AD H H2:=fun c o h=>b c o (a c o h)
theorem AD.free {H H':Hp} (e:AD H H') {l:Addr} (h:H' l=cY):H l=cY:=by
 cases q:H l with
 | none=>rfl
 | some o=>
  rw [e l o q] at h;cases h
section
variable {κ:Type} [DecidableEq κ]
theorem Qk {kvs:List (κ × V)} {k:κ} (h:BF kvs k=none):¬ k ∈ kvs.map (·.1):=by
 intro m;obtain ⟨p,hp,e⟩:=ZZ.mp m;have q:(kvs.any fun kv=>decide (kv.1=k))=true:=cg.mpr ⟨p,hp,decide_eq_true e⟩;rw [Cg,h] at q;exact absurd q (by simp)
theorem Sv {kvs:List (κ × V)} {k:κ} {v:V} (h:BF kvs k=some v):k ∈ kvs.map (·.1):=by
 have q:(kvs.any fun kv=>decide (kv.1=k))=true:=by
  rw [Cg,h];all_goals rfl
 obtain ⟨p,hp,e⟩:=cg.mp q;exact ZZ.mpr ⟨p,hp,of_decide_eq_true e⟩
end
abbrev A4 (X:Cx) (scope:Scope) (cl:List (Str × Addr)) (N:List Str) (s2:Shared) (H:Hp) (C:Addr) (fp:List Addr):Cx where
 prog:=X.prog
 w:=X.w
 K:=X.K
 mg:=X.mg
 base:=X.base
 A:=X.A
 N:=N
 s₀:=s2
 H₀:=H
 env:=compEnvC scope cl C X.env
 outer:=X.stack
 stack:=X.stack
 ex:=fp
 fn:=fun _=>false
 calm:=X.calm
 pn:=[]
 xe:=fun _ _=>False
structure AE (X:Cx) (scope:Scope) (cl:List (Str × Addr)):Prop where
 clos:closureFor scope X.env=pure cl
 cell:∀ y ∈ scope.names,y.2 ≠ .cell
 kind:scope.kind=.function
 names:∀ y ∈ scope.names,y.2=.local->scope.names.lookup y.1=some .local
 sub:∀ x c,cl.lookup x=some c->X.env.cells.lookup x=some c
 has:∀ x,((relabel scope X.env).names.lookup x=some .cell\/(relabel scope X.env).names.lookup x=some .free)->∃ c,cl.lookup x=some c
def Ba (X:Cx) (cl:List (Str × Addr)) (scope:Scope) (N:List Str) (σ A8:St):Prop:=
 A8.length=N.length/\∀ (i:Nat) (x:Str) (v:V),N[i]? = some x->A8[i]? = some (some v) ->
  (∃ j:Nat,X.N[j]? = some x/\σ[j]? = some (some v))/\(X.env.kindOf x=some .cell\/X.env.kindOf x=some .free) /\
   ((relabel scope X.env).names.lookup x=some .cell\/(relabel scope X.env).names.lookup x=some .free)
theorem Ba.none (X:Cx) (cl:List (Str × Addr)) (scope:Scope) (N:List Str) (σ:St):Ba X cl scope N σ (N.map fun _=>cY):=by
 refine ⟨by simp,fun i x v h1 h2=>?_⟩;rw [ai,h1] at h2;cases h2
section
variable {X:Cx} {pins:List (Addr × Obj)} {σ A8:St} {H H':Hp} {s2 s':Shared} {scope:Scope} {cl:List (Str × Addr)} {N:List Str} {fp:List Addr} {C D:Addr} {h₁ h':Heap} {t':Nat}
theorem Hd {ob:HO} (I:Au X pins σ H s2) (hf:∀ b ∈ fp,EG X pins H b) (hfo:∀ b ∈ fp,∃ o,s2.heap.get? b=some o) (co:AE X scope cl) (hσ:Ba X cl scope N σ A8)
  (k:∀ b o,s2.heap.get? b=some o->h₁.get? b=some o) (hD:s2.heap.objs.size<=D) (hC:s2.heap.objs.size<=C) (hDC:C ≠ D)
  (newO:AU X.prog X.w (upd H D ob) h₁ D ob) {m:Str->Option Value} (hn:h₁.Ns C m) :
  Au (A4 X scope cl N s2 H C fp) [] A8 (upd H D ob) { s2 with heap:=h₁,toks:=t' }:=by
 have fD:H D=none:=I.hok.fresh hD;have fC:H C=none:=I.hok.fresh hC;have lts:∀ b ∈ fp,b < s2.heap.objs.size:=fun b hb=>let ⟨_,e⟩:=hfo b hb; ae e
 have cells_lt:∀ x c,cl.lookup x=some c->c < s2.heap.objs.size:=fun x c e=>by
  obtain ⟨v,q⟩:=I.cell x c (co.sub x c e);exact q.lt
 have ok:Cx.Ok (A4 X scope cl N s2 H C fp):=by
  refine ⟨I.ok.mod,?_,I.ok.glob,I.ok.blt,hC,?_,?_,?_,I.ok.hd,I.ok.frames,.inl rfl,?_,I.bs,aQ I.ok.bsz I.sz,?_,?_,I.stack,I.stkFree⟩
  ·exact co.kind
  ·exact fun x y c e1 e2=>I.ok.inj x y c (co.sub x c e1) (co.sub y c e2)
  ·exact fun x h=>co.has x h
  ·exact fun x c h _=>by cases h
  ·intro b hb;refine ⟨fun e=>?_,fun x c e=>(hf b hb).2.2.2.2.1 x c (co.sub x c e)⟩;have z:=lts b hb;exact absurd (ak z hC) (by rw [show b=C from e]; exact bp _)
  ·intro b o e hb;have IC:b ∈ fp:=hb;rcases (hf b IC).2.2.2.1 with z | z
   ·exact I.ok.noex b o e z
   ·exact absurd (ak (ae e) (aQ I.ok.bsz z)) (bp _)
  ·intro b hb hz;have IC:b ∈ fp:=hb;obtain ⟨_,f1,f2,_⟩:=hf b IC;rcases ZU.mp (I.stkSub b hz) with e | e
   ·exact f1 e
   ·exact f2 e
 refine ⟨ok,rfl,I.bare,Un.laid k hD fD,?_,?_,?_,?_,?_,I.hok.laid k hD newO,hσ.1⟩
 ·refine ⟨m,hn,fun i x v e1 e2 _=>?_⟩;obtain ⟨⟨j,j1,j2⟩,kk,kr⟩:=hσ.2 i x v e1 e2;obtain ⟨mo,_,hl⟩:=I.loc;obtain ⟨u,r,l⟩:=hl j x v j1 j2 (by
   rcases kk with z | z
   ·exact .inr (.inl z)
   ·exact .inr (.inr z))
  refine ⟨u,r,.inr ⟨kr,?_⟩⟩;obtain ⟨c,hc⟩:=co.has x kr;rcases l with ⟨z,_⟩ | ⟨_,c',Mv,hcell⟩
  ·rcases kk with q | q
   ·rw [z] at q; cases q
   ·rw [z] at q; cases q
  ·have e3:=co.sub x c hc;rw [Mv] at e3;have e4:c'=c:=aI.inj e3;subst e4;obtain ⟨o,ho,hd⟩:=hcell;exact ⟨c',hc,o,k _ o ho,hd⟩
 ·intro x c e;obtain ⟨v,o,ho,hd⟩:=I.cell x c (co.sub x c e);exact ⟨v,o,k _ o ho,hd⟩
 ·show upd H D ob C=none
  rw [Ae hDC];exact fC
 ·intro x c e;rw [Ae (ao (ak (cells_lt x c e) hD))];exact I.freeC x c (co.sub x c e)
 ·intro p hp;cases hp
theorem Nm (I:Au X pins σ H s2) (hf:∀ b ∈ fp,EG X pins H b) (hfo:∀ b ∈ fp,∃ o,s2.heap.get? b=some o) (co:AE X scope cl) (hσ:Ba X cl scope N σ A8)
  (k:∀ b o,s2.heap.get? b=some o->h₁.get? b=some o) (hD:s2.heap.objs.size<=D) (hC:s2.heap.objs.size<=C) (hDC:C ≠ D)
  (new:h₁.get? D=some { cls:=.type "list",data:=.seq ([]:List Value).toArray 0 }\/∃ n,h₁.get? D=some { cls:=.type "list",data:=.seq ([]:List Value).toArray n }) {m:Str->Option Value} (hn:h₁.Ns C m) :
  Au (A4 X scope cl N s2 H C fp) [] A8 (upd H D (.lst [])) { s2 with heap:=h₁,toks:=t' }:=by
 have newO:AU X.prog X.w (upd H D (.lst [])) h₁ D (.lst []):=by
  refine ⟨aH _,[],?_⟩;rcases new with e | ⟨n,e⟩
  ·exact ⟨0,.nil,e⟩
  ·exact ⟨n,.nil,e⟩
 exact Hd I hf hfo co hσ k hD hC hDC newO hn
theorem IK {pl:List (Addr × Obj)} (I:Au X pins σ H s2) (hf:∀ b ∈ fp,EG X pins H b) (hC:s2.heap.objs.size<=C) (I2:Au (A4 X scope cl N s2 H C fp) pl A8 H' s')
  (hs:Heap.SameBut C s'.heap h'):Au X pins σ H' { s' with heap:=h' }:=by
 have nC:∀ b o,s2.heap.get? b=some o->b ≠ C:=fun b o e=>ao (ak (ae e) hC)
 have u:=I2.base;refine I.call' (s':={ s' with heap:=h' }) (ch:=fp) I2.os ⟨?_,?_,u.free,?_,u.tups,u.frzs,u.tbls⟩ ?_ I2.bare fun b hb=>?_
 ·exact fun b o e n h1 h2=>(hs.2 b (nC b o e)).trans (u.keep b o e n h1 h2)
 ·intro b o e n h1 h2;obtain ⟨sl,q⟩:=u.slot b o e n h1 h2;exact ⟨sl,(hs.2 b (nC b o e)).trans q⟩
 ·intro b o e h2;obtain ⟨o',q⟩:=u.there b o e h2;exact ⟨o',(hs.2 b (nC b o e)).trans q⟩
 ·intro b ob e;have hfree:H' C=none:=I2.free;refine (I2.hok b ob e).stay (fun c w' hc q=>(hs.2 c ?_).trans q) (fun _ q=>q) fun _ _ q=>q
  rintro rfl;rcases hc with rfl | hc
  ·rw [hfree] at e; cases e
  ·rw [hfree] at hc; cases hc
 ·obtain ⟨_,f1,_,f3,f4,f5⟩:=hf b hb;exact ⟨f3,f1,f4,f5⟩
end
section
variable {prog:Program} {w:World} {A:Around} {R:Result->Shared->Prop} {s:Shared}
theorem CD {elt target iter:Expr} {ifs:List Expr} {scope:Scope} {pos:Pos} {it acc:Value} {env:Env} (I:Nat->Shared->Prop)
  (turn:∀ n s,I n s->wpAny (model prog w) A (pyNext it) (fun r Bb=>match r with
   | none=>R (.ok .next) Bb
   | some v=>wpAny (model prog w) A (letOwnedTupleGo target it v) (fun _ Lj=>wpAny (model prog w) A (assign target env v) (fun _ Ey=>
     wpAny (model prog w) A (forIn ifs true fun c r=>if r=true then do let ok <- isTrue c env (eval c env); pure (ForInStep.yield ok) else pure (ForInStep.yield r)) (fun ok Dl=>
      if ok=true then wpAny (model prog w) A (eval elt env) (fun x Qv=>
       wpAny (model prog w) A (call (.builtin "list.append") [acc,x]) (fun _ Qu=>∃ m,m < n/\I m Qu) (notedBy (model prog w) A env fun e s'=>R (.error e) s') Qv) (notedBy (model prog w) A env fun e s'=>R (.error e) s') Dl
      else ∃ m,m < n/\I m Dl) (notedBy (model prog w) A env fun e s'=>R (.error e) s') Ey) (notedBy (model prog w) A env fun e s'=>R (.error e) s') Lj) (notedBy (model prog w) A env fun e s'=>R (.error e) s') Bb) (notedBy (model prog w) A env fun e s'=>R (.error e) s') s)
  (n:Nat) (h:I n s) :
  codeAny (model prog w) A (.compLoop (.ListComp elt [⟨target,iter,ifs,0⟩] scope pos) 0 it acc env) R s:=by
 refine codeAny_loop rfl I (fun n s hI=>?_) n h;show wpAny _ A ((compTurn (.ListComp elt [⟨target,iter,ifs,0⟩] scope pos) 0 it acc env).onRaise (fun x=>do noteFrame x env; theTreesLotGoes x)) _ _ s
 refine wpAny_noted ?_;rw [compTurn_list];refine wpAny_bind (wpAny_standAt (wpAny_bind (wpAny_mono (turn n s hI) (fun r Bb h₁=>?_) fun _ _ h'=>h')));cases r with
 | none=>exact wpAny_pure h₁
 | some v=>
  refine wpAny_bind (wpAny_mono h₁ (fun _ Lj R8=>?_) fun _ _ h'=>h');refine wpAny_bind (wpAny_mono R8 (fun _ Ey Na=>wpAny_bind (wpAny_mono Na (fun ok Dl MZ=>?_) fun _ _ h'=>h')) fun _ _ h'=>h');cases ok with
  | false=>exact wpAny_pure ⟨rfl,MZ⟩
  | true=>
   exact wpAny_bind (wpAny_bind (wpAny_mono MZ (fun x Qv V4=>wpAny_bind (wpAny_mono V4 (fun _ Qu V3=>wpAny_pure (wpAny_pure ⟨rfl,V3⟩)) fun _ _ h'=>h')) fun _ _ h'=>h'))
end
def Ub (X:Cx) (ifs:List Expr) (t:TT):Prop:=
 ∀ ⦃pins:List (Addr × Obj)⦄ (s:Shared) (σ:St) (H:Hp) (Q:Bool->Hp->Prop),Au X pins σ H s->t σ H Q ->
  wpAny (model X.prog X.w) X.A (forIn ifs true fun c r=>if r=true then do let ok <- isTrue c X.env (eval c X.env); pure (ForInStep.yield ok) else pure (ForInStep.yield r)) (TP X pins σ Q) X.xe s
def Ke:TT:=fun _ H Q=>Q true H
theorem Bc {X:Cx}:Ub X [] Ke:=fun _ _ _ H _ I h=>wpAny_tests_nil ⟨H,I,h⟩
theorem HA {X:Cx} {c:Expr} {t:TT} (h:PT X c t):Ub X [c] t:=fun pins s σ H Q I q=>wpAny_tests_one (h (pins:=pins) s σ H Q I q)
def N2 (wi:TI) (g:TG) (tt:TT) (te:TE) (σ0:St->St):TE:=fun σ H Q=>wi σ H fun J H1=>∀ D,H1 D=none->∃ W:Nat->Nat->St->Hp->Prop,(∃ m,W 0 m (σ0 σ) (upd H1 D (.lst []))) /\
 ∀ i m A8 H',W i m A8 H'->(J.stop i H'/\Q (.ref D) H')\/(J.go i H'/\∀ x H2,J.yld i H' x H2->g x A8 H2 fun A9 H3=>tt A9 H3 fun b H4=>
  if b=true then te A9 H4 (fun v H5=>∃ acc,H5 D=some (.lst acc)/\acc.length < sizeLine/\∃ m',m' < m/\W (i + 1) m' A9 (upd H5 D (.lst (acc ++ [v])))) else ∃ m',m' < m/\W (i + 1) m' A9 H4)
theorem JO {X:Cx} {pins:List (Addr × Obj)} {s:Shared} {σ:St} {H:Hp} {Q:VK} {use:Option (Value->Sem Unit)} {QQ:Value->Shared->Prop} {pp:Pos} {tg iter elt:Expr} {ifs:List Expr} {scope:Scope} {cl:List (Str × Addr)} {N:List Str} {pos:Pos} {wi:TI} {g:TG} {tt:TT} {te:TE} {σ0:St->St} (hc:X.calm=true) (co:AE X scope cl)
  (hσ:∀ σ,σ.length=X.N.length->Ba X cl scope N σ (σ0 σ)) (hi:PI X tg iter wi)
  (hb:∀ s2 H C fp,PG (A4 X scope cl N s2 H C fp) tg g/\Ub (A4 X scope cl N s2 H C fp) ifs tt/\PE (A4 X scope cl N s2 H C fp) elt te)
  (hs:∀ x,foldedSetIterable iter X.env x=pure x) (I:Au X pins σ H s) (h:N2 wi g tt te σ0 σ H Q)
  (fin:∀ (s2 s5:Shared) (H2 H4:Hp) (fp:List Addr) (Hj:St) (C:Addr) (m5:Str->Option Value),Au X pins σ H2 s2->(∀ b ∈ fp,EG X pins H2 b)->s2.heap.objs.size<=C->Au (A4 X scope cl N s2 H2 C fp) [] Hj H4 s5->s5.heap.Ns C m5->Q (.ref s2.heap.objs.size) H4->compPost (model X.prog X.w) X.A X.xe use QQ (.ref s2.heap.objs.size) C (.ok .next) s5) :
  wpAny (model X.prog X.w) X.A (comprehension (.ListComp elt [⟨tg,iter,ifs,0⟩] scope pos) scope X.env pp (newList []) false (eval iter X.env) use) QQ X.xe s:=by
 refine wpAny_comprehension_free (use:=use) rfl hs co.clos co.kind co.names (wpAny_mono (hi (pins:=pins) s σ H _ I h) (fun xv s1 h1=>wpAny_mono h1 (fun itv s2 h2=>?_) fun _ _ e=>e) fun _ _ e=>e);obtain ⟨it,fp,tn,J,H2,rfl,I2,T,G5,f2,hW⟩:=h2;refine wpAny_newObj_type (wpAny_newFunctionEnv co.cell (by intro y hy; cases hy) (fun h₁ Ek Ej=>?_) co.kind);dsimp only at Ek Ej ⊢;generalize RG:s2.heap.push { cls:=.type "list",dict:=none,data:=.seq ([]:List Value).toArray } = HH at Ek Ej ⊢;have Dh:HH.objs.size=s2.heap.objs.size + 1:=by rw [<-RG,bx]
 have old:∀ b o,s2.heap.get? b=some o->h₁.get? b=some o:=fun b o e=>
  Ej.extBut b o (ao (by rw [Dh]; exact aN (ae e))) (ZT _ (RG ▸ ZT _ e))
 have newD:∃ n,h₁.get? s2.heap.objs.size=some { cls:=.type "list",data:=.seq ([]:List Value).toArray n }:=
  ⟨_,Ej.extBut _ _ (ao (by rw [Dh]; exact aU _)) (ZT _ (RG ▸ ah _ rfl))⟩
 obtain ⟨W,⟨m0,w0⟩,turn⟩:=hW s2.heap.objs.size I2.fresh;have hfo:∀ b ∈ fp,∃ o,s2.heap.get? b=some o:=fun b hb=>let ⟨o,e,_⟩:=T.obj _ _ G5 b hb; ⟨o,e⟩
 have I3:Au (A4 X scope cl N s2 H2 HH.objs.size fp) [] (σ0 σ) (upd H2 s2.heap.objs.size (.lst [])) { s2 with heap:=h₁,toks:=s2.toks + ([]:List (Str × Value)).length }:=
  Nm I2 f2 hfo co (hσ σ I.len) old (ZX _) (by rw [Dh]; exact aW _) (bA (by rw [Dh]; exact aU _)) (.inr newD) Ek
 have fC:s2.heap.objs.size<=HH.objs.size:=by rw [Dh]; exact aW _
 obtain ⟨hg,ht,he⟩:=hb s2 H2 HH.objs.size fp;have loop:∀ Dl:Shared,Dl = { s2 with heap:=h₁,toks:=s2.toks + ([]:List (Str × Value)).length } ->
   codeAny (model X.prog X.w) X.A (.compLoop (.ListComp elt [⟨tg,iter,ifs,0⟩] scope pos) 0 (.ref it) (.ref s2.heap.objs.size) (compEnvC scope cl HH.objs.size X.env))
    (compPost (model X.prog X.w) X.A X.xe use QQ (.ref s2.heap.objs.size) HH.objs.size) Dl:=by
  rintro Dl rfl;have stat:∀ {H':Hp} ,(∀ b ∈ fp,H' b=none)->∀ b ∈ fp,EG (A4 X scope cl N s2 H2 HH.objs.size fp) [] H' b:=fun hn b hb=>by
   refine ⟨hn b hb,?_,?_,.inl hb,?_,fun p hp=>by cases hp⟩
   ·obtain ⟨o,e⟩:=hfo b hb;exact ao (show b < HH.objs.size by rw [Dh]; exact aN (ae e))
   ·intro hz;obtain ⟨_,q1,q2,_⟩:=f2 b hb;rcases ZU.mp (I2.stkSub b hz) with e | e
    ·exact q1 e
    ·exact q2 e
   ·exact fun x c e=>(f2 b hb).2.2.2.2.1 x c (co.sub x c e)
  refine CD (fun n s'=>∃ i A8 H',Au (A4 X scope cl N s2 H2 HH.objs.size fp) [] A8 H' s'/\tn i s'.heap/\(∀ b ∈ fp,H' b=none)/\W i n A8 H') ?_ m0
   ⟨0,σ0 σ,_,I3,T.keep _ _ _ G5 fun b hb o e=>old b o e,fun b hb=>?_,w0⟩
  ·rintro n s4 ⟨i,Hj,H4,I4,N4,UB,w4⟩;rcases turn i n Hj H4 w4 with ⟨stop,qn⟩ | ⟨go,step⟩
   ·refine wpAny_mono (T.done (A4 X scope cl N s2 H2 HH.objs.size fp) rfl rfl rfl hc i [] s4 Hj H4 (fun _ _=>False) I4 (stat UB) N4 stop) (fun r s5 ⟨hr,I5⟩=>?_) fun _ _ z=>z.elim
    subst hr;obtain ⟨m5,Nf,_⟩:=id I5.loc;exact fin _ _ _ _ _ _ _ _ I2 f2 fC I5 Nf qn
   ·refine wpAny_mono (T.item (A4 X scope cl N s2 H2 HH.objs.size fp) rfl rfl rfl hc i [] s4 Hj H4 (fun _ _=>False) I4 (stat UB) N4 go) (fun r s5 ⟨u,hr,h5⟩=>?_) fun _ _ z=>z.elim
    subst hr;refine wpAny_mono h5 (fun _ s6 ⟨x,H6,I6,r6,y6,Qx,X0⟩=>?_) fun _ _ z=>z.elim
    have XU:=I6.pinned (stat X0) (T.obj _ _ Qx);refine wpAny_mono (hg s6 Hj H6 x u _ XU r6 (step x H6 y6)) (fun _ s7 ⟨Hi,H7,I7,q7⟩=>?_) fun _ _ z=>z.elim
    refine wpAny_mono (ht s7 Hi H7 _ I7 q7) (fun ok s8 ⟨H8,I8,q8⟩=>?_) fun _ _ z=>z.elim
    have again:∀ {s9:Shared} {Nw:St} {H9:Hp} ,Au (A4 X scope cl N s2 H2 HH.objs.size fp) ([] ++ Fl fp s6.heap) Nw H9 s9->(∃ m',m' < n/\W (i + 1) m' Nw H9)->∃ m,m < n/\∃ i A8 H',Au (A4 X scope cl N s2 H2 HH.objs.size fp) [] A8 H' s9/\tn i s9.heap/\(∀ b ∈ fp,H' b=none)/\W i m A8 H':=fun {s9 Nw H9} I9 n9=>by
     obtain ⟨m',hm,w9⟩:=n9;refine ⟨m',hm,i + 1,Nw,H9,I9.unpinned,T.keep _ _ _ Qx fun b hb o e=>(I9.pin (b,o) (aw _ (aw _ (BN hb e)))).1,fun b hb=>?_,w9⟩;obtain ⟨o,e,d⟩:=T.obj _ _ Qx b hb;exact (I9.pin (b,o) (aw _ (aw _ (BN hb e)))).2.1
    cases ok with
    | false=>
     rw [if_neg az] at q8 ⊢;exact again I8 q8
    | true=>
     rw [if_pos rfl] at q8 ⊢;refine wpAny_mono (he s8 Hi H8 _ I8 q8) (fun y s9 ⟨v,H9,I9,r9,acc,hacc,hsz,q9⟩=>?_) fun _ _ z=>z.elim
     refine wpAny_mono (CV (X:=A4 X scope cl N s2 H2 HH.objs.size fp) s9 Hi H9 (.ref s2.heap.objs.size) [v] (.ref s2.heap.objs.size) [y] (fun _ Mr=>∃ m',m' < n/\W (i + 1) m' Hi Mr) I9 rfl (.cons r9 .nil) ⟨_,acc,v,rfl,rfl,hacc,hsz,q9⟩) (fun _ NO ⟨_,Mr,XX,_,W9⟩=>?_) fun _ _ z=>z.elim
     exact again XX W9
  ·have z:=(f2 b hb).1;obtain ⟨o,e⟩:=hfo b hb;rw [Ae (ao (ae e))];exact z
 exact codeAny_compStart_list (loop _ rfl) (T.self _ 0 _ _ _ (T.keep _ _ _ G5 fun b hb o e=>old b o e) (loop _ rfl))
theorem Bt {X:Cx} {tg iter elt:Expr} {ifs:List Expr} {scope:Scope} {cl:List (Str × Addr)} {N:List Str} {pos:Pos} {wi:TI} {g:TG} {tt:TT} {te:TE} {σ0:St->St} (hc:X.calm=true) (co:AE X scope cl)
  (hσ:∀ σ,σ.length=X.N.length->Ba X cl scope N σ (σ0 σ)) (hi:PI X tg iter wi)
  (hb:∀ s2 H C fp,PG (A4 X scope cl N s2 H C fp) tg g/\Ub (A4 X scope cl N s2 H C fp) ifs tt/\PE (A4 X scope cl N s2 H C fp) elt te)
  (hs:∀ x,foldedSetIterable iter X.env x=pure x:=by intro _; rfl):PE X (.ListComp elt [⟨tg,iter,ifs,0⟩] scope pos) (N2 wi g tt te σ0):=by
 intro pins s σ H Q I h;rw [eval_ListComp];exact JO hc co hσ hi hb hs I h fun s2 s5 H2 H4 fp Hj C m5 I2 f2 fC I5 Nf qn=>⟨m5,Nf,fun h' Sk=>⟨.ref _,H4,IK I2 f2 fC I5 Sk,rfl,qn⟩⟩
theorem Df {α:Type}:∀ {l:List (Str × α)} {x:Str} {k:α},l.lookup x=some k->(x,k) ∈ l
 | [],_,_,h=>by cases h
 | (n,v) :: r,x,k,h=>by
  rw [dF] at h;by_cases e:x=n
  ·subst e;simp at h;subst h;exact aJ
  ·have:(x == n)=false:=beq_eq_false_iff_ne.mpr e;rw [this] at h;exact aA _ (Df h)
theorem AE.plain {X:Cx} {scope:Scope} (hfree:∀ x ∈ scope.names,x.2 ≠ .free) (hcell:∀ y ∈ scope.names,y.2 ≠ .cell) (hkind:scope.kind=.function)
  (hnames:∀ y ∈ scope.names,y.2=.local->scope.names.lookup y.1=some .local):AE X scope []:=by
 refine ⟨closureFor_none hfree,hcell,hkind,hnames,fun x c h=>(by cases h),fun x h=>?_⟩;have key:∀ k,(relabel scope X.env).names.lookup x=some k->∃ y ∈ scope.names,y.2=k:=by
  intro k e;have m:=Df e;obtain ⟨⟨n,k'⟩,hm,e'⟩:=ZZ.mp m;have hf:=hfree _ hm;have:(k' == NameKind.free)=false:=by
   cases k' <;> first | rfl | exact absurd rfl hf
  dsimp only at e';rw [this] at e';simp at e';exact ⟨_,hm,e'.2⟩
 rcases h with h | h
 ·obtain ⟨y,hy,e⟩:=key _ h;exact absurd e (hcell y hy)
 ·obtain ⟨y,hy,e⟩:=key _ h;exact absurd e (hfree y hy)
def LQ (c:Nat):Bool:=decide (97<=c) && decide (c<=122)
def BI (t:Str):Bool:=decide (1<=t.length) && decide (t.length<=6) && t.cps.toList.all LQ
theorem Af {H:Hp} {p:Addr} {o:HO} (h:H p=none):AD H (upd H p o):=fun b u e=>by
 rw [Ae (Ah e h)];exact e
mutual
inductive Jd (H:Hp):V->PyData->Prop
 | non:Jd H .non .none
 | bl (b:Bool):Jd H (.bl b) (.bool b)
 | int (i:Int):Jd H (.int i) (.int i)
 | str (x:Str):Jd H (.str x) (.str x)
 | tup {a:Addr} {vs:List V} {ds:List PyData}:H a=some (.tup vs)->AM H vs ds->Jd H (.ref a) (.tuple ds)
 | lst {a:Addr} {vs:List V} {ds:List PyData}:H a=some (.lst vs)->AM H vs ds->Jd H (.ref a) (.list ds)
inductive AM (H:Hp):List V->List PyData->Prop
 | nil:AM H [] []
 | cons {v:V} {vs:List V} {d:PyData} {ds:List PyData}:Jd H v d->AM H vs ds->AM H (v :: vs) (d :: ds)
end
mutual
theorem Jd.mono {H H':Hp} (s:∀ a o,H a=some o->(∃ vs,o=.tup vs\/o=.lst vs)->H' a=some o):∀ {v:V} {d:PyData},Jd H v d->Jd H' v d
 | _,_,.non=>.non
 | _,_,.bl b=>.bl b
 | _,_,.int i=>.int i
 | _,_,.str x=>.str x
 | _,_,.tup e r=>.tup (s _ _ e ⟨_,.inl rfl⟩) (AM.mono s r)
 | _,_,.lst e r=>.lst (s _ _ e ⟨_,.inr rfl⟩) (AM.mono s r)
theorem AM.mono {H H':Hp} (s:∀ a o,H a=some o->(∃ vs,o=.tup vs\/o=.lst vs)->H' a=some o):∀ {vs:List V} {ds:List PyData},AM H vs ds->AM H' vs ds
 | _,_,.nil=>.nil
 | _,_,.cons x r=>.cons (Jd.mono s x) (AM.mono s r)
end
mutual
theorem Jd.reads {X:Cx} {pins:List (Addr × Obj)} {σ:St} {H:Hp} {s:Shared} (I:Au X pins σ H s):∀ {v:V} {d:PyData} {u:Value},Jd H v d->AF v u->∃ as,Reads s.heap u d as
 | _,_,_,.non,r=>by cases r; exact ⟨_,.none⟩
 | _,_,_,.bl b,r=>by cases r; exact ⟨_,.bool b⟩
 | _,_,_,.int i,r=>by obtain ⟨t,rfl⟩:=r; exact ⟨_,.int i t⟩
 | _,_,_,.str x,r=>by obtain ⟨t,rfl⟩:=r; exact ⟨_,.str x t⟩
 | _,_,_,.tup (a:=a) e m,r=>by
  cases r
  obtain ⟨_,Az,rv,⟨o,ho,hc,n,hd⟩,_⟩:=(show AU X.prog X.w H s.heap a (.tup _) from I.hok a _ e)
  obtain ⟨as,q⟩:=AM.reads I m rv;exact ⟨_,.tuple ho hc hd (by simpa using q)⟩
 | _,_,_,.lst (a:=a) e m,r=>by
  cases r
  obtain ⟨_,Az,n,rv,ho⟩:=(show AU X.prog X.w H s.heap a (.lst _) from I.hok a _ e)
  obtain ⟨as,q⟩:=AM.reads I m rv;exact ⟨_,.list ho rfl rfl (by simpa using q)⟩
theorem AM.reads {X:Cx} {pins:List (Addr × Obj)} {σ:St} {H:Hp} {s:Shared} (I:Au X pins σ H s):∀ {vs:List V} {ds:List PyData} {us:List Value},AM H vs ds->A3 vs us->∃ as,ReadsAll s.heap us ds as
 | _,_,_,.nil,r=>by cases r; exact ⟨_,.nil⟩
 | _,_,_,.cons x m,r=>by
  cases r with
  | cons r1 r2=>
   obtain ⟨as,q1⟩:=Jd.reads I x r1;obtain ⟨bs,q2⟩:=AM.reads I m r2;exact ⟨_,.cons q1 q2⟩
end
theorem OV {X:Cx} (hu:X.A.units + 64 < cLine):F1 X (compareOp .Eq) (fun x y H Q=>∃ d e,Jd H x d/\Jd H y e/\d.canLay0=true/\e.canLay0=true/\d.depth<=60/\Q (.bl (PyData.eqv d e)) H):=by
 intro pins s σ H x y v u Q I rx ry h;obtain ⟨d,e,h1,h2,c1,c2,hd,q⟩:=h;obtain ⟨as,r1⟩:=h1.reads I rx;obtain ⟨bs,r2⟩:=h2.reads I ry;exact SeqAt.compareEq_reads r1 r2 c1 c2 (by have:=Nat.min_le_left d.depth e.depth; lia) ⟨.bl _,H,I,rfl,q⟩
theorem R7 (z:Str) (xs:List Str):Wr (.str z) (xs.map V.str)=decide (z ∈ xs):=by
 unfold Wr;induction xs with
 | nil=>simp
 | cons x xs ih=>
  rw [au,de,ih];have e:T9 (.str x) (.str z)=decide (z=x):=by
   show (x == z)=_
   by_cases h:z=x
   ·subst h; simp
   ·have h':¬ x=z:=fun q=>h q.symm
    rw [decide_eq_false h];exact beq_eq_false_iff_ne.mpr h'
  rw [e];by_cases h:z=x
  ·simp [h]
  ·by_cases h2:z ∈ xs <;> simp [h,h2]
theorem Pt (xs:List Str):(xs.map V.str).all FQ=true:=by
 rw [List.all_map];exact cZ.mpr fun _ _=>rfl
def Bd (p:Addr) (H H':Hp):Prop:=∀ b o,b ≠ p->H b=some o->H' b=some o
theorem Bd.trans {p:Addr} {H H1 H2:Hp} (a:Bd p H H1) (b:Bd p H1 H2):Bd p H H2:=fun c o n e=>b c o n (a c o n e)
theorem Bd.of_same {p:Addr} {H H':Hp} (s:AD H H'):Bd p H H':=fun b o _ e=>s b o e
theorem Bd.upd {p:Addr} {H:Hp} {o:HO}:Bd p H (L2.upd H p o):=fun b u n e=>by rw [Ae n]; exact e
def TZ (K:ZV) (H:Hp) (a:Addr) (xs:List V):Prop:=(∃ ob,H a=some (.frz ob (.lst xs)))\/∃ o Az n,List.lookup a K=some o/\o.cls=Value.type "list"/\o.dict=none/\o.data=Data.seq Az n/\Az.size<=sizeLine/\A3 xs Az.toList
theorem TZ.sq {K:ZV} {H:Hp} {a:Addr} {xs:List V} (h:TZ K H a xs):AV K H a xs:=by
 rcases h with ⟨ob,h⟩ | h
 ·exact .inl (.inr ⟨ob,h⟩)
 ·exact .inr h
theorem TZ.same {K:ZV} {H H':Hp} {a:Addr} {xs:List V} (h:TZ K H a xs) (s:AD H H'):TZ K H' a xs:=by
 rcases h with ⟨ob,h⟩ | h
 ·exact .inl ⟨ob,s _ _ h⟩
 ·exact .inr h
theorem UG {ns:List Int} {i:Int} (h0:0<=i) (h1:i < ns.length):∃ c,Ff (ns.map V.int) i=some (V.int c):=by
 obtain ⟨n,rfl⟩:∃ n:Nat,i=(n:Int):=⟨i.toNat,by lia⟩
 have hn:n < ns.length:=by lia
 exact ⟨ns[n],Cs (by rw [ai,ZS hn]; rfl)⟩
theorem KL {α:Type} {l:List α} {i:Int} {c:α} (h:Ff l i=some c):c ∈ l:=by
 obtain ⟨j,_,h2,_⟩:=HG h;exact ZW h2
abbrev C7:Str:="abcdefghijklmnopqrstuvwxyz"
theorem EC:∀ c ∈ C7.cps.toList,LQ c=true:=by decide +kernel
def RY (z:Str):Prop:=∀ c ∈ z.cps.toList,LQ c=true
theorem Th {x:Str} {c:Nat} (h:RY x) (hc:LQ c=true):RY (x ++ ⟨#[c]⟩):=by
 intro k hk;have e:(x ++ (⟨#[c]⟩:Str)).cps.toList=x.cps.toList ++ [c]:=by
  rw [Str.cps_append];simp
 rw [e] at hk;rcases aG.mp hk with h' | h'
 ·exact h k h'
 ·rw [ar.mp h']; exact hc
theorem Rr {z:Str} (h1:1<=z.length) (h2:z.length<=6) (h:RY z):BI z=true:=by
 unfold BI;rw [decide_eq_true h1,decide_eq_true h2,cZ.mpr h];rfl
theorem Ry {z:Str} (h:BI z=true):1<=z.length/\z.length<=6/\RY z:=by
 unfold BI at h;rw [b9,b9,decide_eq_true_eq,decide_eq_true_eq,cZ] at h;exact ⟨h.1.1,h.1.2,h.2⟩
theorem BY {α:Type} [BEq α] [LawfulBEq α]:∀ {l xs:List α},l.Nodup->(∀ x ∈ l,x ∈ xs)->l.length<=xs.length
 | [],_,_,_=>aH _
 | a :: l,xs,hn,hs=>by
  have ha:=hs a aJ;have Ym:=br.mp hn;have:=BY (l:=l) (xs:=xs.erase a) Ym.2 fun x hx=>(gi (show x ≠ a from fun e=>Ym.1 (by rw [<-e]; exact hx))).mpr (hs x (aA _ hx))
  rw [List.length_erase_of_mem ha] at this;have:0 < xs.length:=List.length_pos_of_mem ha;rw [aK];lia
theorem Gy (H:Hp):∀ xs:List Str,AM H (xs.map V.str) (xs.map .str)
 | []=>.nil
 | x :: xs=>.cons (.str x) (Gy H xs)
theorem LR:∀ {xs:List Str},(∀ x ∈ xs,BI x=true)->PyData.canLayAll0 (xs.map .str)=true
 | [],_=>rfl
 | x :: xs,h=>by
  show (PyData.strOk x && PyData.canLayAll0 (xs.map .str))=true
  rw [LR fun y hy=>h y (aA _ hy),gK];obtain ⟨_,_,lo⟩:=Ry (h x aJ);unfold PyData.strOk;rw [Array.all_eq_true_iff_forall_mem];intro c hc;have:=lo c (by simpa using hc);unfold LQ at this;rw [b9,decide_eq_true_eq,decide_eq_true_eq] at this;rw [decide_eq_true_eq];lia
theorem AE.caught {X:Cx} {scope:Scope} {cl:List (Str × Addr)} (clos:closureFor scope X.env=pure cl) (hcell:∀ y ∈ scope.names,y.2 ≠ .cell) (hkind:scope.kind=.function)
  (hnames:∀ y ∈ scope.names,y.2=.local->scope.names.lookup y.1=some .local) (hcl:∀ y ∈ cl,X.env.cells.lookup y.1=some y.2)
  (hfr:∀ y ∈ scope.names,y.2=.free->∃ c,cl.lookup y.1=some c):AE X scope cl:=by
 refine ⟨clos,hcell,hkind,hnames,fun x c h=>hcl _ (Df h),fun x h=>?_⟩;have key:∀ k,(relabel scope X.env).names.lookup x=some k->k=.cell\/k=.free->∃ c,cl.lookup x=some c:=by
  intro k e hk;have m:=Df e;obtain ⟨⟨n,k'⟩,hm,e'⟩:=ZZ.mp m;dsimp only at e';by_cases hf:k'=.free
  ·subst hf;have en:n=x:=by
    by_cases hc:(NameKind.free == NameKind.free && X.env.scope.kind == .function && X.env.kindOf n == some .cell)=true
    ·rw [if_pos hc] at e';injection e'
    ·rw [if_neg hc] at e';injection e'
   subst en;exact hfr _ hm rfl
  ·have:(k' == NameKind.free)=false:=by
    cases k' <;> first | rfl | exact absurd rfl hf
   rw [this] at e';simp at e';rcases hk with hk | hk
   ·exact absurd (e'.2.trans hk) (hcell _ hm)
   ·exact absurd (e'.2.trans hk) hf
 rcases h with h | h
 ·exact key _ h (.inl rfl)
 ·exact key _ h (.inr rfl)
theorem Ba.of {X:Cx} {cl:List (Str × Addr)} {scope:Scope} {N:List Str} {σ:St} (js:List (Option Nat)) (hl:js.length=N.length)
  (h:∀ (i j:Nat) (x:Str),N[i]? = some x->js[i]? = some (some j)->X.N[j]? = some x/\(X.env.kindOf x=some .cell\/X.env.kindOf x=some .free)/\((relabel scope X.env).names.lookup x=some .cell\/(relabel scope X.env).names.lookup x=some .free)) :
  Ba X cl scope N σ (js.map fun j=>j.bind fun j=>(σ[j]?).join):=by
 refine ⟨by rw [ZR,hl],fun i x v h1 h2=>?_⟩;rw [ai] at h2;cases e:js[i]? with
 | none=>rw [e] at h2; cases h2
 | some o=>
  rw [e] at h2;cases o with
  | none=>cases h2
  | some j=>
   obtain ⟨a,b,c⟩:=h i j x h1 e;refine ⟨⟨j,a,?_⟩,b,c⟩;have h3:(σ[j]?).join=some v:=aI.inj h2;cases e2:σ[j]? with
   | none=>rw [e2] at h3; cases h3
   | some o=>
    rw [e2] at h3;have:o=some v:=h3;rw [this]
abbrev AI:=Str × Str × Int
def DC (u:AI):PyData:=.tuple [.str u.1,.str u.2.1,.int u.2.2]
def Ms (u v:AI):Prop:=(u.1=v.1/\u.2.1=v.2.1)\/(u.1=v.2.1/\u.2.1=v.1)
theorem Il {xs:List Str} (h:xs.Nodup) {i j:Nat} {x:Str} (a:xs[i]? = some x) (b:xs[j]? = some x):i=j:=Ik h a b
def Mn (xs:List Str) (ws:List AI):Prop:=(∀ u ∈ ws,u.1 ∈ xs/\u.2.1 ∈ xs/\u.1 ≠ u.2.1/\1<=u.2.2)/\(ws.Pairwise fun u v=>¬ Ms u v) /\
 ∀ j,0 < j->j < xs.length->∃ u ∈ ws,∃ i:Nat,i < j/\xs[i]? = some u.1/\xs[j]? = some u.2.1
theorem FR {H:Hp}:∀ {vs:List V} {ds:List PyData},AM H vs ds->vs.length=ds.length
 | _,_,.nil=>rfl
 | _,_,.cons _ r=>by rw [aK,aK,FR r]
theorem DN {H:Hp}:∀ {vs:List V} {ws:List AI} {i:Nat} {x:V},AM H vs (ws.map DC)->vs[i]? = some x->∃ u t,ws[i]? = some u/\x=.ref t/\H t=some (.tup [.str u.1,.str u.2.1,.int u.2.2])
 | _,[],i,x,.nil,e=>by cases e
 | _,u :: ws,0,x,.cons (v:=v) h _,e=>by
  have e':v=x:=by simpa using e
  subst e';cases h with
  | tup ha hd=>
   refine ⟨u,_,rfl,rfl,?_⟩;cases hd with
   | cons h1 r1=>
    cases r1 with
    | cons h2 r2=>
     cases r2 with
     | cons h3 r3=>
      cases r3
      cases h1
      cases h2
      cases h3
      exact ha
 | _,u :: ws,i + 1,x,.cons _ r,e=>by
  obtain ⟨u',t,a,b⟩:=DN (i:=i) (x:=x) r (by simpa using e);exact ⟨u',t,by simpa using a,b⟩
theorem BO {H:Hp}:∀ {vs us:List V} {ds es:List PyData},AM H vs ds->AM H us es->AM H (vs ++ us) (ds ++ es)
 | _,_,_,_,.nil,h=>h
 | _,_,_,_,.cons a r,h=>.cons a (BO r h)
theorem RU {xs:List Str} {i:Int} (h0:0<=i) (h1:i < xs.length):∃ x,Ff (xs.map V.str) i=some (.str x)/\xs[i.toNat]? = some x:=by
 obtain ⟨n,rfl⟩:∃ n:Nat,i=(n:Int):=⟨i.toNat,by lia⟩
 have hn:n < xs.length:=by lia
 exact ⟨xs[n],Cs (by rw [ai,ZS hn]; rfl),ZS hn⟩
theorem A7 (K:ZV) {X:Cx} (h:X.K=K):Wz X (rIxL K):=by subst h; exact CS
theorem Ai (K:ZV) {X:Cx} (h:X.K=K):Wz X (rIxT K):=by subst h; exact MX
theorem Vp (K:ZV) {X:Cx} (h:X.K=K):F1 X (compareOp .In) (rIn K false):=by subst h; exact OU
theorem BH (K:ZV) {X:Cx} (h:X.K=K) {es:List Expr} {k:Nat} {t:So} {n:Nat} {pos:Pos} (hc:X.calm=true) (ht:Wx X es t)
  (hn:(assignEach es X.env).length=n:=by rfl) (hst:(assignEach es X.env).findIdx? (·.1)=none:=by rfl):PG X (.Tuple es k pos) (gTup K n t):=by subst h; exact Rg hc ht hn hst
end L2
namespace L2
open PySem PySem.W PyProof.Rows
section
variable {n:Nat} (hn:0 < n)
include hn
end
end L2
namespace L2
open PySem PySem.Spec PyProof.Rows PySem.W
theorem AU.there {P:Program} {w:World} {H:Hp} {h:Heap} {a:Addr} {o:HO} (x:AU P w H h a o):∃ ob,h.get? a=some ob:=by
 cases o with
 | lst xs=>obtain ⟨_,_,_,_,e⟩:=x; exact ⟨_,e⟩
 | tup xs=>obtain ⟨_,_,_,⟨ob,e,_⟩,_⟩:=x; exact ⟨ob,e⟩
 | dK kvs=>obtain ⟨_,_,_,_,o,_,_,e,_⟩:=x; exact ⟨o,e⟩
 | dT kvs=>obtain ⟨_,_,_,_,o,_,_,e,_⟩:=x; exact ⟨o,e⟩
 | set S n=>obtain ⟨o,_,_,_,e,_⟩:=x; exact ⟨o,e⟩
 | ins C dx fs=>obtain ⟨_,_,_,e,_⟩:=x; exact ⟨_,e⟩
 | own y=>exact x
 | xd fs=>obtain ⟨_,⟨_,_,_,e,_⟩,_⟩:=x; exact ⟨_,e⟩
 | rng lo hi=>obtain ⟨_,_,_,e⟩:=x; exact ⟨_,e⟩
 | frz ob u=>obtain ⟨e,_⟩:=x; exact ⟨_,e⟩
 | tbl ps=>exact ⟨_,(show h.get? a=some _ from x)⟩
 | met f y=>exact ⟨_,(show h.get? a=some _ from x)⟩
 | ext φ=>obtain ⟨_,⟨_,e⟩,_⟩:=x; exact ⟨_,e⟩
theorem Au.laidF {X:Cx} {pins:List (Addr × Obj)} {σ:St} {H:Hp} {s:Shared} {h2:Heap} {D:Addr} {o:HO} {m:Str->Option Value} (I:Au X pins σ H s)
  (hl:s.heap.Ns X.env.locals m/\∀ (i:Nat) (x:Str) (v:V),X.N[i]? = some x->σ[i]? = some (some v)->Vis X.env.scope x->∃ u,AF v u/\Look X.env s.heap m x u) (hn:h2.Ns X.env.locals m)
  (kp:∀ b ob,b ≠ X.env.locals->s.heap.get? b=some ob->h2.get? b=some ob) (hD:s.heap.get? D=none) (hDL:D ≠ X.env.locals) (new:AU X.prog X.w (upd H D o) h2 D o):Au X pins σ (upd H D o) { s with heap:=h2 }:=by
 have fD:H D=none:=by
  cases z:H D with
  | none=>rfl
  | some u=>
   obtain ⟨ob,e⟩:=AU.there (I.hok D u z);rw [hD] at e;cases e
 have neL:∀ b ob,X.s₀.heap.get? b=some ob->b ≠ X.env.locals:=fun b ob e=>ao (ak (ae e) I.ok.above)
 have neD:∀ b ob,s.heap.get? b=some ob->b ≠ D:=fun b ob e z=>by rw [z,hD] at e; cases e
 have cellK:∀ x c,X.env.cells.lookup x=some c->∀ v,s.heap.IsCell c v->h2.IsCell c v:=fun x c e v ⟨ob,ho,hd⟩=>⟨ob,kp c ob (I.cne x c e) ho,hd⟩
 refine ⟨I.ok,I.os,I.bare,⟨?_,?_,?_,?_,?_,?_,?_⟩,⟨m,hn,?_⟩,?_,?_,?_,?_,?_,I.len⟩
 ·exact fun b ob e n hb hx=>kp b ob (neL b ob e) (I.base.keep b ob e n hb hx)
 ·intro b ob e n hb hx;obtain ⟨sl,q⟩:=I.base.slot b ob e n hb hx;exact ⟨sl,kp b _ (neL b ob e) q⟩
 ·intro b ob e n hx;obtain ⟨Yi,q⟩:=I.base.there b ob e hx;rw [Ae (neD b Yi q)];exact I.base.free b ob e n hx
 ·intro b ob e hx;obtain ⟨Yi,q⟩:=I.base.there b ob e hx;exact ⟨Yi,kp b Yi (neL b ob e) q⟩
 ·intro b xs e;have q:=I.base.tups b xs e;rw [Ae (Ah q fD)];exact q
 ·intro b ob u e;have q:=I.base.frzs b ob u e;rw [Ae (Ah q fD)];exact q
 ·intro b ps e;obtain ⟨more,q⟩:=I.base.tbls b ps e;exact ⟨more,by rw [Ae (Ah q fD)]; exact q⟩
 ·intro i x v e1 e2 e3;obtain ⟨u,r,l⟩:=hl.2 i x v e1 e2 e3;refine ⟨u,r,?_⟩;rcases l with l | ⟨k,c,e,z⟩
  ·exact .inl l
  ·exact .inr ⟨k,c,e,cellK x c e _ z⟩
 ·intro x c e;obtain ⟨v,z⟩:=I.cell x c e;exact ⟨v,cellK x c e v z⟩
 ·rw [Ae (Ne.symm hDL)];exact I.free
 ·intro x c e;obtain ⟨v,ob,ho,_⟩:=I.cell x c e;rw [Ae (neD c ob ho)];exact I.freeC x c e
 ·intro p hp;obtain ⟨e,n,ne,nf,d⟩:=I.pin p hp;exact ⟨kp _ _ ne e,by rw [Ae (neD _ _ e)]; exact n,ne,nf,d⟩
 ·intro b u e;by_cases hb:b=D
  ·subst hb;rw [Ab] at e;cases e
   exact new
  ·rw [Ae hb] at e;refine (I.hok b u e).stay (fun c v hc q=>kp c v ?_ q) (fun c q=>by rw [Ae (Ah q fD)]; exact q) fun c xs q=>by rw [Ae (Ah q fD)]; exact q
   rintro rfl;rcases hc with rfl | hc
   ·rw [I.free] at e; cases e
   ·rw [I.free] at hc; cases hc
end L2
namespace L2
open PySem PySem.Spec PyProof.Rows
section
variable {prog:Program} {w:World} {A:Around} {E:Value->Shared->Prop} {s:Shared}
end
def MR (a b:Str):Str:=if b.cps.toList < a.cps.toList then b else a
def MS (a b:Str):Str:=if a.cps.toList < b.cps.toList then b else a
theorem S8 {ss:List Str}:∀ {us:List Value},A3 (ss.map V.str) us->StrsAre us ss:=by
 induction ss with
 | nil=>intro us r; cases r; exact .nil
 | cons x ss ih=>
  intro us r;cases r with
  | cons r1 r2=>
   obtain ⟨t,rfl⟩:=r1;exact .cons x t (ih r2)
theorem Kz:∀ {us:List Value} {ss:List Str},StrsAre us ss->A3 (ss.map V.str) us
 | _,_,.nil=>.nil
 | _,_,.cons x t r=>.cons ⟨t,rfl⟩ (Kz r)
theorem G2 {X:Cx}:Bp X (.builtin "sorted") (fun xs H Q=>∃ (a:Addr) (ss:List Str),xs=[.ref a]/\AV X.K H a (ss.map V.str)/\ss.length < 64 /\
  ∀ (l:Addr) (KU:List Str),H l=none->KU.Perm ss->sortedS KU=true->Q (.ref l) (upd H l (.lst (KU.map V.str)))):=by
 intro pins s σ H xs us Q I r h;obtain ⟨a,ss,rfl,ha,Jm,q⟩:=h;obtain ⟨u,rfl,ru⟩:=Cd r;cases ru
 obtain ⟨Az,rv,pl,hz⟩:=I.list ha;have hl:Az.length=ss.length:=by rw [<-rv.length,ZR]
 refine sorted_strs pl.isList (S8 rv) (by lia) fun out KU h1 h2 h3=>?_
 obtain ⟨e,he⟩:=sortedAll_at s.heap Az out;refine ⟨.ref (s.heap.objs.size + 1),_,I.laid (o:=.lst (KU.map V.str)) (t':=s.toks) (fun b o z=>sortedAll_old z) (aW _) ⟨?_,out.toList,e,Kz h1,by simpa using he⟩,rfl,q _ KU (I.hok.fresh (aW _)) h2 h3⟩;rw [ZR,h2.length_eq];have:100 < sizeLine:=by decide
 lia
end L2
namespace L2
open PySem PySem.Spec PySem.W PyProof.Rows
theorem EM {vs:List Value} {p:Keyed} (h:p ∈ (pairsOf vs).toList):p=(p.2,p.2)/\p.2 ∈ vs:=by
 rw [pairsOf_toList] at h;obtain ⟨e,m⟩:=mem_zip_self h;refine ⟨?_,e ▸ m⟩;obtain ⟨x,y⟩:=p;exact Prod.ext e rfl
theorem OS (vs:List Value):(pairsOf vs).toList.map (·.2)=vs:=by
 rw [pairsOf_toList];induction vs with
 | nil=>rfl
 | cons v vs ih=>rw [List.zip_cons_cons,au,ih]
theorem Ie {vs:List Value} {xs:Array Keyed} (h:xs.Perm (pairsOf vs)):(xs.toList.map (·.2)).Perm vs:=by
 have q:=(cB.mp h).map (·.2);rw [OS] at q;exact q
theorem Rl {lt:Keyed->Keyed->Bool} {vs:List Value} {xs:Array Keyed} (h:xs.Perm (pairsOf vs)) (hs:xs.toList.Pairwise (Nl lt)):(xs.toList.map (·.2)).Pairwise (fun u v=>lt (v,v) (u,u)=false):=by
 rw [bX];refine hs.imp_of_mem fun {p q} hp hq n=>?_
 have e1:=(EM ((cB.mp h).mem_iff.mp hp)).1;have e2:=(EM ((cB.mp h).mem_iff.mp hq)).1;rw [<-e1,<-e2];exact n
section
variable {prog:Program} {w:World} {A:Around} {E:Value->Shared->Prop} {s:Shared} {lt:Keyed->Keyed->Bool}
def Wi (prog:Program) (w:World) (s:Shared) (lt:Keyed->Keyed->Bool) (vs:List Value):Prop:=
 2<=vs.length->∀ (A:Around) (h':Heap),(∀ b o,s.heap.get? b=some o->h'.get? b=some o) ->
  ∃ κ,(∀ (Q:SortKind->Shared->Prop) (E:Value->Shared->Prop),Q κ { s with heap:=h' }->wpAny (model prog w) A (keyKind' vs.toArray) Q E { s with heap:=h' })/\KS prog w A { s with heap:=h' } κ lt (pairsOf vs)
end
inductive C3 where
 | i (n:Int)
 | s (x:Str)
 deriving DecidableEq
def CL:C3->C3->Bool
 | .i a,.i b=>decide (a < b)
 | .s a,.s b=>decide (a.cps.toList < b.cps.toList)
 | .i _,.s _=>true
 | .s _,.i _=>false
def AN:List C3->List C3->Bool
 | [],[]=>false
 | [],_ :: _=>true
 | _ :: _,[]=>false
 | x :: xs,y :: ys=>if x=y then AN xs ys else CL x y
theorem TR (a:C3):CL a a=false:=by
 cases a with
 | i n=>simp [CL]
 | s x=>exact strKind.irrefl x.cps.toList
theorem TN:∀ {a b c:C3},CL a b=true->CL b c=true->CL a c=true
 | .i a,.i b,.i c,h1,h2=>by
  simp only [CL,decide_eq_true_eq] at h1 h2 ⊢;lia
 | .i _,.i _,.s _,_,_=>rfl
 | .i _,.s _,.s _,_,_=>rfl
 | .i _,.s _,.i _,_,h=>by cases h
 | .s _,.i _,_,h,_=>by cases h
 | .s _,.s _,.i _,_,h=>by cases h
 | .s x,.s y,.s z,h1,h2=>strKind.trans x.cps.toList y.cps.toList z.cps.toList h1 h2
theorem TQ {a b:C3} (h:a ≠ b):CL a b=true\/CL b a=true:=by
 cases a <;> cases b <;> simp [CL]
 ·have:∀ x y:Int,C3.i x ≠ C3.i y->x < y\/y < x:=fun x y h=>by
   have:x ≠ y:=fun e=>h (by rw [e])
   lia
  exact this _ _ h
 ·rename_i x y
  by_cases h1:x.cps.toList < y.cps.toList
  ·exact .inl h1
  ·by_cases h2:y.cps.toList < x.cps.toList
   ·exact .inr h2
   ·exfalso
    apply h;have e:=strKind.total x.cps.toList y.cps.toList (decide_eq_false h1) (decide_eq_false h2);cases x
    cases y
    rw [cV] at e;subst e;rfl
theorem FK:∀ a,AN a a=false
 | []=>rfl
 | x :: xs=>by unfold AN; rw [if_pos rfl]; exact FK xs
theorem Wb {a b:C3} (h:CL a b=true):a ≠ b:=fun e=>by
 rw [e,TR] at h;cases h
theorem HE:∀ a b c,AN a b=true->AN b c=true->AN a c=true
 | [],[],_,h,_=>by cases h
 | [],_ :: _,[],_,h=>by cases h
 | [],_ :: _,_ :: _,_,_=>rfl
 | _ :: _,[],_,h,_=>by cases h
 | _ :: _,_ :: _,[],_,h=>by cases h
 | x :: xs,y :: ys,z :: zs,h1,h2=>by
  unfold AN at h1 h2 ⊢;by_cases e1:x=y
  ·rw [if_pos e1] at h1;by_cases e2:y=z
   ·rw [if_pos e2] at h2;rw [if_pos (e1.trans e2)];exact HE xs ys zs h1 h2
   ·rw [if_neg e2] at h2;rw [if_neg (by rw [e1]; exact e2),e1];exact h2
  ·rw [if_neg e1] at h1;by_cases e2:y=z
   ·rw [if_neg (by rw [<-e2]; exact e1),<-e2];exact h1
   ·rw [if_neg e2] at h2;have h3:=TN h1 h2;rw [if_neg (Wb h3)];exact h3
theorem K2:∀ a b,AN a b=false->AN b a=false->a=b
 | [],[],_,_=>rfl
 | [],_ :: _,h,_=>by cases h
 | _ :: _,[],_,h=>by cases h
 | x :: xs,y :: ys,h1,h2=>by
  unfold AN at h1 h2;by_cases e:x=y
  ·rw [if_pos e] at h1;rw [if_pos e.symm] at h2;rw [e,K2 xs ys h1 h2]
  ·rw [if_neg e] at h1;rw [if_neg (fun z=>e z.symm)] at h2;rcases TQ e with q | q
   ·rw [h1] at q; cases q
   ·rw [h2] at q; cases q
theorem Tj (a b c:List C3) (h:AN a c=true):AN a b=true\/AN b c=true:=by
 cases e1:AN a b
 ·right;cases e2:AN b a
  ·rw [<-K2 a b e1 e2]; exact h
  ·exact HE _ _ _ e2 h
 ·exact .inl rfl
theorem Ti (f:Value->List C3):PN (fun x y=>AN (f x.1) (f y.1)):=
 ⟨fun a=>FK _,fun a b c=>HE _ _ _,fun a b c=>Tj _ _ _⟩
def BU:Value->C3
 | .int n _=>.i n
 | .str x _=>.s x
 | _=>.i 0
def Lg:V->C3
 | .int n=>.i n
 | .str x=>.s x
 | _=>.i 0
def CC (h:Heap):Value->List C3
 | .ref a=>match h.get? a with
  | some o=>(match o.data with
   | .seq xs _=>xs.toList.map BU
   | _=>[])
  | none=>[]
 | v=>[BU v]
def K4 (H:Hp):V->List C3
 | .ref a=>match H a with
  | some (.tup ys)=>ys.map Lg
  | _=>[]
 | v=>[Lg v]
def JV (k:Bool) (v:V):Prop:=if k=true then ∃ x,v=.str x else ∃ n,v=.int n
def CF (k:Bool) (v:Value):Prop:=if k=true then ∃ x t,v=.str x t else ∃ n t,v=.int n t
theorem Tq {k:Bool} {v:V} {u:Value} (r:AF v u) (h:JV k v):CF k u/\BU u=Lg v:=by
 unfold JV at h;unfold CF;cases k with
 | true=>
  simp only [if_true] at h ⊢;obtain ⟨x,rfl⟩:=h;obtain ⟨t,rfl⟩:=r;exact ⟨⟨x,t,rfl⟩,rfl⟩
 | false=>
  simp only [aq,if_false] at h ⊢;obtain ⟨x,rfl⟩:=h;obtain ⟨t,rfl⟩:=r;exact ⟨⟨x,t,rfl⟩,rfl⟩
def IX (H:Hp) (kd:Nat->Bool) (v:V):Prop:=∃ t ys,v=.ref t/\H t=some (.tup ys)/\ys ≠ []/\∀ i y,ys[i]? = some y->JV (kd i) y
def Mo (h:Heap) (kd:Nat->Bool) (v:Value):Prop:=∃ t o xs n,v=.ref t/\h.get? t=some o/\o.cls=.type "tuple"/\o.data=.seq xs n/\0 < xs.size/\∀ (i:Nat) x,xs.toList[i]? = some x->CF (kd i) x
theorem Qp {X:Cx} {pins:List (Addr × Obj)} {σ:St} {H:Hp} {s:Shared} (I:Au X pins σ H s) {kd:Nat->Bool} {v:V} {u:Value} (r:AF v u) (h:IX H kd v):Mo s.heap kd u/\CC s.heap u=K4 H v:=by
 obtain ⟨t,ys,rfl,ht,ne,hy⟩:=h;cases r
 obtain ⟨_,Az,rv,⟨o,ho,hc,n,hd⟩,_⟩:=(show AU X.prog X.w H s.heap t (.tup _) from I.hok t _ ht)
 have e:K4 H (.ref t)=ys.map Lg:=by
  show (match H t with | some (.tup ys)=>ys.map Lg | _=>[])=_
  rw [ht]
 have e2:CC s.heap (.ref t)=Az.map BU:=by
  show (match s.heap.get? t with | some o=>(match o.data with | .seq xs _=>xs.toList.map BU | _=>[]) | none=>[])=_
  rw [ho];dsimp only;rw [hd]
 have all:∀ {ys:List V} {Az:List Value} (k:Nat),A3 ys Az->(∀ i y,ys[i]? = some y->JV (kd (k + i)) y)->(∀ (i:Nat) x,Az[i]? = some x->CF (kd (k + i)) x)/\Az.map BU=ys.map Lg:=by
  intro ys;induction ys with
  | nil=>intro Az k rv _; cases rv; exact ⟨fun i x e=>by simp at e,rfl⟩
  | cons y ys ih=>
   intro Az k rv hy;cases rv with
   | cons r1 r2=>
    obtain ⟨a1,a2⟩:=Tq r1 (hy 0 y rfl);obtain ⟨b1,b2⟩:=ih (k + 1) r2 fun i z e=>by
     have:=hy (i + 1) z (by simpa using e);rw [show k + 1 + i=k + (i + 1) by lia];exact this
    refine ⟨fun i x e=>?_,by rw [au,au,a2,b2]⟩;cases i with
    | zero=>
     rw [aX] at e;cases e
     exact a1
    | succ i=>
     have:=b1 i x (by simpa using e);rw [show k + 1 + i=k + (i + 1) by lia] at this;exact this
 obtain ⟨a1,a2⟩:=all 0 rv fun i y e=>by rw [bG]; exact hy i y e
 refine ⟨⟨t,o,Az.toArray,n,rfl,ho,hc,hd,?_,fun i x e=>?_⟩,by rw [e,e2,a2]⟩
 ·have:=rv.length;have:0 < ys.length:=bN.mpr ne;simp;lia
 ·have:=a1 i x (by simpa using e);rw [bG] at this;exact this
section
variable {prog:Program} {w:World} {A:Around} {E:Value->Shared->Prop} {s:Shared} {Q:Bool->Shared->Prop}
theorem SX {k b:Bool} {u v:Value} (hu:CF k u) (hv:CF k v) (h:Q (CL (BU u) (BU v)) s):wpAny (model prog w) A (oneLt' b u v) Q E s:=by
 unfold CF at hu hv;cases k with
 | true=>
  simp only [if_true] at hu hv;obtain ⟨x,t,rfl⟩:=hu;obtain ⟨y,t',rfl⟩:=hv;cases b with
  | true=>exact oneLt_str h
  | false=>exact kat_one _ _ (PySem.P.lt_str h)
 | false=>
  simp only [aq,if_false] at hu hv;obtain ⟨x,t,rfl⟩:=hu;obtain ⟨y,t',rfl⟩:=hv;cases b with
  | true=>exact oneLt_int h
  | false=>exact kat_one _ _ (lt_int h)
theorem VR {k:Bool} {u v:Value} (hu:CF k u) (hv:CF k v):SeqAt.EqAt A s u v (decide (BU u=BU v)):=by
 unfold CF at hu hv;cases k with
 | true=>
  simp only [if_true] at hu hv;obtain ⟨x,t,rfl⟩:=hu;obtain ⟨y,t',rfl⟩:=hv;have e:decide (BU (.str x t)=BU (.str y t'))=(x == y):=by
   show decide (C3.s x=C3.s y)=_
   rw [bV];simp
  rw [e];exact SeqAt.EqAt.str_str x t y t'
 | false=>
  simp only [aq,if_false] at hu hv;obtain ⟨x,t,rfl⟩:=hu;obtain ⟨y,t',rfl⟩:=hv;have e:decide (BU (.int x t)=BU (.int y t'))=(x == y):=by
   show decide (C3.i x=C3.i y)=_
   rw [bV];simp
  rw [e];exact SeqAt.EqAt.int_int x t y t'
theorem JC {b:Bool} {kd:Nat->Bool}:∀ (xs ys:List Value) (i:Nat),(∀ (j:Nat) x,xs[j]? = some x->CF (kd (i + j)) x)->(∀ (j:Nat) x,ys[j]? = some x->CF (kd (i + j)) x) ->
  Q (AN (xs.map BU) (ys.map BU)) s->KatLex prog w A b (decide (xs.length < ys.length)) Q (xs.zip ys) i s
 | [],[],i,_,_,h=>h
 | [],y :: ys,i,_,_,h=>h
 | x :: xs,[],i,_,_,h=>h
 | x :: xs,y :: ys,i,hx,hy,h=>by
  have kx:CF (kd i) x:=hx 0 x rfl;have ky:CF (kd i) y:=hy 0 y rfl;rw [au,au] at h;unfold AN at h;refine kat_cons (VR kx ky _ _ _ _ ?_);refine kat_go (fun e=>kat_yes ?_) (fun e=>kat_no (SX kx ky ?_))
  ·have e':=of_decide_eq_true e;rw [if_pos e'] at h;have r:=JC (b:=b) (kd:=kd) xs ys (i + 1) (fun j z e=>by rw [show i + 1 + j=i + (j + 1) by lia]; exact hx (j + 1) z (by simpa using e)) (fun j z e=>by rw [show i + 1 + j=i + (j + 1) by lia]; exact hy (j + 1) z (by simpa using e)) h;have e2:decide ((x :: xs).length < (y :: ys).length)=decide (xs.length < ys.length):=by simp
   rw [e2];exact r
  ·have e':=of_decide_eq_false e;rw [if_neg e'] at h;exact h
theorem UR {kd:Nat->Bool} {u v:Value} (hu:Mo s.heap kd u) (hv:Mo s.heap kd v) (h:Q (AN (CC s.heap u) (CC s.heap v)) s):wpAny (model prog w) A (keyLt' (tuples' true) u v) Q E s:=by
 obtain ⟨t,o,xs,n,rfl,ho,hc,hd,p,hx⟩:=hu;obtain ⟨t',o',Uk,n',rfl,K9,Mv,Gw,p',JE⟩:=hv;have e1:CC s.heap (.ref t)=xs.toList.map BU:=by
  show (match s.heap.get? t with | some o=>(match o.data with | .seq xs _=>xs.toList.map BU | _=>[]) | none=>[])=_
  rw [ho];dsimp only;rw [hd]
 have e2:CC s.heap (.ref t')=Uk.toList.map BU:=by
  show (match s.heap.get? t' with | some o=>(match o.data with | .seq xs _=>xs.toList.map BU | _=>[]) | none=>[])=_
  rw [K9];dsimp only;rw [Gw]
 rw [e1,e2] at h;refine kat_lt ho hd K9 Gw ?_;have e3:decide (xs.size < Uk.size)=decide (xs.toList.length < Uk.toList.length):=by simp
 rw [e3];exact JC (kd:=kd) _ _ 0 (fun j x e=>by rw [bG]; exact hx j x e) (fun j x e=>by rw [bG]; exact JE j x e) h
theorem Gi {kd:Nat->Bool} {vs:List Value} (h:∀ v ∈ vs,Mo s.heap kd v):Wi prog w s (fun x y=>AN (CC s.heap x.1) (CC s.heap y.1)) vs:=by
 intro h2 A h' kp;have h1:∀ v ∈ vs,Mo h' kd v/\CC h' v=CC s.heap v:=fun v hv=>by
  obtain ⟨t,o,xs,n,rfl,ho,hc,hd,p,hx⟩:=h v hv;refine ⟨⟨t,o,xs,n,rfl,kp t o ho,hc,hd,p,hx⟩,?_⟩;show (match h'.get? t with | some o=>(match o.data with | .seq xs _=>xs.toList.map BU | _=>[]) | none=>[])=(match s.heap.get? t with | some o=>(match o.data with | .seq xs _=>xs.toList.map BU | _=>[]) | none=>[])
  rw [ho,kp t o ho]
 refine ⟨tuples' true,?_,?_⟩
 ·intro Q E hq;have tups:∀ l:List Value,(∀ v ∈ l,Mo h' kd v)->∃ fs:List Value,KatTups h' l fs/\fs.length=l.length/\∀ f ∈ fs,CF (kd 0) f:=by
   intro l;induction l with
   | nil=>intro _; exact ⟨[],KatTups.nil,rfl,fun f hf=>nomatch hf⟩
   | cons v l ih=>
    intro hl;obtain ⟨fs,k1,k2,k3⟩:=ih fun v hv=>hl v (aA _ hv)
    obtain ⟨t,o,xs,n,rfl,ho,hc,hd,p,hx⟩:=hl v aJ;have g:xs[0]? = some xs[0]:=bT p;refine ⟨xs[0] :: fs,KatTups.cons ho hc hd g k1,by rw [aK,aK,k2],fun f hf=>?_⟩;rcases ZU.mp hf with rfl | hf
    ·exact hx 0 _ (by rw [bh]; exact g)
    ·exact k3 f hf
  obtain ⟨fs,k1,k2,k3⟩:=tups vs fun v hv=>(h1 v hv).1
  cases ek:kd 0 with
  | true=>
   refine kat_kind (T:=.type "str") k1 (by lia) (fun v hv=>?_) rfl hq;have q:=k3 v hv;unfold CF at q;rw [ek] at q;simp only [if_true] at q;obtain ⟨x,t,rfl⟩:=q;exact Looks.now
  | false=>
   refine kat_kind (T:=.type "int") k1 (by lia) (fun v hv=>?_) rfl hq;have q:=k3 v hv;unfold CF at q;rw [ek] at q;simp only [aq,if_false] at q;obtain ⟨x,t,rfl⟩:=q;exact Looks.now
 ·intro x y hx hy Q E hq;obtain ⟨ex,mx⟩:=EM (vs:=vs) (p:=x) (by simpa using hx);obtain ⟨ey,my⟩:=EM (vs:=vs) (p:=y) (by simpa using hy);rw [ex,ey] at hq ⊢;dsimp only at hq ⊢;refine UR (h1 _ mx).1 (h1 _ my).1 ?_;show Q (AN (CC h' x.2) (CC h' y.2)) _
  rw [(h1 _ mx).2,(h1 _ my).2];exact hq
end
theorem Gh {us Um:List Value} (p:Um.Perm us):∀ {vs:List V},A3 vs us->∃ Cb,A3 Cb Um/\Cb.Perm vs:=by
 induction p with
 | nil=>intro vs h; exact ⟨vs,h,.refl _⟩
 | cons x p ih=>
  intro vs h;cases h with
  | cons h1 h2=>
   obtain ⟨Cb,a,b⟩:=ih h2;exact ⟨_ :: Cb,.cons h1 a,b.cons _⟩
 | swap x y l=>
  intro vs h;cases h with
  | cons h1 h2=>
   cases h2 with
   | cons h3 h4=>exact ⟨_ :: _ :: _,.cons h3 (.cons h1 h4),.swap _ _ _⟩
 | trans p1 p2 V1 V0=>
  intro vs h;obtain ⟨vs1,a1,b1⟩:=V0 h;obtain ⟨vs2,a2,b2⟩:=V1 a1;exact ⟨vs2,a2,b2.trans b1⟩
end L2
namespace L2
open PySem PySem.Spec PyProof.Rows
section
variable {prog:Program} {w:World} {A:Around} {E:Value->Shared->Prop} {s:Shared}
end
def Fq (u:AI):AI:=(MR u.1 u.2.1,MS u.1 u.2.1,u.2.2)
theorem Pz {H:Hp} {vs Cb:List V} (p:Cb.Perm vs):∀ {ws:List AI},AM H vs (ws.map DC)->∃ EH:List AI,AM H Cb (EH.map DC)/\EH.Perm ws:=by
 induction p with
 | nil=>intro ws h; exact ⟨ws,h,.refl _⟩
 | cons x p ih=>
  intro ws h;cases ws with
  | nil=>cases h
  | cons u ws=>
   cases h with
   | cons h1 h2=>
    obtain ⟨EH,a,b⟩:=ih h2;exact ⟨u :: EH,.cons h1 a,b.cons u⟩
 | swap x y l=>
  intro ws h;cases ws with
  | nil=>cases h
  | cons u ws=>
   cases h with
   | cons h1 h2=>
    cases ws with
    | nil=>cases h2
    | cons v ws=>
     cases h2 with
     | cons h3 h4=>exact ⟨v :: u :: ws,.cons h3 (.cons h1 h4),.swap u v ws⟩
 | trans p1 p2 V1 V0=>
  intro ws h;obtain ⟨Ss,a1,b1⟩:=V0 h;obtain ⟨Sg,a2,b2⟩:=V1 a1;exact ⟨Sg,a2,b2.trans b1⟩
theorem Mi {X:Cx} {ix:Nat} {x:Str} {px:Pos} {scope:Scope} {cl:List (Str × Addr)} {N:List Str} {pins:List (Addr × Obj)} {σ Hj:St} {H2 H4:Hp} {s2 s5:Shared} {fp:List Addr} {C:Addr} {m5:Str->Option Value} {DD:EX} (hN:X.N.Nodup) (hix:X.N[ix]? = some x) (hlx:UN X.env.scope x) (hf:X.fn x=true\/X.env.scope.names.lookup x=some .local)
  (I2:Au X pins σ H2 s2) (f2:∀ b ∈ fp,EG X pins H2 b) (fC:s2.heap.objs.size<=C) (I5:Au (A4 X scope cl N s2 H2 C fp) [] Hj H4 s5) (Nf:s5.heap.Ns C m5) (qn:Hc ix (.ref s2.heap.objs.size) σ H4 fun A9 H2=>DD.nx A9 H2) :
  compPost (model X.prog X.w) X.A X.xe (some (assign (.Name x px) X.env)) (fun _ s'=>SP X pins DD .next s') (.ref s2.heap.objs.size) C (.ok .next) s5:=by
 have I6:Au X pins σ H4 s5:=IK (h':=s5.heap) I2 f2 fC I5 (Heap.SameBut.refl _ _);have cC:∀ y c,X.env.cells.lookup y=some c->c ≠ C:=fun y c e=>by
  obtain ⟨v,q⟩:=I2.cell y c e;exact ao (ak q.lt fC)
 have lC:X.env.locals ≠ C:=ao (ak I2.lt fC);show wpAny _ X.A (assign (.Name x px) X.env (.ref s2.heap.objs.size)) _ X.xe s5
 refine wpAny_assign_Name (Gj I6 hN hix hlx (v:=.ref s2.heap.objs.size) rfl (fun s7 I7 ⟨a,sb,ha⟩=>?_) hf);have aC:a ≠ C:=by
  rcases ha with rfl | ha
  ·exact lC
  ·exact cC _ _ ha
 refine ⟨m5,Nf.sameBut sb (Ne.symm aC),fun h' Sk=>⟨_,H4,?_,qn⟩⟩;exact I7.turned (t':=s7.toks) (it:=C) (fun b o hb e=>(Sk.2 b hb).trans e) I5.free (Ne.symm lC) (.inr (aQ I2.sz fC)) cC fun p hp z=>by
  have e:=(I2.pin p hp).1;exact absurd (ak (ae e) fC) (by rw [z]; exact bp _)
theorem FF {X:Cx} {ix:Nat} {x:Str} {px spos:Pos} {tg iter elt:Expr} {ifs:List Expr} {scope:Scope} {cl:List (Str × Addr)} {N:List Str} {pos:Pos} {wi:TI} {g:TG} {tt:TT} {te:TE} {σ0:St->St} (hN:X.N.Nodup) (hix:X.N[ix]? = some x) (hlx:UN X.env.scope x) (hc:X.calm=true) (co:AE X scope cl)
  (hσ:∀ σ,σ.length=X.N.length->Ba X cl scope N σ (σ0 σ)) (hi:PI X tg iter wi)
  (hb:∀ s2 H C fp,PG (A4 X scope cl N s2 H C fp) tg g/\Ub (A4 X scope cl N s2 H C fp) ifs tt/\PE (A4 X scope cl N s2 H C fp) elt te)
  (hsw:swapsWith (.ListComp elt [⟨tg,iter,ifs,0⟩] scope pos) (some (.Name x px)) spos.line X.env=pure true:=by rfl)
  (hs:∀ x,foldedSetIterable iter X.env x=pure x:=by intro _; rfl) (hf:X.fn x=true\/X.env.scope.names.lookup x=some .local:=by first | exact .inl rfl | exact .inr rfl | assumption) :
  PS X (.Assign [.Name x px] (.ListComp elt [⟨tg,iter,ifs,0⟩] scope pos) spos) (Qt (N2 wi g tt te σ0) (Hc ix)):=by
 intro pins s σ H DD I h;rw [exec_Assign_Name_used _ _ _ _ hsw];refine wpAny_bind (wpAny_standAt (wpAny_bind ?_));show wpAny _ X.A (do let _ <- comprehension (.ListComp elt [⟨tg,iter,ifs,0⟩] scope pos) scope X.env _ (newList []) false (eval iter X.env) (some (assign (.Name x px) X.env))) _ _ s
 exact wpAny_bind (wpAny_mono (JO (use:=some (assign (.Name x px) X.env)) (QQ:=fun _ s'=>SP X pins DD .next s') hc co hσ hi hb hs I h fun s2 s5 H2 H4 fp Hj C m5 I2 f2 fC I5 Nf qn=>Mi hN hix hlx hf I2 f2 fC I5 Nf qn) (fun _ s' hq=>wpAny_pure (wpAny_pure hq)) fun _ _ e=>e)
theorem Paired.at {α β:Type} {F:α->β->Prop}:∀ {LP:List α} {LO:List β},Paired F LP LO->∀ {i:Nat} {a:α},LP[i]? = some a->∃ b,LO[i]? = some b/\F a b
 | _,_,.nil,i,a,h=>by simp at h
 | _,_,.cons r t,0,a,h=>by
  simp only [aX,aI.injEq] at h;subst h;exact ⟨_,rfl,r⟩
 | _,_,.cons r t,i + 1,a,h=>by
  simp only [fJ] at h;obtain ⟨b,h1,h2⟩:=Paired.at t h;exact ⟨b,by simpa using h1,h2⟩
theorem OI {P:Program} {w:World} {k:AK} {u:Value} (h:(AO P w).is k u=true):AF (kV k) u:=by
 rcases Bn (show GX k u=true from h) with ⟨i,t,rfl,rfl⟩ | ⟨x,t,rfl,rfl⟩
 ·exact ⟨t,rfl⟩
 ·exact ⟨t,rfl⟩
def UP (a:Addr) (kvs:List (AK × V)) (o:Obj):It:=
 ⟨fun i H=>H a=some (.frz o (.dK kvs))/\i < kvs.length,fun i H x H'=>H'=H/\∃ k v,kvs[i]? = some (k,v)/\x=kV k,fun i H=>H a=some (.frz o (.dK kvs))/\kvs.length<=i⟩
theorem Nh {X:Cx} {pins:List (Addr × Obj)} {σ:St} {H:Hp} {s:Shared} {a:Addr} {o:Obj} {kvs:List (AK × V)} {es:Array DictEntry} {ep:Nat} (I:Au X pins σ H s) (e:H a=some (.frz o (.dK kvs))) (he:o.data=.dict es ep) :
  (a == sysModules)=false/\∃ vs,KV kvs vs/\s.heap.DictAt (AO X.prog X.w) a vs ep:=by
 obtain ⟨ho,z,hd,vs,rel,o',Tz,TC,h1,h2,h3,h4⟩:=(show AU X.prog X.w H s.heap a (.frz o (.dK kvs)) from I.hok a _ e)
 rw [ho] at h1;cases h1
 rw [he] at h3;injection h3 with h5 h6;subst h5 h6;exact ⟨hd,vs,rel,o,es,ho,h2,he,h4⟩
theorem O1 {P:Program} {w:World} {K:ZV} {tg:Expr} (a it:Addr) {kvs:List (AK × V)} {o:Obj} {es:Array DictEntry} {ep:Nat} (he:o.data=.dict es ep) :
  PM P w K tg (UP a kvs o) [it] it (fun i h=>h.IsKeyIter it a i kvs.length ep) where
 mem:=by simp
 obj:=fun i h st b hb=>by
  have e:b=it:=by simpa using hb
  subst e;obtain ⟨o,e,c,d⟩:=st;exact ⟨o,e,fun v z=>by rw [d] at z; cases z⟩
 keep:=fun i h h' st k=>st.at fun o e=>k it (by simp) o e
 item:=by
  intro X hP hw hK hc i pins s σ H E I hf st hg;subst hP hw hK;obtain ⟨hq,BE⟩:=hg;obtain ⟨hd,vs,rel,da⟩:=Nh I hq he;have hx:kvs[i]? = some kvs[i]:=by simp [BE]
  obtain ⟨⟨k,v⟩,hv,e1,e2⟩:=Paired.at rel hx;have hl:kvs.length=vs.length:=rel.length;obtain ⟨f0,f1,f2,f3,f4,f5⟩:=hf it (by simp);rw [hl] at st;refine wpAny_pyNext_dict_item st da hv fun key h' hkey An sb=>?_
  have I1:Au X pins σ H { s with heap:=h' }:=I.turned (t':=s.toks) (fun b o hb e=>(sb.2 b hb).trans e) f0 f1 f3 f4 f5;rw [<-hl] at An;obtain ⟨o',e,c,d⟩:=id An;refine ⟨key,rfl,LW (s:={ s with heap:=h' }) e c d (by decide) ⟨kV k,H,I1,OI hkey,⟨rfl,k,kvs[i].2,?_,rfl⟩,An,fun b hb=>(hf b hb).1⟩⟩;have Ww:kvs[i].1=k:=e1;rw [hx,<-Ww]
 done:=by
  intro X hP hw hK hc i pins s σ H E I hf st hg;subst hP hw hK;obtain ⟨hq,hle⟩:=hg;obtain ⟨hd,vs,rel,da⟩:=Nh I hq he;have hl:kvs.length=vs.length:=rel.length;obtain ⟨f0,f1,f2,f3,f4,f5⟩:=hf it (by simp);rw [hl] at st;exact wpAny_pyNext_dict_end (I.ok.hd hc) st da (by simp; lia) fun h' eb=>⟨rfl,I.turned (t':=s.toks) (fun b o hb e=>eb b o hb e) f0 f1 f3 f4 f5⟩
 self:=fun _ _ _ _ _ st h=>wpAny_pyIter_keyiter st h
def Eo (H:Hp) (a:Addr) (kvs:List (AK × V)) (o:Obj) (H':Hp):Prop:=(H a=some (.dK kvs)/\H'=upd H a (.frz o (.dK kvs)))\/(H a=some (.frz o (.dK kvs))/\H'=H)
theorem Eo.at {H H':Hp} {a:Addr} {kvs:List (AK × V)} {o:Obj} (f:Eo H a kvs o H'):H' a=some (.frz o (.dK kvs)):=by
 rcases f with ⟨_,rfl⟩ | ⟨e,rfl⟩
 ·exact Ab
 ·exact e
theorem Eo.ne {H H':Hp} {a b:Addr} {kvs:List (AK × V)} {o:Obj} (f:Eo H a kvs o H') (h:b ≠ a):H' b=H b:=by
 rcases f with ⟨_,rfl⟩ | ⟨e,rfl⟩
 ·exact Ae h
 ·rfl
theorem Au.freeze {X:Cx} {pins:List (Addr × Obj)} {σ:St} {H:Hp} {s:Shared} {a:Addr} {kvs:List (AK × V)} (I:Au X pins σ H s) (e:Rd H a (.dK kvs)) :
  ∃ o es ep H',o.data=.dict es ep/\Eo H a kvs o H'/\Au X pins σ H' s:=by
 rcases e with e | ⟨o,e⟩
 ·obtain ⟨z,hd,vs,rel,o,es,ep,h1,h2,h3,h4⟩:=(show AU X.prog X.w H s.heap a (.dK kvs) from I.hok a _ e)
  refine ⟨o,es,ep,upd H a (.frz o (.dK kvs)),h3,.inl ⟨e,rfl⟩,?_⟩;exact I.write (x:=a) (e:=a) (h':=s.heap) (t':=s.toks) (by rw [e]; exact True.intro) (.inl rfl) (fun b u _ q=>q) ⟨o,h1⟩ ⟨h1,z,hd,vs,rel,o,es,ep,h1,h2,h3,h4⟩
 ·obtain ⟨ho,z,hd,vs,rel,o',es,ep,h1,h2,h3,h4⟩:=(show AU X.prog X.w H s.heap a (.frz o (.dK kvs)) from I.hok a _ e)
  rw [ho] at h1;cases h1
  exact ⟨o,es,ep,H,h3,.inr ⟨e,rfl⟩,I⟩
def iDict (tl:TE):TI:=fun σ H R=>tl σ H fun x H1=>∃ a kvs,x=.ref a/\Rd H1 a (.dK kvs)/\∀ o H2,Eo H1 a kvs o H2->R (UP a kvs o) H2
theorem NU {X:Cx} {tg l:Expr} {tl:TE} (hl:PE X l tl):PI X tg l (iDict tl):=by
 intro pins s σ H R I h;refine BC (hl (pins:=pins) s σ H _ I h) fun v s1 ⟨x,H1,I1,r1,q1⟩=>?_
 obtain ⟨a,kvs,e,hr,q⟩:=q1;subst e;cases r1
 obtain ⟨o,es,ep,H2,he,fz,I2⟩:=I1.freeze hr;obtain ⟨hd,vs,rel,da⟩:=Nh I2 fz.at he;refine wpAny_pyIter_dict hd da ?_;refine ⟨s1.heap.objs.size,[s1.heap.objs.size],_,_,H2,rfl,I2.kept (t':=s1.toks) fun b o e=>ZT _ e,O1 a _ he,⟨_,ah _ rfl,rfl,?_⟩,fun b hb=>?_,q o H2 fz⟩
 ·rw [rel.length]; rfl
 ·have e:b=s1.heap.objs.size:=by simpa using hb
  subst e;exact I2.fpOk (ZX _) (I2.hok.fresh (ZX _))
theorem RL {a:Addr} {kvs:List (AK × V)} {o:Obj} {g:TG} {tb:TS} {D:EX} {σ:St} {H:Hp} (Pv:Nat->St->Hp->Prop) (h0:Pv 0 σ H) (hl:∀ i σ H,i<=kvs.length->Pv i σ H->H a=some (.frz o (.dK kvs)))
  (hs:∀ i k v σ H,kvs[i]? = some (k,v)->Pv i σ H->g (kV k) σ H fun A9 H2=>tb { D with nx:=Pv (i + 1),ct:=Pv (i + 1),bk:=D.nx } A9 H2) (hd:∀ σ H,Pv kvs.length σ H->D.nx σ H) :
  ∃ W:Nat->Nat->St->Hp->Prop,(∃ m,W 0 m σ H)/\∀ i m σ H,W i m σ H ->
   ((UP a kvs o).stop i H/\D.nx σ H)\/((UP a kvs o).go i H/\∃ N:St->Hp->Prop,(∀ A8 H',N A8 H'->∃ m',m' < m/\W (i + 1) m' A8 H')/\∀ x H',(UP a kvs o).yld i H x H'->g x σ H' fun A9 H2=>tb { D with nx:=N,ct:=N,bk:=D.nx } A9 H2):=by
 refine ⟨fun i m σ H=>m=kvs.length - i/\i<=kvs.length/\Pv i σ H,⟨kvs.length,by simp,aH _,h0⟩,?_⟩;rintro i m σ H ⟨rfl,hi,p⟩;have q:=hl i σ H hi p;by_cases BE:i < kvs.length
 ·refine .inr ⟨⟨q,BE⟩,Pv (i + 1),fun A8 H' p'=>⟨kvs.length - (i + 1),by lia,rfl,BE,p'⟩,fun x H' y=>?_⟩;obtain ⟨e,k,v,e1,e2⟩:=y;subst e e2;exact hs i k v σ _ e1 p
 ·have e:i=kvs.length:=by lia
  subst e;exact .inl ⟨⟨q,ZX _⟩,hd σ H p⟩
section
variable {prog:Program} {w:World} {A:Around} {E:Value->Shared->Prop} {s:Shared}
end
theorem K1 (a:List Nat):¬ a < a:=eh a
section
variable {X:Cx} {pins:List (Addr × Obj)} {σ A8:St} {H H':Hp} {s2 s':Shared} {scope:Scope} {cl:List (Str × Addr)} {N:List Str} {fp:List Addr} {C D:Addr} {h₁ h':Heap} {t':Nat}
end
section
variable {prog:Program} {w:World} {A:Around} {R:Result->Shared->Prop} {s:Shared}
theorem E2 {kx vx target iter:Expr} {ifs:List Expr} {scope:Scope} {pos:Pos} {it:Value} {D:Addr} {env:Env} (I:Nat->Shared->Prop)
  (turn:∀ n s,I n s->wpAny (model prog w) A (pyNext it) (fun r Bb=>match r with
   | none=>R (.ok .next) Bb
   | some v=>wpAny (model prog w) A (letOwnedTupleGo target it v) (fun _ Lj=>wpAny (model prog w) A (assign target env v) (fun _ Ey=>
     wpAny (model prog w) A (forIn ifs true fun c r=>if r=true then do let ok <- isTrue c env (eval c env); pure (ForInStep.yield ok) else pure (ForInStep.yield r)) (fun ok Dl=>
      if ok=true then wpAny (model prog w) A (eval kx env) (fun kv Qv=>wpAny (model prog w) A (eval vx env) (fun vv Qu=>
       wpAny (model prog w) A (dictSet D kv vv) (fun _ W3=>∃ m,m < n/\I m W3) (notedBy (model prog w) A env fun e s'=>R (.error e) s') Qu) (notedBy (model prog w) A env fun e s'=>R (.error e) s') Qv) (notedBy (model prog w) A env fun e s'=>R (.error e) s') Dl
      else ∃ m,m < n/\I m Dl) (notedBy (model prog w) A env fun e s'=>R (.error e) s') Ey) (notedBy (model prog w) A env fun e s'=>R (.error e) s') Lj) (notedBy (model prog w) A env fun e s'=>R (.error e) s') Bb) (notedBy (model prog w) A env fun e s'=>R (.error e) s') s)
  (n:Nat) (h:I n s) :
  codeAny (model prog w) A (.compLoop (.DictComp kx vx [⟨target,iter,ifs,0⟩] scope pos) 0 it (.ref D) env) R s:=by
 refine codeAny_loop rfl I (fun n s hI=>?_) n h;show wpAny _ A ((compTurn (.DictComp kx vx [⟨target,iter,ifs,0⟩] scope pos) 0 it (.ref D) env).onRaise (fun x=>do noteFrame x env; theTreesLotGoes x)) _ _ s
 refine wpAny_noted ?_;rw [compTurn_dict];refine wpAny_bind (wpAny_standAt (wpAny_bind (wpAny_mono (turn n s hI) (fun r Bb h₁=>?_) fun _ _ h'=>h')));cases r with
 | none=>exact wpAny_pure h₁
 | some v=>
  refine wpAny_bind (wpAny_mono h₁ (fun _ Lj R8=>?_) fun _ _ h'=>h');refine wpAny_bind (wpAny_mono R8 (fun _ Ey Na=>wpAny_bind (wpAny_mono Na (fun ok Dl MZ=>?_) fun _ _ h'=>h')) fun _ _ h'=>h');cases ok with
  | false=>exact wpAny_pure ⟨rfl,MZ⟩
  | true=>
   exact wpAny_bind (wpAny_bind (wpAny_mono MZ (fun kv Qv V4=>wpAny_bind (wpAny_holding (wpAny_mono V4 (fun vv Qu V3=>wpAny_bind (wpAny_standAt (wpAny_holding (wpAny_mono V3 (fun _ W3 YX=>wpAny_pure ⟨rfl,YX⟩) fun _ _ h'=>h')))) fun _ _ h'=>h'))) fun _ _ h'=>h'))
end
theorem PD {X:Cx} {pins:List (Addr × Obj)} {σ:St} {H:Hp} {s:Shared} {a:Addr} {k:AK} {v:V} {u r:Value} {kvs:List (AK × V)} {A:Around} {E:Value->Shared->Prop} {Q:Unit->Shared->Prop} (I:Au X pins σ H s) (e:H a=some (.dK kvs)) (l:kvs.length < sizeLine) (ry:AF (kV k) u) (rv:AF v r)
  (h:∀ s',Au X pins σ (upd H a (.dK (Bq kvs k v))) s'->Q () s'):wpAny (model X.prog X.w) A (dictSet a u r) Q E s:=by
 obtain ⟨z,hd,vs,rel,dd⟩:=Ma I.hok e;have hz:vs.length<=sizeLine:=by rw [<-rel.length]; exact z
 have hl:(Bq kvs k v).length<=sizeLine:=by have:=Dz kvs k v; lia
 refine wpAny_dictSet_pairs (hsz:=hz) (Iz ry) dd fun h' Oq hs=>h _ ?_
 have he:∃ q,h'.get? a=some q:=let ⟨q,_,_,hq,_⟩:=Oq; ⟨q,hq⟩;exact HF I (by rw [e]; exact True.intro) hs he (KG hl hd (rel.put k rv) Oq)
def M6 (wi:TI) (g:TG) (tt:TT) (tk tv:TE) (σ0:St->St):TE:=fun σ H Q=>wi σ H fun J H1=>∀ D,H1 D=none->∃ W:Nat->Nat->St->Hp->Prop,(∃ m,W 0 m (σ0 σ) (upd H1 D (.dK []))) /\
 ∀ i m A8 H',W i m A8 H'->(J.stop i H'/\Q (.ref D) H')\/(J.go i H'/\∀ x H2,J.yld i H' x H2->g x A8 H2 fun A9 H3=>tt A9 H3 fun b H4=>
  if b=true then tk A9 H4 (fun y H5=>tv A9 H5 fun v H6=>∃ kvs k,y=kV k/\H6 D=some (.dK kvs)/\kvs.length < sizeLine/\∃ m',m' < m/\W (i + 1) m' A9 (upd H6 D (.dK (Bq kvs k v)))) else ∃ m',m' < m/\W (i + 1) m' A9 H4)
theorem IL {X:Cx} {pins:List (Addr × Obj)} {s:Shared} {σ:St} {H:Hp} {Q:VK} {use:Option (Value->Sem Unit)} {QQ:Value->Shared->Prop} {pp:Pos} {tg iter kx vx:Expr} {ifs:List Expr} {scope:Scope} {cl:List (Str × Addr)} {N:List Str} {pos:Pos} {wi:TI} {g:TG} {tt:TT} {tk tv:TE} {σ0:St->St} (hc:X.calm=true) (co:AE X scope cl)
  (hσ:∀ σ,σ.length=X.N.length->Ba X cl scope N σ (σ0 σ)) (hi:PI X tg iter wi)
  (hb:∀ s2 H C fp,PG (A4 X scope cl N s2 H C fp) tg g/\Ub (A4 X scope cl N s2 H C fp) ifs tt/\PE (A4 X scope cl N s2 H C fp) kx tk/\PE (A4 X scope cl N s2 H C fp) vx tv)
  (hs:∀ x,foldedSetIterable iter X.env x=pure x) (I:Au X pins σ H s) (h:M6 wi g tt tk tv σ0 σ H Q)
  (fin:∀ (s2 s5:Shared) (H2 H4:Hp) (fp:List Addr) (Hj:St) (C:Addr) (m5:Str->Option Value),Au X pins σ H2 s2->(∀ b ∈ fp,EG X pins H2 b)->s2.heap.objs.size<=C->Au (A4 X scope cl N s2 H2 C fp) [] Hj H4 s5->s5.heap.Ns C m5->Q (.ref s2.heap.objs.size) H4->compPost (model X.prog X.w) X.A X.xe use QQ (.ref s2.heap.objs.size) C (.ok .next) s5) :
  wpAny (model X.prog X.w) X.A (comprehension (.DictComp kx vx [⟨tg,iter,ifs,0⟩] scope pos) scope X.env pp newDict false (eval iter X.env) use) QQ X.xe s:=by
 refine wpAny_comprehension_free (use:=use) rfl hs co.clos co.kind co.names (wpAny_mono (hi (pins:=pins) s σ H _ I h) (fun xv s1 h1=>wpAny_mono h1 (fun itv s2 h2=>?_) fun _ _ e=>e) fun _ _ e=>e);obtain ⟨it,fp,tn,J,H2,rfl,I2,T,G5,f2,hW⟩:=h2;refine wpAny_newObj_type (wpAny_newFunctionEnv co.cell (by intro y hy; cases hy) (fun h₁ Ek Ej=>?_) co.kind);dsimp only at Ek Ej ⊢;generalize RG:s2.heap.push { cls:=.type "dict",dict:=none,data:=.dict #[] } = HH at Ek Ej ⊢;have Dh:HH.objs.size=s2.heap.objs.size + 1:=by rw [<-RG,bx]
 have old:∀ b o,s2.heap.get? b=some o->h₁.get? b=some o:=fun b o e=>
  Ej.extBut b o (ao (by rw [Dh]; exact aN (ae e))) (ZT _ (RG ▸ ZT _ e))
 have newD:AU X.prog X.w (upd H2 s2.heap.objs.size (.dK [])) h₁ s2.heap.objs.size (.dK []):=
  let ⟨z,hd,vs,rel,o,es,ep,ho,r⟩:=Mb (P:=X.prog) (w:=X.w) (H:=upd H2 s2.heap.objs.size (.dK [])) s2.heap I2.big
  ⟨z,hd,vs,rel,o,es,ep,Ej.extBut _ _ (ao (by rw [Dh]; exact aU _)) (ZT _ (RG ▸ ho)),r⟩
 obtain ⟨W,⟨m0,w0⟩,turn⟩:=hW s2.heap.objs.size I2.fresh;have hfo:∀ b ∈ fp,∃ o,s2.heap.get? b=some o:=fun b hb=>let ⟨o,e,_⟩:=T.obj _ _ G5 b hb; ⟨o,e⟩
 have I3:Au (A4 X scope cl N s2 H2 HH.objs.size fp) [] (σ0 σ) (upd H2 s2.heap.objs.size (.dK [])) { s2 with heap:=h₁,toks:=s2.toks + ([]:List (Str × Value)).length }:=
  Hd I2 f2 hfo co (hσ σ I.len) old (ZX _) (by rw [Dh]; exact aW _) (bA (by rw [Dh]; exact aU _)) newD Ek
 have fC:s2.heap.objs.size<=HH.objs.size:=by rw [Dh]; exact aW _
 obtain ⟨hg,ht,hk,hv⟩:=hb s2 H2 HH.objs.size fp;have loop:∀ Dl:Shared,Dl = { s2 with heap:=h₁,toks:=s2.toks + ([]:List (Str × Value)).length } ->
   codeAny (model X.prog X.w) X.A (.compLoop (.DictComp kx vx [⟨tg,iter,ifs,0⟩] scope pos) 0 (.ref it) (.ref s2.heap.objs.size) (compEnvC scope cl HH.objs.size X.env))
    (compPost (model X.prog X.w) X.A X.xe use QQ (.ref s2.heap.objs.size) HH.objs.size) Dl:=by
  rintro Dl rfl;have stat:∀ {H':Hp} ,(∀ b ∈ fp,H' b=none)->∀ b ∈ fp,EG (A4 X scope cl N s2 H2 HH.objs.size fp) [] H' b:=fun hn b hb=>by
   refine ⟨hn b hb,?_,?_,.inl hb,?_,fun p hp=>by cases hp⟩
   ·obtain ⟨o,e⟩:=hfo b hb;exact ao (show b < HH.objs.size by rw [Dh]; exact aN (ae e))
   ·intro hz;obtain ⟨_,q1,q2,_⟩:=f2 b hb;rcases ZU.mp (I2.stkSub b hz) with e | e
    ·exact q1 e
    ·exact q2 e
   ·exact fun x c e=>(f2 b hb).2.2.2.2.1 x c (co.sub x c e)
  refine E2 (fun n s'=>∃ i A8 H',Au (A4 X scope cl N s2 H2 HH.objs.size fp) [] A8 H' s'/\tn i s'.heap/\(∀ b ∈ fp,H' b=none)/\W i n A8 H') ?_ m0
   ⟨0,σ0 σ,_,I3,T.keep _ _ _ G5 fun b hb o e=>old b o e,fun b hb=>?_,w0⟩
  ·rintro n s4 ⟨i,Hj,H4,I4,N4,UB,w4⟩;rcases turn i n Hj H4 w4 with ⟨stop,qn⟩ | ⟨go,step⟩
   ·refine wpAny_mono (T.done (A4 X scope cl N s2 H2 HH.objs.size fp) rfl rfl rfl hc i [] s4 Hj H4 (fun _ _=>False) I4 (stat UB) N4 stop) (fun r s5 ⟨hr,I5⟩=>?_) fun _ _ z=>z.elim
    subst hr;obtain ⟨m5,Nf,_⟩:=id I5.loc;exact fin _ _ _ _ _ _ _ _ I2 f2 fC I5 Nf qn
   ·refine wpAny_mono (T.item (A4 X scope cl N s2 H2 HH.objs.size fp) rfl rfl rfl hc i [] s4 Hj H4 (fun _ _=>False) I4 (stat UB) N4 go) (fun r s5 ⟨u,hr,h5⟩=>?_) fun _ _ z=>z.elim
    subst hr;refine wpAny_mono h5 (fun _ s6 ⟨x,H6,I6,r6,y6,Qx,X0⟩=>?_) fun _ _ z=>z.elim
    have XU:=I6.pinned (stat X0) (T.obj _ _ Qx);refine wpAny_mono (hg s6 Hj H6 x u _ XU r6 (step x H6 y6)) (fun _ s7 ⟨Hi,H7,I7,q7⟩=>?_) fun _ _ z=>z.elim
    refine wpAny_mono (ht s7 Hi H7 _ I7 q7) (fun ok s8 ⟨H8,I8,q8⟩=>?_) fun _ _ z=>z.elim
    have again:∀ {s9:Shared} {Nw:St} {H9:Hp} ,Au (A4 X scope cl N s2 H2 HH.objs.size fp) ([] ++ Fl fp s6.heap) Nw H9 s9->(∃ m',m' < n/\W (i + 1) m' Nw H9)->∃ m,m < n/\∃ i A8 H',Au (A4 X scope cl N s2 H2 HH.objs.size fp) [] A8 H' s9/\tn i s9.heap/\(∀ b ∈ fp,H' b=none)/\W i m A8 H':=fun {s9 Nw H9} I9 n9=>by
     obtain ⟨m',hm,w9⟩:=n9;refine ⟨m',hm,i + 1,Nw,H9,I9.unpinned,T.keep _ _ _ Qx fun b hb o e=>(I9.pin (b,o) (aw _ (aw _ (BN hb e)))).1,fun b hb=>?_,w9⟩;obtain ⟨o,e,d⟩:=T.obj _ _ Qx b hb;exact (I9.pin (b,o) (aw _ (aw _ (BN hb e)))).2.1
    cases ok with
    | false=>
     rw [if_neg az] at q8 ⊢;exact again I8 q8
    | true=>
     rw [if_pos rfl] at q8 ⊢;refine wpAny_mono (hk s8 Hi H8 _ I8 q8) (fun yk s9 ⟨k,H9,I9,r9,q9⟩=>?_) fun _ _ z=>z.elim
     refine wpAny_mono (hv s9 Hi H9 _ I9 q9) (fun yv NO ⟨v,Mr,XX,r10,kvs,key,ek,hacc,hsz,W9⟩=>?_) fun _ _ z=>z.elim
     subst ek;exact PD (X:=A4 X scope cl N s2 H2 HH.objs.size fp) XX hacc hsz r9 r10 fun W7 I11=>again I11 W9
  ·have z:=(f2 b hb).1;obtain ⟨o,e⟩:=hfo b hb;rw [Ae (ao (ae e))];exact z
 exact codeAny_compStart_dict (loop _ rfl) (T.self _ 0 _ _ _ (T.keep _ _ _ G5 fun b hb o e=>old b o e) (loop _ rfl))
theorem Ia {X:Cx} {tg iter kx vx:Expr} {ifs:List Expr} {scope:Scope} {cl:List (Str × Addr)} {N:List Str} {pos:Pos} {wi:TI} {g:TG} {tt:TT} {tk tv:TE} {σ0:St->St} (hc:X.calm=true) (co:AE X scope cl)
  (hσ:∀ σ,σ.length=X.N.length->Ba X cl scope N σ (σ0 σ)) (hi:PI X tg iter wi)
  (hb:∀ s2 H C fp,PG (A4 X scope cl N s2 H C fp) tg g/\Ub (A4 X scope cl N s2 H C fp) ifs tt/\PE (A4 X scope cl N s2 H C fp) kx tk/\PE (A4 X scope cl N s2 H C fp) vx tv)
  (hs:∀ x,foldedSetIterable iter X.env x=pure x:=by intro _; rfl):PE X (.DictComp kx vx [⟨tg,iter,ifs,0⟩] scope pos) (M6 wi g tt tk tv σ0):=by
 intro pins s σ H Q I h;rw [arm_eval_DictComp];exact IL hc co hσ hi hb hs I h fun s2 s5 H2 H4 fp Hj C m5 I2 f2 fC I5 Nf qn=>⟨m5,Nf,fun h' Sk=>⟨.ref _,H4,IK I2 f2 fC I5 Sk,rfl,qn⟩⟩
theorem QZ {X:Cx} {ix:Nat} {x:Str} {px spos:Pos} {tg iter kx vx:Expr} {ifs:List Expr} {scope:Scope} {cl:List (Str × Addr)} {N:List Str} {pos:Pos} {wi:TI} {g:TG} {tt:TT} {tk tv:TE} {σ0:St->St} (hN:X.N.Nodup) (hix:X.N[ix]? = some x) (hlx:UN X.env.scope x) (hc:X.calm=true) (co:AE X scope cl)
  (hσ:∀ σ,σ.length=X.N.length->Ba X cl scope N σ (σ0 σ)) (hi:PI X tg iter wi)
  (hb:∀ s2 H C fp,PG (A4 X scope cl N s2 H C fp) tg g/\Ub (A4 X scope cl N s2 H C fp) ifs tt/\PE (A4 X scope cl N s2 H C fp) kx tk/\PE (A4 X scope cl N s2 H C fp) vx tv)
  (hsw:swapsWith (.DictComp kx vx [⟨tg,iter,ifs,0⟩] scope pos) (some (.Name x px)) spos.line X.env=pure true:=by rfl)
  (hs:∀ x,foldedSetIterable iter X.env x=pure x:=by intro _; rfl) (hf:X.fn x=true\/X.env.scope.names.lookup x=some .local:=by first | exact .inl rfl | exact .inr rfl | assumption) :
  PS X (.Assign [.Name x px] (.DictComp kx vx [⟨tg,iter,ifs,0⟩] scope pos) spos) (Qt (M6 wi g tt tk tv σ0) (Hc ix)):=by
 intro pins s σ H DD I h;rw [exec_Assign_Name_used _ _ _ _ hsw];refine wpAny_bind (wpAny_standAt (wpAny_bind ?_));show wpAny _ X.A (do let _ <- comprehension (.DictComp kx vx [⟨tg,iter,ifs,0⟩] scope pos) scope X.env _ newDict false (eval iter X.env) (some (assign (.Name x px) X.env))) _ _ s
 exact wpAny_bind (wpAny_mono (IL (use:=some (assign (.Name x px) X.env)) (QQ:=fun _ s'=>SP X pins DD .next s') hc co hσ hi hb hs I h fun s2 s5 H2 H4 fp Hj C m5 I2 f2 fC I5 Nf qn=>Mi hN hix hlx hf I2 f2 fC I5 Nf qn) (fun _ s' hq=>wpAny_pure (wpAny_pure hq)) fun _ _ e=>e)
theorem Ko (p x:Str) (r:List Str):risingS p (x :: r)=(!ltCps x.cps.toList p.cps.toList && risingS x r):=rfl
theorem J6:∀ (p:Str) (l:List Str),risingS p l=true->(p :: l).Pairwise fun a b=>¬ b.cps.toList < a.cps.toList
 | p,[],_=>fK _ _
 | p,x :: r,h=>by
  rw [Ko,b9,ltCps_eq] at h;have h1:¬ x.cps.toList < p.cps.toList:=by simpa using h.1
  have h2:=J6 x r h.2;refine dv.mpr ⟨fun y hy=>?_,h2⟩;rcases ZU.mp hy with rfl | hy
  ·exact h1
  ·have h3:=(dv.mp h2).1 y hy;have a:p.cps.toList<=x.cps.toList:=cK.mp h1;have b:x.cps.toList<=y.cps.toList:=cK.mp h3;exact cK.mpr (gL a b)
theorem O7 {l:List Str} (h:sortedS l=true):l.Pairwise fun a b=>¬ b.cps.toList < a.cps.toList:=by
 cases l with
 | nil=>exact .nil
 | cons p l=>exact J6 p l h
theorem HK {a b:Str} (h1:¬ b.cps.toList < a.cps.toList) (h2:¬ a.cps.toList < b.cps.toList):a=b:=by
 have e:a.cps.toList=b.cps.toList:=List.le_antisymm (cK.mp h1) (cK.mp h2);cases a; cases b
 simp only [Str.mk.injEq];exact cV.mp e
theorem O8 {l m:List Str} (hl:l.Pairwise fun a b=>¬ b.cps.toList < a.cps.toList) (hm:m.Pairwise fun a b=>¬ b.cps.toList < a.cps.toList) (p:l.Perm m):l=m:=
 List.Perm.eq_of_pairwise (fun a b _ _ h1 h2=>HK h1 h2) hl hm p
def Lb (ws:List AI) (x y:Str):Prop:=∃ u ∈ ws,(u.1=x/\u.2.1=y)\/(u.1=y/\u.2.1=x)
theorem Lb.symm {ws:List AI} {x y:Str} (h:Lb ws x y):Lb ws y x:=let ⟨u,hu,h⟩:=h; ⟨u,hu,h.symm⟩
theorem DM (u:AI):(Fq u).1=u.1/\(Fq u).2.1=u.2.1\/(Fq u).1=u.2.1/\(Fq u).2.1=u.1:=by
 unfold Fq MR MS;by_cases h:u.2.1.cps.toList < u.1.cps.toList
 ·have h':¬ u.1.cps.toList < u.2.1.cps.toList:=gM h;rw [if_pos h,if_neg h'];exact .inr ⟨rfl,rfl⟩
 ·rw [if_neg h];by_cases h':u.1.cps.toList < u.2.1.cps.toList
  ·rw [if_pos h']; exact .inl ⟨rfl,rfl⟩
  ·rw [if_neg h'];have e:u.1=u.2.1:=HK h h';exact .inl ⟨rfl,e⟩
theorem RX {ws EH:List AI} (p:EH.Perm (ws.map Fq)) (x y:Str):Lb EH x y ↔ Lb ws x y:=by
 constructor
 ·rintro ⟨u,hu,h⟩;obtain ⟨v,hv,rfl⟩:=ZZ.mp (p.mem_iff.mp hu);refine ⟨v,hv,?_⟩;rcases DM v with ⟨e1,e2⟩ | ⟨e1,e2⟩
  ·rw [e1,e2] at h; exact h
  ·rw [e1,e2] at h;rcases h with ⟨a,b⟩ | ⟨a,b⟩
   ·exact .inr ⟨b,a⟩
   ·exact .inl ⟨b,a⟩
 ·rintro ⟨v,hv,h⟩;refine ⟨Fq v,p.mem_iff.mpr (ZZ.mpr ⟨v,hv,rfl⟩),?_⟩;rcases DM v with ⟨e1,e2⟩ | ⟨e1,e2⟩
  ·rw [e1,e2]; exact h
  ·rw [e1,e2];rcases h with ⟨a,b⟩ | ⟨a,b⟩
   ·exact .inr ⟨b,a⟩
   ·exact .inl ⟨b,a⟩
theorem Pw {xs:List Str} {ws EH:List AI} (p:EH.Perm (ws.map Fq)) (h:∀ u ∈ ws,u.1 ∈ xs/\u.2.1 ∈ xs):∀ u ∈ EH,u.1 ∈ xs/\u.2.1 ∈ xs:=fun u hu=>by
 obtain ⟨v,hv,rfl⟩:=ZZ.mp (p.mem_iff.mp hu);obtain ⟨a,b⟩:=h v hv;rcases DM v with ⟨e1,e2⟩ | ⟨e1,e2⟩ <;> rw [e1,e2]
 ·exact ⟨a,b⟩
 ·exact ⟨b,a⟩
def KQ (xs:List Str) (ws:List AI):Prop:=∀ j,0 < j->j < xs.length->∃ u ∈ ws,∃ i:Nat,i < j/\xs[i]? = some u.1/\xs[j]? = some u.2.1
theorem KQ.all {xs:List Str} {ws:List AI} (h:KQ xs ws) (S:Str->Prop) (cl:∀ x y,Lb ws x y->S x->S y) {r:Str} (hr:r ∈ xs) (sr:S r):∀ x ∈ xs,S x:=by
 have down:∀ n (i:Nat),i<=n->∀ x,xs[i]? = some x->S x->∀ x0,xs[0]? = some x0->S x0:=by
  intro n;induction n with
  | zero=>
   intro i hi x e s x0 e0;have:i=0:=by lia
   subst this;rw [e] at e0; cases e0; exact s
  | succ n ih=>
   intro i hi x e s x0 e0;by_cases hz:i=0
   ·subst hz;rw [e] at e0; cases e0; exact s
   ·obtain ⟨u,hu,k,hk,e1,e2⟩:=h i (by lia) (ag.mp e).1;rw [e] at e2; cases e2;exact ih k (by lia) u.1 e1 (cl _ _ ⟨u,hu,.inr ⟨rfl,rfl⟩⟩ s) x0 e0
 have up:∀ x0,xs[0]? = some x0->S x0->∀ n (i:Nat),i<=n->∀ x,xs[i]? = some x->S x:=by
  intro x0 e0 s0 n;induction n with
  | zero=>
   intro i hi x e;have:i=0:=by lia
   subst this;rw [e0] at e; cases e; exact s0
  | succ n ih=>
   intro i hi x e;by_cases hz:i=0
   ·subst hz;rw [e0] at e; cases e; exact s0
   ·obtain ⟨u,hu,k,hk,e1,e2⟩:=h i (by lia) (ag.mp e).1;rw [e] at e2; cases e2;exact cl _ _ ⟨u,hu,.inl ⟨rfl,rfl⟩⟩ (ih k (by lia) u.1 e1)
 intro x hx;obtain ⟨i,hi,e⟩:=aF hr;obtain ⟨j,hj,e'⟩:=aF hx;have h0:xs[0]? = some xs[0]:=ZS (by lia);have s0:S xs[0]:=down i i (ZX _) r (by rw [ZS hi,e]) sr _ h0;exact up _ h0 s0 j j (ZX _) x (by rw [ZS hj,e'])
section
variable {ws:List AI} {r:Str} {bs cs:List (Str × Option Str)}
theorem Qj {α β:Type} {l:List (α × β)} (h:(l.map (·.1)).Nodup) {x:α} {a b:β} (ha:(x,a) ∈ l) (hb:(x,b) ∈ l):a=b:=by
 induction l with
 | nil=>cases ha
 | cons p l ih=>
  rw [au] at h;obtain ⟨h1,h2⟩:=br.mp h;have key:∀ c,(x,c) ∈ l->p.1 ≠ x:=fun c hc z=>h1 (by rw [z]; exact ZZ.mpr ⟨(x,c),hc,rfl⟩)
  rcases ZU.mp ha with e | ha1
  ·rcases ZU.mp hb with e' | VH
   ·rw [<-e] at e'; cases e'; rfl
   ·exact absurd (by rw [<-e]) (key b VH)
  ·rcases ZU.mp hb with e' | VH
   ·exact absurd (by rw [<-e']) (key a ha1)
   ·exact ih h2 ha1 VH
end
section
variable {ws:List AI} {r:Str} {wk:List (Str × List Str)}
end
theorem BV {H2 H3:Hp} {vs:List V} {ws:List AI} (h:AM H2 vs (ws.map DC)) (ht:∀ b xs,H2 b=some (.tup xs)->H3 b=some (.tup xs)):AM H3 vs (ws.map DC):=by
 induction ws generalizing vs with
 | nil=>cases h; exact .nil
 | cons u ws ih=>
  cases h with
  | cons h1 r=>
   refine .cons ?_ (ih r);cases h1 with
   | tup ha hd=>
    refine .tup (ht _ _ ha) ?_;cases hd with
    | cons h1 r1=>
     cases r1 with
     | cons h2 r2=>
      cases r2 with
      | cons h3 r3=>
       cases r3
       cases h1
       cases h2
       cases h3
       exact .cons (.str _) (.cons (.str _) (.cons (.int _) .nil))
theorem GQ {α:Type} {l:List α} (h:l.Nodup) {i j:Nat} {x:α} (a:l[i]? = some x) (b:l[j]? = some x):i=j:=
 (List.getElem?_inj (ag.mp a).1 h).mp (a.trans b.symm)
def sK (nv:List (Str × V)):List (AK × V):=nv.map fun q=>(Sum.inr q.1,q.2)
theorem CJ (nv:List (Str × V)):(sK nv).length=nv.length:=ZR ..
theorem Kk (nv:List (Str × V)):(sK nv).map (·.1)=(nv.map (·.1)).map Sum.inr:=by unfold sK; rw [aT,aT]; rfl
theorem QK (a b:List (Str × V)):sK (a ++ b)=sK a ++ sK b:=aa ..
theorem Hz:∀ {nv:List (Str × V)} {y:Str},y ∉ nv.map (·.1)->BF (sK nv) (Sum.inr y:AK)=none
 | [],y,_=>rfl
 | q :: nv,y,h=>by
  rw [au,ZU,not_or] at h;show BF ((Sum.inr q.1,q.2) :: sK nv) (Sum.inr y:AK)=none
  rw [CY (fun z=>h.1 (Sum.inr.inj z).symm)];exact Hz h.2
theorem Cm:∀ {nv:List (Str × V)} {y:Str} {v:V},(nv.map (·.1)).Nodup->(y,v) ∈ nv->BF (sK nv) (Sum.inr y:AK)=some v
 | [],y,v,_,h=>nomatch h
 | q :: nv,y,v,hn,h=>by
  rw [au] at hn;obtain ⟨h1,h2⟩:=br.mp hn;show BF ((Sum.inr q.1,q.2) :: sK nv) (Sum.inr y:AK)=some v
  rcases ZU.mp h with e | h'
  ·subst e;exact DE rfl
  ·rw [CY (fun z=>h1 (by rw [Sum.inr.inj z]; exact ZZ.mpr ⟨(y,v),h',rfl⟩))];exact Cm h2 h'
theorem GJ {nv:List (Str × V)} {y:Str}:(BF (sK nv) (Sum.inr y:AK)).isSome=decide (y ∈ nv.map (·.1)):=by
 by_cases h:y ∈ nv.map (·.1)
 ·rw [decide_eq_true h];cases e:BF (sK nv) (Sum.inr y:AK) with
  | some v=>rfl
  | none=>
   have:=Qk e;rw [Kk] at this;exact absurd (ZZ.mpr ⟨y,h,rfl⟩) this
 ·rw [decide_eq_false h,Hz h]; rfl
theorem CZ {nv:List (Str × V)} {y:Str} {v:V} (h:y ∉ nv.map (·.1)):Bq (sK nv) (Sum.inr y:AK) v=sK (nv ++ [(y,v)]):=by
 rw [L4 v (Hz h),QK]; rfl
theorem MC (nv:List (Str × V)) (y:Str) (v:V):∃ DL,Bq (sK nv) (Sum.inr y:AK) v=sK DL/\DL.length<=nv.length + 1/\∀ z,z ∈ DL.map (·.1) ↔ z ∈ nv.map (·.1)\/z=y:=by
 by_cases h:y ∈ nv.map (·.1)
 ·refine ⟨nv.map fun q=>if q.1=y then (q.1,v) else q,?_,by rw [ZR]; lia,fun z=>?_⟩
  ·unfold Bq;have:((sK nv).any fun kv=>decide (kv.1=(Sum.inr y:AK)))=true:=by
    rw [Cg,GJ,decide_eq_true h]
   rw [if_pos this];unfold sK;rw [aT,aT];refine bD fun q _=>?_
   by_cases e:q.1=y
   ·simp [e]
   ·have e':¬ (Sum.inr q.1:AK)=Sum.inr y:=fun z=>e (Sum.inr.inj z)
    simp [e,e']
  ·have e:(nv.map fun q=>if q.1=y then (q.1,v) else q).map (·.1)=nv.map (·.1):=by
    rw [aT];refine bD fun q _=>?_
    by_cases e:q.1=y <;> simp [e]
   rw [e];constructor
   ·exact .inl
   ·rintro (q | rfl)
    ·exact q
    ·exact h
 ·refine ⟨nv ++ [(y,v)],CZ h,by simp,fun z=>by simp⟩
theorem Ut {nv:List (Str × V)} {i:Nat} {k:AK} {v:V} (h:(sK nv)[i]? = some (k,v)):∃ y,nv[i]? = some (y,v)/\k=.inr y:=by
 unfold sK at h;rw [ai] at h;cases e:nv[i]? with
 | none=>rw [e] at h; cases h
 | some q=>
  rw [e] at h;simp only [gA,aI.injEq,Prod.mk.injEq] at h;exact ⟨q.1,by rw [<-h.2],h.1.symm⟩
structure Web (H:Hp) (q:Addr) (ps:List Str) (ws:List AI):Prop where
 ex:∃ tp tw us,H q=some (.tup [.ref tp,.ref tw])/\H tp=some (.tup (ps.map V.str))/\H tw=some (.tup us)/\AM H us (ws.map DC)
theorem Web.same {H H':Hp} {q:Addr} {ps:List Str} {ws:List AI} (h:Web H q ps ws) (s:∀ b xs,H b=some (.tup xs)->H' b=some (.tup xs)):Web H' q ps ws:=by
 obtain ⟨tp,tw,us,h1,h2,h3,h4⟩:=h.ex;exact ⟨tp,tw,us,s _ _ h1,s _ _ h2,s _ _ h3,BV h4 s⟩
def Oa (ps:List Str) (ds:List Addr):List (Str × V):=(ps.zip ds).map fun q=>(q.1,V.ref q.2)
theorem Im {ps:List Str} {ds:List Addr} (h:ps.length<=ds.length):(Oa ps ds).map (·.1)=ps:=by
 unfold Oa;rw [aT];have:((fun (x:Str × V)=>x.1) ∘ fun (q:Str × Addr)=>(q.1,V.ref q.2))=Prod.fst:=rfl;rw [this,List.map_fst_zip h]
theorem NZ {ps:List Str} {ds:List Addr} {i:Nat} {p:Str} {d:Addr} (h1:ps[i]? = some p) (h2:ds[i]? = some d):(p,V.ref d) ∈ Oa ps ds:=by
 unfold Oa;refine ZZ.mpr ⟨(p,d),ZW (i:=i) ?_,rfl⟩;rw [List.getElem?_zip_eq_some];exact ⟨h1,h2⟩
structure NB (H:Hp) (B:Addr) (ps:List Str) (ds:List Addr) (P:Str->Str->Prop) (n:Nat):Prop where
 top:H B=some (.dK (sK (Oa ps ds)))
 len:ds.length=ps.length
 nd:ds.Nodup
 nB:B ∉ ds
 inner:∀ (i:Nat) (p:Str) (d:Addr),ps[i]? = some p->ds[i]? = some d->∃ nv:List (Str × V),H d=some (.dK (sK nv))/\nv.length<=n/\∀ y,y ∈ nv.map (·.1) ↔ P p y
theorem NB.get {H:Hp} {B:Addr} {ps:List Str} {ds:List Addr} {P:Str->Str->Prop} {n:Nat} (h:NB H B ps ds P n) (hn:ps.Nodup) {p:Str} (hp:p ∈ ps) :
  ∃ (i:Nat) (d:Addr) (nv:List (Str × V)),ps[i]? = some p/\ds[i]? = some d/\BF (sK (Oa ps ds)) (Sum.inr p:AK)=some (.ref d)/\H d=some (.dK (sK nv))/\nv.length<=n/\∀ y,y ∈ nv.map (·.1) ↔ P p y:=by
 obtain ⟨i,hi,e⟩:=aF hp;have e1:ps[i]? = some p:=by rw [ZS hi,e]
 have Yn:i < ds.length:=by rw [h.len]; exact hi
 have e2:ds[i]? = some ds[i]:=ZS Yn;obtain ⟨nv,a1,a2,a3⟩:=h.inner i p _ e1 e2;refine ⟨i,_,nv,e1,e2,Cm ?_ (NZ e1 e2),a1,a2,a3⟩;rw [Im (by rw [h.len]; exact ZX _)];exact hn
theorem NB.put {H:Hp} {B:Addr} {ps:List Str} {ds:List Addr} {P:Str->Str->Prop} {n:Nat} (h:NB H B ps ds P n) {i:Nat} {p y:Str} {d:Addr} (hn:ps.Nodup) (e1:ps[i]? = some p) (e2:ds[i]? = some d) {nv DL:List (Str × V)} (hd:H d=some (.dK (sK nv)))
  (hl:DL.length<=nv.length + 1) (hk:∀ z,z ∈ DL.map (·.1) ↔ z ∈ nv.map (·.1)\/z=y) (hP:∀ z,z ∈ nv.map (·.1) ↔ P p z) (hln:nv.length<=n):NB (upd H d (.dK (sK DL))) B ps ds (fun a b=>P a b\/(a=p/\b=y)) (n + 1):=by
 have dm:d ∈ ds:=ZW e2;refine ⟨by rw [Ae (fun z=>h.nB (by rw [z]; exact dm))]; exact h.top,h.len,h.nd,h.nB,fun j q c f1 f2=>?_⟩;by_cases z:c=d
 ·subst z;have ij:i=j:=GQ h.nd e2 f2;subst ij;rw [e1] at f1; cases f1;refine ⟨DL,Ab,by lia,fun z=>?_⟩;rw [hk,hP];simp
 ·obtain ⟨nw,b1,b2,b3⟩:=h.inner j q c f1 f2;refine ⟨nw,by rw [Ae z]; exact b1,by lia,fun y'=>?_⟩;rw [b3];have:q ≠ p:=by
   rintro rfl;have ij:=GQ hn e1 f1;subst ij;rw [e2] at f2; cases f2;exact z rfl
  simp [this]
theorem NB.mono {H:Hp} {B:Addr} {ps:List Str} {ds:List Addr} {P P':Str->Str->Prop} {n m:Nat} (h:NB H B ps ds P n) (hP:∀ a b,P a b ↔ P' a b) (hn:n<=m):NB H B ps ds P' m:=
 ⟨h.top,h.len,h.nd,h.nB,fun i p d e1 e2=>let ⟨nv,a1,a2,a3⟩:=h.inner i p d e1 e2; ⟨nv,a1,by lia,fun y=>(a3 y).trans (hP p y)⟩⟩
structure IU (H:Hp) (q:Addr) (ps:List Str) (ws:List AI) (r:Str):Prop where
 web:Web H q ps ws
 nd:ps.Nodup
 l30:ps.length<=30
 l64:ws.length < 64
 ends:∀ u ∈ ws,u.1 ∈ ps/\u.2.1 ∈ ps
 first:ps[0]? = some r
 con:∀ S:Str->Prop,S r->(∀ x y,Lb ws x y->S x->S y)->∀ x ∈ ps,S x
theorem IU.same {H H':Hp} {q:Addr} {ps:List Str} {ws:List AI} {r:Str} (h:IU H q ps ws r) (s:AD H H'):IU H' q ps ws r:=
 ⟨h.web.same fun b xs z=>s _ _ z,h.nd,h.l30,h.l64,h.ends,h.first,h.con⟩
theorem RW {ws:List AI} {i:Nat} {u:AI} (h:ws[i]? = some u) (a b:Str):Lb (ws.take (i + 1)) a b ↔ (Lb (ws.take i) a b\/(a=u.1/\b=u.2.1))\/(a=u.2.1/\b=u.1):=by
 rw [aD,h];constructor
 ·rintro ⟨v,hv,e⟩;rcases aG.mp hv with hv | hv
  ·exact .inl (.inl ⟨v,hv,e⟩)
  ·have:v=u:=by simpa using hv
   subst this;rcases e with ⟨e1,e2⟩ | ⟨e1,e2⟩
   ·exact .inl (.inr ⟨e1.symm,e2.symm⟩)
   ·exact .inr ⟨e2.symm,e1.symm⟩
 ·rintro ((⟨v,hv,e⟩ | ⟨rfl,rfl⟩) | ⟨rfl,rfl⟩)
  ·exact ⟨v,aV _ hv,e⟩
  ·exact ⟨u,aw _ (by simp),.inl ⟨rfl,rfl⟩⟩
  ·exact ⟨u,aw _ (by simp),.inr ⟨rfl,rfl⟩⟩
structure NR (H:Hp) (B:Addr) (ps:List Str) (ds:List Addr) (P:Str->Str->Prop):Prop where
 top:H B=some (.dK (sK (Oa ps ds)))
 len:ds.length=ps.length
 nd:ds.Nodup
 nB:B ∉ ds
 inner:∀ (i:Nat) (p:Str) (d:Addr),ps[i]? = some p->ds[i]? = some d->∃ nv:List (Str × V),Rd H d (.dK (sK nv))/\∀ y,y ∈ nv.map (·.1) ↔ P p y
theorem NB.r {H:Hp} {B:Addr} {ps:List Str} {ds:List Addr} {P:Str->Str->Prop} {n:Nat} (h:NB H B ps ds P n):NR H B ps ds P:=
 ⟨h.top,h.len,h.nd,h.nB,fun i p d e1 e2=>let ⟨nv,a1,_,a3⟩:=h.inner i p d e1 e2; ⟨nv,.inl a1,a3⟩⟩
theorem NR.get {H:Hp} {B:Addr} {ps:List Str} {ds:List Addr} {P:Str->Str->Prop} (h:NR H B ps ds P) (hn:ps.Nodup) {p:Str} (hp:p ∈ ps) :
  ∃ (i:Nat) (d:Addr) (nv:List (Str × V)),ps[i]? = some p/\ds[i]? = some d/\BF (sK (Oa ps ds)) (Sum.inr p:AK)=some (.ref d)/\Rd H d (.dK (sK nv))/\∀ y,y ∈ nv.map (·.1) ↔ P p y:=by
 obtain ⟨i,hi,e⟩:=aF hp;have e1:ps[i]? = some p:=by rw [ZS hi,e]
 have Yn:i < ds.length:=by rw [h.len]; exact hi
 have e2:ds[i]? = some ds[i]:=ZS Yn;obtain ⟨nv,a1,a3⟩:=h.inner i p _ e1 e2;refine ⟨i,_,nv,e1,e2,Cm ?_ (NZ e1 e2),a1,a3⟩;rw [Im (by rw [h.len]; exact ZX _)];exact hn
theorem Rd.ne {H:Hp} {a b:Addr} {u o:HO} (h:Rd H a u) (hb:a ≠ b):Rd (upd H b o) a u:=by
 rcases h with h | ⟨ob,h⟩
 ·exact .inl (by rw [Ae hb]; exact h)
 ·exact .inr ⟨ob,by rw [Ae hb]; exact h⟩
theorem Rd.fz {H H':Hp} {a b:Addr} {u:HO} {kvs:List (AK × V)} {o:Obj} (h:Rd H a u) (f:Eo H b kvs o H') (hb:a ≠ b):Rd H' a u:=by
 rcases h with h | ⟨ob,h⟩
 ·exact .inl (by rw [f.ne hb]; exact h)
 ·exact .inr ⟨ob,by rw [f.ne hb]; exact h⟩
theorem NR.other {H:Hp} {B a:Addr} {ps:List Str} {ds:List Addr} {P:Str->Str->Prop} {o:HO} (h:NR H B ps ds P) (ha:a ∉ ds) (hB:a ≠ B):NR (upd H a o) B ps ds P:=
 ⟨by rw [Ae (Ne.symm hB)]; exact h.top,h.len,h.nd,h.nB,fun i p d e1 e2=>let ⟨nv,a1,a3⟩:=h.inner i p d e1 e2
  ⟨nv,a1.ne (fun z=>ha (by rw [<-z]; exact ZW e2)),a3⟩⟩
theorem NR.freeze {H H':Hp} {B:Addr} {ps:List Str} {ds:List Addr} {P:Str->Str->Prop} (h:NR H B ps ds P) {i:Nat} {p:Str} {d:Addr} (e1:ps[i]? = some p) (e2:ds[i]? = some d) {nv:List (Str × V)} {o:Obj} (f:Eo H d (sK nv) o H') (hP:∀ y,y ∈ nv.map (·.1) ↔ P p y):NR H' B ps ds P:=by
 have dm:d ∈ ds:=ZW e2;refine ⟨by rw [f.ne (fun z=>h.nB (by rw [z]; exact dm))]; exact h.top,h.len,h.nd,h.nB,fun j q c f1 f2=>?_⟩;by_cases z:c=d
 ·subst z;have ij:i=j:=GQ h.nd e2 f2;subst ij;rw [e1] at f1; cases f1;exact ⟨nv,.inr ⟨o,f.at⟩,hP⟩
 ·obtain ⟨nw,b1,b3⟩:=h.inner j q c f1 f2;exact ⟨nw,b1.fz f z,b3⟩
theorem SE {nv DL:List (Str × V)} {y:Str} {v:V} (e:Bq (sK nv) (Sum.inr y:AK) v=sK DL) (hn:(nv.map (·.1)).Nodup):(DL.map (·.1)).Nodup:=by
 have inj:∀ {a b:List (Str × V)},(sK a).map (·.1)=(sK b).map (·.1)->a.map (·.1)=b.map (·.1):=fun {a b} h=>by
  rw [Kk,Kk] at h;exact g7 (fun x y z=>Sum.inr.inj z) |>.mp h
 by_cases h:y ∈ nv.map (·.1)
 ·have e2:(Bq (sK nv) (Sum.inr y:AK) v).map (·.1)=(sK nv).map (·.1):=by
   unfold Bq;have:((sK nv).any fun kv=>decide (kv.1=(Sum.inr y:AK)))=true:=by rw [Cg,GJ,decide_eq_true h]
   rw [if_pos this,aT];refine bD fun q _=>?_
   by_cases e:q.1=(Sum.inr y:AK) <;> simp [e]
  rw [e] at e2;rw [inj e2];exact hn
 ·rw [CZ h] at e;have e2:(nv ++ [(y,v)]).map (·.1)=DL.map (·.1):=inj (by rw [e]);rw [<-e2,aa];refine b8.mpr ⟨hn,br.mpr ⟨by simp,.nil⟩,fun a ha b hb=>?_⟩;have e3:b=y:=by simpa using hb
  subst e3;rintro rfl;exact h ha
section
variable {ws:List AI} {r:Str} {bs:List (Str × Option Str)} {wk:List (Str × List Str)} {ps:List Str}
end
theorem Gp {α:Type} {l:List (Str × α)} (h:(l.map (·.1)).Nodup) (f:Str × α->Bool):((l.filter f).map (·.1)).Nodup:=by
 have s:List.Sublist ((l.filter f).map (·.1)) (l.map (·.1)):=List.Sublist.map _ dk;exact s.nodup h
theorem Au.thaw {X:Cx} {pins:List (Addr × Obj)} {σ:St} {H:Hp} {s:Shared} {a:Addr} {o:Obj} {u:HO} (I:Au X pins σ H s) (e:H a=some (.frz o u)) (h0:∀ ob w,X.H₀ a ≠ some (.frz ob w)) (hu:u ≠ .own a/\∀ xs,u ≠ .tup xs):Au X pins σ (upd H a u) s:=by
 obtain ⟨ho,hok⟩:=(show AU X.prog X.w H s.heap a (.frz o u) from I.hok a _ e)
 have nn:∀ b,H b=none->b ≠ a:=fun b hb z=>by rw [z,e] at hb; cases hb
 have own:∀ b y,H b=some (.own y)->b ≠ a:=fun b y hb z=>by rw [z,e] at hb; cases hb
 have tup:∀ b xs,H b=some (.tup xs)->b ≠ a:=fun b xs hb z=>by rw [z,e] at hb; cases hb
 refine ⟨I.ok,I.os,I.bare,⟨I.base.keep,I.base.slot,fun b ob q n hx=>?_,I.base.there,fun b xs q=>?_,fun b ob w q=>?_,fun b ps q=>?_⟩,I.loc,I.cell,?_,fun x c q=>?_,fun p hp=>?_,fun b w q=>?_,I.len⟩
 ·have z:=I.base.free b ob q n hx;rw [Ae (nn b z)]; exact z
 ·have z:=I.base.tups b xs q;rw [Ae (tup b xs z)]; exact z
 ·have z:=I.base.frzs b ob w q;by_cases hb:b=a
  ·subst hb; exact absurd q (h0 ob w)
  ·rw [Ae hb]; exact z
 ·obtain ⟨more,z⟩:=I.base.tbls b ps q;refine ⟨more,?_⟩;rw [Ae (fun hb=>by rw [hb,e] at z; cases z)]; exact z
 ·rw [Ae (nn _ I.free)]; exact I.free
 ·rw [Ae (nn _ (I.freeC x c q))]; exact I.freeC x c q
 ·obtain ⟨z1,z2,z3⟩:=I.pin p hp;exact ⟨z1,by rw [Ae (nn _ z2)]; exact z2,z3⟩
 ·by_cases hb:b=a
  ·subst hb;rw [Ab] at q;cases q
   exact hok.stay (fun c v _ z=>z) (fun c z=>by rw [Ae (own c _ z)]; exact z) fun c xs z=>by rw [Ae (tup c xs z)]; exact z
  ·rw [Ae hb] at q;exact (I.hok b w q).stay (fun c v _ z=>z) (fun c z=>by rw [Ae (own c _ z)]; exact z) fun c xs z=>by rw [Ae (tup c xs z)]; exact z
theorem SR {X:Cx} {e:Expr} {t:TE} (h:PE X e t):PE X e (fun σ H Q=>t σ H fun x H1=>∃ a o kvs,H1 a=some (.frz o (.dK kvs))/\(∀ ob w,X.H₀ a ≠ some (.frz ob w))/\Q x (upd H1 a (.dK kvs))):=by
 intro pins s σ H Q I q;refine BC (h (pins:=pins) s σ H _ I q) fun v s1 ⟨x,H1,I1,r1,a,o,kvs,e1,h0,q1⟩=>?_
 exact ⟨x,_,I1.thaw e1 h0 ⟨(by intro z; cases z),(by intro xs z; cases z)⟩,r1,q1⟩
def C2 (A:Around) (s:Shared) (x y:Value) (b:Bool):Prop:=∀ (prog:Program) (w:World) (E Q:Value->Shared->Prop),Q (.bool b) s->wpAny (model prog w) A (richCompare .Lt x y) Q E s
theorem C2.int (A:Around) (s:Shared) (a:Int) (t:Tok) (c:Int) (u:Tok):C2 A s (.int a t) (.int c u) (decide (a < c)):=fun prog w E Q h=>
 (PyProof.Rows.lt_int h:wpAny (model prog w) A (compareOp .Lt (.int a t) (.int c u)) Q E s)
theorem C2.str (A:Around) (s:Shared) (a:Str) (t:Tok) (c:Str) (u:Tok):C2 A s (.str a t) (.str c u) (decide (a.cps.toList < c.cps.toList)):=fun prog w E Q h=>
 (PySem.P.lt_str h:wpAny (model prog w) A (compareOp .Lt (.str a t) (.str c u)) Q E s)
section
open PySem.SeqAt
open PySem.AutoSeq1 (wpAny_loadPart')
open PySem.MeetsSeq PySem.MeetsSeq2 PySem.MeetsSeq3
theorem O3 (l b:Addr) (x1 x2 y1 y2:Value) (n n2:Nat) (dd Mw:Option Addr) (sl PV:Array (Option Value)) (e1 b1 e2 b2:Bool) :
  Meets (Builtin.«tuple.__lt__» ⟨[.ref l,.ref b],[]⟩)
   (fun A R s=>s.heap.get? l=some { cls:=.type "tuple",dict:=dd,data:=.seq #[x1,x2] n,slots:=sl }/\s.heap.get? b=some { cls:=.type "tuple",dict:=Mw,data:=.seq #[y1,y2] n2,slots:=PV } /\
    EqAt A.in1 s x1 y1 e1/\(e1=false->C2 A.in1 s x1 y1 b1)/\(e1=true->EqAt A.in1 s x2 y2 e2/\(e2=false->C2 A.in1 s x2 y2 b2)) /\
    R (.ok (.ret (.bool (if e1=true then (if e2=true then false else b2) else b1)))) s):=
 .of_wp fun prog w A R s h=>by
  obtain ⟨hp,g,d,tk,os⟩:=s; obtain ⟨hl,hb,he1,Pl,h2,h⟩:=h;have f2:=AutoSeq1.sub_tuple_tuple;wp_walk using wpAny_loadPart' hl,wpAny_loadPart' hb,wpAny_forIn_list _ (fun Br b s'=>b.1=none/\s'=⟨hp,g,d,tk,os⟩/\(Br=[(x1,y1),(x2,y2)]\/(Br=[(x2,y2)]/\e1=true)\/(Br=[]/\e1=true/\e2=true))) _
  case turn=>
   rintro ⟨y,x⟩ Br b s' ⟨IC,rfl,hz | ⟨hz,h1⟩ | ⟨hz,_⟩⟩
   ·cases hz
    refine wpAny_bind (he1 prog w _ _ ?_);cases ee:e1 with
    | true=>
     wp_walk
     exact ⟨rfl,rfl,.inr (.inl ⟨rfl,rfl⟩)⟩
    | false=>
     rw [ee,if_neg az] at h;have hri:=Pl ee prog w;wp_walk using hri;exact ⟨_,rfl,by simpa using h⟩
   ·cases hz
    obtain ⟨he2,PX⟩:=h2 h1;rw [if_pos h1] at h;refine wpAny_bind (he2 prog w _ _ ?_);cases ee:e2 with
    | true=>
     wp_walk
     exact ⟨rfl,rfl,.inr (.inr ⟨rfl,h1,rfl⟩)⟩
    | false=>
     rw [ee,if_neg az] at h;have hri:=PX ee prog w;wp_walk using hri;exact ⟨_,rfl,by simpa using h⟩
   ·cases hz
  case fin=>
   rintro ⟨b1',b2'⟩ s' ⟨IC,rfl,hz | ⟨hz,h1⟩ | ⟨hz,h1,h2'⟩⟩
   ·cases hz
   ·cases hz
   ·simp only at IC;subst IC;rw [if_pos h1,if_pos h2'] at h;wp_walk;exact ⟨_,rfl,by simpa [Builtin.Tuple.tupleCompareSizes] using h⟩
  case h=>
   exact ⟨rfl,rfl,.inl rfl⟩
end
theorem C2.tup2 {A:Around} {s:Shared} {l b:Addr} {x1 x2 y1 y2:Value} {e1 b1 e2 b2:Bool} (hl:IsTup s.heap l #[x1,x2]) (hb:IsTup s.heap b #[y1,y2]) (hu:A.units < cLine) (h1:SeqAt.EqAt A.in1 s x1 y1 e1) (l1:e1=false->C2 A.in1 s x1 y1 b1)
  (h2:e1=true->SeqAt.EqAt A.in1 s x2 y2 e2/\(e2=false->C2 A.in1 s x2 y2 b2)):C2 A s (.ref l) (.ref b) (if e1=true then (if e2=true then false else b2) else b1):=fun prog w E Q h=>by
 obtain ⟨⟨cls,dd,data,sl⟩,ho,hc,n,hd⟩:=id hl;obtain ⟨⟨VY,Mw,data2,PV⟩,Nd,KC,n2,hd2⟩:=id hb;simp only at hc hd KC hd2;subst hc hd KC hd2;exact richCompare_meets_room (op:=.Lt) ⟨_,ho,rfl⟩ ⟨_,Nd,rfl⟩ PySem.F.slot_tuple_lt PySem.F.entry_tuple_lt (PySem.F.args_tuple_lt_2 _ _) (O3 l b x1 x2 y1 y2 n n2 dd Mw sl PV e1 b1 e2 b2)
  ⟨ho,Nd,h1,l1,h2,show Value.bool _ ≠ Value.notImplemented/\Q (.bool _) s from ⟨(fun x=>nomatch x),h⟩⟩ hu
def Si (p q:Int × Str):Bool:=if (p.1 == q.1)=true then (if (p.2 == q.2)=true then false else decide (p.2.cps.toList < q.2.cps.toList)) else decide (p.1 < q.1)
def DB (h:Heap) (v:Value) (p:Int × Str):Prop:=∃ a t u,v=.ref a/\IsTup h a #[.int p.1 t,.str p.2 u]
theorem DB.keep {h h':Heap} {v:Value} {p:Int × Str} (x:DB h v p) (k:∀ b o,h.get? b=some o->h'.get? b=some o):DB h' v p:=by
 obtain ⟨a,t,u,rfl,o,ho,r⟩:=x;exact ⟨a,t,u,rfl,o,k _ _ ho,r⟩
theorem Oc {A:Around} {s:Shared} {v w:Value} {p q:Int × Str} (hv:DB s.heap v p) (hw:DB s.heap w q) (hu:A.units < cLine):C2 A s v w (Si p q):=by
 obtain ⟨a,t,u,rfl,hl⟩:=hv;obtain ⟨b,t',u',rfl,hb⟩:=hw;exact C2.tup2 hl hb hu (SeqAt.EqAt.int_int _ _ _ _) (fun _=>C2.int _ _ _ _ _ _) fun _=>⟨SeqAt.EqAt.str_str _ _ _ _,fun _=>C2.str _ _ _ _ _ _⟩
theorem T6 {A:Around} {s:Shared} {v w:Value} {p q:Int × Str} (hv:DB s.heap v p) (hw:DB s.heap w q) (hu:A.units < cLine):SeqAt.EqAt A s v w (decide (p=q)):=by
 obtain ⟨a,t,u,rfl,hl⟩:=hv;obtain ⟨b,t',u',rfl,hb⟩:=hw;by_cases hab:a=b
 ·subst hab;have e:p=q:=by
   obtain ⟨o,ho,hc,n,hd⟩:=hl;obtain ⟨o',K9,Mv,n',Gw⟩:=hb;rw [ho] at K9;cases K9
   rw [hd] at Gw;injection Gw with e1 e2;have e3:=congrArg eI e1;simp only [eA.injEq,Value.int.injEq,Value.str.injEq] at e3;exact Prod.ext e3.1.1 e3.2.1.1
  rw [decide_eq_true e];intro prog w E Q h;unfold eqBool;refine wpAny_holding ?_;exact wpAny_ite_split (fun _=>wpAny_bind (wpAny_rule (wpAny_pure h))) (fun hn=>absurd (by simp) hn)
 ·have key:=SeqAt.RcAt.tuples (A:=A) (s:=s) (e:=fun j=>if j=0 then p.1 == q.1 else p.2 == q.2) (show s.heap.IsTuple a #[.int p.1 t,.str p.2 u] from hl) (show s.heap.IsTuple b #[.int q.1 t',.str q.2 u'] from hb) hu (fun j h1 h2=>by
   match j,h1,h2 with
   | 0,_,_=>exact SeqAt.EqAt.int_int _ _ _ _
   | 1,_,_=>exact SeqAt.EqAt.str_str _ _ _ _
   | j + 2,h1,_=>exact absurd (show j + 2 < 2 from h1) (by lia))
  have e:((cJ (min (#[Value.int p.1 t,.str p.2 u]:Array Value).size (#[Value.int q.1 t',.str q.2 u']:Array Value).size)).all (fun j=>if j=0 then p.1 == q.1 else p.2 == q.2) && (#[Value.int p.1 t,.str p.2 u]:Array Value).size == (#[Value.int q.1 t',.str q.2 u']:Array Value).size)=decide (p=q):=by
   show ((cJ 2).all (fun j=>if j=0 then p.1 == q.1 else p.2 == q.2) && (2 == 2))=decide (p=q)
   have:(cJ 2)=[0,1]:=rfl;rw [this];simp only [fk,List.all_nil,gK,beq_self_eq_true];rw [bV];simp [Prod.ext_iff]
  rw [e] at key;exact SeqAt.EqAt.of_refs hab key
def IZ (h:Heap) (v:Value) (k:(Int × Str) × Str):Prop:=∃ a l u,v=.ref a/\IsTup h a #[.ref l,.str k.2 u]/\DB h (.ref l) k.1
theorem IZ.keep {h h':Heap} {v:Value} {p:(Int × Str) × Str} (x:IZ h v p) (k:∀ b o,h.get? b=some o->h'.get? b=some o):IZ h' v p:=by
 obtain ⟨a,l,u,rfl,⟨o,ho,r⟩,z⟩:=x;exact ⟨a,l,u,rfl,⟨o,k _ _ ho,r⟩,z.keep k⟩
def U2 (p q:(Int × Str) × Str):Bool:=if decide (p.1=q.1)=true then (if (p.2 == q.2)=true then false else decide (p.2.cps.toList < q.2.cps.toList)) else Si p.1 q.1
theorem Vt {A:Around} {s:Shared} {v w:Value} {p q:(Int × Str) × Str} (hv:IZ s.heap v p) (hw:IZ s.heap w q) (hu:A.units + 1 < cLine):C2 A s v w (U2 p q):=by
 obtain ⟨a,l,u,rfl,hl,hp⟩:=hv;obtain ⟨b,l',u',rfl,hb,hq⟩:=hw;exact C2.tup2 hl hb (by lia) (T6 hp hq (by rw [PySem.Around.in1_units]; exact hu)) (fun _=>Oc hp hq (by rw [PySem.Around.in1_units]; exact hu)) fun _=>⟨SeqAt.EqAt.str_str _ _ _ _,fun _=>C2.str _ _ _ _ _ _⟩
def Uj (prog:Program) (w:World) (A:Around) (g0:Heap) (P:Nat->Value->Prop) (bt:Nat->Nat->Bool):Prop:=
 ∀ i j vi vj (s:Shared) (Q:Value->Shared->Prop) (E:Value->Shared->Prop),(∀ b o,g0.get? b=some o->s.heap.get? b=some o)->P i vi->P j vj->Q (.bool (bt i j)) s->wpAny (model prog w) A (richCompare .Lt vi vj) Q E s
section
variable {prog:Program} {w:World} {A:Around} {R:Result->Shared->Prop} {I:Addr} {fp wr:List Addr} {n:Nat} {P:Nat->Value->Prop} {St:Nat->Heap->Prop} {g0:Heap}
theorem OZ (W:Walks prog w A.in1 I fp wr n P St) (bt:Nat->Nat->Bool) (cm:Uj prog w A.in1 g0 P bt) (S:Addr) (nS:S ∉ fp) (gw:∀ b o,g0.get? b=some o->b ∉ wr/\b ≠ S) :
  ∀ (m j:Nat) (s:Shared) (bv:Value) (c:Nat),n - (j + 1)=m->j + 1<=n->St (j + 1) s.heap->P (argBest bt j) bv->(∀ b o,g0.get? b=some o->s.heap.get? b=some o) ->
  s.heap.get? S=some { cls:=.type "list",dict:=none,data:=.seq #[bv,bv] c,slots:=#[] } ->
  (∀ v h2 tk,P (argBest bt (n - 1)) v->(∀ b o,b ∉ wr->b ≠ S->s.heap.get? b=some o->h2.get? b=some o)->R (.ok (.ret v)) { s with heap:=h2,toks:=tk }) ->
  codeAny (model prog w) A (.builtin "min.loop" ⟨[.ref I,.none,.ref S],[]⟩) R s:=by
 have Sw:S ∉ wr:=fun z=>nS (W.sub _ z)
 have nm:(toString "min" ++ toString ".loop":String)="min.loop":=by decide
 intro m;induction m with
 | zero=>
  intro j s bv c hm hj st pb g1 aS r;have jn:j + 1=n:=by lia
  refine codeAny_builtin F.entry_min_loop ?_;rw [Around.under_plainId F.plain_min_loop _];refine wpAny_bind (m:=seqItems? (.ref S)) (wpAny_seqItems aS rfl ?_);refine wpAny_bind (wpAny_tryCatch (W.done s _ _ (jn ▸ st) fun h2 tk k2=>?_));have UI:=k2 S _ Sw aS;refine wpAny_bind (m:=updateSeq S (fun _=>#[])) ?_;refine wpAny_updateSeq UI rfl (wpAny_bind (wpAny_letGo (wpAny_pure ?_)));exact r bv _ tk (by rw [<-jn]; exact pb) fun b o bw bS e=>(bj _ _ (Ne.symm bS)).trans (k2 b o bw e)
 | succ m ih=>
  intro j s bv c hm hj st pb g1 aS r;have lt:j + 1 < n:=by lia
  refine codeAny_builtin F.entry_min_loop ?_;rw [Around.under_plainId F.plain_min_loop _];refine wpAny_bind (m:=seqItems? (.ref S)) (wpAny_seqItems aS rfl ?_);refine wpAny_bind (wpAny_tryCatch (W.item (j + 1) s _ _ lt st fun v h2 tk pv G5 k2=>?_));have UI:=k2 S _ Sw aS;have g2:∀ b o,g0.get? b=some o->h2.get? b=some o:=fun b o e=>k2 b o (gw b o e).1 (g1 b o e)
  show wpAny _ A.in1 (tryCatch (holding [v,v] (richCompare .Lt v bv >>= _)) _ >>= _) _ _ _
  refine wpAny_bind (wpAny_tryCatch (wpAny_holding (wpAny_bind (cm (j + 1) (argBest bt j) v bv _ _ _ g2 pv pb ?_))));refine wpAny_bind (wpAny_holding (wpAny_truthy_bool ?_));refine wpAny_bind (wpAny_letGo (wpAny_pure ?_));cases hb:bt (j + 1) (argBest bt j) with
  | true=>
   simp only [if_true];refine wpAny_bind ?_;refine wpAny_updateSeq UI rfl (wpAny_bind (wpAny_letGo ?_));rw [nm];refine wpAny_pure ⟨plainId_quiet F.plain_min_loop _,ih (j + 1) _ v _ (by lia) lt (W.frame _ _ _ G5 fun b bf o e=>?_) (by simp only [argBest,hb,if_true]; exact pv) (fun b o e=>?_) (b7 _ UI rfl) fun v' h3 UW WA k3=>?_⟩
   ·exact (bj _ _ (fun z:S=b=>nS (by rw [z]; exact bf))).trans e
   ·exact (bj _ _ (Ne.symm (gw b o e).2)).trans (g2 b o e)
   ·exact r v' h3 UW WA fun b o bw bS e=>k3 b o bw bS ((bj _ _ (Ne.symm bS)).trans (k2 b o bw e))
  | false=>
   simp only [aq,if_false];refine wpAny_bind (wpAny_letGo ?_);rw [nm];refine wpAny_pure ⟨plainId_quiet F.plain_min_loop _,ih (j + 1) _ bv c (by lia) lt G5 (by simp only [argBest,hb,aq,if_false]; exact pb) g2 UI fun v' h3 UW WA k3=>?_⟩;exact r v' h3 UW WA fun b o bw bS e=>k3 b o bw bS (k2 b o bw e)
theorem Io (W:Walks prog w A.in1 I fp wr n P St) (bt:Nat->Nat->Bool) (cm:Uj prog w A.in1 g0 P bt) (S:Addr) (nS:S ∉ fp) (gw:∀ b o,g0.get? b=some o->b ∉ wr/\b ≠ S) (hn:0 < n) {s:Shared} {c:Nat} (st:St 0 s.heap)
  (g1:∀ b o,g0.get? b=some o->s.heap.get? b=some o) (aS:s.heap.get? S=some { cls:=.type "list",dict:=none,data:=.seq #[] c,slots:=#[] })
  (r:∀ v h2 tk,P (argBest bt (n - 1)) v->(∀ b o,b ∉ wr->b ≠ S->s.heap.get? b=some o->h2.get? b=some o)->R (.ok (.ret v)) { s with heap:=h2,toks:=tk }) :
  codeAny (model prog w) A (.builtin "min.loop" ⟨[.ref I,.none,.ref S],[]⟩) R s:=by
 have Sw:S ∉ wr:=fun z=>nS (W.sub _ z)
 have nm:(toString "min" ++ toString ".loop":String)="min.loop":=by decide
 refine codeAny_builtin F.entry_min_loop ?_;rw [Around.under_plainId F.plain_min_loop _];refine wpAny_bind (m:=seqItems? (.ref S)) (wpAny_seqItems aS rfl ?_);refine wpAny_bind (wpAny_tryCatch (W.item 0 s _ _ hn st fun v h2 tk pv G5 k2=>?_));have UI:=k2 S _ Sw aS;refine wpAny_bind (m:=updateSeq S (fun _=>#[v,v])) ?_;refine wpAny_updateSeq UI rfl ?_;rw [nm];refine wpAny_pure ⟨plainId_quiet F.plain_min_loop _,OZ W bt cm S nS gw _ 0 _ v _ rfl hn (W.frame _ _ _ G5 fun b bf o e=>?_) pv (fun b o e=>?_) (b7 _ UI rfl) fun v' h3 UW WA k3=>?_⟩
 ·exact (bj _ _ (fun z:S=b=>nS (by rw [z]; exact bf))).trans e
 ·exact (bj _ _ (Ne.symm (gw b o e).2)).trans (k2 b o (gw b o e).1 (g1 b o e))
 ·exact r v' h3 UW WA fun b o bw bS e=>k3 b o bw bS ((bj _ _ (Ne.symm bS)).trans (k2 b o bw e))
end
section
variable {prog:Program} {w:World} {A:Around} {E:Value->Shared->Prop} {s:Shared}
theorem Gr {l:Addr} {vs:List Value} {bt:Nat->Nat->Bool} {Q:Value->Shared->Prop} (hh:A.handled=none) (hl:s.heap.IsList l vs.toArray) (hn:0 < vs.length) (cm:Uj prog w A.in1 s.heap (fun i v=>vs[i]? = some v) bt)
  (h:∀ v h2 tk,vs[argBest bt (vs.length - 1)]? = some v->(∀ b o,s.heap.get? b=some o->h2.get? b=some o)->Q v { s with heap:=h2,toks:=tk }):wpAny (model prog w) A (call (.builtin "min") [.ref l]) Q E s:=by
 have nm:(toString "min" ++ toString ".loop":String)="min.loop":=by decide
 have BE:l < s.heap.objs.size:=by obtain ⟨o,ho,_⟩:=id hl; exact ae ho
 refine call_function_tree F.kind_min F.plain_min F.entry_min (F.args_min1 _) ?_;refine wpAny_bind (wpAny_of_eq (show Builtin.Builtins.bindParams "min" ["key","default"] 0 ⟨[],[]⟩=pure [none,none] from rfl) ?_);refine wpAny_bind (wpAny_pure ?_);refine wpAny_bind (wpAny_pyIter_list hl ?_);refine wpAny_bind (wpAny_newObj_type ?_);rw [nm];have sz:(s.heap.push { cls:=.type "list_iterator",data:=.fields #[.ref l,.int 0 0] }).objs.size=s.heap.objs.size + 1:=bx ..;have W:=(Walks.list (prog:=prog) (w:=w) (A:=A.in1) hh s.heap.objs.size l (ao BE) vs.toArray).weaken (P':=fun i v=>vs[i]? = some v) (fun i v e=>by simpa using e);refine wpAny_pure ⟨plainId_quiet F.plain_min_loop _,Io (g0:=s.heap) W bt cm (s.heap.push { cls:=.type "list_iterator",data:=.fields #[.ref l,.int 0 0] }).objs.size (fun hm=>?_) (fun b o e=>⟨fun hm=>?_,fun z=>?_⟩) (by simpa using hn) ?_ (fun b o e=>ZT _ (ZT _ e)) (ah _ rfl) fun v h2 tk pv k2=>?_⟩
 ·rw [sz] at hm;rcases ZU.mp hm with z | hm
  ·exact absurd z (Nat.succ_ne_self _)
  ·rcases ZU.mp hm with z | hm
   ·exact absurd z (bA (aN BE))
   ·cases hm
 ·have:=ae e;rw [ar.mp hm] at this;exact absurd this (bp _)
 ·have:=ae e;rw [z,sz] at this;exact absurd this (dU.mpr (aW _))
 ·exact ⟨⟨_,ZT _ (ah _ rfl),rfl,rfl⟩,(hl.push _).push _⟩
 ·refine h v h2 tk (by simpa using pv) fun b o e=>k2 b o (fun hm=>?_) (fun z=>?_) (ZT _ (ZT _ e))
  ·have:=ae e;rw [ar.mp hm] at this;exact absurd this (bp _)
  ·have:=ae e;rw [z,sz] at this;exact absurd this (dU.mpr (aW _))
end
section
variable {prog:Program} {w:World} {A:Around} {E:Value->Shared->Prop} {s:Shared}
theorem Rv {a b:Value} {bt:Nat->Nat->Bool} {Q:Value->Shared->Prop} (hh:A.handled=none) (cm:Uj prog w A.in1 s.heap (fun i v=>[a,b][i]? = some v) bt)
  (h:∀ v h2 tk,[a,b][argBest bt 1]? = some v->(∀ c o,s.heap.get? c=some o->h2.get? c=some o)->Q v { s with heap:=h2,toks:=tk }):wpAny (model prog w) A (call (.builtin "min") [a,b]) Q E s:=by
 have nm:(toString "min" ++ toString ".loop":String)="min.loop":=by decide
 have hT:(s.heap.push { cls:=.type "tuple",data:=.seq #[a,b] }).IsTuple s.heap.objs.size #[a,b]:=⟨_,ah _ rfl,rfl,0,rfl⟩
 refine call_function_tree F.kind_min F.plain_min F.entry_min (F.args_min2 _ _) ?_;refine wpAny_bind (wpAny_of_eq (show Builtin.Builtins.bindParams "min" ["key","default"] 0 ⟨[],[]⟩=pure [none,none] from rfl) ?_);show wpAny _ A.in1 (newTuple [a,b] >>= _) _ _ s
 refine wpAny_bind (wpAny_newObj_type ?_);refine wpAny_bind (wpAny_pyIter_tuple hT ?_);refine wpAny_bind (wpAny_newObj_type ?_);rw [nm];have s1:(s.heap.push { cls:=.type "tuple",data:=.seq #[a,b] }).objs.size=s.heap.objs.size + 1:=bx ..;have s2:((s.heap.push { cls:=.type "tuple",data:=.seq #[a,b] }).push { cls:=.type "tuple_iterator",data:=.fields #[.ref s.heap.objs.size,.int 0 0] }).objs.size=s.heap.objs.size + 2:=by rw [bx,s1]
 have W:=(Walks.tuple (prog:=prog) (w:=w) (A:=A.in1) hh (s.heap.push { cls:=.type "tuple",data:=.seq #[a,b] }).objs.size s.heap.objs.size (by rw [s1]; exact ao (aU _)) #[a,b]).weaken (P':=fun i v=>[a,b][i]? = some v) (fun i v e=>by simpa using e);refine wpAny_pure ⟨plainId_quiet F.plain_min_loop _,Io (g0:=s.heap) W bt cm ((s.heap.push { cls:=.type "tuple",data:=.seq #[a,b] }).push { cls:=.type "tuple_iterator",data:=.fields #[.ref s.heap.objs.size,.int 0 0] }).objs.size (fun hm=>?_) (fun b o e=>⟨fun hm=>?_,fun z=>?_⟩) (by simp) ?_ (fun b o e=>ZT _ (ZT _ (ZT _ e))) (ah _ rfl) fun v h2 tk pv k2=>?_⟩
 ·rw [s2] at hm;rcases ZU.mp hm with z | hm
  ·rw [s1] at z; exact absurd z (bA (aU _))
  ·rcases ZU.mp hm with z | hm
   ·exact absurd z (bA (aN (aU _)))
   ·cases hm
 ·have:=ae e;rw [ar.mp hm,s1] at this;exact absurd this (dU.mpr (aW _))
 ·have:=ae e;rw [z,s2] at this;exact absurd this (dU.mpr (aQ (aW _) (aW _)))
 ·exact ⟨⟨_,ZT _ (ah _ rfl),rfl,rfl⟩,(hT.push _).push _⟩
 ·refine h v h2 tk (by simpa using pv) fun b o e=>k2 b o (fun hm=>?_) (fun z=>?_) (ZT _ (ZT _ (ZT _ e)))
  ·have:=ae e;rw [ar.mp hm,s1] at this;exact absurd this (dU.mpr (aW _))
  ·have:=ae e;rw [z,s2] at this;exact absurd this (dU.mpr (aQ (aW _) (aW _)))
end
theorem IS (bt:Nat->Nat->Bool) (num:Nat->Int) (h1:∀ i j,bt i j=true->num i<=num j) (h2:∀ i j,bt i j=false->num j<=num i):∀ k,argBest bt k<=k/\∀ j,j<=k->num (argBest bt k)<=num j
 | 0=>⟨ZX _,fun j hj=>by
  have:j=0:=by lia
  subst this; exact bJ _⟩
 | k + 1=>by
  obtain ⟨a1,a2⟩:=IS bt num h1 h2 k;simp only [argBest];cases hc:bt (k + 1) (argBest bt k) with
  | true=>
   simp only [if_true];refine ⟨ZX _,fun j hj=>?_⟩;have:=h1 _ _ hc;by_cases JF:j<=k
   ·have:=a2 j JF; lia
   ·have:j=k + 1:=by lia
    subst this; exact bJ _
  | false=>
   simp only [aq,if_false];refine ⟨cQ a1,fun j hj=>?_⟩;by_cases JF:j<=k
   ·exact a2 j JF
   ·have:j=k + 1:=by lia
    subst this; exact h2 _ _ hc
def JU (H:Hp) (v:V) (p:Int × Str):Prop:=∃ t,v=.ref t/\H t=some (.tup [.int p.1,.str p.2])
def UO (H:Hp) (v:V) (k:(Int × Str) × Str):Prop:=∃ t t2,v=.ref t/\H t=some (.tup [.ref t2,.str k.2])/\JU H (.ref t2) k.1
theorem JU.same {H H':Hp} {v:V} {p:Int × Str} (h:JU H v p) (s:∀ b xs,H b=some (.tup xs)->H' b=some (.tup xs)):JU H' v p:=let ⟨t,e,z⟩:=h; ⟨t,e,s _ _ z⟩
theorem UO.same {H H':Hp} {v:V} {p:(Int × Str) × Str} (h:UO H v p) (s:∀ b xs,H b=some (.tup xs)->H' b=some (.tup xs)):UO H' v p:=let ⟨t,t2,e,z,q⟩:=h; ⟨t,t2,e,s _ _ z,q.same s⟩
theorem JU.at {X:Cx} {pins:List (Addr × Obj)} {σ:St} {H:Hp} {s:Shared} {v:V} {u:Value} {p:Int × Str} (I:Au X pins σ H s) (r:AF v u) (h:JU H v p):DB s.heap u p:=by
 obtain ⟨t,rfl,ht⟩:=h;cases r
 obtain ⟨Az,rv,pl,hz⟩:=I.tuple (A2.of ht);cases rv with
 | cons a1 b1=>
  cases b1 with
  | cons a2 b2=>
   cases b2
   obtain ⟨t1,rfl⟩:=a1;obtain ⟨t2,rfl⟩:=a2;exact ⟨t,t1,t2,rfl,pl⟩
theorem UO.at {X:Cx} {pins:List (Addr × Obj)} {σ:St} {H:Hp} {s:Shared} {v:V} {u:Value} {k:(Int × Str) × Str} (I:Au X pins σ H s) (r:AF v u) (h:UO H v k):IZ s.heap u k:=by
 obtain ⟨t,l,rfl,ht,hp⟩:=h;cases r
 obtain ⟨Az,rv,pl,hz⟩:=I.tuple (A2.of ht);cases rv with
 | cons a1 b1=>
  cases b1 with
  | cons a2 b2=>
   cases b2
   cases a1
   obtain ⟨t2,rfl⟩:=a2;exact ⟨t,l,t2,rfl,pl,hp.at I (show AF (V.ref l) (Value.ref l) from rfl)⟩
def D6 (p q:Int × Str):Prop:=p.1 < q.1\/(p.1=q.1/\¬ q.2.cps.toList < p.2.cps.toList)
theorem D6.refl (p:Int × Str):D6 p p:=.inr ⟨rfl,eh _⟩
theorem D6.trans {p q r:Int × Str} (h1:D6 p q) (h2:D6 q r):D6 p r:=by
 rcases h1 with a | ⟨a,b⟩ <;> rcases h2 with c | ⟨c,d⟩
 ·exact .inl (by lia)
 ·exact .inl (by lia)
 ·exact .inl (by lia)
 ·exact .inr ⟨by lia,cK.mpr (gL (cK.mp b) (cK.mp d))⟩
theorem D6.add {d d' l:Int} {s s':Str} (h:D6 (d,s) (d',s')):D6 (d + l,s) (d' + l,s'):=by
 rcases h with a | ⟨a,b⟩
 ·have a':d < d':=a;exact .inl (show d + l < d' + l by lia)
 ·have a':d=d':=a;exact .inr ⟨show d + l=d' + l by lia,b⟩
theorem D6.up {d d':Int} {s:Str} (h:d<=d'):D6 (d,s) (d',s):=by
 by_cases e:d=d'
 ·exact .inr ⟨e,eh _⟩
 ·exact .inl (show d < d' by lia)
theorem D6.fst {p q:Int × Str} (h:D6 p q):p.1<=q.1:=by
 rcases h with a | ⟨a,_⟩ <;> lia
theorem Od {p q:Int × Str} (h:Si p q=true):D6 p q:=by
 unfold Si at h;by_cases e:(p.1 == q.1)=true
 ·have e':p.1=q.1:=by simpa using e
  rw [if_pos e] at h;by_cases e2:(p.2 == q.2)=true
  ·rw [if_pos e2] at h; cases h
  ·rw [if_neg e2] at h;exact .inr ⟨e',gM (by simpa using h)⟩
 ·rw [if_neg e] at h;exact .inl (by simpa using h)
theorem Oe {p q:Int × Str} (h:Si p q=false):D6 q p:=by
 unfold Si at h;by_cases e:(p.1 == q.1)=true
 ·have e':p.1=q.1:=by simpa using e
  rw [if_pos e] at h;by_cases e2:(p.2 == q.2)=true
  ·have Yu:p.2=q.2:=by simpa using e2
   exact .inr ⟨e'.symm,by rw [Yu]; exact eh _⟩
  ·rw [if_neg e2] at h;exact .inr ⟨e'.symm,by simpa using h⟩
 ·rw [if_neg e] at h;have e':¬ p.1=q.1:=by simpa using e
  have:¬ p.1 < q.1:=by simpa using h
  exact .inl (by lia)
theorem Tf {p q:(Int × Str) × Str} (h:U2 p q=true):D6 p.1 q.1:=by
 unfold U2 at h;by_cases e:decide (p.1=q.1)=true
 ·have:p.1=q.1:=by simpa using e
  rw [this]; exact D6.refl _
 ·rw [if_neg e] at h;exact Od h
theorem Tg {p q:(Int × Str) × Str} (h:U2 p q=false):D6 q.1 p.1:=by
 unfold U2 at h;by_cases e:decide (p.1=q.1)=true
 ·have:p.1=q.1:=by simpa using e
  rw [this]; exact D6.refl _
 ·rw [if_neg e] at h;exact Oe h
theorem Hf (bt:Nat->Nat->Bool) (num:Nat->Int × Str) (h1:∀ i j,bt i j=true->D6 (num i) (num j)) (h2:∀ i j,bt i j=false->D6 (num j) (num i)):∀ k,argBest bt k<=k/\∀ j,j<=k->D6 (num (argBest bt k)) (num j)
 | 0=>⟨ZX _,fun j hj=>by
  have:j=0:=by lia
  subst this; exact D6.refl _⟩
 | k + 1=>by
  obtain ⟨a1,a2⟩:=Hf bt num h1 h2 k;simp only [argBest];cases hc:bt (k + 1) (argBest bt k) with
  | true=>
   simp only [if_true];refine ⟨ZX _,fun j hj=>?_⟩;by_cases JF:j<=k
   ·exact (h1 _ _ hc).trans (a2 j JF)
   ·have:j=k + 1:=by lia
    subst this; exact D6.refl _
  | false=>
   simp only [aq,if_false];refine ⟨cQ a1,fun j hj=>?_⟩;by_cases JF:j<=k
   ·exact a2 j JF
   ·have:j=k + 1:=by lia
    subst this; exact h2 _ _ hc
theorem IP {X:Cx} (hc:X.calm=true) (hu:X.A.units + 64 < cLine):Bp X (.builtin "min") (fun xs H Q=>∃ (a:Addr) (vs:List V) (ks:List ((Int × Str) × Str)),xs=[.ref a]/\H a=some (.lst vs)/\vs.length=ks.length/\ks ≠ []/\(∀ (i:Nat) v k,vs[i]? = some v->ks[i]? = some k->UO H v k) /\
  ∀ v k,k ∈ ks->UO H v k->(∀ k' ∈ ks,D6 k.1 k'.1)->Q v H):=by
 intro pins s σ H xs us Q I r h;obtain ⟨a,vs,ks,rfl,ha,hl,hne,hk,q⟩:=h;obtain ⟨u,rfl,ru⟩:=Cd r;cases ru
 obtain ⟨Az,rv,pl,hz⟩:=I.list (AV.of ha);have il:Az.length=ks.length:=by rw [<-rv.length,hl]
 have pos:0 < ks.length:=bN.mpr hne;have kat:∀ (i:Nat) (v:Value),Az[i]? = some v->∃ k,ks[i]? = some k/\IZ s.heap v k/\∃ x,vs[i]? = some x/\AF x v:=fun i v e=>by
  have hi:i < Az.length:=(ag.mp e).1;have e1:vs[i]? = some vs[i]:=ZS (by lia);have e2:ks[i]? = some ks[i]:=ZS (by lia);obtain ⟨v',e3,r3⟩:=rv.get e1;rw [e] at e3;cases e3
  exact ⟨_,e2,(hk i _ _ e1 e2).at I r3,_,e1,r3⟩
 refine Gr (bt:=fun i j=>U2 (ks.getD i default) (ks.getD j default)) (I.ok.hd hc) pl.isList (by lia) (fun i j vi vj s' Q' E' g hi hj hQ=>?_) fun v h2 tk hv k2=>?_
 ·obtain ⟨ki,e1,a1,_⟩:=kat i vi hi;obtain ⟨kj,e2,a2,_⟩:=kat j vj hj;have d1:ks.getD i default=ki:=by rw [aj,e1]; rfl
  have d2:ks.getD j default=kj:=by rw [aj,e2]; rfl
  dsimp only at hQ;rw [d1,d2] at hQ;exact Vt (a1.keep g) (a2.keep g) (by rw [PySem.Around.in1_units]; lia) _ _ _ _ hQ
 ·obtain ⟨k,e1,a1,x,e3,r3⟩:=kat _ v hv;obtain ⟨b1,b2⟩:=Hf (fun i j=>U2 (ks.getD i default) (ks.getD j default)) (fun i=>(ks.getD i default).1) (fun _ _=>Tf) (fun _ _=>Tg) (Az.length - 1);refine ⟨x,H,I.kept k2,r3,q x k (ZW e1) (hk _ x k e3 e1) fun k' Ng=>?_⟩;obtain ⟨j,hj,ej⟩:=aF Ng;have:=b2 j (by lia);have d1:ks.getD (argBest (fun i j=>U2 (ks.getD i default) (ks.getD j default)) (Az.length - 1)) default=k:=by rw [aj,e1]; rfl
  have d2:ks.getD j default=k':=by rw [aj,ZS hj,ej]; rfl
  rw [d1,d2] at this;exact this
theorem Jp {X:Cx} (hc:X.calm=true) (hu:X.A.units + 64 < cLine):Bp X (.builtin "min") (fun xs H Q=>∃ (x y:V) (p q:Int × Str),xs=[x,y]/\JU H x p/\JU H y q/\((D6 q p->Q y H)/\(D6 p q->Q x H))):=by
 intro pins s σ H xs us Q I r h;obtain ⟨x,y,p,q,rfl,hx,hy,q1,q2⟩:=h;obtain ⟨u,v,rfl,ru,rv⟩:=Qi r;have pu:=hx.at I ru;have pv:=hy.at I rv;refine Rv (bt:=fun i j=>Si ([p,q].getD i default) ([p,q].getD j default)) (I.ok.hd hc) (fun i j vi vj s' Q' E' g hi hj hQ=>?_) fun z h2 tk hz k2=>?_
 ·have at':∀ (i:Nat) (vi:Value),[u,v][i]? = some vi->DB s.heap vi ([p,q].getD i default):=fun i vi e=>by
   match i,e with
   | 0,e=>cases e; exact pu
   | 1,e=>cases e; exact pv
   | i + 2,e=>cases e
  exact Oc ((at' i vi hi).keep g) ((at' j vj hj).keep g) (by rw [PySem.Around.in1_units]; lia) _ _ _ _ hQ
 ·have e:argBest (fun i j=>Si ([p,q].getD i default) ([p,q].getD j default)) 1=if Si q p=true then 1 else 0:=rfl
  rw [e] at hz;cases hl:Si q p with
  | true=>
   rw [hl,if_pos rfl] at hz;cases hz
   exact ⟨y,H,I.kept k2,rv,q1 (Od hl)⟩
  | false=>
   rw [hl,if_neg az] at hz;cases hz
   exact ⟨x,H,I.kept k2,ru,q2 (Oe hl)⟩
def BP (ws:List AI) (x y:Str) (l:Int):Prop:=∃ u ∈ ws,((u.1=x/\u.2.1=y)\/(u.1=y/\u.2.1=x))/\u.2.2=l
theorem BP.adj {ws:List AI} {x y:Str} {l:Int} (h:BP ws x y l):Lb ws x y:=let ⟨u,hu,e,_⟩:=h; ⟨u,hu,e⟩
theorem BP.symm {ws:List AI} {x y:Str} {l:Int} (h:BP ws x y l):BP ws y x l:=let ⟨u,hu,e,z⟩:=h; ⟨u,hu,e.symm,z⟩
inductive Bu (ws:List AI):Str->Str->Int->Prop
 | nil (x:Str):Bu ws x x 0
 | cons {x y z:Str} {l m:Int}:BP ws x y l->Bu ws y z m->Bu ws x z (l + m)
theorem Bu.app {ws:List AI} {x y z:Str} {m n:Int} (h:Bu ws x y m) (g:Bu ws y z n):Bu ws x z (m + n):=by
 induction h with
 | nil x=>rw [bQ]; exact g
 | cons e _ ih=>rw [eG]; exact .cons e (ih g)
theorem Bu.snoc {ws:List AI} {x y z:Str} {m l:Int} (h:Bu ws x y m) (e:BP ws y z l):Bu ws x z (m + l):=by
 have:=h.app (.cons e (.nil z));rwa [fX] at this
theorem Bu.symm {ws:List AI} {x y:Str} {m:Int} (h:Bu ws x y m):Bu ws y x m:=by
 induction h with
 | nil x=>exact .nil x
 | @cons x y z l m e _ ih=>rw [Int.add_comm]; exact ih.snoc e.symm
theorem Bu.pos {ws:List AI} (hp:∀ u ∈ ws,1<=u.2.2) {x y:Str} {m:Int} (h:Bu ws x y m):0<=m:=by
 induction h with
 | nil x=>exact bJ _
 | cons e _ ih=>
  obtain ⟨u,hu,_,rfl⟩:=e;have:=hp u hu;lia
def IY (ws:List AI) (ss:List Str) (y:Str) (p:Int × Str):Prop:=(p.2 ∈ ss/\Bu ws p.2 y p.1)/\∀ s ∈ ss,∀ m,Bu ws s y m->D6 p (m,s)
structure Ui (ws:List AI) (ss:List Str) (S R:Str->Int × Str->Prop):Prop where
 near:∀ y p,S y p->IY ws ss y p
 reach:∀ y p,R y p->p.2 ∈ ss/\Bu ws p.2 y p.1
 relax:∀ x p y l,S x p->BP ws x y l->(∃ q,S y q)\/∃ q,R y q/\D6 q (p.1 + l,p.2)
 start:∀ s ∈ ss,(∃ q,S s q)\/∃ q,R s q/\D6 q (0,s)
theorem Ui.out {ws:List AI} {ss:List Str} {S R:Str->Int × Str->Prop} (h:Ui ws ss S R) (hp:∀ u ∈ ws,1<=u.2.2) {x z:Str} {m:Int} (g:Bu ws x z m) (hz:∀ q,¬ S z q):∀ p,S x p->∃ y q,R y q/\D6 q (p.1 + m,p.2):=by
 induction g with
 | nil x=>intro p hp'; exact absurd hp' (hz p)
 | @cons x y z l m e g ih=>
  intro p hx;rcases h.relax x p y l hx e with ⟨q,hq⟩ | ⟨q,hq,le⟩
  ·obtain ⟨y',q',h1,h2⟩:=ih hz q hq;refine ⟨y',q',h1,h2.trans ?_⟩;have n1:=(h.near y q hq).2 p.2 (h.near x p hx).1.1 (p.1 + l) ((h.near x p hx).1.2.snoc e);have:=n1.add (l:=m);rw [eG] at this;exact this
  ·exact ⟨y,q,hq,le.trans (D6.up (by have:=g.pos hp; lia))⟩
theorem Ui.pick {ws:List AI} {ss:List Str} {S R:Str->Int × Str->Prop} (h:Ui ws ss S R) (hp:∀ u ∈ ws,1<=u.2.2) {y:Str} {p:Int × Str} (hy:R y p) (ny:∀ q,¬ S y q) (least:∀ z q,R z q->D6 p q):IY ws ss y p:=by
 refine ⟨h.reach y p hy,fun s hs m g=>?_⟩;rcases h.start s hs with ⟨q,hq⟩ | ⟨q,hq,le⟩
 ·obtain ⟨z,q',h1,h2⟩:=h.out hp g ny q hq;refine (least z q' h1).trans (h2.trans ?_);have n1:=(h.near s q hq).2 s hs 0 (.nil s);have:=(show D6 (q.1,q.2) (0,s) from n1).add (l:=m);rw [bQ] at this;exact this
 ·exact (least s q hq).trans (le.trans (D6.up (g.pos hp)))
theorem Ui.done {ws:List AI} {ss:List Str} {S R:Str->Int × Str->Prop} (h:Ui ws ss S R) (hR:∀ y p,¬ R y p) {r:Str} (hss:ss ≠ []) {ps:List Str} (con:∀ T:Str->Prop,T r->(∀ x y,Lb ws x y->T x->T y)->∀ x ∈ ps,T x)
  (ZL:∀ T:Str->Prop,∀ x ∈ ps,T x->(∀ x y,Lb ws x y->T x->T y)->T r) (sub:∀ s ∈ ss,s ∈ ps):∀ x ∈ ps,∃ q,S x q:=by
 have cl:∀ x y,Lb ws x y->(∃ q,S x q)->∃ q,S y q:=fun x y ⟨u,hu,e⟩ ⟨q,hq⟩=>by
  rcases h.relax x q y u.2.2 hq ⟨u,hu,e,rfl⟩ with z | ⟨q',WY,_⟩
  ·exact z
  ·exact absurd WY (hR _ _)
 obtain ⟨s,hs⟩:=bE ss hss;have s0:∃ q,S s q:=by
  rcases h.start s hs with z | ⟨q,hq,_⟩
  ·exact z
  ·exact absurd hq (hR _ _)
 exact con (fun x=>∃ q,S x q) (ZL (fun x=>∃ q,S x q) s (sub s hs) s0 cl) cl
theorem Kl {a b:List (Str × V)} (h:sK a=sK b):a=b:=by
 unfold sK at h;exact g7 (fun x y z=>by
  simp only [Prod.mk.injEq,Sum.inr.injEq] at z;exact Prod.ext z.1 z.2) |>.mp h
theorem Hy {nv DL:List (Str × V)} {y:Str} {v:V} (e:Bq (sK nv) (Sum.inr y:AK) v=sK DL):∀ z x,(z,x) ∈ DL ↔ (z=y/\x=v)\/(z ≠ y/\(z,x) ∈ nv):=by
 intro z x;by_cases h:y ∈ nv.map (·.1)
 ·have e2:Bq (sK nv) (Sum.inr y:AK) v=sK (nv.map fun q=>if q.1=y then (q.1,v) else q):=by
   unfold Bq;have:((sK nv).any fun kv=>decide (kv.1=(Sum.inr y:AK)))=true:=by rw [Cg,GJ,decide_eq_true h]
   rw [if_pos this];unfold sK;rw [aT,aT];refine bD fun q _=>?_
   by_cases e:q.1=y
   ·simp [e]
   ·have e':¬ (Sum.inr q.1:AK)=Sum.inr y:=fun z=>e (Sum.inr.inj z)
    simp [e,e']
  rw [e2] at e;rw [<-Kl e,ZZ];constructor
  ·rintro ⟨q,hq,e⟩;by_cases eq:q.1=y
   ·rw [if_pos eq] at e;have e1:q.1=z:=congrArg Prod.fst e;have e3:v=x:=congrArg Prod.snd e;exact .inl ⟨by rw [<-e1,eq],e3.symm⟩
   ·rw [if_neg eq] at e;refine .inr ⟨?_,by rw [<-e]; exact hq⟩;rw [show z=q.1 from (congrArg Prod.fst e).symm]; exact eq
  ·rintro (⟨rfl,rfl⟩ | ⟨h1,h2⟩)
   ·obtain ⟨q,hq,e1⟩:=ZZ.mp h;have Ww:q.1=z:=e1;exact ⟨q,hq,by rw [if_pos Ww,Ww]⟩
   ·exact ⟨(z,x),h2,by rw [if_neg h1]⟩
 ·rw [CZ h] at e;rw [<-Kl e,aG];constructor
  ·rintro (h1 | h1)
   ·refine .inr ⟨?_,h1⟩;rintro rfl;exact h (ZZ.mpr ⟨_,h1,rfl⟩)
   ·simp only [ar,Prod.mk.injEq] at h1;exact .inl h1
  ·rintro (⟨rfl,rfl⟩ | ⟨_,h2⟩)
   ·exact .inr (by simp)
   ·exact .inl h2
theorem SF (nv:List (Str × V)) (y:Str):II (sK nv) (Sum.inr y:AK)=sK (nv.filter fun q=>decide (q.1 ≠ y)):=by
 unfold II sK;rw [List.filter_map];congr 1;refine List.filter_congr fun q _=>?_
 by_cases e:q.1=y
 ·simp [e]
 ·have e':¬ (Sum.inr q.1:AK)=Sum.inr y:=fun z=>e (Sum.inr.inj z)
  simp [e,e']
def Sq (H:Hp) (ps:List Str) (ds:List Addr) (Ed:Str->Str->Int->Prop):Prop:=∀ (i:Nat) (p:Str) (d:Addr) (nv:List (Str × V)),ps[i]? = some p->ds[i]? = some d->Rd H d (.dK (sK nv))->∀ y v,(y,v) ∈ nv->∃ l,v=.int l/\Ed p y l
theorem Rd.inj {H:Hp} {d:Addr} {a b:List (Str × V)} (h:Rd H d (.dK (sK a))) (g:Rd H d (.dK (sK b))):a=b:=by
 rcases h with h | ⟨o,h⟩ <;> rcases g with g | ⟨o',g⟩ <;> have e:=aI.inj (h.symm.trans g)
 ·injection e with e; exact Kl e
 ·exact nomatch e
 ·exact nomatch e
 ·injection e with _ e;injection e with e; exact Kl e
theorem Sq.put {H:Hp} {ps:List Str} {ds:List Addr} {Ed Ed':Str->Str->Int->Prop} (h:Sq H ps ds Ed) (hn:ps.Nodup) (dn:ds.Nodup) {i:Nat} {p y:Str} {d:Addr} {l:Int} (e1:ps[i]? = some p) (e2:ds[i]? = some d) {nv DL:List (Str × V)} (hd:H d=some (.dK (sK nv)))
  (ep:Bq (sK nv) (Sum.inr y:AK) (.int l)=sK DL) (mono:∀ a b m,Ed a b m->Ed' a b m) (new:Ed' p y l):Sq (upd H d (.dK (sK DL))) ps ds Ed':=by
 intro j q c nw f1 f2 hr z v hz;by_cases hc:c=d
 ·subst hc;have ij:i=j:=GQ dn e2 f2;subst ij;rw [e1] at f1; cases f1;have:nw=DL:=Rd.inj hr (.inl Ab);subst this;rcases (Hy ep z v).mp hz with ⟨rfl,rfl⟩ | ⟨_,U5⟩
  ·exact ⟨l,rfl,new⟩
  ·obtain ⟨l',e,ed⟩:=h i _ c nv e1 e2 (.inl hd) z v U5;exact ⟨l',e,mono _ _ _ ed⟩
 ·have FP:Rd H c (.dK (sK nw)):=by
   rcases hr with g | ⟨o,g⟩
   ·exact .inl (by rw [Ae hc] at g; exact g)
   ·exact .inr ⟨o,by rw [Ae hc] at g; exact g⟩
  obtain ⟨l',e,ed⟩:=h j q c nw f1 f2 FP z v hz;exact ⟨l',e,mono _ _ _ ed⟩
def Q0 (K:ZV):Sp:=fun vs H Q _=>∃ (q:Addr) (ps:List Str) (ws:List AI) (r:Str),vs=[.ref q]/\IU H q ps ws r /\
 ∀ (H':Hp) (B:Addr) (ds:List Addr),AD H H'->NB H' B ps ds (Lb ws) 128->Sq H' ps ds (BP ws)->H B=none->(∀ d ∈ ds,H d=none)->Q (.ref B) H'
theorem PI.or {X:Cx} {tg l:Expr} {w1 w2:TI} (h1:PI X tg l w1) (h2:PI X tg l w2):PI X tg l (fun σ H R=>w1 σ H R\/w2 σ H R):=by
 intro pins s σ H R I h;rcases h with h | h
 ·exact h1 (pins:=pins) s σ H R I h
 ·exact h2 (pins:=pins) s σ H R I h
def Np (H:Hp) (nv:List (Str × V)) (S:Str->Int × Str->Prop):Prop:=(nv.map (·.1)).Nodup/\(∀ y v,(y,v) ∈ nv->∃ p,JU H v p/\S y p)/\∀ y p,S y p->∃ v,(y,v) ∈ nv/\JU H v p
def M7 (K:ZV):Sp:=fun vs H Q _=>∃ (q st:Addr) (ps ss:List Str) (ws:List AI) (r:Str),vs=[.ref q,.ref st]/\IU H q ps ws r/\(∀ u ∈ ws,1<=u.2.2)/\(∀ x y l l',BP ws x y l->BP ws x y l'->l=l')/\(H st=some (.lst (ss.map V.str))\/H st=some (.tup (ss.map V.str)))/\ss ≠ []/\ss.Nodup/\(∀ s ∈ ss,s ∈ ps) /\
 ∀ (H':Hp) (B:Addr) (nv:List (Str × V)),AD H H'->H B=none->H' B=some (.dK (sK nv))->(nv.map (·.1)).Nodup->(∀ x,x ∈ nv.map (·.1) ↔ x ∈ ps)->(∀ y v,(y,v) ∈ nv->∃ p,JU H' v p/\IY ws ss y p)->Q (.ref B) H'
theorem J4 {nv:List (Str × V)} {y:Str} {v:V} (h:BF (sK nv) (Sum.inr y:AK)=some v):(y,v) ∈ nv:=by
 unfold BF at h;cases e:(sK nv).find? (fun kv=>decide (kv.1=(Sum.inr y:AK))) with
 | none=>rw [e] at h; cases h
 | some kv=>
  rw [e] at h;have h1:=List.find?_some e;have h2:=List.mem_of_find?_eq_some e;obtain ⟨q,hq,rfl⟩:=ZZ.mp h2;have e1:q.1=y:=by
   have:(Sum.inr q.1:AK)=Sum.inr y:=by simpa using h1
   exact Sum.inr.inj this
  have e2:q.2=v:=aI.inj h;rw [<-e1,<-e2];exact hq
theorem Py {ws:List AI} {i:Nat} {a b:Str} {m:Int} (h:BP (ws.take i) a b m):BP (ws.take (i + 1)) a b m:=by
 obtain ⟨u,hu,e⟩:=h;rw [aD];exact ⟨u,aV _ hu,e⟩
theorem LZ {ws:List AI} {i:Nat} {u:AI} (h:ws[i]? = some u):BP (ws.take (i + 1)) u.1 u.2.1 u.2.2:=by
 rw [aD,h];exact ⟨u,aw _ (by simp),.inl ⟨rfl,rfl⟩,rfl⟩
theorem JU.fn {H:Hp} {v:V} {p q:Int × Str} (h:JU H v p) (g:JU H v q):p=q:=by
 obtain ⟨t,rfl,e⟩:=h;obtain ⟨t',e',g⟩:=g;have:t=t':=by injection e'
 subst this;have z:=aI.inj (e.symm.trans g);injection z with z;simp only [eA.injEq,V.int.injEq,V.str.injEq] at z;exact Prod.ext z.1 z.2.1
theorem NR.same {H H':Hp} {B:Addr} {ps:List Str} {ds:List Addr} {P:Str->Str->Prop} (h:NR H B ps ds P) (s:AD H H'):NR H' B ps ds P:=
 ⟨s _ _ h.top,h.len,h.nd,h.nB,fun i p d e1 e2=>let ⟨nv,a1,a3⟩:=h.inner i p d e1 e2
  ⟨nv,(by rcases a1 with a | ⟨o,a⟩; exact .inl (s _ _ a); exact .inr ⟨o,s _ _ a⟩),a3⟩⟩
theorem Sq.of {H H':Hp} {B:Addr} {ps:List Str} {ds:List Addr} {P:Str->Str->Prop} {Ed:Str->Str->Int->Prop} (h:Sq H ps ds Ed) (nr:NR H B ps ds P) (k:∀ d ∈ ds,∀ nv:List (Str × V),Rd H d (.dK (sK nv))->Rd H' d (.dK (sK nv))):Sq H' ps ds Ed:=by
 intro i p d nv e1 e2 hr y v hy;obtain ⟨nw,a1,_⟩:=nr.inner i p d e1 e2;have:=Rd.inj hr (k d (ZW e2) nw a1);subst this;exact h i p d nv e1 e2 a1 y v hy
theorem Np.same {H H':Hp} {nv:List (Str × V)} {S:Str->Int × Str->Prop} (h:Np H nv S) (s:∀ b xs,H b=some (.tup xs)->H' b=some (.tup xs)):Np H' nv S:=
 ⟨h.1,fun y v hv=>let ⟨p,a,b⟩:=h.2.1 y v hv; ⟨p,a.same s,b⟩,fun y p hp=>let ⟨v,a,b⟩:=h.2.2 y p hp; ⟨v,a,b.same s⟩⟩
theorem Np.fn {H:Hp} {nv:List (Str × V)} {S:Str->Int × Str->Prop} (h:Np H nv S) {y:Str} {p q:Int × Str} (hp:S y p) (hq:S y q):p=q:=by
 obtain ⟨v,a,b⟩:=h.2.2 y p hp;obtain ⟨w,c,d⟩:=h.2.2 y q hq;have:=Qj h.1 a c;subst this;exact b.fn d
theorem Np.put {H:Hp} {nv DL:List (Str × V)} {S:Str->Int × Str->Prop} {y:Str} {v:V} {p:Int × Str} (h:Np H nv S) (e:Bq (sK nv) (Sum.inr y:AK) v=sK DL) (hv:JU H v p):Np H DL (fun z q=>(z=y/\q=p)\/(z ≠ y/\S z q)):=by
 refine ⟨SE e h.1,fun z x hz=>?_,fun z q hq=>?_⟩
 ·rcases (Hy e z x).mp hz with ⟨rfl,rfl⟩ | ⟨n,U5⟩
  ·exact ⟨p,hv,.inl ⟨rfl,rfl⟩⟩
  ·obtain ⟨q,a,b⟩:=h.2.1 z x U5;exact ⟨q,a,.inr ⟨n,b⟩⟩
 ·rcases hq with ⟨rfl,rfl⟩ | ⟨n,hq⟩
  ·exact ⟨v,(Hy e _ _).mpr (.inl ⟨rfl,rfl⟩),hv⟩
  ·obtain ⟨x,a,b⟩:=h.2.2 z q hq;exact ⟨x,(Hy e _ _).mpr (.inr ⟨n,a⟩),b⟩
theorem Np.drop {H:Hp} {nv:List (Str × V)} {S:Str->Int × Str->Prop} (h:Np H nv S) (y:Str):Np H (nv.filter fun q=>decide (q.1 ≠ y)) (fun z q=>z ≠ y/\S z q):=by
 refine ⟨Gp h.1 _,fun z x hz=>?_,fun z q hq=>?_⟩
 ·obtain ⟨a,b⟩:=bq.mp hz;obtain ⟨q,c,d⟩:=h.2.1 z x a;exact ⟨q,c,by simpa using b,d⟩
 ·obtain ⟨n,hq⟩:=hq;obtain ⟨x,a,b⟩:=h.2.2 z q hq;exact ⟨x,bq.mpr ⟨a,by simpa using n⟩,b⟩
structure NI (H H2:Hp) (ps:List Str) (ws:List AI) (B RA SA:Addr) (ds:List Addr) (nvR nvS:List (Str × V)) (S R:Str->Int × Str->Prop):Prop where
 same:AD H H2
 nr:NR H2 B ps ds (Lb ws)
 nbv:Sq H2 ps ds (BP ws)
 dR:H2 RA=some (.dK (sK nvR))
 dS:H2 SA=some (.dK (sK nvS))
 pR:Np H2 nvR R
 pS:Np H2 nvS S
 subR:∀ y ∈ nvR.map (·.1),y ∈ ps
 subS:∀ y ∈ nvS.map (·.1),y ∈ ps
section
variable {H H2 H3:Hp} {ps:List Str} {ws:List AI} {B RA SA:Addr} {ds:List Addr} {nvR nvS:List (Str × V)} {S R:Str->Int × Str->Prop}
theorem NI.grow (h:NI H H2 ps ws B RA SA ds nvR nvS S R) (s:AD H2 H3):NI H H3 ps ws B RA SA ds nvR nvS S R:=
 ⟨h.same.trans s,h.nr.same s,h.nbv.of h.nr fun d _ nv z=>by rcases z with a | ⟨o,a⟩; exact .inl (s _ _ a); exact .inr ⟨o,s _ _ a⟩,s _ _ h.dR,s _ _ h.dS,h.pR.same fun b xs z=>s _ _ z,h.pS.same fun b xs z=>s _ _ z,h.subR,h.subS⟩
theorem NI.lenS (h:NI H H2 ps ws B RA SA ds nvR nvS S R):nvS.length<=ps.length:=by
 have:=BY h.pS.1 h.subS;rwa [ZR] at this
theorem NI.lenR (h:NI H H2 ps ws B RA SA ds nvR nvS S R):nvR.length<=ps.length:=by
 have:=BY h.pR.1 h.subR;rwa [ZR] at this
theorem NI.inS (h:NI H H2 ps ws B RA SA ds nvR nvS S R) {y:Str}:y ∈ nvS.map (·.1) ↔ ∃ q,S y q:=by
 constructor
 ·intro hy;obtain ⟨⟨z,v⟩,a,b⟩:=ZZ.mp hy;have b':z=y:=b;subst b';obtain ⟨p,_,c⟩:=h.pS.2.1 z v a;exact ⟨p,c⟩
 ·rintro ⟨q,hq⟩;obtain ⟨v,a,_⟩:=h.pS.2.2 y q hq;exact ZZ.mpr ⟨_,a,rfl⟩
theorem NI.inR (h:NI H H2 ps ws B RA SA ds nvR nvS S R) {y:Str}:y ∈ nvR.map (·.1) ↔ ∃ q,R y q:=by
 constructor
 ·intro hy;obtain ⟨⟨z,v⟩,a,b⟩:=ZZ.mp hy;have b':z=y:=b;subst b';obtain ⟨p,_,c⟩:=h.pR.2.1 z v a;exact ⟨p,c⟩
 ·rintro ⟨q,hq⟩;obtain ⟨v,a,_⟩:=h.pR.2.2 y q hq;exact ZZ.mpr ⟨_,a,rfl⟩
theorem NI.setR (h:NI H H2 ps ws B RA SA ds nvR nvS S R) (aR:RA ∉ ds/\RA ≠ B/\RA ≠ SA/\H RA=none) {DL:List (Str × V)} {R':Str->Int × Str->Prop} (p':Np H2 DL R') (sub:∀ y ∈ DL.map (·.1),y ∈ ps):NI H (upd H2 RA (.dK (sK DL))) ps ws B RA SA ds DL nvS S R':=by
 have tu:∀ b xs,H2 b=some (.tup xs)->(upd H2 RA (.dK (sK DL))) b=some (.tup xs):=fun b xs z=>by
  rw [Ae (B8 z h.dR (by intro z; cases z))]; exact z
 exact ⟨fun b o z=>by rw [Ae (Ah z aR.2.2.2)]; exact h.same _ _ z,h.nr.other aR.1 aR.2.1,h.nbv.of h.nr fun d hd nv z=>z.ne (fun e=>aR.1 (by rw [<-e]; exact hd)),Ab,by rw [Ae (Ne.symm aR.2.2.1)]; exact h.dS,p'.same tu,h.pS.same tu,sub,h.subS⟩
theorem NI.setS (h:NI H H2 ps ws B RA SA ds nvR nvS S R) (aS:SA ∉ ds/\SA ≠ B/\SA ≠ RA/\H SA=none) {DL:List (Str × V)} {S':Str->Int × Str->Prop} (p':Np H2 DL S') (sub:∀ y ∈ DL.map (·.1),y ∈ ps):NI H (upd H2 SA (.dK (sK DL))) ps ws B RA SA ds nvR DL S' R:=by
 have tu:∀ b xs,H2 b=some (.tup xs)->(upd H2 SA (.dK (sK DL))) b=some (.tup xs):=fun b xs z=>by
  rw [Ae (B8 z h.dS (by intro z; cases z))]; exact z
 exact ⟨fun b o z=>by rw [Ae (Ah z aS.2.2.2)]; exact h.same _ _ z,h.nr.other aS.1 aS.2.1,h.nbv.of h.nr fun d hd nv z=>z.ne (fun e=>aS.1 (by rw [<-e]; exact hd)),by rw [Ae (Ne.symm aS.2.2.1)]; exact h.dR,Ab,h.pR.same tu,p'.same tu,h.subR,sub⟩
theorem NI.frz (h:NI H H2 ps ws B RA SA ds nvR nvS S R) (aR:RA ∉ ds) (aS:SA ∉ ds) (fr:∀ d ∈ ds,H d=none) {i:Nat} {p:Str} {d:Addr} (e1:ps[i]? = some p) (e2:ds[i]? = some d) {nv:List (Str × V)} {o:Obj} (f:Eo H2 d (sK nv) o H3) (hP:∀ y,y ∈ nv.map (·.1) ↔ Lb ws p y):NI H H3 ps ws B RA SA ds nvR nvS S R:=by
 have dm:d ∈ ds:=ZW e2;have tu:∀ b xs,H2 b=some (.tup xs)->H3 b=some (.tup xs):=fun b xs z=>by
  rw [f.ne (by
   rintro rfl;rcases f with ⟨g,_⟩ | ⟨g,_⟩ <;> (rw [z] at g; cases g))]
  exact z
 refine ⟨fun b u z=>by rw [f.ne (Ah z (fr d dm))]; exact h.same _ _ z,h.nr.freeze e1 e2 f hP,h.nbv.of h.nr fun c hc nw z=>?_,by rw [f.ne (fun z=>aR (by rw [z]; exact dm))]; exact h.dR,by rw [f.ne (fun z=>aS (by rw [z]; exact dm))]; exact h.dS,h.pR.same tu,h.pS.same tu,h.subR,h.subS⟩;by_cases hcd:c=d
 ·subst hcd;rcases f with ⟨g,e⟩ | ⟨g,e⟩
  ·have:=Rd.inj z (.inl g);subst this;exact .inr ⟨o,by rw [e]; exact Ab⟩
  ·rw [e]; exact z
 ·exact z.fz f hcd
end
theorem EE:entryFor table "dict.update.loop"=some Builtin.«dict.update.loop»:=entryFor_of_tree (by kernel_rfl)
theorem Cp:plainId "dict.update.loop"=true:=by decide +kernel
def UK (g0:Heap) (v:Value) (p:Str × V):Prop:=∃ a t u,v=.ref a/\IsTup g0 a #[.str p.1 t,u]/\AF p.2 u
section
variable {prog:Program} {w:World} {A:Around} {R:Result->Shared->Prop} {g0:Heap} {D it l:Addr} {vs:List Value} {ps:List (Str × V)}
end
section
variable {prog:Program} {w:World} {A:Around} {E:Value->Shared->Prop} {s:Shared}
end
theorem LN:∀ (b a:List (Str × V)),((a ++ b).map (·.1)).Nodup->Iq (sK a) (sK b)=sK (a ++ b)
 | [],a,_=>by rw [cy]; rfl
 | q :: b,a,hn=>by
  have nq:q.1 ∉ a.map (·.1):=by
   rw [aa,au] at hn;intro hm;exact (b8.mp hn).2.2 q.1 hm q.1 aJ rfl
  show Iq (Bq (sK a) (Sum.inr q.1) q.2) (sK b)=_
  rw [CZ nq];have:=LN b (a ++ [(q.1,q.2)]) (by rw [bB]; exact hn);rw [this,bB];rfl
theorem QF:∀ {ws:List AI},(ws.Pairwise fun u v=>¬ Ms u v)->∀ {u v:AI},u ∈ ws->v ∈ ws->Ms u v->u=v
 | [],_,u,v,hu,_,_=>nomatch hu
 | a :: ws,h,u,v,hu,hv,al=>by
  obtain ⟨h1,h2⟩:=dv.mp h;rcases ZU.mp hu with e1 | Yl
  ·rcases ZU.mp hv with e2 | RB
   ·rw [e1,e2]
   ·exact absurd (by rw [<-e1]; exact al) (h1 v RB)
  ·rcases ZU.mp hv with e2 | RB
   ·refine absurd ?_ (h1 u Yl);rw [<-e2];rcases al with ⟨a1,a2⟩ | ⟨a1,a2⟩
    ·exact .inl ⟨a1.symm,a2.symm⟩
    ·exact .inr ⟨a2.symm,a1.symm⟩
   ·exact QF h2 Yl RB al
theorem Px {ws:List AI} (h:ws.Pairwise fun u v=>¬ Ms u v) {x y:Str} {l l':Int} (e:BP ws x y l) (e':BP ws x y l'):l=l':=by
 obtain ⟨u,hu,a,rfl⟩:=e;obtain ⟨v,hv,b,rfl⟩:=e';have:u=v:=QF h hu hv (by
  rcases a with ⟨a1,a2⟩ | ⟨a1,a2⟩ <;> rcases b with ⟨b1,b2⟩ | ⟨b1,b2⟩
  ·exact .inl ⟨a1.trans b1.symm,a2.trans b2.symm⟩
  ·exact .inr ⟨a1.trans b2.symm,a2.trans b1.symm⟩
  ·exact .inr ⟨a1.trans b2.symm,a2.trans b1.symm⟩
  ·exact .inl ⟨a1.trans b1.symm,a2.trans b2.symm⟩)
 rw [this]
theorem JI {ws EH:List AI} (p:EH.Perm (ws.map Fq)) (x y:Str) (l:Int):BP EH x y l ↔ BP ws x y l:=by
 constructor
 ·rintro ⟨u,hu,h,e⟩;obtain ⟨v,hv,rfl⟩:=ZZ.mp (p.mem_iff.mp hu);refine ⟨v,hv,?_,e⟩;rcases DM v with ⟨e1,e2⟩ | ⟨e1,e2⟩
  ·rw [e1,e2] at h; exact h
  ·rw [e1,e2] at h;rcases h with ⟨a,b⟩ | ⟨a,b⟩
   ·exact .inr ⟨b,a⟩
   ·exact .inl ⟨b,a⟩
 ·rintro ⟨v,hv,h,e⟩;refine ⟨Fq v,p.mem_iff.mpr (ZZ.mpr ⟨v,hv,rfl⟩),?_,e⟩;rcases DM v with ⟨e1,e2⟩ | ⟨e1,e2⟩
  ·rw [e1,e2]; exact h
  ·rw [e1,e2];rcases h with ⟨a,b⟩ | ⟨a,b⟩
   ·exact .inr ⟨b,a⟩
   ·exact .inl ⟨b,a⟩
theorem Qe {ws EH:List AI} (h:∀ x y l,BP EH x y l ↔ BP ws x y l) {x y:Str} {m:Int}:Bu EH x y m ↔ Bu ws x y m:=by
 constructor
 ·intro g;induction g with
  | nil x=>exact .nil x
  | cons e _ ih=>exact .cons ((h _ _ _).mp e) ih
 ·intro g;induction g with
  | nil x=>exact .nil x
  | cons e _ ih=>exact .cons ((h _ _ _).mpr e) ih
def Gg (ws:List AI) (x y:Str) (n:Int):Prop:=Bu ws x y n/\∀ m,Bu ws x y m->n<=m
theorem IY.dst {ws:List AI} {x y:Str} {p:Int × Str} (h:IY ws [x] y p):p.2=x/\Gg ws x y p.1:=by
 have e:p.2=x:=by simpa using h.1.1
 refine ⟨e,by rw [<-e]; exact h.1.2,fun m g=>(h.2 x (by simp) m g).fst⟩
theorem Gg.uniq {ws:List AI} {x y:Str} {n m:Int} (h:Gg ws x y n) (g:Gg ws x y m):n=m:=dZ (h.2 m g.1) (g.2 n h.1)
def Q3 (K:ZV):Sp:=fun vs H Q _=>∃ (q:Addr) (ps:List Str) (ws:List AI) (r x:Str),vs=[.ref q,.str x]/\IU H q ps ws r/\(∀ u ∈ ws,1<=u.2.2)/\(∀ x y l l',BP ws x y l->BP ws x y l'->l=l')/\x ∈ ps /\
 ∀ (H':Hp) (B:Addr) (nv:List (Str × V)),AD H H'->H B=none->H' B=some (.dK (sK nv))->nv.map (·.1)=ps->(∀ y v,(y,v) ∈ nv->∃ n,v=.int n/\Gg ws x y n)->Q (.ref B) H'
end L2
namespace L2
open PySem PySem.Spec PySem.W PyProof.Rows
def wk (u:AI):List C3:=[.s u.1,.s u.2.1,.i u.2.2]
theorem Qh {H:Hp} {v:V} {u:AI} (h:Jd H v (DC u)):IX H (fun i=>decide (i < 2)) v/\K4 H v=wk u:=by
 obtain ⟨w,t,e1,rfl,ht⟩:=DN (i:=0) (ws:=[u]) (AM.cons h .nil) rfl;cases e1
 refine ⟨⟨t,_,rfl,ht,by simp,fun i y e=>?_⟩,?_⟩
 ·unfold JV;match i,e with
  | 0,e=>cases e; simp
  | 1,e=>cases e; simp
  | 2,e=>cases e; simp
  | n + 3,e=>simp at e
 ·show (match H t with | some (.tup ys)=>ys.map Lg | _=>[])=_
  rw [ht];rfl
theorem Jt {H:Hp}:∀ {vs:List V} {ws:List AI},AM H vs (ws.map DC)->(∀ v ∈ vs,IX H (fun i=>decide (i < 2)) v)/\vs.map (K4 H)=ws.map wk
 | _,[],.nil=>⟨(fun v hv=>nomatch hv),rfl⟩
 | _,u :: ws,.cons h r=>by
  obtain ⟨a1,a2⟩:=Qh h;obtain ⟨b1,b2⟩:=Jt r;refine ⟨fun v hv=>?_,by rw [au,au,a2,b2]⟩;rcases ZU.mp hv with rfl | hv
  ·exact a1
  ·exact b1 v hv
theorem Hg (f:Nat->Int):∀ k,argBest (fun i j=>decide (f i > f j)) k<=k/\∀ j,j<=k->f j<=f (argBest (fun i j=>decide (f i > f j)) k)
 | 0=>⟨ZX _,fun j hj=>by
  have:j=0:=by lia
  subst this;exact bJ _⟩
 | k + 1=>by
  obtain ⟨h1,h2⟩:=Hg f k;simp only [argBest];by_cases hc:f (k + 1) > f (argBest (fun i j=>decide (f i > f j)) k)
  ·rw [if_pos (by simpa using hc)];refine ⟨ZX _,fun j hj=>?_⟩;by_cases JF:j<=k
   ·have:=h2 j JF;lia
   ·have:j=k + 1:=by lia
    subst this;exact bJ _
  ·rw [if_neg (by simpa using hc)];refine ⟨cQ h1,fun j hj=>?_⟩;by_cases JF:j<=k
   ·exact h2 j JF
   ·have:j=k + 1:=by lia
    subst this;lia
theorem Ei:∀ {ns:List Int} {us:List Value},A3 (ns.map V.int) us->∀ (i:Nat) (v:Value),us[i]? = some v->∃ n t,ns[i]? = some n/\v=Value.int n t
 | [],_,.nil,i,v,e=>by simp at e
 | n :: ns,_,.cons r1 r2,0,v,e=>by
  obtain ⟨t,rfl⟩:=r1;simp only [aX,aI.injEq] at e;exact ⟨n,t,rfl,e.symm⟩
 | n :: ns,_,.cons r1 r2,i + 1,v,e=>by simpa using Ei r2 i v (by simpa using e)
theorem RT {prog:Program} {w:World} {A:Around} {us:List Value} {ns:List Int} (rv:A3 (ns.map V.int) us):CmpOf prog w A .Gt (fun i v=>us.toArray[i]? = some v) (fun i j=>decide (ns.getD i 0 > ns.getD j 0)):=by
 intro i j vi vj s Q E hi hj hQ;obtain ⟨x,t,e1,rfl⟩:=Ei rv i vi (by simpa using hi);obtain ⟨y,u,e2,rfl⟩:=Ei rv j vj (by simpa using hj);dsimp only at hQ;rw [aj,aj,e1,e2] at hQ;exact PyProof.Rows.gt_int hQ
theorem Jr {X:Cx} (hc:X.calm=true):Bp X (.builtin "max") (fun xs H Q=>∃ (a:Addr) (ns:List Int),xs=[.ref a]/\AV X.K H a (ns.map V.int)/\ns ≠ [] /\
  ∀ m,m ∈ ns->(∀ x ∈ ns,x<=m)->Q (.int m) H):=by
 intro pins s σ H xs us Q I r h;obtain ⟨a,ns,rfl,ha,hne,q⟩:=h;obtain ⟨u,rfl,ru⟩:=Cd r;cases ru
 obtain ⟨Az,rv,pl,hz⟩:=I.list ha;have hl:Az.length=ns.length:=by rw [<-rv.length,ZR]
 have hpos:0 < ns.length:=bN.mpr hne;refine call_max_walk (wpAny_pyIter_list pl.isList ?_);have hai:a < s.heap.objs.size:=by obtain ⟨o,ho,_⟩:=pl.isList; exact ae ho
 refine ⟨_,[s.heap.objs.size,a],[s.heap.objs.size],_,_,_,_,rfl,Walks.list (A:=X.A.in1) (I.ok.hd hc) _ a (ao hai) Az.toArray,⟨⟨_,ah _ rfl,rfl,rfl⟩,pl.isList.push _⟩,fun c hc=>?_,by simpa [hl] using hpos,RT rv,fun v h' tk hP hk=>?_⟩
 ·show c < (s.heap.push _).objs.size
  rw [bx];rcases ZU.mp hc with rfl | hc
  ·exact aU _
  ·rcases ZU.mp hc with rfl | hc
   ·exact aN hai
   ·cases hc
 ·have hold:∀ c o,s.heap.get? c=some o->h'.get? c=some o:=fun c o e=>by
   refine hk c o (fun hm=>?_) (ZT _ e);rcases ZU.mp hm with e1 | hm
   ·have:=ae e; rw [e1] at this; exact bp _ this
   ·cases hm
  have hP':Az[argBest (fun i j=>decide (ns.getD i 0 > ns.getD j 0)) (Az.toArray.size - 1)]? = some v:=by rw [<-List.getElem?_toArray]; exact hP
  obtain ⟨x,t,e1,rfl⟩:=Ei rv _ v hP';obtain ⟨b1,b2⟩:=Hg (fun i=>ns.getD i 0) (Az.toArray.size - 1);refine ⟨.int x,H,I.kept hold,⟨t,rfl⟩,q x (ZW e1) fun y hy=>?_⟩;obtain ⟨j,hj,rfl⟩:=aF hy;have:=b2 j (by simp only [aB]; lia);have e2:ns.getD j 0=ns[j]:=by simp [hj]
  have e3:ns.getD (argBest (fun i j=>decide (ns.getD i 0 > ns.getD j 0)) (Az.toArray.size - 1)) 0=x:=by
   rw [aj,e1]; rfl
  rw [e2,e3] at this;exact this
end L2
namespace L2
open PySem PySem.Spec PyProof.Rows
def A6 (a b c:Int):List V:=[.int a,.int b,.int c]
theorem MK (a b c:Int):Ff (A6 a b c) 0=some (.int a):=rfl
theorem Vk (a b c:Int):Ff (A6 a b c) 1=some (.int b):=rfl
theorem MJ (a b c:Int):Ff (A6 a b c) 2=some (.int c):=rfl
def A0 (H:Hp) (p:Addr):Prop:=∃ a b c:Int,H p=some (.lst (A6 a b c))
def Qz (K:ZV):Sp:=fun vs H Q _=>∃ (a:Addr) (ns:List Int) (k:Int),vs=[.ref a,.int k]/\TZ K H a (ns.map V.int)/\0<=k /\
 ∀ (p:Addr) (x y:Int),H p=none->Q (.ref p) (upd H p (.lst (A6 x y 0)))
def CI:Sp:=fun vs H Q _=>∃ (p:Addr) (m:Int),vs=[.ref p,.int m]/\A0 H p/\0 < m/\m < 1073741824 /\
 ∀ (d a b c:Int),0<=d->d < m->Q (.int d) (upd H p (.lst (A6 a b c)))
theorem A0.set {H:Hp} {p:Addr} (a b c:Int):A0 (upd H p (.lst (A6 a b c))) p:=⟨a,b,c,Ab⟩
theorem A0.other {H:Hp} {p D:Addr} {o:HO} (h:A0 H p) (ne:D ≠ p):A0 (upd H D o) p:=by
 obtain ⟨a,b,c,e⟩:=h;exact ⟨a,b,c,by rw [Ae ne.symm]; exact e⟩
theorem A0.ne {H:Hp} {p q:Addr} (h:A0 H p) (e:H q=none):q ≠ p:=by
 obtain ⟨a,b,c,h⟩:=h;intro z; subst z; rw [h] at e; cases e
def Qy (K:ZV):Sp:=fun vs H Q _=>∃ (p t:Addr) (ts:List Str) (m:Int),vs=[.ref p,.ref t,.int m]/\A0 H p/\A2 K H t (ts.map V.str)/\1<=ts.length/\ts.length<=1000/\1<=m/\m<=1000 /\
 ∀ (H':Hp) (D:Addr) (xs ys:List Str),A0 H' p->Bd p H H'->H D=none->H' D=some (.lst (xs.map V.str))->(xs ++ ys).Perm ts->1<=xs.length->(xs.length:Int)<=m->Q (.ref D) H'
theorem Ew {α:Type}:∀ {ys:List α} {k:Nat} {y:α},ys[k]? = some y->(y :: ys.eraseIdx k).Perm ys
 | [],k,y,e=>by simp at e
 | x :: ys,0,y,e=>by
  simp at e;subst e;exact List.Perm.refl _
 | x :: ys,k + 1,y,e=>by
  simp at e;exact (List.Perm.swap x y _).trans ((Ew e).cons x)
theorem J9 {α β:Type} (f:α->β):∀ (ys:List α) (k:Nat),(ys.map f).eraseIdx k=(ys.eraseIdx k).map f
 | [],k=>by simp
 | x :: ys,0=>rfl
 | x :: ys,k + 1=>by
  show f x :: (ys.map f).eraseIdx k=f x :: (ys.eraseIdx k).map f
  rw [J9 f ys k]
theorem Rb {α:Type} {xs ys ts:List α} {k:Nat} {y:α} (h:(xs ++ ys).Perm ts) (e:ys[k]? = some y):((xs ++ [y]) ++ ys.eraseIdx k).Perm ts:=by
 refine List.Perm.trans ?_ h;rw [bB];refine List.Perm.append_left xs ?_;exact Ew e
theorem Lk:∀ {ss:List Str} {us:List Value},A3 (ss.map V.str) us->StrsAre us ss
 | [],_,.nil=>.nil
 | _ :: _,_,.cons r q=>by
  obtain ⟨t,rfl⟩:=r;exact .cons _ t (Lk q)
theorem Ob {X:Cx}:MtM X "str.join" (fun x vs H Q=>∃ (z:Str) (a:Addr) (ss:List Str),x=.str z/\vs=[.ref a]/\H a=some (.lst (ss.map V.str))/\z.length<=16/\(ss.map (·.length)).sum + ss.length<=1048576/\Q (.str (Txt.join z ss)) H):=by
 intro pins s σ H x vs v us Q I rx rv h;obtain ⟨z,a,ss,rfl,rfl,hH,hz,hw,q⟩:=h;obtain ⟨t,rfl⟩:=rx;obtain ⟨u,rfl,ru⟩:=rv.one;cases ru
 obtain ⟨_,Az,n,r,_,e⟩:=I.lstM hH;refine join_listW (ys:=ss) ⟨_,e,rfl,n,rfl⟩ (by rw [List.toList_toArray]; exact Lk r) hz hw fun t' k=>?_
 exact ⟨.str (Txt.join z ss),H,I.tok k,⟨t',rfl⟩,q⟩
theorem LV (ss:List Str):(Txt.join (Str.ofString "") ss).cps.toList=(ss.map fun s=>s.cps.toList).flatten:=by
 unfold Txt.join;rw [PySem.StrLaws.glued_eq_join];induction ss with
 | nil=>rfl
 | cons x r ih=>
  cases r with
  | nil=>
   show x.cps.toList=_
   simp
  | cons y r=>
   have e:Str.join (Str.ofString "") (x :: y :: r)=x ++ Str.ofString "" ++ Str.join (Str.ofString "") (y :: r):=rfl;rw [e,au,gB,<-ih];show ((x.cps ++ #[]) ++ (Str.join (Str.ofString "") (y :: r)).cps).toList=_
   simp
theorem HS {g:TG} {te:TE} {H:Hp} {p:Addr} {R:Addr->Hp->Prop} (n:Nat) (hg:∀ (x:V) (v a b:Option V) (H:Hp) (Q:St->Hp->Prop),Q [some x,a,b] H->g x [v,a,b] H Q)
  (hte:∀ (v:Option V) (H':Hp),A0 H' p->∀ Q:VK,(∀ (c:Nat) (a b d:Int),LQ c=true->Q (.str ⟨#[c]⟩) (upd H' p (.lst (A6 a b d))))->te [v,some (.str C7),some (.ref p)] H' Q)
  (hn:n<=1000) (hP:A0 H p)
  (k:∀ (H':Hp) (D:Addr) (ss:List Str),A0 H' p->Bd p H H'->H' D=some (.lst (ss.map V.str))->ss.length=n->(∀ s ∈ ss,s.length=1/\RY s)->R D H') :
  ∀ D,H D=none->∃ W:Nat->Nat->St->Hp->Prop,(∃ m,W 0 m [none,some (.str C7),some (.ref p)] (upd H D (.lst []))) /\
   ∀ i m A8 H',W i m A8 H'->((KR 0 n).stop i H'/\R D H')\/((KR 0 n).go i H'/\∀ x H2,(KR 0 n).yld i H' x H2->g x A8 H2 fun A9 H3=>Ke A9 H3 fun b H4=>
    if b=true then te A9 H4 (fun v H5=>∃ acc,H5 D=some (.lst acc)/\acc.length < sizeLine/\∃ m',m' < m/\W (i + 1) m' A9 (upd H5 D (.lst (acc ++ [v])))) else ∃ m',m' < m/\W (i + 1) m' A9 H4):=by
 intro D hD;have big:1000 < sizeLine:=by decide
 have pD:D ≠ p:=hP.ne hD;refine ⟨fun i m A8 H'=>m=n - i/\i<=n/\(∃ v,A8=[v,some (.str C7),some (.ref p)])/\∃ ss:List Str,A0 H' p/\Bd p H H'/\H' D=some (.lst (ss.map V.str))/\ss.length=i/\∀ s ∈ ss,s.length=1/\RY s,
  ⟨n,rfl,aH _,⟨_,rfl⟩,[],hP.other pD,Bd.of_same (Af hD),Ab,rfl,fun s hs=>nomatch hs⟩,?_⟩
 rintro i m A8 H' ⟨rfl,hi,⟨v,rfl⟩,ss,P1,k1,d1,l1,o1⟩;by_cases BE:i < n
 ·refine .inr ⟨BE,?_⟩;rintro x H2 ⟨rfl,rfl⟩;refine hg _ _ _ _ _ _ ?_;unfold Ke;dsimp only;rw [if_pos rfl];refine hte _ _ P1 _ fun c a b d hc=>?_
  refine ⟨ss.map V.str,by rw [Ae pD]; exact d1,by rw [ZR]; lia,n - (i + 1),by lia,rfl,BE,⟨_,rfl⟩,ss ++ [⟨#[c]⟩],(A0.set a b d).other pD,fun b' o hb e=>?_,?_,by rw [ZY,l1]; rfl,fun s hs=>?_⟩
  ·rw [Ae (by intro z; subst z; rw [hD] at e; cases e),Ae hb];exact k1 b' o hb e
  ·rw [Ab,aa]; rfl
  ·rcases aG.mp hs with h | h
   ·exact o1 s h
   ·rw [ar] at h;subst h;refine ⟨rfl,fun c' Mv=>?_⟩;have:c'=c:=by simpa using Mv
    subst this;exact hc
 ·have e:i=n:=by lia
  subst e;exact .inl ⟨ZX _,k H' D ss P1 k1 d1 l1 o1⟩
theorem LU {ss:List Str} (h:∀ s ∈ ss,s.length=1/\RY s):RY (Txt.join (Str.ofString "") ss)/\(Txt.join (Str.ofString "") ss).length=ss.length/\(ss.map (·.length)).sum=ss.length:=by
 have e:∀ l:List Str,(∀ s ∈ l,s.length=1/\RY s)->((l.map fun s=>s.cps.toList).flatten).length=l.length/\(l.map (·.length)).sum=l.length:=by
  intro l;induction l with
  | nil=>intro _; exact ⟨rfl,rfl⟩
  | cons x r ih=>
   intro h;obtain ⟨i1,i2⟩:=ih fun s hs=>h s (aA _ hs)
   have hx:x.cps.size=1:=(h x (aJ ..)).1;constructor
   ·rw [au,gB,ZY,i1,aE,hx,aK];lia
   ·rw [au,gN,i2,aK];show x.cps.size + r.length=r.length + 1
    lia
 refine ⟨fun c hc=>?_,?_,(e ss h).2⟩
 ·rw [LV] at hc;obtain ⟨l,hl,hcl⟩:=List.mem_flatten.mp hc;obtain ⟨s,hs,rfl⟩:=ZZ.mp hl;exact (h s hs).2 c hcl
 ·show (Txt.join (Str.ofString "") ss).cps.size=_
  rw [<-aE,LV];exact (e ss h).1
theorem LJ {xs:List Str} {hd:List Nat} {f:Nat->List Nat} (h:∀ i x,xs[i]? = some x->∃ tl,x.cps.toList=hd ++ (f i ++ tl)) (hf:∀ i j,i < j->j < xs.length->∀ tl UU,f i ++ tl ≠ f j ++ UU):xs.Nodup:=by
 refine cE.mpr fun i j hi hj hij e=>?_
 obtain ⟨tl,h1⟩:=h i _ (ZS hi);obtain ⟨UU,h2⟩:=h j _ (ZS hj);rw [e,h2] at h1;exact hf i j hij hj tl UU (List.append_cancel_left h1).symm
def LF (n:Nat) (st sp:Int) (k:Nat):List Nat:=if 26 < n then [97 + ((st + sp * k) % 26).toNat,97 + k / 26] else [97 + ((st + sp * k) % 26).toNat]
theorem Vo {n:Nat} {st sp:Int} (hn:n<=52) (hs:sp ∈ ([1,3,5,7,9,11,15,17]:List Int)) {i j:Nat} (hij:i < j) (hj:j < n) (tl UU:List Nat):LF n st sp i ++ tl ≠ LF n st sp j ++ UU:=by
 have key:((st + sp * i) % 26).toNat=((st + sp * j) % 26).toNat->(j - i) % 26=0:=by
  intro e;have e2:(st + sp * i) % 26=(st + sp * j) % 26:=by
   have a1:=cz (st + sp * i) (show (26:Int) ≠ 0 by decide);have a2:=cz (st + sp * j) (show (26:Int) ≠ 0 by decide);lia
  have g:Int.gcd 26 sp=1:=by
   simp only [ZU,af,or_false] at hs;rcases hs with rfl | rfl | rfl | rfl | rfl | rfl | rfl | rfl <;> rfl
  have d:(26:Int) ∣ sp * ((j:Int) - i):=by
   refine Int.dvd_of_emod_eq_zero ?_;have e3:sp * ((j:Int) - i)=(st + sp * j) - (st + sp * i):=by rw [Int.mul_sub]; lia
   rw [e3,Int.sub_emod,e2,Int.sub_self];rfl
  have d2:(26:Int) ∣ (j:Int) - i:=by
   rw [cR] at d;have e4:Nat.gcd 26 sp.natAbs=1:=g;have e5:(26:Nat) ∣ ((j:Int) - i).natAbs * sp.natAbs:=by rw [<-Int.natAbs_mul]; exact gj.mpr d
   exact gj.mp (Nat.Coprime.dvd_of_dvd_mul_right e4 e5)
  lia
 intro e;unfold LF at e;by_cases h:26 < n
 ·rw [if_pos h,if_pos h] at e;simp only [eP,eW,eA.injEq] at e;have:=key (by lia);lia
 ·rw [if_neg h,if_neg h] at e;simp only [eP,eW,eA.injEq] at e;have:=key (by lia);lia
theorem Cz {i:Int} (h0:0<=i) (h1:i < 26):Ff C7.cps.toList i=some (97 + i.toNat):=by
 obtain ⟨n,rfl⟩:∃ n:Nat,i=(n:Int):=⟨i.toNat,by lia⟩
 have:∀ m:Fin 26,Ff C7.cps.toList (m.val:Int)=some (97 + ((m.val:Int)).toNat):=by decide +kernel
 exact this ⟨n,by lia⟩
def Lo:Sp:=fun vs H Q _=>∃ (p:Addr) (n:Nat),vs=[.ref p,.int n]/\A0 H p/\n<=52 /\
 ∀ (H':Hp) (D:Addr) (xs:List Str),A0 H' p->Bd p H H'->H D=none->H' D=some (.lst (xs.map V.str))->xs.length=n->xs.Nodup->(∀ x ∈ xs,BI x=true)->Q (.ref D) H'
theorem len1 {α:Type} {l:List α} (h:l.length=1):∃ a,l=[a]:=List.length_eq_one_iff.mp h
theorem lenS {α:Type} {n:Nat} {l:List α} (h:l.length=n + 1):∃ a r,l=a :: r/\r.length=n:=by
 cases l with
 | nil=>cases h
 | cons a r=>exact ⟨a,r,rfl,Nat.succ.inj h⟩
theorem len2 {α:Type} {l:List α} (h:l.length=2):∃ a b,l=[a,b]:=by
 obtain ⟨a,r,rfl,hr⟩:=lenS h;obtain ⟨b,rfl⟩:=len1 hr;exact ⟨a,b,rfl⟩
theorem len3 {α:Type} {l:List α} (h:l.length=3):∃ a b c,l=[a,b,c]:=by
 obtain ⟨a,r,rfl,hr⟩:=lenS h;obtain ⟨b,c,rfl⟩:=len2 hr;exact ⟨a,b,c,rfl⟩
section
variable {K:Type} [DecidableEq K] [BEq K] [LawfulBEq K]
def met (val:Nat->K) (i:Nat):List K:=((cJ i).map val).foldl step_dedup []
theorem Ip (val:Nat->K) (i:Nat):met val (i + 1)=step_dedup (met val i) (val i):=by
 unfold met; rw [List.range_succ,aa,List.foldl_append]; rfl
theorem O6 (σ:List K) (v k:K):(step_dedup σ v).any (· == k)=(σ.any (· == k) || decide (k=v)):=by
 unfold step_dedup;by_cases h:σ.any (· == v)=true
 ·rw [if_pos h];by_cases e:k=v
  ·subst e; rw [h]; simp
  ·simp [e]
 ·rw [if_neg h,List.any_append];by_cases e:k=v
  ·subst e; simp
  ·have hb:(v == k)=false:=by simpa [beq_iff_eq] using (fun h':v=k=>e h'.symm)
   simp [hb,e]
theorem F4 (σ:List K) (v:K):(step_dedup σ v).length=if σ.any (· == v) then σ.length else σ.length + 1:=by
 unfold step_dedup; split <;> simp
theorem DA (val:Nat->K):∀ i,(met val i).length<=i
 | 0=>ZX _
 | i + 1=>by
  rw [Ip,F4];have ih:=DA val i;split <;> lia
end
section
variable {prog:Program} {w:World} {A:Around} {R:Result->Shared->Prop} {I:Addr} {fp wr:List Addr} {G:Array GenState->Array GenState->Prop} {n:Nat} {P:Nat->Value->Prop} {St:Nat->Shared->Prop}
variable {K:Type} [DecidableEq K] [BEq K] [LawfulBEq K] {knd:KeyKind prog w K}
end
section
variable {prog:Program} {w:World} {A:Around} {E:Value->Shared->Prop} {s:Shared}
variable {K:Type} [DecidableEq K] [BEq K] [LawfulBEq K] {knd:KeyKind prog w K}
end
theorem LM (ss:List Str):met (fun i=>ss.getD i (Str.ofString "")) ss.length=ss.foldl step_dedup []:=by
 unfold met;congr 1;refine cj (by simp) fun i h1 h2=>?_
 simp [aj,ZS h2]
theorem C1 {X:Cx} (hg:X.A.guards=some []) (hu:X.A.units + 64 < cLine):Bp X (.builtin "repr") (fun xs H Q=>∃ (a:Addr) (d:PyData),xs=[.ref a]/\Jd H (.ref a) d/\d.showable=true/\d.hasDict=false/\d.depth<=60/\d.shown.length<=sizeLine/\Q (.str d.shown) H):=by
 intro pins s σ H xs us Q I r h;obtain ⟨a,d,rfl,hd,hs,hn,hdp,hz,q⟩:=h;obtain ⟨u,rfl,ru⟩:=Cd r;obtain ⟨as,rds⟩:=hd.reads I ru;cases ru
 refine repr_of_reads' rds hs (fun z=>by rw [hn] at z; cases z) hg (by lia) (fun _ _ e=>e) (fun h' u tk kk=>?_) hz;exact ⟨.str d.shown,H,I.kept (t':=tk) kk,⟨u,rfl⟩,q⟩
theorem R3 {mask finger moves:Nat} {led plain:Bool} {hs:Array Int} {t:SetTable} {o:Array Nat} (h:SetTable.laid mask finger moves led plain hs=some (t,o)):t.led=led/\t.plain=plain:=by
 unfold SetTable.laid at h;cases e:SetTable.layClean mask hs with
 | none=>rw [e] at h; cases h
 | some ow=>
  rw [e] at h;injection h with h;injection h with h1 h2;subst h1;exact ⟨rfl,rfl⟩
theorem OH (t:SetTable) (es:Array (Int × Value)) (wanted:Nat):(relayAll t es wanted).2.1.led=t.led/\(t.plain=false->(relayAll t es wanted).2.1.plain=false):=by
 unfold relayAll;split
 ·rename_i t' order e
  have:=R3 e;dsimp only;split
  ·exact ⟨this.1,fun z=>this.2.trans z⟩
  ·exact ⟨rfl,fun _=>rfl⟩
 ·exact ⟨rfl,fun _=>rfl⟩
theorem To (t:SetTable) (es:Array (Int × Value)) (h:Int) (x:Value):(layNew t es h x).2.1.led=t.led:=by
 unfold layNew;split
 ·dsimp only;unfold SetTable.orStandIn;split <;> rfl
 ·rfl
section
variable {prog:Program} {w:World} {A:Around} {E:Value->Shared->Prop} {s:Shared}
def Tab (w:World) (es:Array (Int × Value)) (t:SetTable):Prop:=t.led=(!w.params.followText "set-order")/\(0 < es.size->t.plain=false)
def Dm (prog:Program) (w:World) (h:Heap) (a:Addr) (S:Str->Bool) (n:Nat):Prop:=
 ∃ o es ep t,h.get? a=some o/\o.ExactSet/\o.data=.set es ep t/\ElemsOf (PySem.strKind prog w) es.toList/\(∀ k,S k=true ↔ ∃ e ∈ es.toList,(PySem.strKind prog w).is k e.2=true) /\
  es.size < scanBound/\t.fits es.size=true/\es.size=n/\Tab w es t
theorem QE {a:Addr} {S:Str->Bool} {n:Nat} {k:Str} {tk:Tok} {Q:Bool->Shared->Prop} (hS:Dm prog w s.heap a S n) (room:n + 1 < scanBound)
  (h:∀ h',Heap.SameBut a s.heap h'->Dm prog w h' a (fun k'=>S k' || decide (k'=k)) (if S k then n else n + 1)->Q (!S k) { s with heap:=h' }) :
  wpAny (model prog w) A (setAddHashed a (.str k tk) ((PySem.strKind prog w).hash k)) Q E s:=by
 obtain ⟨o,es,ep,t,ho,ex,hd,el,mem,few,fit,hn,tab⟩:=hS;have is:(PySem.strKind prog w).is k (.str k tk)=true:=by simp [PySem.strKind,Value.isStrOf]
 have sc:(Value.str k tk).scannable=true:=rfl;have VQ:es.size + 1 < scanBound:=by lia
 unfold setAddHashed setAddHashedIn;refine wpAny_holding (wpAny_bind (wpAny_setState_of ho hd fit ?_));dsimp only;rw [if_pos (byScan_of sc few el)];unfold setAddByScan;refine wpAny_bind (wpAny_bind (wpAny_rule (wpAny_bind (wpAny_setScan_of is ho hd fit el ?_))));cases hr:List.findIdx? (fun e=>(PySem.strKind prog w).is k e.2) es.toList with
 | some j=>
  obtain ⟨hj,pj,_⟩:=List.findIdx?_eq_some_iff_getElem.mp hr;have there:S k=true:=(mem k).mpr ⟨es.toList[j],dI hj,pj⟩;refine wpAny_pure (wpAny_pure ?_);have q:=h s.heap (Heap.SameBut.refl a s.heap) ⟨o,es,ep,t,ho,ex,hd,el,fun k'=>?_,few,fit,by rw [there]; exact hn,tab⟩
  ·rw [there] at q; exact q
  ·rw [Bool.or_eq_true,decide_eq_true_eq,<-mem k'];exact ⟨fun z=>z.elim id fun e=>e ▸ there,.inl⟩
 | none=>
  have gone:S k=false:=by
   cases z:S k with
   | false=>rfl
   | true=>
    obtain ⟨e,he,hp⟩:=(mem k).mp z;have:=List.findIdx?_eq_none_iff.mp hr e he;rw [hp] at this;cases this
  dsimp only;have pm:=layNew_perm t es ((PySem.strKind prog w).hash k) (.str k tk);have ft:=layNew_fits t es ((PySem.strKind prog w).hash k) (.str k tk);have ld:=To t es ((PySem.strKind prog w).hash k) (.str k tk);generalize layNew t es ((PySem.strKind prog w).hash k) (.str k tk)=L at pm ft ld ⊢;obtain ⟨Jc,t1,dum,gv⟩:=L;dsimp only at pm ft ld ⊢;rw [bW] at pm;have X4:=(el.push is sc).perm pm;have WH:=mem_push_iff is mem pm;have z1:Jc.size=n + 1:=by rw [<-aE,pm.length_eq,ZY,aE,hn]; rfl
  have VP:Jc.size < scanBound:=by lia
  have fin:∀ (La:Array (Int × Value)) (t2:SetTable) (h':Heap) (o':Obj) (TC:Nat),Heap.SameBut a s.heap h'->h'.get? a=some o'->o'.ExactSet->o'.data=.set La TC t2->La.toList.Perm Jc.toList->t2.fits La.size=true->t2.led=t.led->t2.plain=false->Q true { s with heap:=h' }:=by
   intro La t2 h' o' TC sb g x d p f l pl;have z2:La.size=n + 1:=by rw [<-z1,<-aE,p.length_eq,aE]
   have q:=h h' sb ⟨o',La,TC,t2,g,x,d,X4.perm p,fun k'=>(WH k').trans ⟨fun ⟨e,he,r⟩=>⟨e,p.mem_iff.mpr he,r⟩,fun ⟨e,he,r⟩=>⟨e,p.mem_iff.mp he,r⟩⟩,by lia,f,by rw [gone]; exact z2,l.trans tab.1,fun _=>pl⟩;rw [gone] at q;exact q
  have gw:∀ (b:Bool) {Bb:Shared} {R:Unit->Shared->Prop},R () Bb->wpAny (model prog w) A (match b with | true=>rule "set.scan.the-table-gave-way" | false=>pure ()) R E Bb:=fun b Bb R q=>by cases b <;> first | exact wpAny_pure q | exact wpAny_rule q
  refine wpAny_bind (gw gv ?_);have main:∀ t2:SetTable,t2.fits Jc.size=true->t2.led=t.led->t2.plain=false->wpAny (model prog w) A (do
    storeSet a Jc t2
    if (!dum && t2.tooFull)=true then do
      (match (relayAll t2 Jc (SetTable.grown Jc.size)).2.2 with | true=>rule "set.scan.the-table-gave-way" | false=>pure ())
      storeSet a (relayAll t2 Jc (SetTable.grown Jc.size)).1 (relayAll t2 Jc (SetTable.grown Jc.size)).2.1
      pure (some true)
     else pure (some true)) (fun r s'=>r=some true/\Q true s') E s:=by
   intro t2 f2 l2 p2;refine wpAny_bind (wpAny_storeSet_of ho hd ?_ (fits_of_scanBound VP));obtain ⟨g1,_⟩:=SetOf_store (knd:=PySem.strKind prog w) ho ex hd X4 WH VP f2;have sb1:=Heap.SameBut.update s.heap a (Obj.putSet Jc t2);split
   ·have pr:=relayAll_perm t2 Jc (SetTable.grown Jc.size);have fr:=relayAll_fits t2 Jc (SetTable.grown Jc.size);have lr:=OH t2 Jc (SetTable.grown Jc.size);generalize relayAll t2 Jc (SetTable.grown Jc.size)=R at pr fr lr ⊢;obtain ⟨La,t3,gv2⟩:=R;dsimp only at pr fr lr ⊢;have z2:La.size=Jc.size:=by rw [<-aE,pr.length_eq,aE]
    refine wpAny_bind (gw gv2 ?_);refine wpAny_bind (wpAny_storeSet_of g1 rfl ?_ (fits_of_scanBound (by rw [z2]; exact VP)));have g2:=b7 (Obj.putSet La t3) g1 (by rw [putSet_of La t3 rfl]; rfl);rw [putSet_of La t3 rfl] at g2;exact wpAny_pure ⟨rfl,fin La t3 _ _ _ (sb1.trans (Heap.SameBut.update _ a _)) g2 ex rfl pr fr (lr.1.trans l2) (lr.2 p2)⟩
   ·exact wpAny_pure ⟨rfl,fin Jc t2 _ _ _ sb1 g1 ex rfl (.refl _) f2 l2 p2⟩
  by_cases pl:t1.plain=true
  ·rw [if_pos pl];refine wpAny_bind ?_;rw [hashByValue_scannable 8 sc];refine wpAny_pure ?_;refine wpAny_mono (main { t1 with plain:=false } (SetTable.fits_plain_off ft) ld rfl) (fun r s' z=>?_) fun _ _ z=>z
   obtain ⟨rfl,z⟩:=z;exact wpAny_pure z
  ·rw [if_neg pl];refine wpAny_bind (wpAny_pure ?_);refine wpAny_mono (main t1 ft ld (by simpa using pl)) (fun r s' z=>?_) fun _ _ z=>z
   obtain ⟨rfl,z⟩:=z;exact wpAny_pure z
end
section
variable {prog:Program} {w:World} {A:Around} {R:Result->Shared->Prop} {I:Addr} {fp wr:List Addr} {G:Array GenState->Array GenState->Prop} {n:Nat} {P:Nat->Value->Prop} {St:Nat->Shared->Prop}
theorem Dm.kept {h h':Heap} {a:Addr} {S:Str->Bool} {n:Nat} (hS:Dm prog w h a S n) (k:∀ o,h.get? a=some o->h'.get? a=some o):Dm prog w h' a S n:=by
 obtain ⟨o,es,ep,t,ho,r⟩:=hS;exact ⟨o,es,ep,t,k _ ho,r⟩
theorem Dm.as {h:Heap} {a:Addr} {S S':Str->Bool} {n n':Nat} (hS:Dm prog w h a S n) (e:∀ k,S' k=S k) (en:n'=n):Dm prog w h a S' n':=by
 subst en;have:S'=S:=funext e;rw [this];exact hS
theorem OD (W:WalksS prog w A.in1 I fp wr G n P St) (D:Addr) (hD:D ∉ fp) (val:Nat->Str) (hv:∀ i v,P i v->∃ tk,v=.str (val i) tk) (few:n + 1 < scanBound) :
  ∀ (k i:Nat) (s:Shared),n - i=k->i<=n->St i s->Dm prog w s.heap D (fun k'=>(met val i).any (· == k')) (met val i).length ->
   (∀ s',Moved (D :: wr) G s s'->Dm prog w s'.heap D (fun k'=>(met val n).any (· == k')) (met val n).length->R (.ok (.ret .none)) s') ->
   codeAny (model prog w) A (.builtin "set.update.loop" ⟨[.ref D,.ref I],[]⟩) R s:=by
 have hw:D ∉ wr:=fun z=>hD (W.sub _ z)
 have up:∀ b ∈ wr,b ∈ D :: wr:=fun b z=>aA _ z
 intro k;induction k with
 | zero=>
  intro i s hk hi st hS q;have e:i=n:=by lia
  subst e;refine codeAny_builtin F.entry_set_update_loop ?_;rw [Around.under_plainId F.plain_set_update_loop _];refine wpAny_bind (W.done s _ _ st fun s' m=>?_);exact wpAny_pure (q s' (m.mono up) (hS.kept fun o e=>m.heap D _ hw e))
 | succ k ih=>
  intro i s hk hi st hS q;have lt:i < n:=by lia
  refine codeAny_builtin F.entry_set_update_loop ?_;rw [Around.under_plainId F.plain_set_update_loop _];refine wpAny_bind (W.item i s _ _ lt st fun v s' pv An m=>?_);obtain ⟨tk,rfl⟩:=hv i v pv;have Oh:=hS.kept (h':=s'.heap) fun o e=>m.heap D _ hw e
  refine wpAny_bind (wpAny_holding ?_);unfold setAdd;refine wpAny_holding ?_;refine wpAny_bind ((PySem.strKind prog w).pyHash (k:=val i) (by simp [PySem.strKind,Value.isStrOf]) ?_);refine QE (s:={ s' with toks:=s'.toks + 1 }) Oh (by have:=DA val i; lia) fun h' sb hS2=>?_
  have nx:Dm prog w h' D (fun k'=>(met val (i + 1)).any (· == k')) (met val (i + 1)).length:=
   hS2.as (fun k'=>by rw [Ip,O6]) (by rw [Ip,F4])
  refine wpAny_pure ⟨plainId_quiet F.plain_set_update_loop _,ih (i + 1) _ (by lia) lt (W.frame _ s' _ _ An (aW _) fun b z o e=>?_) nx fun W8 m2 hS3=>?_⟩
  ·rw [sb.2 b fun y:b=D=>hD (y ▸ z)];exact e
  ·refine q W8 (Moved.trans W.gtrans ((m.mono up).then_heap (aW _) fun b o z e=>?_) m2) hS3;rw [sb.2 b fun y:b=D=>z (y ▸ aJ)];exact e
end
section
variable {prog:Program} {w:World} {A:Around} {E:Value->Shared->Prop} {s:Shared}
theorem QD (a:Value) {Q₁:Value->Shared->Prop}
  (h:Q₁ (.ref s.heap.objs.size) { s with heap:=s.heap.push { cls:=.type "set",dict:=none,data:=.set #[] 0 (.fresh 0 0 (!w.params.followText "set-order")) } }) :
  codeAny (model prog w) A (.call (.builtin "set.__new__") ⟨[.type "set",a],[]⟩) (wants Q₁ E) s:=by
 refine codeAny_of_tree ?_;show wpAny _ A.in1 (checkBuiltinCall "set.__new__" ⟨[.type "set",a],[]⟩ >>= fun _=>again (.builtin "set.__new__" ⟨[.type "set",a],[]⟩)) _ _ s
 refine wpAny_bind (wpAny_of_eq (F.newCall_set_1 a) (wpAny_pure ⟨plainId_quiet F.plain_set_new _,codeAny_builtin F.entry_set_new ?_⟩));rw [Around.under_plainId F.plain_set_new _];unfold Builtin.«set.__new__» Builtin.Frozenset.newClass;have hsub:=sub_set_self;obtain ⟨hp,g,d,tk,os⟩:=s;dsimp only;wp_walk;refine wpAny_askSetting (wpAny_pure ?_);dsimp only;simp only [newObj];refine wpAny_bind (wpAny_alloc (wpAny_pure ?_));exact wpAny_pure h
theorem NH {a:Addr} {T:String} {o:Obj} {oI:Obj} {items:Array Value} {val:Nat->Str} {St:Addr->Nat->Heap->Prop} {Q:Value->Shared->Prop} (hh:A.handled=none)
  (ho:s.heap.get? a=some o) (hc:o.cls=.type T) (hnd:(Value.type T == Value.type "dict")=false) (hs1:isSubtype (.type T) (.type "set")=pure false) (WW:isSubtype (.type T) (.type "frozenset")=pure false)
  (hit:∀ (B:Around) (E':Value->Shared->Prop) (s1:Shared) (Q':Value->Shared->Prop),(∀ b o,s.heap.get? b=some o->s1.heap.get? b=some o)->Q' (.ref s1.heap.objs.size) { s1 with heap:=s1.heap.push oI }->wpAny (model prog w) B (pyIter (.ref a)) Q' E' s1)
  (hW:∀ (B:Around) (I:Addr),B.handled=none->a ≠ I->Walks prog w B I [I,a] [I] items.size (fun i v=>items[i]? = some v) (St I))
  (hst:∀ h:Heap,(∀ b o,s.heap.get? b=some o->h.get? b=some o)->St h.objs.size 0 (h.push oI))
  (hi:∀ (i:Nat) v,items[i]? = some v->∃ tk,v=.str (val i) tk) (few:items.size + 1 < scanBound)
  (h:∀ (h':Heap) (tk:Nat),Dm prog w h' s.heap.objs.size (fun k'=>(met val items.size).any (· == k')) (met val items.size).length ->
   (∀ b o,s.heap.get? b=some o->h'.get? b=some o)->Q (.ref s.heap.objs.size) { s with heap:=h',toks:=tk }) :
  wpAny (model prog w) A (call (.type "set") [.ref a]) Q E s:=by
 obtain ⟨c,tl,hmro⟩:=F.called_set.mro;have hmade:=F.called_set.made;have hsub:=F.called_set.sub;refine wpAny_call (codeAny_of_tree ?_);show wpAny _ _ (callAny (.type "set") _) _ _ _
 refine wpAny_pure ⟨Code.quiet_builtin _ (by decide +kernel),codeAny_builtin F.entry_type_call ?_⟩;rw [Around.under_plain (weight_type_call_type "set" [.ref a] []) rfl];have h1:=F.called_set.notType;have h2:=F.called_set.canCreate;have hct:=F.typeCall_set_1 (.ref a);repeat (any_goals (first | assumption | wp_step))
 obtain ⟨fr,efr⟩:∃ fr:Obj,fr = { cls:=.type "set",dict:=none,data:=.set #[] 0 (.fresh 0 0 (!w.params.followText "set-order")) }:=⟨_,rfl⟩
 refine codeAny_mono (QD (.ref a) (E:=E) (Q₁:=fun obj Bb=>obj=.ref s.heap.objs.size/\Bb = { s with heap:=s.heap.push fr }) ⟨rfl,by rw [efr]⟩) fun r Bb hr=>?_
 have gS:(s.heap.push fr).get? s.heap.objs.size=some fr:=ah _ (by rw [efr]; rfl);have cf:fr.cls=.type "set":=by rw [efr]
 have new:∀ h5:Heap,h5.get? s.heap.objs.size=some fr->Dm prog w h5 s.heap.objs.size (fun k'=>(met val 0).any (· == k')) (met val 0).length:=fun h5 g=>
  ⟨fr,#[],0,.fresh 0 0 (!w.params.followText "set-order"),g,by rw [efr]; exact ⟨rfl,rfl,rfl⟩,by rw [efr],fun e he=>by simp at he,fun k=>by simp [met],by decide,rfl,rfl,rfl,fun z=>by simp at z⟩
 cases r with
 | error e=>exact hr
 | ok fl=>
  cases fl with
  | ret obj=>
   obtain ⟨rfl,rfl⟩:=hr;have hT:Shared.TypeIs { s with heap:=s.heap.push fr } (.ref s.heap.objs.size) "set":=⟨_,gS,cf⟩
   have hli:=F.called_set.init.lookup;have hbi:=F.called_set.init.bind (.ref s.heap.objs.size);repeat (any_goals (first | assumption | wp_step))
   refine codeAny_mono (codeAny_call_builtin (R:=wants (fun r Ey=>r=.none/\∃ h' tk,Ey = { s with heap:=h',toks:=tk } /\
     Dm prog w h' s.heap.objs.size (fun k'=>(met val items.size).any (· == k')) (met val items.size).length /\
     (∀ b o,s.heap.get? b=some o->h'.get? b=some o)) E) F.called_set.init.plain F.entry_set_init (check_set_init_1 hT ?_)) fun YD Ey RD=>?_
   ·obtain ⟨ocls,odict,odata,oslots⟩:=o;simp only at hc;subst hc;have lt:a < s.heap.objs.size:=ae ho;have K9:(s.heap.push fr).get? a=some { cls:=.type T,dict:=odict,data:=odata,slots:=oslots }:=ZT _ ho;subst efr;unfold Builtin.«set.__init__» noKeywords Builtin.Frozenset.updateFrom;generalize hPI:pyIter=PI;wp_walk;subst hPI;refine hit _ _ _ _ (fun b o e=>ZT _ e) ?_;refine wpAny_bind (wpAny_runValue ?_);have ne:a ≠ (s.heap.push { cls:=.type "set",dict:=none,data:=.set #[] 0 (.fresh 0 0 (!w.params.followText "set-order")) }).objs.size:=by
     rw [bx]; exact ao (aN lt)
    have nS:s.heap.objs.size ∉ [(s.heap.push { cls:=.type "set",dict:=none,data:=.set #[] 0 (.fresh 0 0 (!w.params.followText "set-order")) }).objs.size,a]:=by
     rw [bx]; simp only [ZU,af,or_false,not_or];exact ⟨ao (aU _),bA lt⟩
    refine OD ((hW _ _ (by simp [hh]) ne).toS) s.heap.objs.size nS val hi few (items.size - 0) 0 _ (by lia) (aH _) (hst _ fun b o e=>ZT _ e) (new _ (ZT _ gS)) ?_;intro s' hm Oh;obtain ⟨h',g',d',Wl,YF⟩:=s';have eg:g'=s.gens:=hm.gens;have ed:d'=s.drawn:=hm.drawn;have eo:YF=s.os:=hm.os;subst eg ed eo;refine wpAny_pure ?_;refine wpAny_pure ⟨rfl,h',Wl,rfl,Oh,fun b o e=>?_⟩;have hb:=ae e;have VH:b ≠ s.heap.objs.size:=ao hb;have hb2:b ≠ (s.heap.push { cls:=.type "set",dict:=none,data:=.set #[] 0 (.fresh 0 0 (!w.params.followText "set-order")) }).objs.size:=by
     rw [bx]; exact ao (aN hb)
    exact hm.heap b o (by simp only [ZU,af,or_false,not_or]; exact ⟨VH,hb2⟩) (ZT _ (ZT _ e))
   ·cases YD with
    | error e=>exact RD
    | ok X1=>
     cases X1 with
     | ret r=>
      obtain ⟨rfl,h',tk,rfl,Oh,Ng⟩:=RD;repeat (any_goals (first | assumption | wp_step))
      exact h _ _ Oh Ng
     | _=>exact RD.elim
  | _=>exact hr.elim
end
theorem IG:entryFor table "set.__iter__"=some Builtin.«frozenset.__iter__»:=
 entryFor_alias (id':="frozenset.__iter__") (by kernel_rfl) rfl (by decide +kernel) (by kernel_rfl)
theorem Ca:entryFor table "set_iterator.__next__"=some Builtin.«set_iterator.__next__»:=entryFor_of_tree (by kernel_rfl)
theorem AR:Slot "set_iterator" "__next__" "set_iterator.__next__":=
 .of (owner:="set_iterator") (n:="__next__") (by rw [typeLookup_type,builtinLookup_eq_fast]; kernel_rfl) (by decide +kernel) (by decide +kernel) (by decide +kernel)
  (by first | exact .inl (by decide +kernel) | exact .inr (by decide +kernel)) (by rw [isSubtype_type]; kernel_rfl)
theorem E6:Slot "set_iterator" "__iter__" "set_iterator.__iter__":=
 .of (owner:="set_iterator") (n:="__iter__") (by rw [typeLookup_type,builtinLookup_eq_fast]; kernel_rfl) (by decide +kernel) (by decide +kernel) (by decide +kernel)
  (by first | exact .inl (by decide +kernel) | exact .inr (by decide +kernel)) (by rw [isSubtype_type]; kernel_rfl)
theorem Ct (a:Value):argsOk "set_iterator.__next__" ⟨[a],[]⟩:=by unfold argsOk; kernel_rfl
theorem IQ (a:Value):argsOk "set_iterator.__iter__" ⟨[a],[]⟩:=by unfold argsOk; kernel_rfl
theorem Hq:entryFor table "set_iterator.__iter__"=some Builtin.«dict_keyiterator.__iter__»:=
 entryFor_alias (id':="dict_keyiterator.__iter__") (by kernel_rfl) (by first | rfl | decide +kernel | (unfold String.splitOn; simp +decide [String.splitOnAux])) (by decide +kernel) (by kernel_rfl)
section
variable {prog:Program} {w:World} {A:Around} {E:Value->Shared->Prop} {s:Shared}
def Dn (x:Value) (i:Int) (a:Addr) (n ep:Nat):Obj:={ cls:=.type "set_iterator",data:=.fields #[x,.int i 0,.ref a,.int n 0,.int ep 0] }
theorem J2 {r a:Addr} {x:Value} {i:Int} {n ep:Nat} {Q:Value->Shared->Prop} (hr:s.heap.get? r=some (Dn x i a n ep)) (h:Q (.ref r) s):wpAny (model prog w) A (pyIter (.ref r)) Q E s:=by
 have hT:s.TypeIs (.ref r) "set_iterator":=⟨_,hr,rfl⟩
 refine wpAny_pyIter_slot hT E6 (wpAny_call_entry E6 hT Hq ?_ (IQ _));show wpAny _ _ (ret (.ref r)) _ _ s
 exact wpAny_pure ⟨_,rfl,"set_iterator",_,hT,AR.lookup,h⟩
def CG (w:World) (a:Addr) (es:Array (Int × Value)) (ep:Nat) (t:SetTable) (slot given:Nat):Option (Value × Nat):=
 if w.params.followText "set-order"=true then ((pickOrder (w.params.setOrder a ep) es)[given]?).map fun e=>(e.2,slot) else
 match es[SetTable.below t.place slot]?,t.place[SetTable.below t.place slot]? with
  | some (_,x),some j=>some (x,j + 1)
  | _,_=>none
theorem Lr {a:Addr} {o:Obj} {es:Array (Int × Value)} {ep:Nat} {t:SetTable} {slot given:Nat} {Q:Option (Value × Nat)->Shared->Prop} (ho:s.heap.get? a=some o) (hd:o.data=.set es ep t) (fit:t.fits es.size=true) (tab:Tab w es t)
  (few:w.params.followText "set-order"=false->es.size<=1) (h:Q (CG w a es ep t slot given) s):wpAny (model prog w) A (setNext a slot given ep) Q E s:=by
 unfold setNext;refine wpAny_bind (wpAny_setState_of ho hd fit ?_);dsimp only;unfold setsByText;refine wpAny_bind (wpAny_bind (wpAny_askSetting (wpAny_pure ?_)));unfold CG at h;show wpAny _ _ (if w.params.followText "set-order"=true then _ else _) _ _ _
 by_cases z:w.params.followText "set-order"=true
 ·rw [if_pos z] at h;rw [if_pos z,if_neg (by simp)];unfold setWalk;refine wpAny_bind (wpAny_bind (wpAny_setState_of ho hd fit ?_));dsimp only;unfold setsByText;refine wpAny_bind (wpAny_bind (wpAny_askSetting (wpAny_pure ?_)));show wpAny _ _ (if w.params.followText "set-order"=true then _ else _) _ _ _
  rw [if_pos z];refine wpAny_bind (wpAny_askSetting (wpAny_pure ?_));exact wpAny_pure h
 ·rw [if_neg z] at h;rw [if_neg z];have z':w.params.followText "set-order"=false:=by simpa using z
  have sm:=few z';show wpAny _ _ (if (!t.plain && decide (es.size > 1))=true then _ else _) _ _ _
  rw [if_neg (by simp; lia)];refine wpAny_bind ?_;show wpAny _ _ (if (!t.led && !es.isEmpty)=true then _ else _) _ _ _
  rw [if_neg (by rw [tab.1,z']; simp)];exact wpAny_pure (wpAny_pure h)
theorem O9 {r a:Addr} {slot i:Nat} {o:Obj} {es:Array (Int × Value)} {ep:Nat} {t:SetTable} {x:Value} {nx:Nat} {Q:Option Value->Shared->Prop}
  (hr:s.heap.get? r=some (Dn (.int slot 0) i a es.size ep)) (ho:s.heap.get? a=some o) (hd:o.data=.set es ep t) (fit:t.fits es.size=true) (tab:Tab w es t) (few:w.params.followText "set-order"=false->es.size<=1)
  (hx:CG w a es ep t slot i=some (x,nx))
  (hQ:∀ h',h'.get? r=some (Dn (.int nx 0) (i + 1) a es.size ep)->Heap.SameBut r s.heap h'->Q (some x) { s with heap:=h' }) :
  wpAny (model prog w) A (pyNext (.ref r)) Q E s:=by
 have hT:s.TypeIs (.ref r) "set_iterator":=⟨_,hr,rfl⟩
 obtain ⟨hp,g,d,tk,os⟩:=s;unfold pyNext;refine wpAny_bind (wpAny_attempt (wpAny_callSpecial?_slot (name:=Str.ofString "__next__") hT AR
  (wpAny_call_entry AR hT Ca ?_ (Ct _))))
 unfold Builtin.«set_iterator.__next__»;unfold Dn at hr;repeat (any_goals (first | assumption | (refine wpAny_setEntries_of ho hd fit ?_) | (refine Lr (given:=i) (slot:=slot) ho hd fit tab few ?_) | wp_step))
 rw [show ((ep:Nat):Int).toNat=ep by simp,hx];repeat (any_goals (first | assumption | wp_step))
 refine ⟨_,rfl,wpAny_pure (hQ _ ?_ ((Heap.SameBut.update ..).trans (Heap.SameBut.update ..)))⟩;have e1:=b7 (Obj.mapFields fun fs=>fs.setIfInBounds 0 (rawInt nx)) hr rfl;have e2:=b7 (Obj.mapFields fun fs=>fs.setIfInBounds 1 (rawInt (i + 1))) e1 rfl;exact e2
theorem QA {r a:Addr} {slot i:Nat} {o:Obj} {es:Array (Int × Value)} {ep:Nat} {t:SetTable} {Q:Option Value->Shared->Prop} (hh:A.handled=none)
  (hr:s.heap.get? r=some (Dn (.int slot 0) i a es.size ep)) (ho:s.heap.get? a=some o) (hd:o.data=.set es ep t) (fit:t.fits es.size=true) (tab:Tab w es t) (few:w.params.followText "set-order"=false->es.size<=1)
  (hx:CG w a es ep t slot i=none)
  (hQ:∀ h',Heap.ExtBut r s.heap h'->Q none { s with heap:=h' }) :
  wpAny (model prog w) A (pyNext (.ref r)) Q E s:=by
 have hT:s.TypeIs (.ref r) "set_iterator":=⟨_,hr,rfl⟩
 obtain ⟨hp,g,d,tk,os⟩:=s;unfold pyNext;refine wpAny_bind (wpAny_attempt (wpAny_callSpecial?_slot (name:=Str.ofString "__next__") hT AR
  (wpAny_call_entry AR hT Ca ?_ (Ct _))))
 unfold Builtin.«set_iterator.__next__»;unfold Dn at hr;repeat (any_goals (first | assumption | (refine wpAny_setEntries_of ho hd fit ?_) | (refine Lr (given:=i) (slot:=slot) ho hd fit tab few ?_) | wp_step))
 rw [show ((ep:Nat):Int).toNat=ep by simp,hx];repeat (any_goals (first | assumption | wp_step))
 simp only [raiseNew];refine wpAny_bind (wpAny_handled ?_);rw [show A.in1.handled=none from hh];refine wpAny_bind (wpAny_pure (wpAny_throw ?_));refine wpAny_bind (wpAny_isInstance (T:="StopIteration") (b:=true) ⟨_,ah _ rfl,rfl⟩ isSubtype_stop ?_);exact wpAny_pure (hQ _ fun b o hb e=>ZT _ (ZT _ ((Heap.SameBut.update ..).extBut b o hb e)))
end
section
variable {prog:Program} {w:World} {A:Around} {E:Value->Shared->Prop} {s:Shared}
def OT (is:List Nat) (c:Nat):Obj:={ cls:=.type "tuple",data:=.seq (is.map fun (i:Nat)=>rawInt i).toArray c }
theorem OA {a:Addr} {o:Obj} {es:Array (Int × Value)} {ep:Nat} {t:SetTable} {j:Nat} {h:Int} {x:Value} {Q:Value->Shared->Prop} (ho:s.heap.get? a=some o) (hd:o.data=.set es ep t) (fit:t.fits es.size=true)
  (hx:es[j]? = some (h,x)) (q:Q x s):wpAny (model prog w) A (setNextDrawn a j ep) Q E s:=by
 unfold setNextDrawn;refine wpAny_bind (wpAny_setState_of ho hd fit ?_);dsimp only;rw [if_neg (by simp),hx];exact wpAny_pure q
theorem OB {r a p:Addr} {i c:Nat} {o:Obj} {es:Array (Int × Value)} {ep:Nat} {t:SetTable} {is:List Nat} {j:Nat} {h:Int} {x:Value} {Q:Option Value->Shared->Prop}
  (hr:s.heap.get? r=some (Dn (.ref p) i a es.size ep)) (hp:s.heap.get? p=some (OT is c)) (ho:s.heap.get? a=some o) (hd:o.data=.set es ep t) (fit:t.fits es.size=true)
  (hj:is[i]? = some j) (hx:es[j]? = some (h,x))
  (hQ:∀ h',h'.get? r=some (Dn (.ref p) (i + 1) a es.size ep)->Heap.SameBut r s.heap h'->Q (some x) { s with heap:=h' }) :
  wpAny (model prog w) A (pyNext (.ref r)) Q E s:=by
 have hT:s.TypeIs (.ref r) "set_iterator":=⟨_,hr,rfl⟩
 have JF:((is.map fun (i:Nat)=>rawInt i).toArray)[i]? = some (.int j 0):=by simp [hj,rawInt]
 obtain ⟨hp,g,d,tk,os⟩:=s;unfold pyNext;refine wpAny_bind (wpAny_attempt (wpAny_callSpecial?_slot (name:=Str.ofString "__next__") hT AR
  (wpAny_call_entry AR hT Ca ?_ (Ct _))))
 unfold Builtin.«set_iterator.__next__»;unfold Dn at hr;unfold OT at hp;repeat (any_goals (first | assumption | (refine wpAny_setEntries_of ho hd fit ?_) | wp_step))
 rw [show ((i:Nat):Int).toNat=i by simp,JF];dsimp only;refine wpAny_bind (OA (h:=h) (x:=x) ho hd fit (by simpa using hx) ?_);repeat (any_goals (first | assumption | wp_step))
 refine ⟨_,rfl,wpAny_pure (hQ _ ?_ (Heap.SameBut.update ..))⟩;exact b7 (Obj.mapFields fun fs=>fs.setIfInBounds 1 (rawInt (i + 1))) hr rfl
theorem QB {r a p:Addr} {i c:Nat} {o:Obj} {es:Array (Int × Value)} {ep:Nat} {t:SetTable} {is:List Nat} {Q:Option Value->Shared->Prop} (hh:A.handled=none)
  (hr:s.heap.get? r=some (Dn (.ref p) i a es.size ep)) (hp:s.heap.get? p=some (OT is c)) (ho:s.heap.get? a=some o) (hd:o.data=.set es ep t) (fit:t.fits es.size=true)
  (hj:is[i]? = none) (hQ:∀ h',Heap.ExtBut r s.heap h'->Q none { s with heap:=h' }) :
  wpAny (model prog w) A (pyNext (.ref r)) Q E s:=by
 have hT:s.TypeIs (.ref r) "set_iterator":=⟨_,hr,rfl⟩
 have JF:((is.map fun (i:Nat)=>rawInt i).toArray)[i]? = none:=by simpa using hj
 obtain ⟨hp,g,d,tk,os⟩:=s;unfold pyNext;refine wpAny_bind (wpAny_attempt (wpAny_callSpecial?_slot (name:=Str.ofString "__next__") hT AR
  (wpAny_call_entry AR hT Ca ?_ (Ct _))))
 unfold Builtin.«set_iterator.__next__»;unfold Dn at hr;unfold OT at hp;repeat (any_goals (first | assumption | (refine wpAny_setEntries_of ho hd fit ?_) | wp_step))
 rw [show ((i:Nat):Int).toNat=i by simp,JF];repeat (any_goals (first | assumption | wp_step))
 simp only [raiseNew];refine wpAny_bind (wpAny_handled ?_);rw [show A.in1.handled=none from hh];refine wpAny_bind (wpAny_pure (wpAny_throw ?_));refine wpAny_bind (wpAny_isInstance (T:="StopIteration") (b:=true) ⟨_,ah _ rfl,rfl⟩ isSubtype_stop ?_);exact wpAny_pure (hQ _ fun b o hb e=>ZT _ (ZT _ ((Heap.SameBut.update ..).extBut b o hb ((Heap.SameBut.update ..).extBut b o hb e))))
theorem Mz (hh:A.handled=none) (I a:Addr) (ne:a ≠ I) {o:Obj} {es:Array (Int × Value)} {ep:Nat} {t:SetTable} (hd:o.data=.set es ep t) (fit:t.fits es.size=true) (tab:Tab w es t) (few:w.params.followText "set-order"=false->es.size<=1)
  (vs:List Value) (sl:Nat->Nat) (hs:∀ (i:Nat) (v:Value),vs[i]? = some v->CG w a es ep t (sl i) i=some (v,sl (i + 1))) (he:CG w a es ep t (sl vs.length) vs.length=none) :
  Walks prog w A I [I,a] [I] vs.length (fun i v=>vs[i]? = some v) (fun i h=>h.get? I=some (Dn (.int (sl i:Nat) 0) i a es.size ep)/\h.get? a=some o) where
 sub:=fun b hb=>by simp at hb; simp [hb]
 frame:=fun i h h' st k=>⟨k I (by simp) _ st.1,k a (by simp) _ st.2⟩
 item:=fun i s Q E hi st q=>by
  have e:vs[i]? = some vs[i]:=by simp [hi]
  refine O9 st.1 st.2 hd fit tab few (hs i _ e) fun h' hr sb=>q _ h' s.toks e ⟨hr,?_⟩ fun b o hb z=>?_
  ·rw [sb.2 a ne]; exact st.2
  ·rw [sb.2 b (by simpa using hb)]; exact z
 done:=fun s Q E st q=>QA hh st.1 st.2 hd fit tab few he fun h' eb=>q h' s.toks fun b o hb z=>eb b o (by simpa using hb) z
 self:=fun i s Q E st q=>J2 st.1 q
theorem M0 (hh:A.handled=none) (I a p:Addr) (ne:a ≠ I) (np:p ≠ I) {o:Obj} {es:Array (Int × Value)} {ep c:Nat} {t:SetTable} (hd:o.data=.set es ep t) (fit:t.fits es.size=true)
  (is:List Nat) (vs:List Value) (hl:is.length=vs.length) (hs:∀ (i:Nat) (v:Value),vs[i]? = some v->∃ j h,is[i]? = some j/\es[j]? = some (h,v)) :
  Walks prog w A I [I,a,p] [I] vs.length (fun i v=>vs[i]? = some v) (fun i h=>h.get? I=some (Dn (.ref p) i a es.size ep)/\h.get? a=some o/\h.get? p=some (OT is c)) where
 sub:=fun b hb=>by simp at hb; simp [hb]
 frame:=fun i h h' st k=>⟨k I (by simp) _ st.1,k a (by simp) _ st.2.1,k p (by simp) _ st.2.2⟩
 item:=fun i s Q E hi st q=>by
  have e:vs[i]? = some vs[i]:=by simp [hi]
  obtain ⟨j,h,e1,e2⟩:=hs i _ e;refine OB st.1 st.2.2 st.2.1 hd fit e1 e2 fun h' hr sb=>q _ h' s.toks e ⟨hr,?_,?_⟩ fun b o hb z=>?_
  ·rw [sb.2 a ne]; exact st.2.1
  ·rw [sb.2 p np]; exact st.2.2
  ·rw [sb.2 b (by simpa using hb)]; exact z
 done:=fun s Q E st q=>QB hh st.1 st.2.2 st.2.1 hd fit (by simp [hl]) fun h' eb=>q h' s.toks fun b o hb z=>eb b o (by simpa using hb) z
 self:=fun i s Q E st q=>J2 st.1 q
theorem IF {α:Type} {xs:List α} {i:Nat} {x:α} (h:xs[i]? = some x):(x :: xs.eraseIdx i).Perm xs:=by
 induction xs generalizing i with
 | nil=>simp at h
 | cons y ys ih=>
  cases i with
  | zero=>simp at h; subst h; exact .refl _
  | succ i=>
   simp only [fJ] at h;exact (List.Perm.swap _ _ _).trans ((ih h).cons _)
theorem Nj {α:Type} (n:Nat):∀ (xs:List α) (s:Shared) (Q:List α->Shared->Prop),n=xs.length->(∀ ys dr,ys.Perm xs->Q ys { s with drawn:=dr })->wpAny (model prog w) A (drawOrder n xs) Q E s:=by
 induction n with
 | zero=>
  intro xs s Q hn h;cases xs with
  | nil=>exact wpAny_pure (h [] s.drawn (.refl _))
  | cons x xs=>simp at hn
 | succ n ih=>
  intro xs s Q hn h;cases xs with
  | nil=>simp at hn
  | cons x xs=>
   unfold drawOrder;refine wpAny_bind ?_;intro Γ p hΓ;refine ⟨by simp,?_⟩;have lt:w.draws .order (s.drawn.get .order) % (x :: xs).length < (x :: xs).length:=h8 _ (by simp);show wpAny (model prog w) A (match (x :: xs)[w.draws .order (s.drawn.get .order) % (x :: xs).length]? with
    | some y=>drawOrder n ((x :: xs).eraseIdx (w.draws .order (s.drawn.get .order) % (x :: xs).length)) >>= fun r=>pure (y :: r)
    | none=>unsupported "internal:drawOrder") Q E { s with drawn:=s.drawn.bump .order }
   generalize w.draws .order (s.drawn.get .order) % (x :: xs).length=i at lt;have e:(x :: xs)[i]? = some (x :: xs)[i]:=by simp
   rw [e];refine wpAny_bind (ih _ _ _ (by rw [gn]; simp only [lt,if_true]; lia) fun ys dr pm=>?_);exact wpAny_pure (h _ dr ((pm.cons _).trans (IF e)))
theorem NQ {α:Type} (next:Nat->Nat):∀ (fuel k:Nat) (left:List α) (out:Array α),fuel=left.length->(pickOrder.go next fuel k left out).toList.Perm (out.toList ++ left)
 | 0,k,[],out,_=>by unfold pickOrder.go; simp
 | fuel + 1,k,x :: xs,out,h=>by
  unfold pickOrder.go;have lt:next k % (x :: xs).length < (x :: xs).length:=h8 _ (by simp);generalize next k % (x :: xs).length=i at lt;have e:(x :: xs)[i]? = some (x :: xs)[i]:=by simp
  rw [e];refine (NQ next fuel (k + 1) _ _ (by rw [gn]; simp only [lt,if_true]; simp at h ⊢; lia)).trans ?_;rw [bW,bB];exact (IF e).append_left _
theorem OP {α:Type} (next:Nat->Nat) (xs:Array α):(pickOrder next xs).toList.Perm xs.toList:=by
 unfold pickOrder;simpa using NQ next xs.size 0 xs.toList #[] (by simp)
end
theorem Ll:∀ {vs:List Value},(∀ v ∈ vs,∃ x t,v=Value.str x t)->∃ ks,StrsAre vs ks
 | [],_=>⟨[],.nil⟩
 | v :: vs,h=>by
  obtain ⟨x,t,rfl⟩:=h v (by simp);obtain ⟨ks,r⟩:=Ll fun u hu=>h u (aA _ hu)
  exact ⟨x :: ks,.cons x t r⟩
theorem Qw {P:Program} {w:World} {vs:List Value} {ks:List Str} (h:StrsAre vs ks) (k:Str):k ∈ ks ↔ ∃ v ∈ vs,(PySem.strKind P w).is k v=true:=by
 induction h with
 | nil=>simp
 | cons x t r ih=>
  rw [ZU,ih];constructor
  ·rintro (rfl | ⟨v,hv,e⟩)
   ·exact ⟨_,aJ,by simp [PySem.strKind,Value.isStrOf]⟩
   ·exact ⟨v,aA _ hv,e⟩
  ·rintro ⟨v,hv,e⟩;rcases ZU.mp hv with rfl | hv
   ·refine .inl ?_;have e':Value.isStrOf k (.str x t)=true:=e;first | exact (eq_of_beq e').symm | exact eq_of_beq e' | exact of_decide_eq_true e' | exact (of_decide_eq_true e').symm
   ·exact .inr ⟨v,hv,e⟩
section
variable {prog:Program} {w:World} {A:Around} {E:Value->Shared->Prop} {s:Shared}
theorem OC {a:Addr} {o:Obj} {es:Array (Int × Value)} {ep:Nat} {t:SetTable} {Q:Bool->Shared->Prop} (ho:s.heap.get? a=some o) (hd:o.data=.set es ep t) (fit:t.fits es.size=true)
  (h:Q (!w.params.followText "set-order" && (!t.plain && decide (es.size > 1))) s):wpAny (model prog w) A (setDrawn a) Q E s:=by
 unfold setDrawn;refine wpAny_bind (wpAny_setState_of ho hd fit ?_);dsimp only;unfold setsByText;exact wpAny_bind (wpAny_bind (wpAny_askSetting (wpAny_pure (wpAny_pure h))))
theorem OE {a:Addr} {S:Str->Bool} {n:Nat} {Q:Value->Shared->Prop} (hS:Dm prog w s.heap a S n)
  (h:∀ (h':Heap) (dr:Drawn) (I:Addr) (fp:List Addr) (vs:List Value) (ks:List Str) (St:Nat->Heap->Prop),(∀ b o,s.heap.get? b=some o->h'.get? b=some o)->s.heap.objs.size<=I->(∀ b ∈ fp,b=a\/s.heap.objs.size<=b) ->
   StrsAre vs ks->(∀ k,S k=true ↔ k ∈ ks)->ks.length=n->(∀ B:Around,B.handled=none->Walks prog w B I fp [I] vs.length (fun i v=>vs[i]? = some v) St)->St 0 h'->Q (.ref I) { s with heap:=h',drawn:=dr }) :
  wpAny (model prog w) A (pyIter (.ref a)) Q E s:=by
 obtain ⟨o,es,ep,t,ho,ex,hd,el,mem,few,fit,hn,tab⟩:=hS;have lt:a < s.heap.objs.size:=ae ho;have strE:∀ e ∈ es.toList,∃ x tk,e.2=Value.str x tk:=fun e he=>by
  obtain ⟨⟨k,hk,_⟩,_⟩:=el e he;have Ng:Value.isStrOf k e.2=true:=hk;cases z:e.2 <;> rw [z] at Ng <;> first | exact ⟨_,_,rfl⟩ | (simp [Value.isStrOf] at Ng)
 have tx:∀ vs:List Value,vs.Perm (es.toList.map (·.2))->∃ ks,StrsAre vs ks/\(∀ k,S k=true ↔ k ∈ ks)/\ks.length=n:=fun vs pm=>by
  obtain ⟨ks,r⟩:=Ll (vs:=vs) fun v hv=>by
   obtain ⟨e,he,rfl⟩:=ZZ.mp (pm.mem_iff.mp hv);exact strE e he
  refine ⟨ks,r,fun k=>?_,by rw [<-r.length,pm.length_eq,ZR,aE]; exact hn⟩;rw [mem,Qw (P:=prog) (w:=w) r];constructor
  ·rintro ⟨e,he,z⟩;exact ⟨e.2,pm.mem_iff.mpr (ZZ.mpr ⟨e,he,rfl⟩),z⟩
  ·rintro ⟨v,hv,z⟩;obtain ⟨e,he,rfl⟩:=ZZ.mp (pm.mem_iff.mp hv);exact ⟨e,he,z⟩
 have hT:s.TypeIs (.ref a) "set":=⟨o,ho,ex.1⟩
 refine wpAny_pyIter_slot hT F.slot_set_iter (wpAny_call_entry F.slot_set_iter hT IG ?_ (F.args_set_iter_1 _));unfold Builtin.«frozenset.__iter__» Builtin.Frozenset.slot0 slotArgs;simp only [List.isEmpty_nil,cH,aq,↓reduceIte,bind_assoc,eV,bne_self_eq_false];unfold Builtin.Frozenset.addrOf Builtin.Frozenset.sizeOf;refine wpAny_bind (wpAny_pure ?_);try dsimp only
 refine wpAny_bind (wpAny_pure ?_);refine wpAny_bind (wpAny_bind (wpAny_setEntries_of ho hd fit (wpAny_pure ?_)));refine wpAny_bind (OC ho hd fit ?_);by_cases z:(!w.params.followText "set-order" && (!t.plain && decide (es.size > 1)))=true
 ·rw [if_pos z];refine wpAny_bind (Nj es.size (cJ es.size) _ _ (by rw [gC]) fun is dr pm=>?_);refine wpAny_bind (wpAny_newTuple ?_ (by rw [ZR,pm.length_eq,gC]; exact fits_of_scanBound few));refine wpAny_bind (wpAny_setEpoch_of (ZT _ ho) hd fit ?_);refine wpAny_bind (wpAny_newObj_type (wpAny_pure ⟨_,rfl,"set_iterator",_,⟨_,ah _ rfl,rfl⟩,AR.lookup,?_⟩));have rng:∀ j ∈ is,j < es.size:=fun j hj=>fc.mp (pm.mem_iff.mp hj)
  have pv:(is.map fun j=>((es[j]?).map (·.2)).getD Value.none).Perm (es.toList.map (·.2)):=by
   refine (pm.map _).trans ?_;refine List.Perm.of_eq (cj (by simp) fun i h1 h2=>?_);have:i < es.size:=by simpa using h2
   simp [this]
  obtain ⟨ks,r1,r2,r3⟩:=tx _ pv;refine h _ dr _ [(s.heap.push (OT is 0)).objs.size,a,s.heap.objs.size] _ ks _ (fun b o e=>ZT _ (ZT _ e)) (by rw [size_push']; exact aW _) (fun b hb=>?_) r1 r2 r3
   (fun B hB=>M0 hB _ a s.heap.objs.size (by rw [size_push']; exact ao (aN lt)) (by rw [size_push']; exact ao (aU _)) hd fit is _ (by simp) fun i v e=>?_)
   ⟨ah _ rfl,ZT _ (ZT _ ho),ZT _ (ah _ rfl)⟩
  ·simp only [ZU,af,or_false] at hb;rcases hb with rfl | rfl | rfl
   ·exact .inr (by rw [size_push']; exact aW _)
   ·exact .inl rfl
   ·exact .inr (ZX _)
  ·rw [ai] at e;cases ej:is[i]? with
   | none=>rw [ej] at e; cases e
   | some j=>
    rw [ej] at e;have hj:=rng j (ZW ej);have e5:es[j]? = some es[j]:=by simp [hj]
    simp only [gA,e5,Option.getD_some,aI.injEq] at e;exact ⟨j,es[j].1,rfl,by rw [e5,<-e]⟩
 ·rw [if_neg z];refine wpAny_bind (wpAny_pure ?_);refine wpAny_bind (wpAny_setEpoch_of ho hd fit ?_);refine wpAny_bind (wpAny_newObj_type (wpAny_pure ⟨_,rfl,"set_iterator",_,⟨_,ah _ rfl,rfl⟩,AR.lookup,?_⟩));have VQ:w.params.followText "set-order"=false->es.size<=1:=fun q=>by
   rcases dt 1 es.size with y | y
   ·rw [q,tab.2 (by lia)] at z;simp [y] at z
   ·exact y
  have go:∀ (vs:List Value) (sl:Nat->Nat),sl 0=0->vs.Perm (es.toList.map (·.2))->(∀ (i:Nat) (v:Value),vs[i]? = some v->CG w a es ep t (sl i) i=some (v,sl (i + 1)))->CG w a es ep t (sl vs.length) vs.length=none ->
    Q (.ref s.heap.objs.size) { s with heap:=s.heap.push (Dn (rawInt 0) 0 a es.size ep) }:=fun vs sl s0 pm h1 h2=>by
   obtain ⟨ks,r1,r2,r3⟩:=tx _ pm;refine h _ s.drawn _ [s.heap.objs.size,a] vs ks _ (fun b o e=>ZT _ e) (ZX _) (fun b hb=>?_) r1 r2 r3 (fun B hB=>Mz hB _ a (ao lt) hd fit tab VQ vs sl h1 h2) ⟨?_,ZT _ ho⟩
   ·simp only [ZU,af,or_false] at hb;rcases hb with rfl | rfl
    ·exact .inr (ZX _)
    ·exact .inl rfl
   ·rw [s0]; exact ah _ rfl
  by_cases ft:w.params.followText "set-order"=true
  ·refine go ((pickOrder (w.params.setOrder a ep) es).toList.map (·.2)) (fun _=>0) rfl ((OP _ es).map _) (fun i v e=>?_) ?_
   ·unfold CG;rw [if_pos ft];rw [ai,bh] at e;cases y:(pickOrder (w.params.setOrder a ep) es)[i]? with
    | none=>rw [y] at e; cases e
    | some x=>rw [y] at e; cases e; rfl
   ·unfold CG;rw [if_pos ft];simp
  ·have sm:=VQ (by simpa using ft);refine go (es.toList.map (·.2)) (fun i=>if i=0 then 0 else t.place.getD 0 0 + 1) rfl (.refl _) (fun i v e=>?_) ?_
   ·unfold CG;rw [if_neg ft];have i0:i < es.size:=by
     have:=(ag.mp e).1;simpa using this
    have z1:es.size=1:=by lia
    have i1:i=0:=by lia
    subst i1;obtain ⟨x,rfl⟩:∃ x,es=#[x]:=⟨es[0],fq (by simpa using z1) fun j a1 a2=>by
     have:j=0:=by lia
     subst this; rfl⟩
    have pz:t.place.size=1:=by
     simp only [SetTable.fits,b9,beq_iff_eq] at fit;exact fit.1
    obtain ⟨y,ey⟩:∃ y,t.place=#[y]:=⟨t.place[0],fq (by simpa using pz) fun j a1 a2=>by
     have:j=0:=by lia
     subst this; rfl⟩
    rw [ey];simp at e;subst e;rfl
   ·unfold CG;rw [if_neg ft];rcases eJ es.size with z0 | z0
    ·have:es=#[]:=Array.eq_empty_of_size_eq_zero z0;subst this;rfl
    ·have z1:es.size=1:=by lia
     obtain ⟨x,rfl⟩:∃ x,es=#[x]:=⟨es[0],fq (by simpa using z1) fun j a1 a2=>by
      have:j=0:=by lia
      subst this; rfl⟩
     have pz:t.place.size=1:=by
      simp only [SetTable.fits,b9,beq_iff_eq] at fit;exact fit.1
     obtain ⟨y,ey⟩:∃ y,t.place=#[y]:=⟨t.place[0],fq (by simpa using pz) fun j a1 a2=>by
      have:j=0:=by lia
      subst this; rfl⟩
     rw [ey];simp [SetTable.below,SetTable.below.go]
end
section
variable {prog:Program} {w:World} {A:Around} {E:Value->Shared->Prop} {s:Shared}
theorem QC {r:Addr} {Q:Bool->Shared->Prop} (hT:s.TypeIs (.ref r) "set") (h:∀ b,Q b s):wpAny (model prog w) A (Builtin.List.listLengthHint (.ref r)) Q E s:=by
 unfold Builtin.List.listLengthHint;refine wpAny_bind (wpAny_specialOf hT PySem.F.slot_set_len.lookup ?_);generalize hid:("set.__len__":String)=id0;wp_delta;rw [show splitId id0=some ("set","__len__") from by subst hid; decide +kernel];subst hid;refine wpAny_bind (wpAny_isInstance (T:="set") (b:=true) hT (by rw [isSubtype_type]; kernel_rfl) ?_);refine wpAny_ite_split (fun z=>absurd z (by decide)) (fun _=>?_);refine wpAny_ite_split (fun _=>?_) (fun z=>absurd (by decide +kernel) z);refine wpAny_bind (wpAny_typeOf hT ?_);exact wpAny_pure (h _)
theorem Ki {a:Addr} {S:Str->Bool} {n:Nat} {R:List Value->Shared->Prop} (hh:A.handled=none) (hS:Dm prog w s.heap a S n)
  (h:∀ (h':Heap) (tk:Nat) (dr:Drawn) (vs:List Value) (ks:List Str),(∀ b o,s.heap.get? b=some o->h'.get? b=some o)->StrsAre vs ks->(∀ k,S k=true ↔ k ∈ ks)->ks.length=n->R vs { s with heap:=h',toks:=tk,drawn:=dr }) :
  wpAny (model prog w) A (collect (.ref a)) R E s:=by
 have hn:n < scanBound:=by obtain ⟨o,es,ep,t,ho,ex,hd,el,mem,few,fit,hn,tab⟩:=hS; lia
 have Zi:n<=sizeLine:=fits_of_scanBound hn;have lt:a < s.heap.objs.size:=by obtain ⟨o,es,ep,t,ho,r⟩:=hS; exact ae ho
 unfold collect;refine wpAny_bind (wpAny_runValue (codeAny_builtin entry_proto_collect' ?_));rw [Around.under_plainId PySem.F.plain_proto_collect _];show wpAny _ A.in1 (newList [] >>= fun l=>again (.builtin "list.__iadd__" ⟨[l,.ref a],[]⟩)) _ _ s
 refine wpAny_bind (wpAny_newObj_type ?_);refine wpAny_pure ⟨plainId_quiet PySem.F.plain_list_iadd _,codeAny_builtin entry_list_iadd' ?_⟩;rw [Around.under_plainId PySem.F.plain_list_iadd _];have e1:(s.heap.push { cls:=.type "list",data:=.seq ([]:List Value).toArray }).get? s.heap.objs.size=some { cls:=.type "list",data:=.seq #[] }:=ah _ rfl;show wpAny _ A.in1 (Builtin.List.listExtendWith (.ref s.heap.objs.size) (.ref a) (.ref s.heap.objs.size)) _ _ _
 have Sm:Dm prog w (s.heap.push { cls:=.type "list",data:=.seq ([]:List Value).toArray }) a S n:=hS.kept fun o e=>ZT _ e
 unfold Builtin.List.listExtendWith;have hT:Shared.TypeIs { s with heap:=s.heap.push { cls:=.type "list",data:=.seq ([]:List Value).toArray } } (.ref a) "set":=by
  obtain ⟨o,es,ep,t,ho,ex,r⟩:=Sm;exact ⟨o,ho,ex.1⟩
 refine wpAny_bind (wpAny_typeOf hT ?_);have e2:Builtin.List.listSameRef (.ref s.heap.objs.size) (.ref a)=false:=by simp [Builtin.List.listSameRef,bA lt]
 have e3:(Value.type "set" == Value.type "list")=false:=by decide
 have e4:(Value.type "set" == Value.type "tuple")=false:=by decide
 simp only [e2,e3,e4,gJ,aq,if_false];refine wpAny_bind (OE Sm fun h1 dr I fp vs ks St kk hI hfp sv mem len hW st=>?_);have k1:∀ b o,s.heap.get? b=some o->h1.get? b=some o:=fun b o e=>kk b o (ZT _ e)
 have eS:=kk _ _ e1;have PY:Shared.TypeIs { s with heap:=h1,drawn:=dr } (.ref a) "set":=by
  obtain ⟨o,es,ep,t,ho,ex,r⟩:=hS;exact ⟨o,k1 _ _ ho,ex.1⟩
 have szI:(s.heap.push { cls:=.type "list",data:=.seq ([]:List Value).toArray }).objs.size=s.heap.objs.size + 1:=size_push' ..;have nf:s.heap.objs.size ∉ fp:=fun z=>by
  rcases hfp _ z with e | e
  ·exact absurd e (bA lt)
  ·rw [szI] at e; exact absurd e (Nat.not_le_of_lt (aU _))
 have vl:vs.length=n:=by rw [sv.length]; exact len
 have key:∀ (h2:Heap) (c tk:Nat),St 0 h2->(∀ b o,b ≠ s.heap.objs.size->h1.get? b=some o->h2.get? b=some o)->h2.get? s.heap.objs.size=some { cls:=.type "list",data:=.seq #[] c } ->
   codeAny (model prog w) A (.builtin "list.extend.loop" ⟨[.ref s.heap.objs.size,.ref I,.ref s.heap.objs.size],[]⟩) (fun (q:Result) (s':Shared)=>∃ (h':Heap) (tk:Nat) (acc:Array Value) (c':Nat),q=.ok (.ret (.ref s.heap.objs.size))/\s' = { s with heap:=h',toks:=tk,drawn:=dr } /\
    (∀ b o,s.heap.get? b=some o->h'.get? b=some o)/\h'.get? s.heap.objs.size=some { cls:=.type "list",dict:=none,data:=.seq acc c',slots:=#[] }/\ItemsOf (fun i v=>vs[i]? = some v) acc vs.length) { s with heap:=h2,toks:=tk,drawn:=dr }:=by
  intro h2 c tk G5 k2 g2;refine codeAny_extend_loopS (hW _ (by simp [hh])).toS (by rw [vl]; exact Zi) s.heap.objs.size nf (.ref s.heap.objs.size) vs.length 0 _ #[] c rfl (aH _) G5 g2 (ItemsOf.nil _) fun s' acc c' m g' ia=>?_
  refine ⟨s'.heap,s'.toks,acc,c',rfl,?_,fun b o e=>?_,g',ia⟩
  ·rw [Moved.eq_with m]
  ·have lb:=ae e;refine m.heap b o (fun z=>?_) (k2 b o (ao lb) (k1 b o e));rcases ZU.mp z with y | y
   ·exact ao lb y
   ·rw [ar.mp y] at lb;rw [szI] at hI;exact absurd lb (Nat.not_lt_of_le (Nat.le_of_succ_le hI))
 refine wpAny_mono (Q:=fun fin s'=>match fin with | .done f=>False | .again c'=>c'.quiet=true/\codeAny (model prog w) A c' (fun (q:Result) (s':Shared)=>∃ (h':Heap) (tk:Nat) (acc:Array Value) (c':Nat),q=.ok (.ret (.ref s.heap.objs.size))/\s' = { s with heap:=h',toks:=tk,drawn:=dr } /\
    (∀ b o,s.heap.get? b=some o->h'.get? b=some o)/\h'.get? s.heap.objs.size=some { cls:=.type "list",dict:=none,data:=.seq acc c',slots:=#[] }/\ItemsOf (fun i v=>vs[i]? = some v) acc vs.length) s') (E:=fun _ _=>False) ?_ (fun fin s' x=>?_) fun e s' x=>x.elim
 ·refine wpAny_bind (wpAny_holding (QC PY fun b=>?_));refine wpAny_ite_split (fun _=>?_) (fun _=>wpAny_pure ⟨plainId_quiet PySem.F.plain_extend_loop _,key _ _ _ st (fun b o _ e=>e) eS⟩);refine wpAny_bind (wpAny_rule ?_);refine wpAny_bind ?_;show wpAny _ _ (updateSeq s.heap.objs.size (·.push .none) >>= fun _=>updateSeq s.heap.objs.size (·.pop)) _ _ _
  refine wpAny_bind (wpAny_updateSeq eS rfl ?_);have eS2:=b7 (Obj.mapSeq (·.push Value.none)) eS rfl;refine wpAny_updateSeq (hz:=by seq_fits) eS2 rfl ?_;have eS3:=b7 (Obj.mapSeq (·.pop)) eS2 rfl;have oth:∀ b o,b ≠ s.heap.objs.size->h1.get? b=some o->((h1.update s.heap.objs.size (Obj.mapSeq (·.push Value.none))).update s.heap.objs.size (Obj.mapSeq (·.pop))).get? b=some o:=fun b o hb e=>
   (bj _ _ (Ne.symm hb)).trans ((bj _ _ (Ne.symm hb)).trans e)
  refine wpAny_pure ⟨plainId_quiet PySem.F.plain_extend_loop _,key _ _ _ ?_ oth eS3⟩;exact (hW A (by simp [hh])).frame 0 _ _ st fun b hb o e=>oth b o (fun z=>nf (z ▸ hb)) e
 ·cases fin with
  | done f=>exact x.elim
  | again c₁=>
   refine ⟨x.1,codeAny_mono x.2 fun q Ey y=>?_⟩;obtain ⟨h',tk,acc,c',rfl,rfl,hk,Oh,ia⟩:=y;show wpAny _ A (load s.heap.objs.size >>= _) _ _ _
   refine wpAny_bind (wpAny_load Oh ?_);have:acc.toList=vs:=cj (by rw [aE]; exact ia.1) fun i h1 h2=>by
    have h3:i < acc.size:=by simpa using h1
    have this:vs[i]? = some acc[i]:=ia.2 i acc[i] (by simp [h3]);rw [ZS h2] at this;simpa using (aI.inj this).symm
   refine wpAny_pure ?_;have q:=h h' tk dr vs ks hk sv mem len;rw [<-this] at q;exact q
theorem Lq {a:Addr} {S:Str->Bool} {n:Nat} {Q:Value->Shared->Prop} (hh:A.handled=none) (hS:Dm prog w s.heap a S n) (Jm:n < 64)
  (h:∀ (h':Heap) (tk:Nat) (dr:Drawn) (l:Addr) (us:List Value) (e:Nat) (ss ks:List Str),(∀ b o,s.heap.get? b=some o->h'.get? b=some o)->s.heap.get? l=none->h'.get? l=some (seqObj "list" us.toArray e)->StrsAre us ss->ss.Perm ks->sortedS ss=true ->
   (∀ k,S k=true ↔ k ∈ ks)->ks.length=n->Q (.ref l) { s with heap:=h',toks:=tk,drawn:=dr }) :
  wpAny (model prog w) A (call (.builtin "sorted") [.ref a]) Q E s:=by
 refine Calls.call_function_entry kind_sorted plain_sorted entry_sorted (args_sorted1 _) ?_;unfold Builtin.«sorted»;refine wpAny_bind (m:=checkCount "sorted" 1 1 _) (wpAny_pure ?_);refine wpAny_bind (Ki (A:=A.in1) hh hS fun h' tk dr vs ks hk sv mem len=>?_);have hl:vs.length=n:=by rw [sv.length]; exact len
 refine wpAny_bind (wpAny_newList ?_ (aQ (show vs.length<=64 by lia) (by decide)));have g:(h'.push (seqObj "list" vs.toArray 0)).get? h'.objs.size=some (seqObj "list" vs.toArray 0):=ah _ rfl;show wpAny _ _ _ _ _ { s with heap:=h'.push (seqObj "list" vs.toArray 0),toks:=tk,drawn:=dr }
 refine wpAny_bind (wpAny_holding (wpAny_call_entry slot_list_sort ⟨_,g,rfl⟩ entry_list_sort (list_sort_treeK strKind_oneLt (s:={ s with heap:=h'.push (seqObj "list" vs.toArray 0),toks:=tk,drawn:=dr }) g sv.keysOf (fun v₁ v₂ Br e=>keyKind_strs (by rw [<-e]; exact sv)) (by rw [hl]; exact Jm) fun An a1 a2=>⟨_,rfl,?_⟩) (args_list_sort _)));refine wpAny_pure ⟨_,rfl,?_⟩;obtain ⟨ss,b1,b2,b3⟩:=sorted_out_str sv a1 a2;obtain ⟨e,he⟩:=sortedHeap_at (out:=(arrOf An).map (·.2)) g;refine h _ tk dr h'.objs.size ((arrOf An).map (·.2)).toList e ss ks (fun b o q=>?_) ?_ (by rw [fY]; exact he) b1 b2 b3 mem len
 ·have q':=hk b o q;have lt:=ae q';rw [sortedHeap_old (ao lt) (by rw [size_push']; exact aN lt)];exact ZT _ q'
 ·cases z:s.heap.get? h'.objs.size with
  | none=>rfl
  | some o=>exact absurd (ae (hk _ _ z)) (bp _)
end
def SetW (P:Program) (w:World) (a:Addr) (S:Str->Bool) (n:Nat):HO:=.ext fun h=>Dm P w h a S n
theorem Jh:isSubtype (.type "tuple") (.type "set")=pure false:=by rw [isSubtype_type]; kernel_rfl
theorem ET:isSubtype (.type "tuple") (.type "frozenset")=pure false:=by rw [isSubtype_type]; kernel_rfl
def setS (P:Program) (w:World) (a:Addr) (ss:List Str):HO:=SetW P w a (fun k=>(ss.foldl step_dedup []).any (· == k)) (ss.foldl step_dedup []).length
theorem SD {X:Cx} {pins:List (Addr × Obj)} {σ:St} {H:Hp} {s:Shared} (I:Au X pins σ H s) {h':Heap} {tk:Nat} {ss:List Str} (hS:Dm X.prog X.w h' s.heap.objs.size (fun k=>(ss.foldl step_dedup []).any (· == k)) (ss.foldl step_dedup []).length)
  (kk:∀ b o,s.heap.get? b=some o->h'.get? b=some o):Au X pins σ (upd H s.heap.objs.size (setS X.prog X.w s.heap.objs.size ss)) { s with heap:=h',toks:=tk }:=by
 obtain ⟨oS,e1,e2,e3,hoS,Br⟩:=id hS;refine I.laid (a:=s.heap.objs.size) (o:=setS X.prog X.w s.heap.objs.size ss) (t':=tk) kk (ZX _) ⟨hS,⟨_,hoS⟩,fun h1 h2 z st=>?_⟩;exact z.kept fun o e=>st _ e
theorem Mk (K:ZV) {X:Cx} (hK:X.K=K) (hc:X.calm=true):Bp X (.type "set") (fun xs H Q=>∃ (a:Addr) (ss:List Str),xs=[.ref a]/\(AV K H a (ss.map V.str)\/A2 K H a (ss.map V.str))/\ss.length<=1000 /\
  ∀ D,H D=none->Q (.ref D) (upd H D (setS X.prog X.w D ss))):=by
 subst hK;intro pins s σ H xs us Q I r h;obtain ⟨a,ss,rfl,ha,hl,q⟩:=h;obtain ⟨u,rfl,ru⟩:=Cd r;cases ru
 have txt:∀ Az:List Value,A3 (ss.map V.str) Az->∀ (i:Nat) v,Az.toArray[i]? = some v->∃ tk,v=.str (ss.getD i (Str.ofString "")) tk:=fun Az rv i v e=>by
  have il:Az.length=ss.length:=by rw [<-rv.length,ZR]
  have e':Az[i]? = some v:=by simpa using e
  have hi:i < Az.length:=(ag.mp e').1;have e3:(ss.map V.str)[i]? = some (.str ss[i]):=by rw [ai,ZS (by lia)]; rfl
  obtain ⟨v',e4,r4⟩:=rv.get e3;rw [e'] at e4;cases e4
  obtain ⟨t,rfl⟩:=r4;exact ⟨t,by simp [aj,ZS (show i < ss.length by lia)]⟩
 have fin:∀ Az:List Value,A3 (ss.map V.str) Az->∀ (h':Heap) (tk:Nat),Dm X.prog X.w h' s.heap.objs.size (fun k'=>(met (fun i=>ss.getD i (Str.ofString "")) Az.toArray.size).any (· == k')) (met (fun i=>ss.getD i (Str.ofString "")) Az.toArray.size).length ->
   (∀ b o,s.heap.get? b=some o->h'.get? b=some o)->∃ v H',Au X pins σ H' { s with heap:=h',toks:=tk }/\AF v (.ref s.heap.objs.size)/\Q v H':=fun Az rv h' tk hS kk=>by
  have es:Az.toArray.size=ss.length:=by rw [aB,<-rv.length,ZR]
  rw [es,LM] at hS;exact ⟨.ref s.heap.objs.size,_,SD I hS kk,rfl,q _ (I.hok.fresh (ZX _))⟩
 have bnd:∀ Az:List Value,A3 (ss.map V.str) Az->Az.toArray.size + 1 < scanBound:=fun Az rv=>by
  rw [aB,<-rv.length,ZR];unfold scanBound;lia
 rcases ha with ha | ha
 ·obtain ⟨Az,rv,pl,hz⟩:=I.list ha;have il:=pl.isList;obtain ⟨o,ho,hcl,n,hdat⟩:=id il;refine NH (items:=Az.toArray) (val:=fun i=>ss.getD i (Str.ofString "")) (St:=fun I' i h=>h.IsListIter I' a i/\h.IsList a Az.toArray) (I.ok.hd hc) ho hcl (by decide) F.sub_list_set F.sub_list_frozenset
   (fun B E' s1 Q' k q'=>wpAny_pyIter_list ⟨o,k _ _ ho,hcl,n,hdat⟩ q') (fun B I' hB ne=>Walks.list hB I' a ne Az.toArray) (fun h k=>⟨⟨_,ah _ rfl,rfl,rfl⟩,⟨o,ZT _ (k _ _ ho),hcl,n,hdat⟩⟩) (txt Az rv) (bnd Az rv) fun h' tk hS kk=>?_
  exact fin Az rv h' tk hS kk
 ·obtain ⟨Az,rv,pl,hz⟩:=I.tuple ha;obtain ⟨o,ho,hcl,n,hdat⟩:=id pl;refine NH (items:=Az.toArray) (val:=fun i=>ss.getD i (Str.ofString "")) (St:=fun I' i h=>h.IsTupleIter I' a i/\h.IsTuple a Az.toArray) (I.ok.hd hc) ho hcl (by decide) Jh ET
   (fun B E' s1 Q' k q'=>wpAny_pyIter_tuple ⟨o,k _ _ ho,hcl,n,hdat⟩ q') (fun B I' hB ne=>Walks.tuple hB I' a ne Az.toArray) (fun h k=>⟨⟨_,ah _ rfl,rfl,rfl⟩,⟨o,ZT _ (k _ _ ho),hcl,n,hdat⟩⟩) (txt Az rv) (bnd Az rv) fun h' tk hS kk=>?_
  exact fin Az rv h' tk hS kk
theorem Fv (k:Str):∀ (ss σ:List Str),k ∈ ss.foldl step_dedup σ ↔ k ∈ σ\/k ∈ ss
 | [],σ=>by simp
 | x :: xs,σ=>by
  rw [eR,Fv k xs];have:k ∈ step_dedup σ x ↔ k ∈ σ\/k=x:=by
   unfold step_dedup;split
   ·rename_i h
    rw [cg] at h;obtain ⟨y,hy,e⟩:=h;have e:=eq_of_beq e;subst e;exact ⟨.inl,fun z=>z.elim id fun e=>e ▸ hy⟩
   ·simp
  rw [this,ZU];exact or_assoc
theorem Em:∀ (ss σ:List Str),σ.Nodup->(ss.foldl step_dedup σ).Nodup
 | [],σ,h=>h
 | x :: xs,σ,h=>by
  rw [eR];refine Em xs _ ?_;unfold step_dedup;split
  ·exact h
  ·rename_i hn
   refine b8.mpr ⟨h,by simp,fun a ha b hb e=>hn ?_⟩;rw [ar] at hb;subst hb e;exact cg.mpr ⟨_,ha,by simp⟩
theorem L9:∀ {l m:List Str},l.Nodup->(∀ x ∈ l,x ∈ m)->∃ r,m.Perm (l ++ r)
 | [],m,_,_=>⟨m,.refl _⟩
 | x :: l,m,nd,h=>by
  rw [br] at nd;have p:=List.perm_cons_erase (h x (by simp));obtain ⟨r,pr⟩:=L9 (m:=m.erase x) nd.2 fun y hy=>(gi (fun e:y=x=>nd.1 (e ▸ hy))).mpr (h y (aA _ hy))
  exact ⟨r,p.trans (pr.cons _)⟩
theorem Ri {l m:List Str} (nd:l.Nodup) (h:∀ x ∈ l,x ∈ m) (e:m.length=l.length):m.Perm l:=by
 obtain ⟨r,p⟩:=L9 nd h;have:=p.length_eq;rw [ZY] at this;have:r=[]:=dJ.mp (by lia);subst this;simpa using p
theorem Au.drew {X:Cx} {pins:List (Addr × Obj)} {σ:St} {H:Hp} {s:Shared} (I:Au X pins σ H s) (dr:Drawn):Au X pins σ H { s with drawn:=dr }:=
 ⟨I.ok,I.os,I.bare,I.base,I.loc,I.cell,I.free,I.freeC,I.pin,I.hok,I.len⟩
theorem Hr {X:Cx} (hc:X.calm=true):Bp X (.builtin "sorted") (fun xs H Q=>∃ (a:Addr) (ss:List Str),xs=[.ref a]/\H a=some (setS X.prog X.w a ss)/\ss.length < 64 /\
  ∀ (l:Addr) (KU:List Str),H l=none->KU.Nodup->(∀ k,k ∈ KU ↔ k ∈ ss)->sortedS KU=true->Q (.ref l) (upd H l (.lst (KU.map V.str)))):=by
 intro pins s σ H xs us Q I r h;obtain ⟨a,ss,rfl,ha,Jm,q⟩:=h;obtain ⟨u,rfl,ru⟩:=Cd r;cases ru
 have hS:Dm X.prog X.w s.heap a (fun k=>(ss.foldl step_dedup []).any (· == k)) (ss.foldl step_dedup []).length:=(I.hok a _ ha).1;have few:(ss.foldl step_dedup []).length<=ss.length:=by rw [<-LM]; exact DA _ _
 refine Lq (I.ok.hd hc) hS (by lia) fun h' tk dr l us e KU ks k1 k2 k3 k4 k5 k6 k7 k8=>?_
 obtain ⟨m,hlm⟩:=id I.loc;obtain ⟨oL,esL,epL,hoL,rL⟩:=id hlm.1;have fl:H l=none:=by
  cases z:H l with
  | none=>rfl
  | some u=>
   obtain ⟨ob,e⟩:=AU.there (I.hok l u z);rw [k2] at e;cases e
 have mk:∀ k,k ∈ ks ↔ k ∈ ss:=fun k=>by
  rw [<-k7,cg];have:=Fv k ss [];constructor
  ·rintro ⟨x,hx,e⟩;have e:=eq_of_beq e;subst e;exact (this.mp hx).resolve_left (by simp)
  ·intro z;exact ⟨k,this.mpr (.inr z),by simp⟩
 have pm:ks.Perm (ss.foldl step_dedup []):=Ri (Em ss [] ff) (fun x hx=>(mk x).mpr (((Fv x ss []).mp hx).resolve_left (by simp))) k8;have I2:=I.laidF (h2:=h') (D:=l) (o:=.lst (KU.map V.str)) hlm ⟨oL,esL,epL,k1 _ _ hoL,rL⟩ (fun b ob _ q=>k1 b ob q) k2 (fun z=>by rw [z,hoL] at k2; cases k2)
  ⟨by rw [ZR,k5.length_eq,k8,sizeLine_eq]; lia,us,e,Kz k4,k3⟩
 exact ⟨.ref l,_,(I2.kept (t':=tk) fun b u q=>q).drew dr,rfl,q l KU fl (k5.nodup_iff.mpr (pm.nodup_iff.mpr (Em ss [] ff))) (fun k=>k5.mem_iff.trans (mk k)) k6⟩
end L2
namespace L2
open PySem PySem.W PyProof.Rows
section
variable {prog:Program} {w:World} {A:Around} {E:Value->Shared->Prop} {s:Shared} {κ:SortKind} {lt:Keyed->Keyed->Bool} {a0:Array Keyed}
theorem E5 {ρ:Type} {body:Nat->Option ρ × Nat × Nat->StateT SortSt Sem (ForInStep (Option ρ × Nat × Nat))} {n lo hi:Nat} {st:SortSt}
  (hs:∀ x l (R:ForInStep (Option ρ × Nat × Nat)->SortSt->Prop),R (.done (none,l,l)) st->wpS (model prog w) A E s (body x (none,l,l)) R st)
  (hg:∀ x l r (R:ForInStep (Option ρ × Nat × Nat)->SortSt->Prop),l < r->r<=n ->
   (R (.yield (none,l + (r - l) / 2 + 1,r)) st)->(R (.yield (none,l,l + (r - l) / 2)) st)->wpS (model prog w) A E s (body x (none,l,r)) R st)
  (hl:lo<=hi) (hn:hi<=n) :
  wpS (model prog w) A E s (forIn [0:n] (none,lo,hi) body) (fun c An=>An=st/\∃ r,c=(none,r,r)/\r<=n) st:=by
 refine wpS_forRange (I:=fun x c An=>An=st/\∃ l r,c=(none,l,r)/\l<=r/\r<=n/\r - l<=n - x) ?_ ?_ ⟨rfl,lo,hi,rfl,hl,hn,by lia⟩
 ·rintro x c An _ hx ⟨rfl,l,r,rfl,q1,q2,q3⟩;by_cases hlr:l < r
  ·exact hg _ _ _ _ hlr q2 ⟨rfl,_,r,rfl,by lia,by lia,by lia⟩ ⟨rfl,l,_,rfl,by lia,by lia,by lia⟩
  ·have:l=r:=by lia
   subst this;exact hs _ _ _ ⟨rfl,l,rfl,q2⟩
 ·rintro c An ⟨rfl,l,r,rfl,q1,q2,q3⟩;have:l=r:=by lia
  subst this;exact ⟨rfl,l,rfl,q2⟩
theorem Cc {left:Bool} {key:Keyed} {arr:Array Keyed} {base n hint:Nat} {Q:Option Nat->SortSt->Prop} {st:SortSt} (an:KS prog w A s κ lt a0) (hk:kindOf st=κ)
  (hkey:key ∈ a0) (harr:∀ i,i < n->AQ arr (base + i) ∈ a0) (hb:base + n<=arr.size) (hh:hint < n)
  (h:∀ k,k<=n->Q (some k) st) :
  wpS (model prog w) A E s (Tv left key arr base n hint) Q st:=by
 have ha:∀ i (R:Option Bool->SortSt->Prop),i < n->R (some (UD lt left key (AQ arr (base + i)))) st->wpS (model prog w) A E s (Wc left key arr base i) R st:=
  fun i R hi hr=>Qf an hk hkey (harr i hi) (by lia) hr
 refine wpS_bind (ha hint _ hh ?_);dsimp only;cases e:UD lt left key (AQ arr (base + hint))
 ·simp only [aq,if_false];refine wpS_bind (wpS_mono (wpS_forRange (I:=fun x c An=>An=st/\∃ l o,c=(none,l,o)/\l<=hint/\l < o/\x + 1<=o)
   (Q:=fun c An=>An=st/\∃ l o,c=(none,l,o)/\l<=hint/\l < o) ?_ ?_ ⟨rfl,0,1,rfl,by lia,by lia,by lia⟩) ?_)
  ·rintro x c An _ hx ⟨rfl,l,o,rfl,q1,q2,q3⟩;dsimp only;by_cases ho:o >= hint + 1
   ·rw [if_pos ho];exact wpS_pure ⟨rfl,l,o,rfl,q1,q2⟩
   ·rw [if_neg ho];refine wpS_bind (ha _ _ (by lia) ?_);cases e2:UD lt left key (AQ arr (base + (hint - o)))
    ·simp only [aq,if_false];exact wpS_pure ⟨rfl,o,_,rfl,by lia,by lia,by lia⟩
    ·simp only [if_true];exact wpS_pure ⟨rfl,l,o,rfl,q1,q2⟩
  ·rintro c An ⟨rfl,l,o,rfl,q1,q2,q3⟩;exact ⟨rfl,l,o,rfl,q1,q2⟩
  ·rintro c An ⟨rfl,l,o,rfl,q1,q2⟩;dsimp only;refine wpS_bind (wpS_mono (E5 (n:=n) ?_ ?_ ?_ ?_) ?_)
   ·intro x l R hR;dsimp only;rw [if_pos (ZX _)];exact wpS_pure hR
   ·intro x l r R hlr hrn y1 y2;dsimp only;rw [if_neg (by lia)];refine wpS_bind (ha _ _ (by lia) ?_);cases e3:UD lt left key (AQ arr (base + (l + (r - l) / 2)))
    ·exact wpS_pure y2
    ·exact wpS_pure y1
   ·lia
   ·lia
   ·rintro c G5 ⟨rfl,r,rfl,z1⟩;exact wpS_pure (h r z1)
 ·simp only [if_true];refine wpS_bind (wpS_mono (wpS_forRange (I:=fun x c An=>An=st/\∃ l o,c=(none,l,o)/\hint + l < n/\l < o/\x + 1<=o)
   (Q:=fun c An=>An=st/\∃ l o,c=(none,l,o)/\hint + l < n/\l < o) ?_ ?_ ⟨rfl,0,1,rfl,by lia,by lia,by lia⟩) ?_)
  ·rintro x c An _ hx ⟨rfl,l,o,rfl,q1,q2,q3⟩;dsimp only;by_cases ho:o >= n - hint
   ·rw [if_pos ho];exact wpS_pure ⟨rfl,l,o,rfl,q1,q2⟩
   ·rw [if_neg ho];refine wpS_bind (ha _ _ (by lia) ?_);cases e2:UD lt left key (AQ arr (base + (hint + o)))
    ·simp only [Bool.not_false,if_true];exact wpS_pure ⟨rfl,l,o,rfl,q1,q2⟩
    ·simp only [cH,aq,if_false];exact wpS_pure ⟨rfl,o,_,rfl,by lia,by lia,by lia⟩
  ·rintro c An ⟨rfl,l,o,rfl,q1,q2,q3⟩;exact ⟨rfl,l,o,rfl,q1,q2⟩
  ·rintro c An ⟨rfl,l,o,rfl,q1,q2⟩;dsimp only;refine wpS_bind (wpS_mono (E5 (n:=n) ?_ ?_ ?_ ?_) ?_)
   ·intro x l R hR;dsimp only;rw [if_pos (ZX _)];exact wpS_pure hR
   ·intro x l r R hlr hrn y1 y2;dsimp only;rw [if_neg (by lia)];refine wpS_bind (ha _ _ (by lia) ?_);cases e3:UD lt left key (AQ arr (base + (l + (r - l) / 2)))
    ·exact wpS_pure y2
    ·exact wpS_pure y1
   ·lia
   ·lia
   ·rintro c G5 ⟨rfl,r,rfl,z1⟩;exact wpS_pure (h r z1)
structure UL (a b out:Array Keyed) (ia ib:Nat):Prop where
 ml:(out.toList ++ (a.toList.drop ia ++ b.toList.drop ib)).Perm (a.toList ++ b.toList)
 ha:ia + 1 < a.size
 hb:ib < b.size
 sz:out.size=ia + ib
theorem HY {all out l ra rb:List Keyed} (h:(out ++ ((l ++ ra) ++ rb)).Perm all):((out ++ l) ++ (ra ++ rb)).Perm all:=by
 refine List.Perm.trans ?_ h;simp
theorem Ks {all out ra rb:List Keyed} (h:(out ++ (ra ++ rb)).Perm all):(out ++ (rb ++ ra)).Perm all:=List.Perm.trans (List.Perm.append_left _ fZ) h
theorem HX {all out l ra rb:List Keyed} (h:(out ++ (ra ++ (l ++ rb))).Perm all):((out ++ l) ++ (ra ++ rb)).Perm all:=Ks (HY (Ks h))
theorem Kt {all out ra rb:List Keyed} (h:((ra ++ rb) ++ out).Perm all):((rb ++ ra) ++ out).Perm all:=List.Perm.trans (List.Perm.append_right _ fZ) h
theorem HZ {all out l ra rb:List Keyed} (h:((ra ++ (rb ++ l)) ++ out).Perm all):((ra ++ rb) ++ (l ++ out)).Perm all:=by
 refine List.Perm.trans ?_ h;simp
theorem L8 {all out l ra rb:List Keyed} (h:(((ra ++ l) ++ rb) ++ out).Perm all):((ra ++ rb) ++ (l ++ out)).Perm all:=Kt (HZ (Kt h))
theorem JY {a b:Array Keyed} {Q:Array Keyed->SortSt->Prop} {st:SortSt} (an:KS prog w A s κ lt a0) (hk:kindOf st=κ)
  (ma:∀ i,i < a.size->AQ a i ∈ a0) (mb:∀ i,i < b.size->AQ b i ∈ a0) (na:0 < a.size) (nb:0 < b.size)
  (h:∀ (r:Array Keyed) g,r.toList.Perm (a.toList ++ b.toList)->Q r (Cj st g)):wpS (model prog w) A E s (Rw a b) Q st:=by
 have start:((#[AQ b 0]:Array Keyed).toList ++ (a.toList.drop 0 ++ b.toList.drop 1)).Perm (a.toList ++ b.toList):=by
  have e:b.toList.drop 0=[AQ b 0] ++ b.toList.drop 1:=IH nb;have m0:([] ++ (a.toList.drop 0 ++ ([AQ b 0] ++ b.toList.drop 1))).Perm (a.toList ++ b.toList):=by
   rw [<-e];exact List.Perm.refl _
  exact HX m0
 have lastA:∀ (out:Array Keyed) ia ib,(out.toList ++ (a.toList.drop ia ++ b.toList.drop ib)).Perm (a.toList ++ b.toList)->(out ++ b.extract ib ++ a.extract ia).toList.Perm (a.toList ++ b.toList):=by
  intro out ia ib m;rw [aZ,aZ,ER,ER,bB];exact Ks m
 have doneB:∀ (out:Array Keyed) ia ib,(out.toList ++ (a.toList.drop ia ++ b.toList.drop ib)).Perm (a.toList ++ b.toList)->(out ++ a.extract ia ++ b.extract ib).toList.Perm (a.toList ++ b.toList):=by
  intro out ia ib m;rw [aZ,aZ,ER,ER,bB];exact m
 have pushB:∀ (out:Array Keyed) ia ib,(out.toList ++ (a.toList.drop ia ++ b.toList.drop ib)).Perm (a.toList ++ b.toList)->ib < b.size->((out.push (AQ b ib)).toList ++ (a.toList.drop ia ++ b.toList.drop (ib + 1))).Perm (a.toList ++ b.toList):=by
  intro out ia ib m hib;rw [bW];rw [IH hib] at m;exact HX (l:=[AQ b ib]) m
 have pushA:∀ (out:Array Keyed) ia ib,(out.toList ++ (a.toList.drop ia ++ b.toList.drop ib)).Perm (a.toList ++ b.toList)->ia < a.size->((out.push (AQ a ia)).toList ++ (a.toList.drop (ia + 1) ++ b.toList.drop ib)).Perm (a.toList ++ b.toList):=by
  intro out ia ib m hia;rw [bW];rw [IH hia] at m;exact HY (l:=[AQ a ia]) m
 have partA:∀ (out:Array Keyed) ia ib k,(out.toList ++ (a.toList.drop ia ++ b.toList.drop ib)).Perm (a.toList ++ b.toList)->((out ++ a.extract ia (ia + k)).toList ++ (a.toList.drop (ia + k) ++ b.toList.drop ib)).Perm (a.toList ++ b.toList):=by
  intro out ia ib k m;rw [aZ];rw [JL a ia k] at m;exact HY m
 have partB:∀ (out:Array Keyed) ia ib k,(out.toList ++ (a.toList.drop ia ++ b.toList.drop ib)).Perm (a.toList ++ b.toList)->((out ++ b.extract ib (ib + k)).toList ++ (a.toList.drop ia ++ b.toList.drop (ib + k))).Perm (a.toList ++ b.toList):=by
  intro out ia ib k m;rw [aZ];rw [JL b ib k] at m;exact HX m
 refine wpS_bind (wpS_lift (wpAny_rule ⟨rfl,?_⟩));try dsimp -zeta only
 refine wpS_bind (AA (i:=0) nb ?_);by_cases h1:b.size=1
 ·rw [if_pos (by simp [h1])];exact wpS_pure (h _ _ (doneB _ 0 1 start))
 rw [if_neg (by simpa using fun e=>h1 e.symm)];by_cases h2:a.size=1
 ·rw [if_pos (by simp [h2])];exact wpS_pure (h _ _ (lastA _ 0 1 start))
 rw [if_neg (by simpa using fun e=>h2 (by lia))];refine wpS_bind (wpS_get ?_);refine wpS_bind (wpS_mono (wpS_forRange (I:=fun x c An=>∃ out ia ib g g',c=(none,out,ia,ib,g)/\An=Cj st g'/\UL a b out ia ib/\x + 1<=out.size)
  (Q:=fun c An=>∃ (r:Array Keyed) (g':Nat),c.1=some r/\An=Cj st g'/\r.toList.Perm (a.toList ++ b.toList)) ?step ?fin ?init) ?post)
 case init=>exact ⟨_,0,1,_,_,rfl,rfl,⟨start,by lia,by lia,rfl⟩,by simp⟩
 case fin=>
  rintro c An ⟨out,ia,ib,g,g',rfl,rfl,m,hx⟩;have:=m.ha;have:=m.hb;have:=m.sz;lia
 case post=>
  rintro ⟨c,Br⟩ An ⟨r,g',e,rfl,m⟩;dsimp only at e;subst e;exact wpS_pure (h _ _ m)
 case step=>
  rintro x c An _ hxs ⟨out,ia,ib,g,g',rfl,rfl,m,hx⟩;try dsimp -zeta only
  refine wpS_bind (wpS_mono (wpS_forRange (I:=fun y c An=>∃ out ia ib ac bc,c=(none,out,ia,ib,ac,bc)/\An=Cj st g'/\UL a b out ia ib/\x + y + 1<=out.size)
   (Q:=fun c An=>An=Cj st g'/\((∃ r:Array Keyed,c.1=some r/\r.toList.Perm (a.toList ++ b.toList))\/∃ out ia ib ac bc,c=(none,out,ia,ib,ac,bc)/\UL a b out ia ib/\x + 2<=out.size)) ?istep ?ifin ?iinit) ?ipost)
  case iinit=>exact ⟨out,ia,ib,0,0,rfl,rfl,m,by lia⟩
  case ifin=>
   rintro c An ⟨out,ia,ib,ac,bc,rfl,rfl,m,hx⟩;have:=m.ha;have:=m.hb;have:=m.sz;lia
  case istep=>
   rintro y c An _ hy ⟨out,ia,ib,ac,bc,rfl,rfl,m,hx⟩;try dsimp -zeta only
   have hia:=m.ha;have hib:=m.hb;have hsz:=m.sz;refine wpS_bind (AA hib (wpS_bind (AA (by first | lia | (dsimp only at *; lia)) ?_)));refine wpS_bind (F2 an hk (mb _ hib) (ma _ (by first | lia | (dsimp only at *; lia))) ?_);try dsimp -zeta only
   refine Bw (fun e=>?_) (fun e=>?_)
   ·refine wpS_bind (AA hib ?_);have m2:=pushB out ia ib m.ml hib;refine Bz (fun q1=>wpS_pure ⟨rfl,.inl ⟨_,rfl,doneB _ _ _ m2⟩⟩) fun q1=>?_
    ·have mm:UL a b (out.push (AQ b ib)) ia (ib + 1):=⟨m2,hia,by lia,by rw [bg]; lia⟩
     refine Bw (fun _=>wpS_pure ⟨rfl,.inr ⟨_,_,_,_,_,rfl,mm,by rw [bg]; lia⟩⟩) (fun _=>wpS_pure ⟨_,_,_,_,_,rfl,rfl,mm,by rw [bg]; lia⟩)
   ·refine wpS_bind (AA (by lia) ?_);have m2:=pushA out ia ib m.ml (by lia);refine Bz (fun q1=>wpS_pure ⟨rfl,.inl ⟨_,rfl,lastA _ _ _ m2⟩⟩) fun q1=>?_
    ·have mm:UL a b (out.push (AQ a ia)) (ia + 1) ib:=⟨m2,by lia,hib,by rw [bg]; lia⟩
     refine Bw (fun _=>wpS_pure ⟨rfl,.inr ⟨_,_,_,_,_,rfl,mm,by rw [bg]; lia⟩⟩) (fun _=>wpS_pure ⟨_,_,_,_,_,rfl,rfl,mm,by rw [bg]; lia⟩)
  case ipost=>
   rintro c An ⟨rfl,hc⟩;rcases hc with ⟨r,hc,hm⟩ | ⟨out,ia,ib,ac,bc,rfl,m,V5⟩
   ·obtain ⟨c,Br⟩:=c;dsimp only at hc;subst hc;exact wpS_pure ⟨r,g',rfl,rfl,hm⟩
   ·try dsimp -zeta only
    refine wpS_bind (wpS_lift (wpAny_rule ⟨rfl,?_⟩));refine wpS_bind (wpS_mono (wpS_forRange (I:=fun y c An=>∃ out ia ib g ac bc g',c=(none,out,ia,ib,g,ac,bc)/\An=Cj st g'/\UL a b out ia ib/\x + 2<=out.size)
     (Q:=fun c An=>∃ g',An=Cj st g'/\((∃ r:Array Keyed,c.1=some r/\r.toList.Perm (a.toList ++ b.toList))\/∃ out ia ib g ac bc,c=(none,out,ia,ib,g,ac,bc)/\UL a b out ia ib/\x + 2<=out.size)) ?jstep ?jfin ?jinit) ?jpost)
    case jinit=>exact ⟨out,ia,ib,_,ac,bc,g',rfl,rfl,m,V5⟩
    case jfin=>
     rintro c An ⟨out,ia,ib,g,ac,bc,g',rfl,rfl,m,hx⟩;exact ⟨g',rfl,.inr ⟨out,ia,ib,g,ac,bc,rfl,m,hx⟩⟩
    case jpost=>
     rintro c An ⟨g',rfl,hc⟩;rcases hc with ⟨r,hc,hm⟩ | ⟨out,ia,ib,g,ac,bc,rfl,m,V5⟩
     ·obtain ⟨c,Br⟩:=c;dsimp only at hc;subst hc;exact wpS_pure ⟨r,g',rfl,rfl,hm⟩
     ·try dsimp -zeta only
      exact wpS_bind (wpS_modify (wpS_pure ⟨out,ia,ib,_,_,rfl,rfl,m,V5⟩))
    case jstep=>
     rintro y c An _ hy ⟨out,ia,ib,g,ac,bc,g',rfl,rfl,m,hx⟩;try dsimp -zeta only
     have hia:=m.ha;have hib:=m.hb;have hsz:=m.sz;apply dup1
     case main=>
      intro Br;refine Bw (fun gg=>?_) (fun gg=>?_)
      ·generalize g - 1=g2;exact Br g2
      ·exact Br g
     case leaf=>
      intro g2;refine wpS_bind (wpS_modify ?_);refine wpS_bind (AA hib ?_);refine wpS_bind (Cc (left:=false) an hk (mb _ hib) (fun i hi=>ma _ (by first | lia | (dsimp only at *; lia))) (by first | lia | (dsimp only at *; lia)) (by first | lia | (dsimp only at *; lia)) fun k k1=>?_);try dsimp -zeta only
      apply TJ (fun (D9:Array Keyed) (KW:Nat)=>(D9.toList ++ (a.toList.drop KW ++ b.toList.drop ib)).Perm (a.toList ++ b.toList)/\D9.size=KW + ib/\KW + 1 < a.size/\x + 2<=D9.size)
      case main=>
       intro Br;refine Bw (fun k0=>?_) (fun k0=>?_)
       ·have m2:=partA out ia ib k m.ml;have z2:(out ++ a.extract ia (ia + k)).size=ia + k + ib:=by
         rw [bL,cn,hsz];first | lia | (dsimp only at *; lia)
        refine Bz (fun q1=>wpS_pure ⟨_,rfl,.inl ⟨_,rfl,lastA _ _ _ m2⟩⟩) fun q1=>?_
        refine Bz (fun q2=>wpS_pure ⟨_,rfl,.inl ⟨_,rfl,doneB _ _ _ m2⟩⟩) fun q2=>?_
        obtain ⟨D9,eo⟩:∃ o,o=out ++ a.extract ia (ia + k):=⟨_,rfl⟩
        obtain ⟨KW,ei⟩:∃ o,o=ia + k:=⟨_,rfl⟩
        rw [<-eo,<-ei] at m2 z2;rw [<-eo,<-ei];exact Br D9 KW ⟨m2,z2,by first | lia | (dsimp only at *; lia),by first | lia | (dsimp only at *; lia)⟩
       ·exact Br out ia ⟨m.ml,hsz,hia,hx⟩
      case leaf=>
       rintro D9 KW ⟨m2,z2,hia2,YZ⟩;refine wpS_bind (AA hib ?_);have m3:=pushB D9 KW ib m2 hib;have z3:(D9.push (AQ b ib)).size=KW + (ib + 1):=by rw [bg]; lia
       refine Bz (fun q3=>wpS_pure ⟨_,rfl,.inl ⟨_,rfl,doneB _ _ _ m3⟩⟩) fun q3=>?_
       refine wpS_bind (AA (by lia) ?_);refine wpS_bind (Cc (left:=true) an hk (ma _ (by lia)) (fun i hi=>mb _ (by lia)) (by lia) (by lia) fun l l1=>?_);try dsimp -zeta only
       apply TJ (fun (DJ:Array Keyed) (Og:Nat)=>(DJ.toList ++ (a.toList.drop KW ++ b.toList.drop Og)).Perm (a.toList ++ b.toList)/\DJ.size=KW + Og/\Og < b.size/\ib<=Og)
       case main=>
        intro Br;refine Bw (fun l0=>?_) (fun l0=>?_)
        ·have m4:=partB _ KW (ib + 1) l m3;have z4:(D9.push (AQ b ib) ++ b.extract (ib + 1) (ib + 1 + l)).size=KW + (ib + 1 + l):=by
          rw [bL,cn,z3];lia
         refine Bz (fun q1=>wpS_pure ⟨_,rfl,.inl ⟨_,rfl,doneB _ _ _ m4⟩⟩) fun q1=>?_
         obtain ⟨DJ,X3⟩:∃ o,o=D9.push (AQ b ib) ++ b.extract (ib + 1) (ib + 1 + l):=⟨_,rfl⟩
         obtain ⟨Og,X5⟩:∃ o,o=ib + 1 + l:=⟨_,rfl⟩
         rw [<-X3,<-X5] at m4 z4;rw [<-X3,<-X5];exact Br DJ Og ⟨m4,z4,by lia,by lia⟩
        ·exact Br _ (ib + 1) ⟨m3,z3,by lia,by lia⟩
       case leaf=>
        rintro DJ Og ⟨m4,z4,Zk,le2⟩;refine wpS_bind (AA (by lia) ?_);have m5:=pushA DJ KW Og m4 (by lia);have z5:(DJ.push (AQ a KW)).size=KW + 1 + Og:=by rw [bg]; lia
        refine Bz (fun q5=>wpS_pure ⟨_,rfl,.inl ⟨_,rfl,lastA _ _ _ m5⟩⟩) fun q5=>?_
        have mm:UL a b (DJ.push (AQ a KW)) (KW + 1) Og:=⟨m5,by lia,Zk,z5⟩
        have WL:x + 2<=(DJ.push (AQ a KW)).size:=by lia
        refine Bw (fun _=>wpS_pure ⟨_,rfl,.inr ⟨_,_,_,_,_,_,rfl,mm,WL⟩⟩) (fun _=>wpS_pure ⟨_,_,_,_,_,_,_,rfl,rfl,mm,WL⟩)
structure UM (a b out:Array Keyed) (na nb:Nat):Prop where
 mh:((a.toList.take na ++ b.toList.take nb) ++ out.toList.reverse).Perm (a.toList ++ b.toList)
 ha:0 < na
 hb:1 < nb
 la:na<=a.size
 lb:nb<=b.size
 sz:out.size + (na + nb)=a.size + b.size
theorem JZ {a b:Array Keyed} {Q:Array Keyed->SortSt->Prop} {st:SortSt} (an:KS prog w A s κ lt a0) (hk:kindOf st=κ)
  (ma:∀ i,i < a.size->AQ a i ∈ a0) (mb:∀ i,i < b.size->AQ b i ∈ a0) (pa:0 < a.size) (pb:0 < b.size)
  (h:∀ (r:Array Keyed) g,r.toList.Perm (a.toList ++ b.toList)->Q r (Cj st g)):wpS (model prog w) A E s (Rx a b) Q st:=by
 have pushA:∀ (out:Array Keyed) na nb,((a.toList.take na ++ b.toList.take nb) ++ out.toList.reverse).Perm (a.toList ++ b.toList)->0 < na->na<=a.size->((a.toList.take (na - 1) ++ b.toList.take nb) ++ (out.push (AQ a (na - 1))).toList.reverse).Perm (a.toList ++ b.toList):=by
  intro out na nb m h0 h1;rw [bW,dq];obtain ⟨n,rfl⟩:∃ n,na=n + 1:=⟨na - 1,by lia⟩
  rw [Li (by lia)] at m;exact L8 (l:=[AQ a n]) m
 have pushB:∀ (out:Array Keyed) na nb,((a.toList.take na ++ b.toList.take nb) ++ out.toList.reverse).Perm (a.toList ++ b.toList)->0 < nb->nb<=b.size->((a.toList.take na ++ b.toList.take (nb - 1)) ++ (out.push (AQ b (nb - 1))).toList.reverse).Perm (a.toList ++ b.toList):=by
  intro out na nb m h0 h1;rw [bW,dq];obtain ⟨n,rfl⟩:∃ n,nb=n + 1:=⟨nb - 1,by lia⟩
  rw [Li (by lia)] at m;exact HZ (l:=[AQ b n]) m
 have partA:∀ (out:Array Keyed) na nb k,((a.toList.take na ++ b.toList.take nb) ++ out.toList.reverse).Perm (a.toList ++ b.toList)->k<=na->((a.toList.take k ++ b.toList.take nb) ++ (out ++ (a.extract k na).reverse).toList.reverse).Perm (a.toList ++ b.toList):=by
  intro out na nb k m h0;rw [aZ,df,dq,gq];rw [EI h0] at m;exact L8 m
 have partB:∀ (out:Array Keyed) na nb k,((a.toList.take na ++ b.toList.take nb) ++ out.toList.reverse).Perm (a.toList ++ b.toList)->k<=nb->((a.toList.take na ++ b.toList.take k) ++ (out ++ (b.extract k nb).reverse).toList.reverse).Perm (a.toList ++ b.toList):=by
  intro out na nb k m h0;rw [aZ,df,dq,gq];rw [EI h0] at m;exact HZ m
 have start:((a.toList.take (a.size - 1) ++ b.toList.take b.size) ++ (#[AQ a (a.size - 1)]:Array Keyed).toList.reverse).Perm (a.toList ++ b.toList):=by
  refine pushA #[] a.size b.size ?_ pa (ZX _);rw [cq (by simp),cq (by simp)];simp
 have firstB:∀ (out:Array Keyed) na nb,((a.toList.take na ++ b.toList.take nb) ++ out.toList.reverse).Perm (a.toList ++ b.toList)->(b.extract 0 nb ++ a.extract 0 na ++ out.reverse).toList.Perm (a.toList ++ b.toList):=by
  intro out na nb m;rw [aZ,aZ,EO,EO,df];exact Kt m
 have doneA:∀ (out:Array Keyed) na nb,((a.toList.take na ++ b.toList.take nb) ++ out.toList.reverse).Perm (a.toList ++ b.toList)->(a.extract 0 na ++ b.extract 0 nb ++ out.reverse).toList.Perm (a.toList ++ b.toList):=by
  intro out na nb m;rw [aZ,aZ,EO,EO,df];exact m
 refine wpS_bind (wpS_lift (wpAny_rule ⟨rfl,?_⟩));try dsimp -zeta only
 refine wpS_bind (AA (i:=a.size - 1) (by lia) ?_);by_cases h1:a.size - 1=0
 ·rw [if_pos (by simpa using h1)];exact wpS_pure (h _ _ (doneA _ _ _ start))
 rw [if_neg (by simpa using h1)];by_cases h2:b.size=1
 ·rw [if_pos (by simpa using h2)];exact wpS_pure (h _ _ (firstB _ _ _ start))
 rw [if_neg (by simpa using h2)];refine wpS_bind (wpS_get ?_);refine wpS_bind (wpS_mono (wpS_forRange (I:=fun x c An=>∃ na nb out g g',c=(none,na,nb,out,g)/\An=Cj st g'/\UM a b out na nb/\x + 1<=out.size)
  (Q:=fun c An=>∃ (r:Array Keyed) (g':Nat),c.1=some r/\An=Cj st g'/\r.toList.Perm (a.toList ++ b.toList)) ?step ?fin ?init) ?post)
 case init=>exact ⟨_,_,_,_,_,rfl,rfl,⟨start,by lia,by lia,by lia,by lia,by show 1 + _=_; lia⟩,by simp⟩
 case fin=>
  rintro c An ⟨na,nb,out,g,g',rfl,rfl,m,hx⟩;have:=m.ha;have:=m.hb;have:=m.sz;lia
 case post=>
  rintro ⟨c,Br⟩ An ⟨r,g',e,rfl,m⟩;dsimp only at e;subst e;exact wpS_pure (h _ _ m)
 case step=>
  rintro x c An _ hxs ⟨na,nb,out,g,g',rfl,rfl,m,hx⟩;try dsimp -zeta only
  refine wpS_bind (wpS_mono (wpS_forRange (I:=fun y c An=>∃ na nb out ac bc,c=(none,na,nb,out,ac,bc)/\An=Cj st g'/\UM a b out na nb/\x + y + 1<=out.size)
   (Q:=fun c An=>An=Cj st g'/\((∃ r:Array Keyed,c.1=some r/\r.toList.Perm (a.toList ++ b.toList))\/∃ na nb out ac bc,c=(none,na,nb,out,ac,bc)/\UM a b out na nb/\x + 2<=out.size)) ?istep ?ifin ?iinit) ?ipost)
  case iinit=>exact ⟨na,nb,out,0,0,rfl,rfl,m,by lia⟩
  case ifin=>
   rintro c An ⟨na,nb,out,ac,bc,rfl,rfl,m,hx⟩;have:=m.ha;have:=m.hb;have:=m.sz;lia
  case istep=>
   rintro y c An _ hy ⟨na,nb,out,ac,bc,rfl,rfl,m,hx⟩;try dsimp -zeta only
   have ha:=m.ha;have hb:=m.hb;have la:=m.la;have lb:=m.lb;have hsz:=m.sz;refine wpS_bind (AA (by first | lia | (dsimp only at *; lia)) (wpS_bind (AA (by first | lia | (dsimp only at *; lia)) ?_)));refine wpS_bind (F2 an hk (mb _ (by first | lia | (dsimp only at *; lia))) (ma _ (by first | lia | (dsimp only at *; lia))) ?_);try dsimp -zeta only
   refine Bw (fun e=>?_) (fun e=>?_)
   ·refine wpS_bind (AA (by lia) ?_);have m2:=pushA out na nb m.mh ha la;refine Bz (fun q1=>wpS_pure ⟨rfl,.inl ⟨_,rfl,doneA _ _ _ m2⟩⟩) fun q1=>?_
    ·have mm:UM a b (out.push (AQ a (na - 1))) (na - 1) nb:=⟨m2,by lia,hb,by lia,lb,by rw [bg]; lia⟩
     refine Bw (fun _=>wpS_pure ⟨rfl,.inr ⟨_,_,_,_,_,rfl,mm,by rw [bg]; lia⟩⟩) (fun _=>wpS_pure ⟨_,_,_,_,_,rfl,rfl,mm,by rw [bg]; lia⟩)
   ·refine wpS_bind (AA (by lia) ?_);have m2:=pushB out na nb m.mh (by lia) lb;refine Bz (fun q1=>wpS_pure ⟨rfl,.inl ⟨_,rfl,firstB _ _ _ m2⟩⟩) fun q1=>?_
    ·have mm:UM a b (out.push (AQ b (nb - 1))) na (nb - 1):=⟨m2,ha,by lia,la,by lia,by rw [bg]; lia⟩
     refine Bw (fun _=>wpS_pure ⟨rfl,.inr ⟨_,_,_,_,_,rfl,mm,by rw [bg]; lia⟩⟩) (fun _=>wpS_pure ⟨_,_,_,_,_,rfl,rfl,mm,by rw [bg]; lia⟩)
  case ipost=>
   rintro c An ⟨rfl,hc⟩;rcases hc with ⟨r,hc,hm⟩ | ⟨na,nb,out,ac,bc,rfl,m,V5⟩
   ·obtain ⟨c,Br⟩:=c;dsimp only at hc;subst hc;exact wpS_pure ⟨r,g',rfl,rfl,hm⟩
   ·try dsimp -zeta only
    refine wpS_bind (wpS_lift (wpAny_rule ⟨rfl,?_⟩));refine wpS_bind (wpS_mono (wpS_forRange (I:=fun y c An=>∃ na nb out g ac bc g',c=(none,na,nb,out,g,ac,bc)/\An=Cj st g'/\UM a b out na nb/\x + 2<=out.size)
     (Q:=fun c An=>∃ g',An=Cj st g'/\((∃ r:Array Keyed,c.1=some r/\r.toList.Perm (a.toList ++ b.toList))\/∃ na nb out g ac bc,c=(none,na,nb,out,g,ac,bc)/\UM a b out na nb/\x + 2<=out.size)) ?jstep ?jfin ?jinit) ?jpost)
    case jinit=>exact ⟨na,nb,out,_,ac,bc,g',rfl,rfl,m,V5⟩
    case jfin=>
     rintro c An ⟨na,nb,out,g,ac,bc,g',rfl,rfl,m,hx⟩;exact ⟨g',rfl,.inr ⟨na,nb,out,g,ac,bc,rfl,m,hx⟩⟩
    case jpost=>
     rintro c An ⟨g',rfl,hc⟩;rcases hc with ⟨r,hc,hm⟩ | ⟨na,nb,out,g,ac,bc,rfl,m,V5⟩
     ·obtain ⟨c,Br⟩:=c;dsimp only at hc;subst hc;exact wpS_pure ⟨r,g',rfl,rfl,hm⟩
     ·try dsimp -zeta only
      exact wpS_bind (wpS_modify (wpS_pure ⟨na,nb,out,_,_,rfl,rfl,m,V5⟩))
    case jstep=>
     rintro y c An _ hy ⟨na,nb,out,g,ac,bc,g',rfl,rfl,m,hx⟩;try dsimp -zeta only
     have ha:=m.ha;have hb:=m.hb;have la:=m.la;have lb:=m.lb;have hsz:=m.sz;apply dup1
     case main=>
      intro Br;refine Bw (fun gg=>?_) (fun gg=>?_)
      ·generalize g - 1=g2;exact Br g2
      ·exact Br g
     case leaf=>
      intro g2;refine wpS_bind (wpS_modify ?_);refine wpS_bind (AA (by first | lia | (dsimp only at *; lia)) ?_);refine wpS_bind (Cc (left:=false) an hk (mb _ (by first | lia | (dsimp only at *; lia))) (fun i hi=>ma _ (by first | lia | (dsimp only at *; lia))) (by first | lia | (dsimp only at *; lia)) (by first | lia | (dsimp only at *; lia)) fun k k1=>?_);try dsimp -zeta only
      generalize hac:na - k=ac2;apply TJ (fun (D9:Array Keyed) (K0:Nat)=>((a.toList.take K0 ++ b.toList.take nb) ++ D9.toList.reverse).Perm (a.toList ++ b.toList)/\D9.size + (K0 + nb)=a.size + b.size/\0 < K0/\K0<=a.size/\x + 2<=D9.size)
      case main=>
       intro Br;refine Bw (fun k0=>?_) (fun k0=>?_)
       ·have m2:=partA out na nb k m.mh k1;have z2:(out ++ (a.extract k na).reverse).size + (k + nb)=a.size + b.size:=by
         rw [bL,gy,cn];lia
        refine Bz (fun q1=>wpS_pure ⟨_,rfl,.inl ⟨_,rfl,doneA _ _ _ m2⟩⟩) fun q1=>?_
        obtain ⟨D9,eo⟩:∃ o,o=out ++ (a.extract k na).reverse:=⟨_,rfl⟩
        obtain ⟨K0,ei⟩:∃ o,o=k:=⟨_,rfl⟩
        rw [<-eo] at m2 z2;rw [<-eo,<-ei];rw [<-ei] at m2 z2;exact Br D9 K0 ⟨m2,z2,by lia,by lia,by lia⟩
       ·exact Br out na ⟨m.mh,hsz,ha,la,hx⟩
      case leaf=>
       rintro D9 K0 ⟨m2,z2,p1,p2,YZ⟩;refine wpS_bind (AA (by lia) ?_);have m3:=pushB D9 K0 nb m2 (by lia) lb;have z3:(D9.push (AQ b (nb - 1))).size + (K0 + (nb - 1))=a.size + b.size:=by rw [bg]; lia
       refine Bz (fun q3=>wpS_pure ⟨_,rfl,.inl ⟨_,rfl,firstB _ _ _ m3⟩⟩) fun q3=>?_
       refine wpS_bind (AA (by lia) ?_);refine wpS_bind (Cc (left:=true) an hk (ma _ (by lia)) (fun i hi=>mb _ (by lia)) (by lia) (by lia) fun l l1=>?_);try dsimp -zeta only
       generalize hbc:nb - 1 - l=bc2;apply TJ (fun (DJ:Array Keyed) (Jb:Nat)=>((a.toList.take K0 ++ b.toList.take Jb) ++ DJ.toList.reverse).Perm (a.toList ++ b.toList)/\DJ.size + (K0 + Jb)=a.size + b.size/\1 < Jb/\Jb<=b.size/\x + 2<=DJ.size)
       case main=>
        intro Br;refine Bw (fun l0=>?_) (fun l0=>?_)
        ·have m4:=partB _ K0 (nb - 1) l m3 l1;have z4:(D9.push (AQ b (nb - 1)) ++ (b.extract l (nb - 1)).reverse).size + (K0 + l)=a.size + b.size:=by
          rw [bL,gy,cn];lia
         refine Bz (fun q1=>wpS_pure ⟨_,rfl,.inl ⟨_,rfl,firstB _ _ _ m4⟩⟩) fun q1=>?_
         refine Bz (fun q2=>wpS_pure ⟨_,rfl,.inl ⟨_,rfl,doneA _ _ _ m4⟩⟩) fun q2=>?_
         obtain ⟨DJ,X3⟩:∃ o,o=D9.push (AQ b (nb - 1)) ++ (b.extract l (nb - 1)).reverse:=⟨_,rfl⟩
         obtain ⟨Jb,X5⟩:∃ o,o=l:=⟨_,rfl⟩
         rw [<-X3] at m4 z4;rw [<-X3,<-X5];rw [<-X5] at m4 z4;exact Br DJ Jb ⟨m4,z4,by lia,by lia,by lia⟩
        ·exact Br _ (nb - 1) ⟨m3,z3,by lia,by lia,by rw [bg]; lia⟩
       case leaf=>
        rintro DJ Jb ⟨m4,z4,p3,p4,hx3⟩;refine wpS_bind (AA (by lia) ?_);have m5:=pushA DJ K0 Jb m4 p1 p2;have z5:(DJ.push (AQ a (K0 - 1))).size + (K0 - 1 + Jb)=a.size + b.size:=by rw [bg]; lia
        refine Bz (fun q5=>wpS_pure ⟨_,rfl,.inl ⟨_,rfl,doneA _ _ _ m5⟩⟩) fun q5=>?_
        have mm:UM a b (DJ.push (AQ a (K0 - 1))) (K0 - 1) Jb:=⟨m5,by lia,p3,by lia,p4,z5⟩
        have WL:x + 2<=(DJ.push (AQ a (K0 - 1))).size:=by rw [bg]; lia
        refine Bw (fun _=>wpS_pure ⟨_,rfl,.inr ⟨_,_,_,_,_,_,rfl,mm,WL⟩⟩) (fun _=>wpS_pure ⟨_,_,_,_,_,_,_,rfl,rfl,mm,WL⟩)
theorem EY {lo nrem:Nat} {Q:Option Nat->SortSt->Prop} {st:SortSt} (an:KS prog w A s κ lt a0) (hk:kindOf st=κ) (hp:(arrOf st).Perm a0) (hn:lo + nrem<=a0.size) (h1:1<=nrem)
  (h:∀ m ys,Kp (arrOf st) ys lo->1<=m->m<=nrem->Q (some m) (setArr st ys)):wpS (model prog w) A E s (countRun' lo nrem) Q st:=by
 have hz:=hp.size_eq;refine wpS_bind (wpS_mono (Hv (f:=fun n=>lt (AQ (arrOf st) (lo + n)) (AQ (arrOf st) (lo + n - 1))) h1 ?_) ?_)
 ·intro x n R n1 n2 y1 y2;dsimp only;refine wpS_bind (By an hk hp (by lia) (by lia) ?_);dsimp only;cases e:lt (AQ (arrOf st) (lo + n)) (AQ (arrOf st) (lo + n - 1))
  ·exact wpS_pure (y2 e)
  ·exact wpS_pure (y1 e)
 rintro c An ⟨rfl,n,rfl,n1,n2,q,hor⟩;dsimp only;by_cases hnn:n=nrem
 ·rw [if_pos (by simpa using hnn)];exact wpS_pure (h n _ (Kp.refl _ _) n1 n2)
 rw [if_neg (by simpa using hnn)];by_cases hgt:n > 1
 case' pos=>
  rw [if_pos hgt];refine wpS_bind (By an hk hp (by lia) (by lia) ?_);dsimp only;cases hrose:lt (AQ (arrOf An) lo) (AQ (arrOf An) (lo + n - 1))
  case' true=>
   simp only [if_true];exact wpS_pure (h n _ (Kp.refl _ _) n1 n2)
  case' false=>
   simp only [aq,if_false];refine wpS_bind (C9 ?_);have kp:Kp (arrOf An) (mirror (arrOf An) lo (lo + n) ((lo + n - lo) / 2)) lo:=(Kp.refl _ _).mirror (by lia) (ZX _);obtain ⟨ys,ey⟩:∃ ys,ys=mirror (arrOf An) lo (lo + n) ((lo + n - lo) / 2):=⟨_,rfl⟩
   rw [<-ey] at kp;show wpS (model prog w) A E s _ Q (setArr An (mirror (arrOf An) lo (lo + n) ((lo + n - lo) / 2)))
   rw [<-ey]
 case' neg=>
  rw [if_neg hgt];obtain ⟨ys,ey⟩:∃ ys,ys=arrOf An:=⟨_,rfl⟩
  have kp:Kp (arrOf An) ys lo:=by rw [ey]; exact Kp.refl _ _
  show wpS (model prog w) A E s _ Q (setArr An (arrOf An))
  rw [<-ey]
 all_goals
  refine wpS_bind (wpS_lift (wpAny_rule ⟨rfl,?_⟩));refine wpS_bind (wpS_mono (wpS_forRange (I:=fun x c Bj=>∃ neq ys,c=(none,x,neq)/\Bj=setArr An ys/\Kp (arrOf An) ys lo/\neq + 1<=x)
   (Q:=fun c Bj=>∃ m neq ys,c=(none,m,neq)/\Bj=setArr An ys/\Kp (arrOf An) ys lo/\n + 1<=m/\m<=nrem/\neq + 1<=m) ?dstep ?dfin ?dinit) ?dpost)
  case dinit=>exact ⟨0,ys,rfl,rfl,kp,by lia⟩
  case dfin=>
   rintro c Bj ⟨neq,ys,rfl,rfl,kp,a1⟩;have e:max (n + 1) nrem=nrem:=by lia
   rw [e] at a1 ⊢;exact ⟨nrem,neq,ys,rfl,rfl,kp,by lia,ZX _,a1⟩
  case dstep=>
   rintro x c Bj x1 x2 ⟨neq,ys,rfl,rfl,kp,a1⟩;dsimp only;have hzy:=kp.size;have hpy:(arrOf (setArr An ys)).Perm a0:=kp.1.trans hp;refine wpS_bind (By (st:=setArr An ys) an hk hpy (by lia) (by lia) ?_);dsimp only;cases hless:lt (AQ ys (lo + x)) (AQ ys (lo + x - 1))
   ·simp only [aq,if_false];refine wpS_bind (By (st:=setArr An ys) an hk hpy (by lia) (by lia) ?_);dsimp only;cases hlarger:lt (AQ ys (lo + x - 1)) (AQ ys (lo + x))
    ·simp only [aq,if_false];exact wpS_pure ⟨neq + 1,ys,rfl,rfl,kp,by lia⟩
    ·simp only [if_true];exact wpS_pure ⟨x,neq,ys,rfl,rfl,kp,x1,by lia,a1⟩
   ·simp only [if_true];by_cases hq:neq > 0
    ·rw [if_pos hq];exact wpS_bind (C9 (wpS_pure ⟨0,_,rfl,rfl,kp.mirror (by lia) (by lia),by lia⟩))
    ·rw [if_neg hq];exact wpS_pure ⟨0,ys,rfl,rfl,kp,by lia⟩
  case dpost=>
   rintro c Bj ⟨m,neq,zs,rfl,rfl,kz,m1,m2,a1⟩;dsimp only;have hzz:=kz.size;have last:∀ us,Kp (arrOf An) us lo->∀ (vs:Array Keyed),Kp (arrOf An) vs lo->∀ n',m<=n'->n'<=nrem->Q (some n') (setArr An vs):=fun us ku vs kv n' b1 b2=>h n' vs kv (by lia) b2
   by_cases hq:neq > 0
   case' pos=>
    rw [if_pos hq];refine wpS_bind (C9 ?_);have Sj:Kp (arrOf An) (mirror zs (lo + m - (neq + 1)) (lo + m) ((lo + m - (lo + m - (neq + 1))) / 2)) lo:=kz.mirror (by lia) (by lia);obtain ⟨us,eu⟩:∃ us,us=mirror zs (lo + m - (neq + 1)) (lo + m) ((lo + m - (lo + m - (neq + 1))) / 2):=⟨_,rfl⟩
    rw [<-eu] at Sj;show wpS (model prog w) A E s _ Q (setArr An (mirror zs (lo + m - (neq + 1)) (lo + m) ((lo + m - (lo + m - (neq + 1))) / 2)))
    rw [<-eu]
   case' neg=>
    rw [if_neg hq];obtain ⟨us,eu⟩:∃ us,us=zs:=⟨_,rfl⟩
    have Sj:Kp (arrOf An) us lo:=by rw [eu]; exact kz
    rw [<-eu]
   all_goals
    have hzu:=Sj.size;refine wpS_bind (C9 ?_);show wpS (model prog w) A E s _ Q (setArr An (mirror us lo (lo + m) ((lo + m - lo) / 2)))
    have kv:Kp (arrOf An) (mirror us lo (lo + m) ((lo + m - lo) / 2)) lo:=Sj.mirror (by lia) (ZX _);obtain ⟨vs,ev⟩:∃ vs,vs=mirror us lo (lo + m) ((lo + m - lo) / 2):=⟨_,rfl⟩
    rw [<-ev] at kv;rw [<-ev];have hzv:=kv.size;refine wpS_bind (wpS_mono (Hv (f:=fun n=>lt (AQ vs (lo + n)) (AQ vs (lo + n - 1))) m2 ?_) ?_)
    ·intro x n R n1 n2 y1 y2;dsimp only;refine wpS_bind (By (st:=setArr An vs) an hk (kv.1.trans hp) (by lia) (by lia) ?_);dsimp only;cases e:lt (AQ vs (lo + n)) (AQ vs (lo + n - 1))
     ·exact wpS_pure (y2 e)
     ·exact wpS_pure (y1 e)
    rintro c Ya ⟨rfl,n',rfl,b1,b2,b3,_⟩;exact wpS_pure (last us Sj vs kv n' b1 b2)
theorem Ep {lo n ok:Nat} {Q:Bool->SortSt->Prop} {st:SortSt} (an:KS prog w A s κ lt a0) (hk:kindOf st=κ) (hp:(arrOf st).Perm a0) (hn:lo + n<=a0.size) (h1:1<=ok) (hok:ok<=n)
  (h:∀ ys,Kp (arrOf st) ys lo->Q true (setArr st ys)):wpS (model prog w) A E s (binarySort' lo n ok) Q st:=by
 have hz:=hp.size_eq;refine wpS_bind (wpS_mono (wpS_forRange (I:=fun k c An=>c=(none,())/\∃ ys,An=setArr st ys/\Kp (arrOf st) ys lo)
  (Q:=fun c An=>c=(none,())/\∃ ys,An=setArr st ys/\Kp (arrOf st) ys lo) ?step ?fin ?init) ?post)
 case init=>exact ⟨rfl,arrOf st,rfl,Kp.refl _ _⟩
 case fin=>
  rintro c An ⟨rfl,ys,rfl,kp⟩;exact ⟨rfl,ys,rfl,kp⟩
 case post=>
  rintro c An ⟨rfl,ys,rfl,kp⟩;exact wpS_pure (h ys kp)
 case step=>
  rintro k c An k1 k2 ⟨rfl,ys,rfl,kp⟩;dsimp only;have hzy:=kp.size;have hpy:(arrOf (setArr st ys)).Perm a0:=kp.1.trans hp;refine wpS_bind (wpS_mono (E5 (n:=k) ?_ ?_ (aH _) (ZX _)) ?_)
  ·intro x l R hR;dsimp only;rw [if_pos (ZX _)];exact wpS_pure hR
  ·intro x l r R hlr hrk y1 y2;dsimp only;rw [if_neg (by lia),show (l + r) / 2=l + (r - l) / 2 by lia];refine wpS_bind (By (st:=setArr st ys) an hk hpy (by lia) (by lia) ?_);dsimp only;cases e:lt (AQ ys (lo + k)) (AQ ys (lo + (l + (r - l) / 2)))
   ·exact wpS_pure y1
   ·exact wpS_pure y2
  ·rintro c G5 ⟨rfl,r,rfl,r1⟩;refine wpS_bind ?_;rw [show (sortPriv% PySem.Builtin.moveDown)=moveDown' from rfl,moveDown'_eq];exact wpS_modify (wpS_pure ⟨rfl,bubble ys (lo + k) (lo + k - (lo + r)),rfl,kp.bubble (by lia) (by lia)⟩)
theorem Ka {st:SortSt} {Q:Bool->SortSt->Prop} {l1 l2:List (Nat × Nat × Nat)} {sa na p1 sb nb p2:Nat} (an:KS prog w A s κ lt a0) (hk:kindOf st=κ) (hp:(arrOf st).Perm a0) (hfa:failedOf st=none)
  (hl:(pendingOf st).toList=l1 ++ (sa,na,p1) :: (sb,nb,p2) :: l2) (eb:sb=sa + na) (ha:1<=na) (hb:1<=nb) (hz:sb + nb<=a0.size)
  (h:∀ ys pe g,ys.Perm a0->(∀ k,(k < sa\/sb + nb<=k)->AQ ys k=AQ (arrOf st) k)->pe.toList=l1 ++ (sa,na + nb,p1) :: l2->Q true (SortSt.mk' (kindOf st) ys pe g none)) :
  wpS (model prog w) A E s (mergeAt' l1.length) Q st:=by
 have hzx:=hp.size_eq;have mem:∀ i,i < a0.size->AQ (arrOf st) i ∈ a0:=fun i hi=>(Array.Perm.mem_iff hp).mp (K7 (by lia))
 have g1:(pendingOf st)[l1.length]? = some (sa,na,p1):=by
  rw [<-bh,hl];simp
 have g2:(pendingOf st)[l1.length + 1]? = some (sb,nb,p2):=by
  rw [<-bh,hl];simp
 have pe:(((pendingOf st).setIfInBounds l1.length (sa,na + nb,p1)).eraseIdxIfInBounds (l1.length + 1)).toList=l1 ++ (sa,na + nb,p1) :: l2:=by
  rw [Array.toList_eraseIdxIfInBounds,eY,hl];simp [List.eraseIdx_append];intro z;lia
 refine wpS_bind (wpS_get ?_);have e2:((pendingOf st)[l1.length]?,(pendingOf st)[l1.length + 1]?)=(some (sa,na,p1),some (sb,nb,p2)):=by rw [g1,g2]
 dsimp only;rw [show ((sortPriv% PySem.Builtin.SortState.pending) st)[l1.length]? = some (sa,na,p1) from g1,show ((sortPriv% PySem.Builtin.SortState.pending) st)[l1.length + 1]? = some (sb,nb,p2) from g2];dsimp only;refine wpS_bind (Su ?_);refine wpS_bind (AA (by show sb < (arrOf st).size; lia) ?_);refine wpS_bind (Cc (left:=false) an hk (mem _ (by lia)) (fun i hi=>mem _ (by lia)) (by show _<=(arrOf st).size; lia) (by lia) fun k k1=>?_);dsimp only;by_cases q1:na - k=0
 ·rw [if_pos (by simpa using q1)];refine wpS_pure ?_;have e:=hfa;have fin:=h (arrOf st) _ (gallopOf st) hp (fun _ _=>rfl) pe;rw [<-hfa] at fin;exact fin
 rw [if_neg (by simpa using q1)];refine wpS_bind (AA (by show _ < (arrOf st).size; lia) ?_);have el:sa + k + (na - k) - 1=sa + na - 1:=by lia
 rw [el];refine wpS_bind (Cc (left:=true) an hk (mem _ (by lia)) (fun i hi=>mem _ (by lia)) (by show _<=(arrOf st).size; lia) (by lia) fun m m1=>?_);dsimp only;by_cases q2:m=0
 ·rw [if_pos (by simpa using q2)];refine wpS_pure ?_;have fin:=h (arrOf st) _ (gallopOf st) hp (fun _ _=>rfl) pe;rw [<-hfa] at fin;exact fin
 rw [if_neg (by simpa using q2)];have zx:((arrOf st).extract (sa + k) sb).size=na - k:=by rw [cn]; lia
 have zy:((arrOf st).extract sb (sb + m)).size=m:=by rw [cn]; lia
 have ix:∀ i,i < na - k->AQ ((arrOf st).extract (sa + k) sb) i=AQ (arrOf st) (sa + k + i):=fun i hi=>GY (by lia) (by lia)
 have iy:∀ i,i < m->AQ ((arrOf st).extract sb (sb + m)) i=AQ (arrOf st) (sb + i):=fun i hi=>GY (by lia) (by lia)
 have fin:∀ (r:Array Keyed) (g:Nat),r.toList.Perm (((arrOf st).extract (sa + k) sb).toList ++ ((arrOf st).extract sb (sb + m)).toList) ->
   Q true (SortSt.mk' (kindOf st) (gZ (fun a x=>a.setIfInBounds (sa + k + x.snd) x.fst) (arrOf st) r.toList.zipIdx) (((pendingOf st).setIfInBounds l1.length (sa,na + nb,p1)).eraseIdxIfInBounds (l1.length + 1)) g none):=by
  intro r g mr;have rl:r.toList.length=na - k + m:=by
   rw [mr.length_eq,ZY,aE,aE,zx,zy]
  have pb:=Ly (sa + k) r.toList 0 (arrOf st) (by lia);rw [Nat.add_zero] at pb;have l1':((arrOf st).toList.take (sa + k)).length=sa + k:=by rw [aO,aE]; lia
  obtain ⟨zs,ez⟩:∃ zs,zs=gZ (fun a x=>a.setIfInBounds (sa + k + x.snd) x.fst) (arrOf st) r.toList.zipIdx:=⟨_,rfl⟩
  rw [<-ez] at pb ⊢;have zlow:∀ i,i < sa + k->AQ zs i=AQ (arrOf st) i:=fun i hi=>by
   rw [FN,FN,pb,bB,Pq (by lia),aj,fj hi,aj]
  have zhigh:∀ i,sb + m<=i->AQ zs i=AQ (arrOf st) i:=fun i hi=>by
   rw [FN,FN,pb,Pp (by rw [ZY]; lia),aj,List.getElem?_drop,aj];congr 2;rw [ZY];lia
  refine h zs _ g ?_ ?_ pe
  ·refine Array.Perm.trans (cB.mpr ?_) hp;rw [pb];have e1:=EI (xs:=arrOf st) (i:=sa + k) (j:=sb) (by lia);have e2:=EI (xs:=arrOf st) (i:=sb) (j:=sb + m) (by lia);have e3:=cS (sb + m) (arrOf st).toList;rw [e2,e1] at e3;rw [rl,show sa + k + (na - k + m)=sb + m by lia];conv=>rhs; rw [<-e3]
   rw [bB ((arrOf st).toList.take (sa + k)) ((arrOf st).extract (sa + k) sb).toList];exact List.Perm.append_right _ (List.Perm.append_left _ mr)
  ·intro i hi;rcases hi with hi | hi
   ·exact zlow i (by lia)
   ·exact zhigh i (by lia)
 have mx:∀ i,i < ((arrOf st).extract (sa + k) sb).size->AQ ((arrOf st).extract (sa + k) sb) i ∈ a0:=fun i hi=>by rw [ix i (by lia)]; exact mem _ (by lia)
 have my:∀ i,i < ((arrOf st).extract sb (sb + m)).size->AQ ((arrOf st).extract sb (sb + m)) i ∈ a0:=fun i hi=>by rw [iy i (by lia)]; exact mem _ (by lia)
 by_cases q3:na - k<=m
 ·rw [if_pos q3];refine wpS_bind (JY an hk mx my (show 0 < ((arrOf st).extract (sa + k) sb).size by rw [zx]; lia) (show 0 < ((arrOf st).extract sb (sb + m)).size by rw [zy]; lia) fun r g mr=>?_);refine wpS_bind (wpS_modify (wpS_bind (wpS_get (wpS_pure ?_))));have f:=fin r g mr;rw [<-hfa] at f;have e:(failedOf st).isNone=true:=by rw [hfa]; rfl
  show Q (failedOf st).isNone _
  rw [e];exact f
 ·rw [if_neg q3];refine wpS_bind (JZ an hk mx my (show 0 < ((arrOf st).extract (sa + k) sb).size by rw [zx]; lia) (show 0 < ((arrOf st).extract sb (sb + m)).size by rw [zy]; lia) fun r g mr=>?_);refine wpS_bind (wpS_modify (wpS_bind (wpS_get (wpS_pure ?_))));have f:=fin r g mr;rw [<-hfa] at f;have e:(failedOf st).isNone=true:=by rw [hfa]; rfl
  show Q (failedOf st).isNone _
  rw [e];exact f
def E3:Nat->List (Nat × Nat)->Nat->Prop
 | a,[],b=>a=b
 | a,(p,n) :: r,b=>p=a/\1<=n/\E3 (a + n) r b
theorem E3.app:∀ {l1 l2:List (Nat × Nat)} {a b:Nat},E3 a (l1 ++ l2) b ↔ ∃ m,E3 a l1 m/\E3 m l2 b
 | [],l2,a,b=>⟨fun h=>⟨a,rfl,h⟩,fun ⟨m,e,h⟩=>by cases e; exact h⟩
 | (p,n) :: r,l2,a,b=>by
  refine ⟨fun h=>?_,fun h=>?_⟩
  ·obtain ⟨h1,h2,h3⟩:=h;obtain ⟨m,a1,a2⟩:=E3.app.mp h3;exact ⟨m,⟨h1,h2,a1⟩,a2⟩
  ·obtain ⟨m,⟨h1,h2,h3⟩,h4⟩:=h;exact ⟨h1,h2,E3.app.mpr ⟨m,h3,h4⟩⟩
theorem E3.le:∀ {l:List (Nat × Nat)} {a b:Nat},E3 a l b->a + l.length<=b
 | [],a,b,h=>gY h
 | (p,n) :: r,a,b,h=>by
  have:=E3.le h.2.2;have:=h.2.1;rw [aK];lia
structure Ht (κ:SortKind) (a0:Array Keyed) (lo:Nat) (st:SortSt):Prop where
 kd:kindOf st=κ
 pm:(arrOf st).Perm a0
 fa:failedOf st=none
 cv:E3 0 ((pendingOf st).toList.map Qg) lo
theorem Ht.merge {st:SortSt} {lo i:Nat} {Q:Bool->SortSt->Prop} (an:KS prog w A s κ lt a0) (h:Ht κ a0 lo st) (hi:i + 1 < (pendingOf st).size) (hlo:lo<=a0.size)
  (q:∀ An,Ht κ a0 lo An->(pendingOf An).size + 1=(pendingOf st).size->(∀ k,lo<=k->AQ (arrOf An) k=AQ (arrOf st) k)->Q true An):wpS (model prog w) A E s (mergeAt' i) Q st:=by
 have hl:i < (pendingOf st).toList.length:=by rw [aE]; lia
 have PX:i + 1 < (pendingOf st).toList.length:=by rw [aE]; lia
 obtain ⟨⟨sa,na,p1⟩,ex⟩:∃ x,(pendingOf st).toList[i]=x:=⟨_,rfl⟩
 obtain ⟨⟨sb,nb,p2⟩,ey⟩:∃ y,(pendingOf st).toList[i + 1]=y:=⟨_,rfl⟩
 have e:(pendingOf st).toList=(pendingOf st).toList.take i ++ (sa,na,p1) :: (sb,nb,p2) :: (pendingOf st).toList.drop (i + 2):=by
  conv=>lhs; rw [<-cS i (pendingOf st).toList]
  rw [bU hl,bU PX,ex,ey]
 have tl:((pendingOf st).toList.take i).length=i:=by rw [aO]; lia
 obtain ⟨l1,X4⟩:∃ l,l=(pendingOf st).toList.take i:=⟨_,rfl⟩
 obtain ⟨l2,el2⟩:∃ l,l=(pendingOf st).toList.drop (i + 2):=⟨_,rfl⟩
 rw [<-X4,<-el2] at e;rw [<-X4] at tl;have cv:=h.cv;rw [e,aa,E3.app] at cv;obtain ⟨m,c1,c2,c3,c5,c6,c8⟩:=cv;dsimp only [Qg] at c2 c3 c5 c6 c8;subst c2;have ele:=c8.le;subst tl;refine Ka an h.kd h.pm h.fa e c5 c3 c6 (by lia) fun ys pe g y1 y2 y4=>q _ ⟨h.kd,y1,rfl,?_⟩ ?_ ?_
 ·show E3 0 (pe.toList.map Qg) lo
  rw [y4,aa,E3.app];refine ⟨sa,c1,rfl,?_,?_⟩
  ·show 1<=na + nb
   lia
  ·show E3 (sa + (na + nb)) _ lo
   rw [<-gU];exact c8
 ·show pe.size + 1=_
  have z1:pe.toList.length=l1.length + (l2.length + 1):=by rw [y4]; simp
  have z2:(pendingOf st).toList.length=l1.length + (l2.length + 1 + 1):=by rw [e]; simp
  rw [aE] at z1 z2;lia
 ·intro k hk;exact y2 k (.inr (by lia))
theorem Je {st:SortSt} {Q:Unit->SortSt->Prop} (an:KS prog w A s κ lt a0) (hk:kindOf st=κ) (ha:arrOf st=a0) (hf:failedOf st=none) (hpe:pendingOf st=#[]) (h2:1<=a0.size)
  (h:∀ An,(arrOf An).Perm a0->failedOf An=none->Q () An):wpS (model prog w) A E s sortRuns' Q st:=by
 have hp:(arrOf st).Perm a0:=by rw [ha]
 refine wpS_bind (wpS_get ?_);dsimp only;have ez:((sortPriv% PySem.Builtin.SortState.a) st).size=a0.size:=by rw [show (sortPriv% PySem.Builtin.SortState.a) st=a0 from ha]
 rw [ez];refine wpS_bind (wpS_mono (wpS_forRange (I:=fun x c An=>∃ lo,c=(none,lo)/\x<=lo/\lo<=a0.size/\Ht κ a0 lo An)
  (Q:=fun c An=>c=(none,a0.size)/\Ht κ a0 a0.size An) ?step ?fin ?init) ?post)
 case init=>
  refine ⟨0,rfl,ZX _,aH _,hk,hp,hf,?_⟩;rw [hpe];exact rfl
 case fin=>
  rintro c An ⟨lo,rfl,q1,q2,q3⟩;have:lo=a0.size:=by lia
  rw [this] at q3 ⊢;exact ⟨rfl,q3⟩
 case step=>
  rintro x c An _ hx ⟨lo,rfl,q1,q2,q3⟩;dsimp only;by_cases hlo:lo >= a0.size
  ·rw [if_pos hlo];have:lo=a0.size:=by lia
   rw [this] at q3 ⊢;exact wpS_pure ⟨rfl,q3⟩
  rw [if_neg hlo];have hz:=q3.pm.size_eq;refine wpS_bind (EY an q3.kd q3.pm (by lia) (by lia) fun m ys k1 m1 m2=>?_);dsimp only;by_cases hm:m < (sortPriv% PySem.Builtin.minRun) a0.size a0.size 0
  case' pos=>
   rw [if_pos hm];refine wpS_bind (wpS_lift (wpAny_rule ⟨rfl,?_⟩));refine wpS_bind (Ep (st:=setArr An ys) an q3.kd (k1.1.trans q3.pm) (by lia) m1 (by lia) fun zs k2=>?_);simp only [cH,aq,if_false];refine wpS_bind (wpS_get ?_);obtain ⟨n,en⟩:∃ n,n=min (a0.size - lo) ((sortPriv% PySem.Builtin.minRun) a0.size a0.size 0):=⟨_,rfl⟩
   have n1:1<=n:=by lia
   have n2:lo + n<=a0.size:=by lia
   rw [<-en];have kz:Kp (arrOf An) zs lo:=⟨k2.1.trans k1.1,fun k hk=>(k2.2 k hk).trans (k1.2 k hk)⟩
  case' neg=>
   rw [if_neg hm];refine wpS_bind (wpS_get ?_);obtain ⟨zs,ezs⟩:∃ zs,zs=ys:=⟨_,rfl⟩
   obtain ⟨n,en⟩:∃ n,n=m:=⟨_,rfl⟩
   have n1:1<=n:=by lia
   have n2:lo + n<=a0.size:=by lia
   have kz:Kp (arrOf An) zs lo:=by rw [ezs]; exact k1
   rw [<-ezs,<-en]
  all_goals
   have S2:Ht κ a0 lo (setArr An zs):=⟨q3.kd,kz.1.trans q3.pm,q3.fa,q3.cv⟩
   have push:∀ N4,Ht κ a0 lo N4->Ht κ a0 (lo + n) (setPending N4 ((pendingOf N4).push (lo,n,0))):=by
    intro N4 S4;refine ⟨S4.kd,S4.pm,S4.fa,?_⟩;show E3 0 (((pendingOf N4).push (lo,n,0)).toList.map Qg) (lo + n)
    rw [bW,aa,E3.app];exact ⟨lo,S4.cv,rfl,n1,rfl⟩
   cases eb:(pendingOf (setArr An zs)).back? with
   | none=>
    dsimp only;exact wpS_bind (wpS_modify (wpS_pure ⟨lo + n,rfl,by lia,n2,push _ S2⟩))
   | some bk=>
    obtain ⟨b1,b2,b3⟩:=bk;dsimp only;obtain ⟨pw,epw⟩:∃ pw,pw=(sortPriv% PySem.Builtin.power) a0.size (2 * b1 + b2) (2 * b1 + b2 + b2 + n) a0.size:=⟨_,rfl⟩
    rw [<-epw];refine wpS_bind (wpS_mono (wpS_forRange (I:=fun _ c Bj=>c=(none,())/\Ht κ a0 lo Bj)
     (Q:=fun c Bj=>c=(none,())/\Ht κ a0 lo Bj) ?_ (fun _ _ hh=>hh) ⟨rfl,S2⟩) ?_)
    ·rintro y c Bj _ _ ⟨rfl,S3⟩;refine wpS_bind (wpS_get ?_);by_cases hps:(pendingOf Bj).size > 1
     ·rw [if_pos hps];obtain ⟨⟨o1,o2,o3⟩,eo⟩:∃ o,(pendingOf Bj)[(pendingOf Bj).size - 2]? = some o:=⟨_,bT (by lia)⟩
      rw [show ((sortPriv% PySem.Builtin.SortState.pending) Bj)[((sortPriv% PySem.Builtin.SortState.pending) Bj).size - 2]? = some (o1,o2,o3) from eo];dsimp only;by_cases ho:o3<=pw
      ·rw [if_pos ho];exact wpS_pure ⟨rfl,S3⟩
      ·rw [if_neg ho];refine wpS_bind (S3.merge an (by show (pendingOf Bj).size - 2 + 1 < _; lia) (by lia) fun W5 S5 _ e5=>?_);simp only [cH,aq,if_false];exact wpS_pure ⟨rfl,S5⟩
     ·rw [if_neg hps];exact wpS_pure ⟨rfl,S3⟩
    ·rintro c Bj ⟨rfl,S3⟩;dsimp only;refine wpS_bind (wpS_modify (wpS_bind (wpS_modify (wpS_pure ⟨lo + n,rfl,by lia,n2,?_⟩))));refine push (setPending Bj ((pendingOf Bj).modify ((pendingOf Bj).size - 1) fun x=>(x.fst,x.2.fst,pw))) ⟨S3.kd,S3.pm,S3.fa,?_⟩;show E3 0 (((pendingOf Bj).modify ((pendingOf Bj).size - 1) fun x=>(x.fst,x.2.fst,pw)).toList.map Qg) lo
     rw [Iu (pendingOf Bj) ((pendingOf Bj).size - 1) (fun x=>(x.fst,x.2.fst,pw)) fun x=>rfl];exact S3.cv
 case post=>
  rintro c An ⟨rfl,S1⟩;dsimp only;have z1:(pendingOf An).size<=a0.size:=by
   have:=S1.cv.le;rw [ZR,aE] at this;lia
  refine wpS_bind (wpS_mono (wpS_forRange (I:=fun x c Bj=>c=(none,())/\Ht κ a0 a0.size Bj/\(pendingOf Bj).size + x<=a0.size + 1)
   (Q:=fun c Bj=>c=(none,())/\Ht κ a0 a0.size Bj/\(pendingOf Bj).size<=1) ?_ ?_ ⟨rfl,S1,by lia⟩) ?_)
  ·rintro x c Bj _ hx ⟨rfl,S2,z2⟩;refine wpS_bind (wpS_get ?_);by_cases hps:(pendingOf Bj).size<=1
   ·rw [if_pos hps];exact wpS_pure ⟨rfl,S2,hps⟩
   ·rw [if_neg hps];refine wpS_bind (S2.merge an ?_ (ZX _) fun W5 S5 z5 _=>?_)
    ·exact VO _ _ (by show 1 < (pendingOf Bj).size; lia)
    ·simp only [cH,aq,if_false];exact wpS_pure ⟨rfl,S5,by lia⟩
  ·rintro c Bj ⟨rfl,S2,z2⟩;refine ⟨rfl,S2,?_⟩;lia
  ·rintro c Bj ⟨rfl,S2,z2⟩;exact wpS_pure (h Bj S2.pm S2.fa)
theorem Pd {a:Addr} {vs:List Value} {n:Nat} {P:Fin->Shared->Prop} (lies:s.heap.get? a=some (seqObj "list" vs.toArray n)) (few:vs.length<=sizeLine)
  (cm:2<=vs.length->∀ h',(∀ b o,b ≠ a->s.heap.get? b=some o->h'.get? b=some o) ->
   ∃ κ,(∀ (Q:SortKind->Shared->Prop) (E:Value->Shared->Prop),Q κ { s with heap:=h' }->wpAny (model prog w) A (keyKind' vs.toArray) Q E { s with heap:=h' })/\KS prog w A { s with heap:=h' } κ lt (pairsOf vs))
  (k:∀ out:List Value,out.Perm vs->P (.done (.ret .none)) { s with heap:=sortedHeap s.heap a vs out.toArray }) :
  wpAny (model prog w) A (Builtin.«list.sort» ⟨[.ref a],[]⟩) P E s:=by
 have alt:=ae lies;rw [list_sort_plain];refine wpAny_bind (listItems_at lies rfl (wpAny_bind (listUpdate_at lies rfl ?_ (by simpa using few) (aH _))));obtain ⟨c,GU⟩:∃ c,(s.heap.update a (Obj.mapSeq fun _=>#[])).get? a=some (seqObj "list" #[] c):=⟨_,get?_update_seq lies (fun _=>#[])⟩
 refine wpAny_bind (seqEpoch_at GU rfl (wpAny_bind (wpAny_newTuple (wpAny_bind (wpAny_newList (wpAny_holding ?_) (aH _))) (by simpa using few))));obtain ⟨h3,Oj⟩:∃ h3,h3=((s.heap.update a (Obj.mapSeq fun _=>(#[]:Array Value))).push (seqObj "tuple" vs.toArray 0)).push (seqObj "list" #[] 0):=⟨_,rfl⟩
 have Dy:h3.get? a=some (seqObj "list" #[] c):=by
  rw [Oj];exact ZT _ (ZT _ GU)
 have LS:∀ b o,b ≠ a->s.heap.get? b=some o->h3.get? b=some o:=fun b o hb e=>by
  rw [Oj];exact ZT _ (ZT _ ((cG _ _ _ _ hb).trans e))
 show wpAny (model prog w) A _ P E { s with heap:=((s.heap.update a (Obj.mapSeq fun _=>(#[]:Array Value))).push (seqObj "tuple" vs.toArray 0)).push (seqObj "list" #[] 0) }
 rw [<-Oj];have last:∀ An:SortSt,(arrOf An).Perm (pairsOf vs)->P (.done (.ret .none)) { s with heap:=h3.update a (Obj.mapSeq fun _=>(arrOf An).map (·.2)) }:=fun An hp=>by
  have e:(arrOf An).map (·.2)=((arrOf An).toList.map (·.2)).toArray:=by apply cV.mp; simp
  have q:=k _ (Ie hp);rw [<-e] at q;rw [Oj];exact q
 have zl:∀ An:SortSt,(arrOf An).Perm (pairsOf vs)->((arrOf An).map (·.2)).size<=sizeLine + 1:=fun An hp=>by
  rw [eZ,hp.size_eq,pairsOf_size];lia
 have zv:vs.toArray.size=vs.length:=rfl;dsimp only;rcases dt vs.toArray.size 2 with lo | hi
 ·rw [if_pos lo,if_pos lo];refine wpAny_bind (wpAny_pure ?_);rw [StateT.run_pure];refine wpAny_bind (wpAny_pure (wpAny_bind (seqEpoch_at Dy rfl ?_)));have p0:(arrOf (SortSt.mk' general' (vs.toArray.zip vs.toArray) #[] 7 none)).Perm (pairsOf vs):=Array.Perm.refl _;refine wpAny_bind (listUpdate_at Dy rfl ?_ (aH _) (zl _ p0));rw [bne_self_eq_false];exact wpAny_pure (last _ p0)
 ·rw [if_neg (by lia),if_neg (by lia)];obtain ⟨κ,k1,k2⟩:=cm (by lia) h3 LS;refine wpAny_bind (k1 _ _ ?_);refine wpAny_bind (wpAny_mono (Je (a0:=pairsOf vs) (st:=SortSt.mk' κ (vs.toArray.zip vs.toArray) #[] 7 none)
   (Q:=fun _ An=>(arrOf An).Perm (pairsOf vs)/\failedOf An=none) k2 rfl rfl rfl rfl (by rw [pairsOf_size]; lia) fun An a1 a2=>⟨a1,a2⟩) ?_ fun _ _ e=>e)
  rintro ⟨u,An⟩ s' ⟨rfl,hp,hf⟩;refine wpAny_bind (seqEpoch_at Dy rfl (wpAny_bind (listUpdate_at Dy rfl ?_ (aH _) (zl _ hp))));dsimp only;rw [hf,bne_self_eq_false];exact wpAny_pure (last An hp)
theorem S9 {l:Addr} {vs:List Value} {Q:Value->Shared->Prop} (hl:s.heap.IsList l vs.toArray) (few:vs.length<=sizeLine) (cm:Wi prog w s lt vs)
  (k:∀ out:List Value,out.Perm vs->Q (.ref (s.heap.objs.size + 1)) { s with heap:=sortedAll s.heap vs out.toArray }) :
  wpAny (model prog w) A (call (.builtin "sorted") [.ref l]) Q E s:=by
 refine Calls.call_function_entry kind_sorted plain_sorted entry_sorted (args_sorted1 _) ?_;unfold Builtin.«sorted»;refine wpAny_bind (m:=checkCount "sorted" 1 1 _) (wpAny_pure (wpAny_bind (collect_list hl ?_ few)));refine wpAny_bind (wpAny_newList ?_ (by simpa using few));obtain ⟨h1,TH⟩:∃ h1,h1=(s.heap.push (seqObj "list" #[] 0)).update s.heap.objs.size (Obj.mapSeq (· ++ vs.toArray)):=⟨_,rfl⟩
 have z1:h1.objs.size=s.heap.objs.size + 1:=by rw [TH,gE,size_push']
 have lies:(h1.push (seqObj "list" vs.toArray 0)).get? (s.heap.objs.size + 1)=some (seqObj "list" vs.toArray 0):=by
  rw [<-z1];exact ah _ rfl
 have keep:∀ b o,s.heap.get? b=some o->(h1.push (seqObj "list" vs.toArray 0)).get? b=some o:=fun b o q=>by
  have hb:=ae q;refine ZT _ ?_;rw [TH,cG _ _ _ _ (ao hb)];exact ZT _ q
 show wpAny _ _ _ _ _ { s with heap:=((s.heap.push (seqObj "list" #[] 0)).update s.heap.objs.size (Obj.mapSeq (· ++ vs.toArray))).push (seqObj "list" vs.toArray 0) }
 rw [<-TH,z1];refine wpAny_bind (wpAny_holding (wpAny_call_entry slot_list_sort ⟨_,lies,rfl⟩ entry_list_sort (Pd (lt:=lt) (s:={ s with heap:=h1.push (seqObj "list" vs.toArray 0) }) lies few ?_ fun out o1=>⟨_,rfl,wpAny_pure ⟨_,rfl,?_⟩⟩) (args_list_sort _)))
 ·intro h2 h' kp;exact cm h2 _ h' fun b o e=>kp b o (ao (aN (ae e))) (keep b o e)
 ·have q:=k out o1;unfold sortedAll at q;rw [<-TH] at q;exact q
end
end L2
namespace L2
open PySem PySem.Spec PyProof.Rows
def FZ (h:Heap) (d:Addr) (es:Array DictEntry) (ep:Nat):Prop:=∃ o,h.get? d=some o/\o.ExactDict/\o.data=.dict es ep
theorem FZ.typeIs {s:Shared} {d:Addr} {es:Array DictEntry} {ep:Nat} (x:FZ s.heap d es ep):s.TypeIs (.ref d) "dict":=let ⟨o,h1,h2,_⟩:=x; ⟨o,h1,h2.1⟩
theorem FZ.at' {h h':Heap} {d:Addr} {es:Array DictEntry} {ep:Nat} (x:FZ h d es ep) (e:∀ o,h.get? d=some o->h'.get? d=some o):FZ h' d es ep:=let ⟨o,h1,r⟩:=x; ⟨o,e _ h1,r⟩
theorem FZ.lt {h:Heap} {d:Addr} {es:Array DictEntry} {ep:Nat} (x:FZ h d es ep):d < h.objs.size:=let ⟨_,h1,_⟩:=x; ae h1
section
variable {prog:Program} {w:World} {A:Around} {E:Value->Shared->Prop} {s:Shared}
theorem Lv {d:Addr} {es:Array DictEntry} {ep:Nat} {Q:Value->Shared->Prop} (hd:(d == sysModules)=false) (hm:FZ s.heap d es ep)
  (hQ:Q (.ref s.heap.objs.size) { s with heap:=s.heap.push { cls:=.type "dict_keyiterator",data:=.fields #[.ref d,.int 0 0,.int es.size 0,.int ep 0] } }) :
  wpAny (model prog w) A (pyIter (.ref d)) Q E s:=by
 obtain ⟨o,ho,hc,hdat⟩:=id hm;have hT:s.TypeIs (.ref d) "dict":=hm.typeIs;refine wpAny_pyIter_slot hT F.slot_dict_iter (wpAny_call_entry F.slot_dict_iter hT F.entry_dict_iter ?_ (F.args_dict_iter_1 _));unfold Builtin.«dict.__iter__»;refine wpAny_bind ?_;unfold Builtin.Dict.dictSlotNone;refine wpAny_bind (wpAny_notOrdered_dict hT ?_);show wpAny _ _ (pure (Value.ref d)) _ _ s
 refine wpAny_pure ?_;show wpAny _ _ (Builtin.Dict.showsAll d >>= _) _ _ s
 unfold Builtin.Dict.showsAll;rw [if_neg (by rw [hd]; exact az)];refine wpAny_bind (wpAny_pure ?_);refine wpAny_bind (wpAny_dictEntries ho hdat ?_);refine wpAny_bind (wpAny_dictEpoch ho hdat ?_);have hsz:es.size=es.size:=rfl;refine wpAny_bind (wpAny_newObj_type (wpAny_pure ⟨_,rfl,"dict_keyiterator",_,⟨_,ah _ rfl,rfl⟩,F.slot_dict_keyiterator_next.lookup,?_⟩));simpa [rawInt] using hQ
theorem Lw {it d:Addr} {i ep:Nat} {es:Array DictEntry} {key:Value} {Q:Option Value->Shared->Prop} (hit:s.heap.IsKeyIter it d i es.size ep)
  (hm:FZ s.heap d es ep) (hx:es[i]?.map (·.key)=some key)
  (hQ:∀ h',h'.IsKeyIter it d (i + 1) es.size ep->Heap.SameBut it s.heap h'->Q (some key) { s with heap:=h' }) :
  wpAny (model prog w) A (pyNext (.ref it)) Q E s:=by
 obtain ⟨o,ho,hc,hd⟩:=id hit;obtain ⟨od,hod,hcd,hdd⟩:=id hm;unfold pyNext;refine wpAny_bind (wpAny_attempt (wpAny_callSpecial?_slot (name:=Str.ofString "__next__") hit.typeIs F.slot_dict_keyiterator_next
  (wpAny_call_entry F.slot_dict_keyiterator_next hit.typeIs F.entry_dict_keyiterator_next ?_ (F.args_dict_keyiterator_next_1 _))))
 refine wpAny_bind (wpAny_pure ?_);refine wpAny_bind ?_;refine wpAny_bind ?_;first | refine wpAny_bind (wpAny_typeNameOfWhole_keyiter hit.typeIs (wpAny_pure ?_)) | refine wpAny_bind (wpAny_typeNameOf_keyiter hit.typeIs (wpAny_pure ?_))
 refine wpAny_bind (wpAny_fieldsOf ho hd ?_);have hown:Builtin.Dict_items.ownsTuple "dict_keyiterator"=false:=by decide
 simp only [hown,aq,if_false];show wpAny _ _ (if (Value.ref d == Value.none)=true then _ else _) _ _ s
 rw [if_neg (show ¬ ((Value.ref d == Value.none)=true) from az)];refine wpAny_bind (wpAny_pure ?_);refine wpAny_bind (wpAny_dictEntries hod hdd ?_);have hsz:es.size=es.size:=rfl;rw [if_neg (by rw [hsz]; simp)];refine wpAny_bind (wpAny_pure ?_);refine wpAny_bind (wpAny_dictEpoch hod hdd ?_);rw [if_neg (by simp)];refine wpAny_pure ?_;have Xc:i < es.size:=by
  rcases dt i es.size with h | h
  ·exact h
  ·rw [fQ h] at hx; cases hx
 have hkey:es[i].key=key:=by rw [bT Xc] at hx; exact aI.inj hx
 simp only [show ¬ ((i:Int) < 0) from by lia,if_false,dE,bT Xc];refine wpAny_bind ?_;first | refine wpAny_bind (wpAny_typeNameOfWhole_keyiter hit.typeIs (wpAny_pure ?_)) | refine wpAny_bind (wpAny_typeNameOf_keyiter hit.typeIs (wpAny_pure ?_))
 refine wpAny_bind (wpAny_isOneOf_keyiter hit.typeIs ?_);show wpAny _ _ (setField (.ref it) 1 (rawInt ((i:Int) + 1)) >>= _) _ _ s
 refine wpAny_bind (wpAny_setField ho hd (by simp) ?_);have Tt:(s.heap.update it (Obj.mapFields (·.setIfInBounds 1 (rawInt ((i:Int) + 1))))).IsKeyIter it d (i + 1) es.size ep:=
  ⟨_,b7 _ ho (Obj.isFreed_of_fields (Obj.data_mapFields hd _)),(Obj.cls_mapFields ..).trans hc,by rw [Obj.data_mapFields hd]; simp [rawInt]⟩
 refine wpAny_bind (wpAny_holding ?_);refine wpAny_bind (wpAny_isOneOf_keyiter (s:={ s with heap:=s.heap.update it (Obj.mapFields (·.setIfInBounds 1 (rawInt ((i:Int) + 1)))) }) Tt.typeIs ?_);show wpAny _ _ (pure es[i].key) _ _ _
 exact wpAny_pure (wpAny_pure ⟨_,rfl,wpAny_pure (hkey ▸ hQ _ Tt (Heap.SameBut.update ..))⟩)
theorem NP {it d:Addr} {i ep:Nat} {es:Array DictEntry} {Q:Option Value->Shared->Prop} (hh:A.handled=none) (hit:s.heap.IsKeyIter it d i es.size ep)
  (hm:FZ s.heap d es ep) (hx:es.size<=i)
  (hQ:∀ h',Heap.ExtBut it s.heap h'->Q none { s with heap:=h' }):wpAny (model prog w) A (pyNext (.ref it)) Q E s:=by
 obtain ⟨o,ho,hc,hd⟩:=id hit;obtain ⟨od,hod,hcd,hdd⟩:=id hm;unfold pyNext;refine wpAny_bind (wpAny_attempt (wpAny_callSpecial?_slot (name:=Str.ofString "__next__") hit.typeIs F.slot_dict_keyiterator_next
  (wpAny_call_entry F.slot_dict_keyiterator_next hit.typeIs F.entry_dict_keyiterator_next ?_ (F.args_dict_keyiterator_next_1 _))))
 refine wpAny_bind (wpAny_pure ?_);refine wpAny_bind ?_;refine wpAny_bind ?_;first | refine wpAny_bind (wpAny_typeNameOfWhole_keyiter hit.typeIs (wpAny_pure ?_)) | refine wpAny_bind (wpAny_typeNameOf_keyiter hit.typeIs (wpAny_pure ?_))
 refine wpAny_bind (wpAny_fieldsOf ho hd ?_);have hown:Builtin.Dict_items.ownsTuple "dict_keyiterator"=false:=by decide
 simp only [hown,aq,if_false];show wpAny _ _ (if (Value.ref d == Value.none)=true then _ else _) _ _ s
 rw [if_neg (show ¬ ((Value.ref d == Value.none)=true) from az)];refine wpAny_bind (wpAny_pure ?_);refine wpAny_bind (wpAny_dictEntries hod hdd ?_);have hsz:es.size=es.size:=rfl;rw [if_neg (by rw [hsz]; simp)];refine wpAny_bind (wpAny_pure ?_);refine wpAny_bind (wpAny_dictEpoch hod hdd ?_);rw [if_neg (by simp)];refine wpAny_pure ?_;have hge:es.size<=i:=hx;simp only [show ¬ ((i:Int) < 0) from by lia,if_false,dE,fQ hge];refine wpAny_bind ?_;first | refine wpAny_bind (wpAny_typeNameOfWhole_keyiter hit.typeIs (wpAny_pure ?_)) | refine wpAny_bind (wpAny_typeNameOf_keyiter hit.typeIs (wpAny_pure ?_))
 show wpAny _ _ (setField (.ref it) 0 .none >>= _) _ _ s
 refine wpAny_bind (wpAny_setField ho hd (by simp) ?_);show wpAny _ _ (newExc (.type "StopIteration") [] >>= _) _ _ _
 refine wpAny_bind ?_;simp only [newExc,newTuple];refine wpAny_bind (wpAny_newObj_type ?_ (by size_fits));refine wpAny_bind (m:=firstArgMember _ _) (wpAny_of_eq (a:=Value.none) (by first | rfl | (simp only [firstArgMember]; rfl)) ?_);refine wpAny_newObj_type ?_ (by size_fits);simp only [raiseNew];refine wpAny_bind (wpAny_handled ?_);rw [show A.in1.handled=none from hh];refine wpAny_bind (wpAny_pure (wpAny_throw ?_));refine wpAny_bind (wpAny_isInstance (T:="StopIteration") (b:=true) ⟨_,ah _ rfl,rfl⟩ isSubtype_stop ?_);exact wpAny_pure (hQ _ (((Heap.SameBut.update ..).extBut.push _).push _))
theorem OK (hh:A.handled=none) (I d:Addr) (hne:d ≠ I) (es:Array DictEntry) (ep:Nat) :
  Walks prog w A I [I,d] [I] es.size (fun i v=>es[i]?.map (·.key)=some v) (fun i h=>h.IsKeyIter I d i es.size ep/\FZ h d es ep) where
 sub:=fun b hb=>by simp at hb; simp [hb]
 frame:=fun _ _ _ st hk=>⟨st.1.at fun o e=>hk I (by simp) o e,st.2.at' fun o e=>hk d (by simp) o e⟩
 item:=fun i s Q E hi st hQ=>by
  have hx:es[i]?.map (·.key)=some es[i].key:=by rw [bT hi]; rfl
  refine Lw st.1 st.2 hx fun h' Tt Sk=>?_
  exact hQ _ h' s.toks hx ⟨Tt,st.2.at' fun o e=>Sk.extBut d o hne e⟩ fun b o hb e=>Sk.extBut b o (fun h=>hb (by simp [h])) e
 done:=fun s Q E st hQ=>NP hh st.1 st.2 (ZX _) fun h' he'=>hQ h' s.toks fun b o hb e=>he' b o (fun h=>hb (by simp [h])) e
 self:=fun _ _ _ _ st hQ=>wpAny_pyIter_keyiter st.1 hQ
theorem SJ {d:Addr} {es:Array DictEntry} {ep:Nat} (lo:(d == sysModules)=false):PySem.W.KdlSrc prog w "dict" d d es.size (fun i v=>es[i]?.map (·.key)=some v) (fun h=>FZ h d es ep) where
 type:=fun _ hm=>hm.typeIs
 there:=fun _ hm=>⟨hm.lt,hm.lt⟩
 keep:=fun _ _ hm hk=>hm.at' fun o e=>hk d (.inl rfl) o e
 notList:=by decide
 notTuple:=by decide
 hint:=fun _ _ _ _ hm hq=>PySem.W.kdl_hint_dict hm.typeIs hq
 iter:=fun _ _ hh hm=>⟨_,_,(fun _ _ hq=>Lv lo hm hq),OK hh _ d (ao hm.lt) es ep,⟨⟨_,ah _ rfl,rfl,rfl⟩,hm.at' fun o e=>ZT _ e⟩⟩
end
theorem KJ {X:Cx} (hc:X.calm=true):Bp X (.type "list") (fun xs H Q=>∃ (d:Addr) (kvs:List (List AK × V)),xs=[.ref d]/\H d=some (.dT kvs) /\
  ∀ (l:Addr) (ts:List Addr),H l=none->ts.length=kvs.length->(∀ (i:Nat) t p,ts[i]? = some t->kvs[i]? = some p->H t=some (.tup (p.1.map kV)))->Q (.ref l) (upd H l (.lst (ts.map V.ref)))):=by
 intro pins s σ H xs us Q I r h;obtain ⟨d,kvs,rfl,hd,q⟩:=h;obtain ⟨u,rfl,ru⟩:=Cd r;cases ru
 obtain ⟨z,y,xs,rel,o,es,ep,h1,h2,h3,h4,h5⟩:=(show AU X.prog X.w H s.heap d (.dT kvs) from I.hok d _ hd)
 have hlen:es.size=kvs.length:=by
  rw [<-aE,h4,ZR];exact (Paired.length rel).symm
 refine PySem.W.kdl_call (SJ (es:=es) (ep:=ep) y) (I.ok.hd hc) ⟨o,h1,h2,h3⟩ (by rw [hlen]; exact z) fun h' tk acc c' kk hl hacc=>?_
 have key:∀ (i:Nat) v,acc.toList[i]? = some v->∃ q,xs[i]? = some q/\v=.ref q.2.1:=fun i v e=>by
  have e2:=hacc.2 i v (by rw [<-bh]; exact e);dsimp only at e2;rw [<-bh,h4,ai] at e2;cases z:xs[i]? with
  | none=>rw [z] at e2; cases e2
  | some q=>
   rw [z] at e2;exact ⟨q,rfl,(aI.inj e2).symm⟩
 have al:acc.toList.length=xs.length:=by
  rw [aE,hacc.1,<-aE,h4,ZR]
 have av:acc.toList=xs.map fun q=>Value.ref q.2.1:=by
  refine cj (by rw [al,ZR]) fun i i1 i2=>?_
  obtain ⟨q,e1,e2⟩:=key i _ (ZS i1);rw [bR];rw [ZS (by rw [<-al]; exact i1)] at e1;rw [e2,aI.inj e1]
 have vals:∀ l:List (List AK × Addr × Value),A3 ((l.map (·.2.1)).map V.ref) (l.map fun q=>Value.ref q.2.1):=by
  intro l;induction l with
  | nil=>exact .nil
  | cons q l ih=>exact .cons rfl ih
 have rl:=Paired.length rel;refine ⟨.ref s.heap.objs.size,_,I.laid (a:=s.heap.objs.size) (o:=.lst ((xs.map (·.2.1)).map V.ref)) (t':=tk) kk (ZX _) ⟨by rw [ZR,ZR,<-rl]; exact z,acc.toList,c',by rw [av]; exact vals xs,by rw [fY]; exact hl⟩,rfl,q _ (xs.map (·.2.1)) (I.hok.fresh (ZX _)) (by rw [ZR,<-rl]) fun i t p e1 e2=>?_⟩;have at':∀ {l:List (List AK × V)} {m:List (List AK × Addr × Value)},Paired (fun (p:List AK × V) (q:List AK × Addr × Value)=>p.1=q.1/\H q.2.1=some (.tup (p.1.map kV))/\AF p.2 q.2.2) l m->∀ (i:Nat) p t,l[i]? = some p->(m.map (·.2.1))[i]? = some t->H t=some (.tup (p.1.map kV)):=by
  intro l m r;induction r with
  | nil=>intro i p t e; simp at e
  | cons a b ih=>
   intro i p t e1 e2;cases i with
   | zero=>
    simp at e1 e2;subst e1 e2;exact a.2.1
   | succ i=>exact ih i p t (by simpa using e1) (by simpa using e2)
 exact at' rel i p t e2 e1
theorem Ts {ns:List Int}:∀ {us:List Value},A3 (ns.map V.int) us->IntsAre us ns:=by
 induction ns with
 | nil=>intro us r; cases r; exact .nil
 | cons x ns ih=>
  intro us r;cases r with
  | cons r1 r2=>
   obtain ⟨t,rfl⟩:=r1;exact .cons x t (ih r2)
theorem NY:∀ {us:List Value} {ns:List Int},IntsAre us ns->A3 (ns.map V.int) us
 | _,_,.nil=>.nil
 | _,_,.cons x t r=>.cons ⟨t,rfl⟩ (NY r)
theorem G3 {X:Cx}:Bp X (.builtin "sorted") (fun xs H Q=>∃ (a:Addr) (ns:List Int),xs=[.ref a]/\AV X.K H a (ns.map V.int)/\ns.length < 64 /\
  ∀ (l:Addr) (LI:List Int),H l=none->LI.Perm ns->LI.Pairwise (·<=·)->Q (.ref l) (upd H l (.lst (LI.map V.int)))):=by
 intro pins s σ H xs us Q I r h;obtain ⟨a,ns,rfl,ha,Jm,q⟩:=h;obtain ⟨u,rfl,ru⟩:=Cd r;cases ru
 obtain ⟨Az,rv,pl,hz⟩:=I.list ha;have hl:Az.length=ns.length:=by rw [<-rv.length,ZR]
 refine sorted_ints pl.isList (Ts rv) (by lia) fun out LI h1 h2 h3=>?_
 obtain ⟨e,he⟩:=sortedAll_at s.heap Az out;refine ⟨.ref (s.heap.objs.size + 1),_,I.laid (o:=.lst (LI.map V.int)) (t':=s.toks) (fun b o z=>sortedAll_old z) (aW _) ⟨?_,out.toList,e,NY h1,by simpa using he⟩,rfl,q _ LI (I.hok.fresh (aW _)) h2 h3⟩;rw [ZR,h2.length_eq];have:100 < sizeLine:=by decide
 lia
structure Fn (K:ZV) (mg:Str->Option Value) (nm:Str) (st:Stmt) (ps:List Str) (f:Addr) (fd:FuncData):Prop where
 F:DP K nm nm st f fd
 mg:mg nm=some (.ref f)
 b:DO K fd ps []
theorem QV {κ:Type} [DecidableEq κ] {kvs:List (κ × V)} {k:κ} {v:V} {p:κ × V} (h:p ∈ Bq kvs k v):p=(k,v)\/p ∈ kvs:=by
 unfold Bq at h;split at h
 ·obtain ⟨q,hq,e⟩:=ZZ.mp h;by_cases z:q.1=k
  ·rw [if_pos z] at e;exact .inl (by rw [<-e,z])
  ·rw [if_neg z] at e;exact .inr (e ▸ hq)
 ·rcases aG.mp h with h | h
  ·exact .inr h
  ·exact .inl (ar.mp h)
theorem L5 {κ:Type} [DecidableEq κ] (kvs:List (κ × V)) (k:κ) (v:V):(Bq kvs k v).length<=kvs.length + 1:=by
 unfold Bq;split
 ·rw [ZR]; lia
 ·rw [ZY]; simp
theorem Qm {κ:Type} [DecidableEq κ] {kvs:List (κ × V)} {k:κ} {v:V} (h:(k,v) ∈ kvs):∃ v',BF kvs k=some v'/\(k,v') ∈ kvs:=by
 induction kvs with
 | nil=>exact nomatch h
 | cons p r ih=>
  by_cases e:p.1=k
  ·exact ⟨p.2,DE e,by rw [<-e]; exact aJ⟩
  ·rcases ZU.mp h with z | z
   ·exact absurd (by rw [<-z]) e
   ·obtain ⟨v',a,b⟩:=ih z;exact ⟨v',by rw [CY e]; exact a,aA _ b⟩
def UJ (n:Nat) (kvs:List (List AK × V)):Prop:=∀ p ∈ kvs,∃ (i j l:Int),p=([Sum.inl i,Sum.inl j],.int l)/\0<=i/\i < j/\j < n/\1<=l/\l < 10 ^ 30
structure MI (H H':Hp) (p N W:Addr) (xs:List Str) (kvs:List (List AK × V)):Prop where
 pn:A0 H' p
 hn:H' N=some (.lst (xs.map V.str))
 hw:H' W=some (.dT kvs)
 kp:∀ b o,b ≠ p->H b=some o->H' b=some o
 nN:N ≠ p
 nW:W ≠ p
 wN:W ≠ N
 fW:H W=none
theorem MI.add {H H':Hp} {p N W D:Addr} {xs:List Str} {kvs:List (List AK × V)} (h:MI H H' p N W xs kvs) (hD:H' D=none) (o:HO):MI H (upd H' D o) p N W xs kvs:=by
 have dp:=h.pn.ne hD;refine ⟨h.pn.other dp,?_,?_,fun b o hb e=>?_,h.nN,h.nW,h.wN,h.fW⟩
 ·rw [Ae (Ah h.hn hD)]; exact h.hn
 ·rw [Ae (Ah h.hw hD)]; exact h.hw
 ·have e2:=h.kp b o hb e;rw [Ae (Ah e2 hD)]; exact e2
theorem MI.pen {H H':Hp} {p N W:Addr} {xs:List Str} {kvs:List (List AK × V)} (h:MI H H' p N W xs kvs) (a b c:Int):MI H (upd H' p (.lst (A6 a b c))) p N W xs kvs:=
 ⟨A0.set a b c,by rw [Ae h.nN]; exact h.hn,by rw [Ae h.nW]; exact h.hw,fun b o hb e=>by rw [Ae hb]; exact h.kp b o hb e,h.nN,h.nW,h.wN,h.fW⟩
theorem MI.put {H H':Hp} {p N W:Addr} {xs:List Str} {kvs:List (List AK × V)} (h:MI H H' p N W xs kvs) (WJ:List (List AK × V)):MI H (upd H' W (.dT WJ)) p N W xs WJ:=
 ⟨h.pn.other h.nW,by rw [Ae h.wN.symm]; exact h.hn,Ab,fun b o hb e=>by rw [Ae (Ah e h.fW)]; exact h.kp b o hb e,h.nN,h.nW,h.wN,h.fW⟩
structure Ow (H:Hp) (m:Addr) (n:Nat) (xs:List Str) (ws:List AI):Prop where
 ex:∃ t1 t2:Addr,∃ vs:List V,H m=some (.tup [.ref t1,.ref t2])/\H t1=some (.tup (xs.map V.str))/\H t2=some (.tup vs)/\AM H vs (ws.map DC)
 len:xs.length=n
 nd:xs.Nodup
 nm:∀ x ∈ xs,BI x=true
 wl:ws.length<=100
 wn:∀ u ∈ ws,BI u.1=true/\BI u.2.1=true/\1<=u.2.2/\u.2.2 < 10 ^ 30
structure PQ (J:It) (xs:List V) (S:Hp->Prop):Prop where
 go:∀ i H,S H->i < xs.length->J.go i H
 yld:∀ i H x H',S H->J.yld i H x H'->H'=H/\xs[i]? = some x
 stop:∀ H,S H->J.stop xs.length H
theorem Cy {K:ZV} {a:Addr} {xs:List V}:PQ (Ue K a) xs (fun H=>AV K H a xs):=
 ⟨fun i H q BE=>⟨xs,xs[i],q,by simp [BE]⟩,fun i H x H' q y=>⟨y.1,y.2 xs q⟩,fun H q=>⟨xs,q,ZX _⟩⟩
theorem B4 {K:ZV} {a:Addr} {xs:List V}:PQ (Ud K a) xs (fun H=>A2 K H a xs):=
 ⟨fun i H q BE=>⟨xs,xs[i],q,by simp [BE]⟩,fun i H x H' q y=>⟨y.1,y.2 xs q⟩,fun H q=>⟨xs,q,ZX _⟩⟩
theorem Bm {J:It} {xs:List V} {S:Hp->Prop} {g:TG} {te:TE} {H:Hp} {σ0:St} {R:Addr->Hp->Prop} (ov:PQ J xs S) (I:Addr->Nat->St->Hp->List V->Prop) (big:xs.length < sizeLine)
  (h0:∀ D,H D=none->I D 0 σ0 (upd H D (.lst [])) [])
  (hs:∀ D i σ H' acc,H D=none->I D i σ H' acc->S H'/\H' D=some (.lst acc)/\acc.length=i)
  (turn:∀ D i σ H' acc x (B:St->V->Hp->Prop),H D=none->xs[i]? = some x->I D i σ H' acc->(∀ A9 v H5,H5 D=some (.lst acc)->I D (i + 1) A9 (upd H5 D (.lst (acc ++ [v]))) (acc ++ [v])->B A9 v H5)->g x σ H' fun A9 H3=>te A9 H3 (B A9))
  (fin:∀ D σ H' acc,H D=none->I D xs.length σ H' acc->R D H') :
  ∀ D,H D=none->∃ W:Nat->Nat->St->Hp->Prop,(∃ m,W 0 m σ0 (upd H D (.lst []))) /\
   ∀ i m A8 H',W i m A8 H'->(J.stop i H'/\R D H')\/(J.go i H'/\∀ x H2,J.yld i H' x H2->g x A8 H2 fun A9 H3=>Ke A9 H3 fun b H4=>
    if b=true then te A9 H4 (fun v H5=>∃ acc,H5 D=some (.lst acc)/\acc.length < sizeLine/\∃ m',m' < m/\W (i + 1) m' A9 (upd H5 D (.lst (acc ++ [v])))) else ∃ m',m' < m/\W (i + 1) m' A9 H4):=by
 intro D hD;refine ⟨fun i m σ H'=>m=xs.length - i/\i<=xs.length/\∃ acc,I D i σ H' acc,⟨xs.length,rfl,aH _,[],h0 D hD⟩,?_⟩;rintro i m σ H' ⟨rfl,hi,acc,p⟩;obtain ⟨s1,s2,s3⟩:=hs D i σ H' acc hD p;by_cases BE:i < xs.length
 ·refine .inr ⟨ov.go i H' s1 BE,fun x H2 y=>?_⟩;obtain ⟨rfl,ex⟩:=ov.yld i H' x H2 s1 y;have e:∀ (F:St->V->Hp->Prop) (G:St->Hp->Prop),(fun (A9:St) (H3:Hp)=>Ke A9 H3 fun b H4=>if b=true then te A9 H4 (F A9) else G A9 H4)=fun A9 H3=>te A9 H3 (F A9):=by
   intro F G;funext A9 H3;show (if true=true then te A9 H3 (F A9) else G A9 H3)=_
   rw [if_pos rfl]
  rw [e (fun A9 v H5=>∃ acc,H5 D=some (.lst acc)/\acc.length < sizeLine/\∃ m',m' < xs.length - i/\(m'=xs.length - (i + 1)/\i + 1<=xs.length/\∃ IT,I D (i + 1) A9 (upd H5 D (.lst (acc ++ [v]))) IT)) (fun A9 H4=>∃ m',m' < xs.length - i/\(m'=xs.length - (i + 1)/\i + 1<=xs.length/\∃ IT,I D (i + 1) A9 H4 IT))];refine turn D i σ H2 acc x _ hD ex p fun A9 v H5 d5 p5=>?_
  exact ⟨acc,d5,by lia,xs.length - (i + 1),by lia,rfl,BE,_,p5⟩
 ·have e:i=xs.length:=by lia
  subst e;exact .inl ⟨ov.stop H' s1,fin D σ H' acc hD p⟩
structure BS (d:PyData) (k b:Nat):Prop where
 lay:d.canLay0=true
 sho:d.showable=true
 nod:d.hasDict=false
 lv:d.leavesShort 200=true
 dp:d.depth<=k
 bu:d.bulk<=b
theorem BS.int {i:Int} (h1:0<=i) (h2:i < 10 ^ 30):BS (.int i) 0 0:=by
 have l:i.natAbs.log2 < 120:=by
  by_cases z:i.natAbs=0
  ·rw [z]; decide
  ·refine (eX z).mpr (ak (m:=10 ^ 30) (by lia) (by decide))
 have e:PyData.leavesShort 200 (.int i)=decide ((PyData.shown (.int i)).length<=200):=by simp only [PyData.leavesShort]
 refine ⟨rfl,?_,rfl,?_,ZX _,ZX _⟩
 ·simp only [PyData.showable];exact decide_eq_true (by lia)
 ·rw [e];apply decide_eq_true;have q:=int_text_length_le (a:=i) (k:=120) (by decide) l;have e2:PyData.shown (.int i)=Str.ofString (toString i):=by simp only [PyData.shown]
  rw [e2,PySem.ofString_length];lia
theorem BS.str {x:Str} (h:BI x=true):BS (.str x) 0 6:=by
 obtain ⟨l1,l2,lo⟩:=Ry h;refine ⟨?_,rfl,rfl,?_,ZX _,?_⟩
 ·have:=LR (xs:=[x]) (by simpa using h);simpa [PyData.canLayAll0,PyData.canLay0] using this
 ·have e:PyData.leavesShort 200 (.str x)=x.cps.toList.all fun c=>decide (c < 16 ^ 8):=by simp only [PyData.leavesShort]
  rw [e,cZ];intro c hc;have:=lo c hc;unfold LQ at this;simp at this;apply decide_eq_true;lia
 ·show PyData.bulk (.str x)<=6
  simp only [PyData.bulk];exact l2
theorem BS.mono {d:PyData} {k b k' b':Nat} (h:BS d k b) (h1:k<=k') (h2:b<=b'):BS d k' b':=⟨h.lay,h.sho,h.nod,h.lv,aQ h.dp h1,aQ h.bu h2⟩
theorem BS.all {k b:Nat}:∀ {ds:List PyData},(∀ d ∈ ds,BS d k b)->PyData.canLayAll0 ds=true/\PyData.showableAll ds=true/\PyData.hasDictAll ds=false/\PyData.leavesShortAll 200 ds=true/\PyData.depthAll ds<=k/\PyData.bulkAll ds<=ds.length * (b + 1)
 | [],_=>⟨rfl,rfl,rfl,rfl,aH _,aH _⟩
 | d :: ds,h=>by
  obtain ⟨a1,a2,a3,a4,a5,a6⟩:=BS.all (ds:=ds) fun e he=>h e (aA _ he)
  have f:=h d aJ;have f5:=f.dp;have f6:=f.bu;refine ⟨by simp [PyData.canLayAll0,f.lay,a1],by simp [PyData.showableAll,f.sho,a2],by simp [PyData.hasDictAll,f.nod,a3],by simp [PyData.leavesShortAll,f.lv,a4],?_,?_⟩
  ·simp only [PyData.depthAll];lia
  ·simp only [PyData.bulkAll,aK,Nat.succ_mul];lia
theorem BS.tuple {ds:List PyData} {k b:Nat} (h:∀ d ∈ ds,BS d k b):BS (.tuple ds) (k + 1) (ds.length * (b + 1)):=by
 obtain ⟨a1,a2,a3,a4,a5,a6⟩:=BS.all h;exact ⟨by simp only [PyData.canLay0]; exact a1,by simp only [PyData.showable]; exact a2,by simp only [PyData.hasDict]; exact a3,by simp only [PyData.leavesShort]; exact a4,by simp only [PyData.depth]; lia,by simp only [PyData.bulk]; exact a6⟩
theorem BS.len {d:PyData} {k b:Nat} (h:BS d k b) (hb:b<=60000):d.shown.length<=sizeLine:=by
 have q:=PyData.shown_le_bulk 200 (by decide) d h.lv;have:=h.bu;have e:202 * d.bulk<=202 * 60000:=Nat.mul_le_mul_left _ (by lia);have:202 * 60000 + 200<=sizeLine:=by decide
 lia
abbrev Be:=Str × Int
def BK (u:Be):PyData:=.tuple [.str u.1,.int u.2]
structure Bo (xs:List Str) (lo:Int) (rs:List Be):Prop where
 sub:∀ r ∈ rs,r.1 ∈ xs
 nd:(rs.map (·.1)).Nodup
 lo:∀ r ∈ rs,lo<=r.2/\r.2 < 10 ^ 30
 one:1<=rs.length
theorem Pu {xs:List Str} {lo:Int} {rs:List Be} (h:Bo xs lo rs) (h0:0<=lo) (hn:∀ x ∈ xs,BI x=true):∀ d ∈ rs.map BK,BS d 1 14:=by
 intro d hd;obtain ⟨r,hr,rfl⟩:=ZZ.mp hd;obtain ⟨l1,l2⟩:=h.lo r hr;refine (BS.tuple (k:=0) (b:=6) fun e he=>?_).mono (ZX _) (by show 2 * (6 + 1)<=14; decide);simp only [ZU,af,or_false] at he;rcases he with rfl | rfl
 ·exact BS.str (hn _ (h.sub r hr))
 ·exact (BS.int (by lia) l2).mono (ZX _) (by decide)
theorem JH {xs:List Str} (h:∀ x ∈ xs,BI x=true):∀ d ∈ xs.map PyData.str,BS d 0 6:=by
 intro d hd;obtain ⟨u,hu,rfl⟩:=ZZ.mp hd;exact BS.str (h u hu)
def rk (u:Be):List C3:=[.s u.1,.i u.2]
theorem ME {H:Hp} {v:V} {u:Be} (h:Jd H v (BK u)):∃ t,v=.ref t/\H t=some (.tup [.str u.1,.int u.2]):=by
 unfold BK at h;cases h with
 | tup ha hd=>
  cases hd with
  | cons h1 r1=>
   cases r1 with
   | cons h2 r2=>
    cases r2
    cases h1
    cases h2
    exact ⟨_,rfl,ha⟩
theorem Eb {H:Hp} {t:Addr} {u:Be} (h:H t=some (.tup [.str u.1,.int u.2])):Jd H (.ref t) (BK u):=.tup h (.cons (.str _) (.cons (.int _) .nil))
theorem Ar {H2 H3:Hp} {vs:List V} {rs:List Be} (h:AM H2 vs (rs.map BK)) (ht:∀ b xs,H2 b=some (.tup xs)->H3 b=some (.tup xs)):AM H3 vs (rs.map BK):=by
 induction rs generalizing vs with
 | nil=>cases h; exact .nil
 | cons u rs ih=>
  cases h with
  | cons h1 r=>
   obtain ⟨t,rfl,e⟩:=ME h1;exact .cons (Eb (ht _ _ e)) (ih r)
theorem B7 {H:Hp}:∀ {vs:List V} {rs:List Be} {i:Nat} {x:V},AM H vs (rs.map BK)->vs[i]? = some x->∃ u t,rs[i]? = some u/\x=.ref t/\H t=some (.tup [.str u.1,.int u.2])
 | _,[],i,x,.nil,e=>by simp at e
 | _,u :: rs,0,x,.cons h r,e=>by
  simp only [aX,aI.injEq] at e;subst e;obtain ⟨t,rfl,q⟩:=ME h;exact ⟨u,t,rfl,rfl,q⟩
 | _,u :: rs,i + 1,x,.cons h r,e=>by
  obtain ⟨u',t,a,b,c⟩:=B7 r (by simpa using e);exact ⟨u',t,by simpa using a,b,c⟩
theorem Bl {H:Hp}:∀ {vs:List V} {rs:List Be},AM H vs (rs.map BK)->vs.length=rs.length
 | _,[],.nil=>rfl
 | _,u :: rs,.cons h r=>by rw [aK,aK,Bl r]
theorem J5 {H:Hp} {vs Cb:List V} (p:Cb.Perm vs):∀ {rs:List Be},AM H vs (rs.map BK)->∃ Ez:List Be,AM H Cb (Ez.map BK)/\Ez.Perm rs:=by
 induction p with
 | nil=>intro rs h; exact ⟨rs,h,.refl _⟩
 | cons x p ih=>
  intro rs h;cases rs with
  | nil=>cases h
  | cons u rs=>
   cases h with
   | cons h1 h2=>
    obtain ⟨Ez,a,b⟩:=ih h2;exact ⟨u :: Ez,.cons h1 a,b.cons u⟩
 | swap x y l=>
  intro rs h;cases rs with
  | nil=>cases h
  | cons u rs=>
   cases h with
   | cons h1 h2=>
    cases rs with
    | nil=>cases h2
    | cons v rs=>
     cases h2 with
     | cons h3 h4=>exact ⟨v :: u :: rs,.cons h3 (.cons h1 h4),.swap u v rs⟩
 | trans p1 p2 V1 V0=>
  intro rs h;obtain ⟨Am,a1,b1⟩:=V0 h;obtain ⟨Ap,a2,b2⟩:=V1 a1;exact ⟨Ap,a2,b2.trans b1⟩
theorem QR {H:Hp} {v:V} {u:Be} (h:Jd H v (BK u)):IX H (fun i=>decide (i < 1)) v/\K4 H v=rk u:=by
 obtain ⟨t,rfl,ht⟩:=ME h;refine ⟨⟨t,_,rfl,ht,by simp,fun i y e=>?_⟩,?_⟩
 ·unfold JV;match i,e with
  | 0,e=>cases e; simp
  | 1,e=>cases e; simp
  | n + 2,e=>simp at e
 ·show (match H t with | some (.tup ys)=>ys.map Lg | _=>[])=_
  rw [ht];rfl
theorem Gm {H:Hp}:∀ {vs:List V} {rs:List Be},AM H vs (rs.map BK)->(∀ v ∈ vs,IX H (fun i=>decide (i < 1)) v)/\vs.map (K4 H)=rs.map rk
 | _,[],.nil=>⟨(fun v hv=>nomatch hv),rfl⟩
 | _,u :: rs,.cons h r=>by
  obtain ⟨a1,a2⟩:=QR h;obtain ⟨b1,b2⟩:=Gm r;refine ⟨fun v hv=>?_,by rw [au,au,a2,b2]⟩;rcases ZU.mp hv with rfl | hv
  ·exact a1
  ·exact b1 v hv
theorem Bo.perm {xs:List Str} {lo:Int} {rs Ez:List Be} (h:Bo xs lo rs) (p:Ez.Perm rs):Bo xs lo Ez:=
 ⟨fun r hr=>h.sub r (p.mem_iff.mp hr),(p.map (·.1)).nodup_iff.mpr h.nd,fun r hr=>h.lo r (p.mem_iff.mp hr),by rw [p.length_eq]; exact h.one⟩
def Lim (x:V) (d:PyData):Prop:=(x=.non/\d=.none)\/∃ i:Int,x=.int i/\d=.int i/\1<=i/\i < 10 ^ 30
end L2
namespace L2
open PySem PySem.Spec PySem.W PyProof.Rows
theorem Kc {X:Cx} {pins:List (Addr × Obj)} {σ:St} {H:Hp} {s:Shared} (I:Au X pins σ H s) {kd:Nat->Bool}:∀ {vs:List V} {Az:List Value},A3 vs Az->(∀ v ∈ vs,IX H kd v)->∀ u ∈ Az,Mo s.heap kd u
 | _,_,.nil,_,_,hu=>nomatch hu
 | _,_,.cons r1 r2,hk,u,hu=>by
  rcases ZU.mp hu with rfl | hu
  ·exact (Qp I r1 (hk _ aJ)).1
  ·exact Kc I r2 (fun v hv=>hk v (aA _ hv)) u hu
theorem D7 {X:Cx}:Bp X (.builtin "sorted") (fun xs H Q=>∃ (a:Addr) (vs:List V) (kd:Nat->Bool),xs=[.ref a]/\AV X.K H a vs/\(∀ v ∈ vs,IX H kd v) /\
  ∀ (l:Addr) (Cb:List V),H l=none->Cb.Perm vs->Q (.ref l) (upd H l (.lst Cb))):=by
 intro pins s σ H xs us Q I r h;obtain ⟨a,vs,kd,rfl,ha,hk,q⟩:=h;obtain ⟨u,rfl,ru⟩:=Cd r;cases ru
 obtain ⟨Az,rv,pl,hz⟩:=I.list ha;refine S9 pl.isList (by rw [<-rv.length]; exact hz) (Gi (Kc I rv hk)) fun out o1=>?_
 obtain ⟨Cb,Wo,pv⟩:=Gh o1 rv;obtain ⟨e,he⟩:=sortedAll_at s.heap Az out.toArray;exact ⟨.ref (s.heap.objs.size + 1),_,I.laid (o:=.lst Cb) (t':=s.toks) (fun b o z=>sortedAll_old z) (aW _) ⟨by rw [pv.length_eq]; exact hz,out,e,Wo,he⟩,rfl,q _ Cb (I.hok.fresh (aW _)) pv⟩
theorem FV {X:Cx}:Bp X (.builtin "sorted") (fun xs H Q=>∃ (a:Addr) (vs:List V) (rs:List Be),xs=[.ref a]/\AV X.K H a vs/\AM H vs (rs.map BK) /\
  ∀ (l:Addr) (Cb:List V) (Ez:List Be),H l=none->AM H Cb (Ez.map BK)->Ez.Perm rs->Q (.ref l) (upd H l (.lst Cb))):=by
 intro pins s σ H xs us Q I r h;obtain ⟨a,vs,rs,rfl,ha,hd,q⟩:=h;refine D7 (pins:=pins) s σ H _ us Q I r ⟨a,vs,_,rfl,ha,(Gm hd).1,fun l Cb hl pv=>?_⟩;obtain ⟨Ez,d1,p1⟩:=J5 pv hd;exact q l Cb Ez hl d1 p1
theorem FU {X:Cx}:Bp X (.builtin "sorted") (fun xs H Q=>∃ (a:Addr) (vs:List V) (ws:List AI),xs=[.ref a]/\AV X.K H a vs/\AM H vs (ws.map DC) /\
  ∀ (l:Addr) (Cb:List V) (EH:List AI),H l=none->AM H Cb (EH.map DC)->EH.Perm ws->Q (.ref l) (upd H l (.lst Cb))):=by
 intro pins s σ H xs us Q I r h;obtain ⟨a,vs,ws,rfl,ha,hd,q⟩:=h;refine D7 (pins:=pins) s σ H _ us Q I r ⟨a,vs,_,rfl,ha,(Jt hd).1,fun l Cb hl pv=>?_⟩;obtain ⟨EH,d1,p1⟩:=Pz pv hd;exact q l Cb EH hl d1 p1
end L2
namespace L2
open PySem PySem.Spec PyProof.Rows
theorem US {H H':Hp} {p:Addr} (hP:A0 H p) (k:Bd p H H'):∀ b ys,H b=some (.tup ys)->H' b=some (.tup ys):=fun b ys z=>k b _ (by
 obtain ⟨_,_,_,q⟩:=hP;exact B8 z q (fun y=>by cases y)) z
theorem Ow.keepT {H H':Hp} {m:Addr} {n:Nat} {xs:List Str} {ws:List AI} (h:Ow H m n xs ws) (t:∀ b ys,H b=some (.tup ys)->H' b=some (.tup ys)):Ow H' m n xs ws:=by
 obtain ⟨ta,tb,vs,a,b,c,e⟩:=h.ex;exact ⟨⟨ta,tb,vs,t _ _ a,t _ _ b,t _ _ c,BV e t⟩,h.len,h.nd,h.nm,h.wl,h.wn⟩
theorem J7 {κ:Type} [DecidableEq κ] {kvs:List (κ × V)} {k:κ} {v:V} (h:(kvs.map (·.1)).Nodup):((Bq kvs k v).map (·.1)).Nodup:=by
 unfold Bq;split
 ·rw [aT];have e:(kvs.map ((fun x=>x.1) ∘ fun kv=>if kv.1=k then (kv.1,v) else kv))=kvs.map (·.1):=by
   refine bD fun q _=>?_
   show (if q.1=k then (q.1,v) else q).1=q.1
   split <;> rfl
  rw [e];exact h
 ·rename_i hn
  rw [aa];refine b8.mpr ⟨h,by simp,fun a ha b hb e=>?_⟩;simp only [au,dO,ar] at hb;subst hb;obtain ⟨q,hq,rfl⟩:=ZZ.mp ha;exact hn (cg.mpr ⟨q,hq,by simp [e]⟩)
theorem L6 {κ:Type} [DecidableEq κ] (kvs:List (κ × V)) (k:κ) (v:V):(k,v) ∈ Bq kvs k v:=by
 unfold Bq;split
 ·rename_i h
  obtain ⟨q,hq,e⟩:=cg.mp h;have e':q.1=k:=by simpa using e
  exact ZZ.mpr ⟨q,hq,by rw [if_pos e',e']⟩
 ·simp
theorem OM {κ:Type} [DecidableEq κ] {kvs:List (κ × V)} {k k':κ} {v v':V} (h:(k',v') ∈ kvs):∃ v'',(k',v'') ∈ Bq kvs k v:=by
 by_cases z:k'=k
 ·subst z;exact ⟨v,L6 kvs _ v⟩
 ·refine ⟨v',?_⟩;unfold Bq;split
  ·exact ZZ.mpr ⟨_,h,by rw [if_neg z]⟩
  ·exact aV _ h
def Fg (j:Int) (kvs:List (List AK × V)):Prop:=∀ k:Int,1<=k->k < j->∃ (i:Int) (v:V),0<=i/\i < k/\([Sum.inl i,Sum.inl k],v) ∈ kvs
theorem Fg.put {j:Int} {kvs:List (List AK × V)} (h:Fg j kvs) (q:List AK) (v:V):Fg j (Bq kvs q v):=fun k h1 h2=>by
 obtain ⟨i,w,a,b,c⟩:=h k h1 h2;obtain ⟨w',e⟩:=OM (k:=q) (v:=v) c;exact ⟨i,w',a,b,e⟩
theorem Fg.more {j i:Int} {kvs:List (List AK × V)} (h:Fg j kvs) (v:V) (i0:0<=i) (ij:i < j):Fg (j + 1) (Bq kvs [Sum.inl i,Sum.inl j] v):=fun k h1 h2=>by
 by_cases z:k < j
 ·exact h.put _ v k h1 z
 ·have:k=j:=by lia
  subst this;exact ⟨i,v,i0,ij,L6 _ _ _⟩
def Ju (xs:List Str) (q:List AK × V):AI:=match q with
 | ([Sum.inl i,Sum.inl j],.int l)=>(xs.getD i.toNat ⟨#[]⟩,xs.getD j.toNat ⟨#[]⟩,l)
 | _=>(⟨#[]⟩,⟨#[]⟩,0)
theorem Lf {xs:List Str} {i j l:Int} {x y:Str} (hx:xs[i.toNat]? = some x) (hy:xs[j.toNat]? = some y):Ju xs ([Sum.inl i,Sum.inl j],.int l)=(x,y,l):=by
 show (xs.getD i.toNat _,xs.getD j.toNat _,l)=_
 rw [aj,aj,hx,hy];rfl
theorem Mx {xs:List Str} {kvs:List (List AK × V)} (xnd:xs.Nodup) (wn:UJ xs.length kvs) (kn:(kvs.map (·.1)).Nodup) (jn:Fg xs.length kvs):Mn xs (kvs.map (Ju xs)):=by
 have at':∀ q ∈ kvs,∃ (i j l:Int) (x y:Str),q=([Sum.inl i,Sum.inl j],.int l)/\0<=i/\i < j/\j < xs.length/\1<=l/\xs[i.toNat]? = some x/\xs[j.toNat]? = some y/\Ju xs q=(x,y,l):=by
  intro q hq;obtain ⟨i,j,l,rfl,a,b,c,d,_⟩:=wn q hq;have hx:xs[i.toNat]? = some xs[i.toNat]:=ZS (by lia);have hy:xs[j.toNat]? = some xs[j.toNat]:=ZS (by lia);exact ⟨i,j,l,_,_,rfl,a,b,c,d,hx,hy,Lf hx hy⟩
 refine ⟨fun u hu=>?_,?_,fun j j0 j1=>?_⟩
 ·obtain ⟨q,hq,rfl⟩:=ZZ.mp hu;obtain ⟨i,j,l,x,y,rfl,a,b,c,d,hx,hy,e⟩:=at' q hq;rw [e];refine ⟨ZW hx,ZW hy,fun z=>?_,d⟩;have z':x=y:=z;rw [z'] at hx;have:=Il xnd hx hy;lia
 ·rw [bX];have kp:kvs.Pairwise fun a b=>a.1 ≠ b.1:=bX.mp kn
  refine kp.imp_of_mem fun {p q} hp hq ne al=>?_
  obtain ⟨i,j,l,x,y,rfl,a,b,c,d,hx,hy,e⟩:=at' p hp;obtain ⟨i',j',l',x',y',rfl,a',b',c',d',JE,Yk,e'⟩:=at' q hq;rw [e,e'] at al;apply ne;rcases al with ⟨z1,z2⟩ | ⟨z1,z2⟩
  ·have Y1:x=x':=z1;have Y0:y=y':=z2;subst Y1 Y0;have r1:=Il xnd hx JE;have r2:=Il xnd hy Yk;have r1':i=i':=by lia
   have r2':j=j':=by lia
   rw [r1',r2']
  ·have Y1:x=y':=z1;have Y0:y=x':=z2;subst Y1 Y0;have r1:=Il xnd hx Yk;have r2:=Il xnd hy JE;lia
 ·obtain ⟨i,v,i0,i1,hm⟩:=jn j (by lia) (by lia);obtain ⟨i',j',l,x,y,e0,a,b,c,d,hx,hy,e⟩:=at' _ hm;cases e0
  refine ⟨_,ZZ.mpr ⟨_,hm,rfl⟩,i.toNat,by lia,?_,?_⟩
  ·rw [e]; exact hx
  ·rw [e];rw [show j=(j:Int).toNat by lia];exact hy
theorem M3 {x y x' y':Str} (p:[x',y'].Perm [x,y]) (h:sortedS [x',y']=true):x'=MR x y/\y'=MS x y:=by
 have h1:=O7 h;have h2:[MR x y,MS x y].Pairwise fun a b=>¬ b.cps.toList < a.cps.toList:=by
  refine List.pairwise_pair.mpr ?_;unfold MR MS;by_cases a:y.cps.toList < x.cps.toList
  ·rw [if_pos a,if_neg (fun z=>K1 _ (fu a z))];exact fun z=>K1 _ (fu a z)
  ·rw [if_neg a];by_cases b:x.cps.toList < y.cps.toList
   ·rw [if_pos b];exact a
   ·rw [if_neg b];exact K1 _
 have p2:[MR x y,MS x y].Perm [x,y]:=by
  unfold MR MS;by_cases a:y.cps.toList < x.cps.toList
  ·rw [if_pos a,if_neg (fun z=>K1 _ (fu a z))];exact .swap _ _ _
  ·rw [if_neg a];by_cases b:x.cps.toList < y.cps.toList
   ·rw [if_pos b]
   ·rw [if_neg b];have e:x=y:=HK a b;rw [e]
 have e:=O8 h1 h2 (p.trans p2.symm);simp only [eA.injEq,and_true] at e;exact e
structure Ga (H:Hp) (m:Addr) (n:Nat) (ps:List Str) (ws:List AI):Prop where
 at':Ow H m n ps ws
 dr:∃ (xs:List Str) (Ul:List AI),ps.Perm xs/\ws.Perm (Ul.map Fq)/\Mn xs Ul
 so:sortedS ps=true
 l64:ws.length < 64
theorem Ga.web {H:Hp} {m:Addr} {n:Nat} {ps:List Str} {ws:List AI} (h:Ga H m n ps ws) (n1:1<=n) (n30:n<=30) :
  ∃ r,IU H m ps ws r/\(∀ u ∈ ws,1<=u.2.2)/\(∀ x y l l',BP ws x y l->BP ws x y l'->l=l'):=by
 obtain ⟨xs,Ul,pp,wp,wof,sep,jn⟩:=h.dr;have pl:0 < ps.length:=by rw [h.at'.len]; lia
 have hr0:ps[0] ∈ xs:=pp.mem_iff.mp (dI pl);have en:=fun x y l=>JI wp x y l
 refine ⟨ps[0],⟨⟨h.at'.ex⟩,h.at'.nd,by rw [h.at'.len]; lia,h.l64,fun u hu=>?_,ZS pl,fun Sp hs hcl z hz=>?_⟩,fun u hu=>(h.at'.wn u hu).2.2.1,fun x y l l' e1 e2=>Px sep ((en x y l).mp e1) ((en x y l').mp e2)⟩
 ·obtain ⟨q1,q2⟩:=Pw wp (fun u hu=>⟨(wof u hu).1,(wof u hu).2.1⟩) u hu;exact ⟨pp.mem_iff.mpr q1,pp.mem_iff.mpr q2⟩
 ·exact KQ.all jn Sp (fun b c hbc=>hcl b c ((RX wp b c).mpr hbc)) hr0 hs z (pp.mem_iff.mp hz)
theorem R4 {κ:Type} {kvs:List (κ × V)} (h:(kvs.map (·.1)).Nodup) {k:κ} {v v':V} (a:(k,v) ∈ kvs) (b:(k,v') ∈ kvs):v=v':=by
 induction kvs with
 | nil=>exact nomatch a
 | cons p r ih=>
  rw [au,br] at h;rcases ZU.mp a with a | a
  ·rcases ZU.mp b with b | b
   ·rw [<-a] at b;exact (Prod.mk.inj b).2.symm
   ·exact absurd (ZZ.mpr ⟨_,b,by rw [<-a]⟩) h.1
  ·rcases ZU.mp b with b | b
   ·exact absurd (ZZ.mpr ⟨_,a,by rw [<-b]⟩) h.1
   ·exact ih h.2 a b
theorem IB:∀ {ns:List Int} {us:List Value},A3 (ns.map V.int) us->∃ ts:List (Int × Tok),us=ts.map (fun p=>Value.int p.1 p.2)/\ts.map (·.1)=ns
 | [],_,.nil=>⟨[],rfl,rfl⟩
 | n :: ns,_,.cons r q=>by
  obtain ⟨t,rfl⟩:=r;obtain ⟨ts,rfl,e⟩:=IB q;exact ⟨(n,t) :: ts,rfl,by rw [au,e]⟩
theorem C8 {X:Cx} (hc:X.calm=true):Bp X (.builtin "sum") (fun xs H Q=>∃ (a:Addr) (ns:List Int),xs=[.ref a]/\AV X.K H a (ns.map V.int)/\Q (.int ns.sum) H):=by
 intro pins s σ H xs us Q I r h;obtain ⟨a,ns,rfl,ha,q⟩:=h;obtain ⟨u,rfl,ru⟩:=Cd r;cases ru
 obtain ⟨Az,rv,pl,hz⟩:=I.list ha;obtain ⟨ts,rfl,e⟩:=IB rv;have hl:s.heap.IsList a (intItems ts.toArray):=by
  have:=pl.isList;unfold intItems;simpa using this
 refine sum_intListG (I.ok.hd hc) hl fun h' tk t' kk=>?_
 refine ⟨.int ns.sum,H,I.kept (t':=tk) kk,⟨t',?_⟩,q⟩;have:preSum (numAt ts.toArray) ts.toArray.size=ns.sum:=by
  rw [preSum_eq,cq (by simp),<-e]
 rw [this]
theorem Jl:typeLookup (.type "tuple") "keys"=pure none:=by rw [typeLookup_type,builtinLookup_eq_fast]; kernel_rfl
theorem O4 {prog:Program} {w:World} {A:Around} {E:Value->Shared->Prop} {s:Shared} {a:Addr} {o:Obj} {xs:Array Value} {k:Nat} {Q:Option Value->Shared->Prop}
  (hx:s.heap.get? a=some o) (hc:o.cls=.type "tuple") (hdat:o.data=.seq xs k) (hd:o.dict=none) (hA:A.handled=none)
  (h:∀ h' tk,(∀ b ob,s.heap.get? b=some ob->h'.get? b=some ob)->Q none { s with heap:=h',toks:=tk }):wpAny (model prog w) A (getAttr? (.ref a) "keys") Q E s:=by
 obtain ⟨c,dct,dat,sl⟩:=o;simp only at hc hdat hd;subst hc hdat hd;obtain ⟨hp,g,d,tk,os⟩:=s;have hT:∀ Wl,(⟨hp,g,d,Wl,os⟩:Shared).TypeIs (.ref a) "tuple":=fun _=>⟨_,hx,rfl⟩
 have f1:=sub_AttributeError;have f3:=F.slot_tuple_getattribute.lookup;have f4:=F.slot_tuple_getattribute.bind (.ref a);have f5:=am_tuple_getattr_none;unfold getAttr? getAttrBy? getAttrBy;repeat (any_goals (first | assumption | exact hT _ | ((with_reducible show wpAny _ _ (call (Value.builtin "tuple.__getattribute__") _ _) _ _ _); refine call_meets F.slot_tuple_getattribute (hT _) am_entry_tuple_getattribute (F.args_tuple_getattribute_2 _ _) (meets_getattribute_miss_tuple a xs k sl "keys" _ Jl (by decide +kernel) (by decide +kernel)) ⟨hx,hA,fun h' Wl e JE=>?_⟩) | wp_step))
 obtain ⟨t',u',he⟩:=JE.there;show wpAny _ _ (getattributeRaised _ _ _ _ _ _ _) _ _ _
 unfold getattributeRaised;have hE:∀ Wl,(⟨h',g,d,Wl,os⟩:Shared).TypeIs (.ref e) "AttributeError":=fun _=>⟨_,he,rfl⟩
 repeat (any_goals (first | assumption | exact hE _ | wp_step))
 exact h _ _ JE.keeps
section
variable {prog:Program} {w:World} {A:Around} {R:Result->Shared->Prop} {g0:Heap} {D it l:Addr} {vs:List Value} {ps:List (Str × V)}
theorem Oz (hh:A.handled=none) (nI:it ≠ D) (nl:l ≠ it/\l ≠ D) (g1:∀ b o,g0.get? b=some o->b ≠ it/\b ≠ D) (hl:vs.length=ps.length) (rows:∀ (i:Nat) v p,vs[i]? = some v->ps[i]? = some p->UK g0 v p) (hsz:ps.length < sizeLine) :
  ∀ (m i:Nat) (s:Shared) (kvs:List (AK × V)) (us:List (AK × Value)),ps.length - i=m->i<=ps.length->s.heap.IsTupleIter it l i->s.heap.IsTuple l vs.toArray->KV kvs us->kvs.length<=i->s.heap.DictOf (AO prog w) D us->(∀ b o,g0.get? b=some o->s.heap.get? b=some o) ->
   (∀ h' tk Um,KV (Iq kvs (sK (ps.drop i))) Um->h'.DictOf (AO prog w) D Um->(∀ b o,b ≠ it->b ≠ D->s.heap.get? b=some o->h'.get? b=some o)->R (.ok (.ret .none)) { s with heap:=h',toks:=tk }) ->
   codeAny (model prog w) A (.builtin "dict.update.loop" ⟨[.ref D,.ref it,.int (i:Int) 0,.none],[]⟩) R s:=by
 intro m;induction m with
 | zero=>
  intro i s kvs us hm hi st hL kv kl dd gk r;have e:i=ps.length:=by lia
  refine codeAny_builtin EE ?_;rw [Around.under_plainId Cp _];unfold Builtin.«dict.update.loop»;refine wpAny_bind (wpAny_pyNext_tuple_end hh st hL (by simp; lia) fun h' eb=>?_);refine wpAny_bind (wpAny_pure (wpAny_pure ?_));have Oq:h'.DictOf (AO prog w) D us:=dd.at fun o q=>eb D o (Ne.symm nI) q
  refine r h' s.toks us ?_ Oq fun b o b1 b2 q=>eb b o b1 q
  rw [e,List.drop_length];exact kv
 | succ m ih=>
  intro i s kvs us hm hi st hL kv kl dd gk r;have BE:i < ps.length:=by lia
  have ev:vs[i]? = some (vs[i]'(by lia)):=ZS (by lia);have ep:ps[i]? = some ps[i]:=ZS BE;obtain ⟨a,t,u,e1,ht,ru⟩:=rows i _ _ ev ep;rw [e1] at ev;refine codeAny_builtin EE ?_;rw [Around.under_plainId Cp _];unfold Builtin.«dict.update.loop»;refine wpAny_bind (wpAny_pyNext_tuple_item st hL (x:=.ref a) (by simpa using ev) fun h' An sb=>?_);obtain ⟨o,ho,hc,n,hd⟩:=id ht;have ha:=(sb.2 a (g1 a o ho).1).trans (gk a o ho);have Oq:h'.DictOf (AO prog w) D us:=dd.at fun o q=>(sb.2 D (Ne.symm nI)).trans q
  have L':h'.IsTuple l vs.toArray:=by
   obtain ⟨ol,hol,rl⟩:=hL;exact ⟨ol,(sb.2 l nl.1).trans hol,rl⟩
  refine wpAny_bind (wpAny_holding ?_);refine wpAny_bind (wpAny_tryCatch ?_);unfold Builtin.Dict.pairItems;refine wpAny_bind (wpAny_typeOf (T:="tuple") ⟨o,ha,hc⟩ ?_);rw [if_pos (by decide)];refine wpAny_bind (wpAny_seqItems ha hd (wpAny_pure ?_));show wpAny _ A.in1 (holding [Value.str ps[i].1 t,u] (dictSet D (Value.str ps[i].1 t) u)) _ _ _
  have Y3:us.length<=sizeLine:=by rw [<-kv.length]; lia
  refine wpAny_holding (wpAny_dictSet_pairs (k:=Sum.inr ps[i].1) (hsz:=Y3) (GR prog w _ t) Oq fun h2 Mw Ye=>?_);have ki:((i:Int) + 1)=((i + 1:Nat):Int):=by lia
  refine wpAny_pure ⟨plainId_quiet Cp _,?_⟩;show codeAny (model prog w) A (.builtin "dict.update.loop" ⟨[.ref D,.ref it,.int ((i:Int) + 1) 0,.none],[]⟩) R _
  rw [ki];have kl2:=Dz kvs (Sum.inr ps[i].1:AK) ps[i].2;have it2:h2.IsTupleIter it l (i + 1):=by
   obtain ⟨oi,hoi,ri⟩:=An;exact ⟨oi,(Ye.2 it nI).trans hoi,ri⟩
  refine ih (i + 1) _ (Bq kvs (Sum.inr ps[i].1) ps[i].2) _ (by lia) BE it2 ?_ (kv.put (Sum.inr ps[i].1) ru) (by lia) Mw (fun b ob q=>(Ye.2 b (g1 b ob q).2).trans ((sb.2 b (g1 b ob q).1).trans (gk b ob q))) fun h3 UW us3 kv3 dd3 k3=>?_
  ·obtain ⟨ol,hol,rl⟩:=L';exact ⟨ol,(Ye.2 l nl.2).trans hol,rl⟩
  ·refine r h3 UW us3 ?_ dd3 fun b ob b1 b2 q=>k3 b ob b1 b2 ((Ye.2 b b2).trans ((sb.2 b b1).trans q))
   have ed:ps.drop i=ps[i] :: ps.drop (i + 1):=(bU BE)
   rw [ed];exact kv3
end
section
variable {prog:Program} {w:World} {A:Around} {E:Value->Shared->Prop} {s:Shared}
theorem Hs {l:Addr} {vs:List Value} {ps:List (Str × V)} {Q:Value->Shared->Prop} (hh:A.handled=none) {ol:Obj} {nl:Nat} (hl:s.heap.get? l=some ol) (hc:ol.cls=.type "tuple") (hd:ol.data=.seq vs.toArray nl) (hdc:ol.dict=none)
  (hlen:vs.length=ps.length) (rows:∀ (i:Nat) v p,vs[i]? = some v->ps[i]? = some p->UK s.heap v p) (hsz:ps.length < sizeLine)
  (h:∀ h' tk us,KV (Iq [] (sK ps)) us->h'.DictOf (AO prog w) s.heap.objs.size us->(∀ b o,s.heap.get? b=some o->h'.get? b=some o)->Q (.ref s.heap.objs.size) { s with heap:=h',toks:=tk }):wpAny (model prog w) A (call (.type "dict") [.ref l]) Q E s:=by
 refine callType_codes (Q₁:=fun obj Bb=>obj=.ref s.heap.objs.size/\Bb = { s with heap:=s.heap.push { cls:=.type "dict",data:=.dict #[] } }) F.kt_called_dict (F.kt_typeCall_dict_1 _) F.entry_dict_init (kt_code_dict_new _ ⟨rfl,rfl⟩) ?_;rintro obj Bb ⟨rfl,rfl⟩;have hnew:(s.heap.push { cls:=.type "dict",data:=.dict #[] }).DictOf (AO prog w) s.heap.objs.size []:=Heap.DictOf.new s.heap;have Pl:(s.heap.push { cls:=.type "dict",data:=.dict #[] }).get? l=some ol:=ZT _ hl;refine ⟨hnew.typeIs,F.args_dict_init_2 _ _,?_⟩;unfold Builtin.«dict.__init__»;refine wpAny_bind ?_;unfold Builtin.Dict.selfAndRest;refine wpAny_bind (wpAny_notOrdered_dict hnew.typeIs ?_);show wpAny _ _ (pure (s.heap.objs.size,[Value.ref l])) _ _ _
 refine wpAny_pure ?_;show wpAny _ _ (Builtin.Dict.updateFrom "dict.__init__" s.heap.objs.size (.ref l) [] .none) _ _ _
 unfold Builtin.Dict.updateFrom;refine wpAny_bind (wpAny_typeOf (T:="tuple") ⟨ol,Pl,hc⟩ ?_);rw [if_pos (by decide)];refine wpAny_bind (O4 Pl hc hd hdc hh fun h1 Y5 k1=>?_);simp only [Option.isNone_none,if_true];refine wpAny_bind (wpAny_rule ?_);have PX:h1.IsTuple l vs.toArray:=⟨ol,k1 _ _ Pl,hc,nl,hd⟩
 refine wpAny_bind (wpAny_pyIter_tuple PX ?_);have old:∀ b o,s.heap.get? b=some o->h1.get? b=some o:=fun b o q=>k1 b o (ZT _ q)
 obtain ⟨od,esd,epd,hod,rd⟩:=id hnew;have Xx:=k1 _ _ hod;have ltD:=ae Xx;have ltl:=ae (k1 _ _ Pl);refine wpAny_pure ⟨plainId_quiet Cp _,?_⟩;refine Oz (A:=A.in1) (g0:=s.heap) (D:=s.heap.objs.size) (it:=h1.objs.size) (l:=l) (vs:=vs) (ps:=ps) hh (bA ltD) ⟨ao ltl,ao (ae hl)⟩ (fun b o q=>⟨ao (ae (old b o q)),ao (ae q)⟩) hlen rows hsz _ 0 { s with heap:=h1.push { cls:=.type "tuple_iterator",data:=.fields #[.ref l,.int 0 0] },toks:=Y5 } [] [] rfl (aH _)
  ⟨_,ah _ rfl,rfl,rfl⟩ (PX.push _) .nil (ZX _) ⟨od,esd,epd,ZT _ Xx,rd⟩ (fun b o q=>ZT _ (old b o q)) fun h' tk us kv dd kk=>?_
 rw [e6] at kv;exact ⟨rfl,h h' tk us kv dd fun b o q=>kk b o (ao (ae (old b o q))) (ao (ae q)) (ZT _ (old b o q))⟩
end
theorem BR {X:Cx} (hc:X.calm=true):Bp X (.type "dict") (fun xs H Q=>∃ (a:Addr) (vs:List V) (ps:List (Str × V)),xs=[.ref a]/\H a=some (.tup vs)/\vs.length=ps.length/\(∀ (i:Nat) v p,vs[i]? = some v->ps[i]? = some p->∃ t,v=.ref t/\H t=some (.tup [.str p.1,p.2]))/\(ps.map (·.1)).Nodup/\ps.length < 1000 /\
  ∀ D,H D=none->Q (.ref D) (upd H D (.dK (sK ps)))):=by
 intro pins s σ H xs us Q I r h;obtain ⟨a,vs,ps,rfl,ha,hl,hk,hn,h1000,q⟩:=h;obtain ⟨u,rfl,ru⟩:=Cd r;cases ru
 obtain ⟨hz,Az,rv,⟨o,ho,Mv,n,hdat⟩,dn⟩:=(show AU X.prog X.w H s.heap a (.tup vs) from I.hok a _ ha)
 have Gw:=dn o ho;have il:Az.length=ps.length:=by rw [<-rv.length,hl]
 have big:1000 < sizeLine:=by decide
 refine Hs (I.ok.hd hc) (ps:=ps) ho Mv hdat Gw il (fun i v p e1 e2=>?_) (by lia) fun h' tk us kv dd kk=>?_
 ·have hi:i < Az.length:=(ag.mp e1).1;have e3:vs[i]? = some vs[i]:=ZS (by lia);obtain ⟨v',e4,r4⟩:=rv.get e3;rw [e1] at e4;cases e4
  obtain ⟨t,e5,ht⟩:=hk i _ p e3 e2;rw [e5] at r4;cases r4
  obtain ⟨Ph,rv2,pl2,_⟩:=I.tuple (A2.of ht);cases rv2 with
  | cons x1 y1=>
   cases y1 with
   | cons x2 y2=>
    cases y2
    obtain ⟨t1,rfl⟩:=x1;exact ⟨t,t1,_,rfl,pl2,x2⟩
 ·have em:Iq [] (sK ps)=sK ps:=LN ps [] (by simpa using hn);rw [em] at kv;refine ⟨.ref s.heap.objs.size,_,I.laid (a:=s.heap.objs.size) (o:=.dK (sK ps)) (t':=tk) kk (ZX _) (KG (by rw [CJ]; lia) (beq_eq_false_iff_ne.mpr (Ne.symm (ao I.big))) kv dd),rfl,q _ (I.hok.fresh (ZX _))⟩
theorem Ou {k:Int} (h1:-(2 ^ 300) < k) (h2:k < 2 ^ 300):Builtin.Int.intBits k<=2 ^ 20:=by
 unfold Builtin.Int.intBits;split
 ·exact aH _
 ·have hn:k.natAbs < 2 ^ 300:=by lia
  have:k.natAbs.log2 < 300:=by
   rcases eJ k.natAbs with h0 | hp
   ·rw [h0]; decide
   ·exact (eX (by lia)).mpr hn
  lia
def CMulB (i j:Int):Prop:=(-(2 ^ 300) < i/\i < 2 ^ 300)/\(-(2 ^ 300) < j/\j < 2 ^ 300)
theorem NW {X:Cx}:F1 X (binaryOp .Mult) (rI CMulB fun i j=>.int (i * j)):=Wq fun _ _ _ _ _ _ _ hc q=>mul_int q (IntMulOk.of_bits (Ou hc.1.1 hc.1.2) (Ou hc.2.1 hc.2.2))
structure Bv (H:Hp) (c m:Addr) (n:Nat) (xs:List Str) (ws:List AI) (Am Ap:List Be) (x:V) (d:PyData):Prop where
 ex:∃ (t1 t2:Addr) (Cv F3:List V),H c=some (.tup [.ref m,.ref t1,.ref t2,x])/\H t1=some (.tup Cv)/\AM H Cv (Am.map BK)/\H t2=some (.tup F3)/\AM H F3 (Ap.map BK)
 map:Ga H m n xs ws
 n1:1<=n
 n30:n<=30
 ok1:Bo xs 0 Am
 ok2:Bo xs 1 Ap
 l1:Am.length<=10
 l2:Ap.length<=30
 lim:Lim x d
theorem Ga.keepT {H H':Hp} {m:Addr} {n:Nat} {xs:List Str} {ws:List AI} (h:Ga H m n xs ws) (t:∀ b ys,H b=some (.tup ys)->H' b=some (.tup ys)):Ga H' m n xs ws:=⟨h.at'.keepT t,h.dr,h.so,h.l64⟩
theorem Bv.keepT {H H':Hp} {c m:Addr} {n:Nat} {xs:List Str} {ws:List AI} {Am Ap:List Be} {x:V} {d:PyData} (h:Bv H c m n xs ws Am Ap x d) (t:∀ b ys,H b=some (.tup ys)->H' b=some (.tup ys)):Bv H' c m n xs ws Am Ap x d:=by
 obtain ⟨t1,t2,Cv,F3,a,b,e,f,g⟩:=h.ex;exact ⟨⟨t1,t2,Cv,F3,t _ _ a,t _ _ b,Ar e t,t _ _ f,Ar g t⟩,h.map.keepT t,h.n1,h.n30,h.ok1,h.ok2,h.l1,h.l2,h.lim⟩
theorem Bv.same {H H':Hp} {c m:Addr} {n:Nat} {xs:List Str} {ws:List AI} {Am Ap:List Be} {x:V} {d:PyData} (h:Bv H c m n xs ws Am Ap x d) (s:AD H H'):Bv H' c m n xs ws Am Ap x d:=h.keepT fun b ys z=>s _ _ z
def KP (xs ss:List Str):Prop:=ss ≠ []/\ss.Nodup/\∀ s ∈ ss,s ∈ xs
def Fh (ws:List AI) (ss:List Str) (rs:List Be) (gs:List AI):Prop:=gs.length=rs.length/\∀ (i:Nat) r g,rs[i]? = some r->gs[i]? = some g->g.1=r.1/\IY ws ss r.1 (g.2.2,g.2.1)
def Lp:Sp:=fun vs H Q _=>∃ (c o m:Addr) (n:Nat) (xs ss:List Str) (ws:List AI) (Am Ap:List Be) (x:V) (d:PyData),vs=[.ref c,.ref o]/\Bv H c m n xs ws Am Ap x d/\H o=some (.tup (ss.map V.str))/\KP xs ss /\
 ∀ (H':Hp) (D:Addr) (us:List V) (gs:List AI),AD H H'->H D=none->H' D=some (.lst us)->AM H' us (gs.map DC)->Fh ws ss Ap gs->Q (.ref D) H'
def A1 (rs:List Be) (h:Str):Int:=((rs.find? fun r=>decide (r.1=h)).map (·.2)).getD 0
def DQ:Sp:=fun vs H Q _=>∃ (c o m:Addr) (n:Nat) (xs ss:List Str) (ws:List AI) (Am Ap:List Be) (x:V) (d:PyData),vs=[.ref c,.ref o]/\Bv H c m n xs ws Am Ap x d/\H o=some (.tup (ss.map V.str))/\KP (Am.map (·.1)) ss /\
 ∀ (H':Hp),AD H H'->Q (.int (ss.map (A1 Am)).sum) H'
theorem Bx {rs:List Be} (h:(rs.map (·.1)).Nodup) {r:Be} (hr:r ∈ rs):A1 rs r.1=r.2:=by
 induction rs with
 | nil=>exact nomatch hr
 | cons q rs ih=>
  rw [au,br] at h;unfold A1;rw [bM];by_cases e:q.1=r.1
  ·rw [decide_eq_true e];rcases ZU.mp hr with z | z
   ·rw [z]; rfl
   ·exact absurd (ZZ.mpr ⟨_,z,e.symm⟩) h.1
  ·rw [decide_eq_false e];rcases ZU.mp hr with z | z
   ·rw [z] at e; exact absurd rfl e
   ·exact ih h.2 z
def Cn (rs:List Be):List (Str × V):=rs.map fun r=>(r.1,.int r.2)
theorem DI (rs:List Be):(Cn rs).map (·.1)=rs.map (·.1):=by unfold Cn; rw [aT]; rfl
theorem Km {H:Hp} {us:List V} {rs:List Be} (h:AM H us (rs.map BK)):∀ (i:Nat) v p,us[i]? = some v->(Cn rs)[i]? = some p->∃ t,v=.ref t/\H t=some (.tup [.str p.1,p.2]):=fun i v p e1 e2=>by
 obtain ⟨u,t,eu,rfl,ht⟩:=B7 h e1;unfold Cn at e2;rw [ai,eu] at e2;cases e2
 exact ⟨t,rfl,ht⟩
theorem Lu {H:Hp} {B:Addr} {rs:List Be} (h:H B=some (.dK (sK (Cn rs)))) (nd:(rs.map (·.1)).Nodup) {y:Str} (hy:y ∈ rs.map (·.1)):CK H B (.str y) (some (.int (A1 rs y))):=by
 obtain ⟨r,hr,rfl⟩:=ZZ.mp hy;rw [Bx nd hr];exact .inl ⟨_,Sum.inr r.1,.inl h,rfl,(Cm (nv:=Cn rs) (by rw [DI]; exact nd) (ZZ.mpr ⟨r,hr,rfl⟩)).symm⟩
def Fi:Sp:=fun vs H Q _=>∃ (c o m:Addr) (n:Nat) (xs ss:List Str) (ws:List AI) (Am Ap:List Be) (x:V) (d:PyData),vs=[.ref c,.ref o]/\Bv H c m n xs ws Am Ap x d/\H o=some (.tup (ss.map V.str))/\KP xs ss /\
 (∀ gs,Fh ws ss Ap gs->∀ g ∈ gs,-(2 ^ 300) < g.2.2/\g.2.2 < 2 ^ 300) /\
 ∀ (H':Hp) (gs:List AI),AD H H'->Fh ws ss Ap gs->Q (.int (gs.map fun g=>A1 Ap g.1 * g.2.2).sum) H'
def M8:Sp:=fun vs H Q _=>∃ (c o m:Addr) (n:Nat) (xs ss:List Str) (ws:List AI) (Am Ap:List Be) (x:V) (d:PyData),vs=[.ref c,.ref o]/\Bv H c m n xs ws Am Ap x d/\H o=some (.tup (ss.map V.str))/\KP xs ss/\KP (Am.map (·.1)) ss /\
 (∀ gs,Fh ws ss Ap gs->∀ g ∈ gs,-(2 ^ 300) < g.2.2/\g.2.2 < 2 ^ 300) /\
 ∀ (H':Hp) (gs:List AI),AD H H'->Fh ws ss Ap gs->Q (.int ((ss.map (A1 Am)).sum + (gs.map fun g=>A1 Ap g.1 * g.2.2).sum)) H'
theorem Le {H:Hp}:∀ {vs:List V} {ws:List AI},AM H vs (ws.map DC)->vs.length=ws.length
 | _,[],.nil=>rfl
 | _,u :: ws,.cons h r=>by rw [aK,aK,Le r]
section
variable {prog:Program} {w:World} {A:Around} {E:Value->Shared->Prop} {s:Shared}
end
section
variable {prog:Program} {w:World} {A:Around} {E:Value->Shared->Prop} {s:Shared}
end
theorem Dt {J:It} {xs:List V} {S:Hp->Prop} {g:TG} {tt:TT} {te:TE} {H:Hp} {σ0:St} {R:Addr->Hp->Prop} (ov:PQ J xs S) (I:Addr->Nat->St->Hp->List V->Prop) (big:xs.length < sizeLine)
  (h0:∀ D,H D=none->I D 0 σ0 (upd H D (.lst [])) [])
  (hs:∀ D i σ H' acc,H D=none->I D i σ H' acc->S H'/\H' D=some (.lst acc)/\acc.length<=i)
  (turn:∀ D i σ H' acc x (B:St->V->Hp->Prop) (N:St->Hp->Prop),H D=none->xs[i]? = some x->I D i σ H' acc->(∀ A9 v H5,H5 D=some (.lst acc)->I D (i + 1) A9 (upd H5 D (.lst (acc ++ [v]))) (acc ++ [v])->B A9 v H5) ->
   (∀ A9 H4,I D (i + 1) A9 H4 acc->N A9 H4)->g x σ H' fun A9 H3=>tt A9 H3 fun b H4=>if b=true then te A9 H4 (B A9) else N A9 H4)
  (fin:∀ D σ H' acc,H D=none->I D xs.length σ H' acc->R D H') :
  ∀ D,H D=none->∃ W:Nat->Nat->St->Hp->Prop,(∃ m,W 0 m σ0 (upd H D (.lst []))) /\
   ∀ i m A8 H',W i m A8 H'->(J.stop i H'/\R D H')\/(J.go i H'/\∀ x H2,J.yld i H' x H2->g x A8 H2 fun A9 H3=>tt A9 H3 fun b H4=>
    if b=true then te A9 H4 (fun v H5=>∃ acc,H5 D=some (.lst acc)/\acc.length < sizeLine/\∃ m',m' < m/\W (i + 1) m' A9 (upd H5 D (.lst (acc ++ [v])))) else ∃ m',m' < m/\W (i + 1) m' A9 H4):=by
 intro D hD;refine ⟨fun i m σ H'=>m=xs.length - i/\i<=xs.length/\∃ acc,I D i σ H' acc,⟨xs.length,rfl,aH _,[],h0 D hD⟩,?_⟩;rintro i m σ H' ⟨rfl,hi,acc,p⟩;obtain ⟨s1,s2,s3⟩:=hs D i σ H' acc hD p;by_cases BE:i < xs.length
 ·refine .inr ⟨ov.go i H' s1 BE,fun x H2 y=>?_⟩;obtain ⟨rfl,ex⟩:=ov.yld i H' x H2 s1 y;refine turn D i σ H2 acc x (fun A9 v H5=>∃ acc,H5 D=some (.lst acc)/\acc.length < sizeLine/\∃ m',m' < xs.length - i/\(m'=xs.length - (i + 1)/\i + 1<=xs.length/\∃ IT,I D (i + 1) A9 (upd H5 D (.lst (acc ++ [v]))) IT)) (fun A9 H4=>∃ m',m' < xs.length - i/\(m'=xs.length - (i + 1)/\i + 1<=xs.length/\∃ IT,I D (i + 1) A9 H4 IT)) hD ex p (fun A9 v H5 d5 p5=>?_) fun A9 H4 p4=>?_
  ·exact ⟨acc,d5,by lia,xs.length - (i + 1),by lia,rfl,BE,_,p5⟩
  ·exact ⟨xs.length - (i + 1),by lia,rfl,BE,_,p4⟩
 ·have e:i=xs.length:=by lia
  subst e;exact .inl ⟨ov.stop H' s1,fin D σ H' acc hD p⟩
def Kb (rs:List Be) (gs:List AI):Int:=(gs.map fun g=>A1 rs g.1 * g.2.2).sum
theorem Bu.app' {ws:List AI} {x y z:Str} {m n:Int} (h:Bu ws x y m) (g:Bu ws y z n):Bu ws x z (m + n):=by
 induction h with
 | nil x=>rw [bQ]; exact g
 | cons e _ ih=>rw [eG]; exact .cons e (ih g)
theorem MW {xs:List Str} {ws:List AI} (jn:KQ xs ws) {L:Int} (L0:0<=L) (hL:∀ u ∈ ws,u.2.2<=L) (hp:∀ u ∈ ws,1<=u.2.2) {r:Str} (hr:xs[0]? = some r):∀ (j:Nat) x,xs[j]? = some x->∃ m,Bu ws x r m/\0<=m/\m<=j * L:=by
 intro j;induction j using Nat.strongRecOn with
 | ind j ih=>
  intro x hx;by_cases z:j=0
  ·subst z;rw [hr] at hx;cases hx
   exact ⟨0,.nil _,bJ _,by simp⟩
  ·obtain ⟨u,hu,i,hij,e1,e2⟩:=jn j (by lia) (ag.mp hx).1;rw [hx] at e2;cases e2
   obtain ⟨m,w,m0,ml⟩:=ih i hij _ e1;have hl:=hL u hu;have hq:=hp u hu;refine ⟨u.2.2 + m,.cons ⟨u,hu,.inr ⟨rfl,rfl⟩,rfl⟩ w,by lia,?_⟩;have:((i:Int) + 1) * L<=j * L:=aM (by lia) L0;rw [dh,Int.one_mul] at this;lia
theorem Ga.sums {H:Hp} {m:Addr} {n:Nat} {ps:List Str} {ws:List AI} (h:Ga H m n ps ws) (n1:1<=n) (n30:n<=30):∀ x ∈ ps,∀ y ∈ ps,∃ k,Bu ws x y k/\0<=k/\k < 2 ^ 300:=by
 obtain ⟨xs,Ul,pp,wp,wof,sep,jn⟩:=h.dr;have en:=fun x y l=>JI wp x y l
 have xl:xs.length=n:=by rw [<-pp.length_eq]; exact h.at'.len
 have hr:xs[0]? = some (xs[0]'(by lia)):=ZS _;have hL:∀ u ∈ Ul,u.2.2<=10 ^ 30:=fun u hu=>by
  have:=(h.at'.wn (Fq u) (wp.mem_iff.mpr (ZZ.mpr ⟨u,hu,rfl⟩))).2.2.2;have e:(Fq u).2.2=u.2.2:=rfl;lia
 have one:∀ x ∈ ps,∃ k,Bu Ul x (xs[0]'(by lia)) k/\0<=k/\k<=30 * 10 ^ 30:=fun x hx=>by
  obtain ⟨j,hj,ej⟩:=aF (pp.mem_iff.mp hx);obtain ⟨k,a,b,c⟩:=MW jn (by decide) hL (fun u hu=>(wof u hu).2.2.2) hr j x (by rw [ZS hj,ej]);refine ⟨k,a,b,cF c (aM (by lia) (by decide))⟩
 intro x hx y hy;obtain ⟨k1,a1,b1,c1⟩:=one x hx;obtain ⟨k2,a2,b2,c2⟩:=one y hy;have a3:=(Qe en).mpr (Bu.app' a1 a2.symm);exact ⟨k1 + k2,a3,by lia,by lia⟩
theorem Bu.pos' {ws:List AI} (hp:∀ u ∈ ws,1<=u.2.2) {x y:Str} {m:Int} (h:Bu ws x y m):0<=m:=by
 induction h with
 | nil=>exact bJ _
 | cons e _ ih=>obtain ⟨u,hu,_,rfl⟩:=e; have:=hp u hu; lia
theorem Ga.bound {H:Hp} {m:Addr} {n:Nat} {ps:List Str} {ws:List AI} (h:Ga H m n ps ws) (n1:1<=n) (n30:n<=30) {x y:Str} (hx:x ∈ ps) (hy:y ∈ ps) {k:Int} (d:Gg ws x y k):0<=k/\k < 2 ^ 300:=by
 obtain ⟨k',a,_,c⟩:=h.sums n1 n30 x hx y hy;exact ⟨d.1.pos' fun u hu=>(h.at'.wn u hu).2.2.1,cx (d.2 k' a) c⟩
theorem BS.intB {i:Int} (h0:0<=i) (h:i < 2 ^ 600):BS (.int i) 0 0:=by
 have hn:i.natAbs < 2 ^ 600:=by lia
 have l:i.natAbs.log2 < 600:=by
  by_cases z:i.natAbs=0
  ·rw [z]; decide
  ·exact (eX z).mpr hn
 have e:PyData.leavesShort 200 (.int i)=decide ((PyData.shown (.int i)).length<=200):=by simp only [PyData.leavesShort]
 refine ⟨rfl,?_,rfl,?_,ZX _,ZX _⟩
 ·simp only [PyData.showable];exact decide_eq_true (by lia)
 ·rw [e];apply decide_eq_true;have q:=int_text_length_le10 (a:=i) (k:=190) (by decide) (ak hn (by decide));have e2:PyData.shown (.int i)=Str.ofString (toString i):=by simp only [PyData.shown]
  rw [e2,PySem.ofString_length];lia
theorem Kg {B:Int} (hB:0<=B):∀ {l:List Int},(∀ t ∈ l,0<=t/\t<=B)->0<=l.sum/\l.sum<=l.length * B
 | [],_=>⟨bJ _,by simp⟩
 | t :: l,h=>by
  obtain ⟨a,b⟩:=Kg hB (l:=l) fun t' ht=>h t' (aA _ ht)
  obtain ⟨c,d⟩:=h t aJ;rw [gN,aK];have e:((l.length + 1:Nat):Int) * B=l.length * B + B:=by rw [Int.natCast_add,dh]; simp
  constructor <;> lia
theorem PH {rs:List Be} {ss xs:List Str} {lo:Int} (ok:Bo xs lo rs) (h0:0<=lo) (sub:∀ s ∈ ss,s ∈ rs.map (·.1)) (sl:ss.length<=30):0<=(ss.map (A1 rs)).sum/\(ss.map (A1 rs)).sum < 2 ^ 500:=by
 have q:=Kg (B:=10 ^ 30) (by decide) (l:=ss.map (A1 rs)) fun t ht=>by
  obtain ⟨s,hs,rfl⟩:=ZZ.mp ht;obtain ⟨r,hr,rfl⟩:=ZZ.mp (sub s hs);rw [Bx ok.nd hr];have:=ok.lo r hr;lia
 rw [ZR] at q;have:(ss.length:Int) * 10 ^ 30<=30 * 10 ^ 30:=aM (by lia) (by decide);lia
end L2
namespace L2
open PySem
theorem LX {K:ZV} {a:Addr} {xs:List V} {g:TG} {tb:TS} {D:EX} {σ:St} {H:Hp} (Pv:Nat->St->Hp->Prop) (h0:Pv 0 σ H) (hl:∀ i σ H,i<=xs.length->Pv i σ H->A2 K H a xs)
  (hs:∀ i x σ H,xs[i]? = some x->Pv i σ H->∀ (rt:VK) (bk:St->Hp->Prop),g x σ H fun A9 H2=>tb ⟨Pv (i + 1),rt,bk,Pv (i + 1)⟩ A9 H2) (hd:∀ σ H,Pv xs.length σ H->D.nx σ H) :
  ∃ W:Nat->Nat->St->Hp->Prop,(∃ m,W 0 m σ H)/\∀ i m σ H,W i m σ H ->
   ((Ud K a).stop i H/\D.nx σ H)\/((Ud K a).go i H/\∃ N:St->Hp->Prop,(∀ A8 H',N A8 H'->∃ m',m' < m/\W (i + 1) m' A8 H')/\∀ x H',(Ud K a).yld i H x H'->g x σ H' fun A9 H2=>tb { D with nx:=N,ct:=N,bk:=D.nx } A9 H2):=
 Tw Pv h0 hl (fun i x σ H hx hp=>hs i x σ H hx hp D.rt D.nx) hd
theorem IE {lo:Int} {n:Nat} {g:TG} {tb:TS} {D:EX} {σ:St} {H:Hp} (Pv:Nat->St->Hp->Prop) (h0:Pv 0 σ H)
  (hs:∀ i σ H,i < n->Pv i σ H->∀ (rt:VK) (bk:St->Hp->Prop),g (.int (lo + i)) σ H fun A9 H2=>tb ⟨Pv (i + 1),rt,bk,Pv (i + 1)⟩ A9 H2) (hd:∀ σ H,Pv n σ H->D.nx σ H) :
  ∃ W:Nat->Nat->St->Hp->Prop,(∃ m,W 0 m σ H)/\∀ i m σ H,W i m σ H ->
   ((KR lo n).stop i H/\D.nx σ H)\/((KR lo n).go i H/\∃ N:St->Hp->Prop,(∀ A8 H',N A8 H'->∃ m',m' < m/\W (i + 1) m' A8 H')/\∀ x H',(KR lo n).yld i H x H'->g x σ H' fun A9 H2=>tb { D with nx:=N,ct:=N,bk:=D.nx } A9 H2):=
 JG Pv h0 (fun i σ H hx hp=>hs i σ H hx hp D.rt D.nx) hd
theorem Pr {a:Addr} {kvs:List (AK × V)} {o:Obj} {g:TG} {tb:TS} {D:EX} {σ:St} {H:Hp} (Pv:Nat->St->Hp->Prop) (h0:Pv 0 σ H) (hl:∀ i σ H,i<=kvs.length->Pv i σ H->H a=some (.frz o (.dK kvs)))
  (hs:∀ i k v σ H,kvs[i]? = some (k,v)->Pv i σ H->∀ (rt:VK) (bk:St->Hp->Prop),g (kV k) σ H fun A9 H2=>tb ⟨Pv (i + 1),rt,bk,Pv (i + 1)⟩ A9 H2) (hd:∀ σ H,Pv kvs.length σ H->D.nx σ H) :
  ∃ W:Nat->Nat->St->Hp->Prop,(∃ m,W 0 m σ H)/\∀ i m σ H,W i m σ H ->
   ((UP a kvs o).stop i H/\D.nx σ H)\/((UP a kvs o).go i H/\∃ N:St->Hp->Prop,(∀ A8 H',N A8 H'->∃ m',m' < m/\W (i + 1) m' A8 H')/\∀ x H',(UP a kvs o).yld i H x H'->g x σ H' fun A9 H2=>tb { D with nx:=N,ct:=N,bk:=D.nx } A9 H2):=
 RL Pv h0 hl (fun i k v σ H hx hp=>hs i k v σ H hx hp D.rt D.nx) hd
theorem Di {lo:Int} {n:Nat} {g:TG} {tb:TS} {D:EX} {σ:St} {H:Hp} (Pv:Nat->St->Hp->Prop) (h0:Pv 0 σ H)
  (hs:∀ i σ H,i < n->Pv i σ H->∀ (rt:VK) (bk N:St->Hp->Prop),(∀ σ H,Pv (i + 1) σ H->N σ H)->g (.int (lo + i)) σ H fun A9 H2=>tb ⟨N,rt,bk,N⟩ A9 H2) (hd:∀ σ H,Pv n σ H->D.nx σ H) :
  ∃ W:Nat->Nat->St->Hp->Prop,(∃ m,W 0 m σ H)/\∀ i m σ H,W i m σ H ->
   ((KR lo n).stop i H/\D.nx σ H)\/((KR lo n).go i H/\∃ N:St->Hp->Prop,(∀ A8 H',N A8 H'->∃ m',m' < m/\W (i + 1) m' A8 H')/\∀ x H',(KR lo n).yld i H x H'->g x σ H' fun A9 H2=>tb { D with nx:=N,ct:=N,bk:=D.nx } A9 H2):=
 JG Pv h0 (fun i σ H hx hp=>hs i σ H hx hp D.rt D.nx _ fun _ _ z=>z) hd
theorem Gx {K:ZV} {a:Addr} {xs:List V} {g:TG} {tb:TS} {D:EX} {σ:St} {H:Hp} (Pv:Nat->St->Hp->Prop) (h0:Pv 0 σ H) (hl:∀ i σ H,i<=xs.length->Pv i σ H->AV K H a xs)
  (hs:∀ i x σ H,xs[i]? = some x->Pv i σ H->∀ (rt:VK) (bk N:St->Hp->Prop),(∀ σ H,Pv (i + 1) σ H->N σ H)->g x σ H fun A9 H2=>tb ⟨N,rt,bk,N⟩ A9 H2) (hd:∀ σ H,Pv xs.length σ H->D.nx σ H) :
  ∃ W:Nat->Nat->St->Hp->Prop,(∃ m,W 0 m σ H)/\∀ i m σ H,W i m σ H ->
   ((Ue K a).stop i H/\D.nx σ H)\/((Ue K a).go i H/\∃ N:St->Hp->Prop,(∀ A8 H',N A8 H'->∃ m',m' < m/\W (i + 1) m' A8 H')/\∀ x H',(Ue K a).yld i H x H'->g x σ H' fun A9 H2=>tb { D with nx:=N,ct:=N,bk:=D.nx } A9 H2):=
 RK Pv h0 hl (fun i x σ H hx hp=>hs i x σ H hx hp D.rt D.nx _ fun _ _ z=>z) hd
end L2
namespace L2
open PySem PySem.Spec PyProof.Rows
theorem Jg {M:Model} {A:Around} {E:Value->Shared->Prop} {s:Shared} {scope:Scope} {globals:Addr} {closure:List (Str × Addr)} {qual:Str} {func:Option Addr} {code:Value} {outer:Env} {builtins:Addr} {Q:Env->Shared->Prop}
  (hQ:Q (newEnv scope s.heap.objs.size globals (cellsFrom (s.heap.objs.size + 1) scope.names closure) qual func code (some outer) builtins) { s with heap:=pushCells (s.heap.push { cls:=.type "dict",data:=.dict #[] }) scope.names }) :
  wpAny M A (newFunctionEnv scope globals closure [] qual func code (some outer) builtins) Q E s:=by
 simp only [newFunctionEnv,gh,if_true];refine wpAny_bind (wpAny_alloc ?_);refine wpAny_bind (wpAny_layCells _ (fun name kind cells=>by cases hkc:kind == NameKind.cell <;> simp [hkc]) _ _ _ _ ?_);rw [show ({ s with heap:=s.heap.push { cls:=.type "dict",data:=.dict #[] } }:Shared).heap.objs.size=s.heap.objs.size + 1 from bx ..];refine wpAny_bind ?_;rw [List.forIn_nil];exact wpAny_pure (wpAny_pure hQ)
theorem G0:∀ (names:List (Str × NameKind)) (h:Heap) (acc:List (Str × Addr)) (lo:Nat),lo<=h.objs.size->(∀ x c,(x,c) ∈ acc->c < lo\/(lo<=c/\c < h.objs.size/\h.IsCell c none)) ->
  ∀ x c,(x,c) ∈ cellsFrom h.objs.size names acc->(x,c) ∈ acc\/(lo<=c/\(pushCells h names).IsCell c none)
 | [],h,acc,lo,_,_,x,c,hm=>.inl hm
 | (name,kind) :: r,h,acc,lo,hlo,ha,x,c,hm=>by
  unfold cellsFrom at hm;unfold pushCells;split at hm
  ·rename_i hk
   rw [if_pos hk];rw [show h.objs.size + 1=(h.push { cls:=.type "cell",data:=.cell none }).objs.size from (bx ..).symm] at hm;rcases G0 r (h.push { cls:=.type "cell",data:=.cell none }) ((name,h.objs.size) :: acc) lo (by rw [bx]; lia) (fun y d hy=>by
    rcases ZU.mp hy with e | hy
    ·cases e
     exact .inr ⟨hlo,by rw [bx]; exact aU _,_,ah _ rfl,rfl⟩
    ·rcases ha y d hy with z | ⟨z1,z2,z3⟩
     ·exact .inl z
     ·exact .inr ⟨z1,by rw [bx]; exact aN z2,z3.keeps fun b o e=>ZT _ e⟩) x c hm with q | q
   ·rcases ZU.mp q with e | q
    ·cases e
     exact .inr ⟨hlo,_,pushCells_keeps _ _ _ _ (ah _ rfl),rfl⟩
    ·exact .inl q
   ·exact .inr q
  ·rename_i hk
   rw [if_neg hk];exact G0 r h acc lo hlo ha x c hm
theorem EF:∀ (names:List (Str × NameKind)) (n:Nat) (acc:List (Str × Addr)),(acc.Pairwise fun x y=>x.2 ≠ y.2)->(∀ x c,(x,c) ∈ acc->c < n)->(cellsFrom n names acc).Pairwise fun x y=>x.2 ≠ y.2
 | [],n,acc,h,_=>h
 | (name,kind) :: r,n,acc,h,ha=>by
  unfold cellsFrom;split
  ·refine EF r (n + 1) ((name,n) :: acc) (dv.mpr ⟨fun y hy e=>?_,h⟩) fun x c hm=>?_
   ·have:=ha y.1 y.2 hy;have e':n=y.2:=e;exact absurd this (by rw [<-e']; exact bp _)
   ·rcases ZU.mp hm with e | hm
    ·cases e; exact aU _
    ·exact aN (ha x c hm)
  ·exact EF r n acc h ha
theorem De {α:Type}:∀ {l:List (Str × α)} {x:Str} {c:α},(x,c) ∈ l->∃ d,l.lookup x=some d
 | (k,v) :: r,x,c,h=>by
  rw [dF];cases hb:x == k with
  | true=>exact ⟨v,rfl⟩
  | false=>
   rcases ZU.mp h with e | h
   ·cases e; simp at hb
   ·exact De h
theorem G1:∀ (names:List (Str × NameKind)) (n:Nat) (acc:List (Str × Addr)) (x:Str),((x,NameKind.cell) ∈ names\/∃ c,(x,c) ∈ acc)->∃ c,(x,c) ∈ cellsFrom n names acc
 | [],n,acc,x,h=>by
  rcases h with h | h
  ·cases h
  ·exact h
 | (name,kind) :: r,n,acc,x,h=>by
  unfold cellsFrom;split
  ·rename_i hk
   refine G1 r (n + 1) ((name,n) :: acc) x ?_;rcases h with h | ⟨c,h⟩
   ·rcases ZU.mp h with e | h
    ·cases e; exact .inr ⟨n,aJ⟩
    ·exact .inl h
   ·exact .inr ⟨c,aA _ h⟩
  ·rename_i hk
   refine G1 r n acc x ?_;rcases h with h | h
   ·rcases ZU.mp h with e | h
    ·cases e; exact absurd rfl hk
    ·exact .inl h
   ·exact .inr h
abbrev BJ (X:Cx) (scope:Scope) (cl:List (Str × Addr)) (N:List Str) (s2:Shared) (H:Hp) (C:Addr) (fp:List Addr) (fn:Str->Bool):Cx:={ A4 X scope cl N s2 H C fp with fn:=fn }
theorem Gz (n0:Nat):∀ (names:List (Str × NameKind)) (n:Nat) (acc:List (Str × Addr)) (x:Str) (c:Addr),n0<=n->((x,NameKind.cell) ∈ names\/∃ d,acc.lookup x=some d/\n0<=d)->(cellsFrom n names acc).lookup x=some c->n0<=c
 | [],n,acc,x,c,_,h,e=>by
  rcases h with h | ⟨d,h1,h2⟩
  ·cases h
  ·have e':acc.lookup x=some c:=e;rw [h1] at e';cases e'
   exact h2
 | (name,kind) :: r,n,acc,x,c,hn,h,e=>by
  unfold cellsFrom at e;split at e
  ·rename_i hk
   refine Gz n0 r (n + 1) ((name,n) :: acc) x c (cQ hn) ?_ e;by_cases ex:x=name
   ·refine .inr ⟨n,?_,hn⟩;rw [ex,dF,beq_self_eq_true]
   ·have hb:(x == name)=false:=beq_eq_false_iff_ne.mpr ex;rcases h with h | ⟨d,h1,h2⟩
    ·rcases ZU.mp h with z | z
     ·injection z with z1 z2;exact absurd z1 ex
     ·exact .inl z
    ·exact .inr ⟨d,by rw [dF,hb]; exact h1,h2⟩
  ·rename_i hk
   refine Gz n0 r n acc x c hn ?_ e;rcases h with h | h
   ·rcases ZU.mp h with z | z
    ·cases z; exact absurd rfl hk
    ·exact .inl z
   ·exact .inr h
structure Ge (X:Cx) (scope:Scope) (cl:List (Str × Addr)):Prop where
 clos:closureFor scope X.env=pure cl
 kind:scope.kind=.function
 names:∀ y ∈ scope.names,y.2=.local->scope.names.lookup y.1=some .local
 sub:∀ x c,(x,c) ∈ cl->X.env.cells.lookup x=some c
 apart:(cl.Pairwise fun x y=>x.2 ≠ y.2)
 has:∀ x,((relabel scope X.env).names.lookup x=some .cell\/(relabel scope X.env).names.lookup x=some .free)->(x,NameKind.cell) ∈ scope.names\/∃ c,(x,c) ∈ cl
theorem Fp:∀ (names:List (Str × NameKind)) (n:Nat) (acc:List (Str × Addr)) (x:Str) (c:Addr),(x,c) ∈ cellsFrom n names acc->(x,NameKind.cell) ∉ names->(x,c) ∈ acc
 | [],n,acc,x,c,h,_=>h
 | (name,kind) :: r,n,acc,x,c,h,hn=>by
  unfold cellsFrom at h;split at h
  ·rename_i hk
   have Ng:kind=.cell:=by cases kind <;> first | rfl | cases hk
   rcases ZU.mp (Fp r (n + 1) ((name,n) :: acc) x c h fun z=>hn (aA _ z)) with e | e
   ·cases e
    exact absurd (by rw [Ng]; exact aJ) hn
   ·exact e
  ·exact Fp r n acc x c h fun z=>hn (aA _ z)
section
variable {X:Cx} {pins:List (Addr × Obj)} {σ A8:St} {H H':Hp} {s2 s':Shared} {scope:Scope} {cl:List (Str × Addr)} {N:List Str} {fp:List Addr} {C D:Addr} {h₁ h':Heap} {t':Nat}
theorem Mh {fn:Str->Bool} {cl0:List (Str × Addr)} (I:Au X pins σ H s2) (hf:∀ b ∈ fp,EG X pins H b) (hfo:∀ b ∈ fp,∃ o,s2.heap.get? b=some o) (co:Ge X scope cl0) (sub:∀ x c,cl.lookup x=some c->X.env.cells.lookup x=some c\/(s2.heap.objs.size<=c/\c ≠ D/\c ≠ C/\h₁.IsCell c none)) (inj:∀ x y c,cl.lookup x=some c->cl.lookup y=some c->x=y) (own:∀ x c,fn x=true->cl.lookup x=some c->s2.heap.objs.size<=c)
  (has:∀ x,((relabel scope X.env).names.lookup x=some .cell\/(relabel scope X.env).names.lookup x=some .free)->∃ c,cl.lookup x=some c) (keepS:∀ (i:Nat) (x:Str) (v:V),N[i]? = some x->A8[i]? = some (some v)->∀ c,cl.lookup x=some c->X.env.cells.lookup x=some c) (hσ:Ba X cl scope N σ A8)
  (k:∀ b o,s2.heap.get? b=some o->h₁.get? b=some o) (hD:s2.heap.objs.size<=D) (hC:s2.heap.objs.size<=C) (hDC:C ≠ D)
  (new:h₁.get? D=some { cls:=.type "list",data:=.seq ([]:List Value).toArray 0 }\/∃ n,h₁.get? D=some { cls:=.type "list",data:=.seq ([]:List Value).toArray n }) {m:Str->Option Value} (hn:h₁.Ns C m) :
  Au (BJ X scope cl N s2 H C fp fn) [] A8 (upd H D (.lst [])) { s2 with heap:=h₁,toks:=t' }:=by
 have fD:H D=none:=I.hok.fresh hD;have fC:H C=none:=I.hok.fresh hC;have newO:AU X.prog X.w (upd H D (.lst [])) h₁ D (.lst []):=by
  refine ⟨aH _,[],?_⟩;rcases new with e | ⟨n,e⟩
  ·exact ⟨0,.nil,e⟩
  ·exact ⟨n,.nil,e⟩
 have lts:∀ b ∈ fp,b < s2.heap.objs.size:=fun b hb=>let ⟨_,e⟩:=hfo b hb; ae e
 have ok:Cx.Ok (BJ X scope cl N s2 H C fp fn):=by
  refine ⟨I.ok.mod,?_,I.ok.glob,I.ok.blt,hC,?_,?_,?_,I.ok.hd,I.ok.frames,.inl rfl,?_,I.bs,aQ I.ok.bsz I.sz,?_,?_,I.stack,I.stkFree⟩
  ·exact co.kind
  ·exact inj
  ·exact has
  ·exact own
  ·intro b hb;refine ⟨fun e=>?_,fun x c e=>by
    rcases sub x c e with z | ⟨z,_⟩
    ·exact (hf b hb).2.2.2.2.1 x c z
    ·exact bA (ak (lts b hb) z)⟩
   have z:=lts b hb;exact absurd (ak z hC) (by rw [show b=C from e]; exact bp _)
  ·intro b o e hb;have IC:b ∈ fp:=hb;rcases (hf b IC).2.2.2.1 with z | z
   ·exact I.ok.noex b o e z
   ·exact absurd (ak (ae e) (aQ I.ok.bsz z)) (bp _)
  ·intro b hb hz;have IC:b ∈ fp:=hb;obtain ⟨_,f1,f2,_⟩:=hf b IC;rcases ZU.mp (I.stkSub b hz) with e | e
   ·exact f1 e
   ·exact f2 e
 refine ⟨ok,rfl,I.bare,Un.laid k hD fD,?_,?_,?_,?_,?_,I.hok.laid k hD newO,hσ.1⟩
 ·refine ⟨m,hn,fun i x v e1 e2 _=>?_⟩;obtain ⟨⟨j,j1,j2⟩,kk,kr⟩:=hσ.2 i x v e1 e2;obtain ⟨mo,_,hl⟩:=I.loc;obtain ⟨u,r,l⟩:=hl j x v j1 j2 (by
   rcases kk with z | z
   ·exact .inr (.inl z)
   ·exact .inr (.inr z))
  refine ⟨u,r,.inr ⟨kr,?_⟩⟩;obtain ⟨c,hc⟩:=has x kr;rcases l with ⟨z,_⟩ | ⟨_,c',Mv,hcell⟩
  ·rcases kk with q | q
   ·rw [z] at q; cases q
   ·rw [z] at q; cases q
  ·have e3:=keepS i x v e1 e2 c hc;rw [Mv] at e3;have e4:c'=c:=aI.inj e3;subst e4;obtain ⟨o,ho,hd⟩:=hcell;exact ⟨c',hc,o,k _ o ho,hd⟩
 ·intro x c e;rcases sub x c e with z | ⟨_,_,_,z⟩
  ·obtain ⟨v,o,ho,hd⟩:=I.cell x c z;exact ⟨v,o,k _ o ho,hd⟩
  ·exact ⟨cY,z⟩
 ·show upd H D (.lst []) C=none
  rw [Ae hDC];exact fC
 ·intro x c e;rcases sub x c e with z | ⟨z1,z2,_,_⟩
  ·obtain ⟨v,q⟩:=I.cell x c z;rw [Ae (ao (ak q.lt hD))];exact I.freeC x c z
  ·rw [Ae z2];exact I.hok.fresh z1
 ·intro p hp;cases hp
theorem PJ {fn:Str->Bool} {pl:List (Addr × Obj)} (I:Au X pins σ H s2) (hf:∀ b ∈ fp,EG X pins H b) (hC:s2.heap.objs.size<=C) (I2:Au (BJ X scope cl N s2 H C fp fn) pl A8 H' s')
  (hs:Heap.SameBut C s'.heap h'):Au X pins σ H' { s' with heap:=h' }:=by
 have nC:∀ b o,s2.heap.get? b=some o->b ≠ C:=fun b o e=>ao (ak (ae e) hC)
 have u:=I2.base;refine I.call' (s':={ s' with heap:=h' }) (ch:=fp) I2.os ⟨?_,?_,u.free,?_,u.tups,u.frzs,u.tbls⟩ ?_ I2.bare fun b hb=>?_
 ·exact fun b o e n h1 h2=>(hs.2 b (nC b o e)).trans (u.keep b o e n h1 h2)
 ·intro b o e n h1 h2;obtain ⟨sl,q⟩:=u.slot b o e n h1 h2;exact ⟨sl,(hs.2 b (nC b o e)).trans q⟩
 ·intro b o e h2;obtain ⟨o',q⟩:=u.there b o e h2;exact ⟨o',(hs.2 b (nC b o e)).trans q⟩
 ·intro b ob e;have hfree:H' C=none:=I2.free;refine (I2.hok b ob e).stay (fun c w' hc q=>(hs.2 c ?_).trans q) (fun _ q=>q) fun _ _ q=>q
  rintro rfl;rcases hc with rfl | hc
  ·rw [hfree] at e; cases e
  ·rw [hfree] at hc; cases hc
 ·obtain ⟨_,f1,_,f3,f4,f5⟩:=hf b hb;exact ⟨f3,f1,f4,f5⟩
end
end L2
namespace L2
open PySem PySem.Spec PySem.W PyProof.Rows
end L2
namespace L2
open PySem PySem.Spec PyProof.Rows
theorem Ge.caught {X:Cx} {scope:Scope} {cl:List (Str × Addr)} (clos:closureFor scope X.env=pure cl) (hkind:scope.kind=.function)
  (hnames:∀ y ∈ scope.names,y.2=.local->scope.names.lookup y.1=some .local) (hcl:∀ y ∈ cl,X.env.cells.lookup y.1=some y.2) (hap:cl.Pairwise fun x y=>x.2 ≠ y.2)
  (hfr:∀ y ∈ scope.names,y.2=.free->∃ c,(y.1,c) ∈ cl):Ge X scope cl:=by
 refine ⟨clos,hkind,hnames,fun x c h=>hcl _ h,hap,fun x h=>?_⟩;have key:∀ k,(relabel scope X.env).names.lookup x=some k->k=.cell\/k=.free->(x,NameKind.cell) ∈ scope.names\/∃ c,(x,c) ∈ cl:=by
  intro k e hk;have m:=Df e;obtain ⟨⟨n,k'⟩,hm,e'⟩:=ZZ.mp m;dsimp only at e';by_cases hf:k'=.free
  ·subst hf;have en:n=x:=by
    by_cases hc:(NameKind.free == NameKind.free && X.env.scope.kind == .function && X.env.kindOf n == some .cell)=true
    ·rw [if_pos hc] at e';injection e'
    ·rw [if_neg hc] at e';injection e'
   subst en;exact .inr (hfr _ hm rfl)
  ·have:(k' == NameKind.free)=false:=by
    cases k' <;> first | rfl | exact absurd rfl hf
   rw [this] at e';simp at e';obtain ⟨rfl,rfl⟩:=e';rcases hk with rfl | rfl
   ·exact .inl hm
   ·exact absurd rfl hf
 rcases h with h | h
 ·exact key _ h (.inl rfl)
 ·exact key _ h (.inr rfl)
theorem AS (K:ZV) {X:Cx} (h:X.K=K):Bp X (.builtin "len") (fun xs H Q=>∃ p vs,xs=[V.ref p]/\(AV K H p vs\/A2 K H p vs)/\Q (.int vs.length) H):=by subst h; exact CU
theorem BX (K:ZV) {X:Cx} {tg l:Expr} {tl:TE} (h:X.K=K) (hl:PE X l tl):PI X tg l (U4 K tl):=by subst h; exact NT hl
theorem B0 (K:ZV) {X:Cx} {tg l:Expr} {tl:TE} (h:X.K=K) (hl:PE X l tl):PI X tg l (iTup K tl):=by subst h; exact MH hl
def GtAt (A:Around) (s:Shared) (x y:Value) (b:Bool):Prop:=∀ (prog:Program) (w:World) (E Q:Value->Shared->Prop),Q (.bool b) s->wpAny (model prog w) A (richCompare .Gt x y) Q E s
def KO (h:Heap) (v:Value) (ss:List Str):Prop:=∃ a us,v=.ref a/\IsTup h a us.toArray/\A3 (ss.map V.str) us
def Nt (h:Heap) (v:Value) (k:Int × List Str):Prop:=∃ a l t,v=.ref a/\IsTup h a #[.int k.1 t,.ref l]/\KO h (.ref l) k.2
def Cr (k:Int × List Str):List C3:=.i k.1 :: k.2.map C3.s
theorem KO.keep {h h':Heap} {v:Value} {p:List Str} (x:KO h v p) (k:∀ b o,h.get? b=some o->h'.get? b=some o):KO h' v p:=by
 obtain ⟨a,us,rfl,⟨o,ho,r⟩,z⟩:=x;exact ⟨a,us,rfl,⟨o,k _ _ ho,r⟩,z⟩
theorem Nt.keep {h h':Heap} {v:Value} {p:Int × List Str} (x:Nt h v p) (k:∀ b o,h.get? b=some o->h'.get? b=some o):Nt h' v p:=by
 obtain ⟨a,l,t,rfl,⟨o,ho,r⟩,z⟩:=x;exact ⟨a,l,t,rfl,⟨o,k _ _ ho,r⟩,z.keep k⟩
theorem R5 {p q:Int × List Str} (h:Cr p=Cr q):p=q:=by
 unfold Cr at h;injection h with h1 h2;injection h1 with h1;have:p.2=q.2:=by
  have inj:∀ {xs ys:List Str},xs.map C3.s=ys.map C3.s->xs=ys:=by
   intro xs;induction xs with
   | nil=>intro ys e; cases ys with | nil=>rfl | cons y ys=>cases e
   | cons x xs ih=>
    intro ys e;cases ys with
    | nil=>cases e
    | cons y ys=>
     rw [au,au] at e;injection e with e1 e2;injection e1 with e1;rw [e1,ih e2]
  exact inj h2
 exact Prod.ext h1 this
theorem Jv {us vs:List Value} {xs:List Str} (r1:A3 (xs.map V.str) us) (j:Nat) (hj:j < us.length):∃ t x,xs[j]? = some x/\us[j]=.str x t:=by
 have l1:=r1.length;rw [ZR] at l1;have e:(xs.map V.str)[j]? = some (V.str (xs[j]'(by lia))):=by rw [ai,ZS (by lia)]; rfl
 obtain ⟨u,e1,r⟩:=r1.get e;obtain ⟨t,rfl⟩:=r;rw [ZS hj] at e1;exact ⟨t,_,ZS (by lia),aI.inj e1⟩
theorem Oy {us:List Value}:∀ {xs ys:List Str},A3 (xs.map V.str) us->A3 (ys.map V.str) us->xs=ys:=by
 induction us with
 | nil=>
  intro xs ys r1 r2;cases xs with
  | nil=>cases ys with | nil=>rfl | cons _ _=>cases r2
  | cons _ _=>cases r1
 | cons u us ih=>
  intro xs ys r1 r2;cases xs with
  | nil=>cases r1
  | cons x xs=>
   cases ys with
   | nil=>cases r2
   | cons y ys=>
    cases r1 with
    | cons a1 b1=>
     cases r2 with
     | cons a2 b2=>
      obtain ⟨t,e⟩:=a1;obtain ⟨t',e'⟩:=a2;rw [e] at e';cases e'
      rw [ih b1 b2]
theorem T5 {A:Around} {s:Shared} {v w:Value} {xs ys:List Str} (hv:KO s.heap v xs) (hw:KO s.heap w ys) (hu:A.units < cLine):SeqAt.EqAt A s v w (decide (xs=ys)):=by
 obtain ⟨a,us,rfl,ha,r1⟩:=hv;obtain ⟨b,vs,rfl,hb,r2⟩:=hw;by_cases hab:a=b
 ·subst hab;have e:xs=ys:=by
   obtain ⟨o,ho,hc,n,hd⟩:=ha;obtain ⟨o',K9,Mv,n',Gw⟩:=hb;rw [ho] at K9;cases K9
   rw [hd] at Gw;injection Gw with e1 e2;have e3:=congrArg eI e1;simp only at e3;subst e3;exact Oy r1 r2
  rw [decide_eq_true e];intro prog w E Q h;unfold eqBool;refine wpAny_holding ?_;exact wpAny_ite_split (fun _=>wpAny_bind (wpAny_rule (wpAny_pure h))) (fun hn=>absurd (by simp) hn)
 ·have l1:=r1.length;have l2:=r2.length;rw [ZR] at l1 l2;have key:=SeqAt.RcAt.tuples (A:=A) (s:=s) (e:=fun j=>xs[j]? == ys[j]?) (show s.heap.IsTuple a us.toArray from ha) (show s.heap.IsTuple b vs.toArray from hb) hu (fun j h1 h2=>by
   obtain ⟨t,x,e1,e2⟩:=Jv (vs:=us) r1 j (by simpa using h1);obtain ⟨t',y,e3,e4⟩:=Jv (vs:=vs) r2 j (by simpa using h2);rw [gr,gr,e2,e4,e1,e3];have:=SeqAt.EqAt.str_str x t y t' (A:=A.in1) (s:=s);exact this)
  have e:((cJ (min us.toArray.size vs.toArray.size)).all (fun j=>xs[j]? == ys[j]?) && us.toArray.size == vs.toArray.size)=decide (xs=ys):=by
   rw [bV,b9,cZ,decide_eq_true_iff];simp only [fc,aB,beq_iff_eq];constructor
   ·rintro ⟨h1,h2⟩;refine g8 fun j=>?_
    by_cases hj:j < us.length
    ·exact h1 j (by lia)
    ·rw [gb (by lia),gb (by lia)]
   ·rintro rfl;exact ⟨fun j _=>rfl,by lia⟩
  rw [e] at key;exact SeqAt.EqAt.of_refs hab key
def CmpsG (A:Around) (s:Shared) (z:Bool):List (Value × Value)->Bool->Prop
 | [],r=>r=z
 | p :: Br,r=>∃ e,SeqAt.EqAt A s p.1 p.2 e/\(e=false->GtAt A s p.1 p.2 r)/\(e=true->CmpsG A s z Br r)
section
open PySem.SeqAt
open PySem.AutoSeq1 (wpAny_loadPart')
open PySem.MeetsSeq PySem.MeetsSeq2 PySem.MeetsSeq3
end
def JW (A:Around) (s:Shared) (z:Bool):List (Value × Value)->Bool->Prop
 | [],r=>r=z
 | p :: Br,r=>∃ e,SeqAt.EqAt A s p.1 p.2 e/\(e=false->C2 A s p.1 p.2 r)/\(e=true->JW A s z Br r)
section
open PySem.SeqAt
open PySem.AutoSeq1 (wpAny_loadPart')
open PySem.MeetsSeq PySem.MeetsSeq2 PySem.MeetsSeq3
theorem O2 (l b:Addr) (xs ys:Array Value) (n n2:Nat) (dd Mw:Option Addr) (sl PV:Array (Option Value)) (r:Bool) :
  Meets (Builtin.«tuple.__lt__» ⟨[.ref l,.ref b],[]⟩)
   (fun A R s=>s.heap.get? l=some { cls:=.type "tuple",dict:=dd,data:=.seq xs n,slots:=sl }/\s.heap.get? b=some { cls:=.type "tuple",dict:=Mw,data:=.seq ys n2,slots:=PV } /\
    JW A.in1 s (decide (xs.size < ys.size)) (xs.toList.zip ys.toList) r/\R (.ok (.ret (.bool r))) s):=
 .of_wp fun prog w A R s h=>by
  obtain ⟨hp,g,d,tk,os⟩:=s; obtain ⟨hl,hb,hc,h⟩:=h;have f2:=AutoSeq1.sub_tuple_tuple;wp_walk using wpAny_loadPart' hl,wpAny_loadPart' hb,wpAny_forIn_list _ (fun Br b s'=>b.1=none/\s'=⟨hp,g,d,tk,os⟩/\JW A.in1 ⟨hp,g,d,tk,os⟩ (decide (xs.size < ys.size)) Br r) _
  case turn=>
   rintro ⟨y,x⟩ Br b s' ⟨IC,rfl,e,he,h1,h2⟩;refine wpAny_bind (he prog w _ _ ?_);cases ee:e with
   | true=>
    wp_walk
    exact ⟨rfl,rfl,h2 ee⟩
   | false=>
    have hri:=h1 ee prog w;wp_walk using hri;exact ⟨_,rfl,by simpa using h⟩
  case fin=>
   rintro ⟨b1',b2'⟩ s' ⟨IC,rfl,hz⟩;have U5:r=decide (xs.size < ys.size):=hz;simp only at IC;subst IC U5;wp_walk;exact ⟨_,rfl,by simpa [Builtin.Tuple.tupleCompareSizes] using h⟩
  case h=>
   exact ⟨rfl,rfl,hc⟩
end
theorem C2.tupN {A:Around} {s:Shared} {l b:Addr} {xs ys:Array Value} {r:Bool} (hl:IsTup s.heap l xs) (hb:IsTup s.heap b ys) (hu:A.units < cLine) (hc:JW A.in1 s (decide (xs.size < ys.size)) (xs.toList.zip ys.toList) r):C2 A s (.ref l) (.ref b) r:=fun prog w E Q h=>by
 obtain ⟨⟨cls,dd,data,sl⟩,ho,Mv,n,hd⟩:=id hl;obtain ⟨⟨VY,Mw,data2,PV⟩,Nd,KC,n2,hd2⟩:=id hb;simp only at Mv hd KC hd2;subst Mv hd KC hd2;exact richCompare_meets_room (op:=.Lt) ⟨_,ho,rfl⟩ ⟨_,Nd,rfl⟩ PySem.F.slot_tuple_lt PySem.F.entry_tuple_lt (PySem.F.args_tuple_lt_2 _ _) (O2 l b xs ys n n2 dd Mw sl PV r)
  ⟨ho,Nd,hc,show Value.bool _ ≠ Value.notImplemented/\Q (.bool _) s from ⟨(fun x=>nomatch x),h⟩⟩ hu
theorem IM {A:Around} {s:Shared}:∀ (xs ys:List Str) {us vs:List Value},A3 (xs.map V.str) us->A3 (ys.map V.str) vs->JW A s (decide (xs.length < ys.length)) (us.zip vs) (AN (xs.map C3.s) (ys.map C3.s))
 | [],[],_,_,r1,r2=>by cases r1; cases r2; rfl
 | [],y :: ys,_,_,r1,r2=>by cases r1; cases r2; rfl
 | x :: xs,[],_,_,r1,r2=>by cases r1; cases r2; rfl
 | x :: xs,y :: ys,_,_,r1,r2=>by
  cases r1 with
  | cons a1 b1=>
   cases r2 with
   | cons a2 b2=>
    obtain ⟨t,rfl⟩:=a1;obtain ⟨t',rfl⟩:=a2;refine ⟨x == y,SeqAt.EqAt.str_str _ _ _ _,fun e=>?_,fun e=>?_⟩
    ·have e:¬ x=y:=by simpa using e
     have:=C2.str A s x t y t';rw [au,au];unfold AN;rw [if_neg (by intro z; injection z with z; exact e z)];exact this
    ·have e:x=y:=by simpa using e
     rw [au,au];unfold AN;rw [if_pos (by rw [e])];have:=IM xs ys b1 b2 (A:=A) (s:=s);rw [aK,aK];simp only [Nat.add_lt_add_iff_right];exact this
theorem Te {A:Around} {s:Shared} {v w:Value} {xs ys:List Str} (hv:KO s.heap v xs) (hw:KO s.heap w ys) (hu:A.units < cLine):C2 A s v w (AN (xs.map C3.s) (ys.map C3.s)):=by
 obtain ⟨a,us,rfl,ha,r1⟩:=hv;obtain ⟨b,vs,rfl,hb,r2⟩:=hw;refine C2.tupN ha hb hu ?_;have l1:=r1.length;have l2:=r2.length;rw [ZR] at l1 l2;have:=IM (A:=A.in1) (s:=s) xs ys r1 r2;rw [l1,l2] at this;simpa using this
theorem lt_kn {A:Around} {s:Shared} {v w:Value} {p q:Int × List Str} (hv:Nt s.heap v p) (hw:Nt s.heap w q) (hu:A.units + 1 < cLine):C2 A s v w (AN (Cr p) (Cr q)):=by
 obtain ⟨a,l,t,rfl,ha,h1⟩:=hv;obtain ⟨b,l',t',rfl,hb,h2⟩:=hw;refine C2.tupN ha hb (by lia) ?_;show JW A.in1 s _ [(.int p.1 t,.int q.1 t'),(.ref l,.ref l')] _
 refine ⟨p.1 == q.1,SeqAt.EqAt.int_int _ _ _ _,fun e=>?_,fun e=>⟨decide (p.2=q.2),T5 h1 h2 (by rw [PySem.Around.in1_units]; exact hu),fun e2=>?_,fun e2=>?_⟩⟩
 ·have e:¬ p.1=q.1:=by simpa using e
  have:=C2.int A.in1 s p.1 t q.1 t';unfold Cr;unfold AN;rw [if_neg (by intro z; injection z with z; exact e (by first | exact z | exact z.symm))];exact this
 ·have e:p.1=q.1:=by simpa using e
  have:=Te (A:=A.in1) (s:=s) h1 h2 (by rw [PySem.Around.in1_units]; exact hu);unfold Cr;unfold AN;rw [if_pos (by rw [e])];exact this
 ·have e:p.1=q.1:=by simpa using e
  have e2:p.2=q.2:=of_decide_eq_true e2;show AN (Cr p) (Cr q)=_
  unfold Cr;rw [e,e2,FK];rfl
section
variable {prog:Program} {w:World} {A:Around} {R:Result->Shared->Prop} {I:Addr} {fp wr:List Addr} {n:Nat} {P:Nat->Value->Prop} {St:Nat->Heap->Prop} {g0:Heap}
end
section
variable {prog:Program} {w:World} {A:Around} {E:Value->Shared->Prop} {s:Shared}
end
def Ox (H:Hp) (v:V) (k:Int × List Str):Prop:=∃ t l,v=.ref t/\H t=some (.tup [.int k.1,.ref l])/\H l=some (.tup (k.2.map V.str))
theorem Ox.same {H H':Hp} {v:V} {p:Int × List Str} (h:Ox H v p) (s:∀ b xs,H b=some (.tup xs)->H' b=some (.tup xs)):Ox H' v p:=let ⟨t,l,e,z,q⟩:=h; ⟨t,l,e,s _ _ z,s _ _ q⟩
theorem tx_at {X:Cx} {pins:List (Addr × Obj)} {σ:St} {H:Hp} {s:Shared} {l:Addr} {ss:List Str} (I:Au X pins σ H s) (h:H l=some (.tup (ss.map V.str))):KO s.heap (.ref l) ss:=by
 obtain ⟨Az,rv,pl,hz⟩:=I.tuple (A2.of h);exact ⟨l,Az,rfl,pl,rv⟩
theorem Ox.at {X:Cx} {pins:List (Addr × Obj)} {σ:St} {H:Hp} {s:Shared} {v:V} {u:Value} {k:Int × List Str} (I:Au X pins σ H s) (r:AF v u) (h:Ox H v k):Nt s.heap u k:=by
 obtain ⟨t,l,rfl,ht,hp⟩:=h;cases r
 obtain ⟨Az,rv,pl,hz⟩:=I.tuple (A2.of ht);cases rv with
 | cons a1 b1=>
  cases b1 with
  | cons a2 b2=>
   cases b2
   cases a2
   obtain ⟨t2,rfl⟩:=a1;exact ⟨t,l,t2,rfl,pl,tx_at I hp⟩
theorem He (bt:Nat->Nat->Bool) (f:Nat->List C3) (h1:∀ i j,bt i j=AN (f i) (f j)):∀ k,argBest bt k<=k/\∀ j,j<=k->AN (f j) (f (argBest bt k))=false
 | 0=>⟨ZX _,fun j hj=>by
  have:j=0:=by lia
  subst this; exact FK _⟩
 | k + 1=>by
  obtain ⟨a1,a2⟩:=He bt f h1 k;simp only [argBest];cases hc:bt (k + 1) (argBest bt k) with
  | true=>
   simp only [if_true];refine ⟨ZX _,fun j hj=>?_⟩;by_cases JF:j<=k
   ·have a3:=a2 j JF;rw [h1] at hc;cases e:AN (f j) (f (k + 1)) with
    | false=>rfl
    | true=>rw [HE _ _ _ e hc] at a3; cases a3
   ·have:j=k + 1:=by lia
    subst this; exact FK _
  | false=>
   simp only [aq,if_false];refine ⟨cQ a1,fun j hj=>?_⟩;by_cases JF:j<=k
   ·exact a2 j JF
   ·have:j=k + 1:=by lia
    subst this; rw [<-h1]; exact hc
section
variable {X:Cx} {pins:List (Addr × Obj)} {σ:St} {H:Hp} {s:Shared}
theorem Tp (I:Au X pins σ H s) {vs:List V} {Az:List Value} {ks:List (Int × List Str)} (rv:A3 vs Az) (hl:vs.length=ks.length) (hk:∀ (i:Nat) v k,vs[i]? = some v->ks[i]? = some k->Ox H v k) :
  ∀ (i:Nat) (v:Value),Az[i]? = some v->∃ k,ks[i]? = some k/\Nt s.heap v k/\∃ x,vs[i]? = some x/\AF x v:=fun i v e=>by
 have il:Az.length=ks.length:=by rw [<-rv.length,hl]
 have hi:i < Az.length:=(ag.mp e).1;have e1:vs[i]? = some vs[i]:=ZS (by lia);have e2:ks[i]? = some ks[i]:=ZS (by lia);obtain ⟨v',e3,r3⟩:=rv.get e1;rw [e] at e3;cases e3
 exact ⟨_,e2,(hk i _ _ e1 e2).at I r3,_,e1,r3⟩
end
theorem Ml {X:Cx} (hc:X.calm=true) (hu:X.A.units + 64 < cLine):Bp X (.builtin "min") (fun xs H Q=>∃ (a:Addr) (vs:List V) (ks:List (Int × List Str)),xs=[.ref a]/\H a=some (.lst vs)/\vs.length=ks.length/\ks ≠ []/\(∀ (i:Nat) v k,vs[i]? = some v->ks[i]? = some k->Ox H v k) /\
  ∀ v k,k ∈ ks->Ox H v k->(∀ k' ∈ ks,AN (Cr k') (Cr k)=false)->Q v H):=by
 intro pins s σ H xs us Q I r h;obtain ⟨a,vs,ks,rfl,ha,hl,hne,hk,q⟩:=h;obtain ⟨u,rfl,ru⟩:=Cd r;cases ru
 obtain ⟨Az,rv,pl,hz⟩:=I.list (AV.of ha);have il:Az.length=ks.length:=by rw [<-rv.length,hl]
 have pos:0 < ks.length:=bN.mpr hne;have kat:=Tp I rv hl hk;refine Gr (bt:=fun i j=>AN (Cr (ks.getD i (0,[]))) (Cr (ks.getD j (0,[])))) (I.ok.hd hc) pl.isList (by lia) (fun i j vi vj s' Q' E' g hi hj hQ=>?_) fun v h2 tk hv k2=>?_
 ·obtain ⟨ki,e1,a1,_⟩:=kat i vi hi;obtain ⟨kj,e2,a2,_⟩:=kat j vj hj;have d1:ks.getD i (0,[])=ki:=by rw [aj,e1]; rfl
  have d2:ks.getD j (0,[])=kj:=by rw [aj,e2]; rfl
  dsimp only at hQ;rw [d1,d2] at hQ;exact lt_kn (a1.keep g) (a2.keep g) (by rw [PySem.Around.in1_units]; lia) _ _ _ _ hQ
 ·obtain ⟨k,e1,a1,x,e3,r3⟩:=kat _ v hv;obtain ⟨b1,b2⟩:=He (fun i j=>AN (Cr (ks.getD i (0,[]))) (Cr (ks.getD j (0,[])))) (fun i=>Cr (ks.getD i (0,[]))) (fun _ _=>rfl) (Az.length - 1);refine ⟨x,H,I.kept k2,r3,q x k (ZW e1) (hk _ x k e3 e1) fun k' Ng=>?_⟩;obtain ⟨j,hj,ej⟩:=aF Ng;have:=b2 j (by lia);have d1:ks.getD (argBest (fun i j=>AN (Cr (ks.getD i (0,[]))) (Cr (ks.getD j (0,[])))) (Az.length - 1)) (0,[])=k:=by rw [aj,e1]; rfl
  have d2:ks.getD j (0,[])=k':=by rw [aj,ZS hj,ej]; rfl
  rw [d1,d2] at this;exact this
theorem Ig (K:ZV) {X:Cx} (h:X.K=K):F1 X (binaryOp .Add) (Ux K):=by subst h; exact SV
inductive Cu (H:Hp):List V->List (List Str)->Prop
 | nil:Cu H [] []
 | cons {t:Addr} {us:List V} {f:List Str} {fs:List (List Str)}:H t=some (.tup (f.map V.str))->Cu H us fs->Cu H (.ref t :: us) (f :: fs)
theorem Cu.len {H:Hp} {us:List V} {fs:List (List Str)} (h:Cu H us fs):us.length=fs.length:=by
 induction h with
 | nil=>rfl
 | cons _ _ ih=>rw [aK,aK,ih]
theorem Cu.keep {H H':Hp} {us:List V} {fs:List (List Str)} (h:Cu H us fs) (s:∀ b xs,H b=some (.tup xs)->H' b=some (.tup xs)):Cu H' us fs:=by
 induction h with
 | nil=>exact .nil
 | cons a _ ih=>exact .cons (s _ _ a) ih
theorem Cu.app {H:Hp} {us vs:List V} {fs gs:List (List Str)} (h:Cu H us fs) (h':Cu H vs gs):Cu H (us ++ vs) (fs ++ gs):=by
 induction h with
 | nil=>exact h'
 | cons a _ ih=>exact .cons a ih
theorem Cu.get {H:Hp} {us:List V} {fs:List (List Str)} (h:Cu H us fs):∀ {i:Nat} {u:V},us[i]? = some u->∃ t f,u=.ref t/\fs[i]? = some f/\H t=some (.tup (f.map V.str)):=by
 induction h with
 | nil=>intro i u e; simp at e
 | cons a _ ih=>
  intro i u e;cases i with
  | zero=>simp at e; subst e; exact ⟨_,_,rfl,rfl,a⟩
  | succ i=>exact ih (by simpa using e)
theorem Cu.mem {H:Hp} {us:List V} {fs:List (List Str)} (h:Cu H us fs) {u:V} (hu:u ∈ us):∃ t f,u=.ref t/\f ∈ fs/\H t=some (.tup (f.map V.str)):=by
 obtain ⟨i,hi⟩:=bY hu;obtain ⟨t,f,e,ef,ht⟩:=h.get hi;exact ⟨t,f,e,ZW ef,ht⟩
theorem Cu.perm {H:Hp} {us Um:List V} (p:Um.Perm us):∀ {fs:List (List Str)},Cu H us fs->∃ Wu,Wu.Perm fs/\Cu H Um Wu:=by
 induction p with
 | nil=>intro fs h; cases h; exact ⟨[],.refl _,.nil⟩
 | cons x p ih=>
  intro fs h;cases h with
  | cons a b=>
   obtain ⟨Wu,p',t'⟩:=ih b;exact ⟨_ :: Wu,p'.cons _,.cons a t'⟩
 | swap x y l=>
  intro fs h;cases h with
  | cons a b=>
   cases b with
   | cons c d=>exact ⟨_ :: _ :: _,.swap _ _ _,.cons c (.cons a d)⟩
 | trans p1 p2 V1 V0=>
  intro fs h;obtain ⟨f1,q1,t1⟩:=V0 h;obtain ⟨f2,q2,t2⟩:=V1 t1;exact ⟨f2,q2.trans q1,t2⟩
theorem Cu.kinds {H:Hp} {us:List V} {fs:List (List Str)} (h:Cu H us fs) (ne:∀ f ∈ fs,f ≠ []):∀ v ∈ us,IX H (fun _=>true) v:=by
 intro v hv;obtain ⟨t,f,rfl,hf,ht⟩:=h.mem hv;refine ⟨t,_,rfl,ht,by simpa using ne f hf,fun i y e=>?_⟩;rw [ai] at e;cases z:f[i]? with
 | none=>rw [z] at e; cases e
 | some x=>rw [z] at e; exact ⟨x,(aI.inj e).symm⟩
def Rz:V->Nat->Bool
 | .int i,k=>decide ((k:Int)<=i)
 | _,_=>true
def Mq (sites:List Str) (x:V) (os:List (List Str)):Prop:=
 os.Nodup/\True/\∀ ss,ss ∈ os ↔ ss ≠ []/\ss.Sublist sites/\Rz x ss.length=true
theorem Mq.ne {sites:List Str} {x:V} {d:PyData} {os:List (List Str)} (h:Mq sites x os) (hs:sites ≠ []) (l:Lim x d):os ≠ []:=by
 cases sites with
 | nil=>exact absurd rfl hs
 | cons s sites=>
  have:[s] ∈ os:=(h.2.2 [s]).mpr ⟨by simp,(dM _).cons₂ s,by
   rcases l with ⟨rfl,_⟩ | ⟨i,rfl,_,h1,_⟩
   ·rfl
   ·exact decide_eq_true (by simpa using h1)⟩
  intro z;rw [z] at this;cases this
theorem Mq.opn {sites:List Str} {x:V} {os:List (List Str)} (h:Mq sites x os) (nd:sites.Nodup) {ss:List Str} (hs:ss ∈ os):KP sites ss:=by
 obtain ⟨h1,h2,_⟩:=(h.2.2 ss).mp hs;exact ⟨h1,h2.nodup nd,fun s hs=>h2.subset hs⟩
def Sd (H:Hp) (c:Addr) (sites:List Str) (x:V) (d:PyData):Prop:=
 ∃ (m t2:V) (t1:Addr) (Cv:List V) (Am:List Be),H c=some (.tup [m,.ref t1,t2,x])/\H t1=some (.tup Cv)/\AM H Cv (Am.map BK)/\Am.map (·.1)=sites/\sites.Nodup/\sites.length<=10/\Lim x d
theorem Bv.sites {H:Hp} {c m:Addr} {n:Nat} {xs:List Str} {ws:List AI} {Am Ap:List Be} {x:V} {d:PyData} (h:Bv H c m n xs ws Am Ap x d):Sd H c (Am.map (·.1)) x d:=by
 obtain ⟨t1,t2,Cv,F3,a,b,e,f,g⟩:=h.ex;exact ⟨_,_,t1,Cv,Am,a,b,e,rfl,h.ok1.nd,by rw [ZR]; exact h.l1,h.lim⟩
theorem TV {c:Bool} {tb:TE} {σ:St} {Q:VK} {H:Hp} (hA:(∀ b,Q (.bl b) H)->tb σ H Q) (h:∀ b,Q (.bl b) H):if c=true then tb σ H Q else Q (.bl false) H:=by
 split
 ·exact hA h
 ·exact h false
theorem Ra {X:Cx} (fn:Str->Bool) {ix:Nat} {x:Str} {px spos:Pos} {tg iter elt:Expr} {ifs:List Expr} {scope:Scope} {cl:List (Str × Addr)} {N:List Str} {pos:Pos} {wi:TI} {g:TG} {tt:TT} {te:TE} {σ0:St->St} (hN:X.N.Nodup) (hix:X.N[ix]? = some x) (hlx:UN X.env.scope x) (hc:X.calm=true) (co:Ge X scope cl) (hfn:∀ x,fn x=true->(x,NameKind.cell) ∈ scope.names)
  (hσ:∀ σ,σ.length=X.N.length->Ba X cl scope N σ (σ0 σ)) (hK:∀ (σ:St) (i:Nat) (x:Str) (v:V),N[i]? = some x->(σ0 σ)[i]? = some (some v)->(x,NameKind.cell) ∉ scope.names) (hi:PI X tg iter wi)
  (hb:∀ s2 H C fp,PG (BJ X scope (cellsFrom (C + 1) scope.names cl) N s2 H C fp fn) tg g/\Ub (BJ X scope (cellsFrom (C + 1) scope.names cl) N s2 H C fp fn) ifs tt/\PE (BJ X scope (cellsFrom (C + 1) scope.names cl) N s2 H C fp fn) elt te)
  (hsw:swapsWith (.ListComp elt [⟨tg,iter,ifs,0⟩] scope pos) (some (.Name x px)) spos.line X.env=pure true:=by rfl)
  (hs:∀ x,foldedSetIterable iter X.env x=pure x:=by intro _; rfl) (hf:X.fn x=true\/X.env.scope.names.lookup x=some .local:=by first | exact .inl rfl | exact .inr rfl | assumption) :
  PS X (.Assign [.Name x px] (.ListComp elt [⟨tg,iter,ifs,0⟩] scope pos) spos) (Qt (N2 wi g tt te σ0) (Hc ix)):=by
 intro pins s σ H DD I h;rw [exec_Assign_Name_used _ _ _ _ hsw];refine wpAny_bind (wpAny_standAt (wpAny_bind ?_));show wpAny _ X.A (do let _ <- comprehension (.ListComp elt [⟨tg,iter,ifs,0⟩] scope pos) scope X.env _ (newList []) false (eval iter X.env) (some (assign (.Name x px) X.env))) _ _ s
 refine wpAny_bind (wpAny_mono (wpAny_comprehension_free (use:=some (assign (.Name x px) X.env)) (Q:=fun _ s'=>SP X pins DD .next s') rfl hs co.clos co.kind co.names
  (wpAny_mono (hi (pins:=pins) s σ H _ I h) (fun xv s1 h1=>wpAny_mono h1 (fun itv s2 h2=>?_) fun _ _ e=>e) fun _ _ e=>e)) (fun _ s' hq=>wpAny_pure (wpAny_pure hq)) fun _ _ e=>e)
 obtain ⟨it,fp,tn,J,H2,rfl,I2,T,G5,f2,hW⟩:=h2;refine wpAny_newObj_type (Jg ?_);dsimp only;generalize RG:s2.heap.push { cls:=.type "list",dict:=none,data:=.seq ([]:List Value).toArray } = HH;have Dh:HH.objs.size=s2.heap.objs.size + 1:=by rw [<-RG,bx]
 obtain ⟨h₁,LY⟩:∃ h₁,h₁=pushCells (HH.push { cls:=.type "dict",data:=.dict #[] }) scope.names:=⟨_,rfl⟩
 rw [<-LY];have Ek:h₁.Ns HH.objs.size (fun _=>cY):=by
  rw [LY];exact (Heap.Ns.new HH (.type "dict")).keeps (pushCells_keeps _ _)
 have old:∀ b o,s2.heap.get? b=some o->h₁.get? b=some o:=fun b o e=>by
  rw [LY];exact pushCells_keeps _ _ _ _ (ZT _ (RG ▸ ZT _ e))
 have newD:∃ n,h₁.get? s2.heap.objs.size=some { cls:=.type "list",data:=.seq ([]:List Value).toArray n }:=by
  refine ⟨0,?_⟩;rw [LY];exact pushCells_keeps _ _ _ _ (ZT _ (RG ▸ ah _ rfl))
 obtain ⟨JP,ecl⟩:∃ JP,JP=cellsFrom (HH.objs.size + 1) scope.names cl:=⟨_,rfl⟩
 have clt:∀ x c,(x,c) ∈ cl->c < s2.heap.objs.size:=fun x c e=>by
  obtain ⟨v,q⟩:=I2.cell x c (co.sub x c e);exact q.lt
 have YR:∀ x c,(x,c) ∈ JP->(x,c) ∈ cl\/(HH.objs.size + 1<=c/\h₁.IsCell c cY):=fun x c hm=>by
  have hsz:(HH.push { cls:=.type "dict",data:=.dict #[] }).objs.size=HH.objs.size + 1:=bx ..;rw [ecl,<-hsz] at hm;have q:=G0 scope.names (HH.push { cls:=.type "dict",data:=.dict #[] }) cl (HH.objs.size + 1) (by rw [hsz]; exact ZX _) (fun y d hy=>.inl (ak (clt y d hy) (by rw [Dh]; lia))) x c hm;rw [LY];exact q
 have ap':JP.Pairwise fun x y=>x.2 ≠ y.2:=by
  rw [ecl];exact EF _ _ _ co.apart fun x c hm=>ak (clt x c hm) (by rw [Dh]; lia)
 have W4:∀ x c,JP.lookup x=some c->X.env.cells.lookup x=some c\/(s2.heap.objs.size<=c/\c ≠ s2.heap.objs.size/\c ≠ HH.objs.size/\h₁.IsCell c cY):=fun x c e=>by
  rcases YR x c (PySem.mem_of_lookup e) with q | ⟨q1,q2⟩
  ·exact .inl (co.sub x c q)
  ·exact .inr ⟨by rw [Dh] at q1; exact cN (ak (aN (aU _)) q1),bA (by rw [Dh] at q1; exact ak (aN (aU _)) q1),bA (ak (aU _) q1),q2⟩
 have YV:∀ x y c,JP.lookup x=some c->JP.lookup y=some c->x=y:=fun x y c e1 e2=>name_of_addr ap' (PySem.mem_of_lookup e1) (PySem.mem_of_lookup e2)
 have YE:∀ x c,fn x=true->JP.lookup x=some c->s2.heap.objs.size<=c:=fun x c h e=>by
  rw [ecl] at e;exact Gz s2.heap.objs.size scope.names (HH.objs.size + 1) cl x c (by rw [Dh]; lia) (.inl (hfn x h)) e
 have Zy:∀ x,((relabel scope X.env).names.lookup x=some .cell\/(relabel scope X.env).names.lookup x=some .free)->∃ c,JP.lookup x=some c:=fun x h=>by
  obtain ⟨c,hc⟩:=G1 scope.names (HH.objs.size + 1) cl x (co.has x h);rw [ecl];exact De hc
 have keepS:∀ (i:Nat) (x:Str) (v:V),N[i]? = some x->(σ0 σ)[i]? = some (some v)->∀ c,JP.lookup x=some c->X.env.cells.lookup x=some c:=fun i x v e1 e2 c e=>by
  rw [ecl] at e;have m2:=Fp scope.names (HH.objs.size + 1) cl x c (PySem.mem_of_lookup e) (hK σ i x v e1 e2);exact co.sub x c m2
 obtain ⟨W,⟨m0,w0⟩,turn⟩:=hW s2.heap.objs.size I2.fresh;have hfo:∀ b ∈ fp,∃ o,s2.heap.get? b=some o:=fun b hb=>let ⟨o,e,_⟩:=T.obj _ _ G5 b hb; ⟨o,e⟩
 have YY:∀ σ,σ.length=X.N.length->Ba X JP scope N σ (σ0 σ):=fun σ h=>hσ σ h
 have I3:Au (BJ X scope JP N s2 H2 HH.objs.size fp fn) [] (σ0 σ) (upd H2 s2.heap.objs.size (.lst [])) { s2 with heap:=h₁,toks:=s2.toks }:=
  Mh I2 f2 hfo co W4 YV YE Zy keepS (YY σ I.len) old (ZX _) (by rw [Dh]; exact aW _) (bA (by rw [Dh]; exact aU _)) (.inr newD) Ek
 have fC:s2.heap.objs.size<=HH.objs.size:=by rw [Dh]; exact aW _
 obtain ⟨hg,ht,he⟩:=hb s2 H2 HH.objs.size fp;rw [<-ecl] at hg ht he;have loop:∀ Dl:Shared,Dl = { s2 with heap:=h₁,toks:=s2.toks } ->
   codeAny (model X.prog X.w) X.A (.compLoop (.ListComp elt [⟨tg,iter,ifs,0⟩] scope pos) 0 (.ref it) (.ref s2.heap.objs.size) (compEnvC scope JP HH.objs.size X.env))
    (compPost (model X.prog X.w) X.A X.xe (some (assign (.Name x px) X.env)) (fun _ s'=>SP X pins DD .next s') (.ref s2.heap.objs.size) HH.objs.size) Dl:=by
  rintro Dl rfl;have stat:∀ {H':Hp} ,(∀ b ∈ fp,H' b=none)->∀ b ∈ fp,EG (BJ X scope JP N s2 H2 HH.objs.size fp fn) [] H' b:=fun hn b hb=>by
   refine ⟨hn b hb,?_,?_,.inl hb,?_,fun p hp=>by cases hp⟩
   ·obtain ⟨o,e⟩:=hfo b hb;exact ao (show b < HH.objs.size by rw [Dh]; exact aN (ae e))
   ·intro hz;obtain ⟨_,q1,q2,_⟩:=f2 b hb;rcases ZU.mp (I2.stkSub b hz) with e | e
    ·exact q1 e
    ·exact q2 e
   ·intro x c e;rcases W4 x c e with z | ⟨z,_⟩
    ·exact (f2 b hb).2.2.2.2.1 x c z
    ·obtain ⟨o,eo⟩:=hfo b hb;exact bA (ak (ae eo) z)
  refine CD (fun n s'=>∃ i A8 H',Au (BJ X scope JP N s2 H2 HH.objs.size fp fn) [] A8 H' s'/\tn i s'.heap/\(∀ b ∈ fp,H' b=none)/\W i n A8 H') ?_ m0
   ⟨0,σ0 σ,_,I3,T.keep _ _ _ G5 fun b hb o e=>old b o e,fun b hb=>?_,w0⟩
  ·rintro n s4 ⟨i,Hj,H4,I4,N4,UB,w4⟩;rcases turn i n Hj H4 w4 with ⟨stop,qn⟩ | ⟨go,step⟩
   ·refine wpAny_mono (T.done (BJ X scope JP N s2 H2 HH.objs.size fp fn) rfl rfl rfl hc i [] s4 Hj H4 (fun _ _=>False) I4 (stat UB) N4 stop) (fun r s5 ⟨hr,I5⟩=>?_) fun _ _ z=>z.elim
    subst hr;obtain ⟨m5,Nf,_⟩:=id I5.loc;have I6:Au X pins σ H4 s5:=PJ (h':=s5.heap) I2 f2 fC I5 (Heap.SameBut.refl _ _);have cC:∀ y c,X.env.cells.lookup y=some c->c ≠ HH.objs.size:=fun y c e=>by
     obtain ⟨v,q⟩:=I2.cell y c e;exact ao (ak q.lt fC)
    have lC:X.env.locals ≠ HH.objs.size:=ao (ak I2.lt fC);show wpAny _ X.A (assign (.Name x px) X.env (.ref s2.heap.objs.size)) _ X.xe s5
    refine wpAny_assign_Name (Gj I6 hN hix hlx (v:=.ref s2.heap.objs.size) rfl (fun s7 I7 ⟨a,sb,ha⟩=>?_) hf);have aC:a ≠ HH.objs.size:=by
     rcases ha with rfl | ha
     ·exact lC
     ·exact cC _ _ ha
    refine ⟨m5,Nf.sameBut sb (Ne.symm aC),fun h' Sk=>⟨_,H4,?_,qn⟩⟩;exact I7.turned (t':=s7.toks) (it:=HH.objs.size) (fun b o hb e=>(Sk.2 b hb).trans e) I5.free (Ne.symm lC) (.inr (aQ I2.sz fC)) cC fun p hp z=>by
     have e:=(I2.pin p hp).1;exact absurd (ak (ae e) fC) (by rw [z]; exact bp _)
   ·refine wpAny_mono (T.item (BJ X scope JP N s2 H2 HH.objs.size fp fn) rfl rfl rfl hc i [] s4 Hj H4 (fun _ _=>False) I4 (stat UB) N4 go) (fun r s5 ⟨u,hr,h5⟩=>?_) fun _ _ z=>z.elim
    subst hr;refine wpAny_mono h5 (fun _ s6 ⟨x,H6,I6,r6,y6,Qx,X0⟩=>?_) fun _ _ z=>z.elim
    have XU:=I6.pinned (stat X0) (T.obj _ _ Qx);refine wpAny_mono (hg s6 Hj H6 x u _ XU r6 (step x H6 y6)) (fun _ s7 ⟨Hi,H7,I7,q7⟩=>?_) fun _ _ z=>z.elim
    refine wpAny_mono (ht s7 Hi H7 _ I7 q7) (fun ok s8 ⟨H8,I8,q8⟩=>?_) fun _ _ z=>z.elim
    have again:∀ {s9:Shared} {Nw:St} {H9:Hp} ,Au (BJ X scope JP N s2 H2 HH.objs.size fp fn) ([] ++ Fl fp s6.heap) Nw H9 s9->(∃ m',m' < n/\W (i + 1) m' Nw H9)->∃ m,m < n/\∃ i A8 H',Au (BJ X scope JP N s2 H2 HH.objs.size fp fn) [] A8 H' s9/\tn i s9.heap/\(∀ b ∈ fp,H' b=none)/\W i m A8 H':=fun {s9 Nw H9} I9 n9=>by
     obtain ⟨m',hm,w9⟩:=n9;refine ⟨m',hm,i + 1,Nw,H9,I9.unpinned,T.keep _ _ _ Qx fun b hb o e=>(I9.pin (b,o) (aw _ (aw _ (BN hb e)))).1,fun b hb=>?_,w9⟩;obtain ⟨o,e,d⟩:=T.obj _ _ Qx b hb;exact (I9.pin (b,o) (aw _ (aw _ (BN hb e)))).2.1
    cases ok with
    | false=>
     rw [if_neg az] at q8 ⊢;exact again I8 q8
    | true=>
     rw [if_pos rfl] at q8 ⊢;refine wpAny_mono (he s8 Hi H8 _ I8 q8) (fun y s9 ⟨v,H9,I9,r9,acc,hacc,hsz,q9⟩=>?_) fun _ _ z=>z.elim
     refine wpAny_mono (CV (X:=BJ X scope JP N s2 H2 HH.objs.size fp fn) s9 Hi H9 (.ref s2.heap.objs.size) [v] (.ref s2.heap.objs.size) [y] (fun _ Mr=>∃ m',m' < n/\W (i + 1) m' Hi Mr) I9 rfl (.cons r9 .nil) ⟨_,acc,v,rfl,rfl,hacc,hsz,q9⟩) (fun _ NO ⟨_,Mr,XX,_,W9⟩=>?_) fun _ _ z=>z.elim
     exact again XX W9
  ·have z:=(f2 b hb).1;obtain ⟨o,e⟩:=hfo b hb;rw [Ae (ao (ae e))];exact z
 subst ecl;exact codeAny_compStart_list (loop _ rfl) (T.self _ 0 _ _ _ (T.keep _ _ _ G5 fun b hb o e=>old b o e) (loop _ rfl))
theorem Ic {α β:Type} {F G:α->β->Prop}:∀ {LP:List α} {LO:List β},Paired F LP LO->(∀ a b,F a b->G a b)->Paired G LP LO
 | _,_,.nil,_=>.nil
 | _,_,.cons r t,h=>.cons (h _ _ r) (Ic t h)
def Ug (H:Hp) (a:Addr) (kvs:List (List AK × V)) (o:Obj) (H':Hp):Prop:=H a=some (.dT kvs)/\H'=upd H a (.frz o (.dT kvs))
def Wg (a:Addr) (kvs:List (List AK × V)) (o:Obj) (ts:List Addr):It:=
 ⟨fun i H=>H a=some (.frz o (.dT kvs))/\i < ts.length,fun i H x H'=>H'=H/\∃ t,ts[i]? = some t/\x=.ref t,fun i H=>H a=some (.frz o (.dT kvs))/\ts.length<=i⟩
theorem QT {X:Cx} {pins:List (Addr × Obj)} {σ:St} {H:Hp} {s:Shared} {a:Addr} {o:Obj} {kvs:List (List AK × V)} {es:Array DictEntry} {ep:Nat} (I:Au X pins σ H s) (e:H a=some (.frz o (.dT kvs))) (he:o.data=.dict es ep):FZ s.heap a es ep:=by
 obtain ⟨ho,_,_,xs,rel,o',Tz,TC,h1,h2,h3,h4⟩:=(show AU X.prog X.w H s.heap a (.frz o (.dT kvs)) from I.hok a _ e)
 rw [ho] at h1;cases h1
 exact ⟨o,ho,h2,he⟩
theorem Sx {P:Program} {w:World} {K:ZV} {tg:Expr} (a it:Addr) {kvs:List (List AK × V)} {o:Obj} {es:Array DictEntry} {ep:Nat} {ts:List Addr} (he:o.data=.dict es ep) (hk:es.toList.map (·.key)=ts.map Value.ref) :
  PM P w K tg (Wg a kvs o ts) [it] it (fun i h=>h.IsKeyIter it a i es.size ep) where
 mem:=by simp
 obj:=fun i h st b hb=>by
  have e:b=it:=by simpa using hb
  subst e;obtain ⟨o,e,c,d⟩:=st;exact ⟨o,e,fun v z=>by rw [d] at z; cases z⟩
 keep:=fun i h h' st k=>st.at fun o e=>k it (by simp) o e
 item:=by
  intro X hP hw hK hc i pins s σ H E I hf st hg;subst hP hw hK;obtain ⟨hq,BE⟩:=hg;have rd:=QT I hq he;have ex:es[i]?.map (·.key)=some (.ref ts[i]):=by
   have e:=congrArg (fun l:List Value=>l[i]?) hk;rw [ai,ai,ZS BE,bh] at e;exact e
  obtain ⟨f0,f1,f2,f3,f4,f5⟩:=hf it (by simp);refine Lw st rd ex fun h' An sb=>?_
  have I1:Au X pins σ H { s with heap:=h' }:=I.turned (t':=s.toks) (fun b o hb e=>(sb.2 b hb).trans e) f0 f1 f3 f4 f5;obtain ⟨o',e,c,d⟩:=id An;exact ⟨_,rfl,LW (s:={ s with heap:=h' }) e c d (by decide) ⟨.ref ts[i],H,I1,rfl,⟨rfl,ts[i],ZS BE,rfl⟩,An,fun b hb=>(hf b hb).1⟩⟩
 done:=by
  intro X hP hw hK hc i pins s σ H E I hf st hg;subst hP hw hK;obtain ⟨hq,hle⟩:=hg;have rd:=QT I hq he;obtain ⟨f0,f1,f2,f3,f4,f5⟩:=hf it (by simp);have hl:es.size=ts.length:=by
   have e:=congrArg bH hk;rw [ZR,ZR,aE] at e;exact e
  exact NP (I.ok.hd hc) st rd (by lia) fun h' eb=>⟨rfl,I.turned (t':=s.toks) (fun b o hb e=>eb b o hb e) f0 f1 f3 f4 f5⟩
 self:=fun _ _ _ _ _ st h=>wpAny_pyIter_keyiter st h
def V2 (tl:TE):TI:=fun σ H R=>tl σ H fun x H1=>∃ a kvs,x=.ref a/\H1 a=some (.dT kvs)/\∀ o ts H2,Ug H1 a kvs o H2->ts.length=kvs.length->(∀ (i:Nat) t p,ts[i]? = some t->kvs[i]? = some p->H2 t=some (.tup (p.1.map kV)))->R (Wg a kvs o ts) H2
theorem pi_dT {X:Cx} {tg l:Expr} {tl:TE} (hl:PE X l tl):PI X tg l (V2 tl):=by
 intro pins s σ H R I h;refine BC (hl (pins:=pins) s σ H _ I h) fun v s1 ⟨x,H1,I1,r1,q1⟩=>?_
 obtain ⟨a,kvs,e,hr,q⟩:=q1;subst e;cases r1
 obtain ⟨z,y,xs,rel,o,es,ep,h1,h2,h3,h4,h5⟩:=(show AU X.prog X.w H1 s1.heap a (.dT kvs) from I1.hok a _ hr)
 have I2:Au X pins σ (upd H1 a (.frz o (.dT kvs))) s1:=by
  have tup:∀ b ys,H1 b=some (.tup ys)->b ≠ a:=fun b ys hb z=>by rw [z,hr] at hb; cases hb
  refine I1.write (x:=a) (e:=a) (h':=s1.heap) (t':=s1.toks) (by rw [hr]; exact True.intro) (.inl rfl) (fun b u _ q=>q) ⟨o,h1⟩ ⟨h1,z,y,xs,?_,o,es,ep,h1,h2,h3,h4,h5⟩;exact Ic rel fun p q ⟨e1,e2,e3⟩=>⟨e1,by rw [Ae (tup _ _ e2)]; exact e2,e3⟩
 have hk:es.toList.map (·.key)=(xs.map (·.2.1)).map Value.ref:=by rw [h4,aT,aT]; rfl
 have rd:FZ s1.heap a es ep:=⟨o,h1,h2,h3⟩
 refine Lv y rd ?_;refine ⟨s1.heap.objs.size,[s1.heap.objs.size],_,_,_,rfl,I2.kept (t':=s1.toks) fun b o e=>ZT _ e,Sx a _ h3 hk,⟨_,ah _ rfl,rfl,rfl⟩,fun b hb=>?_,q o (xs.map (·.2.1)) _ ⟨hr,rfl⟩ (by rw [ZR]; exact (Paired.length rel).symm) fun i t p e1 e2=>?_⟩
 ·have e:b=s1.heap.objs.size:=by simpa using hb
  subst e;exact I2.fpOk (ZX _) (I2.hok.fresh (ZX _))
 ·obtain ⟨qq,e3,_,e4,_⟩:=Paired.at rel e2;rw [ai,e3] at e1;cases e1
  show upd H1 a _ qq.2.1=_
  rw [Ae (fun z=>by rw [z,hr] at e4; cases e4)];exact e4
theorem SU {a:Addr} {kvs:List (List AK × V)} {o:Obj} {ts:List Addr}:PQ (Wg a kvs o ts) (ts.map V.ref) (fun H=>H a=some (.frz o (.dT kvs))):=
 ⟨fun i H q BE=>⟨q,by rwa [ZR] at BE⟩,fun i H x H' q ⟨e,t,et,ex⟩=>⟨e,by rw [ai,et,ex]; rfl⟩,fun H q=>⟨q,by rw [ZR]; exact ZX _⟩⟩
def QU (K:ZV):R2:=fun x y H Q=>∃ a b xs ys,x=.ref a/\y=.ref b/\A2 K H a xs/\A2 K H b ys/\xs.length + ys.length<=sizeLine /\
 (xs=[]->Q (.ref b) H)/\(xs ≠ []->ys=[]->Q (.ref a) H)/\(xs ≠ []->ys ≠ []->∀ p,H p=none->Q (.ref p) (upd H p (.tup (xs ++ ys))))
theorem FJ (K:ZV) {X:Cx} (hK:X.K=K):F1 X (binaryOp .Add) (QU K):=by
 subst hK;intro pins s σ H x y v u Q I rx ry h;obtain ⟨a,b,xs,ys,rfl,rfl,ha,hb,hz,q0,q1,q2⟩:=h;cases rx
 cases ry
 obtain ⟨Az,r1,p1,_⟩:=I.tuple ha;obtain ⟨Ph,r2,p2,_⟩:=I.tuple hb;by_cases hx:xs=[]
 ·obtain ⟨⟨cls,dd,data,sl⟩,ho,hc,n,hd⟩:=id p1;obtain ⟨⟨VY,Mw,data2,PV⟩,Nd,KC,n2,hd2⟩:=id p2;simp only at hc hd KC hd2;subst hc hd KC hd2;exact concat_meets ⟨_,ho,rfl⟩ ⟨_,Nd,rfl⟩ noFill_tuple_add seq_tuple_add PySem.F.slot_tuple_add PySem.F.entry_tuple_add (PySem.F.args_tuple_add_2 _ _)
   (tuple_addW0 a b Az.toArray Ph.toArray n n2 dd Mw sl PV (by simp [r1.nil_iff.mpr hx])) ⟨ho,Nd,⟨.ref b,H,I,rfl,q0 hx⟩⟩
 ·refine HT.cat_tup p1 p2 (fun z=>hx (r1.nil_iff.mp z)) (fun z=>⟨.ref a,H,I,rfl,q1 hx (r2.nil_iff.mp z)⟩) (fun z=>?_) (by rw [<-r1.length,<-r2.length]; exact hz);refine ⟨.ref s.heap.objs.size,_,I.laid (t':=s.toks) (o:=.tup (xs ++ ys)) (fun b ob q=>ZT _ q) (ZX _) ?_,rfl,q2 hx (fun w=>z (r2.nil_iff.mpr w)) _ (I.hok.fresh (ZX _))⟩;exact ⟨by rw [ZY]; exact hz,_,r1.append r2,IsTup.new _ _,Mp.new rfl rfl⟩
theorem Jq {X:Cx} (hc:X.calm=true):Bp X (.builtin "min") (fun xs H Q=>∃ (a:Addr) (ns:List Int),xs=[.ref a]/\H a=some (.lst (ns.map V.int))/\ns ≠ [] /\
  ∀ m,m ∈ ns->(∀ x ∈ ns,m<=x)->Q (.int m) H):=by
 intro pins s σ H xs us Q I r h;obtain ⟨a,ns,rfl,ha,hne,q⟩:=h;obtain ⟨u,rfl,ru⟩:=Cd r;cases ru
 obtain ⟨Az,rv,pl,hz⟩:=I.list (AV.of ha);have il:Az.length=ns.length:=by rw [<-rv.length,ZR]
 have pos:0 < ns.length:=bN.mpr hne;refine Gr (bt:=fun i j=>decide (ns.getD i 0 < ns.getD j 0)) (I.ok.hd hc) pl.isList (by lia) (fun i j vi vj s' Q' E' g hi hj hQ=>?_) fun v h2 tk hv k2=>?_
 ·obtain ⟨x,t,e1,rfl⟩:=Ei rv i vi hi;obtain ⟨y,u,e2,rfl⟩:=Ei rv j vj hj;dsimp only at hQ;rw [aj,aj,e1,e2] at hQ;exact C2.int _ _ _ _ _ _ _ _ _ _ hQ
 ·obtain ⟨x,t,e1,rfl⟩:=Ei rv _ v hv;obtain ⟨b1,b2⟩:=IS (fun i j=>decide (ns.getD i 0 < ns.getD j 0)) (fun i=>ns.getD i 0) (fun i j h=>by have:=of_decide_eq_true h; lia) (fun i j h=>by have:=of_decide_eq_false h; lia) (Az.length - 1);refine ⟨.int x,H,I.kept k2,⟨t,rfl⟩,q x (ZW e1) fun y hy=>?_⟩;obtain ⟨j,hj,rfl⟩:=aF hy;have:=b2 j (by lia);have e2:ns.getD j 0=ns[j]:=by simp [hj]
  have e3:ns.getD (argBest (fun i j=>decide (ns.getD i 0 < ns.getD j 0)) (Az.length - 1)) 0=x:=by
   rw [aj,e1]; rfl
  rw [e2,e3] at this;exact this
def Md (ws:List AI) (ss:List Str) (y:Str) (d:Int):Prop:=(∃ s ∈ ss,Bu ws s y d)/\∀ s ∈ ss,∀ m,Bu ws s y m->d<=m
theorem Md.uniq {ws:List AI} {ss:List Str} {y:Str} {d e:Int} (h:Md ws ss y d) (g:Md ws ss y e):d=e:=by
 obtain ⟨⟨s,hs,h1⟩,h2⟩:=h;obtain ⟨⟨t,ht,g1⟩,g2⟩:=g;have a:=h2 t ht _ g1;have b:=g2 s hs _ h1;lia
theorem IY.md {ws:List AI} {ss:List Str} {y:Str} {p:Int × Str} (h:IY ws ss y p):Md ws ss y p.1:=
 ⟨⟨p.2,h.1.1,h.1.2⟩,fun s hs m g=>by
  rcases h.2 s hs m g with z | ⟨z,_⟩
  ·exact du z
  ·have:p.1=m:=z;lia⟩
def IW (ws:List AI) (ss:List Str) (rs:List Be) (ds:List Int):Prop:=ds.length=rs.length/\∀ (i:Nat) r d,rs[i]? = some r->ds[i]? = some d->Md ws ss r.1 d
theorem IW.uniq {ws:List AI} {ss:List Str} {rs:List Be} {ds es:List Int} (h:IW ws ss rs ds) (g:IW ws ss rs es):ds=es:=by
 refine cj (by rw [h.1,g.1]) fun i i1 i2=>?_
 have hr:rs[i]? = some (rs[i]'(by rw [<-h.1]; exact i1)):=ZS _;exact (h.2 i _ _ hr (ZS i1)).uniq (g.2 i _ _ hr (ZS i2))
def Gq (rs:List Be) (ds:List Int):Int:=((rs.zip ds).map fun p=>p.1.2 * p.2).sum
def FY (ws:List AI) (Am Ap:List Be) (ss:List Str) (t:Int):Prop:=∃ ds,IW ws ss Ap ds/\t=(ss.map (A1 Am)).sum + Gq Ap ds
theorem FY.uniq {ws:List AI} {Am Ap:List Be} {ss:List Str} {t u:Int} (h:FY ws Am Ap ss t) (g:FY ws Am Ap ss u):t=u:=by
 obtain ⟨ds,a,rfl⟩:=h;obtain ⟨es,b,rfl⟩:=g;rw [a.uniq b]
theorem Fh.ways {ws:List AI} {ss:List Str} {rs gs:_} (h:Fh ws ss rs gs):IW ws ss rs (gs.map (·.2.2)):=by
 refine ⟨by rw [ZR]; exact h.1,fun i r d e1 e2=>?_⟩;rw [ai] at e2;cases z:gs[i]? with
 | none=>rw [z] at e2; cases e2
 | some g=>
  rw [z] at e2;cases e2
  exact (h.2 i r g e1 z).2.md
theorem My {ws:List AI} {ss:List Str} {rs gs:_} (h:Fh ws ss rs gs) (nd:(rs.map (·.1)).Nodup):Kb rs gs=Gq rs (gs.map (·.2.2)):=by
 unfold Kb Gq;congr 1;refine cj (by rw [ZR,ZR,dW,ZR,h.1,gc]) fun i i1 i2=>?_
 rw [ZR] at i1;have hr:rs[i]? = some (rs[i]'(by rw [<-h.1]; exact i1)):=ZS _;have hg:gs[i]? = some gs[i]:=ZS _;rw [bR,bR,gF,bR,(h.2 i _ _ hr hg).1,Bx nd (ZW hr)]
def Nr (sites:List Str) (x:V) (ss:List Str):Prop:=ss ≠ []/\ss.Sublist sites/\Rz x ss.length=true
def Nu (ws:List AI) (Am Ap:List Be) (x:V) (k:Int × List Str):Prop:=
 Nr (Am.map (·.1)) x k.2/\FY ws Am Ap k.2 k.1/\∀ ss t,Nr (Am.map (·.1)) x ss->FY ws Am Ap ss t->AN (Cr (t,ss)) (Cr k)=false
def RZ (H:Hp) (v:V) (xs:List Str) (ws:List AI) (s:Str):Prop:=∃ (B:Addr) (nb:List (Str × V)),v=.ref B/\H B=some (.dK (sK nb))/\nb.map (·.1)=xs/\∀ y u,(y,u) ∈ nb->∃ n,u=.int n/\Gg ws s y n
def HL:Sp:=fun vs H Q _=>∃ (c m:Addr) (n:Nat) (xs:List Str) (ws:List AI) (Am Ap:List Be) (x:V) (d:PyData),vs=[.ref c]/\Bv H c m n xs ws Am Ap x d /\
 ∀ (H':Hp) (D:Addr) (nv:List (Str × V)),AD H H'->H D=none->H' D=some (.dK (sK nv))->nv.map (·.1)=Am.map (·.1)->(∀ s v,(s,v) ∈ nv->RZ H' v xs ws s)->Q (.ref D) H'
def Q1:Sp:=fun vs H Q _=>∃ (c:Addr) (sites:List Str) (x:V) (d:PyData),vs=[.ref c]/\Sd H c sites x d /\
 ∀ mo:Int,0<=mo->(∀ k:Nat,k<=sites.length->((k:Int)<=mo ↔ Rz x k=true))->Q (.int mo) H
def J0:Sp:=fun vs H Q _=>∃ (c e m:Addr) (n:Nat) (xs:List Str) (ws:List AI) (Am Ap:List Be) (x:V) (d:PyData) (us:List V) (os:List (List Str)),vs=[.ref c,.ref e]/\Bv H c m n xs ws Am Ap x d /\
 H e=some (.lst us)/\Cu H us os/\os.Nodup/\(∀ ss ∈ os,KP (Am.map (·.1)) ss)/\os.length<=1024 /\
 ∀ (H':Hp) (D:Addr) (kvs:List (List AK × V)),AD H H'->H D=none->H' D=some (.dT kvs)->kvs.map (·.1)=os.map (fun ss=>ss.map Sum.inr)->(∀ ss v,(ss.map Sum.inr,v) ∈ kvs->∃ t,v=.int t/\FY ws Am Ap ss t)->Q (.ref D) H'
def Hh (l:List Str) (mo:Int) (fs:List (List Str)):Prop:=fs.Nodup/\∀ ss,ss ∈ fs ↔ ss.Sublist l/\(ss.length:Int)<=mo
theorem Hh.nil {mo:Int} (h:0<=mo):Hh [] mo [[]]:=⟨by simp,fun ss=>by
 constructor
 ·intro z;rw [ar] at z;subst z;exact ⟨List.Sublist.refl _,by simpa using h⟩
 ·rintro ⟨z,_⟩;rw [eQ.mp z];simp⟩
theorem Hh.step {a:Str} {l:List Str} {mo:Int} {fs:List (List Str)} (ha:a ∉ l) (h:Hh l mo fs):Hh (l ++ [a]) mo (fs ++ (fs.filter fun f=>decide ((f.length:Int) < mo)).map (· ++ [a])):=by
 refine ⟨b8.mpr ⟨h.1,?_,?_⟩,fun ss=>?_⟩
 ·exact bX.mpr ((h.1.sublist dk).imp fun {x y} ne e=>ne (List.append_cancel_right e))
 ·rintro x hx y hy rfl;obtain ⟨g,hg,rfl⟩:=ZZ.mp hy;exact ha (((h.2 _).mp hx).1.subset (by simp))
 ·rw [aG,ZZ,List.sublist_append_iff];constructor
  ·rintro (h1 | ⟨g,hg,rfl⟩)
   ·exact ⟨⟨ss,[],by simp,((h.2 _).mp h1).1,dM _⟩,((h.2 _).mp h1).2⟩
   ·obtain ⟨g1,g2⟩:=bq.mp hg;exact ⟨⟨g,[a],rfl,((h.2 _).mp g1).1,List.Sublist.refl _⟩,by have:=of_decide_eq_true g2; rw [ZY,bo]; lia⟩
  ·rintro ⟨⟨l1,l2,rfl,s1,s2⟩,le⟩;have:l2=[]\/l2=[a]:=by
    cases s2 with
    | cons _ s=>exact .inl (eQ.mp s)
    | cons_cons _ s=>rw [eQ.mp s]; exact .inr rfl
   rcases this with rfl | rfl
   ·rw [cy] at le ⊢;exact .inl ((h.2 _).mpr ⟨s1,le⟩)
   ·rw [ZY,bo] at le;exact .inr ⟨l1,bq.mpr ⟨(h.2 _).mpr ⟨s1,by lia⟩,decide_eq_true (by lia)⟩,rfl⟩
theorem OJ {J:It} {xs:List V} {S:Hp->Prop} {g:TG} {tk tv:TE} {H:Hp} {σ0:St} {R:Addr->Hp->Prop} (ov:PQ J xs S) (ks:List Str) (hk:ks.length=xs.length) (nd:ks.Nodup) (I:Addr->Nat->St->Hp->List (Str × V)->Prop) (big:xs.length < sizeLine)
  (h0:∀ D,H D=none->I D 0 σ0 (upd H D (.dK (sK []))) [])
  (hs:∀ D i σ H' nv,H D=none->I D i σ H' nv->S H'/\H' D=some (.dK (sK nv))/\nv.map (·.1)=ks.take i)
  (turn:∀ D i σ H' nv x k (B:St->V->V->Hp->Prop),H D=none->xs[i]? = some x->ks[i]? = some k->I D i σ H' nv->(∀ A9 v H6,H6 D=some (.dK (sK nv))->I D (i + 1) A9 (upd H6 D (.dK (sK (nv ++ [(k,v)])))) (nv ++ [(k,v)])->B A9 (.str k) v H6) ->
   g x σ H' fun A9 H3=>tk A9 H3 fun y H5=>tv A9 H5 fun v H6=>B A9 y v H6)
  (fin:∀ D σ H' nv,H D=none->I D xs.length σ H' nv->R D H') :
  ∀ D,H D=none->∃ W:Nat->Nat->St->Hp->Prop,(∃ m,W 0 m σ0 (upd H D (.dK []))) /\
   ∀ i m A8 H',W i m A8 H'->(J.stop i H'/\R D H')\/(J.go i H'/\∀ x H2,J.yld i H' x H2->g x A8 H2 fun A9 H3=>Ke A9 H3 fun b H4=>
    if b=true then tk A9 H4 (fun y H5=>tv A9 H5 fun v H6=>∃ kvs k,y=kV k/\H6 D=some (.dK kvs)/\kvs.length < sizeLine/\∃ m',m' < m/\W (i + 1) m' A9 (upd H6 D (.dK (Bq kvs k v)))) else ∃ m',m' < m/\W (i + 1) m' A9 H4):=by
 intro D hD;refine ⟨fun i m σ H'=>m=xs.length - i/\i<=xs.length/\∃ nv,I D i σ H' nv,⟨xs.length,rfl,aH _,[],h0 D hD⟩,?_⟩;rintro i m σ H' ⟨rfl,hi,nv,p⟩;obtain ⟨s1,s2,s3⟩:=hs D i σ H' nv hD p;by_cases BE:i < xs.length
 ·refine .inr ⟨ov.go i H' s1 BE,fun x H2 y=>?_⟩;obtain ⟨rfl,ex⟩:=ov.yld i H' x H2 s1 y;have hki:i < ks.length:=by lia
  have ek:ks[i]? = some ks[i]:=ZS hki;have nin:ks[i] ∉ nv.map (·.1):=by
   rw [s3];intro Pk;obtain ⟨j,hj,e⟩:=aF Pk;rw [aO] at hj;rw [cM] at e;have:=GQ nd (ZS (show j < ks.length by lia)) (by rw [ek,e]);lia
  have nl:nv.length=i:=by
   have:=congrArg bH s3;rw [ZR,aO] at this;lia
  have e:∀ (F:St->V->V->Hp->Prop) (G:St->Hp->Prop),(fun (A9:St) (H3:Hp)=>Ke A9 H3 fun b H4=>if b=true then tk A9 H4 (fun y H5=>tv A9 H5 fun v H6=>F A9 y v H6) else G A9 H4)=fun A9 H3=>tk A9 H3 (fun y H5=>tv A9 H5 fun v H6=>F A9 y v H6):=by
   intro F G;funext A9 H3;show (if true=true then tk A9 H3 (fun y H5=>tv A9 H5 fun v H6=>F A9 y v H6) else G A9 H3)=_
   rw [if_pos rfl]
  rw [e (fun A9 y v H6=>∃ kvs k,y=kV k/\H6 D=some (.dK kvs)/\kvs.length < sizeLine/\∃ m',m' < xs.length - i/\(m'=xs.length - (i + 1)/\i + 1<=xs.length/\∃ DL,I D (i + 1) A9 (upd H6 D (.dK (Bq kvs k v))) DL)) (fun A9 H4=>∃ m',m' < xs.length - i/\(m'=xs.length - (i + 1)/\i + 1<=xs.length/\∃ DL,I D (i + 1) A9 H4 DL))];refine turn D i σ H2 nv x ks[i] _ hD ex ek p fun A9 v H6 d6 p6=>?_
  exact ⟨_,Sum.inr ks[i],rfl,d6,by rw [CJ]; lia,xs.length - (i + 1),by lia,rfl,BE,nv ++ [(ks[i],v)],by rw [CZ nin]; exact p6⟩
 ·have e:i=xs.length:=by lia
  subst e;exact .inl ⟨ov.stop H' s1,fin D σ H' nv hD p⟩
theorem Lc {α β:Type} {b:β}:∀ {as:List α} {bs:List β} {a:α},as[bs.length]? = some a->as.zip (bs ++ [b])=as.zip bs ++ [(a,b)]
 | [],bs,a,h=>by simp at h
 | x :: as,[],a,h=>by simp at h; subst h; simp
 | x :: as,y :: bs,a,h=>by
  have:=Lc (as:=as) (bs:=bs) (b:=b) (a:=a) (by simpa using h);simp [this]
theorem K8 {a b:List Str} (h:a.map (Sum.inr:Str->AK)=b.map Sum.inr):a=b:=by
 induction a generalizing b with
 | nil=>cases b with | nil=>rfl | cons _ _=>cases h
 | cons x a ih=>
  cases b with
  | nil=>cases h
  | cons y b=>
   rw [au,au] at h;injection h with h1 h2;injection h1 with h1;rw [h1,ih h2]
theorem N3 (ss:List Str):(ss.map (Sum.inr:Str->AK)).map kV=ss.map V.str:=by rw [aT]; rfl
theorem IJ {T:List Str->Int->Prop}:∀ {os:List (List Str)} {kvs:List (List AK × V)},kvs.map (·.1)=os.map (fun ss=>ss.map Sum.inr)->(∀ ss v,(ss.map Sum.inr,v) ∈ kvs->∃ t,v=.int t/\T ss t) ->
  ∃ ks:List (Int × List Str),ks.map (·.2)=os/\ks.length=kvs.length/\(∀ (q:Nat) k,ks[q]? = some k->kvs[q]? = some (k.2.map Sum.inr,.int k.1))/\∀ k ∈ ks,T k.2 k.1
 | [],kvs,h,_=>by
  have:kvs=[]:=by simpa using h
  subst this;exact ⟨[],rfl,rfl,(fun q k e=>by simp at e),fun k hk=>nomatch hk⟩
 | ss :: os,[],h,_=>by cases h
 | ss :: os,(k,v) :: kvs,h,hv=>by
  rw [au,au] at h;injection h with h1 h2;have h1:k=ss.map Sum.inr:=h1;subst h1;obtain ⟨t,rfl,ht⟩:=hv ss v aJ;obtain ⟨ks,e1,e2,e3,e4⟩:=IJ h2 fun ss v hm=>hv ss v (aA _ hm)
  refine ⟨(t,ss) :: ks,by rw [au,e1],by rw [aK,aK,e2],fun q k e=>?_,fun k hk=>?_⟩
  ·cases q with
   | zero=>simp at e; subst e; rfl
   | succ q=>simpa using e3 q k (by simpa using e)
  ·rcases ZU.mp hk with rfl | hk
   ·exact ht
   ·exact e4 k hk
theorem Ql {κ:Type} [DecidableEq κ] {kvs:List (κ × V)} {k:κ} (h:k ∉ kvs.map (·.1)):BF kvs k=none:=by
 cases e:BF kvs k with
 | none=>rfl
 | some v=>exact absurd (Sv e) h
theorem Nx {κ:Type} [DecidableEq κ] {k:κ} {v:V}:∀ {kvs:List (κ × V)} {q:Nat},(kvs.map (·.1)).Nodup->kvs[q]? = some (k,v)->BF kvs k=some v
 | [],q,_,e=>by simp at e
 | p :: kvs,0,_,e=>by
  simp at e;subst e;exact DE rfl
 | p :: kvs,q + 1,nd,e=>by
  rw [au] at nd;obtain ⟨n1,n2⟩:=br.mp nd;have e':kvs[q]? = some (k,v):=by simpa using e
  rw [CY (fun z=>n1 (by rw [z]; exact ZZ.mpr ⟨_,ZW e',rfl⟩))];exact Nx n2 e'
def tTru (K:ZV) (ta:TE):TT:=fun σ H Q=>ta σ H fun x H'=>∃ k,Wd K x H' k/\Q k H'
theorem ON (K:ZV) {X:Cx} (hK:X.K=K) {a:Expr} {ta:TE} (ha:PE X a ta) (he:∀ whole,isTrue a X.env whole=(do let v <- whole; standAt a.pos; holding [v] (truthy v))):PT X a (tTru K ta):=by subst hK; exact L7 ha he
theorem QS {n:Nat} {g:TG} {te:TE} {H:Hp} {σ0:St} {R:Addr->Hp->Prop} (I:Addr->Nat->St->Hp->List V->Prop) (big:n < sizeLine)
  (h0:∀ D,H D=none->I D 0 σ0 (upd H D (.lst [])) [])
  (hs:∀ D i σ H' acc,H D=none->I D i σ H' acc->H' D=some (.lst acc)/\acc.length=i)
  (turn:∀ D i σ H' acc (B:St->V->Hp->Prop),H D=none->i < n->I D i σ H' acc->(∀ A9 v H5,H5 D=some (.lst acc)->I D (i + 1) A9 (upd H5 D (.lst (acc ++ [v]))) (acc ++ [v])->B A9 v H5)->g (.int (0 + (i:Int))) σ H' fun A9 H3=>te A9 H3 (B A9))
  (fin:∀ D σ H' acc,H D=none->I D n σ H' acc->R D H') :
  ∀ D,H D=none->∃ W:Nat->Nat->St->Hp->Prop,(∃ m,W 0 m σ0 (upd H D (.lst []))) /\
   ∀ i m A8 H',W i m A8 H'->((KR 0 n).stop i H'/\R D H')\/((KR 0 n).go i H'/\∀ x H2,(KR 0 n).yld i H' x H2->g x A8 H2 fun A9 H3=>Ke A9 H3 fun b H4=>
    if b=true then te A9 H4 (fun v H5=>∃ acc,H5 D=some (.lst acc)/\acc.length < sizeLine/\∃ m',m' < m/\W (i + 1) m' A9 (upd H5 D (.lst (acc ++ [v])))) else ∃ m',m' < m/\W (i + 1) m' A9 H4):=by
 intro D hD;refine ⟨fun i m σ H'=>m=n - i/\i<=n/\∃ acc,I D i σ H' acc,⟨n,rfl,aH _,[],h0 D hD⟩,?_⟩;rintro i m σ H' ⟨rfl,hi,acc,p⟩;obtain ⟨s2,s3⟩:=hs D i σ H' acc hD p;by_cases BE:i < n
 ·refine .inr ⟨BE,fun x H2 ⟨e1,e2⟩=>?_⟩;subst e1 e2;have e:∀ (F:St->V->Hp->Prop) (G:St->Hp->Prop),(fun (A9:St) (H3:Hp)=>Ke A9 H3 fun b H4=>if b=true then te A9 H4 (F A9) else G A9 H4)=fun A9 H3=>te A9 H3 (F A9):=by
   intro F G;funext A9 H3;show (if true=true then te A9 H3 (F A9) else G A9 H3)=_
   rw [if_pos rfl]
  rw [e (fun A9 v H5=>∃ acc,H5 D=some (.lst acc)/\acc.length < sizeLine/\∃ m',m' < n - i/\(m'=n - (i + 1)/\i + 1<=n/\∃ IT,I D (i + 1) A9 (upd H5 D (.lst (acc ++ [v]))) IT)) (fun A9 H4=>∃ m',m' < n - i/\(m'=n - (i + 1)/\i + 1<=n/\∃ IT,I D (i + 1) A9 H4 IT))];refine turn D i σ H2 acc _ hD BE p fun A9 v H5 d5 p5=>?_
  exact ⟨acc,d5,by lia,n - (i + 1),by lia,rfl,BE,_,p5⟩
 ·have e:i=n:=by lia
  subst e;exact .inl ⟨ZX _,fin D σ H' acc hD p⟩
theorem F7 (K:ZV) {X:Cx} (h:X.K=K):SlR X (SK K):=by subst h; exact Vd
section
variable {prog:Program} {w:World} {A:Around} {E:Value->Shared->Prop} {s:Shared}
end
theorem Mn.lens {xs:List Str} {ws EH:List AI} (h:Mn xs ws) (hl:EH.length=ws.length) (he:∀ (i:Nat) u u',ws[i]? = some u->EH[i]? = some u'->u'.1=u.1/\u'.2.1=u.2.1/\1<=u'.2.2):Mn xs EH:=by
 have at':∀ u' ∈ EH,∃ (i:Nat) (u:AI),ws[i]? = some u/\EH[i]? = some u'/\u'.1=u.1/\u'.2.1=u.2.1/\1<=u'.2.2:=fun u' hu=>by
  obtain ⟨i,hi⟩:=bY hu;have Yn:=(ag.mp hi).1;have e:ws[i]? = some (ws[i]'(by lia)):=ZS _;exact ⟨i,_,e,hi,he i _ _ e hi⟩
 refine ⟨fun u' hu=>?_,?_,fun j h1 h2=>?_⟩
 ·obtain ⟨i,u,e1,e2,a,b,c⟩:=at' u' hu;obtain ⟨z1,z2,z3,_⟩:=h.1 u (ZW e1);rw [a,b];exact ⟨z1,z2,z3,c⟩
 ·refine cE.mpr fun i j hi hj hij al=>?_
  have e1:ws[i]? = some (ws[i]'(by lia)):=ZS _;have e2:ws[j]? = some (ws[j]'(by lia)):=ZS _;obtain ⟨a1,b1,_⟩:=he i _ _ e1 (ZS hi);obtain ⟨a2,b2,_⟩:=he j _ _ e2 (ZS hj);refine cE.mp h.2.1 i j (by lia) (by lia) hij ?_;unfold Ms at al ⊢;rw [a1,b1,a2,b2] at al;exact al
 ·obtain ⟨u,hu,i,hij,e1,e2⟩:=h.2.2 j h1 h2;obtain ⟨q,hq⟩:=bY hu;have WY:=(ag.mp hq).1;have e:EH[q]? = some (EH[q]'(by lia)):=ZS _;obtain ⟨a,b,_⟩:=he q _ _ hq e;exact ⟨_,ZW e,i,hij,by rw [a]; exact e1,by rw [b]; exact e2⟩
theorem AH (K:ZV) {X:Cx} (h:X.K=K):Bp X (.type "tuple") (fun xs H Q=>∃ p ys,xs=[.ref p]/\((AV K H p ys/\∀ l,H l=none->Q (.ref l) (upd H l (.tup ys)))\/(A2 K H p ys/\Q (.ref p) H))):=by subst h; exact Jo
end L2
namespace L2
open PySem PySem.Spec PySem.W PyProof.Rows
theorem D8 (K:ZV) {X:Cx} (h:X.K=K):Bp X (.builtin "sorted") (fun xs H Q=>∃ (a:Addr) (ss:List Str),xs=[.ref a]/\AV K H a (ss.map V.str)/\ss.length < 64 /\
  ∀ (l:Addr) (KU:List Str),H l=none->KU.Perm ss->sortedS KU=true->Q (.ref l) (upd H l (.lst (KU.map V.str)))):=by subst h; exact G2
theorem FX (K:ZV) {X:Cx} (h:X.K=K):Bp X (.builtin "sorted") (fun xs H Q=>∃ (a:Addr) (ns:List Int),xs=[.ref a]/\AV K H a (ns.map V.int)/\ns.length < 64 /\
  ∀ (l:Addr) (LI:List Int),H l=none->LI.Perm ns->LI.Pairwise (·<=·)->Q (.ref l) (upd H l (.lst (LI.map V.int)))):=by subst h; exact G3
theorem Dk (K:ZV) {X:Cx} (h:X.K=K):Bp X (.builtin "sorted") (fun xs H Q=>∃ (a:Addr) (vs:List V) (rs:List Be),xs=[.ref a]/\AV K H a vs/\AM H vs (rs.map BK) /\
  ∀ (l:Addr) (Cb:List V) (Ez:List Be),H l=none->AM H Cb (Ez.map BK)->Ez.Perm rs->Q (.ref l) (upd H l (.lst Cb))):=by subst h; exact FV
theorem Fy (K:ZV) {X:Cx} (h:X.K=K):Bp X (.builtin "sorted") (fun xs H Q=>∃ (a:Addr) (vs:List V) (ws:List AI),xs=[.ref a]/\AV K H a vs/\AM H vs (ws.map DC) /\
  ∀ (l:Addr) (Cb:List V) (EH:List AI),H l=none->AM H Cb (EH.map DC)->EH.Perm ws->Q (.ref l) (upd H l (.lst Cb))):=by subst h; exact FU
end L2
namespace L2
open PySem PySem.Spec PyProof.Rows
end L2
namespace HT
open PySem PySem.Spec PyProof.Rows
section
variable {prog:Program} {w:World} {A:Around} {E:Value->Shared->Prop} {s:Shared}
end
end HT
namespace L2
open PySem PySem.Spec PyProof.Rows
section
variable {X:Cx} {Φ:St->Hp->Prop} {a b:Expr} {pos:Pos} {n m:Nat}
end
section
variable {Φ:St->Hp->Prop} {n:Nat}
end
end L2
namespace L2
open PySem PySem.Builtin.Str PySem.StrLaws
end L2
namespace L2
open PySem PySem.Spec PyProof.Rows PySem.NumText
end L2
namespace L2
open PySem PySem.Spec PyProof.Rows
section
variable {prog:Program} {w:World} {A:Around} {E:Value->Shared->Prop} {I:Addr} {fp wr:List Addr} {n:Nat} {P:Nat->Value->Prop} {St:Nat->Heap->Prop}
theorem JM (W:Walks prog w A I fp wr n P St):∀ (k i:Nat) (s:Shared) (Q:List Value->Shared->Prop),i + k<=n->St i s.heap ->
  (∀ (vs:List Value) (h':Heap) (tk:Nat),vs.length=k->(∀ (j:Nat) (v:Value),vs[j]? = some v->P (i + j) v)->St (i + k) h'->(∀ b o,b ∉ wr->s.heap.get? b=some o->h'.get? b=some o)->Q vs { s with heap:=h',toks:=tk }) ->
  wpAny (model prog w) A (draw (.ref I) k) Q E s
 | 0,i,s,Q,_,st,q=>wpAny_pure (q [] s.heap s.toks rfl (fun j v e=>by simp at e) st fun b o _ e=>e)
 | k + 1,i,s,Q,h,st,q=>by
  unfold draw;refine wpAny_bind (W.item i s _ _ (by lia) st fun v h1 Y5 pv Yb k1=>?_);refine wpAny_bind (wpAny_holding (JM W k (i + 1) _ _ (by lia) Yb fun vs h2 Y4 l2 p2 G5 k2=>?_));refine wpAny_pure (q (v :: vs) h2 Y4 (by rw [aK,l2]) (fun j u e=>?_) (by rw [show i + (k + 1)=i + 1 + k by lia]; exact G5) fun b o hb e=>k2 b o hb (k1 b o hb e));cases j with
  | zero=>
   simp only [aX,aI.injEq] at e;subst e;exact pv
  | succ j=>
   have:=p2 j u (by simpa using e);rw [show i + (j + 1)=i + 1 + j by lia];exact this
end
section
variable {prog:Program} {w:World} {A:Around} {E:Value->Shared->Prop} {s:Shared}
theorem M1 {t:Addr} {items:Array Value} {targets:List (Bool × (Value->Sem Unit))} {Q:Unit->Shared->Prop} (hh:A.handled=none) (ht:s.heap.IsList t items)
  (hn:targets.length=items.size) (hstar:targets.findIdx? (·.1)=none)
  (h:∀ h' tk,(∀ b o,s.heap.get? b=some o->h'.get? b=some o)->wpAny (model prog w) A (assignInOrder (targets.map (·.2)) items.toList) Q E { s with heap:=h',toks:=tk }) :
  wpAny (model prog w) A (unpack (.ref t) targets) Q E s:=by
 unfold unpack;rw [hn,hstar];have BE:t ≠ s.heap.objs.size:=by obtain ⟨o,ho,_⟩:=ht; exact ao (ae ho)
 refine wpAny_bind (wpAny_holding ?_);unfold unpackItems;refine wpAny_bind ?_;unfold notIterableAtAll;refine wpAny_bind (wpAny_specialOf ht.typeIs PySem.F.slot_list_iter.lookup ?_);refine wpAny_pure ?_;simp only [aq,if_false];refine wpAny_bind (wpAny_holding (wpAny_pyIter_list ht ?_));have W:=Walks.list (prog:=prog) (w:=w) hh s.heap.objs.size t BE items;obtain ⟨o,ho,hc,nn,hd⟩:=id ht;refine wpAny_bind (wpAny_holding (JM W items.size 0 _ _ (by lia) ⟨⟨_,ah _ rfl,rfl,rfl⟩,⟨o,ZT _ ho,hc,nn,hd⟩⟩ fun vs h1 Y5 l1 p1 Yb k1=>?_));have ev:vs=items.toList:=cj (by rw [l1,aE]) fun i i1 i2=>by
  have:=p1 i vs[i] (ZS i1);rw [bG] at this;rw [<-bh,ZS i2] at this;exact (aI.inj this).symm
 subst ev;rw [if_neg (by simp)];rw [bG] at Yb;refine wpAny_bind (wpAny_holding (W.done _ _ _ Yb fun h2 Y4 k2=>?_));simp only [Option.isSome_none,aq,if_false];refine wpAny_pure (h h2 Y4 fun b o e=>?_);have hb:b ∉ [s.heap.objs.size]:=fun z=>absurd (ae e) (by rw [ar.mp z]; exact bp _)
 exact k2 b o hb (k1 b o hb (ZT _ e))
end
def gLst (K:ZV) (n:Nat) (t:So):TG:=fun v σ H Q=>∃ a xs,v=.ref a/\AV K H a xs/\xs.length=n/\t xs σ H Q
theorem Vj {X:Cx} {es:List Expr} {k:Nat} {t:So} {n:Nat} {pos:Pos} (hc:X.calm=true) (h:Wx X es t)
  (hn:(assignEach es X.env).length=n:=by rfl) (hst:(assignEach es X.env).findIdx? (·.1)=none:=by rfl):PG X (.Tuple es k pos) (gLst X.K n t):=by
 intro pins s σ H v u Q I r hw;obtain ⟨a,xs,e1,hq,hl,hw⟩:=hw;subst e1;cases r
 obtain ⟨Az,rv,ht,hz⟩:=I.list hq;rw [assign_Tuple];refine wpAny_bind (wpAny_standAt (M1 (I.ok.hd hc) ht.isList (by simp [hn,<-hl,rv.length]) hst fun h' tk hx=>?_));have I1:Au X pins σ H { s with heap:=h',toks:=tk }:=I.kept (t':=tk) hx;exact h (pins:=pins) _ σ H xs _ Q I1 (by simpa using rv) hw
def F5:Sp:=fun vs H Q _=>∃ (p:Addr) (lo sz:Int),vs=[.ref p,.int lo,.int sz]/\A0 H p/\0<=lo/\lo<=1000/\0 < sz/\sz<=1000 /\
 ∀ (n a b c:Int),lo<=n->n * 9 < 10 ^ 30->Q (.int n) (upd H p (.lst (A6 a b c)))
def F0 (n:Nat) (kvs:List (List AK × V)):Prop:=∀ p ∈ kvs,∃ (i j l:Int),p=([Sum.inl i,Sum.inl j],.int l)/\0<=i/\i < j/\j < n/\1<=l/\l * 9 < 10 ^ 30
theorem F0.put {n:Nat} {kvs:List (List AK × V)} (h:F0 n kvs) {i j l:Int} (h0:0<=i) (h1:i < j) (h2:j < n) (h3:1<=l) (h4:l * 9 < 10 ^ 30):F0 n (Bq kvs [Sum.inl i,Sum.inl j] (.int l)):=fun p hp=>by
 rcases QV hp with rfl | hp
 ·exact ⟨i,j,l,rfl,h0,h1,h2,h3,h4⟩
 ·exact h p hp
theorem F0.w {n:Nat} {kvs:List (List AK × V)} (h:F0 n kvs):UJ n kvs:=fun p hp=>by
 obtain ⟨i,j,l,a,b,c,d,e,f⟩:=h p hp;exact ⟨i,j,l,a,b,c,d,e,by lia⟩
def Q2:Sp:=fun vs H Q _=>∃ (p:Addr) (n:Nat),vs=[.ref p,.int n]/\A0 H p/\1<=n/\n<=30 /\
 ∀ (H':Hp) (m:Addr) (xs:List Str) (ws:List AI),A0 H' p->Bd p H H'->Ga H' m n xs ws->(∀ u ∈ ws,u.2.2 * 9 < 10 ^ 30)->Q (.ref m) H'
structure Gf (H:Hp) (c m:Addr) (n:Nat) (xs:List Str) (ws:List AI) (Am Ap:List Be) (x:V) (d:PyData):Prop where
 cw:Bv H c m n xs ws Am Ap x d
 l6:Am.length<=6
 w9:∀ u ∈ ws,u.2.2 * 9 < 10 ^ 30
 r1:∀ r ∈ Am,r.2 * 9 < 10 ^ 30
 r2:∀ r ∈ Ap,r.2 * 9 < 10 ^ 30
 x9:∀ l:Int,x=.int l->1<=l/\l < 10 ^ 30
theorem Gf.keepT {H H':Hp} {c m:Addr} {n:Nat} {xs:List Str} {ws:List AI} {Am Ap:List Be} {x:V} {d:PyData} (h:Gf H c m n xs ws Am Ap x d) (t:∀ b ys,H b=some (.tup ys)->H' b=some (.tup ys)):Gf H' c m n xs ws Am Ap x d:=⟨h.cw.keepT t,h.l6,h.w9,h.r1,h.r2,h.x9⟩
theorem Gf.same {H H':Hp} {c m:Addr} {n:Nat} {xs:List Str} {ws:List AI} {Am Ap:List Be} {x:V} {d:PyData} (h:Gf H c m n xs ws Am Ap x d) (s:AD H H'):Gf H' c m n xs ws Am Ap x d:=h.keepT fun b ys z=>s _ _ z
def NG:Sp:=fun vs H Q _=>∃ (p:Addr) (n:Nat) (most:Int),vs=[.ref p,.int n,.int most]/\A0 H p/\1<=n/\n<=30/\1<=most/\most<=6 /\
 ∀ (H':Hp) (c m:Addr) (xs:List Str) (ws:List AI) (Am Ap:List Be) (x:V) (d:PyData),A0 H' p->Bd p H H'->Gf H' c m n xs ws Am Ap x d->Q (.ref c) H'
end L2
namespace L2
open PySem PySem.Spec PySem.W PyProof.Rows
section
variable {prog:Program} {w:World} {A:Around} {E:Value->Shared->Prop} {s:Shared} {κ:SortKind} {lt:Keyed->Keyed->Bool} {a0:Array Keyed}
theorem CQ {n:Nat} (h1:1<=n) (Jm:n < 64):(sortPriv% PySem.Builtin.minRun) n n 0=n:=by
 obtain ⟨f,hf⟩:∃ f,n=f + 1:=⟨n - 1,by lia⟩
 have:minRun' (f + 1) n 0=n:=by rw [minRun'_succ,if_pos Jm]; rfl
 rw [<-hf] at this;exact this
theorem HJ {st:SortSt} {Q:Unit->SortSt->Prop} (sw:PN lt) (an:KS prog w A s κ lt a0) (hk:kindOf st=κ) (ha:arrOf st=a0) (hf:failedOf st=none) (hpe:pendingOf st=#[]) (h2:1<=a0.size) (Jm:a0.size < 64)
  (h:∀ An,(arrOf An).Perm a0->failedOf An=none->(arrOf An).toList.Pairwise (Nl lt)->Q () An):wpS (model prog w) A E s sortRuns' Q st:=by
 have hp:(arrOf st).Perm a0:=by rw [ha]
 refine wpS_bind (wpS_get ?_);dsimp only;have ez:((sortPriv% PySem.Builtin.SortState.a) st).size=a0.size:=by rw [show (sortPriv% PySem.Builtin.SortState.a) st=a0 from ha]
 rw [ez];refine wpS_bind (wpS_mono (wpS_forRange (I:=fun x c An=>(x=0/\c=(none,0)/\An=st)\/(1<=x/\c=(none,a0.size)/\(arrOf An).Perm a0/\failedOf An=none/\(pendingOf An).size<=1/\SS lt (arrOf An) 0 a0.size))
  (Q:=fun c An=>c=(none,a0.size)/\(arrOf An).Perm a0/\failedOf An=none/\(pendingOf An).size<=1/\SS lt (arrOf An) 0 a0.size) ?step ?fin (.inl ⟨rfl,rfl,rfl⟩)) ?post)
 case fin=>
  rintro c An (⟨hx,_,_⟩ | ⟨_,r⟩)
  ·lia
  ·exact r
 case step=>
  rintro x c An _ hx (⟨rfl,rfl,rfl⟩ | ⟨_,rfl,r⟩)
  ·dsimp only;rw [if_neg (by lia)];refine wpS_bind (Jf sw an hk hp (by lia) (by lia) fun m ys k1 m1 m2 s1=>?_);dsimp only;have hpd:∀ zs,(pendingOf (setArr An zs)).back? = none:=fun zs=>by
    show (pendingOf An).back? = none
    rw [hpe];rfl
   by_cases hm:m < (sortPriv% PySem.Builtin.minRun) a0.size a0.size 0
   ·rw [if_pos hm];refine wpS_bind (wpS_lift (wpAny_rule ⟨rfl,?_⟩));refine wpS_bind (Hk (st:=setArr An ys) sw an hk (k1.1.trans hp) (by lia) m1 (by lia) s1 fun zs k2 s2=>?_);simp only [cH,aq,if_false];refine wpS_bind (wpS_get ?_);rw [hpd];dsimp only;have emin:min (a0.size - 0) ((sortPriv% PySem.Builtin.minRun) a0.size a0.size 0)=a0.size:=by rw [CQ h2 Jm]; lia
    rw [emin];exact wpS_bind (wpS_modify (wpS_pure (.inr ⟨by lia,by rw [bG],k2.1.trans (k1.1.trans hp),hf,by show ((pendingOf An).push _).size<=1; rw [hpe]; exact ZX 1 ,by rw [emin,bG] at s2; exact s2⟩)))
   ·rw [if_neg hm];rw [CQ h2 Jm] at hm;have em:m=a0.size:=by lia
    refine wpS_bind (wpS_get ?_);rw [hpd];dsimp only;rw [em];exact wpS_bind (wpS_modify (wpS_pure (.inr ⟨by lia,by rw [bG],k1.1.trans hp,hf,by show ((pendingOf An).push _).size<=1; rw [hpe]; exact ZX 1 ,by rw [em,bG] at s1; exact s1⟩)))
  ·dsimp only;rw [if_pos (ZX _)];exact wpS_pure ⟨rfl,r⟩
 case post=>
  rintro c An ⟨rfl,r1,r2,r3 ,r4⟩;dsimp only;refine wpS_bind (wpS_mono (wpS_forRange (I:=fun _ c Bj=>Bj=An/\c=(none,())) (Q:=fun c Bj=>Bj=An/\c=(none,())) ?_ (fun _ _ hh=>hh) ⟨rfl,rfl⟩) ?_)
  ·rintro x c Bj _ _ ⟨rfl,rfl⟩;refine wpS_bind (wpS_get ?_);rw [if_pos r3];exact wpS_pure ⟨rfl,rfl⟩
  ·rintro c Bj ⟨rfl,rfl⟩;exact wpS_pure (h _ r1 r2 (UE fun i j hij hj=>r4 i j (aH _) (cN hij) (by have:=r1.size_eq; lia)))
theorem HI {st:SortSt} {Q:Unit->SortSt->Prop} (an:KS prog w A s κ lt a0) (hk:kindOf st=κ) (ha:arrOf st=a0) (hf:failedOf st=none) (hpe:pendingOf st=#[]) (h2:1<=a0.size) (Jm:a0.size < 64)
  (h:∀ An,(arrOf An).Perm a0->failedOf An=none->Q () An):wpS (model prog w) A E s sortRuns' Q st:=by
 have hp:(arrOf st).Perm a0:=by rw [ha]
 refine wpS_bind (wpS_get ?_);dsimp only;have ez:((sortPriv% PySem.Builtin.SortState.a) st).size=a0.size:=by rw [show (sortPriv% PySem.Builtin.SortState.a) st=a0 from ha]
 rw [ez];refine wpS_bind (wpS_mono (wpS_forRange (I:=fun x c An=>(x=0/\c=(none,0)/\An=st)\/(1<=x/\c=(none,a0.size)/\(arrOf An).Perm a0/\failedOf An=none/\(pendingOf An).size<=1 ))
  (Q:=fun c An=>c=(none,a0.size)/\(arrOf An).Perm a0/\failedOf An=none/\(pendingOf An).size<=1 ) ?step ?fin (.inl ⟨rfl,rfl,rfl⟩)) ?post)
 case fin=>
  rintro c An (⟨hx,_,_⟩ | ⟨_,r⟩)
  ·lia
  ·exact r
 case step=>
  rintro x c An _ hx (⟨rfl,rfl,rfl⟩ | ⟨_,rfl,r⟩)
  ·dsimp only;rw [if_neg (by lia)];refine wpS_bind (EY an hk hp (by lia) (by lia) fun m ys k1 m1 m2=>?_);dsimp only;have hpd:∀ zs,(pendingOf (setArr An zs)).back? = none:=fun zs=>by
    show (pendingOf An).back? = none
    rw [hpe];rfl
   by_cases hm:m < (sortPriv% PySem.Builtin.minRun) a0.size a0.size 0
   ·rw [if_pos hm];refine wpS_bind (wpS_lift (wpAny_rule ⟨rfl,?_⟩));refine wpS_bind (Ep (st:=setArr An ys) an hk (k1.1.trans hp) (by lia) m1 (by lia) fun zs k2=>?_);simp only [cH,aq,if_false];refine wpS_bind (wpS_get ?_);rw [hpd];dsimp only;have emin:min (a0.size - 0) ((sortPriv% PySem.Builtin.minRun) a0.size a0.size 0)=a0.size:=by rw [CQ h2 Jm]; lia
    rw [emin];exact wpS_bind (wpS_modify (wpS_pure (.inr ⟨by lia,by rw [bG],k2.1.trans (k1.1.trans hp),hf,by show ((pendingOf An).push _).size<=1; rw [hpe]; exact ZX 1 ⟩)))
   ·rw [if_neg hm];rw [CQ h2 Jm] at hm;have em:m=a0.size:=by lia
    refine wpS_bind (wpS_get ?_);rw [hpd];dsimp only;rw [em];exact wpS_bind (wpS_modify (wpS_pure (.inr ⟨by lia,by rw [bG],k1.1.trans hp,hf,by show ((pendingOf An).push _).size<=1; rw [hpe]; exact ZX 1 ⟩)))
  ·dsimp only;rw [if_pos (ZX _)];exact wpS_pure ⟨rfl,r⟩
 case post=>
  rintro c An ⟨rfl,r1,r2,r3 ⟩;dsimp only;refine wpS_bind (wpS_mono (wpS_forRange (I:=fun _ c Bj=>Bj=An/\c=(none,())) (Q:=fun c Bj=>Bj=An/\c=(none,())) ?_ (fun _ _ hh=>hh) ⟨rfl,rfl⟩) ?_)
  ·rintro x c Bj _ _ ⟨rfl,rfl⟩;refine wpS_bind (wpS_get ?_);rw [if_pos r3];exact wpS_pure ⟨rfl,rfl⟩
  ·rintro c Bj ⟨rfl,rfl⟩;exact wpS_pure (h _ r1 r2 )
theorem MV {a:Addr} {vs:List Value} {n:Nat} {P:Fin->Shared->Prop} (sw:PN lt) (lies:s.heap.get? a=some (seqObj "list" vs.toArray n)) (few:vs.length<=sizeLine) (Jm:vs.length < 64)
  (cm:2<=vs.length->∀ h',(∀ b o,b ≠ a->s.heap.get? b=some o->h'.get? b=some o) ->
   ∃ κ,(∀ (Q:SortKind->Shared->Prop) (E:Value->Shared->Prop),Q κ { s with heap:=h' }->wpAny (model prog w) A (keyKind' vs.toArray) Q E { s with heap:=h' })/\KS prog w A { s with heap:=h' } κ lt (pairsOf vs))
  (k:∀ out:List Value,out.Perm vs->out.Pairwise (fun u v=>lt (v,v) (u,u)=false)->P (.done (.ret .none)) { s with heap:=sortedHeap s.heap a vs out.toArray }) :
  wpAny (model prog w) A (Builtin.«list.sort» ⟨[.ref a],[]⟩) P E s:=by
 have alt:=ae lies;rw [list_sort_plain];refine wpAny_bind (listItems_at lies rfl (wpAny_bind (listUpdate_at lies rfl ?_ (by simpa using few) (aH _))));obtain ⟨c,GU⟩:∃ c,(s.heap.update a (Obj.mapSeq fun _=>#[])).get? a=some (seqObj "list" #[] c):=⟨_,get?_update_seq lies (fun _=>#[])⟩
 refine wpAny_bind (seqEpoch_at GU rfl (wpAny_bind (wpAny_newTuple (wpAny_bind (wpAny_newList (wpAny_holding ?_) (aH _))) (by simpa using few))));obtain ⟨h3,Oj⟩:∃ h3,h3=((s.heap.update a (Obj.mapSeq fun _=>(#[]:Array Value))).push (seqObj "tuple" vs.toArray 0)).push (seqObj "list" #[] 0):=⟨_,rfl⟩
 have Dy:h3.get? a=some (seqObj "list" #[] c):=by
  rw [Oj];exact ZT _ (ZT _ GU)
 have LS:∀ b o,b ≠ a->s.heap.get? b=some o->h3.get? b=some o:=fun b o hb e=>by
  rw [Oj];exact ZT _ (ZT _ ((cG _ _ _ _ hb).trans e))
 show wpAny (model prog w) A _ P E { s with heap:=((s.heap.update a (Obj.mapSeq fun _=>(#[]:Array Value))).push (seqObj "tuple" vs.toArray 0)).push (seqObj "list" #[] 0) }
 rw [<-Oj];have last:∀ An:SortSt,(arrOf An).Perm (pairsOf vs)->(arrOf An).toList.Pairwise (Nl lt)->P (.done (.ret .none)) { s with heap:=h3.update a (Obj.mapSeq fun _=>(arrOf An).map (·.2)) }:=fun An hp hs=>by
  have e:(arrOf An).map (·.2)=((arrOf An).toList.map (·.2)).toArray:=by apply cV.mp; simp
  have q:=k _ (Ie hp) (Rl hp hs);rw [<-e] at q;rw [Oj];exact q
 have zl:∀ An:SortSt,(arrOf An).Perm (pairsOf vs)->((arrOf An).map (·.2)).size<=sizeLine + 1:=fun An hp=>by
  rw [eZ,hp.size_eq,pairsOf_size];lia
 have zv:vs.toArray.size=vs.length:=rfl;dsimp only;rcases dt vs.toArray.size 2 with lo | hi
 ·rw [if_pos lo,if_pos lo];refine wpAny_bind (wpAny_pure ?_);rw [StateT.run_pure];refine wpAny_bind (wpAny_pure (wpAny_bind (seqEpoch_at Dy rfl ?_)));have p0:(arrOf (SortSt.mk' general' (vs.toArray.zip vs.toArray) #[] 7 none)).Perm (pairsOf vs):=Array.Perm.refl _;refine wpAny_bind (listUpdate_at Dy rfl ?_ (aH _) (zl _ p0));rw [bne_self_eq_false];refine wpAny_pure (last _ p0 (UE fun i j hij hj=>?_));have:=p0.size_eq;rw [pairsOf_size] at this;have JF:j < (arrOf (SortSt.mk' general' (vs.toArray.zip vs.toArray) #[] 7 none)).size:=hj;lia
 ·rw [if_neg (by lia),if_neg (by lia)];obtain ⟨κ,k1,k2⟩:=cm (by lia) h3 LS;refine wpAny_bind (k1 _ _ ?_);refine wpAny_bind (wpAny_mono (HJ (a0:=pairsOf vs) (st:=SortSt.mk' κ (vs.toArray.zip vs.toArray) #[] 7 none)
   (Q:=fun _ An=>(arrOf An).Perm (pairsOf vs)/\failedOf An=none/\(arrOf An).toList.Pairwise (Nl lt)) sw k2 rfl rfl rfl rfl (by rw [pairsOf_size]; lia) (by rw [pairsOf_size]; lia) fun An a1 a2 a3=>⟨a1,a2,a3⟩) ?_ fun _ _ e=>e)
  rintro ⟨u,An⟩ s' ⟨rfl,hp,hf,hs⟩;refine wpAny_bind (seqEpoch_at Dy rfl (wpAny_bind (listUpdate_at Dy rfl ?_ (aH _) (zl _ hp))));dsimp only;rw [hf,bne_self_eq_false];exact wpAny_pure (last An hp hs)
theorem Q8 {l:Addr} {vs:List Value} {Q:Value->Shared->Prop} (sw:PN lt) (hl:s.heap.IsList l vs.toArray) (few:vs.length<=sizeLine) (Jm:vs.length < 64) (cm:Wi prog w s lt vs)
  (k:∀ out:List Value,out.Perm vs->out.Pairwise (fun u v=>lt (v,v) (u,u)=false)->Q (.ref (s.heap.objs.size + 1)) { s with heap:=sortedAll s.heap vs out.toArray }) :
  wpAny (model prog w) A (call (.builtin "sorted") [.ref l]) Q E s:=by
 refine Calls.call_function_entry kind_sorted plain_sorted entry_sorted (args_sorted1 _) ?_;unfold Builtin.«sorted»;refine wpAny_bind (m:=checkCount "sorted" 1 1 _) (wpAny_pure (wpAny_bind (collect_list hl ?_ few)));refine wpAny_bind (wpAny_newList ?_ (by simpa using few));obtain ⟨h1,TH⟩:∃ h1,h1=(s.heap.push (seqObj "list" #[] 0)).update s.heap.objs.size (Obj.mapSeq (· ++ vs.toArray)):=⟨_,rfl⟩
 have z1:h1.objs.size=s.heap.objs.size + 1:=by rw [TH,gE,size_push']
 have lies:(h1.push (seqObj "list" vs.toArray 0)).get? (s.heap.objs.size + 1)=some (seqObj "list" vs.toArray 0):=by
  rw [<-z1];exact ah _ rfl
 have keep:∀ b o,s.heap.get? b=some o->(h1.push (seqObj "list" vs.toArray 0)).get? b=some o:=fun b o q=>by
  have hb:=ae q;refine ZT _ ?_;rw [TH,cG _ _ _ _ (ao hb)];exact ZT _ q
 show wpAny _ _ _ _ _ { s with heap:=((s.heap.push (seqObj "list" #[] 0)).update s.heap.objs.size (Obj.mapSeq (· ++ vs.toArray))).push (seqObj "list" vs.toArray 0) }
 rw [<-TH,z1];refine wpAny_bind (wpAny_holding (wpAny_call_entry slot_list_sort ⟨_,lies,rfl⟩ entry_list_sort (MV (s:={ s with heap:=h1.push (seqObj "list" vs.toArray 0) }) sw lies few Jm ?_ fun out o1 o2=>⟨_,rfl,wpAny_pure ⟨_,rfl,?_⟩⟩) (args_list_sort _)))
 ·intro h2 h' kp;exact cm h2 _ h' fun b o e=>kp b o (ao (aN (ae e))) (keep b o e)
 ·have q:=k out o1 o2;unfold sortedAll at q;rw [<-TH] at q;exact q
theorem MU {a:Addr} {vs:List Value} {n:Nat} {P:Fin->Shared->Prop} (lies:s.heap.get? a=some (seqObj "list" vs.toArray n)) (few:vs.length<=sizeLine) (Jm:vs.length < 64)
  (cm:2<=vs.length->∀ h',(∀ b o,b ≠ a->s.heap.get? b=some o->h'.get? b=some o) ->
   ∃ κ,(∀ (Q:SortKind->Shared->Prop) (E:Value->Shared->Prop),Q κ { s with heap:=h' }->wpAny (model prog w) A (keyKind' vs.toArray) Q E { s with heap:=h' })/\KS prog w A { s with heap:=h' } κ lt (pairsOf vs))
  (k:∀ out:List Value,out.Perm vs->P (.done (.ret .none)) { s with heap:=sortedHeap s.heap a vs out.toArray }) :
  wpAny (model prog w) A (Builtin.«list.sort» ⟨[.ref a],[]⟩) P E s:=by
 have alt:=ae lies;rw [list_sort_plain];refine wpAny_bind (listItems_at lies rfl (wpAny_bind (listUpdate_at lies rfl ?_ (by simpa using few) (aH _))));obtain ⟨c,GU⟩:∃ c,(s.heap.update a (Obj.mapSeq fun _=>#[])).get? a=some (seqObj "list" #[] c):=⟨_,get?_update_seq lies (fun _=>#[])⟩
 refine wpAny_bind (seqEpoch_at GU rfl (wpAny_bind (wpAny_newTuple (wpAny_bind (wpAny_newList (wpAny_holding ?_) (aH _))) (by simpa using few))));obtain ⟨h3,Oj⟩:∃ h3,h3=((s.heap.update a (Obj.mapSeq fun _=>(#[]:Array Value))).push (seqObj "tuple" vs.toArray 0)).push (seqObj "list" #[] 0):=⟨_,rfl⟩
 have Dy:h3.get? a=some (seqObj "list" #[] c):=by
  rw [Oj];exact ZT _ (ZT _ GU)
 have LS:∀ b o,b ≠ a->s.heap.get? b=some o->h3.get? b=some o:=fun b o hb e=>by
  rw [Oj];exact ZT _ (ZT _ ((cG _ _ _ _ hb).trans e))
 show wpAny (model prog w) A _ P E { s with heap:=((s.heap.update a (Obj.mapSeq fun _=>(#[]:Array Value))).push (seqObj "tuple" vs.toArray 0)).push (seqObj "list" #[] 0) }
 rw [<-Oj];have last:∀ An:SortSt,(arrOf An).Perm (pairsOf vs)->P (.done (.ret .none)) { s with heap:=h3.update a (Obj.mapSeq fun _=>(arrOf An).map (·.2)) }:=fun An hp=>by
  have e:(arrOf An).map (·.2)=((arrOf An).toList.map (·.2)).toArray:=by apply cV.mp; simp
  have q:=k _ (Ie hp);rw [<-e] at q;rw [Oj];exact q
 have zl:∀ An:SortSt,(arrOf An).Perm (pairsOf vs)->((arrOf An).map (·.2)).size<=sizeLine + 1:=fun An hp=>by
  rw [eZ,hp.size_eq,pairsOf_size];lia
 have zv:vs.toArray.size=vs.length:=rfl;dsimp only;rcases dt vs.toArray.size 2 with lo | hi
 ·rw [if_pos lo,if_pos lo];refine wpAny_bind (wpAny_pure ?_);rw [StateT.run_pure];refine wpAny_bind (wpAny_pure (wpAny_bind (seqEpoch_at Dy rfl ?_)));have p0:(arrOf (SortSt.mk' general' (vs.toArray.zip vs.toArray) #[] 7 none)).Perm (pairsOf vs):=Array.Perm.refl _;refine wpAny_bind (listUpdate_at Dy rfl ?_ (aH _) (zl _ p0));rw [bne_self_eq_false];exact wpAny_pure (last _ p0)
 ·rw [if_neg (by lia),if_neg (by lia)];obtain ⟨κ,k1,k2⟩:=cm (by lia) h3 LS;refine wpAny_bind (k1 _ _ ?_);refine wpAny_bind (wpAny_mono (HI (a0:=pairsOf vs) (st:=SortSt.mk' κ (vs.toArray.zip vs.toArray) #[] 7 none)
   (Q:=fun _ An=>(arrOf An).Perm (pairsOf vs)/\failedOf An=none) k2 rfl rfl rfl rfl (by rw [pairsOf_size]; lia) (by rw [pairsOf_size]; lia) fun An a1 a2=>⟨a1,a2⟩) ?_ fun _ _ e=>e)
  rintro ⟨u,An⟩ s' ⟨rfl,hp,hf⟩;refine wpAny_bind (seqEpoch_at Dy rfl (wpAny_bind (listUpdate_at Dy rfl ?_ (aH _) (zl _ hp))));dsimp only;rw [hf,bne_self_eq_false];exact wpAny_pure (last An hp)
end
theorem Fz {X:Cx}:Bp X (.builtin "sorted") (fun xs H Q=>∃ (a:Addr) (vs:List V) (kd:Nat->Bool),xs=[.ref a]/\AV X.K H a vs/\(∀ v ∈ vs,IX H kd v)/\vs.length < 64 /\
  ∀ (l:Addr) (Cb:List V),H l=none->Cb.Perm vs->Cb.Pairwise (fun u v=>AN (K4 H v) (K4 H u)=false)->Q (.ref l) (upd H l (.lst Cb))):=by
 intro pins s σ H xs us Q I r h;obtain ⟨a,vs,kd,rfl,ha,hk,Jm,q⟩:=h;obtain ⟨u,rfl,ru⟩:=Cd r;cases ru
 obtain ⟨Az,rv,pl,hz⟩:=I.list ha;have all:∀ {vs:List V} {Az:List Value},A3 vs Az->(∀ v ∈ vs,IX H kd v)->(∀ u ∈ Az,Mo s.heap kd u)/\Az.map (CC s.heap)=vs.map (K4 H):=by
  intro vs;induction vs with
  | nil=>intro Az rv _; cases rv; exact ⟨(fun u hu=>nomatch hu),rfl⟩
  | cons v vs ih=>
   intro Az rv hk;cases rv with
   | cons r1 r2=>
    obtain ⟨a1,a2⟩:=Qp I r1 (hk v aJ);obtain ⟨b1,b2⟩:=ih r2 fun v hv=>hk v (aA _ hv)
    refine ⟨fun u hu=>?_,by rw [au,au,a2,b2]⟩;rcases ZU.mp hu with rfl | hu
    ·exact a1
    ·exact b1 u hu
 refine Q8 (Ti (CC s.heap)) pl.isList (by rw [<-rv.length]; exact hz) (by rw [<-rv.length]; exact Jm) (Gi (all rv hk).1) fun out o1 o2=>?_
 obtain ⟨Cb,Wo,pv⟩:=Gh o1 rv;have keys:=(all Wo fun v hv=>hk v (pv.mem_iff.mp hv)).2;obtain ⟨e,he⟩:=sortedAll_at s.heap Az out.toArray;refine ⟨.ref (s.heap.objs.size + 1),_,I.laid (o:=.lst Cb) (t':=s.toks) (fun b o z=>sortedAll_old z) (aW _) ⟨by rw [pv.length_eq]; exact hz,out,e,Wo,he⟩,rfl,q _ Cb (I.hok.fresh (aW _)) pv ?_⟩;have p1:(out.map (CC s.heap)).Pairwise (fun a b=>AN b a=false):=bX.mpr o2;rw [keys] at p1;exact bX.mp p1
theorem EW (K:ZV) {X:Cx} (h:X.K=K):Bp X (.builtin "sorted") (fun xs H Q=>∃ (a:Addr) (vs:List V) (kd:Nat->Bool),xs=[.ref a]/\AV K H a vs/\(∀ v ∈ vs,IX H kd v)/\vs.length < 64 /\
  ∀ (l:Addr) (Cb:List V),H l=none->Cb.Perm vs->Q (.ref l) (upd H l (.lst Cb))):=by
 subst h;intro pins s σ H xs us Q I r h;obtain ⟨a,vs,kd,rfl,ha,hk,Jm,q⟩:=h;exact Fz (pins:=pins) s σ H _ us Q I r ⟨a,vs,kd,rfl,ha,hk,Jm,fun l Cb hl pv _=>q l Cb hl pv⟩
end L2
namespace L2
open PySem PySem.Spec PyProof.Rows
open PySem.W
section
variable {prog:Program} {w:World} {A:Around} {E:Value->Shared->Prop} {s:Shared} {κ:SortKind} {lt:Keyed->Keyed->Bool} {a0:Array Keyed}
end
section
variable {prog:Program} {w:World} {A:Around} {s:Shared}
end
end L2
namespace L2
open PySem PySem.Spec PyProof.Rows
def Qs (m:Int) (u:AI):AI:=(u.1,u.2.1,u.2.2 * m)
theorem A0.same {H H':Hp} {p:Addr} (h:A0 H p) (s:AD H H'):A0 H' p:=by obtain ⟨_,_,_,z⟩:=h; exact ⟨_,_,_,s _ _ z⟩
open Classical in
noncomputable def dst (ws:List AI) (x y:Str):Int:=if h:∃ n,Gg ws x y n then h.choose else 0
theorem Gg.dst {ws:List AI} {x y:Str} {n:Int} (h:Gg ws x y n):dst ws x y=n:=by
 unfold L2.dst;rw [dif_pos ⟨n,h⟩];exact Gg.uniq (Exists.choose_spec (⟨n,h⟩:∃ n,Gg ws x y n)) h
theorem VW (us:List V) (i:Nat) (h:i < us.length):Mf us none (some (i:Int))=us.take i:=by
 unfold Mf;have e1:HT.sIx us.length 0 none=0:=rfl;have e2:HT.sIx us.length us.length (some (i:Int))=i:=by
  unfold HT.sIx;simp only [];split <;> lia
 rw [e1,e2,e6,Nat.sub_zero]
theorem VX (us:List V) (i:Nat) (h:i < us.length):Mf us (some ((i:Int) + 1)) none=us.drop (i + 1):=by
 unfold Mf;have e1:HT.sIx us.length us.length none=us.length:=rfl;have e2:HT.sIx us.length 0 (some ((i:Int) + 1))=i + 1:=by
  unfold HT.sIx;simp only [];split <;> lia
 rw [e1,e2];exact cq (by rw [cX]; lia)
theorem VZ {K:ZV} {H:Hp} {a b:Addr} {xs ys:List V} {Q:VK} (ha:H a=some (.tup xs)) (hb:H b=some (.tup ys)) (l:xs.length + ys.length<=sizeLine) (q:∀ T H',AD H H'->H' T=some (.tup (xs ++ ys))->Q (.ref T) H'):QU K (.ref a) (.ref b) H Q:=by
 refine ⟨a,b,xs,ys,rfl,rfl,A2.of ha,A2.of hb,l,fun e=>?_,fun _ e=>?_,fun _ _ T hT=>?_⟩
 ·refine q b H (AD.refl _) ?_;rw [hb,e];rfl
 ·refine q a H (AD.refl _) ?_;rw [ha,e,cy]
 ·exact q T _ (Af hT) Ab
theorem Ve {K:ZV} {H:Hp} {t:Addr} {us:List V} {i:Nat} {Q:VK} (ht:H t=some (.tup us)) (hi:i < us.length) (q:∀ Z H',AD H H'->H' Z=some (.tup (us.take i))->Q (.ref Z) H'):SK K (.ref t) none (some (i:Int)) H Q:=by
 refine ⟨t,us,rfl,A2.of ht,fun z=>?_,fun p hp=>q p _ (Af hp) (by rw [Ab,VW us i hi])⟩;have:=z.2;rw [HT.sIx_nat] at this;lia
theorem slHi {K:ZV} {H:Hp} {t:Addr} {us:List V} {i:Nat} {Q:VK} (ht:H t=some (.tup us)) (hi:i < us.length) (q:∀ Z H',AD H H'->H' Z=some (.tup (us.drop (i + 1)))->Q (.ref Z) H'):SK K (.ref t) (some ((i:Int) + 1)) none H Q:=by
 refine ⟨t,us,rfl,A2.of ht,fun z=>?_,fun p hp=>q p _ (Af hp) (by rw [Ab,VX us i hi])⟩;have:=z.1;rw [show ((i:Int) + 1)=((i + 1:Nat):Int) by lia,HT.sIx_nat] at this;lia
theorem Fw {H:Hp}:∀ {us:List V} {ds:List PyData} (i:Nat),AM H us ds->AM H (us.take i) (ds.take i)
 | _,_,0,_=>by rw [gH,gH]; exact .nil
 | _,_,i + 1,.nil=>by rw [gO,gO]; exact .nil
 | _,_,i + 1,.cons h r=>by rw [gz,gz]; exact .cons h (Fw i r)
theorem Fx {H:Hp}:∀ {us:List V} {ds:List PyData} (i:Nat),AM H us ds->AM H (us.drop i) (ds.drop i)
 | _,_,0,h=>by rw [e6,e6]; exact h
 | _,_,i + 1,.nil=>by rw [gP,gP]; exact .nil
 | _,_,i + 1,.cons h r=>by rw [g5,g5]; exact Fx i r
section
variable {prog:Program} {w:World} {A:Around} {E:Value->Shared->Prop} {s:Shared}
end
section
variable {prog:Program} {w:World} {A:Around} {E:Value->Shared->Prop} {s:Shared}
end
end L2
namespace HT
open PySem PySem.Spec PyProof.Rows
section
variable {prog:Program} {w:World} {A:Around} {E:Value->Shared->Prop} {s:Shared}
end
end HT
namespace L2
open PySem PySem.Spec PyProof.Rows
def Q7:Sp:=fun vs H Q _=>∃ (c:Addr) (sites:List Str) (x:V) (d:PyData),vs=[.ref c]/\Sd H c sites x d/\sites.length<=6 /\
 ∀ (H':Hp) (D:Addr) (us:List V) (os:List (List Str)),AD H H'->H D=none->H' D=some (.lst us)->Cu H' us os->Mq sites x os->os.length<=1024->Q (.ref D) H'
section
variable {H:Hp} {c m o t T:Addr} {n:Nat} {xs:List Str} {ws:List AI} {Am Ap:List Be} {x:V} {d:PyData} {ss:List Str} {zs:List (Str × Str)} {qs:List Be} {lv:Int}
end
section
open PySem.SeqAt
open PySem.AutoSeq1 (wpAny_loadPart')
open PySem.MeetsSeq PySem.MeetsSeq2 PySem.MeetsSeq3
end
section
variable {X:Cx} {pins:List (Addr × Obj)} {σ:St} {H:Hp} {s:Shared}
end
section
variable {prog:Program} {w:World} {A:Around} {R:Result->Shared->Prop} {I:Addr} {fp wr:List Addr} {n:Nat} {P:Nat->Value->Prop} {St:Nat->Heap->Prop} {g0:Heap} {kw:List (Str × Value)}
end
section
variable {prog:Program} {w:World} {A:Around} {E:Value->Shared->Prop} {s:Shared}
end
section
variable {prog:Program} {w:World} {A:Around} {E:Value->Shared->Prop} {s:Shared}
end
section
variable {X:Cx} {pins:List (Addr × Obj)} {σ A8:St} {H H':Hp} {s2 s':Shared} {scope:Scope} {cl:List (Str × Addr)} {N:List Str} {fp:List Addr} {C D:Addr} {h₁ h':Heap} {t':Nat}
end
theorem KH (P:Program) (w:World) (K:ZV) {X:Cx} (hP:X.prog=P) (hw:X.w=w) (hK:X.K=K) (hc:X.calm=true):Bp X (.type "set") (fun xs H Q=>∃ (a:Addr) (ss:List Str),xs=[.ref a]/\(AV K H a (ss.map V.str)\/A2 K H a (ss.map V.str))/\ss.length<=1000 /\
  ∀ D,H D=none->Q (.ref D) (upd H D (setS P w D ss))):=by
 subst hP hw;exact Mk K hK hc
theorem O5 {H:Hp} {c m:Addr} {n:Nat} {xs:List Str} {ws:List AI} {Am Ap:List Be} {x:V} {d:PyData} {ss:List Str} {t:Int} (cw:Bv H c m n xs ws Am Ap x d) (o:KP (Am.map (·.1)) ss) (l:ss.length<=10) (tt:FY ws Am Ap ss t):0<=t/\t < 2 ^ 600:=by
 obtain ⟨ds,wd,rfl⟩:=tt;have a:=PH cw.ok1 (by decide) o.2.2 (by lia);have sx:∀ s ∈ ss,s ∈ xs:=fun s hs=>by
  obtain ⟨r,hr,rfl⟩:=ZZ.mp (o.2.2 s hs);exact cw.ok1.sub r hr
 have q:=Kg (B:=10 ^ 30 * 2 ^ 300) (by decide) (l:=(Ap.zip ds).map fun p=>p.1.2 * p.2) fun t ht=>by
  obtain ⟨p,hp,rfl⟩:=ZZ.mp ht;obtain ⟨i,hi,ei⟩:=aF hp;rw [gF] at ei;rw [dW] at hi;have er:Ap[i]? = some p.1:=by rw [ZS (by lia),<-ei]
  have ed:ds[i]? = some p.2:=by rw [ZS (by lia),<-ei]
  have rm:=ZW er;obtain ⟨⟨s,hs,hd⟩,_⟩:=wd.2 i _ _ er ed;have md:=wd.2 i _ _ er ed;have b:0<=p.2/\p.2 < 2 ^ 300:=by
   obtain ⟨k,w,k0,k1⟩:=cw.map.sums cw.n1 cw.n30 s (sx s hs) p.1.1 (cw.ok2.sub _ rm);exact ⟨hd.pos' fun u hu=>(cw.map.at'.wn u hu).2.2.1,cx (md.2 s hs k w) k1⟩
  have cb:=cw.ok2.lo _ rm;exact ⟨dz (by lia) b.1,fh (by lia) (by lia) b.1 (by decide)⟩
 have l2:=cw.l2;have zl:(Ap.zip ds).length<=30:=by rw [dW]; lia
 rw [ZR] at q;have:((Ap.zip ds).length:Int) * (10 ^ 30 * 2 ^ 300)<=30 * (10 ^ 30 * 2 ^ 300):=aM (by lia) (by decide);have c:(30:Int) * (10 ^ 30 * 2 ^ 300) < 2 ^ 500:=by decide
 have e:(2:Int) ^ 500 + 2 ^ 500<=2 ^ 600:=by decide +kernel
 unfold Gq;refine ⟨by lia,dA ?_ e⟩;lia
def F6:Sp:=fun vs H Q _=>∃ (c m:Addr) (n:Nat) (xs:List Str) (ws:List AI) (Am Ap:List Be) (x:V) (d:PyData),vs=[.ref c]/\Bv H c m n xs ws Am Ap x d/\Am.length<=6 /\
 ∀ (H':Hp) (v:V) (k:Int × List Str),AD H H'->Ox H' v k->Nu ws Am Ap x k->Q v H'
end L2
namespace L2
open PySem
def sm {α:Type} (l:List α) (g:α->Int):Int:=(l.map g).sum
section
variable {α β:Type} {l:List α} {g h:α->Int}
theorem M9:sm ([]:List α) g=0:=rfl
theorem Bi {a:α}:sm (a :: l) g=g a + sm l g:=by simp [sm]
theorem G6 (e:∀ x ∈ l,g x<=h x):sm l g<=sm l h:=by
 induction l with
 | nil=>exact bJ _
 | cons a l ih=>
  rw [Bi,Bi];exact gQ (e a aJ) (ih fun x hx=>e x (aA _ hx))
theorem Ci (e:∀ x ∈ l,g x=h x):sm l g=sm l h:=dZ (G6 fun x hx=>eM (e x hx)) (G6 fun x hx=>eM (e x hx).symm)
theorem Kh:sm l (fun _=>0)=0:=by
 induction l with
 | nil=>rfl
 | cons a l ih=>rw [Bi,ih]; rfl
theorem Us (e:∀ x ∈ l,0<=g x):0<=sm l g:=by
 have:=G6 (g:=fun _=>0) (h:=g) e;rwa [Kh] at this
theorem MB:sm l (fun x=>g x + h x)=sm l g + sm l h:=by
 induction l with
 | nil=>rfl
 | cons a l ih=>rw [Bi,Bi,Bi,ih]; lia
theorem MA (c:Int):sm l (fun x=>c * g x)=c * sm l g:=by
 induction l with
 | nil=>simp [sm]
 | cons a l ih=>rw [Bi,Bi,ih,h7]
theorem Vc [DecidableEq α] (nd:l.Nodup) {x:α} (hx:x ∈ l) (v:α->Int):sm l (fun o=>if x=o then v o else 0)=v x:=by
 induction l with
 | nil=>cases hx
 | cons a l ih=>
  rw [br] at nd;rw [Bi];by_cases e:x=a
  ·subst e;rw [if_pos rfl,Ci (h:=fun _=>0) fun o ho=>if_neg fun (z:x=o)=>nd.1 (z ▸ ho),Kh,fX]
  ·rw [if_neg e,ih nd.2 ((ZU.mp hx).resolve_left e),bQ]
theorem Hx {l':List α} (p:l.Perm l'):sm l g=sm l' g:=by
 induction p with
 | nil=>rfl
 | cons a _ ih=>rw [Bi,Bi,ih]
 | swap a b l=>rw [Bi,Bi,Bi,Bi]; lia
 | trans _ _ h1 h2=>rw [h1,h2]
theorem Q9 {l':List α}:sm (l ++ l') g=sm l g + sm l' g:=by
 induction l with
 | nil=>rw [eW,M9,bQ]
 | cons a l ih=>rw [eP,Bi,Bi,ih,eG]
theorem J1 (p:α->Bool):sm (l.filter p) g=sm l fun x=>if p x=true then g x else 0:=by
 induction l with
 | nil=>rfl
 | cons a l ih=>
  rw [Bi,bZ];by_cases e:p a=true
  ·rw [if_pos e,if_pos e,Bi,ih]
  ·rw [if_neg e,if_neg e,ih,bQ]
theorem FL (v:α->Int):∀ (l:List α),l ≠ []->∃ a ∈ l,∀ b ∈ l,v a<=v b
 | [],h=>absurd rfl h
 | [a],_=>⟨a,aJ,fun b hb=>by rw [ar.mp hb]; exact bJ _⟩
 | a :: b :: l,_=>by
  obtain ⟨c,hc,hm⟩:=FL v (b :: l) (by simp);by_cases e:v a<=v c
  ·exact ⟨a,aJ,fun x hx=>by
    rcases ZU.mp hx with rfl | hx
    ·exact bJ _
    ·exact cF e (hm x hx)⟩
  ·exact ⟨c,aA _ hc,fun x hx=>by
    rcases ZU.mp hx with rfl | hx
    ·lia
    ·exact hm x hx⟩
end
def sW (rs:List Be) (g:Str->Int):Int:=sm rs fun r=>r.2 * g r.1
section
variable {rs:List Be} {g h:Str->Int}
theorem QI (w:∀ r ∈ rs,0<=r.2) (e:∀ r ∈ rs,g r.1<=h r.1):sW rs g<=sW rs h:=G6 fun r hr=>bK (e r hr) (w r hr)
theorem QJ:sW rs (fun y=>g y + h y)=sW rs g + sW rs h:=by
 unfold sW;rw [<-MB];exact Ci fun r _=>h7 ..
theorem sW_nn (w:∀ r ∈ rs,0<=r.2) (e:∀ r ∈ rs,0<=g r.1):0<=sW rs g:=Us fun r hr=>dz (w r hr) (e r hr)
end
section
variable {D:Str->Str->Int} {P:Str->Prop} {f:Str->Int} {rs:List Be} {S O:List Str} {σ ω:Str->Str}
end
section
variable {ws:List AI} {Am Ap:List Be} {xs op zs:List Str} {x:V}
theorem Fs (g:Str->Int):∀ rs:List Be,Gq rs (rs.map fun r=>g r.1)=sW rs g
 | []=>rfl
 | r :: rs=>by
  unfold sW;rw [Bi,<-sW,<-Fs g rs];simp [Gq]
end
end L2
namespace L2
open PySem PySem.Spec PyProof.Rows
section
variable {P:Program} {w:World} {K:ZV} {mg:Str->Option Value} {base:Heap}
end
section
variable {tp:Bool} {X:Cx} {pins:List (Addr × Obj)} {σ:St} {R:Result->Shared->Prop} {f l I S:Addr} {kw:List (Str × Value)} {vs:List V} {G:Hp->Prop} {Ky:Hp->Nat->V->Prop} {bt:Nat->Nat->Bool}
end
section
variable {X:Cx} {pins:List (Addr × Obj)} {σ:St} {H:Hp} {s:Shared} {c P:Addr} {args:Arguments} {body:Expr} {sc:Scope} {lp:Pos} {q:Str}
end
section
variable {X:Cx} {pins:List (Addr × Obj)} {σ:St} {H:Hp} {c P f:Addr} {args:Arguments} {body:Expr} {sc:Scope} {lp:Pos} {q y:Str}
end
def At (K:ZV) (n:Str) (st:Stmt) (f:Addr) (fd:FuncData):Prop:=bC K mainGlobals n=some (some (.ref f))/\DP K n n st f fd
section
variable {K:ZV} {h:Heap} {mg:Str->Option Value} {n p q r t u:Str} {st:Stmt} {f:Addr} {fd:FuncData}
theorem at_mk {oc:Value} {od an:Option Addr} {osl:Array (Option Value)} {kV doc pm Cf ct:Value} (a:bC K mainGlobals n=some (some (.ref f))) (l:K.lookup f=some ⟨oc,od,.func (ck n n (El st) (CT st) (Ay st) .none kV doc pm an Cf ct),osl⟩)
  (c:dQ K Cf n=true) (k:dP K (.ref f)=true):At K n st f (ck n n (El st) (CT st) (Ay st) .none kV doc pm an Cf ct):=⟨a,VN l c k⟩
abbrev BA (n:Str) (st:Stmt) (us:List Value) (ps:List (Str × Value)):Prop:=∀ (kV doc pm:Value) (an:Option Addr) (Cf ct:Value),bindArgs (ck n n (El st) (CT st) (Ay st) .none kV doc pm an Cf ct) ⟨us,[]⟩=pure ps
theorem Wv (X:K.In h) (G:h.Ns mainGlobals mg) (A:At K n st f fd) (hb:∀ x,BA n st [x] [(p,x)]):Fn K mg n st [p] f fd:=⟨A.2,e7 X G A.1,A.2.binds fun _ _ _ _ _ _ us hl=>by obtain ⟨x,rfl⟩:=len1 hl; exact hb ..⟩
theorem Ni (X:K.In h) (G:h.Ns mainGlobals mg) (A:At K n st f fd) (hb:∀ x y,BA n st [x,y] [(p,x),(q,y)]):Fn K mg n st [p,q] f fd:=⟨A.2,e7 X G A.1,A.2.binds fun _ _ _ _ _ _ us hl=>by obtain ⟨x,y,rfl⟩:=len2 hl; exact hb ..⟩
theorem fa3 (X:K.In h) (G:h.Ns mainGlobals mg) (A:At K n st f fd) (hb:∀ x y z,BA n st [x,y,z] [(p,x),(q,y),(r,z)]):Fn K mg n st [p,q,r] f fd:=⟨A.2,e7 X G A.1,A.2.binds fun _ _ _ _ _ _ us hl=>by obtain ⟨x,y,z,rfl⟩:=len3 hl; exact hb ..⟩
end
section
variable {P:Program} {w:World} {K:ZV} {mg:Str->Option Value} {base:Heap}
end
section
variable {prog:Program} {w:World} {A:Around} {R:Result->Shared->Prop} {g0:Heap} {D it l:Addr} {vs:List Value} {ps:List (List AK × Addr × Value)}
end
section
variable {prog:Program} {w:World} {A:Around} {E:Value->Shared->Prop} {s:Shared}
end
theorem TU {xs:List V} (h:xs ≠ []):∃ v,Ff xs (-1)=some v/\xs[xs.length - 1]? = some v:=by
 obtain ⟨l,v,rfl⟩:∃ l v,xs=l ++ [v]:=⟨xs.dropLast,xs.getLast h,(List.dropLast_concat_getLast h).symm⟩
 exact ⟨v,RV _ _,by simp⟩
section
variable {P:Program} {w:World} {stack:List Env} {fs:List Addr} {H0 H:Hp} {h0 h1 h2:Heap} {x T:Addr}
end
section
variable {X:Cx} {pins:List (Addr × Obj)} {σ:St} {H:Hp} {s1:Shared} {x T:Addr} {C a0:Value} {E:XK} {E':Value->Shared->Prop}
end
section
variable {X:Cx} {E:XK} {c:Str} {C:Addr} {bm:List Value} {a:Expr} {as:List Expr} {ta:TA} {np E1 pos:Pos}
end
section
variable {X:Cx} {pins:List (Addr × Obj)} {σ:St} {H H1 H':Hp} {s s1 sA:Shared} {x T:Addr} {C a0:Value} {E:Value->Shared->Prop}
end
section
variable {X:Cx} {k i:Nat} {f C:Addr} {fd:FuncData} {ps:List Str} {sp:Sp} {y z c:Str} {bm:List Value} {p pos apos pz cp hpos tpos:Pos} {a:Expr} {as:List Expr} {ta:TA} {b0:Stmt} {suite:List Stmt} {th:TS}
end
section
variable {X:Cx} {pins:List (Addr × Obj)} {σ:St} {R:Result->Shared->Prop} {f l I S:Addr} {kw:List (Str × Value)} {vs:List V} {G:Hp->Prop} {Ky:Hp->Nat->V->Prop} {bt:Nat->Nat->Bool}
end
section
variable {P:Program} {w:World} {K:ZV} {mg:Str->Option Value} {base:Heap}
end
def DG (k:Int) (ws:List AI):List AI:=ws.map fun u=>(u.1,u.2.1,u.2.2 * k)
theorem BP.times {ws:List AI} {x y:Str} {l k:Int} (h:BP ws x y l):BP (DG k ws) x y (l * k):=by
 obtain ⟨u,hu,e,rfl⟩:=h;exact ⟨_,ZZ.mpr ⟨u,hu,rfl⟩,e,rfl⟩
theorem BP.untimes {ws:List AI} {x y:Str} {l k:Int} (h:BP (DG k ws) x y l):∃ l0,l=l0 * k/\BP ws x y l0:=by
 obtain ⟨u,hu,e,rfl⟩:=h;obtain ⟨v,hv,rfl⟩:=ZZ.mp hu;exact ⟨v.2.2,rfl,v,hv,e,rfl⟩
theorem Bu.times {ws:List AI} {x y:Str} {m k:Int} (h:Bu ws x y m):Bu (DG k ws) x y (m * k):=by
 induction h with
 | nil x=>rw [eN]; exact .nil x
 | cons e _ ih=>rw [dh]; exact .cons e.times ih
theorem Bu.untimes {ws:List AI} {x y:Str} {m k:Int} (h:Bu (DG k ws) x y m):∃ m0,m=m0 * k/\Bu ws x y m0:=by
 induction h with
 | nil x=>exact ⟨0,(eN k).symm,.nil x⟩
 | cons e _ ih=>
  obtain ⟨l0,rfl,e0⟩:=e.untimes;obtain ⟨m0,rfl,h0⟩:=ih;exact ⟨l0 + m0,(dh ..).symm,.cons e0 h0⟩
theorem Gg.times {ws:List AI} {x y:Str} {n k:Int} (hk:0<=k) (h:Gg ws x y n):Gg (DG k ws) x y (n * k):=by
 refine ⟨h.1.times,fun m g=>?_⟩;obtain ⟨m0,rfl,g0⟩:=g.untimes;exact aM (h.2 m0 g0) hk
theorem Gg.untimes {ws:List AI} {x y:Str} {n k:Int} (hk:1<=k) (h:Gg (DG k ws) x y n):∃ n0,Gg ws x y n0:=by
 obtain ⟨n0,rfl,g0⟩:=h.1.untimes;refine ⟨n0,g0,fun m g=>?_⟩;have:=h.2 _ g.times;exact Int.le_of_mul_le_mul_right this (by lia)
theorem JK (ws:List AI) (x y:Str) {k:Int} (hk:1<=k):dst (DG k ws) x y=dst ws x y * k:=by
 by_cases h:∃ n,Gg ws x y n
 ·obtain ⟨n,hn⟩:=h;rw [hn.dst,(hn.times (k:=k) (by lia)).dst]
 ·have h':¬ ∃ n,Gg (DG k ws) x y n:=fun ⟨n,hn⟩=>h (hn.untimes hk)
  unfold dst;rw [dif_neg h,dif_neg h',eN]
theorem VT {ws:List AI} (hp:∀ u ∈ ws,1<=u.2.2) {x y:Str} {k:Int} (h:Bu ws x y k):∃ n,Gg ws x y n:=by
 have key:∀ (m:Nat) (k:Int),k.toNat<=m->Bu ws x y k->∃ n,Gg ws x y n:=by
  intro m;induction m with
  | zero=>
   intro k hk h;exact ⟨k,h,fun j g=>by have:=h.pos hp; have:=g.pos hp; lia⟩
  | succ m ih=>
   intro k hk h;by_cases z:∀ j,Bu ws x y j->k<=j
   ·exact ⟨k,h,z⟩
   ·obtain ⟨j,hj⟩:=Classical.not_forall.mp z;obtain ⟨g,BE⟩:=Classical.not_imp.mp hj;have:=g.pos hp;exact ih j (by lia) g
 exact key k.toNat k (ZX _) h
structure Pc (xs:List Str) (ws:List AI) (Am Ap:List Be):Prop where
 hd:∀ x ∈ xs,∀ y ∈ xs,Gg ws x y (dst ws x y)
 lo:∀ x ∈ xs,∀ y ∈ xs,0<=dst ws x y
 ok1:Bo xs 0 Am
 ok2:Bo xs 1 Ap
theorem Bv.pc {H:Hp} {c m:Addr} {n:Nat} {xs:List Str} {ws:List AI} {Am Ap:List Be} {x:V} {d:PyData} (h:Bv H c m n xs ws Am Ap x d):Pc xs ws Am Ap:=by
 obtain ⟨_,_,wp,_⟩:=h.map.web h.n1 h.n30;have ex:∀ x ∈ xs,∀ y ∈ xs,∃ n,Gg ws x y n:=fun x hx y hy=>by
  obtain ⟨k,a,_⟩:=h.map.sums h.n1 h.n30 x hx y hy;exact VT wp a
 refine ⟨fun x hx y hy=>?_,fun x hx y hy=>?_,h.ok1,h.ok2⟩
 ·obtain ⟨n,hn⟩:=ex x hx y hy;rw [hn.dst]; exact hn
 ·obtain ⟨n,hn⟩:=ex x hx y hy;rw [hn.dst]; exact hn.1.pos wp
noncomputable def mD (ws:List AI) (ss:List Str) (y:Str):Int:=if h:ss ≠ [] then dst ws ((FL (fun s=>dst ws s y) ss h).choose) y else 0
theorem JA {ws:List AI} {ss:List Str} {y s:Str} (hs:s ∈ ss):mD ws ss y<=dst ws s y:=by
 have h:ss ≠ []:=fun z=>by rw [z] at hs; cases hs
 unfold mD;rw [dif_pos h];exact (FL (fun s=>dst ws s y) ss h).choose_spec.2 s hs
theorem Iv {ws:List AI} {ss:List Str} (h:ss ≠ []) (y:Str):∃ s ∈ ss,mD ws ss y=dst ws s y:=by
 unfold mD;rw [dif_pos h];exact ⟨_,(FL (fun s=>dst ws s y) ss h).choose_spec.1,rfl⟩
theorem Gs {ws:List AI} {ss zs:List Str} (h:ss ≠ []) (sub:∀ s ∈ ss,s ∈ zs) (y:Str):mD ws zs y<=mD ws ss y:=by
 obtain ⟨s,hs,e⟩:=Iv (ws:=ws) h y;rw [e]; exact JA (sub s hs)
theorem Vs {ws:List AI} {ss zs:List Str} (h:ss ≠ []) (e:∀ s,s ∈ ss ↔ s ∈ zs) (y:Str):mD ws ss y=mD ws zs y:=by
 have hz:zs ≠ []:=fun z=>by
  obtain ⟨s,hs⟩:=bE ss h;have:=(e s).mp hs;rw [z] at this; cases this
 exact dZ (Gs hz (fun s hs=>(e s).mpr hs) y) (Gs h (fun s hs=>(e s).mp hs) y)
noncomputable def Jn (ws:List AI) (Am Ap:List Be) (ss:List Str):Int:=sm ss (A1 Am) + sW Ap (mD ws ss)
section
variable {xs:List Str} {ws:List AI} {Am Ap:List Be} {x:V} {ss:List Str}
theorem Pc.wd (h:Pc xs ws Am Ap) (ne:ss ≠ []) (sub:∀ s ∈ ss,s ∈ xs):IW ws ss Ap (Ap.map fun r=>mD ws ss r.1):=by
 refine ⟨ZR ..,fun i r d e1 e2=>?_⟩;rw [ai,e1] at e2;cases e2
 have hr:=h.ok2.sub r (ZW e1);obtain ⟨s,hs,e⟩:=Iv (ws:=ws) ne r.1;refine ⟨⟨s,hs,?_⟩,fun t ht m w=>?_⟩
 ·show Bu ws s r.1 (mD ws ss r.1)
  rw [e]; exact (h.hd s (sub s hs) r.1 hr).1
 ·exact cF (JA ht) ((h.hd t (sub t ht) r.1 hr).2 m w)
theorem Pc.total (h:Pc xs ws Am Ap) (ne:ss ≠ []) (sub:∀ s ∈ ss,s ∈ xs):FY ws Am Ap ss (Jn ws Am Ap ss):=⟨_,h.wd ne sub,by rw [Fs (mD ws ss)]; rfl⟩
theorem Pc.ways (h:Pc xs ws Am Ap) (ne:ss ≠ []) (sub:∀ s ∈ ss,s ∈ xs) {gs:List AI} (g:Fh ws ss Ap gs):(gs.map fun g=>A1 Ap g.1 * g.2.2).sum=sW Ap (mD ws ss):=by
 have e:Kb Ap gs=_:=My g h.ok2.nd;rw [<-Fs (mD ws ss),<-g.ways.uniq (h.wd ne sub)];exact e
theorem Pc.w0 (h:Pc xs ws Am Ap):∀ r ∈ Ap,0<=r.2:=fun r hr=>by have:=(h.ok2.lo r hr).1; lia
theorem Pc.m0 (h:Pc xs ws Am Ap) (ne:ss ≠ []) (sub:∀ s ∈ ss,s ∈ xs) {y:Str} (hy:y ∈ xs):0<=mD ws ss y:=by
 obtain ⟨s,hs,e⟩:=Iv (ws:=ws) ne y;rw [e]; exact h.lo s (sub s hs) y hy
theorem R0 {t u:Int} {a b:List Str} (h:AN (Cr (t,a)) (Cr (u,b))=false):u<=t:=by
 by_cases e:t=u
 ·lia
 ·have h':(if C3.i t=C3.i u then AN (a.map C3.s) (b.map C3.s) else CL (C3.i t) (C3.i u))=false:=h;rw [if_neg (fun z=>e (by injection z))] at h';have h2:decide (t < u)=false:=h';have:=of_decide_eq_false h2;lia
theorem Nr.sx (h:Pc xs ws Am Ap) (o:Nr (Am.map (·.1)) x ss):∀ s ∈ ss,s ∈ xs:=fun s hs=>by
 obtain ⟨r,hr,rfl⟩:=ZZ.mp (o.2.1.subset hs);exact h.ok1.sub r hr
structure E4 (ws:List AI) (Am Ap:List Be) (x:V) (k:Int × List Str):Prop where
 op:Nr (Am.map (·.1)) x k.2
 is:k.1=Jn ws Am Ap k.2
 le:∀ zs,Nr (Am.map (·.1)) x zs->AN (Cr (Jn ws Am Ap zs,zs)) (Cr k)=false
theorem Nu.bst (h:Pc xs ws Am Ap) {k:Int × List Str} (b:Nu ws Am Ap x k):E4 ws Am Ap x k:=
 ⟨b.1,b.2.1.uniq (h.total b.1.1 (b.1.sx h)),fun zs o=>b.2.2 zs _ o (h.total o.1 (o.sx h))⟩
theorem E4.low {k:Int × List Str} (b:E4 ws Am Ap x k) {zs:List Str} (o:Nr (Am.map (·.1)) x zs):k.1<=Jn ws Am Ap zs:=R0 (b.le zs o)
theorem E4.uniq {k k':Int × List Str} (h:E4 ws Am Ap x k) (g:E4 ws Am Ap x k'):k=k':=by
 have a:=g.le k.2 h.op;have b:=h.le k'.2 g.op;rw [<-h.is] at a;rw [<-g.is] at b;exact R5 (K2 _ _ a b)
theorem E4.any (h:Pc xs ws Am Ap) {k:Int × List Str} (b:E4 ws Am Ap .non k) {zs:List Str} (o:KP (Am.map (·.1)) zs):k.1<=Jn ws Am Ap zs:=by
 have sn:=h.ok1.nd;have mem:∀ s,s ∈ (Am.map (·.1)).filter (fun s=>decide (s ∈ zs)) ↔ s ∈ zs:=fun s=>by
  rw [bq,decide_eq_true_eq];exact ⟨fun z=>z.2,fun z=>⟨o.2.2 s z,z⟩⟩
 have ne:(Am.map (·.1)).filter (fun s=>decide (s ∈ zs)) ≠ []:=fun z=>by
  obtain ⟨s,hs⟩:=bE zs o.1;have:=(mem s).mpr hs;rw [z] at this; cases this
 have pm:((Am.map (·.1)).filter (fun s=>decide (s ∈ zs))).Perm zs:=(dy (sn.filter _) o.2.1).mpr mem;have e:Jn ws Am Ap ((Am.map (·.1)).filter (fun s=>decide (s ∈ zs)))=Jn ws Am Ap zs:=by
  unfold Jn;rw [Hx pm];congr 1;exact Ci fun r _=>by rw [Vs ne mem]
 rw [<-e];exact b.low ⟨ne,dk,rfl⟩
theorem E4.mono {Hl:List Be} {x':V} {k k':Int × List Str} (b:E4 ws Am Ap x k) (b':E4 ws Hl Ap x' k') (sub:∀ zs,Nr (Hl.map (·.1)) x' zs->Nr (Am.map (·.1)) x zs/\∀ s ∈ zs,A1 Am s=A1 Hl s):k.1<=k'.1:=by
 obtain ⟨o,e⟩:=sub k'.2 b'.op;have:=b.low o;rw [b'.is];unfold Jn at *;rwa [Ci e] at this
theorem E4.congr {x':V} {k k':Int × List Str} (b:E4 ws Am Ap x k) (b':E4 ws Am Ap x' k') (e:∀ zs,Nr (Am.map (·.1)) x zs ↔ Nr (Am.map (·.1)) x' zs):k=k':=
 b.uniq (x:=x) ⟨(e _).mpr b'.op,b'.is,fun zs o=>b'.le zs ((e _).mp o)⟩
end
section
variable {xs:List Str} {ws:List AI} {Am Ap:List Be} {a b e c:List Str}
structure PL (a b e c:List Str):Prop where
 na:a.Nodup
 nb:b.Nodup
 ne:e.Nodup
 nc:c.Nodup
 me:∀ s,s ∈ e ↔ s ∈ a\/s ∈ b
 mc:∀ s,s ∈ c ↔ s ∈ a/\s ∈ b
 c0:c ≠ []
theorem PL.a0 (h:PL a b e c):a ≠ []:=fun z=>by
 obtain ⟨s,hs⟩:=bE c h.c0;have:=((h.mc s).mp hs).1;rw [z] at this; cases this
theorem PL.b0 (h:PL a b e c):b ≠ []:=fun z=>by
 obtain ⟨s,hs⟩:=bE c h.c0;have:=((h.mc s).mp hs).2;rw [z] at this; cases this
theorem PL.e0 (h:PL a b e c):e ≠ []:=fun z=>by
 obtain ⟨s,hs⟩:=bE a h.a0;have:=(h.me s).mpr (.inl hs);rw [z] at this; cases this
theorem PL.sm (h:PL a b e c) (f:Str->Int):sm e f + sm c f=sm a f + sm b f:=by
 have p1:e.Perm (a ++ b.filter fun s=>!decide (s ∈ a)):=(dy h.ne (b8.mpr ⟨h.na,h.nb.filter _,fun s hs t ht z=>by
  have:=(bq.mp ht).2;rw [<-z,decide_eq_true hs] at this;cases this⟩)).mpr fun s=>by
   rw [h.me,aG,bq];constructor
   ·rintro (z | z)
    ·exact .inl z
    ·by_cases q:s ∈ a
     ·exact .inl q
     ·exact .inr ⟨z,by rw [decide_eq_false q]; rfl⟩
   ·rintro (z | z)
    ·exact .inl z
    ·exact .inr z.1
 have p2:c.Perm (b.filter fun s=>decide (s ∈ a)):=(dy h.nc (h.nb.filter _)).mpr fun s=>by
  rw [h.mc,bq,decide_eq_true_eq];exact ⟨fun z=>⟨z.2,z.1⟩,fun z=>⟨z.2,z.1⟩⟩
 rw [Hx p1,Hx p2,Q9,J1,J1];have:L2.sm b f=L2.sm b (fun x=>if (!decide (x ∈ a))=true then f x else 0) + L2.sm b (fun x=>if decide (x ∈ a)=true then f x else 0):=by
  rw [<-MB];refine Ci fun s _=>?_
  by_cases q:s ∈ a
  ·rw [decide_eq_true q]; simp
  ·rw [decide_eq_false q]; simp
 lia
theorem PL.less (h:PL a b e c) (p:Pc xs ws Am Ap):sW Ap (mD ws e)<=sW Ap (mD ws a)/\sW Ap (mD ws e)<=sW Ap (mD ws b):=
 ⟨QI p.w0 fun r _=>Gs h.a0 (fun s hs=>(h.me s).mpr (.inl hs)) r.1,QI p.w0 fun r _=>Gs h.b0 (fun s hs=>(h.me s).mpr (.inr hs)) r.1⟩
theorem PL.more (h:PL a b e c) (p:Pc xs ws Am Ap):sW Ap (mD ws a) + sW Ap (mD ws b)<=sW Ap (mD ws e) + sW Ap (mD ws c):=by
 rw [<-QJ,<-QJ];refine QI p.w0 fun r _=>?_
 have c1:=Gs (ws:=ws) h.c0 (fun s hs=>((h.mc s).mp hs).1) r.1;have c2:=Gs (ws:=ws) h.c0 (fun s hs=>((h.mc s).mp hs).2) r.1;obtain ⟨s,hs,q⟩:=Iv (ws:=ws) h.e0 r.1;rcases (h.me s).mp hs with z | z
 ·have:=JA (ws:=ws) (y:=r.1) z;lia
 ·have:=JA (ws:=ws) (y:=r.1) z;lia
end
section
variable {xs:List Str} {ws:List AI} {Am Ap:List Be} {x:V}
theorem Rq {rs Ez:List Be} (h:Ez.map (·.1)=rs.map (·.1)) {x:V} {zs:List Str} (o:Nr (Ez.map (·.1)) x zs):Nr (rs.map (·.1)) x zs:=by rw [<-h]; exact o
theorem E4.site {Hl:List Be} {k k':Int × List Str} {nm:Str} {more:Int} (b:E4 ws Am Ap x k) (b':E4 ws Hl Ap x k') (hn:Hl.map (·.1)=Am.map (·.1)) (nd:(Am.map (·.1)).Nodup) (m0:0<=more)
  (up:∀ s ∈ Am.map (·.1),A1 Hl s=A1 Am s + if nm=s then more else 0):k.1<=k'.1/\k'.1<=k.1 + more:=by
 have o':=Rq hn b'.op;have o:Nr (Hl.map (·.1)) x k.2:=by rw [hn]; exact b.op
 have l1:=b.low o';have l2:=b'.low o;rw [b'.is,b.is];rw [b.is] at l1;rw [b'.is] at l2;have e1:sm k'.2 (A1 Am)<=sm k'.2 (A1 Hl):=G6 fun s hs=>by
  rw [up s (o'.2.1.subset hs)];split <;> lia
 have e2:sm k.2 (A1 Hl)<=sm k.2 (A1 Am) + more:=by
  rw [Ci (l:=k.2) (h:=fun s=>A1 Am s + if nm=s then more else 0) fun s hs=>up s (b.op.2.1.subset hs),MB];by_cases q:nm ∈ k.2
  ·rw [Vc (b.op.2.1.nodup nd) q fun _=>more];exact bJ _
  ·rw [Ci (l:=k.2) (g:=fun s=>if nm=s then more else 0) (h:=fun _=>0) fun s hs=>if_neg fun z=>q (by rw [z]; exact hs),Kh];lia
 unfold Jn at *;lia
theorem E4.folk {SH:List Be} {k k':Int × List Str} (b:E4 ws Am Ap x k) (b':E4 ws Am SH x k') (le:∀ zs,Nr (Am.map (·.1)) x zs->sW Ap (mD ws zs)<=sW SH (mD ws zs)):k.1<=k'.1:=by
 have l1:=b.low b'.op;have:=le _ b'.op;rw [b'.is];unfold Jn at *;lia
def BM (rs:List Be) (p:Str) (more:Int):List Be:=if p ∈ rs.map (·.1) then rs.map (fun r=>if r.1=p then (r.1,r.2 + more) else r) else rs ++ [(p,more)]
theorem SQ {rs:List Be} {p:Str} {more:Int} {g:Str->Int} (m0:0<=more) (g0:∀ r ∈ rs,0<=g r.1) (gp:0<=g p):sW rs g<=sW (BM rs p more) g:=by
 unfold BM;split
 ·unfold sW;have e:sm (rs.map (fun r=>if r.1=p then (r.1,r.2 + more) else r)) (fun r=>r.2 * g r.1)=sm rs (fun r=>(if r.1=p then (r.1,r.2 + more) else r).2 * g (if r.1=p then (r.1,r.2 + more) else r).1):=by
   unfold sm; rw [aT]; rfl
  rw [e];refine G6 fun r hr=>?_
  by_cases q:r.1=p
  ·rw [if_pos q];show r.2 * g r.1<=(r.2 + more) * g r.1
   exact aM (by lia) (g0 r hr)
  ·rw [if_neg q];exact bJ _
 ·unfold sW;rw [Q9];have:0<=more * g p:=dz m0 gp;show _<=_ + sm [(p,more)] _
  rw [Bi,M9];show _<=sm rs _ + (more * g p + 0)
  lia
def CB (k:Int) (rs:List Be):List Be:=rs.map fun r=>(r.1,r.2 * k)
theorem Dc (k:Int) (rs:List Be):(CB k rs).map (·.1)=rs.map (·.1):=by unfold CB; rw [aT]; rfl
theorem Mg (k:Int) (s:Str):∀ rs:List Be,A1 (CB k rs) s=A1 rs s * k
 | []=>by show (0:Int)=0 * k; rw [eN]
 | r :: rs=>by
  have ih:=Mg k s rs;unfold A1 at *;unfold CB at *;rw [au,bM,bM];by_cases q:r.1=s
  ·rw [decide_eq_true q]; rfl
  ·rw [decide_eq_false q];exact ih
theorem sm_T (k:Int) (ss:List Str) (rs:List Be):sm ss (A1 (CB k rs))=sm ss (A1 rs) * k:=by
 rw [Ci (h:=fun s=>k * A1 rs s) fun s _=>by rw [Mg,cR],MA,cR]
theorem sW_T (k:Int) (rs:List Be) (g:Str->Int):sW (CB k rs) g=sW rs g * k:=by
 unfold sW CB;have e:sm (rs.map fun r=>(r.1,r.2 * k)) (fun r=>r.2 * g r.1)=sm rs fun r=>k * (r.2 * g r.1):=by
  unfold sm;rw [aT];congr 1;refine bD fun r _=>?_
  show r.2 * k * g r.1=k * (r.2 * g r.1)
  rw [cR r.2 k,gW]
 rw [e,MA,cR]
theorem mD_T {k:Int} (hk:1<=k) {ss:List Str} (ne:ss ≠ []) (y:Str):mD (DG k ws) ss y=mD ws ss y * k:=by
 obtain ⟨s,hs,e⟩:=Iv (ws:=ws) ne y;obtain ⟨t,ht,f⟩:=Iv (ws:=DG k ws) ne y;have a:=JA (ws:=DG k ws) (y:=y) hs;have b:=JA (ws:=ws) (y:=y) ht;rw [JK ws s y hk] at a;rw [JK ws t y hk] at f;have c:mD ws ss y * k<=dst ws t y * k:=aM b (by lia);rw [e] at c ⊢;exact dZ a (by rw [f]; exact c)
theorem RS {k:Int} (hk:1<=k) {ss:List Str} (ne:ss ≠ []):Jn (DG k ws) (CB k Am) Ap ss=Jn ws Am Ap ss * k:=by
 unfold Jn;rw [sm_T,dh];congr 1;unfold sW;rw [Ci (h:=fun r=>k * (r.2 * mD ws ss r.1)) fun r _=>by rw [mD_T hk ne,<-gW,cR],MA,cR]
theorem RR {k:Int} {ss:List Str}:Jn ws (CB k Am) (CB k Ap) ss=Jn ws Am Ap ss * k:=by
 unfold Jn;rw [sm_T,sW_T,dh]
theorem U3 {k t u:Int} (hk:1<=k) {a b:List Str} (h:AN (Cr (t,a)) (Cr (u,b))=false):AN (Cr (t * k,a)) (Cr (u * k,b))=false:=by
 have le:=R0 h;by_cases e:t=u
 ·subst e;have h':(if C3.i t=C3.i t then AN (a.map C3.s) (b.map C3.s) else CL (C3.i t) (C3.i t))=false:=h;rw [if_pos rfl] at h';show (if C3.i (t * k)=C3.i (t * k) then AN (a.map C3.s) (b.map C3.s) else CL (C3.i (t * k)) (C3.i (t * k)))=false
  rw [if_pos rfl];exact h'
 ·have lt:u * k < t * k:=Int.mul_lt_mul_of_pos_right (by lia) (by lia);show (if C3.i (t * k)=C3.i (u * k) then AN (a.map C3.s) (b.map C3.s) else CL (C3.i (t * k)) (C3.i (u * k)))=false
  rw [if_neg (fun z=>by injection z with z; lia)];exact decide_eq_false (by lia)
theorem E4.times1 {n:Int} (hn:1<=n) {k k':Int × List Str} (b:E4 ws Am Ap x k) (b':E4 (DG n ws) (CB n Am) Ap x k'):k'=(k.1 * n,k.2):=
 b'.uniq ⟨by rw [Dc]; exact b.op,by show k.1 * n=_; rw [RS hn b.op.1,<-b.is],fun zs o=>by
  rw [Dc] at o;rw [RS hn o.1];exact U3 hn (b.le zs o)⟩
theorem E4.times2 {n:Int} (hn:1<=n) {k k':Int × List Str} (b:E4 ws Am Ap x k) (b':E4 ws (CB n Am) (CB n Ap) x k'):k'=(k.1 * n,k.2):=
 b'.uniq ⟨by rw [Dc]; exact b.op,by show k.1 * n=_; rw [RR,<-b.is],fun zs o=>by
  rw [Dc] at o;rw [RR];exact U3 hn (b.le zs o)⟩
end
theorem Rp:-(2 ^ 300:Int) < 0:=by decide +kernel
def KD (k:Int × List Str):PyData:=.tuple [.int k.1,.tuple (k.2.map PyData.str)]
theorem Ox.dat {H:Hp} {v:V} {k:Int × List Str} (h:Ox H v k):∃ a,v=.ref a/\Jd H (.ref a) (KD k):=by
 obtain ⟨t,l,rfl,a,b⟩:=h;exact ⟨t,rfl,.tup a (.cons (.int _) (.cons (.tup b (Gy _ _)) .nil))⟩
theorem E4.fine {H:Hp} {c m:Addr} {n:Nat} {xs:List Str} {ws:List AI} {Am Ap:List Be} {x x':V} {d:PyData} (cw:Bv H c m n xs ws Am Ap x d) {k:Int × List Str} (b:E4 ws Am Ap x' k):0<=k.1/\k.1 < 2 ^ 600/\∃ b,BS (KD k) 2 b/\b<=1000:=by
 have sn:=cw.ok1.nd;have o:KP (Am.map (·.1)) k.2:=⟨b.op.1,b.op.2.1.nodup sn,fun s hs=>b.op.2.1.subset hs⟩
 have l10:k.2.length<=10:=by have:=b.op.2.1.length_le; rw [ZR] at this; have:=cw.l1; lia
 have pc:=cw.pc;obtain ⟨v0,v1⟩:=O5 cw o l10 (pc.total b.op.1 (b.op.sx pc));rw [<-b.is] at v0 v1;have nms:∀ s ∈ k.2,BI s=true:=fun s hs=>cw.map.at'.nm _ (b.op.sx pc s hs)
 have f1:=BS.tuple (JH nms);refine ⟨v0,v1,_,BS.tuple (ds:=[.int k.1,.tuple (k.2.map PyData.str)]) (k:=1) (b:=(k.2.map PyData.str).length * 7) (fun d' Gw=>?_),?_⟩
 ·rcases ZU.mp Gw with rfl | Gw
  ·exact (BS.intB v0 v1).mono (by decide) (aH _)
  ·rw [ar.mp Gw];exact f1
 ·rw [ZR];show 2 * _<=1000
  lia
theorem Bv.lim' {H:Hp} {c c2 m t1 t2:Addr} {n:Nat} {xs:List Str} {ws:List AI} {Am Ap:List Be} {x x':V} {d d':PyData} {Cv F3:List V} (h:Bv H c m n xs ws Am Ap x d) (e:H c2=some (.tup [.ref m,.ref t1,.ref t2,x'])) (e1:H t1=some (.tup Cv)) (d1:AM H Cv (Am.map BK)) (e2:H t2=some (.tup F3)) (d2:AM H F3 (Ap.map BK)) (l:Lim x' d'):Bv H c2 m n xs ws Am Ap x' d':=
 ⟨⟨t1,t2,Cv,F3,e,e1,d1,e2,d2⟩,h.map,h.n1,h.n30,h.ok1,h.ok2,h.l1,h.l2,l⟩
def NC:Sp:=fun vs H Q _=>∃ (c m:Addr) (n:Nat) (xs:List Str) (ws:List AI) (Am Ap:List Be) (x:V) (d:PyData),vs=[.ref c]/\Bv H c m n xs ws Am Ap x d/\Am.length<=6/\∀ H',AD H H'->Q (.bl true) H'
def NA:Sp:=fun vs H Q _=>∃ (c o1 o2 m:Addr) (n:Nat) (xs:List Str) (ws:List AI) (Am Ap:List Be) (d:PyData) (a b:List Str),vs=[.ref c,.ref o1,.ref o2]/\Bv H c m n xs ws Am Ap .non d/\Am.length<=6/\H o1=some (.tup (a.map V.str))/\H o2=some (.tup (b.map V.str))/\a.Sublist (Am.map (·.1))/\b.Sublist (Am.map (·.1))/\(∃ s,s ∈ a/\s ∈ b)/\∀ H',AD H H'->Q (.bl true) H'
def Ln (K:ZV):Sp:=fun vs H Q _=>∃ (p l:Addr) (ns:List Str),vs=[.ref p,.ref l]/\A0 H p/\H l=some (.lst (ns.map V.str))/\ns ≠ []/\ns.Nodup/\ns.length<=1000 /\
 ∀ (H':Hp) (D o1 o2:Addr) (a b:List Str),A0 H' p->Bd p H H'->H' D=some (.lst [.ref o1,.ref o2])->H' o1=some (.tup (a.map V.str))->H' o2=some (.tup (b.map V.str))->a.Sublist ns->b.Sublist ns->(∃ s,s ∈ a/\s ∈ b)->Q (.ref D) H'
def Wh (ws:List AI) (Am Ap:List Be) (n:Int):Prop:=1<=n/\(∀ u ∈ ws,u.2.2 * n < 10 ^ 30)/\(∀ r ∈ Am,r.2 * n < 10 ^ 30)/\∀ r ∈ Ap,r.2 * n < 10 ^ 30
def NF:Sp:=fun vs H Q _=>∃ (p c m:Addr) (n:Nat) (xs:List Str) (ws:List AI) (Am Ap:List Be) (x:V) (d:PyData),vs=[.ref p,.ref c]/\A0 H p/\Gf H c m n xs ws Am Ap x d/\∀ (H':Hp) (k:Int),A0 H' p->Bd p H H'->Wh ws Am Ap k->k < 2 ^ 100->Q (.int k) H'
def Jz:Sp:=fun vs H Q _=>∃ (c m:Addr) (n:Nat) (xs:List Str) (ws:List AI) (Am Ap:List Be) (x:V) (d:PyData) (k:Int),vs=[.ref c,.int k]/\Bv H c m n xs ws Am Ap x d/\Am.length<=6/\Wh ws Am Ap k/\k < 2 ^ 100/\∀ H',AD H H'->Q (.bl true) H'
def Q6:Sp:=fun vs H Q _=>∃ (p c m:Addr) (n:Nat) (xs:List Str) (ws:List AI) (Am Ap:List Be) (x:V) (d:PyData),vs=[.ref p,.ref c]/\A0 H p/\Gf H c m n xs ws Am Ap x d/\∀ (H':Hp),A0 H' p->Bd p H H'->Q (.bl true) H'
section
variable {bb:Bool} {h h':Heap} {a b i l:Addr} {k:Nat} {items:Array Value}
end
section
variable {prog:Program} {w:World} {A:Around} {E:Value->Shared->Prop} {s:Shared}
end
section
variable {prog:Program} {w:World} {A:Around} {E:Value->Shared->Prop} {s:Shared}
end
end L2
namespace K14
open PySem L2
def top (i:Nat):Stmt:=PySem.Challenge.pw_openhouses_k14_whole_costs_hang_together.main.body.getD i (.Pass ⟨0,0,0,0⟩)
abbrev CM:Stmt:=top 1
theorem Fb:AL ["web","places","ways","beside","one","other","length"] ["web"] (Ay CM):=⟨rfl,rfl,rfl,by decide +kernel,rfl,by decide +kernel,by decide +kernel⟩
abbrev Kj:Stmt:=top 3
theorem NJ:AL ["web","place","told"] ["web","place"] (Ay Kj):=⟨rfl,rfl,rfl,by decide +kernel,rfl,by decide +kernel,by decide +kernel⟩
abbrev Dq:Stmt:=top 4
theorem F9:AL ["case"] ["case"] (Ay Dq):=⟨rfl,rfl,rfl,by decide +kernel,rfl,by decide +kernel,by decide +kernel⟩
abbrev DH:Stmt:=top 5
theorem HP:AL ["web","starts","beside","reached","settled","so_far","start","here","name","by_here"] ["web","starts"] (Ay DH):=⟨rfl,rfl,rfl,by decide +kernel,rfl,by decide +kernel,by decide +kernel⟩
abbrev DT:Stmt:=top 7
theorem G7:AL ["case","most","begun","place","number"] ["case"] (Ay DT):=⟨rfl,rfl,rfl,by decide +kernel,rfl,by decide +kernel,by decide +kernel⟩
abbrev C4:Stmt:=top 8
theorem E7:AL ["case","web","sites","folk","limit"] ["case"] (Ay C4):=⟨rfl,rfl,rfl,by decide +kernel,rfl,by decide +kernel,by decide +kernel⟩
abbrev B9:Stmt:=top 10
theorem EZ:AL ["case","costs"] ["case"] (Ay B9):=⟨rfl,rfl,rfl,by decide +kernel,rfl,by decide +kernel,by decide +kernel⟩
abbrev DZ:Stmt:=top 11
theorem GD:AL ["case","chosen","web","sites","folk","limit","charges","aways","costs","houses","ways"] ["case","chosen"] (Ay DZ):=⟨rfl,rfl,rfl,by decide +kernel,rfl,by decide +kernel,by decide +kernel⟩
abbrev FD:Stmt:=top 13
theorem J3:AL ["case","opening","web","sites","folk","limit","houses"] ["case","opening"] (Ay FD):=⟨rfl,rfl,rfl,by decide +kernel,rfl,by decide +kernel,by decide +kernel⟩
abbrev BW:Stmt:=top 14
theorem E9:AL ["case","opening","costs"] ["case","opening"] (Ay BW):=⟨rfl,rfl,rfl,by decide +kernel,rfl,by decide +kernel,by decide +kernel⟩
abbrev CA:Stmt:=top 15
theorem F8:AL ["case","opening","manys"] ["case","opening"] (Ay CA):=⟨rfl,rfl,rfl,by decide +kernel,rfl,by decide +kernel,by decide +kernel⟩
abbrev HR:Stmt:=top 16
theorem NL:AL ["case","opening"] ["case","opening"] (Ay HR):=⟨rfl,rfl,rfl,by decide +kernel,rfl,by decide +kernel,by decide +kernel⟩
abbrev EJ:Stmt:=top 18
theorem Fj:AL ["_law_script","_law_k","_law_cell"] ["_law_script","_law_k"] (Ay EJ):=⟨rfl,rfl,rfl,by decide +kernel,rfl,by decide +kernel,by decide +kernel⟩
abbrev DX:Stmt:=top 19
theorem Dp:AL ["_law_pen_here","_law_many","_law_found","_law_number"] ["_law_pen_here","_law_many"] (Ay DX):=⟨rfl,rfl,rfl,by decide +kernel,rfl,by decide +kernel,by decide +kernel⟩
abbrev BL:Stmt:=top 20
theorem DR:AL ["_law_pen_here","_law_many","_law_letters","_law_head","_law_start","_law_step","_law_most","_law_found","_law_k","_law_tail","_law_own"] ["_law_pen_here","_law_many"] (Ay BL):=⟨rfl,rfl,rfl,by decide +kernel,rfl,by decide +kernel,by decide +kernel⟩
abbrev Ds:Stmt:=top 21
theorem FC:AL ["_law_pen_here","_law_least","_law_size","_law_way"] ["_law_pen_here","_law_least","_law_size"] (Ay Ds):=⟨rfl,rfl,rfl,by decide +kernel,rfl,by decide +kernel,by decide +kernel⟩
abbrev EL:Stmt:=top 22
theorem HQ:AL ["_law_pen_here","_law_many","_law_names_here","_law_sort","_law_ways","_law_k","_law_ends","_law_rows","_law_one","_law_other"] ["_law_pen_here","_law_many"] (Ay EL):=⟨rfl,rfl,rfl,by decide +kernel,rfl,by decide +kernel,by decide +kernel⟩
abbrev DU:Stmt:=top 23
theorem G8:AL ["_law_pen_here","_law_things","_law_most","_law_left","_law_found","_law_k"] ["_law_pen_here","_law_things","_law_most"] (Ay DU):=⟨rfl,rfl,rfl,by decide +kernel,rfl,by decide +kernel,by decide +kernel⟩
abbrev DY:Stmt:=top 24
theorem GA:AL ["_law_pen_here","_law_many","_law_most","_law_map_here","_law_sites","_law_folk","_law_limit"] ["_law_pen_here","_law_many","_law_most"] (Ay DY):=⟨rfl,rfl,rfl,by decide +kernel,rfl,by decide +kernel,by decide +kernel⟩
abbrev DV:Stmt:=top 29
theorem G9:AL ["_law_pen_here","_law_sites","_law_both","_law_found","_law_turn","_law_some_here"] ["_law_pen_here","_law_sites"] (Ay DV):=⟨rfl,rfl,rfl,by decide +kernel,rfl,by decide +kernel,by decide +kernel⟩
abbrev Ck:Stmt:=top 30
theorem Er:AL ["_law_case_here","_law_one","_law_other","_law_every","_law_common","_law_ways","_law_best","_law_some_here","_law_told"] ["_law_case_here","_law_one","_law_other"] (Ay Ck):=⟨rfl,rfl,rfl,by decide +kernel,rfl,by decide +kernel,by decide +kernel⟩
abbrev CN:Stmt:=top 31
theorem Fc:AL ["_law_case_here","_law_free","_law_told","_law_k"] ["_law_case_here"] (Ay CN):=⟨rfl,rfl,rfl,by decide +kernel,rfl,by decide +kernel,by decide +kernel⟩
abbrev C5:Stmt:=top 32
theorem E8:AL ["_law_pen_here","_law_case_here","_law_best","_law_more","_law_at","_law_row","_law_sites","_law_places","_law_folk","_law_place","_law_fewer"] ["_law_pen_here","_law_case_here"] (Ay C5):=⟨rfl,rfl,rfl,by decide +kernel,rfl,by decide +kernel,by decide +kernel⟩
abbrev CO:Stmt:=top 33
theorem Fd:AL ["_law_pen_here","_law_case_here","_law_numbers"] ["_law_pen_here","_law_case_here"] (Ay CO):=⟨rfl,rfl,rfl,by decide +kernel,rfl,by decide +kernel,by decide +kernel⟩
abbrev Dr:Stmt:=top 34
theorem FA:AL ["_law_case_here","_law_number","_law_best","_law_opening","_law_due","_law_ways","_law_sites","_law_folk"] ["_law_case_here","_law_number"] (Ay Dr):=⟨rfl,rfl,rfl,by decide +kernel,rfl,by decide +kernel,by decide +kernel⟩
abbrev QH:Stmt:=top 35
theorem QG:AL ["_law_script","_law_k","_law_pen_here","_law_many","_law_case_here","_law_free","_law_one","_law_other"] ["_law_script"] (Ay QH):=⟨rfl,rfl,rfl,by decide +kernel,rfl,by decide +kernel,by decide +kernel⟩
section
variable {P:Program} {w:World} {K:ZV} {mg:Str->Option Value} {base:Heap}
theorem Vq {f:Addr} {fd:FuncData} (hlen:mg "len"=none) (F:DP K "_law_pen" "_law_pen" EJ f fd):AG P w K mg base BD 1 f fd ["_law_script","_law_k"] (Qz K):=by
 refine F.ok Fj (fun vs H Q E h=>?_) (fun Cf A outer s H vs Q E hr h=>?_)
 ·obtain ⟨a,ns,k,rfl,_⟩:=h;rfl
 ·obtain ⟨a,ns,k,rfl,hS,hk,q⟩:=h;refine ⟨_,Ag (As (i:=2) Fj.nd rfl (Or.inl rfl) Ad)
   (Ag (Co (AZ Et (Aq CU (by rfl) hlen PySem.boot_len (Aa (pv 0) Ac)) Ad (AJ _))
    (Ao (As (i:=2) Fj.nd rfl (Or.inl rfl) (Al CS (pv 0) (Aw EB (pv 1) (Aq CU (by rfl) hlen PySem.boot_len (Aa (pv 0) Ac))) (fun _ _=>rfl)))) Bs)
   (Ag (Co (MF (AZ GK (pv 1) (Aq CU (by rfl) hlen PySem.boot_len (Aa (pv 0) Ac)) (AJ _)) (Kq (AZ U1 (pv 2) (Aw Kv Ad Ad) (AJ _)))).pt
    (Ao (AB (BG (Aa (pv 2) (Aa Ad (Aa Ad Ac)))))) Bs)
   (Ao (AB (BG (Aa Ad (Aa (Aw AY (Aw EB (pv 2) Ad) (Aw Fm Ad (pv 1))) (Aa Ad Ac)))))))),?_⟩
  have Sm:=hS.sq;refine ⟨_,rfl,a,_,rfl,.inl Sm,_,_,rfl,rfl,_,rfl,?_⟩;refine BB (fun hpos=>?_) (fun _=>?_)
  ·rw [decide_eq_true_eq,ZR] at hpos;have hl0:(0:Int) < ((ns.map V.int).length:Int):=by rw [ZR]; exact hpos
   obtain ⟨c,hc⟩:=UG (ns:=ns) (i:=k % ((ns.map V.int).length:Int)) (cz _ (by lia)) (by rw [ZR]; exact cL _ hpos);refine ⟨_,rfl,_,rfl,_,rfl,a,_,rfl,.inl Sm,_,_,rfl,rfl,hl0,a,_,_,_,rfl,rfl,Sm,hc,?_⟩;refine ⟨_,rfl,_,rfl,a,_,rfl,.inl Sm,_,_,rfl,rfl,_,rfl,?_⟩;have tail:∀ p:Addr,H p=none->Q (.ref p) (upd H p (.lst (A6 0 (c % 999999937 + 70001 * k) 0))):=fun p hp=>q p _ _ hp
   refine BB (fun _=>?_) (fun _=>?_)
   ·refine ⟨_,rfl,_,_,rfl,rfl,⟨by decide,by decide,by decide⟩,_,_,rfl,rfl,_,rfl,?_⟩;refine BB (fun _=>?_) (fun _=>?_)
    ·exact ⟨_,rfl,(by show 3<=sizeLine; decide),fun p hp=>q p c 0 hp⟩
    ·exact ⟨_,rfl,_,_,rfl,rfl,(by show (0:Int) < 999999937; decide),_,rfl,_,_,rfl,rfl,.inl ⟨by decide,by decide⟩,_,_,rfl,rfl,(by show 3<=sizeLine; decide),tail⟩
   ·refine BB (fun z=>by cases z) (fun _=>?_);exact ⟨_,rfl,_,_,rfl,rfl,(by show (0:Int) < 999999937; decide),_,rfl,_,_,rfl,rfl,.inl ⟨by decide,by decide⟩,_,_,rfl,rfl,(by show 3<=sizeLine; decide),tail⟩
  ·refine ⟨_,rfl,_,rfl,a,_,rfl,.inl Sm,_,_,rfl,rfl,_,rfl,?_⟩;have tail:∀ p:Addr,H p=none->Q (.ref p) (upd H p (.lst (A6 0 (0 % 999999937 + 70001 * k) 0))):=fun p hp=>q p _ _ hp
   refine BB (fun _=>?_) (fun _=>?_)
   ·refine ⟨_,rfl,_,_,rfl,rfl,⟨by decide,by decide,by decide⟩,_,_,rfl,rfl,_,rfl,?_⟩;refine BB (fun _=>?_) (fun _=>?_)
    ·exact ⟨_,rfl,(by show 3<=sizeLine; decide),fun p hp=>q p 0 0 hp⟩
    ·exact ⟨_,rfl,_,_,rfl,rfl,(by show (0:Int) < 999999937; decide),_,rfl,_,_,rfl,rfl,.inl ⟨by decide,by decide⟩,_,_,rfl,rfl,(by show 3<=sizeLine; decide),tail⟩
   ·refine BB (fun z=>by cases z) (fun _=>?_);exact ⟨_,rfl,_,_,rfl,rfl,(by show (0:Int) < 999999937; decide),_,rfl,_,_,rfl,rfl,.inl ⟨by decide,by decide⟩,_,_,rfl,rfl,(by show 3<=sizeLine; decide),tail⟩
theorem EN {f:Addr} {fd:FuncData} (F:DP K "_law_draw" "_law_draw" DX f fd):AG P w K mg base BD 1 f fd ["_law_pen_here","_law_many"] CI:=by
 refine F.ok Dp (fun vs H Q E h=>?_) (fun Cf A outer s H vs Q E hr h=>?_)
 ·obtain ⟨p,m,rfl,_⟩:=h;rfl
 ·obtain ⟨p,m,rfl,⟨a,b,c,hp⟩,hm,Pk,k⟩:=h;refine ⟨_,Ag (Co (AZ Et (Al CS (pv 0) Ad (fun _ _=>rfl)) Ad (AJ _))
    (Ag (As (i:=2) Dp.nd rfl (Or.inl rfl) (Aw EB (Al CS (pv 0) Ad (fun _ _=>rfl)) (pv 1)))
     (Ag (Ee (Aw Kw (Al CS (pv 0) Ad (fun _ _=>rfl)) (pv 1)) (Rh (pv 0) Ad Ls)) (Ao (AB (pv 2))))) Bs)
   (Ag (Ee (Aw AY (Al CS (pv 0) Ad (fun _ _=>rfl)) Ad) (Rh (pv 0) Ad Ls))
   (Ag (As (i:=3) Dp.nd rfl (Or.inl rfl) (Aw EB (Aw AY (Aw AY (Aw Fm (Al CS (pv 0) Ad (fun _ _=>rfl)) Ad) (Aw Fm (Al CS (pv 0) Ad (fun _ _=>rfl)) Ad)) Ad) Ad))
   (Ag (As (i:=3) Dp.nd rfl (Or.inl rfl) (Aw EB (Aw Fm (pv 3) (Aw AY (Aw EB (pv 3) Ad) (Al CS (pv 0) Ad (fun _ _=>rfl)))) Ad))
   (Ao (AB (Aw EB (Aw Kw (pv 3) Ad) (pv 1))))))),?_⟩
  have sq:∀ {H':Hp} {a b c:Int},H' p=some (.lst (A6 a b c))->AV K H' p (A6 a b c):=fun h=>.inl (.inl h)
  refine ⟨_,rfl,p,_,_,_,rfl,rfl,sq hp,MK _ _ _,_,_,rfl,rfl,_,rfl,?_⟩;refine BB (fun _=>?_) (fun _=>?_)
  ·refine ⟨_,rfl,p,_,_,_,rfl,rfl,sq hp,MK _ _ _,_,rfl,_,_,rfl,rfl,hm,?_⟩;refine ⟨_,rfl,p,_,_,_,rfl,rfl,sq hp,MK _ _ _,_,rfl,_,_,rfl,rfl,⟨hm,Pk⟩,_,rfl,p,_,_,0,rfl,rfl,hp,rfl,_,rfl,?_⟩;exact k _ _ _ _ (cz _ (by lia)) (cL _ hm)
  ·refine ⟨_,rfl,p,_,_,_,rfl,rfl,sq hp,MJ _ _ _,_,_,rfl,rfl,_,rfl,p,_,_,2,rfl,rfl,hp,rfl,?_⟩;have Sl:(upd H p (.lst (A6 a b (c + 1)))) p=some (.lst (A6 a b (c + 1))):=Ab;refine ⟨_,rfl,p,_,_,_,rfl,rfl,sq Sl,Vk _ _ _,_,_,rfl,rfl,.inr ⟨by decide,by decide⟩,_,rfl,p,_,_,_,rfl,rfl,sq Sl,MJ _ _ _,_,_,rfl,rfl,.inr ⟨by decide,by decide⟩,_,_,rfl,rfl,_,_,rfl,rfl,_,_,rfl,rfl,(by show (0:Int) < 2147483647; decide),?_⟩;have h0:0<=(b * 48271 + (c + 1) * 40692 + 11) % 2147483647:=cz _ (by decide);have h1:(b * 48271 + (c + 1) * 40692 + 11) % 2147483647 < 2147483647:=cL _ (by decide);refine ⟨_,rfl,_,rfl,_,_,rfl,rfl,(by show (0:Int) < 65521; decide),_,rfl,p,_,_,_,rfl,rfl,sq Sl,MJ _ _ _,_,_,rfl,rfl,_,_,rfl,rfl,.inl ⟨dA (b:=0) (by decide) h0,eO h1 (by decide)⟩,_,_,rfl,rfl,(by show (0:Int) < 2147483629; decide),?_⟩;refine ⟨_,rfl,_,_,rfl,rfl,⟨by decide,by decide⟩,_,rfl,_,_,rfl,rfl,hm,?_⟩;exact k _ _ _ _ (cz _ (by lia)) (cL _ hm)
structure Ex (K:ZV) (mg:Str->Option Value) (fT:Addr) (fdT:FuncData):Prop where
 F:DP K "_law_draw" "_law_draw" DX fT fdT
 mg:mg "_law_draw"=some (.ref fT)
 b:DO K fdT ["_law_pen_here","_law_many"] []
theorem Ex.ok {fT:Addr} {fdT:FuncData} (h:Ex K mg fT fdT):AG P w K mg base BD 1 fT fdT ["_law_pen_here","_law_many"] CI:=EN h.F
end
section
variable {P:Program} {w:World} {K:ZV} {mg:Str->Option Value} {base:Heap}
theorem Ij {f fT:Addr} {fd fdT:FuncData} (DK:Ex K mg fT fdT) (F:DP K "_law_great" "_law_great" Ds f fd):AG P w K mg base BD 2 f fd ["_law_pen_here","_law_least","_law_size"] F5:=by
 have GT:AG P w K mg base BD 1 fT fdT ["_law_pen_here","_law_many"] CI:=DK.ok;refine F.ok FC (fun vs H Q E h=>?_) (fun Cf A outer s H vs Q E hr h=>?_)
 ·obtain ⟨p,lo,sz,rfl,_⟩:=h;rfl
 ·obtain ⟨p,lo,sz,rfl,hP,h0,h1,h2,h3,k⟩:=h;have nd:=FC.nd;refine ⟨_,Ag (As (i:=3) nd rfl (Or.inl rfl) (Aj GT hr (by rfl) DK.mg DK.F.kp DK.b .nil Ax (Aa (pv 0) (Aa Ad Ac))))
   (Ag (Co (AZ Fe (pv 3) Ad (AJ _)) (Ao (AB (Aw AY (Aw Kv Ad Ad) (Aj GT hr (by rfl) DK.mg DK.F.kp DK.b .nil Ax (Aa (pv 0) (Aa Ad Ac)))))) Bs)
   (Ag (Co (AZ Et (pv 3) Ad (AJ _)) (Ao (AB (Aw AY (pv 1) (Aj GT hr (by rfl) DK.mg DK.F.kp DK.b .nil Ax (Aa (pv 0) (Aa (Aw Fm Ad (pv 2)) Ac)))))) Bs)
   (Ao (AB (Aw AY (pv 1) (Aj GT hr (by rfl) DK.mg DK.F.kp DK.b .nil Ax (Aa (pv 0) (Aa (pv 2) Ac)))))))),?_⟩
  have big:(1000000:Int) < 10 ^ 30:=by decide
  refine ⟨_,rfl,p,16,rfl,hP,by decide,by decide,fun d a b c da db=>?_⟩;refine ⟨_,rfl,rfl,_,rfl,?_⟩;refine BB (fun _=>?_) (fun _=>?_)
  ·refine ⟨_,_,rfl,rfl,⟨by decide,by decide,by decide⟩,_,rfl,p,9,rfl,A0.set a b c,by decide,by decide,fun e a1 b1 c1 ea eb=>⟨_,_,rfl,rfl,?_⟩⟩;rw [Hw];have e1:(1000:Int)<=10 ^ (29:Int).toNat:=by decide
   have e2:((10:Int) ^ (29:Int).toNat + 9) * 9 < 10 ^ 30:=by decide
   exact k _ a1 b1 c1 (by lia) (by lia)
  ·refine ⟨_,rfl,_,_,rfl,rfl,_,rfl,?_⟩;refine BB (fun _=>?_) (fun _=>?_)
   ·refine ⟨_,rfl,_,rfl,_,rfl,_,_,rfl,rfl,.inl ⟨by decide,by decide⟩,p,_,rfl,A0.set a b c,by lia,by lia,fun e a1 b1 c1 ea eb=>⟨_,_,rfl,rfl,?_⟩⟩;rw [Hw];exact k _ a1 b1 c1 (by lia) (by lia)
   ·refine ⟨_,rfl,_,rfl,_,rfl,p,_,rfl,A0.set a b c,h2,by lia,fun e a1 b1 c1 ea eb=>⟨_,_,rfl,rfl,?_⟩⟩;rw [Hw];exact k _ a1 b1 c1 (by lia) (by lia)
structure Nv (K:ZV) (mg:Str->Option Value) (fG:Addr) (fdG:FuncData):Prop where
 F:DP K "_law_great" "_law_great" Ds fG fdG
 mg:mg "_law_great"=some (.ref fG)
 b:DO K fdG ["_law_pen_here","_law_least","_law_size"] []
end
section
variable {P:Program} {w:World} {K:ZV} {mg:Str->Option Value} {base:Heap}
structure TxtS (K:ZV) (mg:Str->Option Value):Prop where
 len:mg "len"=none
 min:mg "min"=none
 list:mg "list"=none
 range:mg "range"=none
theorem SY {f fT:Addr} {fd fdT:FuncData} (T:TxtS K mg) (DK:Ex K mg fT fdT) (F:DP K "_law_some" "_law_some" DU f fd):AG P w K mg base BD 2 f fd ["_law_pen_here","_law_things","_law_most"] (Qy K):=by
 have GT:AG P w K mg base BD 1 fT fdT ["_law_pen_here","_law_many"] CI:=DK.ok;refine F.ok G8 (fun vs H Q E h=>?_) (fun Cf A outer s H vs Q E hr h=>?_)
 ·obtain ⟨p,t,ts,m,rfl,_⟩:=h;rfl
 ·obtain ⟨p,t,ts,m,rfl,hP,hT,h1,h2,h3,h4,k⟩:=h;have nd:=G8.nd;have big:100000 < sizeLine:=by decide
  refine ⟨_,Ag (As (i:=3) nd rfl (Or.inl rfl) (A5 KI (by rfl) T.list PyProof.Rows.boot_list (Aa (pv 1) Ac)))
   (Ag (As (i:=4) nd rfl (Or.inl rfl) (BG Ac))
   (Ag (Cw PassesOwn.never rfl (BQ rfl T.range (Aa (Aw AY Ad (Aj GT hr (by rfl) DK.mg DK.F.kp DK.b .nil Ax (Aa (pv 0) (Aa (Aq (ES rfl) (by rfl) T.min PyProof.Rows.boot_min (Aa (pv 2) (Aa (Aq (AS K rfl) (by rfl) T.len PySem.boot_len (Aa (pv 3) Ac)) Ac))) Ac)))) Ac)) (Ak (i:=5) nd rfl (Or.inl rfl))
    (Ao (HB (Ib PySem.F.plainAttrs_list PySem.F.slot_list_append PySem.F.type_list_append CV (pv 4)
     (Aa (Ib PySem.F.plainAttrs_list PySem.F.slot_list_pop PySem.F.type_list_pop Rt (pv 3)
      (Aa (Aj GT hr (by rfl) DK.mg DK.F.kp DK.b .nil Ax (Aa (pv 0) (Aa (Aq (AS K rfl) (by rfl) T.len PySem.boot_len (Aa (pv 3) Ac)) Ac))) Ac)) Ac)))))
   (Ao (AB (pv 4))))),?_⟩
  refine ⟨_,rfl,t,_,rfl,.inr hT,fun L hL=>?_⟩;have pL:L ≠ p:=hP.ne hL;have hP1:A0 (upd H L (.lst (ts.map V.str))) p:=hP.other pL;refine ⟨(by show 0<=sizeLine; lia),fun D hD=>?_⟩;have pD:D ≠ p:=hP1.ne hD;have LD:D ≠ L:=by
   intro z;subst z;rw [Ab] at hD;cases hD
  have ZA:H D=none:=by
   rw [Ae LD] at hD;exact hD
  have hP2:A0 (upd (upd H L (.lst (ts.map V.str))) D (.lst [])) p:=hP1.other pD;have PZ:(upd (upd H L (.lst (ts.map V.str))) D (.lst [])) L=some (.lst (ts.map V.str)):=by rw [Ae LD.symm,Ab]
  have hm0:0 < (if ((ts.map V.str).length:Int) < m then ((ts.map V.str).length:Int) else m):=by
   rw [ZR];split <;> lia
  have Xb:(if ((ts.map V.str).length:Int) < m then ((ts.map V.str).length:Int) else m)<=m:=by
   split <;> lia
  have Pk:(if ((ts.map V.str).length:Int) < m then ((ts.map V.str).length:Int) else m)<=ts.length:=by
   rw [ZR];split <;> lia
  refine ⟨_,rfl,_,rfl,_,rfl,L,_,rfl,.inl (AV.of PZ),_,_,rfl,p,_,rfl,hP2,hm0,by lia,fun d a b c da db=>⟨_,_,rfl,rfl,_,rfl,by lia,by lia,?_⟩⟩;refine IE (lo:=0) (fun j σ H'=>∃ (xs ys:List Str) (v5:Option V),σ=[some (.ref p),some (.ref t),some (.int m),some (.ref L),some (.ref D),v5]/\A0 H' p/\H' L=some (.lst (ys.map V.str))/\H' D=some (.lst (xs.map V.str))/\(xs ++ ys).Perm ts/\xs.length=j/\Bd p H H')
   ⟨[],ts,_,rfl,A0.set a b c,?_,?_,List.Perm.refl _,rfl,?_⟩ ?_ ?_
  ·rw [Ae pL]; exact PZ
  ·rw [Ae pD,Ab]; rfl
  ·intro b' o hb e;rw [Ae hb,Ae (by intro z; subst z; rw [ZA] at e; cases e),Ae (by intro z; subst z; rw [hL] at e; cases e)];exact e
  ·rintro j σ H' hj ⟨xs,ys,v5,rfl,P1,l1,d1,pm,lx,kp⟩ rt bk;have hlen:xs.length + ys.length=ts.length:=by rw [<-ZY]; exact pm.length_eq
   have hy0:0 < ((ys.map V.str).length:Int):=by
    rw [ZR];lia
   refine ⟨_,rfl,.inl ⟨rfl,_,AV.of d1⟩,_,rfl,.inl ⟨rfl,_,AV.of l1⟩,_,rfl,_,rfl,L,_,rfl,.inl (AV.of l1),p,_,rfl,P1,hy0,?_,fun e a1 b1 c1 ea eb=>?_⟩
   ·rw [ZR];lia
   ·rw [ZR] at eb;obtain ⟨n,rfl⟩:∃ n:Nat,e=(n:Int):=⟨e.toNat,by lia⟩
    have hn:n < ys.length:=by lia
    have hget:ys[n]? = some ys[n]:=ZS hn;have l2:(upd H' p (.lst (A6 a1 b1 c1))) L=some (.lst (ys.map V.str)):=by rw [Ae pL]; exact l1
    have d2:(upd H' p (.lst (A6 a1 b1 c1))) D=some (.lst (xs.map V.str)):=by rw [Ae pD]; exact d1
    refine ⟨L,_,n,n,.str ys[n],rfl,rfl,l2,by lia,by lia,?_,?_,D,xs.map V.str,_,rfl,rfl,?_,?_,?_⟩
    ·rw [ZR];exact (K6 (by show Pg ys.length (n:Int)=some n; unfold Pg; rw [if_pos (by lia),if_pos (by lia)]; rfl)).1
    ·rw [ai,hget]; rfl
    ·rw [Ae LD]; exact d2
    ·rw [ZR]; lia
    ·refine ⟨xs ++ [ys[n]],ys.eraseIdx n,_,rfl,?_,?_,?_,Rb pm hget,?_,?_⟩
     ·exact ((A0.set a1 b1 c1).other pL).other pD
     ·rw [Ae LD.symm,Ab,J9]
     ·rw [Ab,aa]; rfl
     ·rw [ZY,lx]; rfl
     ·intro b' o hb e;have VH:=kp b' o hb e;rw [Ae (by intro z; subst z; rw [ZA] at e; cases e),Ae (by intro z; subst z; rw [hL] at e; cases e),Ae hb];exact VH
  ·rintro σ H' ⟨xs,ys,v5,rfl,P1,l1,d1,pm,lx,kp⟩;refine ⟨_,rfl,?_⟩;exact k H' D xs ys P1 kp ZA d1 pm (by lia) (by lia)
structure SomeF (K:ZV) (mg:Str->Option Value) (fS:Addr) (fdS:FuncData):Prop where
 F:DP K "_law_some" "_law_some" DU fS fdS
 mg:mg "_law_some"=some (.ref fS)
 b:DO K fdS ["_law_pen_here","_law_things","_law_most"] []
end
section
variable {P:Program} {w:World} {K:ZV} {mg:Str->Option Value} {base:Heap}
theorem MP (hrg:mg "range"=none) {fT:Addr} {fdT:FuncData} (DK:Ex K mg fT fdT)
  {f:Addr} {Cf:Value} {A:Around} {outer:List Env} {s:Shared} {H:Hp} {E:XK} (hr:En 1 (A.deeper (PyProof.Rows.envOfC "_law_names" (Ay BL) s.heap.objs.size f Cf))) :
  ∃ t,Ov (Nk BD P w K mg base ["_law_pen_here","_law_many","_law_letters","_law_head","_law_start","_law_step","_law_most","_law_found","_law_k","_law_tail","_law_own"] "_law_names" (Ay BL) f Cf A outer s H E).nox
    ((CT BL).drop 6) t /\
   ∀ (W:EX) (H6:Hp) (p D:Addr) (n:Nat) (hd:Str) (st sp mo:Int) (v8 v9 v10:Option V),A0 H6 p->H6 D=some (.lst [])->D ≠ p->n<=52->RY hd->hd.length<=2->0<=st->st < 26->sp ∈ ([1,3,5,7,9,11,15,17]:List Int) ->
    0<=mo->mo < 4 - (if decide ((26:Int) < n)=true then 1 else 0) ->
    (∀ (H':Hp) (xs:List Str),A0 H' p->(∀ b o,b ≠ p->b ≠ D->H6 b=some o->H' b=some o)->H' D=some (.lst (xs.map V.str))->xs.length=n->xs.Nodup->(∀ x ∈ xs,BI x=true)->W.rt (.ref D) H') ->
    t W [some (.ref p),some (.int n),some (.str C7),some (.str hd),some (.int st),some (.int sp),some (.int mo),some (.ref D),v8,v9,v10] H6:=by
 have GT:AG P w K mg base BD 1 fT fdT ["_law_pen_here","_law_many"] CI:=DK.ok;have nd:=DR.nd;have big:100000 < sizeLine:=by decide
 refine ⟨_,Ag (Cw PassesOwn.never rfl (BQ (by rfl) hrg (Aa (pv 1) Ac)) (Ak (i:=8) nd rfl (Or.inl rfl))
  (Ag (As (i:=9) nd rfl (Or.inl rfl) (Ib PySem.F.plainAttrs_str PySem.F.slot_str_join PySem.F.type_str_join Ob Ku (Aa (Bt (N:=["_law_j","_law_letters","_law_pen_here"]) (σ0:=fun σ=>[none,some 2,some 0].map fun j=>j.bind fun j=>(σ[j]?).join) rfl
      (AE.caught (by rfl) (by decide +kernel) rfl (by decide +kernel) (by intro y hy; simp only [ZU,af,or_false] at hy; rcases hy with rfl | rfl <;> rfl)
       (by intro y hy e; simp only [ZU,af,or_false] at hy; rcases hy with rfl | rfl | rfl | rfl | rfl <;> first | exact ⟨_,rfl⟩ | cases e))
      (fun σ _=>Ba.of [none,some 2,some 0] rfl (by
       intro i j x h1 h2;match i,h1,h2 with
       | 0,_,h2=>cases h2
       | 1,h1,h2=>cases h1; cases h2; exact ⟨rfl,.inl rfl,.inl rfl⟩
       | 2,h1,h2=>cases h1; cases h2; exact ⟨rfl,.inl rfl,.inl rfl⟩
       | n + 3,h1,_=>cases h1)) (BQ rfl hrg (Aa (Aj GT hr (by rfl) DK.mg DK.F.kp DK.b .nil Ax (Aa (pv 0) (Aa (Aw AY (pv 6) Ad) Ac))) Ac))
      (fun s2 H C fp=>⟨Ak (i:=0) (show (["_law_j","_law_letters","_law_pen_here"]:List Str).Nodup by decide +kernel) rfl (Or.inl rfl),Bc,
       Al K5 (pv 1) (Aj GT hr (by rfl) DK.mg DK.F.kp DK.b .nil Ax (Aa (pv 2) (Aa Ad Ac))) (fun _ _=>rfl)⟩)) Ac)))
  (Ag (As (i:=10) nd rfl (Or.inl rfl) (Al K5 (pv 2) (Aw EB (Aw AY (pv 4) (Aw Fm (pv 5) (pv 8))) Ad) (fun _ _=>rfl)))
  (Ag (Co (AZ Et (pv 1) Ad (AJ _))
  (Ao (As (i:=10) nd rfl (Or.inl rfl) (Aw Fo (pv 10) (Al K5 Ku (Aw Kw (pv 8) Ad) (fun _ _=>rfl)))))
  Bs)
  (Ao (HB (Ib PySem.F.plainAttrs_list PySem.F.slot_list_append PySem.F.type_list_append CV (pv 7) (Aa (Aw Fo (Aw Fo (pv 3) (pv 10)) (pv 9)) Ac))))))))
  (Ao (AB (pv 7))),?_⟩
 intro W H6 p D n hd st sp mo v8 v9 v10 hP hD nD hn lh lh2 s0 s1 hsp m0 m1 k;have spb:0<=sp/\sp<=17:=by
  simp only [ZU,af,or_false] at hsp;rcases hsp with rfl | rfl | rfl | rfl | rfl | rfl | rfl | rfl <;> lia
 refine ⟨_,rfl,n,rfl,by lia,by lia,?_⟩;refine IE (n:=n) (lo:=0) (fun j σ H'=>∃ (xs:List Str) (v8 v9 v10:Option V),σ=[some (.ref p),some (.int n),some (.str C7),some (.str hd),some (.int st),some (.int sp),some (.int mo),some (.ref D),v8,v9,v10]/\A0 H' p/\(∀ b o,b ≠ p->b ≠ D->H6 b=some o->H' b=some o)/\H' D=some (.lst (xs.map V.str))/\xs.length=j/\(∀ x ∈ xs,BI x=true)/\∀ (i:Nat) x,xs[i]? = some x->∃ tl,x.cps.toList=hd.cps.toList ++ (LF n st sp i ++ tl))
  ⟨[],_,_,_,rfl,hP,fun _ _ _ _ e=>e,hD,rfl,(fun x hx=>nomatch hx),(fun i x e=>by simp at e)⟩ ?_ ?_
 ·rintro j σ H' hj ⟨xs,v8,v9,v10,rfl,P1,k1,d1,l1,nm,sh⟩ rt bk;refine ⟨rfl,_,rfl,_,rfl,_,_,rfl,rfl,p,mo + 1,rfl,P1,by lia,by lia,fun d a b c da db=>⟨_,rfl,by lia,by lia,?_⟩⟩;show ∀ D,(upd H' p (.lst (A6 a b c))) D=none->_
  have dm:d<=mo:=by lia
  refine HS (g:=Hc 0) (H:=upd H' p (.lst (A6 a b c))) (p:=p) d.toNat ?_ ?_ (by split at m1 <;> lia) (A0.set a b c) (fun H1 D1 ss P2 k2 d2 l2 o2=>?_)
  ·exact fun _ _ _ _ _ _ h=>h
  ·intro v H' P' Q' h;refine ⟨_,rfl,_,rfl,p,26,rfl,P',by decide,by decide,fun e a1 b1 c1 ea eb=>?_⟩;exact ⟨_,_,_,rfl,rfl,by decide,Cz ea eb,h _ _ _ _ (EC _ (KL (Cz ea eb)))⟩
  obtain ⟨j1,j2,j3⟩:=LU o2;refine ⟨_,D1,ss,rfl,rfl,d2,by decide,by split at m1 <;> lia,?_⟩;generalize htl:Txt.join (Str.ofString "") ss=tl at j1 j2;have dD:H1 D=some (.lst (xs.map V.str)):=k2 D _ nD (by rw [Ae nD]; exact d1);have kp:∀ b o,b ≠ p->b ≠ D->H6 b=some o->H1 b=some o:=fun b o hb IC e=>k2 b o hb (by rw [Ae hb]; exact k1 b o hb IC e)
  have spj:0<=sp * j:=dz spb.1 (by lia);have r0:0<=(st + sp * (0 + (j:Int))) % 26:=cz _ (by decide);have r1:(st + sp * (0 + (j:Int))) % 26 < 26:=cL _ (by decide);refine ⟨_,rfl,_,rfl,_,rfl,_,rfl,_,_,rfl,rfl,.inl ⟨by lia,by lia⟩,_,_,rfl,rfl,_,_,rfl,rfl,(by show (0:Int) < 26; decide),_,_,_,rfl,rfl,by decide,Cz r0 r1,?_⟩;have lc:=EC _ (KL (Cz r0 r1));rw [bQ] at lc;rw [bQ];refine ⟨_,rfl,_,_,rfl,rfl,_,rfl,?_⟩;have inv:∀ (own:Str) (v10:Option V),own.cps.toList=LF n st sp j->RY own->1<=own.length->hd.length + own.length + tl.length<=6->∃ (Uk:List Str) (v8 v9 Y2:Option V),[some (.ref p),some (.int n),some (.str C7),some (.str hd),some (.int st),some (.int sp),some (.int mo),some (.ref D),some (.int (j:Int)),some (.str tl),v10]=[some (.ref p),some (.int n),some (.str C7),some (.str hd),some (.int st),some (.int sp),some (.int mo),some (.ref D),v8,v9,Y2]/\A0 (upd H1 D (.lst (xs.map V.str ++ [.str (hd ++ own ++ tl)]))) p/\(∀ b o,b ≠ p->b ≠ D->H6 b=some o->(upd H1 D (.lst (xs.map V.str ++ [.str (hd ++ own ++ tl)]))) b=some o)/\(upd H1 D (.lst (xs.map V.str ++ [.str (hd ++ own ++ tl)]))) D=some (.lst (Uk.map V.str))/\Uk.length=j + 1/\(∀ x ∈ Uk,BI x=true)/\∀ (i:Nat) x,Uk[i]? = some x->∃ tl,x.cps.toList=hd.cps.toList ++ (LF n st sp i ++ tl):=by
   intro own v10 e1 lo l3 l6;have ec:(hd ++ own ++ tl).cps.toList=hd.cps.toList ++ (own.cps.toList ++ tl.cps.toList):=by
    rw [Str.cps_append,Str.cps_append,aZ,aZ,bB]
   have el:(hd ++ own ++ tl).length=hd.length + own.length + tl.length:=by
    show (hd ++ own ++ tl).cps.size=_
    rw [Str.cps_append,Str.cps_append,bL,bL];rfl
   refine ⟨xs ++ [hd ++ own ++ tl],_,_,_,rfl,P2.other nD,fun b o hb IC e=>by rw [Ae IC]; exact kp b o hb IC e,by rw [Ab,aa]; rfl,by rw [ZY,l1]; rfl,fun x hx=>?_,fun i x e=>?_⟩
   ·rcases aG.mp hx with hx | hx
    ·exact nm x hx
    ·rw [ar] at hx;subst hx;refine Rr (by lia) (by lia) fun c hc=>?_
     rw [ec,aG,aG] at hc;rcases hc with hc | hc | hc
     ·exact lh c hc
     ·exact lo c hc
     ·exact j1 c hc
   ·by_cases hi:i < xs.length
    ·rw [aY hi] at e;exact sh i x e
    ·have Xd:i=j:=by
      have:=(ag.mp e).1;rw [ZY,bo] at this;lia
     subst Xd;rw [aP (by lia),l1,dX,aX] at e;rw [<-aI.inj e,ec,e1];exact ⟨_,rfl⟩
  refine BB (fun Xz=>?_) (fun Xz=>?_)
  ·have n26:(26:Int) < n:=by simpa using Xz
   have q0:0<=((j:Int)) / 26:=Int.ediv_nonneg (by lia) (by decide);have q1:((j:Int)) / 26 < 2:=by lia
   have ab:∀ m:Fin 2,Ff (Str.ofString "ab").cps.toList (m.val:Int)=some (97 + m.val):=by decide +kernel
   have ab2:Ff (Str.ofString "ab").cps.toList ((j:Int) / 26)=some (97 + j / 26):=by
    have:=ab ⟨j / 26,by lia⟩;rw [show ((j:Int) / 26)=((j / 26:Nat):Int) by lia];exact this
   rw [if_pos Xz] at m1;refine ⟨_,rfl,_,rfl,_,_,rfl,rfl,⟨by decide,by decide⟩,_,_,_,rfl,rfl,by decide,ab2,_,_,rfl,rfl,(by show 1 + 1<=sizeLine; lia),?_⟩;have iv:=inv ((⟨#[97 + ((st + sp * (j:Int)) % 26).toNat]⟩:Str) ++ ⟨#[97 + j / 26]⟩) (some (.str ((⟨#[97 + ((st + sp * (j:Int)) % 26).toNat]⟩:Str) ++ ⟨#[97 + j / 26]⟩))) (by unfold LF; rw [if_pos (by lia)]; rfl) (Th (fun c hc=>by
     have:c=97 + ((st + sp * (j:Int)) % 26).toNat:=by simpa using hc
     subst this;exact lc) (by unfold LQ; simp; lia)) (by show 1<=2; decide) (by show hd.length + 2 + tl.length<=6; lia)
   refine ⟨_,rfl,.inl ⟨rfl,_,AV.of dD⟩,_,rfl,_,rfl,_,_,rfl,rfl,(by show hd.length + 2<=sizeLine; lia),_,rfl,_,_,rfl,rfl,?_,D,_,_,rfl,rfl,dD,(by rw [ZR]; lia),iv⟩;show (hd.cps ++ _).size + tl.length<=sizeLine
   rw [bL];show hd.length + 2 + tl.length<=sizeLine
   lia
  ·have n26:¬ (26:Int) < n:=by simpa using Xz
   rw [if_neg Xz] at m1;have iv:=inv ((⟨#[97 + ((st + sp * (j:Int)) % 26).toNat]⟩:Str)) (some (.str ((⟨#[97 + ((st + sp * (j:Int)) % 26).toNat]⟩:Str)))) (by unfold LF; rw [if_neg (by lia)]) (fun c hc=>by
     have:c=97 + ((st + sp * (j:Int)) % 26).toNat:=by simpa using hc
     subst this;exact lc) (by show 1<=1; decide) (by show hd.length + 1 + tl.length<=6; lia)
   refine ⟨_,rfl,.inl ⟨rfl,_,AV.of dD⟩,_,rfl,_,rfl,_,_,rfl,rfl,(by show hd.length + 1<=sizeLine; lia),_,rfl,_,_,rfl,rfl,?_,D,_,_,rfl,rfl,dD,(by rw [ZR]; lia),iv⟩;show (hd.cps ++ _).size + tl.length<=sizeLine
   rw [bL];show hd.length + 1 + tl.length<=sizeLine
   lia
 ·rintro σ H' ⟨xs,v8,v9,v10,rfl,P1,k1,d1,l1,nm,sh⟩;exact ⟨_,rfl,k H' xs P1 k1 d1 l1 (LJ sh fun i j hij hj tl UU=>Vo hn hsp hij (by lia) tl UU) nm⟩
end
section
variable {P:Program} {w:World} {K:ZV} {mg:Str->Option Value} {base:Heap}
theorem OW {f fT:Addr} {fd fdT:FuncData} (T:TxtS K mg) (hin:mg "int"=none) (DK:Ex K mg fT fdT) (F:DP K "_law_names" "_law_names" BL f fd):AG P w K mg base BD 2 f fd ["_law_pen_here","_law_many"] Lo:=by
 have GT:AG P w K mg base BD 1 fT fdT ["_law_pen_here","_law_many"] CI:=DK.ok;refine F.ok DR (fun vs H Q E h=>?_) (fun Cf A outer s H vs Q E hr h=>?_)
 ·obtain ⟨p,n,rfl,_⟩:=h;rfl
 ·obtain ⟨p,n,rfl,hP,hn,k⟩:=h;have nd:=DR.nd;have big:100000 < sizeLine:=by decide
  obtain ⟨t7,T7,r7⟩:=MP T.range DK (outer:=outer) (H:=H) (E:=E) hr;refine ⟨_,Ag (As (i:=2) nd rfl (Or.inr rfl) Ku)
   (Ag (As (i:=3) nd rfl (Or.inl rfl) (Ib PySem.F.plainAttrs_str PySem.F.slot_str_join PySem.F.type_str_join Ob Ku (Aa
     (Bt (N:=["_law_k","_law_letters","_law_pen_here"]) (σ0:=fun σ=>[none,some 2,some 0].map fun j=>j.bind fun j=>(σ[j]?).join) rfl
      (AE.caught (by rfl) (by decide +kernel) rfl (by decide +kernel) (by intro y hy; simp only [ZU,af,or_false] at hy; rcases hy with rfl | rfl <;> rfl)
       (by intro y hy e; simp only [ZU,af,or_false] at hy; rcases hy with rfl | rfl | rfl | rfl | rfl <;> first | exact ⟨_,rfl⟩ | cases e))
      (fun σ _=>Ba.of [none,some 2,some 0] rfl (by
       intro i j x h1 h2;match i,h1,h2 with
       | 0,_,h2=>cases h2
       | 1,h1,h2=>cases h1; cases h2; exact ⟨rfl,.inl rfl,.inl rfl⟩
       | 2,h1,h2=>cases h1; cases h2; exact ⟨rfl,.inl rfl,.inl rfl⟩
       | n + 3,h1,_=>cases h1)) (BQ rfl T.range (Aa (Aj GT hr (by rfl) DK.mg DK.F.kp DK.b .nil Ax (Aa (pv 0) (Aa Ad Ac))) Ac))
      (fun s2 H C fp=>⟨Ak (i:=0) (show (["_law_k","_law_letters","_law_pen_here"]:List Str).Nodup by decide +kernel) rfl (Or.inl rfl),Bc,
       Al K5 (pv 1) (Aj GT hr (by rfl) DK.mg DK.F.kp DK.b .nil Ax (Aa (pv 2) (Aa Ad Ac))) (fun _ _=>rfl)⟩)) Ac)))
   (Ag (As (i:=4) nd rfl (Or.inl rfl) (Aj GT hr (by rfl) DK.mg DK.F.kp DK.b .nil Ax (Aa (pv 0) (Aa Ad Ac))))
   (Ag (As (i:=5) nd rfl (Or.inl rfl) (Al (A7 K rfl) (BG (Aa Ad (Aa Ad (Aa Ad (Aa Ad (Aa Ad (Aa Ad (Aa Ad (Aa Ad Ac)))))))))
     (Aj GT hr (by rfl) DK.mg DK.F.kp DK.b .nil Ax (Aa (pv 0) (Aa Ad Ac))) (fun _ _=>rfl)))
   (Ag (As (i:=6) nd rfl (Or.inl rfl) (Aj GT hr (by rfl) DK.mg DK.F.kp DK.b .nil Ax (Aa (pv 0) (Aa (Aw MN Ad (A5 CW (by rfl) hin PyProof.Rows.boot_int (Aa (BZ Et (pv 1) Ad (AJ _)) Ac))) Ac))))
   (Ag (As (i:=7) nd rfl (Or.inl rfl) (BG Ac)) T7))))),?_⟩
  refine ⟨rfl,_,rfl,p,3,rfl,hP,by decide,by decide,fun d a b c da db=>⟨_,rfl,by lia,by lia,?_⟩⟩;show ∀ D,(upd H p (.lst (A6 a b c))) D=none->_
  refine HS (g:=Hc 0) (H:=upd H p (.lst (A6 a b c))) (p:=p) d.toNat ?_ ?_ (by lia) (A0.set a b c) (fun H1 D1 ss P1 k1 d1 l1 o1=>?_)
  ·exact fun _ _ _ _ _ _ h=>h
  ·intro v H' P' Q' h;refine ⟨_,rfl,_,rfl,p,26,rfl,P',by decide,by decide,fun e a1 b1 c1 ea eb=>?_⟩;exact ⟨_,_,_,rfl,rfl,by decide,Cz ea eb,h _ _ _ _ (EC _ (KL (Cz ea eb)))⟩
  obtain ⟨j1,j2,j3⟩:=LU o1;refine ⟨_,D1,ss,rfl,rfl,d1,by decide,by lia,?_⟩;generalize hhd:Txt.join (Str.ofString "") ss=hd at j1 j2;refine ⟨_,rfl,p,26,rfl,P1,by decide,by decide,fun st a2 b2 c2 sa sb=>?_⟩;refine ⟨(by show 8<=sizeLine; lia),fun T8 Xn=>?_⟩;have n8:T8 ≠ p:=(A0.set (H:=H1) (p:=p) a2 b2 c2).ne Xn;refine ⟨_,rfl,p,8,rfl,(A0.set a2 b2 c2).other n8,by decide,by decide,fun e8 a3 b3 c3 e8a e8b=>?_⟩;obtain ⟨sp,hsp⟩:=UG (ns:=[1,3,5,7,9,11,15,17]) e8a e8b;refine ⟨T8,_,_,.int sp,rfl,rfl,AV.of (by rw [Ae n8]; exact Ab),hsp,?_⟩;have spm:sp ∈ ([1,3,5,7,9,11,15,17]:List Int):=by
   have:=KL hsp;simpa using this
  have P3:A0 (upd (upd (upd H1 p (.lst (A6 a2 b2 c2))) T8 (.lst [.int 1,.int 3,.int 5,.int 7,.int 9,.int 11,.int 15,.int 17])) p (.lst (A6 a3 b3 c3))) p:=A0.set a3 b3 c3;refine ⟨_,rfl,_,rfl,_,_,rfl,rfl,.inr ⟨_,rfl,_,_,rfl,rfl,p,_,rfl,P3,?_,?_,fun mo a4 b4 c4 m0 m1=>?_⟩⟩
  ·split <;> lia
  ·split <;> lia
  refine ⟨(by show 0<=sizeLine; lia),fun D hD=>?_⟩;have nD:D ≠ p:=(A0.set (H:=(upd (upd (upd H1 p (.lst (A6 a2 b2 c2))) T8 (.lst [.int 1,.int 3,.int 5,.int 7,.int 9,.int 11,.int 15,.int 17])) p (.lst (A6 a3 b3 c3)))) (p:=p) a4 b4 c4).ne hD;refine r7 _ _ p D n hd st sp mo _ _ _ ((A0.set a4 b4 c4).other nD) Ab nD hn j1 (by lia) sa sb spm m0 m1 fun H' xs P5 k5 d5 l5 n5 m5=>?_
  have fr:∀ b o,b ≠ p->H b=some o->H' b=some o:=fun b o hb e=>by
   have e1:=k1 b o hb (by rw [Ae hb]; exact e);have YK:b ≠ T8:=by intro z; subst z; rw [Ae hb,e1] at Xn; cases Xn
   have e2:(upd (upd (upd (upd H1 p (.lst (A6 a2 b2 c2))) T8 (.lst [.int 1,.int 3,.int 5,.int 7,.int 9,.int 11,.int 15,.int 17])) p (.lst (A6 a3 b3 c3))) p (.lst (A6 a4 b4 c4))) b=some o:=by
    rw [Ae hb,Ae hb,Ae YK,Ae hb]; exact e1
   have nbD:b ≠ D:=by intro z; subst z; rw [e2] at hD; cases hD
   exact k5 b o hb nbD (by rw [Ae nbD]; exact e2)
  have fD:H D=none:=by
   cases z:H D with
   | none=>rfl
   | some o=>
    exfalso
    have e1:=k1 D o nD (by rw [Ae nD]; exact z);have YK:D ≠ T8:=by intro y; rw [<-y,Ae nD,e1] at Xn; cases Xn
    rw [Ae nD,Ae nD,Ae YK,Ae nD,e1] at hD;cases hD
  exact k H' D xs P5 fr fD d5 l5 n5 m5
structure Wf (K:ZV) (mg:Str->Option Value) (fS:Addr) (fdS:FuncData):Prop where
 F:DP K "_law_names" "_law_names" BL fS fdS
 mg:mg "_law_names"=some (.ref fS)
 b:DO K fdS ["_law_pen_here","_law_many"] []
end
section
variable {P:Program} {w:World} {K:ZV} {mg:Str->Option Value} {base:Heap}
theorem Ta (h_int:mg "int"=none) (h_list:mg "list"=none) (h_range:mg "range"=none) (h_sorted:mg "sorted"=none) (h_tuple:mg "tuple"=none) {fN fT fG:Addr} {fdN fdT fdG:FuncData} (XN:Wf K mg fN fdN) (GN:AG P w K mg base BD 2 fN fdN ["_law_pen_here","_law_many"] Lo) (DK:Ex K mg fT fdT) (XG:Nv K mg fG fdG) (GG:AG P w K mg base BD 2 fG fdG ["_law_pen_here","_law_least","_law_size"] F5) {f:Addr} {fd:FuncData} (F:DP K "_law_map" "_law_map" EL f fd):AG P w K mg base BD 3 f fd ["_law_pen_here","_law_many"] Q2:=by
 have GT:AG P w K mg base BD 1 fT fdT ["_law_pen_here","_law_many"] CI:=DK.ok;refine F.ok HQ (fun vs H Q E h=>?_) (fun Cf A outer s H vs Q E hr h=>?_)
 ·obtain ⟨p,n,rfl,_⟩:=h;rfl
 ·obtain ⟨p,n,rfl,hP,n1,n30,k⟩:=h;have nd:=HQ.nd;have hu:=ED hr;have big:100000 < sizeLine:=by decide
  refine ⟨_,(Ag (As (i:=2) nd rfl (Or.inl rfl) (Aj GN (hr.mono (by decide)) (by rfl) XN.mg XN.F.kp XN.b .nil Ax (Aa (pv 0) (Aa (pv 1) Ac))))
  (Ag (As (i:=3) nd rfl (Or.inl rfl) (Aj GT (hr.mono (by decide)) (by rfl) DK.mg DK.F.kp DK.b .nil Ax (Aa (pv 0) (Aa Ad Ac))))
  (Ag (As (i:=4) nd rfl (Or.inl rfl) LA)
  (Ag (Cw PassesOwn.never rfl (OQ (by rfl) h_range (Aa Ad (Aa (pv 1) Ac))) (Ak (i:=5) nd rfl (Or.inl rfl))
  (Ao (Du hu (pv 4) (AX (Aa (Al (A7 K rfl) (BG (Aa (Aw MN (pv 5) Ad) (Aa (Aj GT (hr.mono (by decide)) (by rfl) DK.mg DK.F.kp DK.b .nil Ax (Aa (pv 0) (Aa (pv 5) Ac))) Ac))) (A5 CW (by rfl) h_int PyProof.Rows.boot_int (Aa (BZ Et (pv 3) Ad (AJ _)) Ac)) (fun _ _=>rfl)) (Aa (pv 5) Ac))) (Aj GG (hr.mono (by decide)) (by rfl) XG.mg XG.F.kp XG.b .nil Ax (Aa (pv 0) (Aa Ad (Aa Ad Ac)))) rfl)))
  (Ag (Cw PassesOwn.never rfl (BQ (by rfl) h_range (Aa (Aw Fm Ad (A5 CW (by rfl) h_int PyProof.Rows.boot_int (Aa (BZ Fe (pv 3) Ad (AJ _)) Ac))) Ac)) (Ak (i:=5) nd rfl (Or.inl rfl))
  (Ag (As (i:=6) nd rfl (Or.inl rfl) (Aq (FX K rfl) (by rfl) h_sorted PyProof.Rows.boot_sorted (Aa (BG (Aa (Aj GT (hr.mono (by decide)) (by rfl) DK.mg DK.F.kp DK.b .nil Ax (Aa (pv 0) (Aa (pv 1) Ac))) (Aa (Aj GT (hr.mono (by decide)) (by rfl) DK.mg DK.F.kp DK.b .nil Ax (Aa (pv 0) (Aa (pv 1) Ac))) Ac))) Ac)))
  (Ao (Co (AZ GK (Al (A7 K rfl) (pv 6) Ad (fun _ _=>rfl)) (Al (A7 K rfl) (pv 6) Ad (fun _ _=>rfl)) (AJ _))
  (Ao (Du hu (pv 4) (AX (Aa (Al (A7 K rfl) (pv 6) Ad (fun _ _=>rfl)) (Aa (Al (A7 K rfl) (pv 6) Ad (fun _ _=>rfl)) Ac))) (Aj GG (hr.mono (by decide)) (by rfl) XG.mg XG.F.kp XG.b .nil Ax (Aa (pv 0) (Aa Ad (Aa Ad Ac)))) rfl))
  Bs))))
  (Ag (As (i:=7) nd rfl (Or.inl rfl) (BG Ac))
  (Ag (Cw PassesOwn.never rfl (BX K rfl (A5 (KJ rfl) (by rfl) h_list PyProof.Rows.boot_list (Aa (pv 4) Ac))) (BH K rfl rfl (Av (Ak (i:=8) nd rfl (Or.inl rfl)) (Av (Ak (i:=9) nd rfl (Or.inl rfl)) B5)))
  (Ao (HB (Ib PySem.F.plainAttrs_list PySem.F.slot_list_append PySem.F.type_list_append CV (pv 7) (Aa (Aw (Ig K rfl) (A5 (AH K rfl) (by rfl) h_tuple PyProof.Rows.boot_tuple (Aa (Aq (D8 K rfl) (by rfl) h_sorted PyProof.Rows.boot_sorted (Aa (BG (Aa (Al (A7 K rfl) (pv 2) (pv 8) (fun _ _=>rfl)) (Aa (Al (A7 K rfl) (pv 2) (pv 9) (fun _ _=>rfl)) Ac))) Ac)) Ac)) (AX (Aa (B6 hu (pv 4) (AX (Aa (pv 8) (Aa (pv 9) Ac))) (fun _ _=>rfl)) Ac))) Ac)))))
  (Ao (AB (AX (Aa (A5 (AH K rfl) (by rfl) h_tuple PyProof.Rows.boot_tuple (Aa (Aq (D8 K rfl) (by rfl) h_sorted PyProof.Rows.boot_sorted (Aa (pv 2) Ac)) Ac)) (Aa (A5 (AH K rfl) (by rfl) h_tuple PyProof.Rows.boot_tuple (Aa (Aq (Fy K rfl) (by rfl) h_sorted PyProof.Rows.boot_sorted (Aa (pv 7) Ac)) Ac)) Ac)))))))))))),?_⟩
  refine ⟨_,rfl,_,rfl,p,n,rfl,hP,by lia,fun H1 N xs P1 k1 fN hN xl xnd xnm=>?_⟩;refine ⟨_,rfl,p,3,rfl,P1,by decide,by decide,fun so a1 b1 c1 so0 so1=>?_⟩;have nN:N ≠ p:=hP.ne fN;have Z4:(upd H1 p (.lst (A6 a1 b1 c1))) N=some (.lst (xs.map V.str)):=by rw [Ae nN]; exact hN
  intro W0 U9;have nW:W0 ≠ p:=(A0.set (H:=H1) (p:=p) a1 b1 c1).ne U9;have wN:W0 ≠ N:=by intro z; subst z; rw [Z4] at U9; cases U9
  have fr0:∀ b o,b ≠ p->H b=some o->(upd (upd H1 p (.lst (A6 a1 b1 c1))) W0 (.dT [])) b=some o:=fun b o hb e=>by
   have e1:=k1 b o hb e;rw [Ae (by intro z; subst z; rw [Ae hb,e1] at U9; cases U9),Ae hb];exact e1
  have fW:H W0=none:=by
   cases z:H W0 with
   | none=>rfl
   | some o=>have:=k1 W0 o nW z; rw [Ae nW,this] at U9; cases U9
  have mi0:MI H (upd (upd H1 p (.lst (A6 a1 b1 c1))) W0 (.dT [])) p N W0 xs []:=⟨(A0.set a1 b1 c1).other nW,by rw [Ae wN.symm]; exact Z4,Ab,fr0,nN,nW,wN,fW⟩
  clear fr0 Z4 U9 hN P1;generalize upd (upd H1 p (.lst (A6 a1 b1 c1))) W0 (.dT [])=H2 at mi0;refine ⟨_,rfl,1,n,rfl,⟨by lia,by lia,by lia,by lia⟩,?_⟩;refine Di (lo:=1) (fun j σ H'=>∃ (kvs:List (List AK × V)) (v5:Option V),σ=[some (.ref p),some (.int n),some (.ref N),some (.int so),some (.ref W0),v5,none,none,none,none]/\MI H H' p N W0 xs kvs/\F0 n kvs/\kvs.length<=j/\(kvs.map (·.1)).Nodup/\Fg (1 + (j:Int)) kvs)
   ⟨[],_,rfl,mi0,(fun q hq=>nomatch hq),aH _,.nil,fun k h1 h2=>by lia⟩ ?_ ?_
  ·rintro j σ H' hj ⟨kvs,v5,rfl,mi,wn,wl,kn,jn⟩ rt bk NN hN;have hjn:(1:Int) + j < n:=by lia
   refine ⟨_,rfl,p,1,3,rfl,mi.pn,by decide,by decide,by decide,by decide,fun l a b c l1 l2=>?_⟩;have m1:=mi.pen a b c;refine ⟨_,rfl,_,rfl,_,_,rfl,rfl,_,rfl,_,rfl,p,1 + (j:Int),rfl,m1.pn,by lia,by lia,fun d a2 b2 c2 d0 d1=>?_⟩;have m2:=m1.pen a2 b2 c2;refine ⟨(by show 2<=sizeLine; lia),fun L hL=>?_⟩;have m3:=m2.add hL (.lst [.int (1 + (j:Int) - 1),.int d]);refine ⟨_,rfl,_,_,rfl,rfl,.inr ⟨_,rfl,?_⟩⟩;obtain ⟨i,hi,i0,i1⟩:∃ i:Int,Ff [V.int (1 + (j:Int) - 1),V.int d] (if decide ((0:Int) < so)=true then 1 else 0)=some (.int i)/\0<=i/\i < 1 + (j:Int):=by
    by_cases z:(0:Int) < so
    ·rw [decide_eq_true z,if_pos rfl];exact ⟨d,rfl,d0,d1⟩
    ·rw [decide_eq_false z,if_neg (by decide)];exact ⟨1 + (j:Int) - 1,rfl,by lia,by lia⟩
   refine ⟨L,_,_,_,rfl,rfl,AV.of Ab,hi,_,rfl,(by show 2<=sizeLine; lia),fun t ht=>?_⟩;have m4:=m3.add ht (.tup [.int i,.int (1 + (j:Int))]);refine ⟨W0,_,rfl,Gd.t (k:=[Sum.inl i,Sum.inl (1 + (j:Int))]) m4.hw Ab (by lia),?_⟩;refine hN _ _ ⟨_,_,rfl,m4.put _,wn.put i0 i1 hjn l1 l2,?_,J7 kn,?_⟩
   ·have:=L5 kvs [Sum.inl i,Sum.inl (1 + (j:Int))] (.int l);lia
   ·have:=jn.more (.int l) i0 i1;rw [show (1:Int) + ((j + 1:Nat):Int)=1 + (j:Int) + 1 by lia];exact this
  ·rintro σ H3 ⟨WI,v5,rfl,mi3,wn3,wl3,WK,jn3⟩;have YU:Fg n WI:=fun k h1 h2=>jn3 k h1 (by lia)
   refine ⟨_,rfl,rfl,.inr ⟨_,rfl,_,_,rfl,rfl,.inl ⟨by decide,by decide⟩,_,rfl,?_,?_,?_⟩⟩
   ·split <;> decide
   ·split <;> decide
   have t5:((5:Int) * (if decide (V.int so=V.int 2)=true then 1 else 0)).toNat<=5:=by split <;> decide
   generalize ((5:Int) * (if decide (V.int so=V.int 2)=true then 1 else 0)).toNat=m5 at t5;refine Di (lo:=0) (fun j σ H'=>∃ (kvs:List (List AK × V)) (v5 v6:Option V),σ=[some (.ref p),some (.int n),some (.ref N),some (.int so),some (.ref W0),v5,v6,none,none,none]/\MI H H' p N W0 xs kvs/\F0 n kvs/\kvs.length<=30 + j/\(kvs.map (·.1)).Nodup/\Fg n kvs)
    ⟨WI,_,_,rfl,mi3,wn3,by lia,WK,YU⟩ ?_ ?_
   ·rintro j σ H' hj ⟨kvs,v5,v6,rfl,mi,wn,wl,kn,jn⟩ rt bk NN hN;refine ⟨_,rfl,_,rfl,p,n,rfl,mi.pn,by lia,by lia,fun d1 a b c ZI ZH=>?_⟩;have m1:=mi.pen a b c;refine ⟨_,rfl,_,rfl,p,n,rfl,m1.pn,by lia,by lia,fun d2 a2 b2 c2 d20 d21=>?_⟩;have m2:=m1.pen a2 b2 c2;refine ⟨(by show 2<=sizeLine; lia),fun L hL=>?_⟩;have m3:=m2.add hL (.lst [.int d1,.int d2]);refine ⟨L,[d1,d2],rfl,AV.of Ab,(by show 2 < 64; decide),fun e LI he pm _=>?_⟩;have m4:=m3.add he (.lst (LI.map V.int));obtain ⟨x,y,rfl⟩:∃ x y,LI=[x,y]:=by
     have:=pm.length_eq;match LI,this with
     | [x,y],_=>exact ⟨x,y,rfl⟩
    have hx:x=d1\/x=d2:=by simpa using pm.mem_iff.mp (show x ∈ [x,y] by simp)
    have hy:y=d1\/y=d2:=by simpa using pm.mem_iff.mp (show y ∈ [x,y] by simp)
    have x0:0<=x/\x < n:=by rcases hx with rfl | rfl <;> lia
    have y0:0<=y/\y < n:=by rcases hy with rfl | rfl <;> lia
    refine ⟨_,rfl,e,_,_,_,rfl,rfl,AV.of Ab,rfl,_,rfl,e,_,_,_,rfl,rfl,AV.of Ab,rfl,_,_,rfl,rfl,_,rfl,?_⟩;refine BB (fun lt=>?_) (fun _=>hN _ _ ⟨kvs,_,_,rfl,m4,wn,by lia,kn,jn⟩);have lt':x < y:=by simpa using lt
    refine ⟨_,rfl,p,1,3,rfl,m4.pn,by decide,by decide,by decide,by decide,fun l a b c l1 l2=>?_⟩;have m5:=m4.pen a b c;have ne:e ≠ p:=m3.pn.ne he;have hE:AV K (upd (upd (upd (upd (upd H' p (.lst (A6 a b c))) p (.lst (A6 a2 b2 c2))) L (.lst [.int d1,.int d2])) e (.lst ([x,y].map V.int))) p (.lst (A6 a b c))) e ([x,y].map V.int):=AV.of (by rw [Ae ne]; exact Ab);refine ⟨_,rfl,_,rfl,e,_,_,_,rfl,rfl,AV.of (by rw [Ae ne]; exact Ab),rfl,_,rfl,e,_,_,_,rfl,rfl,AV.of (by rw [Ae ne]; exact Ab),rfl,(by show 2<=sizeLine; lia),fun t ht=>?_⟩;have m6:=m5.add ht (.tup [.int x,.int y]);refine ⟨W0,_,rfl,Gd.t (k:=[Sum.inl x,Sum.inl y]) m6.hw Ab (by lia),?_⟩;refine hN _ _ ⟨_,_,_,rfl,m6.put _,wn.put x0.1 lt' y0.2 l1 l2,?_,J7 kn,jn.put _ _⟩;have:=L5 kvs [Sum.inl x,Sum.inl y] (.int l);lia
   ·rintro σ H4 ⟨kvs,v5,v6,rfl,mi,wn,wl,kn,jn⟩;refine ⟨(by show 0<=sizeLine; lia),fun R hR=>?_⟩;have m1:=mi.add hR (.lst []);refine ⟨_,rfl,W0,kvs,rfl,m1.hw,fun l ts hl tl tt=>?_⟩;have m2:=m1.add hl (.lst (ts.map V.ref));have nRl:l ≠ R:=by intro z; subst z; rw [Ab] at hl; cases hl
    have nRW:R ≠ W0:=by intro z; subst z; rw [mi.hw] at hR; cases hR
    have nRN:R ≠ N:=by intro z; subst z; rw [mi.hn] at hR; cases hR
    have nRp:R ≠ p:=mi.pn.ne hR;have fR:H R=none:=by
     cases z:H R with
     | none=>rfl
     | some o=>have:=mi.kp R o nRp z; rw [hR] at this; cases this
    refine ⟨l,rfl,⟨_,AV.of Ab⟩,?_⟩;refine Gx (xs:=ts.map V.ref) (fun i σ H'=>∃ (vs:List V) (ws:List AI) (v8 v9:Option V),σ=[some (.ref p),some (.int n),some (.ref N),some (.int so),some (.ref W0),v5,v6,some (.ref R),v8,v9]/\MI H H' p N W0 xs kvs/\H' l=some (.lst (ts.map V.ref))/\H' R=some (.lst vs)/\AM H' vs (ws.map DC)/\ws=((kvs.take i).map (Ju xs)).map Fq/\vs.length=i/\(∀ u ∈ ws,BI u.1=true/\BI u.2.1=true/\1<=u.2.2/\u.2.2 * 9 < 10 ^ 30)/\∀ (i:Nat) t q,ts[i]? = some t->kvs[i]? = some q->H' t=some (.tup (q.1.map kV)))
     ⟨[],[],_,_,rfl,m2,Ab,by rw [Ae nRl.symm,Ab],.nil,rfl,rfl,fun u hu=>(nomatch hu),fun i t q e1 e2=>by
      have z:=tt i t q e1 e2;rw [Ae (Ah z hl)]; exact z⟩ (fun i σ H' _ ⟨_,_,_,_,_,_,h,_⟩=>AV.of h) ?_ ?_
    ·rintro i v σ H' hv ⟨vs,ws,v8,v9,rfl,mi,hl',UA,hd,wsl,vsl,good,XY⟩ rt bk NN hN;obtain ⟨t,et,rfl⟩:∃ t,ts[i]? = some t/\v=.ref t:=by
      rw [ai] at hv;cases ex:ts[i]? with
      | none=>rw [ex] at hv; cases hv
      | some x=>rw [ex] at hv; exact ⟨x,rfl,(aI.inj hv).symm⟩
     have hi:i < ts.length:=(ag.mp et).1;have eq:kvs[i]? = some kvs[i]:=ZS (by lia);obtain ⟨a,b,len,ek,a0,ab,bn,l1,l2⟩:=wn _ (ZW eq);have ht:=XY i t _ et eq;rw [ek] at ht;refine ⟨t,[.int a,.int b],rfl,A2.of ht,rfl,_,_,rfl,_,_,rfl,rfl,?_⟩;obtain ⟨x,ax,mx⟩:=RU (xs:=xs) a0 (by lia);obtain ⟨y,ay,my⟩:=RU (xs:=xs) (i:=b) (by lia) (by lia);refine ⟨_,rfl,.inl ⟨rfl,_,AV.of UA⟩,_,rfl,_,rfl,N,_,_,_,rfl,rfl,AV.of mi.hn,ax,_,rfl,_,rfl,N,_,_,_,rfl,rfl,AV.of mi.hn,ay,(by show 2<=sizeLine; lia),fun L hL=>?_⟩;have m1:=mi.add hL (.lst [.str x,.str y]);refine ⟨L,[x,y],rfl,AV.of Ab,(by show 2 < 64; decide),fun L2 ss PZ pm srt=>?_⟩;have m2:=m1.add PZ (.lst (ss.map V.str));obtain ⟨x',y',rfl⟩:∃ x y,ss=[x,y]:=by
      have:=pm.length_eq;match ss,this with
      | [x,y],_=>exact ⟨x,y,rfl⟩
     refine ⟨L2,_,rfl,.inl ⟨AV.of Ab,fun T hT=>?_⟩⟩;have m3:=m2.add hT (.tup ([x',y'].map V.str));refine ⟨_,rfl,_,rfl,_,rfl,(by show 2<=sizeLine; lia),fun T2 KY=>?_⟩;have m4:=m3.add KY (.tup [.int a,.int b]);obtain ⟨v',ev,mv⟩:=Qm (kvs:=kvs) (k:=[Sum.inl a,Sum.inl b]) (v:=.int len) (by rw [<-ek]; exact ZW eq);obtain ⟨a',b',Iw,ek',_,_,_,l1',l2'⟩:=wn _ mv;cases ek'
     have el:Iw=len:=by
      have z:=R4 kn mv (by rw [<-ek]; exact ZW eq);cases z
      rfl
     obtain ⟨mn,mx2⟩:=M3 pm srt;refine ⟨W0,.int Iw,rfl,ev ▸ CK.t (k:=[Sum.inl a,Sum.inl b]) m4.hw Ab,(by show 1<=sizeLine; lia),fun T3 Xo=>?_⟩;have m5:=m4.add Xo (.tup [.int Iw]);have eT:(upd (upd (upd (upd (upd H' L (.lst [.str x,.str y])) L2 (.lst ([x',y'].map V.str))) T (.tup ([x',y'].map V.str))) T2 (.tup [.int a,.int b])) T3 (.tup [.int Iw])) T=some (.tup ([x',y'].map V.str)):=by
      rw [Ae (by intro z; subst z; rw [Ae (by intro z; subst z; rw [Ab] at KY; cases KY),Ab] at Xo; cases Xo),Ae (by intro z; subst z; rw [Ab] at KY; cases KY),Ab]
     refine ⟨T,T3,_,_,rfl,rfl,A2.of eT,A2.of Ab,(by simp),(by show 2 + 1<=sizeLine; lia),fun z=>(by cases z),fun _ T4 Z0=>?_⟩;have m6:=m5.add Z0 (.tup ([x',y'].map V.str ++ [.int Iw]));have keep:∀ (bb:Addr) (o:HO),H' bb=some o->(upd (upd (upd (upd (upd (upd H' L (.lst [.str x,.str y])) L2 (.lst ([x',y'].map V.str))) T (.tup ([x',y'].map V.str))) T2 (.tup [.int a,.int b])) T3 (.tup [.int Iw])) T4 (.tup ([x',y'].map V.str ++ [.int Iw]))) bb=some o:=fun bb o e=>
      Af Z0 _ _ (Af Xo _ _ (Af KY _ _ (Af hT _ _ (Af PZ _ _ (Af hL _ _ e)))))
     have JE:x'=x\/x'=y:=by simpa using pm.mem_iff.mp (show x' ∈ [x',y'] by simp)
     have Yk:y'=x\/y'=y:=by simpa using pm.mem_iff.mp (show y' ∈ [x',y'] by simp)
     have nx:BI x=true:=xnm _ (ZW mx);have ny:BI y=true:=xnm _ (ZW my);have nT4:T4 ≠ R:=by intro z; subst z; exact absurd (Af Xo _ _ (Af KY _ _ (Af hT _ _ (Af PZ _ _ (Af hL _ _ UA))))) (by rw [Z0]; exact fun z=>nomatch z)
     refine ⟨R,vs,_,rfl,rfl,keep _ _ UA,by lia,?_⟩;refine hN _ _ ⟨vs ++ [.ref T4],ws ++ [(x',y',Iw)],_,_,rfl,?_,?_,Ab,?_,?_,by rw [ZY,vsl]; rfl,fun u hu=>?_,fun i t q e1 e2=>?_⟩
     ·refine ⟨m6.pn.other nRp,by rw [Ae nRN.symm]; exact m6.hn,by rw [Ae nRW.symm]; exact m6.hw,fun b o hb e=>by rw [Ae (Ah e fR)]; exact m6.kp b o hb e,nN,nW,wN,fW⟩
     ·rw [Ae nRl]; exact keep _ _ hl'
     ·have d1:AM (upd (upd (upd (upd (upd (upd (upd H' L (.lst [.str x,.str y])) L2 (.lst ([x',y'].map V.str))) T (.tup ([x',y'].map V.str))) T2 (.tup [.int a,.int b])) T3 (.tup [.int Iw])) T4 (.tup ([x',y'].map V.str ++ [.int Iw]))) R (.lst (vs ++ [.ref T4]))) vs (ws.map DC):=BV hd fun b ys e=>by
       rw [Ae (by intro z; subst z; rw [UA] at e; cases e)]; exact keep _ _ e
      rw [aa];refine BO d1 (.cons (.tup (vs:=[.str x',.str y',.int Iw]) (by rw [Ae nT4]; exact Ab) (.cons (.str _) (.cons (.str _) (.cons (.int _) .nil)))) .nil)
     ·rw [aD,eq,aa,aa,<-wsl];refine congrArg (ws ++ ·) ?_;show _=[Fq (Ju xs kvs[i])]
      rw [ek,Lf mx my,el,mn,mx2];rfl
     ·rcases aG.mp hu with hu | hu
      ·exact good u hu
      ·rw [ar] at hu;subst hu;refine ⟨?_,?_,l1',l2'⟩
       ·rcases JE with z | z <;> (show BI x'=true; rw [z]; assumption)
       ·rcases Yk with z | z <;> (show BI y'=true; rw [z]; assumption)
     ·have z:=keep _ _ (XY i t q e1 e2);rw [Ae (by intro y; subst y; rw [XY i _ q e1 e2] at UA; cases UA)]; exact z
    ·rintro σ H' ⟨vs,ws,v8,v9,rfl,mi,hl',UA,hd,wsl,vsl,good,XY⟩;rw [ZR] at vsl;rw [ZR,tl,aL] at wsl;have wsll:ws.length=kvs.length:=by rw [wsl,ZR,ZR]
     refine ⟨_,rfl,N,xs,rfl,AV.of mi.hn,by lia,fun L ss hL pm srt=>?_⟩;refine ⟨L,_,rfl,.inl ⟨AV.of Ab,fun T1 PY=>?_⟩⟩;have m1:=(mi.add hL (.lst (ss.map V.str))).add PY (.tup (ss.map V.str));have s1:AD H' (upd (upd H' L (.lst (ss.map V.str))) T1 (.tup (ss.map V.str))):=(Af hL).trans (Af PY);refine ⟨_,rfl,R,vs,ws,rfl,AV.of (s1 _ _ UA),BV hd (fun b ys e=>s1 _ _ e),fun L2 Cb EH PZ d2 SO=>?_⟩;refine ⟨L2,_,rfl,.inl ⟨AV.of Ab,fun T2 KY=>?_⟩⟩;have s2:AD (upd (upd H' L (.lst (ss.map V.str))) T1 (.tup (ss.map V.str))) (upd (upd (upd (upd H' L (.lst (ss.map V.str))) T1 (.tup (ss.map V.str))) L2 (.lst Cb)) T2 (.tup Cb)):=(Af PZ).trans (Af KY);refine ⟨(by show 2<=sizeLine; lia),fun M hM=>?_⟩;have m2:=((m1.add PZ (.lst Cb)).add KY (.tup Cb)).add hM (.tup [.ref T1,.ref T2]);refine k _ M ss EH m2.pn (fun b o hb e=>m2.kp b o hb e) ⟨⟨⟨T1,T2,Cb,Ab,Af hM _ _ (s2 _ _ Ab),Af hM _ _ Ab,BV d2 fun b ys e=>Af hM _ _ (s2 _ _ e)⟩,by rw [pm.length_eq]; exact xl,pm.nodup_iff.mpr xnd,fun x hx=>xnm x (pm.mem_iff.mp hx),by rw [SO.length_eq]; lia,fun u hu=>(let g:=good u (SO.mem_iff.mp hu); ⟨g.1,g.2.1,g.2.2.1,by have:=g.2.2.2; have:=g.2.2.1; lia⟩)⟩,⟨xs,kvs.map (Ju xs),pm,by rw [<-wsl]; exact SO,Mx xnd (by rw [xl]; exact wn.w) kn (by rw [xl]; exact jn)⟩,srt,by rw [SO.length_eq]; lia⟩ (fun u hu=>(good u (SO.mem_iff.mp hu)).2.2.2)
structure MapF (K:ZV) (mg:Str->Option Value) (fS:Addr) (fdS:FuncData):Prop where
 F:DP K "_law_map" "_law_map" EL fS fdS
 mg:mg "_law_map"=some (.ref fS)
 b:DO K fdS ["_law_pen_here","_law_many"] []
end
section
variable {P:Program} {w:World} {K:ZV} {mg:Str->Option Value} {base:Heap}
theorem LH (h_int:mg "int"=none) (h_sorted:mg "sorted"=none) (h_tuple:mg "tuple"=none) {fT fM fS fG:Addr} {fdT fdM fdS fdG:FuncData} (DK:Ex K mg fT fdT) (GT:AG P w K mg base BD 1 fT fdT ["_law_pen_here","_law_many"] CI) (XM:MapF K mg fM fdM) (GM:AG P w K mg base BD 3 fM fdM ["_law_pen_here","_law_many"] Q2) (XS:SomeF K mg fS fdS) (GS:AG P w K mg base BD 2 fS fdS ["_law_pen_here","_law_things","_law_most"] (Qy K)) (XG:Nv K mg fG fdG) (GG:AG P w K mg base BD 2 fG fdG ["_law_pen_here","_law_least","_law_size"] F5) {f:Addr} {fd:FuncData} (F:DP K "_law_case" "_law_case" DY f fd):AG P w K mg base BD 4 f fd ["_law_pen_here","_law_many","_law_most"] NG:=by
 refine F.ok GA (fun vs H Q E h=>?_) (fun Cf A outer s H vs Q E hr h=>?_)
 ·obtain ⟨p,n,most,rfl,_⟩:=h;rfl
 ·obtain ⟨p,n,most,rfl,hP,n1,n30,mo1,mo2,k⟩:=h;have nd:=GA.nd;have big:100000 < sizeLine:=by decide
  refine ⟨_,(Ag (As (i:=3) nd rfl (Or.inl rfl) (Aj GM (hr.mono (by decide)) (by rfl) XM.mg XM.F.kp XM.b .nil Ax (Aa (pv 0) (Aa (pv 1) Ac))))
  (Ag (FF (ix:=4) (N:=["_law_place","_law_pen_here"]) (σ0:=fun σ=>[none,some 0].map fun j=>j.bind fun j=>(σ[j]?).join) nd rfl (Or.inl rfl) rfl (AE.caught (by rfl) (by decide +kernel) rfl (by decide +kernel) (by intro y hy; simp only [ZU,af,or_false] at hy; rcases hy with rfl <;> rfl)
   (by intro y hy e; simp only [ZU,af,or_false] at hy; rcases hy with rfl | rfl | rfl | rfl <;> first | exact ⟨_,rfl⟩ | cases e)) (fun σ _=>Ba.of [none,some 0] rfl (by
   intro i j x h1 h2;match i,h1,h2 with
   | 0,_,h2=>cases h2
   | 1,h1,h2=>cases h1; cases h2; exact ⟨rfl,.inl rfl,.inl rfl⟩
   | n + 2,h1,_=>cases h1)) (BX K rfl (Aj GS (hr.mono (by decide)) (by rfl) XS.mg XS.F.kp XS.b .nil Ax (Aa (pv 0) (Aa (Al (Ai K rfl) (pv 3) Ad (fun _ _=>rfl)) (Aa (pv 2) Ac)))))
   (fun s2 H C fp=>⟨(Ak (i:=0) (show (["_law_place","_law_pen_here"]:List Str).Nodup by decide +kernel) rfl (Or.inl rfl)),Bc,(AX (Aa (pv 0) (Aa (Aj GG (hr.mono (by decide)) (by rfl) XG.mg XG.F.kp XG.b .nil Ax (Aa (pv 1) (Aa Ad (Aa Ad Ac)))) Ac)))⟩))
  (Ag (FF (ix:=5) (N:=["_law_place","_law_pen_here"]) (σ0:=fun σ=>[none,some 0].map fun j=>j.bind fun j=>(σ[j]?).join) nd rfl (Or.inl rfl) rfl (AE.caught (by rfl) (by decide +kernel) rfl (by decide +kernel) (by intro y hy; simp only [ZU,af,or_false] at hy; rcases hy with rfl <;> rfl)
   (by intro y hy e; simp only [ZU,af,or_false] at hy; rcases hy with rfl | rfl | rfl | rfl <;> first | exact ⟨_,rfl⟩ | cases e)) (fun σ _=>Ba.of [none,some 0] rfl (by
   intro i j x h1 h2;match i,h1,h2 with
   | 0,_,h2=>cases h2
   | 1,h1,h2=>cases h1; cases h2; exact ⟨rfl,.inl rfl,.inl rfl⟩
   | n + 2,h1,_=>cases h1)) (BX K rfl (Aj GS (hr.mono (by decide)) (by rfl) XS.mg XS.F.kp XS.b .nil Ax (Aa (pv 0) (Aa (Al (Ai K rfl) (pv 3) Ad (fun _ _=>rfl)) (Aa (Al (A7 K rfl) (BG (Aa Ad (Aa Ad Ac))) (A5 CW (by rfl) h_int PyProof.Rows.boot_int (Aa (BZ Et (pv 1) Ad (AJ _)) Ac)) (fun _ _=>rfl)) Ac)))))
   (fun s2 H C fp=>⟨(Ak (i:=0) (show (["_law_place","_law_pen_here"]:List Str).Nodup by decide +kernel) rfl (Or.inl rfl)),Bc,(AX (Aa (pv 0) (Aa (Aj GG (hr.mono (by decide)) (by rfl) XG.mg XG.F.kp XG.b .nil Ax (Aa (pv 1) (Aa Ad (Aa Ad Ac)))) Ac)))⟩))
  (Ag (As (i:=6) nd rfl (Or.inl rfl) (Al (A7 K rfl) (BG (Aa MM (Aa (Aw AY Ad (Aj GT (hr.mono (by decide)) (by rfl) DK.mg DK.F.kp DK.b .nil Ax (Aa (pv 0) (Aa Ad Ac)))) (Aa (Aw AY Ad (Aj GT (hr.mono (by decide)) (by rfl) DK.mg DK.F.kp DK.b .nil Ax (Aa (pv 0) (Aa Ad Ac)))) (Aa (Aj GG (hr.mono (by decide)) (by rfl) XG.mg XG.F.kp XG.b .nil Ax (Aa (pv 0) (Aa Ad (Aa Ad Ac)))) Ac))))) (Aj GT (hr.mono (by decide)) (by rfl) DK.mg DK.F.kp DK.b .nil Ax (Aa (pv 0) (Aa Ad Ac))) (fun _ _=>rfl)))
  (Ao (AB (AX (Aa (pv 3) (Aa (A5 (AH K rfl) (by rfl) h_tuple PyProof.Rows.boot_tuple (Aa (Aq (Dk K rfl) (by rfl) h_sorted PyProof.Rows.boot_sorted (Aa (pv 4) Ac)) Ac)) (Aa (A5 (AH K rfl) (by rfl) h_tuple PyProof.Rows.boot_tuple (Aa (Aq (Dk K rfl) (by rfl) h_sorted PyProof.Rows.boot_sorted (Aa (pv 5) Ac)) Ac)) (Aa (pv 6) Ac))))))))))),?_⟩
  refine ⟨_,rfl,_,rfl,p,n,rfl,hP,n1,n30,fun H4 m xs ws P4 q4 hM w9=>?_⟩;obtain ⟨ta,tb,mvs,Xb,Pk,hm3,hm4⟩:=hM.at'.ex;have xl:=hM.at'.len;refine ⟨_,rfl,_,rfl,m,_,_,_,rfl,rfl,A2.of Xb,rfl,_,rfl,p,ta,xs,most,rfl,P4,A2.of Pk,by lia,by lia,by lia,by lia,fun Ha Da ysa zsa Pa ka fa da pma l1a l2a=>?_⟩;have nDa:Da ≠ p:=P4.ne fa;refine ⟨Da,rfl,⟨_,AV.of da⟩,?_⟩;have yla:ysa.length<=1000:=by lia
  have ysuba:∀ y ∈ ysa,y ∈ xs:=fun y hy=>pma.mem_iff.mp (aV _ hy)
  have ynda:ysa.Nodup:=(b8.mp (pma.nodup_iff.mpr hM.at'.nd)).1;refine Bm Cy (xs:=ysa.map V.str) (fun D i σ H' acc=>∃ (v:Option V) (rs:List Be),σ=[v,some (.ref p)]/\A0 H' p/\(∀ b o,b ≠ p->Ha b=some o->H' b=some o)/\H' D=some (.lst acc)/\AM H' acc (rs.map BK)/\acc.length=i/\rs.map (·.1)=ysa.take i/\∀ r ∈ rs,0<=r.2/\r.2 * 9 < 10 ^ 30)
   (by rw [ZR]; lia) (fun D hD=>⟨_,[],rfl,Pa.other (Pa.ne hD),fun b o hb e=>Af hD _ _ e,Ab,.nil,rfl,rfl,fun r hr=>(nomatch hr)⟩)
   (fun D i σ H' acc hD ⟨v,rs,_,_,kp,Bg,_,al,_⟩=>⟨AV.of (kp _ _ nDa da),Bg,al⟩) ?_ ?_
  ·rintro D i σ H' acc x B hD ex ⟨v,rs,rfl,P2,k2,d2,dd,al,rt,rl⟩ hB;obtain ⟨y,ey,rfl⟩:∃ y,ysa[i]? = some y/\x=.str y:=by
    rw [ai] at ex;cases z:ysa[i]? with
    | none=>rw [z] at ex; cases ex
    | some y=>rw [z] at ex; exact ⟨y,rfl,(aI.inj ex).symm⟩
   have nD:D ≠ p:=Pa.ne hD;refine ⟨_,rfl,_,rfl,p,0,4,rfl,P2,by decide,by decide,by decide,by decide,fun l a b c la lb=>?_⟩;refine ⟨(by show 2<=sizeLine; lia),fun T hT=>?_⟩;have d3:(upd (upd H' p (.lst (A6 a b c))) T (.tup [.str y,.int l])) D=some (.lst acc):=Af hT _ _ (by rw [Ae nD]; exact d2);have nT:T ≠ D:=by intro z; subst z; rw [Ae nD,d2] at hT; cases hT
   have nTp:T ≠ p:=(A0.set (H:=H') (p:=p) a b c).ne hT;refine hB _ _ _ d3 ⟨_,rs ++ [(y,l)],rfl,((A0.set a b c).other nTp).other nD,fun b' o hb e=>?_,Ab,?_,by rw [ZY,al]; rfl,?_,fun r hr=>?_⟩
   ·rw [Ae (Ah e hD)];exact Af hT _ _ (by rw [Ae hb]; exact k2 b' o hb e)
   ·rw [aa];refine BO (Ar dd fun b' ys e=>?_) (.cons (Eb (u:=(y,l)) (by rw [Ae nT]; exact Ab)) .nil);rw [Ae (by intro z; subst z; rw [d2] at e; cases e)];exact Af hT _ _ (by rw [Ae (by intro z; subst z; obtain ⟨_,_,_,z⟩:=P2; rw [z] at e; cases e)]; exact e)
   ·rw [aa,rt,aD,ey];rfl
   ·rcases aG.mp hr with hr | hr
    ·exact rl r hr
    ·rw [ar] at hr;subst hr;exact ⟨la,lb⟩
  rintro Sa σa HSa usa hSa ⟨va,rsa,rfl,PSa,kSa,dSa,dda,ala,rta,rla⟩;have rlena:rsa.length=ysa.length:=by
   have:=congrArg bH rta;rw [ZR,aO,ZR,gc] at this;exact this
  rw [ZR,aL] at rta;have oka:Bo xs 0 rsa:=⟨fun r hr=>ysuba _ (by rw [<-rta]; exact eD hr),by rw [rta]; exact ynda,fun r hr=>⟨(rla r hr).1,by have:=rla r hr; lia⟩,by lia⟩
  have nSa:Sa ≠ p:=Pa.ne hSa;have qa:Bd p H4 HSa:=fun b o hb e=>kSa b o hb (ka b o hb e)
  have t5:=US P4 qa;obtain ⟨mf,hmf,mf1,mf2⟩:∃ mf:Int,Ff [V.int 8,V.int 30] (if decide ((9:Int) < (n:Int))=true then 1 else 0)=some (.int mf)/\1<=mf/\mf<=30:=by
   by_cases z:decide ((9:Int) < (n:Int))=true
   ·rw [if_pos z]; exact ⟨30,rfl,by decide,by decide⟩
   ·rw [if_neg z]; exact ⟨8,rfl,by decide,by decide⟩
  refine ⟨_,rfl,_,rfl,m,_,_,_,rfl,rfl,A2.of (t5 _ _ Xb),rfl,(by show 2<=sizeLine; lia),fun L0 Xv=>?_⟩;have s0:=Af (o:=.lst [.int 8,.int 30]) Xv;have Yx:A0 (upd HSa L0 (.lst [.int 8,.int 30])) p:=by obtain ⟨_,_,_,z⟩:=PSa; exact ⟨_,_,_,s0 _ _ z⟩
  have Xu:(upd HSa L0 (.lst [.int 8,.int 30])) L0=some (.lst [.int 8,.int 30]):=Ab;generalize upd HSa L0 (.lst [.int 8,.int 30])=H50 at s0 Yx Xu;refine ⟨_,rfl,_,_,rfl,rfl,.inr ⟨_,rfl,L0,_,_,_,rfl,rfl,AV.of Xu,hmf,?_⟩⟩;refine ⟨p,ta,xs,mf,rfl,Yx,A2.of (s0 _ _ (t5 _ _ Pk)),by lia,by lia,by lia,by lia,fun Hb Db ysb zsb Pb kb fb db pmb l1b l2b=>?_⟩;have nDb:Db ≠ p:=Yx.ne fb;refine ⟨Db,rfl,⟨_,AV.of db⟩,?_⟩;have ylb:ysb.length<=1000:=by lia
  have ysubb:∀ y ∈ ysb,y ∈ xs:=fun y hy=>pmb.mem_iff.mp (aV _ hy)
  have yndb:ysb.Nodup:=(b8.mp (pmb.nodup_iff.mpr hM.at'.nd)).1;refine Bm Cy (xs:=ysb.map V.str) (fun D i σ H' acc=>∃ (v:Option V) (rs:List Be),σ=[v,some (.ref p)]/\A0 H' p/\(∀ b o,b ≠ p->Hb b=some o->H' b=some o)/\H' D=some (.lst acc)/\AM H' acc (rs.map BK)/\acc.length=i/\rs.map (·.1)=ysb.take i/\∀ r ∈ rs,1<=r.2/\r.2 * 9 < 10 ^ 30)
   (by rw [ZR]; lia) (fun D hD=>⟨_,[],rfl,Pb.other (Pb.ne hD),fun b o hb e=>Af hD _ _ e,Ab,.nil,rfl,rfl,fun r hr=>(nomatch hr)⟩)
   (fun D i σ H' acc hD ⟨v,rs,_,_,kp,Bg,_,al,_⟩=>⟨AV.of (kp _ _ nDb db),Bg,al⟩) ?_ ?_
  ·rintro D i σ H' acc x B hD ex ⟨v,rs,rfl,P2,k2,d2,dd,al,rt,rl⟩ hB;obtain ⟨y,ey,rfl⟩:∃ y,ysb[i]? = some y/\x=.str y:=by
    rw [ai] at ex;cases z:ysb[i]? with
    | none=>rw [z] at ex; cases ex
    | some y=>rw [z] at ex; exact ⟨y,rfl,(aI.inj ex).symm⟩
   have nD:D ≠ p:=Pb.ne hD;refine ⟨_,rfl,_,rfl,p,1,4,rfl,P2,by decide,by decide,by decide,by decide,fun l a b c la lb=>?_⟩;refine ⟨(by show 2<=sizeLine; lia),fun T hT=>?_⟩;have d3:(upd (upd H' p (.lst (A6 a b c))) T (.tup [.str y,.int l])) D=some (.lst acc):=Af hT _ _ (by rw [Ae nD]; exact d2);have nT:T ≠ D:=by intro z; subst z; rw [Ae nD,d2] at hT; cases hT
   have nTp:T ≠ p:=(A0.set (H:=H') (p:=p) a b c).ne hT;refine hB _ _ _ d3 ⟨_,rs ++ [(y,l)],rfl,((A0.set a b c).other nTp).other nD,fun b' o hb e=>?_,Ab,?_,by rw [ZY,al]; rfl,?_,fun r hr=>?_⟩
   ·rw [Ae (Ah e hD)];exact Af hT _ _ (by rw [Ae hb]; exact k2 b' o hb e)
   ·rw [aa];refine BO (Ar dd fun b' ys e=>?_) (.cons (Eb (u:=(y,l)) (by rw [Ae nT]; exact Ab)) .nil);rw [Ae (by intro z; subst z; rw [d2] at e; cases e)];exact Af hT _ _ (by rw [Ae (by intro z; subst z; obtain ⟨_,_,_,z⟩:=P2; rw [z] at e; cases e)]; exact e)
   ·rw [aa,rt,aD,ey];rfl
   ·rcases aG.mp hr with hr | hr
    ·exact rl r hr
    ·rw [ar] at hr;subst hr;exact ⟨la,lb⟩
  rintro Sb σb HSb usb hSb ⟨vb,rsb,rfl,PSb,kSb,dSb,ddb,alb,rtb,rlb⟩;have rlenb:rsb.length=ysb.length:=by
   have:=congrArg bH rtb;rw [ZR,aO,ZR,gc] at this;exact this
  rw [ZR,aL] at rtb;have okb:Bo xs 1 rsb:=⟨fun r hr=>ysubb _ (by rw [<-rtb]; exact eD hr),by rw [rtb]; exact yndb,fun r hr=>⟨(rlb r hr).1,by have:=rlb r hr; lia⟩,by lia⟩
  have nSb:Sb ≠ p:=Pb.ne hSb;have qb:Bd p H50 HSb:=fun b o hb e=>kSb b o hb (kb b o hb e)
  have t6:=US Yx qb;refine ⟨_,rfl,p,7,rfl,PSb,by decide,by decide,fun d3 a3 b3 c3 d30 d31=>⟨_,_,rfl,rfl,?_⟩⟩;refine ⟨_,rfl,p,3,rfl,A0.set _ _ _,by decide,by decide,fun d4 a4 b4 c4 d40 d41=>⟨_,_,rfl,rfl,?_⟩⟩;refine ⟨_,rfl,p,1,3,rfl,A0.set _ _ _,by decide,by decide,by decide,by decide,fun l3 a5 b5 c5 l30 l31=>?_⟩;refine ⟨(by show 4<=sizeLine; lia),fun L2 PZ=>?_⟩;have P7:A0 (upd (upd (upd HSb p (.lst (A6 a3 b3 c3))) p (.lst (A6 a4 b4 c4))) p (.lst (A6 a5 b5 c5))) p:=A0.set _ _ _;have nL2:L2 ≠ p:=P7.ne PZ;refine ⟨_,rfl,p,4,rfl,P7.other nL2,by decide,by decide,fun d5 a6 b6 c6 d50 d51=>?_⟩;have q7:Bd p HSb (upd (upd (upd (upd (upd HSb p (.lst (A6 a3 b3 c3))) p (.lst (A6 a4 b4 c4))) p (.lst (A6 a5 b5 c5))) L2 (.lst [.non,.int (1 + d3),.int (1 + d4),.int l3])) p (.lst (A6 a6 b6 c6))):=(((Bd.upd.trans Bd.upd).trans Bd.upd).trans (Bd.of_same (Af PZ))).trans Bd.upd;have hL7:(upd (upd (upd (upd (upd HSb p (.lst (A6 a3 b3 c3))) p (.lst (A6 a4 b4 c4))) p (.lst (A6 a5 b5 c5))) L2 (.lst [.non,.int (1 + d3),.int (1 + d4),.int l3])) p (.lst (A6 a6 b6 c6))) L2=some (.lst [.non,.int (1 + d3),.int (1 + d4),.int l3]):=by rw [Ae nL2,Ab]
  have P8:A0 (upd (upd (upd (upd (upd HSb p (.lst (A6 a3 b3 c3))) p (.lst (A6 a4 b4 c4))) p (.lst (A6 a5 b5 c5))) L2 (.lst [.non,.int (1 + d3),.int (1 + d4),.int l3])) p (.lst (A6 a6 b6 c6))) p:=A0.set _ _ _;generalize upd (upd (upd (upd (upd HSb p (.lst (A6 a3 b3 c3))) p (.lst (A6 a4 b4 c4))) p (.lst (A6 a5 b5 c5))) L2 (.lst [.non,.int (1 + d3),.int (1 + d4),.int l3])) p (.lst (A6 a6 b6 c6))=H7 at q7 hL7 P8;obtain ⟨x,dx,hx,lim⟩:∃ (x:V) (dx:PyData),Ff [V.non,.int (1 + d3),.int (1 + d4),.int l3] d5=some x/\Lim x dx:=by
   have:d5=0\/d5=1\/d5=2\/d5=3:=by lia
   rcases this with rfl | rfl | rfl | rfl
   ·exact ⟨_,_,rfl,.inl ⟨rfl,rfl⟩⟩
   ·exact ⟨_,_,rfl,.inr ⟨_,rfl,rfl,by lia,by lia⟩⟩
   ·exact ⟨_,_,rfl,.inr ⟨_,rfl,rfl,by lia,by lia⟩⟩
   ·exact ⟨_,_,rfl,.inr ⟨_,rfl,rfl,l30,by lia⟩⟩
  refine ⟨L2,_,_,x,rfl,rfl,AV.of hL7,hx,?_⟩;have t7:=US PSb q7;have tA:∀ b ys,HSa b=some (.tup ys)->H7 b=some (.tup ys):=fun b ys z=>t7 _ _ (t6 _ _ (s0 _ _ z))
  have hS7:H7 Sa=some (.lst usa):=q7 _ _ nSa (qb _ _ nSa (s0 _ _ dSa));have dS7:AM H7 usa (rsa.map BK):=Ar dda tA;have hF7:H7 Sb=some (.lst usb):=q7 _ _ nSb dSb;have dF7:AM H7 usb (rsb.map BK):=Ar ddb t7;have hM7:=(hM.keepT t5).keepT tA;refine ⟨_,rfl,_,rfl,Sa,usa,rsa,rfl,AV.of hS7,dS7,fun l1 Ss Hl Pl dd1 Yh=>⟨l1,_,rfl,.inl ⟨AV.of Ab,fun T1 PY=>?_⟩⟩⟩;have s1:AD H7 (upd (upd H7 l1 (.lst Ss)) T1 (.tup Ss)):=(Af Pl).trans (Af PY);have Po:(upd (upd H7 l1 (.lst Ss)) T1 (.tup Ss)) T1=some (.tup Ss):=Ab;generalize upd (upd H7 l1 (.lst Ss)) T1 (.tup Ss)=H8 at s1 Po;refine ⟨_,rfl,Sb,usb,rsb,rfl,AV.of (s1 _ _ hF7),Ar dF7 (fun b ys z=>s1 _ _ z),fun l2 Sg SH PX Mw SO=>⟨l2,_,rfl,.inl ⟨AV.of Ab,fun T2 KY=>?_⟩⟩⟩;have s2:AD H8 (upd (upd H8 l2 (.lst Sg)) T2 (.tup Sg)):=(Af PX).trans (Af KY);have Pn:(upd (upd H8 l2 (.lst Sg)) T2 (.tup Sg)) T2=some (.tup Sg):=Ab;generalize upd (upd H8 l2 (.lst Sg)) T2 (.tup Sg)=H9 at s2 Pn;refine ⟨_,rfl,(by show 4<=sizeLine; lia),fun U hU=>?_⟩;have s3:=Af (o:=.tup [.ref m,.ref T1,.ref T2,x]) hU;have Mt:AD H7 (upd H9 U (.tup [.ref m,.ref T1,.ref T2,x])):=(s1.trans s2).trans s3;have PU:A0 (upd H9 U (.tup [.ref m,.ref T1,.ref T2,x])) p:=by obtain ⟨_,_,_,z⟩:=P8; exact ⟨_,_,_,Mt _ _ z⟩
  have kp:Bd p H (upd H9 U (.tup [.ref m,.ref T1,.ref T2,x])):=((((q4.trans qa).trans (Bd.of_same s0)).trans qb).trans q7).trans (Bd.of_same Mt);refine k _ U m xs ws Hl SH x dx PU kp ⟨⟨⟨T1,T2,Ss,Sg,Ab,s3 _ _ (s2 _ _ Po),Ar dd1 (fun b ys z=>Mt _ _ z),s3 _ _ Pn,Ar Mw (fun b ys z=>s3 _ _ (s2 _ _ z))⟩,hM7.keepT (fun b ys z=>Mt _ _ z),n1,n30,oka.perm Yh,okb.perm SO,?_,?_,lim⟩,?_,w9,fun r hr=>(rla r (Yh.mem_iff.mp hr)).2,fun r hr=>(rlb r (SO.mem_iff.mp hr)).2,fun l e=>?_⟩
  ·rw [Yh.length_eq]; lia
  ·rw [SO.length_eq]; lia
  ·rw [Yh.length_eq]; lia
  ·rcases lim with ⟨rfl,_⟩ | ⟨l',rfl,_,z1,z2⟩
   ·cases e
   ·cases e; exact ⟨z1,z2⟩
end
end K14
namespace L2
open PySem PySem.Spec PyProof.Rows
theorem Ga.tms {H H':Hp} {m m' t1 T:Addr} {n:Nat} {xs:List Str} {ws:List AI} {k:Int} {vs:List V} (h:Ga H m n xs ws) (k1:1<=k) (b:∀ u ∈ ws,u.2.2 * k < 10 ^ 30)
  (h1:H' m'=some (.tup [.ref t1,.ref T])) (EV:H' t1=some (.tup (xs.map V.str))) (hT:H' T=some (.tup vs)) (dd:AM H' vs ((DG k ws).map DC)):Ga H' m' n xs (DG k ws):=by
 obtain ⟨xs0,Ul,pp,wp,wc⟩:=h.dr;have a:=h.at';have one:∀ l:Int,1<=l->1<=l * k:=fun l hl=>by
  have:=fh hl k1 (by decide) (by lia);lia
 refine ⟨⟨⟨t1,T,vs,h1,EV,hT,dd⟩,a.len,a.nd,a.nm,by unfold DG; rw [ZR]; exact a.wl,fun u hu=>?_⟩,⟨xs0,Ul.map (Qs k),pp,?_,?_⟩,h.so,by unfold DG; rw [ZR]; exact h.l64⟩
 ·obtain ⟨v,hv,rfl⟩:=ZZ.mp hu;obtain ⟨w1,w2,w3,w4⟩:=a.wn v hv;exact ⟨w1,w2,one _ w3,b v hv⟩
 ·have:=wp.map (Qs k);rw [aT] at this ⊢;exact this
 ·refine wc.lens (by rw [ZR]) fun i u u' e1 e2=>?_
  rw [ai,e1] at e2;cases e2
  exact ⟨rfl,rfl,one _ (wc.1 u (ZW e1)).2.2.2⟩
section
variable {prog:Program} {w:World} {A:Around} {R:Result->Shared->Prop} {s:Shared}
end
end L2
namespace K14
open PySem L2
section
variable {P:Program} {w:World} {K:ZV} {mg:Str->Option Value} {base:Heap}
def ND (K:ZV):Sp:=fun vs H Q _=>∃ (a:Addr) (ns:List Int),vs=[.ref a]/\TZ K H a (ns.map V.int)/\ns.length<=63/\∀ H',Q (.bl true) H'
theorem Vr (h_int:mg "int"=none) (h_len:mg "len"=none) (h_max:mg "max"=none) (h_min:mg "min"=none) (h_range:mg "range"=none) {fE:Addr} {fdE:FuncData} (XE:Fn K mg "_law_pen" EJ ["_law_script","_law_k"] fE fdE) (GE:AG P w K mg base BD 1 fE fdE ["_law_script","_law_k"] (Qz K)) {fT:Addr} {fdT:FuncData} (DK:Ex K mg fT fdT) (GT:AG P w K mg base BD 1 fT fdT ["_law_pen_here","_law_many"] CI) {fCA:Addr} {fdCA:FuncData} (XCA:Fn K mg "_law_case" DY ["_law_pen_here","_law_many","_law_most"] fCA fdCA) (GCA:AG P w K mg base BD 4 fCA fdCA ["_law_pen_here","_law_many","_law_most"] NG) {fP:Addr} {fdP:FuncData} (XP:Fn K mg "_law_pair" DV ["_law_pen_here","_law_sites"] fP fdP) (GP:AG P w K mg base BD 2 fP fdP ["_law_pen_here","_law_sites"] (Ln K)) {fO:Addr} {fdO:FuncData} (XO:Fn K mg "_law_together" Ck ["_law_case_here","_law_one","_law_other"] fO fdO) (GO:AG P w K mg base BD 7 fO fdO ["_law_case_here","_law_one","_law_other"] NA) {fL:Addr} {fdL:FuncData} (XL:Fn K mg "_law_limits" CN ["_law_case_here"] fL fdL) (GL:AG P w K mg base BD 7 fL fdL ["_law_case_here"] NC) {fV:Addr} {fdV:FuncData} (XV:Fn K mg "_law_changed" C5 ["_law_pen_here","_law_case_here"] fV fdV) (GV:AG P w K mg base BD 7 fV fdV ["_law_pen_here","_law_case_here"] Q6) {fI:Addr} {fdI:FuncData} (XI:Fn K mg "_law_times" Dr ["_law_case_here","_law_number"] fI fdI) (GI:AG P w K mg base BD 7 fI fdI ["_law_case_here","_law_number"] Jz) {fF:Addr} {fdF:FuncData} (XF:Fn K mg "_law_factor" CO ["_law_pen_here","_law_case_here"] fF fdF) (GF:AG P w K mg base BD 2 fF fdF ["_law_pen_here","_law_case_here"] NF) {f:Addr} {fd:FuncData} (F:DP K "law" "law" QH f fd):AG P w K mg base BD 8 f fd ["_law_script"] (ND K):=by
 refine F.ok QG (fun vs H Q E h=>?_) (fun Cf A outer s H vs Q E hr h=>?_)
 ·obtain ⟨a,ns,rfl,_⟩:=h;rfl
 ·obtain ⟨a,ns,rfl,hS,hlen,k⟩:=h;have nd:=QG.nd;have big:100000 < sizeLine:=by decide
  refine ⟨_,(Ag (Cw PassesOwn.never rfl (BQ (by rfl) h_range (Aa (Aq (PK rfl) (by rfl) h_max PyProof.Rows.boot_max (Aa Ad (Aa (Aq (ES rfl) (by rfl) h_min PyProof.Rows.boot_min (Aa Ad (Aa (Aq (AS K rfl) (by rfl) h_len PySem.boot_len (Aa (pv 0) Ac)) Ac))) Ac))) Ac)) (Ak (i:=1) nd rfl (Or.inl rfl))
  (Ag (As (i:=2) nd rfl (Or.inl rfl) (Aj GE (hr.mono (by decide)) (by rfl) XE.mg XE.F.kp XE.b .nil Ax (Aa (pv 0) (Aa (pv 1) Ac))))
  (Ag (As (i:=3) nd rfl (Or.inl rfl) (Al (A7 K rfl) (BG (Aa (Aw AY Ad (Aj GT (hr.mono (by decide)) (by rfl) DK.mg DK.F.kp DK.b .nil Ax (Aa (pv 2) (Aa Ad Ac)))) (Aa Ad Ac))) (A5 CW (by rfl) h_int PyProof.Rows.boot_int (Aa (Rk (BZ Fe (Aj GT (hr.mono (by decide)) (by rfl) DK.mg DK.F.kp DK.b .nil Ax (Aa (pv 2) (Aa Ad Ac))) Ad (AJ _)) (ML (BZ Fe (pv 1) Ad (AJ _)))) Ac)) (fun _ _=>rfl)))
  (Ag (As (i:=4) nd rfl (Or.inl rfl) (Aj GCA (hr.mono (by decide)) (by rfl) XCA.mg XCA.F.kp XCA.b .nil Ax (Aa (pv 2) (Aa (pv 3) (Aa (Al (A7 K rfl) (BG (Aa Ad (Aa Ad Ac))) (A5 CW (by rfl) h_int PyProof.Rows.boot_int (Aa (BZ Et (pv 3) Ad (AJ _)) Ac)) (fun _ _=>rfl)) Ac)))))
  (Ag (As (i:=5) nd rfl (Or.inl rfl) (AX (Aa (Al (Ai K rfl) (pv 4) Ad (fun _ _=>rfl)) (Aa (Al (Ai K rfl) (pv 4) Ad (fun _ _=>rfl)) (Aa (Al (Ai K rfl) (pv 4) Ad (fun _ _=>rfl)) (Aa MM Ac))))))
  (Ag (Ee (Aj GP (hr.mono (by decide)) (by rfl) XP.mg XP.F.kp XP.b .nil Ax (Aa (pv 2) (Aa (Bt (N:=["_law_site","_law_number"]) (σ0:=fun _=>[none,none]) rfl (AE.plain (by decide +kernel) (by decide +kernel) rfl (by decide +kernel)) (fun σ _=>Ba.none _ _ _ ["_law_site","_law_number"] σ) (B0 K rfl (Al (Ai K rfl) (pv 4) Ad (fun _ _=>rfl)))
   (fun s2 H C fp=>⟨(BH K rfl (n:=2) rfl (Av (Ak (i:=0) (show (["_law_site","_law_number"]:List Str).Nodup by decide +kernel) rfl (Or.inl rfl)) (Av (Ak (i:=1) (show (["_law_site","_law_number"]:List Str).Nodup by decide +kernel) rfl (Or.inl rfl)) B5))),Bc,(pv 0)⟩)) Ac))) (Vj rfl (Av (Ak (i:=6) nd rfl (Or.inl rfl)) (Av (Ak (i:=7) nd rfl (Or.inl rfl)) B5))))
  (Ag (Co (HV (HW (Kr (Aj GO (hr.mono (by decide)) (by rfl) XO.mg XO.F.kp XO.b .nil Ax (Aa (pv 5) (Aa (pv 6) (Aa (pv 7) Ac)))))) (HV (HW (Kr (Aj GL (hr.mono (by decide)) (by rfl) XL.mg XL.F.kp XL.b .nil Ax (Aa (pv 4) Ac)))) (HU (HW (Kr (Aj GV (hr.mono (by decide)) (by rfl) XV.mg XV.F.kp XV.b .nil Ax (Aa (pv 2) (Aa (pv 4) Ac)))))))).pt
  (Ao (AB Es))
  Bs)
  (Ao (Co (HW (Kr (Aj GI (hr.mono (by decide)) (by rfl) XI.mg XI.F.kp XI.b .nil Ax (Aa (pv 4) (Aa (Aj GF (hr.mono (by decide)) (by rfl) XF.mg XF.F.kp XF.b .nil Ax (Aa (pv 2) (Aa (pv 4) Ac))) Ac)))))
  (Ao (AB Es))
  Bs)))))))))
  (Ao (AB Es))),?_⟩
  refine ⟨_,rfl,a,_,rfl,.inl hS.sq,_,_,rfl,_,_,rfl,_,rfl,?_,?_,?_⟩
  ·split <;> split <;> lia
  ·rw [ZR];split <;> split <;> lia
  refine Di (lo:=0) (fun _ σ H'=>∃ (v1 v2 v3 v4 v5 v6 v7:Option V),σ=[some (.ref a),v1,v2,v3,v4,v5,v6,v7]/\TZ K H' a (ns.map V.int)) ⟨_,_,_,_,_,_,_,rfl,hS⟩ ?_ (fun σ H' _=>k H');rintro j σ H0 hj ⟨v1,v2,v3,v4,v5,v6,v7,rfl,S0⟩ rt bk N hN;refine ⟨_,rfl,_,rfl,a,ns,0 + (j:Int),rfl,S0,by lia,fun p y0 y1 hp=>?_⟩;have P1:A0 (upd H0 p (.lst (A6 y0 y1 0))) p:=A0.set _ _ _;have q1:AD H0 (upd H0 p (.lst (A6 y0 y1 0))):=Af hp;generalize upd H0 p (.lst (A6 y0 y1 0))=H1 at P1 q1;refine ⟨_,rfl,p,9,rfl,P1,by decide,by decide,fun d1 a1 b1 c1 ZI ZH=>⟨_,_,rfl,rfl,(by show 2<=sizeLine; lia),fun L' Z5=>?_⟩⟩;have P4:A0 (upd (upd H1 p (.lst (A6 a1 b1 c1))) L' (.lst [.int (1 + d1),.int 14])) p:=(A0.set a1 b1 c1).other ((A0.set (H:=H1) a1 b1 c1).ne Z5);have nL':L' ≠ p:=(A0.set (H:=H1) (p:=p) a1 b1 c1).ne Z5;have q4:Bd p H1 (upd (upd H1 p (.lst (A6 a1 b1 c1))) L' (.lst [.int (1 + d1),.int 14])):=(Bd.upd).trans (Bd.of_same (Af Z5));refine ⟨_,rfl,p,6,rfl,P4,by decide,by decide,fun d3 a3 b3 c3 d30 d31=>⟨rfl,_,rfl,?_⟩⟩;have P5:A0 (upd (upd (upd H1 p (.lst (A6 a1 b1 c1))) L' (.lst [.int (1 + d1),.int 14])) p (.lst (A6 a3 b3 c3))) p:=A0.set _ _ _;have q5:Bd p H1 (upd (upd (upd H1 p (.lst (A6 a1 b1 c1))) L' (.lst [.int (1 + d1),.int 14])) p (.lst (A6 a3 b3 c3))):=q4.trans Bd.upd;have Xt:(upd (upd (upd H1 p (.lst (A6 a1 b1 c1))) L' (.lst [.int (1 + d1),.int 14])) p (.lst (A6 a3 b3 c3))) L'=some (.lst [.int (1 + d1),.int 14]):=by rw [Ae nL',Ab]
  generalize upd (upd (upd H1 p (.lst (A6 a1 b1 c1))) L' (.lst [.int (1 + d1),.int 14])) p (.lst (A6 a3 b3 c3))=H3 at P5 q5 Xt;refine TV (fun hb=>⟨_,rfl,rfl,hb _⟩) (fun bb=>?_);obtain ⟨n,hv',n1,n30⟩:∃ n:Nat,Ff [V.int (1 + d1),V.int 14] (if bb=true then 1 else 0)=some (.int (n:Int))/\1<=n/\n<=30:=by
   cases bb with
   | true=>exact ⟨14,rfl,by decide,by decide⟩
   | false=>
    obtain ⟨n,e⟩:∃ n:Nat,1 + d1=(n:Int):=⟨(1 + d1).toNat,by lia⟩
    rw [e];exact ⟨n,rfl,by lia,by lia⟩
  refine .inr ⟨_,rfl,L',_,_,_,rfl,rfl,AV.of Xt,hv',?_⟩;obtain ⟨mm,hmm,mm1,mm2⟩:∃ mm:Int,Ff [V.int 6,V.int 5] (if decide ((9:Int) < (n:Int))=true then 1 else 0)=some (.int mm)/\1<=mm/\mm<=6:=by
   by_cases z:decide ((9:Int) < (n:Int))=true
   ·rw [if_pos z]; exact ⟨5,rfl,by decide,by decide⟩
   ·rw [if_neg z]; exact ⟨6,rfl,by decide,by decide⟩
  refine ⟨_,rfl,_,rfl,(by show 2<=sizeLine; lia),fun L1 hL1=>?_⟩;have s4:=Af (o:=.lst [.int 6,.int 5]) hL1;have P6:A0 (upd H3 L1 (.lst [.int 6,.int 5])) p:=P5.other (P5.ne hL1);have Xs:(upd H3 L1 (.lst [.int 6,.int 5])) L1=some (.lst [.int 6,.int 5]):=Ab;have q6:Bd p H1 (upd H3 L1 (.lst [.int 6,.int 5])):=q5.trans (Bd.of_same s4);generalize upd H3 L1 (.lst [.int 6,.int 5])=H4 at s4 P6 Xs q6;refine ⟨_,rfl,_,_,rfl,rfl,.inr ⟨_,rfl,L1,_,_,_,rfl,rfl,AV.of Xs,hmm,?_⟩⟩;refine ⟨p,n,mm,rfl,P6,n1,n30,mm1,mm2,fun H5 c m xs ws Am Ap x d P7 q7 c9=>?_⟩;have z5:AD H0 H5:=fun b o z=>q6.trans q7 b o (Ah z hp) (q1 _ _ z)
  have cw:=c9.cw;have l6:=c9.l6;have one:=cw.ok1.one;obtain ⟨t1,t2,Cv,F3,hc,EV,Eu,FO,hd2⟩:=cw.ex;have Sh:=Bl Eu;have pc:=cw.pc;refine ⟨_,rfl,c,_,_,_,rfl,rfl,A2.of hc,rfl,_,rfl,c,_,_,_,rfl,rfl,A2.of hc,rfl,_,rfl,c,_,_,_,rfl,rfl,A2.of hc,rfl,(by show 4<=sizeLine; lia),fun c0 Zx=>?_⟩;have s0:=Af (o:=.tup [.ref m,.ref t1,.ref t2,.non]) Zx;have Yv:=(cw.same s0).lim' (c2:=c0) (x':=.non) (d':=.none) Ab (s0 _ _ EV) (Ar Eu fun b ys z=>s0 _ _ z) (s0 _ _ FO) (Ar hd2 fun b ys z=>s0 _ _ z) (.inl ⟨rfl,rfl⟩);have P8:=P7.same s0;have z6:=z5.trans s0;have Yo:=s0 _ _ hc;have V7:=s0 _ _ EV;have Xg:=Ar Eu fun b ys z=>s0 _ _ z
  have ZM:=c9.same s0;generalize upd H5 c0 (.tup [.ref m,.ref t1,.ref t2,.non])=H6 at Yv P8 z6 Yo V7 Xg ZM ⊢;refine ⟨_,rfl,_,rfl,c,_,_,_,rfl,rfl,A2.of Yo,rfl,t1,rfl,⟨_,A2.of V7⟩,?_⟩;refine Bm B4 (xs:=Cv) (fun D i σ H' acc=>∃ v0 v1:Option V,σ=[v0,v1]/\AD H6 H'/\H' D=some (.lst acc)/\acc.length=i/\acc=((Am.take i).map (·.1)).map V.str)
   (by lia) (fun D hD=>⟨_,_,rfl,Af hD,Ab,rfl,rfl⟩) (fun D i σ H' acc hD ⟨_,_,_,sa,Bg,al,_⟩=>⟨A2.of (sa _ _ V7),Bg,al⟩) ?_ ?_
  ·rintro D i σ H' acc x' B hD ex ⟨v0,v1,rfl,sa,Bg,al,rfl⟩ hB;obtain ⟨u,t,eu,rfl,ht⟩:=B7 Xg ex;refine ⟨t,_,rfl,A2.of (sa _ _ ht),rfl,_,_,rfl,_,_,rfl,rfl,_,rfl,?_⟩;refine hB _ _ _ Bg ⟨_,_,rfl,fun b o z=>by rw [Ae (Ah z hD)]; exact sa _ _ z,Ab,by rw [ZY,al]; rfl,?_⟩;rw [aD,eu,bF,aa,aa];rfl
  rintro D σ H7 acc hD ⟨v0,v1,rfl,s7,Bg,al,rfl⟩;rw [Sh,aL] at Bg;refine ⟨p,D,Am.map (·.1),rfl,P8.same s7,Bg,fun z=>by have:=congrArg bH z; rw [ZR] at this; simp at this; rw [this] at one; simp at one,cw.ok1.nd,by rw [ZR]; lia,fun H8 D2 o1 o2 as bs P9 k9 KZ ho1 Nd sA sB common=>?_⟩;refine ⟨D2,_,rfl,AV.of KZ,rfl,_,_,rfl,_,_,rfl,rfl,?_⟩;have Kd:∀ b ys,H6 b=some (.tup ys)->H8 b=some (.tup ys):=fun b ys z=>k9 b _ (by obtain ⟨x1,x2,x3,y⟩:=P8; exact B8 z y (fun w=>by cases w)) (s7 _ _ z)
  have k8:Bd p H6 H8:=(Bd.of_same s7).trans k9;refine ⟨_,rfl,_,rfl,_,rfl,c0,o1,o2,m,n,xs,ws,Am,Ap,.none,as,bs,rfl,Yv.keepT Kd,l6,ho1,Nd,sA,sB,common,fun H9 s9=>⟨_,rfl,?_⟩⟩;refine BB (fun z=>by cases z) (fun _=>?_);have cw9:=(ZM.cw.keepT Kd).same s9;refine ⟨_,rfl,c,m,n,xs,ws,Am,Ap,x,d,rfl,cw9,l6,fun Mr NO=>⟨_,rfl,?_⟩⟩;refine BB (fun z=>by cases z) (fun _=>?_);have XJ:=((ZM.keepT Kd).same s9).same NO;have Wy:=(P9.same s9).same NO;refine ⟨_,rfl,_,rfl,p,c,m,n,xs,ws,Am,Ap,x,d,rfl,Wy,XJ,fun Js XT k11=>⟨_,rfl,?_⟩⟩;refine BB (fun z=>by cases z) (fun _=>?_);have N1:∀ b ys,Mr b=some (.tup ys)->Js b=some (.tup ys):=fun b ys z=>k11 b _ (by obtain ⟨x1,x2,x3,y⟩:=Wy; exact B8 z y (fun w=>by cases w)) z
  have XD:=XJ.keepT N1;refine ⟨_,rfl,_,rfl,_,rfl,p,c,m,n,xs,ws,Am,Ap,x,d,rfl,XT,XD,fun Qb kk ZN k12 fits Tr=>?_⟩;have Lh:∀ b ys,Js b=some (.tup ys)->Qb b=some (.tup ys):=fun b ys z=>k12 b _ (by obtain ⟨x1,x2,x3,y⟩:=XT; exact B8 z y (fun w=>by cases w)) z
  refine ⟨c,m,n,xs,ws,Am,Ap,x,d,kk,rfl,XD.cw.keepT Lh,l6,fits,Tr,fun W2 Mt=>⟨_,rfl,?_⟩⟩;refine BB (fun z=>by cases z) (fun _=>?_);have np:∀ b o,H0 b=some o->b ≠ p:=fun b o z=>Ah z hp
  exact hN _ _ ⟨_,_,_,_,_,_,_,rfl,S0.same fun b o z=>Mt _ _ (k12 b o (np b o z) (k11 b o (np b o z) (NO _ _ (s9 _ _ (k8 b o (np b o z) (z6 _ _ z))))))⟩
end
end K14
namespace L2
open PySem PySem.Spec PyProof.Rows
theorem Mm {k:Int} (h1:0<=k) (h2:k < 2 ^ 600):Builtin.Int.intBits k<=2 ^ 20:=by
 unfold Builtin.Int.intBits;split
 ·exact aH _
 ·have hn:k.natAbs < 2 ^ 600:=by lia
  have:k.natAbs.log2 < 600:=by
   rcases eJ k.natAbs with h0 | hp
   ·rw [h0]; decide
   ·exact (eX (by lia)).mpr hn
  lia
def CMulC (i j:Int):Prop:=(0<=i/\i < 2 ^ 600)/\(0<=j/\j < 2 ^ 600)
theorem HC {X:Cx}:F1 X (binaryOp .Mult) (rI CMulC fun i j=>.int (i * j)):=Wq fun _ _ _ _ _ _ _ hc q=>mul_int q (IntMulOk.of_bits (Mm hc.1.1 hc.1.2) (Mm hc.2.1 hc.2.2))
theorem HM {α:Type} (c:Int):∀ l:List α,sm l (fun _=>c)=(l.length:Int) * c
 | []=>by rw [M9]; simp
 | a :: l=>by rw [Bi,HM c l,aK]; simp [dh]; lia
theorem TM {H:Hp} {c m:Addr} {n:Nat} {xs:List Str} {ws:List AI} {Am Ap:List Be} {x:V} {d:PyData} (cw:Bv H c m n xs ws Am Ap x d) {ss:List Str} (ne:ss ≠ []) (l:ss.length<=10) (sub:∀ s ∈ ss,s ∈ Am.map (·.1)):0<=Jn ws Am Ap ss/\Jn ws Am Ap ss < 2 ^ 450:=by
 have pc:=cw.pc;have sx:∀ s ∈ ss,s ∈ xs:=fun s hs=>by
  obtain ⟨r,hr,rfl⟩:=ZZ.mp (sub s hs);exact cw.ok1.sub r hr
 have c1:∀ s ∈ ss,0<=A1 Am s/\A1 Am s<=10 ^ 30:=fun s hs=>by
  obtain ⟨r,hr,rfl⟩:=ZZ.mp (sub s hs);rw [Bx cw.ok1.nd hr];have:=cw.ok1.lo r hr;exact ⟨this.1,by lia⟩
 have m1:∀ r ∈ Ap,0<=mD ws ss r.1/\mD ws ss r.1<=2 ^ 300:=fun r hr=>by
  obtain ⟨s,hs,e⟩:=Iv (ws:=ws) ne r.1;have FP:=cw.ok2.sub r hr;rw [e];have:=cw.map.bound cw.n1 cw.n30 (sx s hs) FP (pc.hd s (sx s hs) r.1 FP);exact ⟨this.1,du this.2⟩
 have a1:sm ss (A1 Am)<=(ss.length:Int) * 10 ^ 30:=by rw [<-HM]; exact G6 fun s hs=>(c1 s hs).2
 have a2:sW Ap (mD ws ss)<=(Ap.length:Int) * (10 ^ 30 * 2 ^ 300):=by
  rw [<-HM];refine G6 fun r hr=>?_
  have q:=cw.ok2.lo r hr;exact fh (by lia) (m1 r hr).2 (m1 r hr).1 (by decide)
 have b1:=Us (l:=ss) (g:=A1 Am) fun s hs=>(c1 s hs).1
 have b2:=sW_nn (rs:=Ap) (g:=mD ws ss) pc.w0 fun r hr=>(m1 r hr).1
 have l2:=cw.l2;have d1:(ss.length:Int) * 10 ^ 30<=10 * 10 ^ 30:=aM (by lia) (by decide);have d2:(Ap.length:Int) * (10 ^ 30 * 2 ^ 300)<=30 * (10 ^ 30 * 2 ^ 300):=aM (by lia) (by decide +kernel);have big:(10 * 10 ^ 30 + 30 * (10 ^ 30 * 2 ^ 300):Int) < 2 ^ 450:=by decide +kernel
 unfold Jn;generalize sm ss (A1 Am)=A at *;generalize sW Ap (mD ws ss)=B at *;exact ⟨Int.add_nonneg b1 b2,cx (gQ (cF a1 d1) (cF a2 d2)) big⟩
theorem Bo.T {xs:List Str} {lo k:Int} {rs:List Be} (h:Bo xs lo rs) (h0:0<=lo) (k1:1<=k) (b:∀ r ∈ rs,r.2 * k < 10 ^ 30):Bo xs lo (CB k rs):=by
 refine ⟨fun r hr=>?_,by rw [Dc]; exact h.nd,fun r hr=>?_,by unfold CB; rw [ZR]; exact h.one⟩
 ·obtain ⟨u,hu,rfl⟩:=ZZ.mp hr;exact h.sub u hu
 ·obtain ⟨u,hu,rfl⟩:=ZZ.mp hr;refine ⟨?_,b u hu⟩;have q:=(h.lo u hu).1;have:u.2 * 1<=u.2 * k:=bK k1 (by lia);show lo<=u.2 * k
  lia
theorem Tx {k:Int × List Str} (v0:0<=k.1) (v1:k.1 < 2 ^ 600) (l:k.2.length<=10) (nms:∀ s ∈ k.2,BI s=true):∃ b,BS (KD k) 2 b/\b<=1000:=by
 have f1:=BS.tuple (JH nms);refine ⟨_,BS.tuple (ds:=[.int k.1,.tuple (k.2.map PyData.str)]) (k:=1) (b:=(k.2.map PyData.str).length * 7) (fun d' Gw=>?_),?_⟩
 ·rcases ZU.mp Gw with rfl | Gw
  ·exact (BS.intB v0 v1).mono (by decide) (aH _)
  ·rw [ar.mp Gw];exact f1
 ·rw [ZR];show 2 * _<=1000
  lia
def FI (T H:Hp):Hp:=fun b=>match T b with | some o=>some o | none=>H b
theorem Ce {T H:Hp} {b:Addr} (h:T b=none):FI T H b=H b:=by unfold FI; rw [h]
theorem J8 {T H:Hp} {b:Addr} {o:HO} (h:T b=some o):FI T H b=some o:=by unfold FI; rw [h]
theorem Au.laidM {X:Cx} {pins:List (Addr × Obj)} {σ:St} {H T:Hp} {s:Shared} {h':Heap} {t':Nat} (I:Au X pins σ H s) (k:∀ b u,s.heap.get? b=some u->h'.get? b=some u) (hp:∀ a o,T a=some o->s.heap.objs.size<=a)
  (new:∀ a o,T a=some o->∀ H',AU X.prog X.w H' h' a o):Au X pins σ (FI T H) { s with heap:=h',toks:=t' }:=by
 have fT:∀ b u,s.heap.get? b=some u->T b=none:=fun b u q=>by
  cases z:T b with
  | none=>rfl
  | some o=>exact absurd (ak (ae q) (hp b o z)) (bp _)
 have fH:∀ b u,H b=some u->T b=none:=fun b u q=>by
  cases z:T b with
  | none=>rfl
  | some o=>rw [I.hok.fresh (hp b o z)] at q; cases q
 refine I.un (h':=h') (t':=t') ⟨fun b u q _ _ _=>k b u q,fun b u q _ _ _=>⟨u.slots,k b u q⟩,fun b u q n _=>by rw [Ce (fT b u q)]; exact n,fun b u q _=>⟨u,k b u q⟩,
  fun b xs q=>by rw [Ce (fH b _ q)]; exact q,fun b u xs q=>by rw [Ce (fH b _ q)]; exact q,fun b ps q=>⟨#[],by rw [Ce (fH b _ q),q]; simp⟩⟩ fun b u e=>?_
 cases z:T b with
 | some o'=>
  rw [J8 z] at e;cases e
  exact new b _ z _
 | none=>
  rw [Ce z] at e;exact (I.hok b u e).stay (fun c v _ q=>k c v q) (fun c q=>by rw [Ce (fH c _ q)]; exact q) fun c xs q=>by rw [Ce (fH c _ q)]; exact q
def I0 (r d:Addr):HO:=.ext fun h=>h.IsItemsView r d
theorem Ru {X:Cx}:MtM X "dict.items" (fun x vs H Q=>∃ (d:Addr) (kvs:List (AK × V)),x=.ref d/\vs=[]/\H d=some (.dK kvs)/\∀ r,H r=none->Q (.ref r) (upd H r (I0 r d))):=by
 intro pins s σ H x vs v us Q I rx rv h;obtain ⟨d,kvs,rfl,rfl,hd,q⟩:=h;cases rx
 cases rv
 obtain ⟨z,y,xs,rel,dd⟩:=Ma I.hok hd;refine call_meetsIn PySem.F.slot_dict_items dd.typeIs PySem.F.entry_dict_items (PySem.F.args_dict_items_1 _) (meets_dict_items (AO X.prog X.w) d y) ⟨⟨xs,dd⟩,?_⟩;refine ⟨.ref s.heap.objs.size,_,I.laid (a:=s.heap.objs.size) (o:=I0 s.heap.objs.size d) (t':=s.toks) (fun _ _ e=>ZT _ e) (ZX _) ?_,rfl,q _ (I.hok.fresh (ZX _))⟩;refine ⟨⟨_,ah _ rfl,rfl,rfl⟩,⟨_,ah _ rfl⟩,fun h1 h2 ⟨o,a,b⟩ st=>⟨o,st _ a,b⟩⟩
def Ea (u:Be):AK × V:=(.inr u.1,.int u.2)
theorem FW {X:Cx} (hc:X.calm=true):Bp X (.builtin "sorted") (fun xs H Q=>∃ (r d:Addr) (rs:List Be),xs=[.ref r]/\H r=some (I0 r d)/\H d=some (.dK (rs.map Ea))/\rs.length < 64 /\
  ∀ (H':Hp) (l:Addr) (vs:List V) (Ez:List Be),AD H H'->H' l=some (.lst vs)->AM H' vs (Ez.map BK)->Ez.Perm rs->Q (.ref l) H'):=by
 intro pins s σ H xs us Q I r h;obtain ⟨rr,d,rs,rfl,hr,hd,Jm,q⟩:=h;obtain ⟨u,rfl,ru⟩:=Cd r;cases ru
 obtain ⟨z,y,us,rel,dd⟩:=Ma I.hok hd;obtain ⟨ep,da⟩:=dd.dictAt;have rl:=Paired.length rel;rw [ZR] at rl;have big:100000 < sizeLine:=by decide
 have at':∀ (i:Nat) (u:Be),rs[i]? = some u->∃ t,us[i]? = some (.inr u.1,.int u.2 t):=by
  have gen:∀ {l:List (AK × V)} {m:List (AK × Value)},KV l m->∀ (rs:List Be),l=rs.map Ea->∀ (i:Nat) (u:Be),rs[i]? = some u->∃ t,m[i]? = some (.inr u.1,.int u.2 t):=by
   intro l m h;induction h with
   | nil=>intro rs e i u hu; cases rs with
    | nil=>simp at hu
    | cons a b=>cases e
   | cons a b ih=>
    intro rs e i u hu;cases rs with
    | nil=>cases e
    | cons c rs=>
     simp only [au,eA.injEq] at e;obtain ⟨e1,e2⟩:=e;cases i with
     | zero=>
      simp only [aX,aI.injEq] at hu;subst hu;subst e1;obtain ⟨a1,t,a2⟩:=a;refine ⟨t,?_⟩;rw [aX];exact congrArg some (Prod.ext a1.symm a2)
     | succ i=>exact ih rs e2 i u (by simpa using hu)
  exact gen rel rs rfl
 refine Calls.call_function_entry kind_sorted plain_sorted entry_sorted (args_sorted1 _) ?_;unfold Builtin.«sorted»;refine wpAny_bind (m:=checkCount "sorted" 1 1 _) (wpAny_pure ?_);have hv:s.heap.IsItemsView rr d:=(show AU X.prog X.w H s.heap rr (I0 rr d) from I.hok rr _ hr).1;refine wpAny_bind (PySem.W.kdx_collect (knd:=AO X.prog X.w) (I.ok.hd hc) hv da (by rw [<-rl]; lia) fun h' tk as Ng hl hG=>?_);have al:as.length=rs.length:=by rw [hl,rl]
 have tupAt:∀ (j:Nat) (a:Addr) (u:Be),as[j]? = some a->rs[j]? = some u->∃ t1 t2,h'.get? a=some { cls:=.type "tuple",data:=.seq #[.str u.1 t1,.int u.2 t2] }:=fun j a u e1 e2=>by
  obtain ⟨key,k,x,f1,f2,f3⟩:=hG.pairs j a e1;obtain ⟨t,g⟩:=at' j u e2;rw [g] at f1;cases f1
  rw [MQ] at f2;obtain ⟨t1,rfl⟩:∃ t1,key=.str u.1 t1:=by
   rcases Bn f2 with ⟨i,t1,z,_⟩ | ⟨x',t1,z,z2⟩
   ·cases z
   ·cases z; exact ⟨t1,z2⟩
  exact ⟨t1,t,f3⟩
 let T:Hp:=fun b=>(as.idxOf? b).bind fun j=>(rs[j]?).map fun u=>HO.tup [.str u.1,.int u.2]
 have Tsome:∀ b o,T b=some o->∃ (j:Nat) (u:Be),as[j]? = some b/\rs[j]? = some u/\o=.tup [.str u.1,.int u.2]:=fun b o e=>by
  obtain ⟨j,hj,e2⟩:=Option.bind_eq_some_iff.mp e;obtain ⟨u,hu,rfl⟩:=fo.mp e2;have:=fU.mp hj;obtain ⟨h1,h2,h3⟩:=this;exact ⟨j,u,by rw [ZS h1]; exact congrArg some h2,hu,rfl⟩
 have nd:as.Nodup:=hG.rise.imp fun hab=>ao hab
 have Tat:∀ (j:Nat) (a:Addr) (u:Be),as[j]? = some a->rs[j]? = some u->T a=some (.tup [.str u.1,.int u.2]):=fun j a u e1 e2=>by
  have hj:=(ag.mp e1)
  obtain ⟨j1,j2⟩:=hj;have:as.idxOf? a=some j:=fU.mpr ⟨j1,j2,fun k hk z=>by
   have:k=j:=(cW nd).mp (z.trans j2.symm);lia⟩
  show (as.idxOf? a).bind _=_
  rw [this,Option.bind_some,e2];rfl
 have objs:∀ a o,T a=some o->∀ H',AU X.prog X.w H' h' a o:=fun a o e H'=>by
  obtain ⟨j,u,e1,e2,rfl⟩:=Tsome a o e;obtain ⟨t1,t2,e3⟩:=tupAt j a u e1 e2;exact ⟨by show 2<=sizeLine; lia,[.str u.1 t1,.int u.2 t2],.cons ⟨t1,rfl⟩ (.cons ⟨t2,rfl⟩ .nil),⟨_,e3,rfl,0,rfl⟩,fun o' e4=>by rw [e3] at e4; cases e4; rfl⟩
 have I1:Au X pins σ (FI T H) { s with heap:=h',toks:=tk }:=I.laidM Ng (fun a o e=>by
  obtain ⟨j,u,e1,e2,rfl⟩:=Tsome a o e;exact cN (hG.above a (ZW e1))) objs
 have sm:AD H (FI T H):=fun b o e=>by
  have:T b=none:=by
   cases z:T b with
   | none=>rfl
   | some o'=>
    obtain ⟨j,u,e1,e2,_⟩:=Tsome b o' z;rw [I.hok.fresh (cN (hG.above b (ZW e1)))] at e;cases e
  rw [Ce this];exact e
 have dts:AM (FI T H) (as.map V.ref) (rs.map BK):=by
  have gen:∀ (as:List Addr) (rs:List Be),as.length=rs.length->(∀ (j:Nat) (a:Addr) (u:Be),as[j]? = some a->rs[j]? = some u->T a=some (.tup [.str u.1,.int u.2]))->AM (FI T H) (as.map V.ref) (rs.map BK):=by
   intro as;induction as with
   | nil=>intro rs e _; cases rs with
    | nil=>exact .nil
    | cons=>cases e
   | cons a as ih=>
    intro rs e g;cases rs with
    | nil=>cases e
    | cons u rs=>exact .cons (Eb (J8 (g 0 a u rfl rfl))) (ih rs (by simpa using e) fun j a u e1 e2=>g (j + 1) a u (by simpa using e1) (by simpa using e2))
  exact gen as rs al Tat
 have rv:A3 (as.map V.ref) (as.map Value.ref):=by
  have gen:∀ l:List Addr,A3 (l.map V.ref) (l.map Value.ref):=by
   intro l;induction l with
   | nil=>exact .nil
   | cons a l ih=>exact .cons rfl ih
  exact gen as
 have tu:=Kc I1 rv (Gm dts).1;refine wpAny_bind (wpAny_newList ?_ (by rw [ZR,al]; lia));have hoL:(h'.push (seqObj "list" (as.map Value.ref).toArray 0)).get? h'.objs.size=some (seqObj "list" (as.map Value.ref).toArray 0):=ah _ rfl;have keep:∀ b o,h'.get? b=some o->(h'.push (seqObj "list" (as.map Value.ref).toArray 0)).get? b=some o:=fun b o q=>ZT _ q
 show wpAny _ _ _ _ _ { s with heap:=h'.push (seqObj "list" (as.map Value.ref).toArray 0),toks:=tk }
 refine wpAny_bind (wpAny_holding (wpAny_call_entry slot_list_sort ⟨_,hoL,rfl⟩ entry_list_sort (MU (lt:=fun x y=>AN (CC h' x.1) (CC h' y.1)) (s:={ s with heap:=h'.push (seqObj "list" (as.map Value.ref).toArray 0),toks:=tk }) hoL (by rw [ZR,al]; lia) (by rw [ZR,al]; lia) ?_ fun out o1=>⟨_,rfl,wpAny_pure ⟨_,rfl,?_⟩⟩) (args_list_sort _)))
 ·intro z2 h'' kp;exact Gi (s:={ s with heap:=h',toks:=tk }) tu z2 _ h'' fun b o e=>kp b o (ao (ae e)) (keep b o e)
 ·obtain ⟨Cb,Wo,pv⟩:=Gh o1 rv;obtain ⟨Ez,d1,p1⟩:=J5 pv dts;obtain ⟨e,he⟩:=sortedHeap_at (out:=out.toArray) hoL;have I2:=I1.laid (a:=h'.objs.size) (o:=.lst Cb) (h':=sortedHeap (h'.push (seqObj "list" (as.map Value.ref).toArray 0)) h'.objs.size (as.map Value.ref) out.toArray) (t':=tk) (fun b o z=>by
   rw [sortedHeap_old (ao (ae z)) (by rw [size_push']; exact aN (ae z))];exact keep b o z) (ZX _) ⟨by rw [pv.length_eq,ZR,al]; lia,out,e,Wo,he⟩
  have s2:=Af (o:=.lst Cb) (I1.hok.fresh (ZX h'.objs.size));exact ⟨.ref h'.objs.size,_,I2,rfl,q _ _ Cb Ez (sm.trans s2) Ab (Ar d1 fun b ys z=>s2 _ _ z) p1⟩
def putR (i:Nat) (r:Be) (v:Int) (rs:List Be):List Be:=rs.take i ++ [(r.1,v)] ++ rs.drop (i + 1)
def Rn (i:Nat) (rs:List Be):List Be:=rs.take i ++ rs.drop (i + 1)
theorem Jy {i:Nat} {r:Be} {rs:List Be} (h:rs[i]? = some r):rs=rs.take i ++ r :: rs.drop (i + 1):=by
 obtain ⟨hi,e⟩:=ag.mp h;rw [<-e,<-bU hi,cS]
theorem Ec {i:Nat} {r:Be} {v:Int} {rs:List Be} (h:rs[i]? = some r):(putR i r v rs).map (·.1)=rs.map (·.1):=by
 have e:=congrArg (List.map (·.1)) (Jy h);rw [e];unfold putR;simp only [aa,au,dO,bB,List.singleton_append]
theorem Lz {i:Nat} {r q:Be} {v:Int} {rs:List Be} (h:rs[i]? = some r) (hq:q ∈ putR i r v rs):q=(r.1,v)\/q ∈ rs:=by
 unfold putR at hq;rcases aG.mp hq with hq | hq
 ·rcases aG.mp hq with hq | hq
  ·exact .inr (List.mem_of_mem_take hq)
  ·exact .inl (ar.mp hq)
 ·exact .inr (List.mem_of_mem_drop hq)
theorem L3 {i:Nat} {r:Be} {v:Int} {rs:List Be} (h:rs[i]? = some r):(putR i r v rs).length=rs.length:=by
 have:=congrArg bH (Ec (v:=v) h);rwa [ZR,ZR] at this
theorem Bo.putR {xs:List Str} {i:Nat} {r:Be} {v:Int} {rs:List Be} (o:Bo xs 0 rs) (h:rs[i]? = some r) (v0:0<=v) (v1:v < 10 ^ 30):Bo xs 0 (putR i r v rs):=by
 refine ⟨fun q hq=>?_,by rw [Ec h]; exact o.nd,fun q hq=>?_,by rw [L3 h]; exact o.one⟩
 ·rcases Lz h hq with rfl | hq
  ·exact o.sub r (ZW h)
  ·exact o.sub q hq
 ·rcases Lz h hq with rfl | hq
  ·exact ⟨v0,v1⟩
  ·exact o.lo q hq
theorem OL {xs:List Str} {i:Nat} {r:Be} {more:Int} {rs:List Be} (o:Bo xs 0 rs) (h:rs[i]? = some r):∀ s ∈ rs.map (·.1),A1 (putR i r (r.2 + more) rs) s=A1 rs s + if r.1=s then more else 0:=fun s hs=>by
 obtain ⟨q,hq,rfl⟩:=ZZ.mp hs;have nd':((putR i r (r.2 + more) rs).map (·.1)).Nodup:=by rw [Ec h]; exact o.nd
 rw [Bx o.nd hq];by_cases e:r.1=q.1
 ·have:r=q:=by
   have hr:=ZW h;obtain ⟨a,ha,ea⟩:=aF hr;obtain ⟨b,hb,eb⟩:=aF hq;have:=(cW (xs:=rs.map (·.1)) (h₀:=by rw [ZR]; exact ha) (h₁:=by rw [ZR]; exact hb) o.nd).mp (by rw [bR,bR,ea,eb]; exact e);subst this;rw [<-ea,<-eb]
  subst this;rw [if_pos rfl];exact Bx (r:=(r.1,r.2 + more)) nd' (aV _ (aw _ (ar.mpr rfl)))
 ·rw [if_neg e,fX];refine Bx nd' ?_;have WY:=hq;rw [Jy h] at WY;unfold L2.putR;rcases aG.mp WY with z | z
  ·exact aV _ (aV _ z)
  ·rcases ZU.mp z with z | z
   ·exact absurd (by rw [z]) e
   ·exact aw _ z
theorem Rm (i:Nat) (rs:List Be):(Rn i rs).Sublist rs:=by
 unfold Rn;rw [<-List.eraseIdx_eq_take_drop_succ];exact List.eraseIdx_sublist ..
theorem Bo.out {xs:List Str} {lo:Int} {rs Ez:List Be} (o:Bo xs lo rs) (s:Ez.Sublist rs) (ne:Ez ≠ []):Bo xs lo Ez:=
 ⟨fun r hr=>o.sub r (s.subset hr),o.nd.sublist (s.map _),fun r hr=>o.lo r (s.subset hr),bN.mpr ne⟩
theorem E4.out {xs:List Str} {ws:List AI} {Am Ap Ez:List Be} {x:V} {k k':Int × List Str} (o:Bo xs 0 Am) (s:Ez.Sublist Am) (b:E4 ws Am Ap x k) (b':E4 ws Ez Ap x k'):k.1<=k'.1:=
 b.mono b' fun zs z=>⟨⟨z.1,z.2.1.trans (s.map _),z.2.2⟩,fun y hy=>by
  obtain ⟨q,hq,rfl⟩:=ZZ.mp (z.2.1.subset hy);rw [Bx o.nd (s.subset hq),Bx (o.nd.sublist (s.map _)) hq]⟩
theorem Kn (rs:List Be):rs.map Ea=sK (rs.map fun u=>(u.1,V.int u.2)):=by
 unfold sK;rw [aT];rfl
theorem Rc {rs:List Be} (nd:(rs.map (·.1)).Nodup) (p:Str) (more:Int):∃ n:Int,(BF (rs.map Ea) (Sum.inr p:AK)).getD (.int 0)=.int n/\Bq (rs.map Ea) (Sum.inr p:AK) (.int (n + more))=(BM rs p more).map Ea:=by
 have e1:(rs.map fun u=>(u.1,V.int u.2)).map (·.1)=rs.map (·.1):=by rw [aT]; rfl
 rw [Kn];by_cases h:p ∈ rs.map (·.1)
 ·obtain ⟨q,hq,rfl⟩:=ZZ.mp h;refine ⟨q.2,by rw [Cm (v:=.int q.2) (by rw [e1]; exact nd) (ZZ.mpr ⟨q,hq,rfl⟩)]; rfl,?_⟩;unfold BM;rw [if_pos h];unfold Bq;have:((sK (rs.map fun u=>(u.1,V.int u.2))).any fun kv=>decide (kv.1=(Sum.inr q.1:AK)))=true:=by rw [Cg,GJ,decide_eq_true (by rw [e1]; exact h)]
  rw [if_pos this];unfold sK;rw [aT,aT,aT];refine bD fun u hu=>?_
  by_cases e:u.1=q.1
  ·have:u=q:=by
    obtain ⟨a,ha,ea⟩:=aF hu;obtain ⟨b,hb,eb⟩:=aF hq;have:=(cW (xs:=rs.map (·.1)) (h₀:=by rw [ZR]; exact ha) (h₁:=by rw [ZR]; exact hb) nd).mp (by rw [bR,bR,ea,eb]; exact e);subst this;rw [<-ea,<-eb]
   subst this;simp [Ea]
  ·simp [Ea,e]
 ·refine ⟨0,by rw [Hz (by rw [e1]; exact h)]; rfl,?_⟩;rw [CZ (by rw [e1]; exact h),bQ];unfold BM;rw [if_neg h,aa,QK,Kn];rfl
theorem Dv {rs:List Be} {p:Str} {more:Int}:(p ∈ rs.map (·.1)->(BM rs p more).map (·.1)=rs.map (·.1))/\(p ∉ rs.map (·.1)->(BM rs p more).map (·.1)=rs.map (·.1) ++ [p]):=by
 unfold BM;constructor
 ·intro h;rw [if_pos h,aT];refine bD fun u _=>?_
  show (if u.1=p then (u.1,u.2 + more) else u).1=u.1
  split <;> rfl
 ·intro h;rw [if_neg h,aa];rfl
theorem Bo.plus {xs:List Str} {rs:List Be} {p:Str} {more:Int} (o:Bo xs 1 rs) (hp:p ∈ xs) (m1:1<=more) (m9:more * 9 < 10 ^ 30) (r9:∀ r ∈ rs,r.2 * 9 < 10 ^ 30):Bo xs 1 (BM rs p more)/\(BM rs p more).length<=xs.length:=by
 have nm:∀ s ∈ (BM rs p more).map (·.1),s ∈ xs:=fun s hs=>by
  by_cases h:p ∈ rs.map (·.1)
  ·rw [Dv.1 h] at hs;obtain ⟨q,hq,rfl⟩:=ZZ.mp hs;exact o.sub q hq
  ·rw [Dv.2 h] at hs;rcases aG.mp hs with hs | hs
   ·obtain ⟨q,hq,rfl⟩:=ZZ.mp hs;exact o.sub q hq
   ·rw [ar.mp hs]; exact hp
 have nd:((BM rs p more).map (·.1)).Nodup:=by
  by_cases h:p ∈ rs.map (·.1)
  ·rw [Dv.1 h]; exact o.nd
  ·rw [Dv.2 h];exact b8.mpr ⟨o.nd,(by simp),fun a ha b hb z=>by
    rw [ar.mp hb] at z;rw [z] at ha;exact h ha⟩
 refine ⟨⟨fun r hr=>nm _ (eD hr),nd,fun r hr=>?_,?_⟩,?_⟩
 ·unfold BM at hr;by_cases h:p ∈ rs.map (·.1)
  ·rw [if_pos h] at hr;obtain ⟨u,hu,rfl⟩:=ZZ.mp hr;have a:=o.lo u hu;have b:=r9 u hu;split
   ·show 1<=u.2 + more/\u.2 + more < 10 ^ 30
    lia
   ·exact a
  ·rw [if_neg h] at hr;rcases aG.mp hr with hr | hr
   ·exact o.lo r hr
   ·rw [ar.mp hr];show 1<=more/\more < 10 ^ 30
    lia
 ·unfold BM;split
  ·rw [ZR]; exact o.one
  ·rw [ZY]; have:=o.one; lia
 ·have:=BY nd nm;rwa [ZR] at this
theorem E4.plus {xs:List Str} {ws:List AI} {Am Ap Ez:List Be} {x:V} {k k':Int × List Str} {p:Str} {more:Int} (h:Pc xs ws Am Ap) (hp:p ∈ xs) (m0:0<=more) (pm:Ez.Perm (BM Ap p more)) (b:E4 ws Am Ap x k) (b':E4 ws Am Ez x k'):k.1<=k'.1:=
 b.folk b' fun zs o=>by
  have e:sW Ez (mD ws zs)=sW (BM Ap p more) (mD ws zs):=Hx pm;rw [e];exact SQ m0 (fun r hr=>h.m0 o.1 (o.sx h) (h.ok2.sub r hr)) (h.m0 o.1 (o.sx h) hp)
end L2
namespace K14
open PySem L2
section
variable {P:Program} {w:World} {K:ZV} {mg:Str->Option Value} {base:Heap}
theorem Ii (h_dict:mg "dict"=none) (h_len:mg "len"=none) (h_sorted:mg "sorted"=none) (h_tuple:mg "tuple"=none) {fB:Addr} {fdB:FuncData} (XB:Fn K mg "plain_best" B9 ["case"] fB fdB) (GB:AG P w K mg base BD 6 fB fdB ["case"] F6) {fT:Addr} {fdT:FuncData} (DK:Ex K mg fT fdT) (GT:AG P w K mg base BD 1 fT fdT ["_law_pen_here","_law_many"] CI) {fG:Addr} {fdG:FuncData} (XG:Nv K mg fG fdG) (GG:AG P w K mg base BD 2 fG fdG ["_law_pen_here","_law_least","_law_size"] F5) {f:Addr} {fd:FuncData} (F:DP K "_law_changed" "_law_changed" C5 f fd):AG P w K mg base BD 7 f fd ["_law_pen_here","_law_case_here"] Q6:=by
 refine F.ok E8 (fun vs H Q E h=>?_) (fun Cf A outer s H vs Q E hr h=>?_)
 ·obtain ⟨p,c,m,n,xs,ws,Am,Ap,x,d,rfl,_⟩:=h;rfl
 ·obtain ⟨p,c,m,n,xs,ws,Am,Ap,x,d,rfl,hP,c9,k⟩:=h;have nd:=E8.nd;have hu:=ED hr;have Fu:=hr.units;have big:100000 < sizeLine:=by decide
  refine ⟨_,(Ag (As (i:=2) nd rfl (Or.inl rfl) (Al (Ai K rfl) (Aj GB (hr.mono (by decide)) (by rfl) XB.mg XB.F.kp XB.b .nil Ax (Aa (pv 1) Ac)) Ad (fun _ _=>rfl)))
  (Ag (As (i:=3) nd rfl (Or.inl rfl) (Aj GG (hr.mono (by decide)) (by rfl) XG.mg XG.F.kp XG.b .nil Ax (Aa (pv 0) (Aa Ad (Aa Ad Ac)))))
  (Ag (As (i:=4) nd rfl (Or.inl rfl) (Aj GT (hr.mono (by decide)) (by rfl) DK.mg DK.F.kp DK.b .nil Ax (Aa (pv 0) (Aa (Aq (AS K rfl) (by rfl) h_len PySem.boot_len (Aa (Al (Ai K rfl) (pv 1) Ad (fun _ _=>rfl)) Ac)) Ac))))
  (Ag (As (i:=5) nd rfl (Or.inl rfl) (Al (Ai K rfl) (Al (Ai K rfl) (pv 1) Ad (fun _ _=>rfl)) (pv 4) (fun _ _=>rfl)))
  (Ag (As (i:=6) nd rfl (Or.inl rfl) (Aw (FJ K rfl) (Aw (FJ K rfl) (EA (F7 K rfl) (Al (Ai K rfl) (pv 1) Ad (fun _ _=>rfl)) FH (FG (pv 4))) (AX (Aa (AX (Aa (Al (Ai K rfl) (pv 5) Ad (fun _ _=>rfl)) (Aa (Aw AY (Al (Ai K rfl) (pv 5) Ad (fun _ _=>rfl)) (pv 3)) Ac))) Ac))) (EA (F7 K rfl) (Al (Ai K rfl) (pv 1) Ad (fun _ _=>rfl)) (FG (Aw AY (pv 4) Ad)) FH)))
  (Ag (Co (HW (QX U0 U0 (pv 2) (Al (Ai K rfl) (Aj GB (hr.mono (by decide)) (by rfl) XB.mg XB.F.kp XB.b .nil Ax (Aa (AX (Aa (Al (Ai K rfl) (pv 1) Ad (fun _ _=>rfl)) (Aa (pv 6) (Aa (Al (Ai K rfl) (pv 1) Ad (fun _ _=>rfl)) (Aa (Al (Ai K rfl) (pv 1) Ad (fun _ _=>rfl)) Ac))))) Ac)) Ad (fun _ _=>rfl)) (Aw AY (pv 2) (pv 3))))
  (Ao (AB Es))
  Bs)
  (Ag (As (i:=7) nd rfl (Or.inl rfl) (Al (Ai K rfl) (Al (Ai K rfl) (pv 1) Ad (fun _ _=>rfl)) Ad (fun _ _=>rfl)))
  (Ag (As (i:=8) nd rfl (Or.inl rfl) (A5 (BR rfl) (by rfl) h_dict PyProof.Rows.boot_dict (Aa (Al (Ai K rfl) (pv 1) Ad (fun _ _=>rfl)) Ac)))
  (Ag (As (i:=9) nd rfl (Or.inl rfl) (Al (Ai K rfl) (pv 7) (Aj GT (hr.mono (by decide)) (by rfl) DK.mg DK.F.kp DK.b .nil Ax (Aa (pv 0) (Aa (Aq (AS K rfl) (by rfl) h_len PySem.boot_len (Aa (pv 7) Ac)) Ac))) (fun _ _=>rfl)))
  (Ag (Du hu (pv 8) (pv 9) (Aw AY (LC hu (pv 8) (pv 9) Ad ⟨rfl,rfl,rfl,rfl⟩) (pv 3)) rfl)
  (Ag (Co (AZ GK (Al (Ai K rfl) (Aj GB (hr.mono (by decide)) (by rfl) XB.mg XB.F.kp XB.b .nil Ax (Aa (AX (Aa (Al (Ai K rfl) (pv 1) Ad (fun _ _=>rfl)) (Aa (Al (Ai K rfl) (pv 1) Ad (fun _ _=>rfl)) (Aa (A5 (AH K rfl) (by rfl) h_tuple PyProof.Rows.boot_tuple (Aa (Aq (FW rfl) (by rfl) h_sorted PyProof.Rows.boot_sorted (Aa (Vm PySem.F.plainAttrs_dict PySem.F.slot_dict_items PySem.F.type_dict_items Ru (pv 8)) Ac)) Ac)) (Aa (Al (Ai K rfl) (pv 1) Ad (fun _ _=>rfl)) Ac))))) Ac)) Ad (fun _ _=>rfl)) (pv 2) (AJ _))
  (Ao (AB Es))
  Bs)
  (Ag (As (i:=10) nd rfl (Or.inl rfl) (Aw (FJ K rfl) (EA (F7 K rfl) (Al (Ai K rfl) (pv 1) Ad (fun _ _=>rfl)) FH (FG (pv 4))) (EA (F7 K rfl) (Al (Ai K rfl) (pv 1) Ad (fun _ _=>rfl)) (FG (Aw AY (pv 4) Ad)) FH)))
  (Ao (AB (pe_or (BZ (OV Fu) (pv 10) (AX Ac) (AJ _)) (ML (BZ U1 (Al (Ai K rfl) (Aj GB (hr.mono (by decide)) (by rfl) XB.mg XB.F.kp XB.b .nil Ax (Aa (AX (Aa (Al (Ai K rfl) (pv 1) Ad (fun _ _=>rfl)) (Aa (pv 10) (Aa (Al (Ai K rfl) (pv 1) Ad (fun _ _=>rfl)) (Aa (Al (Ai K rfl) (pv 1) Ad (fun _ _=>rfl)) Ac))))) Ac)) Ad (fun _ _=>rfl)) (pv 2) (AJ _)))))))))))))))))),?_⟩
  have cw:=c9.cw;have l6:=c9.l6;obtain ⟨t1,t2,Cv,F3,hc,EV,Eu,FO,hd2⟩:=cw.ex;have Sh:=Bl Eu;have pc:=cw.pc;have Wk:=Bl hd2;obtain ⟨a1,a2,wv,hm,Sl,VB,dw⟩:=cw.map.at'.ex;have one:=cw.ok1.one;have l30:=cw.l2;have xl:=cw.map.at'.len;have n30:=cw.n30;refine ⟨_,rfl,c,m,n,xs,ws,Am,Ap,x,d,rfl,cw,l6,fun H1 v kf s1 kn ib=>?_⟩;have bf:=ib.bst pc;obtain ⟨tv,lv,rfl,RB,WN⟩:=kn;refine ⟨tv,_,_,_,rfl,rfl,A2.of RB,rfl,?_⟩;have P1:A0 H1 p:=by obtain ⟨x1,x2,x3,z⟩:=hP; exact ⟨x1,x2,x3,s1 _ _ z⟩
  refine ⟨_,rfl,p,1,9,rfl,P1,by decide,by decide,by decide,by decide,fun more e1 e2 e3 m1 m9=>?_⟩;have P2:A0 (upd H1 p (.lst (A6 e1 e2 e3))) p:=A0.set _ _ _;have k2:Bd p H (upd H1 p (.lst (A6 e1 e2 e3))):=(Bd.of_same s1).trans Bd.upd;generalize upd H1 p (.lst (A6 e1 e2 e3))=H2 at P2 k2 ⊢;have tup2:∀ b ys,H b=some (.tup ys)->H2 b=some (.tup ys):=fun b ys z=>k2 b _ (by obtain ⟨x1,x2,x3,y⟩:=hP; exact B8 z y (fun w=>by cases w)) z
  refine ⟨_,rfl,_,rfl,c,_,_,_,rfl,rfl,A2.of (tup2 _ _ hc),rfl,t1,_,rfl,.inr (A2.of (tup2 _ _ EV)),p,_,rfl,P2,by lia,by lia,fun UH f1 f2 f3 Yw at2=>?_⟩;obtain ⟨i,rfl⟩:∃ i:Nat,UH=(i:Int):=⟨UH.toNat,by lia⟩
  have hi:i < Cv.length:=by lia
  have P3:A0 (upd H2 p (.lst (A6 f1 f2 f3))) p:=A0.set _ _ _;have k3:Bd p H (upd H2 p (.lst (A6 f1 f2 f3))):=k2.trans Bd.upd;generalize upd H2 p (.lst (A6 f1 f2 f3))=H3 at P3 k3 ⊢;have Sz:∀ b ys,H b=some (.tup ys)->H3 b=some (.tup ys):=fun b ys z=>k3 b _ (by obtain ⟨x1,x2,x3,y⟩:=hP; exact B8 z y (fun w=>by cases w)) z
  clear P1 P2 k2 tup2;obtain ⟨uv,eu⟩:∃ uv,Cv[i]? = some uv:=⟨_,ZS hi⟩
  obtain ⟨r,rt',er,rfl,hrt⟩:=B7 Eu eu;have WX:=Sz _ _ hrt;have rlo:=cw.ok1.lo r (ZW er);have r9:=c9.r1 r (ZW er);have Zu:=Sz _ _ hc;have V8:=Sz _ _ EV;refine ⟨_,rfl,c,_,_,_,rfl,rfl,A2.of Zu,rfl,_,rfl,t1,_,_,_,rfl,rfl,A2.of V8,Cs eu,?_⟩;refine ⟨_,rfl,c,_,_,_,rfl,rfl,A2.of Zu,rfl,_,rfl,_,rfl,Ve V8 hi fun Z1 H4 s4 Yq=>?_⟩;have VA:=s4 _ _ WX;refine ⟨_,rfl,rt',_,_,_,rfl,rfl,A2.of VA,rfl,_,rfl,rt',_,_,_,rfl,rfl,A2.of VA,rfl,_,rfl,_,_,rfl,rfl,(by show 2<=sizeLine; lia),fun T1 PY=>⟨(by show 1<=sizeLine; lia),fun T2 KY=>?_⟩⟩;have s5:=Af (o:=.tup [.str r.1,.int (r.2 + more)]) PY;have s6:=Af (o:=.tup [.ref T1]) KY;have Po:(upd (upd H4 T1 (.tup [.str r.1,.int (r.2 + more)])) T2 (.tup [.ref T1])) T1=some (.tup [.str r.1,.int (r.2 + more)]):=s6 _ _ Ab;have Pn:(upd (upd H4 T1 (.tup [.str r.1,.int (r.2 + more)])) T2 (.tup [.ref T1])) T2=some (.tup [.ref T1]):=Ab;have Uu:=s5.trans s6;generalize upd (upd H4 T1 (.tup [.str r.1,.int (r.2 + more)])) T2 (.tup [.ref T1])=H5 at Uu Po Pn ⊢;refine VZ (Uu _ _ Yq) Pn (by rw [aO]; show _ + 1<=sizeLine; lia) fun Z3 H6 s7 hZ3=>?_
  have Yg:=s4.trans (Uu.trans s7);refine ⟨_,rfl,c,_,_,_,rfl,rfl,A2.of (Yg _ _ Zu),rfl,_,rfl,_,_,rfl,rfl,_,rfl,?_⟩;dsimp only [Kf];refine slHi (K:=K) (Yg _ _ V8) hi fun Z2 H7 s8 Yp=>?_
  refine VZ (s8 _ _ hZ3) Yp (by rw [ZY,aO,cX]; show _ + 1 + _<=sizeLine; lia) fun SI H8 s9 hSI=>?_
  have Y9:=Yg.trans (s8.trans s9);have Xp:H8 T1=some (.tup [.str r.1,.int (r.2 + more)]):=s9 _ _ (s8 _ _ (s7 _ _ Po));have Kd:∀ b ys,H b=some (.tup ys)->H8 b=some (.tup ys):=fun b ys z=>Y9 _ _ (Sz _ _ z)
  have dSI:AM H8 (Cv.take i ++ [.ref T1] ++ Cv.drop (i + 1)) ((putR i r (r.2 + more) Am).map BK):=by
   have Xf:=Ar Eu Kd;unfold putR;rw [aa,aa,gR,gT];exact BO (BO (Fw i Xf) (.cons (Eb (u:=(r.1,r.2 + more)) Xp) .nil)) (Fx (i + 1) Xf)
  have P8:A0 H8 p:=P3.same Y9;have k8:Bd p H H8:=k3.trans (Bd.of_same Y9);have Ws:=Kd _ _ hc;clear Yq Yp hZ3 Po Pn Uu s5 s6 s7 s8 s9 Yg s4 VA WX Xp;generalize Cv.take i ++ [V.ref T1] ++ Cv.drop (i + 1)=usI at hSI dSI;have okI:Bo xs 0 (putR i r (r.2 + more) Am):=cw.ok1.putR er (by lia) (by lia);have lI:(putR i r (r.2 + more) Am).length=Am.length:=L3 er;refine ⟨_,rfl,_,rfl,c,_,_,_,rfl,rfl,A2.of Ws,rfl,_,rfl,_,rfl,c,_,_,_,rfl,rfl,A2.of Ws,rfl,_,rfl,c,_,_,_,rfl,rfl,A2.of Ws,rfl,(by show 4<=sizeLine; lia),fun c2 KC=>?_⟩;have sA:=Af (o:=.tup [.ref m,.ref SI,.ref t2,x]) KC;have hcc:(upd H8 c2 (.tup [.ref m,.ref SI,.ref t2,x])) c2=some (.tup [.ref m,.ref SI,.ref t2,x]):=Ab;generalize upd H8 c2 (.tup [.ref m,.ref SI,.ref t2,x])=H9 at sA hcc ⊢;have Sy:∀ b ys,H b=some (.tup ys)->H9 b=some (.tup ys):=fun b ys z=>sA _ _ (Kd _ _ z)
  have cI:Bv H9 c2 m n xs ws (putR i r (r.2 + more) Am) Ap x d:=⟨⟨SI,t2,usI,F3,hcc,sA _ _ hSI,Ar dSI fun b ys z=>sA _ _ z,Sy _ _ FO,Ar hd2 Sy⟩,cw.map.keepT Sy,cw.n1,cw.n30,okI,cw.ok2,by rw [lI]; exact cw.l1,cw.l2,cw.lim⟩
  refine ⟨c2,m,n,xs,ws,_,Ap,x,d,rfl,cI,by lia,fun Mr v2 kI NO YT Og=>?_⟩;have bI:=Og.bst cI.pc;obtain ⟨tv2,lv2,rfl,Zc,hv22⟩:=YT;obtain ⟨g1,g2⟩:=bf.site (nm:=r.1) bI (Ec er) cw.ok1.nd (by lia) (OL cw.ok1 er);refine ⟨tv2,_,_,_,rfl,rfl,A2.of Zc,rfl,_,_,rfl,rfl,_,rfl,?_⟩;rw [if_pos (decide_eq_true g1)];refine ⟨_,rfl,_,rfl,_,_,rfl,rfl,_,_,rfl,rfl,_,rfl,?_⟩;refine BB (fun z=>by rw [decide_eq_true g2] at z; cases z) (fun _=>?_);have Ji:=sA.trans NO;have Jx:∀ b ys,H b=some (.tup ys)->Mr b=some (.tup ys):=fun b ys z=>Ji _ _ (Kd _ _ z)
  have Wy:=P8.same Ji;have k10:=k8.trans (Bd.of_same Ji);have VG:=Jx _ _ hc;clear hcc sA NO cI hSI dSI Ji Sy Kd Ws P8 k8;refine ⟨_,rfl,c,_,_,_,rfl,rfl,A2.of VG,rfl,m,_,_,_,rfl,rfl,A2.of (Jx _ _ hm),rfl,?_⟩;have QP:=Ar hd2 Jx;refine ⟨_,rfl,c,_,_,_,rfl,rfl,A2.of VG,rfl,t2,F3,Ap.map fun u=>(u.1,V.int u.2),rfl,Jx _ _ FO,by rw [ZR]; exact Wk,fun j v' q' Ww Yu=>?_,by rw [aT]; exact cw.ok2.nd,by rw [ZR]; lia,fun F hF=>?_⟩
  ·obtain ⟨u,t,eu',rfl,ht⟩:=B7 QP Ww;rw [ai,eu'] at Yu;cases Yu
   exact ⟨t,rfl,ht⟩
  rw [<-Kn];have sF:=Af (o:=.dK (Ap.map Ea)) hF;have hFF:(upd Mr F (.dK (Ap.map Ea))) F=some (.dK (Ap.map Ea)):=Ab;have nF:F ≠ p:=Wy.ne hF;have hFfree:H F=none:=by
   cases z:H F with
   | none=>rfl
   | some o=>have:=k10 F o nF z; rw [hF] at this; cases this
  generalize upd Mr F (.dK (Ap.map Ea))=Js at sF hFF ⊢;have N1:∀ b ys,H b=some (.tup ys)->Js b=some (.tup ys):=fun b ys z=>sF _ _ (Jx _ _ z)
  have XT:=Wy.same sF;have k11:=k10.trans (Bd.of_same sF);have U7:=N1 _ _ Sl;clear Wy k10 sF hF Jx VG QP;refine ⟨_,rfl,_,rfl,_,rfl,a1,_,rfl,.inr (A2.of U7),p,_,rfl,XT,by rw [ZR]; have:=cw.n1; lia,by rw [ZR]; lia,fun at3 Yt Ys Yr at4 at5=>?_⟩;rw [ZR] at at5;obtain ⟨j,rfl⟩:∃ j:Nat,at3=(j:Int):=⟨at3.toNat,by lia⟩
  obtain ⟨y,ey⟩:∃ y,xs[j]? = some y:=⟨_,ZS (by lia)⟩
  have hy:=ZW ey;have ZN:A0 (upd Js p (.lst (A6 Yt Ys Yr))) p:=A0.set _ _ _;have k12:Bd p H (upd Js p (.lst (A6 Yt Ys Yr))):=k11.trans Bd.upd;have RH:(upd Js p (.lst (A6 Yt Ys Yr))) F=some (.dK (Ap.map Ea)):=by rw [Ae nF]; exact hFF
  generalize upd Js p (.lst (A6 Yt Ys Yr))=Qb at ZN k12 RH ⊢;have Lh:∀ b ys,H b=some (.tup ys)->Qb b=some (.tup ys):=fun b ys z=>k12 b _ (by obtain ⟨x1,x2,x3,y⟩:=hP; exact B8 z y (fun w=>by cases w)) z
  clear XT k11 hFF U7 N1;refine ⟨a1,_,_,_,rfl,rfl,A2.of (Lh _ _ Sl),Cs (by rw [ai,ey]; rfl),?_⟩;obtain ⟨nn,en,pe⟩:=Rc cw.ok2.nd y more;refine ⟨_,rfl,F,rfl,.inl ⟨_,.inl RH⟩,_,rfl,_,.inl ⟨_,Sum.inr y,.inl RH,rfl,rfl⟩,?_⟩;rw [en];refine ⟨_,rfl,_,_,rfl,rfl,_,rfl,_,rfl,F,_,rfl,.inl ⟨_,Sum.inr y,RH,rfl,by rw [ZR]; lia,rfl⟩,?_⟩;rw [pe];have Tu:(upd Qb F (.dK ((BM Ap y more).map Ea))) F=some (.dK ((BM Ap y more).map Ea)):=Ab;have P13:A0 (upd Qb F (.dK ((BM Ap y more).map Ea))) p:=ZN.other nF;have Nz:∀ b ys,H b=some (.tup ys)->(upd Qb F (.dK ((BM Ap y more).map Ea))) b=some (.tup ys):=fun b ys z=>by
   rw [Ae (B8 (Lh _ _ z) RH (fun w=>by cases w))];exact Lh _ _ z
  have k13:Bd p H (upd Qb F (.dK ((BM Ap y more).map Ea))):=fun b o nb z=>by
   rw [Ae (fun q=>by rw [q,hFfree] at z; cases z)];exact k12 b o nb z
  generalize upd Qb F (.dK ((BM Ap y more).map Ea))=W2 at Tu P13 Nz k13 ⊢;obtain ⟨okP,lP⟩:=cw.ok2.plus hy m1 m9 c9.r2;have VF:=Nz _ _ hc;refine ⟨_,rfl,c,_,_,_,rfl,rfl,A2.of VF,rfl,_,rfl,c,_,_,_,rfl,rfl,A2.of VF,rfl,_,rfl,.inr (.inr (.inl ⟨rfl,.inl ⟨_,Tu⟩⟩)),F,_,rfl,rfl,Tu,fun IV hIV=>?_⟩;have Wn:=Af (o:=I0 IV F) hIV;refine ⟨IV,F,BM Ap y more,rfl,Ab,Wn _ _ Tu,by lia,fun ZQ LL Cb Ez QM hLL dLL pm=>?_⟩;refine ⟨LL,_,rfl,.inl ⟨AV.of hLL,fun FT hFT=>?_⟩⟩;have Wm:=Af (o:=.tup Cb) hFT;have VL:(upd ZQ FT (.tup Cb)) FT=some (.tup Cb):=Ab;have dFT:=Ar dLL fun b ys z=>Wm _ _ z
  have NM:=Wn.trans (QM.trans Wm);generalize upd ZQ FT (.tup Cb)=ZP at Wm VL dFT NM ⊢;have Zv:=NM _ _ VF;refine ⟨_,rfl,c,_,_,_,rfl,rfl,A2.of Zv,rfl,(by show 4<=sizeLine; lia),fun c3 Zt=>?_⟩;have sB:=Af (o:=.tup [.ref m,.ref t1,.ref FT,x]) Zt;have VC:(upd ZP c3 (.tup [.ref m,.ref t1,.ref FT,x])) c3=some (.tup [.ref m,.ref t1,.ref FT,x]):=Ab;generalize upd ZP c3 (.tup [.ref m,.ref t1,.ref FT,x])=H17 at sB VC ⊢;have QO:=NM.trans sB;have Ny:∀ b ys,H b=some (.tup ys)->H17 b=some (.tup ys):=fun b ys z=>QO _ _ (Nz _ _ z)
  have cP:Bv H17 c3 m n xs ws Am Ez x d:=⟨⟨t1,FT,Cv,Cb,VC,Ny _ _ EV,Ar Eu Ny,sB _ _ VL,Ar dFT fun b ys z=>sB _ _ z⟩,cw.map.keepT Ny,cw.n1,cw.n30,cw.ok1,okP.perm pm,cw.l1,by rw [pm.length_eq]; lia,cw.lim⟩
  refine ⟨c3,m,n,xs,ws,Am,Ez,x,d,rfl,cP,l6,fun H18 v3 kP s18 WK YW=>?_⟩;have bP:=YW.bst cP.pc;obtain ⟨tv3,lv3,rfl,Zb,hv32⟩:=WK;have g3:=bf.plus pc hy (by lia) pm bP;refine ⟨tv3,_,_,_,rfl,rfl,A2.of Zb,rfl,_,rfl,_,_,rfl,rfl,_,rfl,?_⟩;refine BB (fun z=>by have:=of_decide_eq_true z; lia) (fun _=>?_);have QN:=QO.trans s18;have Qr:∀ b ys,H b=some (.tup ys)->H18 b=some (.tup ys):=fun b ys z=>QN _ _ (Nz _ _ z)
  have P18:=P13.same QN;have k18:=k13.trans (Bd.of_same QN);have Xj:=Qr _ _ hc;have U6:=Qr _ _ EV;clear Wn QM Wm s18 sB VC cP hLL dLL VL dFT NM QO Ny;refine ⟨_,rfl,c,_,_,_,rfl,rfl,A2.of Xj,rfl,_,rfl,_,rfl,Ve U6 hi fun Z1 H19 YA Yq=>?_⟩;refine ⟨_,rfl,c,_,_,_,rfl,rfl,A2.of (YA _ _ Xj),rfl,_,rfl,_,_,rfl,rfl,_,rfl,?_⟩;dsimp only [Kf];refine slHi (K:=K) (YA _ _ U6) hi fun Z2 H20 s20 Yp=>?_
  refine VZ (s20 _ _ Yq) Yp (by rw [aO,cX]; lia) fun FE Yz s21 hFE=>?_
  have QL:=YA.trans (s20.trans s21);have Up:∀ b ys,H b=some (.tup ys)->Yz b=some (.tup ys):=fun b ys z=>QL _ _ (Qr _ _ z)
  have P21:=P18.same QL;have k21:=k18.trans (Bd.of_same QL);have dFE:AM Yz (Cv.take i ++ Cv.drop (i + 1)) ((Rn i Am).map BK):=by
   have U8:=Ar Eu Up;unfold Rn;rw [aa,gR,gT];exact BO (Fw i U8) (Fx (i + 1) U8)
  have sub:=Rm i Am;generalize Rn i Am=rsO at dFE sub;generalize Cv.take i ++ Cv.drop (i + 1)=usO at hFE dFE;have fi:BS (.tuple (rsO.map BK)) 2 _:=BS.tuple fun dd hdd=>Pu cw.ok1 (by decide) cw.map.at'.nm dd ((sub.map BK).subset hdd)
  refine ⟨_,rfl,(by show 0<=sizeLine; lia),fun E0 hE0=>?_⟩;have sE:=Af (o:=.tup []) hE0;have hEE:(upd Yz E0 (.tup [])) E0=some (.tup []):=Ab;generalize upd Yz E0 (.tup [])=Yy at sE hEE ⊢;have Uo:∀ b ys,H b=some (.tup ys)->Yy b=some (.tup ys):=fun b ys z=>sE _ _ (Up _ _ z)
  have P22:=P21.same sE;have k22:=k21.trans (Bd.of_same sE);have Xw:=sE _ _ hFE;have X8:=Ar dFE fun b ys z=>sE _ _ z
  refine ⟨_,_,.tup Xw X8,.tup hEE .nil,fi.lay,rfl,aQ fi.dp (by decide),_,rfl,?_⟩;have VE:=Uo _ _ hc;refine BB (fun z=>?_) (fun z=>?_)
  ·exact k Yy P22 k22
  ·have ne:rsO ≠ []:=fun e=>z (by rw [e]; rfl)
   refine ⟨_,rfl,c,_,_,_,rfl,rfl,A2.of VE,rfl,_,rfl,_,rfl,c,_,_,_,rfl,rfl,A2.of VE,rfl,_,rfl,c,_,_,_,rfl,rfl,A2.of VE,rfl,(by show 4<=sizeLine; lia),fun c4 VD=>?_⟩;have sC:=Af (o:=.tup [.ref m,.ref FE,.ref t2,x]) VD;have Xh:(upd Yy c4 (.tup [.ref m,.ref FE,.ref t2,x])) c4=some (.tup [.ref m,.ref FE,.ref t2,x]):=Ab;generalize upd Yy c4 (.tup [.ref m,.ref FE,.ref t2,x])=H23 at sC Xh ⊢;have Qq:∀ b ys,H b=some (.tup ys)->H23 b=some (.tup ys):=fun b ys z=>sC _ _ (Uo _ _ z)
   have lO:=sub.length_le;have cO:Bv H23 c4 m n xs ws rsO Ap x d:=⟨⟨FE,t2,usO,F3,Xh,sC _ _ Xw,Ar X8 fun b ys z=>sC _ _ z,Qq _ _ FO,Ar hd2 Qq⟩,cw.map.keepT Qq,cw.n1,cw.n30,cw.ok1.out sub ne,cw.ok2,by have:=cw.l1; lia,cw.l2,cw.lim⟩
   refine ⟨c4,m,n,xs,ws,rsO,Ap,x,d,rfl,cO,by lia,fun H24 v4 kO s24 kn4 ib4=>?_⟩;have bO:=ib4.bst cO.pc;obtain ⟨tv4,lv4,rfl,Za,hv42⟩:=kn4;have g4:=bf.out cw.ok1 sub bO;refine ⟨tv4,_,_,_,rfl,rfl,A2.of Za,rfl,_,rfl,_,_,rfl,rfl,?_⟩;dsimp only;rw [decide_eq_true g4];exact k H24 (P22.same (sC.trans s24)) (k22.trans (Bd.of_same (sC.trans s24)))
end
section
variable {P:Program} {w:World} {K:ZV} {mg:Str->Option Value} {base:Heap}
theorem Kx (h_repr:mg "repr"=none) (h_tuple:mg "tuple"=none) {fB:Addr} {fdB:FuncData} (XB:Fn K mg "plain_best" B9 ["case"] fB fdB) (GB:AG P w K mg base BD 6 fB fdB ["case"] F6) {f:Addr} {fd:FuncData} (F:DP K "_law_times" "_law_times" Dr f fd):AG P w K mg base BD 7 f fd ["_law_case_here","_law_number"] Jz:=by
 refine F.ok FA (fun vs H Q E h=>?_) (fun Cf A outer s H vs Q E hr h=>?_)
 ·obtain ⟨c,m,n,xs,ws,Am,Ap,x,d,kk,rfl,_⟩:=h;rfl
 ·obtain ⟨c,m,n,xs,ws,Am,Ap,x,d,kk,rfl,cw,l6,⟨k1,fw,f1,f2⟩,Tr,k⟩:=h;have nd:=FA.nd;have Fu:=hr.units;have big:100000 < sizeLine:=by decide
  refine ⟨_,(Ag (Ee (Aj GB (hr.mono (by decide)) (by rfl) XB.mg XB.F.kp XB.b .nil Ax (Aa (pv 0) Ac)) (BH K rfl rfl (Av (Ak (i:=2) nd rfl (Or.inl rfl)) (Av (Ak (i:=3) nd rfl (Or.inl rfl)) B5))))
  (Ag (As (i:=4) nd rfl (Or.inl rfl) (Aq (C1 hr.gd Fu) (by rfl) h_repr PyProof.Rows.boot_repr (Aa (AX (Aa (Aw HC (pv 2) (pv 1)) (Aa (pv 3) Ac))) Ac)))
  (Ag (As (i:=5) nd rfl (Or.inl rfl) (A5 (AH K rfl) (by rfl) h_tuple PyProof.Rows.boot_tuple (Aa (Bt (N:=["_law_way","_law_number"]) (σ0:=fun σ=>[none,some 1].map fun j=>j.bind fun j=>(σ[j]?).join) rfl (AE.caught (by rfl) (by decide +kernel) rfl (by decide +kernel) (by intro y hy; simp only [ZU,af,or_false] at hy; rcases hy with rfl <;> rfl)
   (by intro y hy e; simp only [ZU,af,or_false] at hy; rcases hy with rfl | rfl | rfl <;> first | exact ⟨_,rfl⟩ | cases e)) (fun σ _=>Ba.of [none,some 1] rfl (by
   intro i j x h1 h2;match i,h1,h2 with
   | 0,_,h2=>cases h2
   | 1,h1,h2=>cases h1; cases h2; exact ⟨rfl,.inl rfl,.inl rfl⟩
   | n + 2,h1,_=>cases h1)) (B0 K rfl (Al (Ai K rfl) (Al (Ai K rfl) (pv 0) Ad (fun _ _=>rfl)) Ad (fun _ _=>rfl)))
   (fun s2 H C fp=>⟨(Ak (i:=0) (show (["_law_way","_law_number"]:List Str).Nodup by decide +kernel) rfl (Or.inl rfl)),Bc,(Aw (Ig K rfl) (EA (F7 K rfl) (pv 0) FH (FG Ad)) (AX (Aa (Aw HC (Al (Ai K rfl) (pv 0) Ad (fun _ _=>rfl)) (pv 1)) Ac)))⟩)) Ac)))
  (Ag (As (i:=6) nd rfl (Or.inl rfl) (A5 (AH K rfl) (by rfl) h_tuple PyProof.Rows.boot_tuple (Aa (Bt (N:=["_law_row","_law_number"]) (σ0:=fun σ=>[none,some 1].map fun j=>j.bind fun j=>(σ[j]?).join) rfl (AE.caught (by rfl) (by decide +kernel) rfl (by decide +kernel) (by intro y hy; simp only [ZU,af,or_false] at hy; rcases hy with rfl <;> rfl)
   (by intro y hy e; simp only [ZU,af,or_false] at hy; rcases hy with rfl | rfl | rfl <;> first | exact ⟨_,rfl⟩ | cases e)) (fun σ _=>Ba.of [none,some 1] rfl (by
   intro i j x h1 h2;match i,h1,h2 with
   | 0,_,h2=>cases h2
   | 1,h1,h2=>cases h1; cases h2; exact ⟨rfl,.inl rfl,.inl rfl⟩
   | n + 2,h1,_=>cases h1)) (B0 K rfl (Al (Ai K rfl) (pv 0) Ad (fun _ _=>rfl)))
   (fun s2 H C fp=>⟨(Ak (i:=0) (show (["_law_row","_law_number"]:List Str).Nodup by decide +kernel) rfl (Or.inl rfl)),Bc,(AX (Aa (Al (Ai K rfl) (pv 0) Ad (fun _ _=>rfl)) (Aa (Aw HC (Al (Ai K rfl) (pv 0) Ad (fun _ _=>rfl)) (pv 1)) Ac)))⟩)) Ac)))
  (Ag (As (i:=7) nd rfl (Or.inl rfl) (A5 (AH K rfl) (by rfl) h_tuple PyProof.Rows.boot_tuple (Aa (Bt (N:=["_law_row","_law_number"]) (σ0:=fun σ=>[none,some 1].map fun j=>j.bind fun j=>(σ[j]?).join) rfl (AE.caught (by rfl) (by decide +kernel) rfl (by decide +kernel) (by intro y hy; simp only [ZU,af,or_false] at hy; rcases hy with rfl <;> rfl)
   (by intro y hy e; simp only [ZU,af,or_false] at hy; rcases hy with rfl | rfl | rfl <;> first | exact ⟨_,rfl⟩ | cases e)) (fun σ _=>Ba.of [none,some 1] rfl (by
   intro i j x h1 h2;match i,h1,h2 with
   | 0,_,h2=>cases h2
   | 1,h1,h2=>cases h1; cases h2; exact ⟨rfl,.inl rfl,.inl rfl⟩
   | n + 2,h1,_=>cases h1)) (B0 K rfl (Al (Ai K rfl) (pv 0) Ad (fun _ _=>rfl)))
   (fun s2 H C fp=>⟨(Ak (i:=0) (show (["_law_row","_law_number"]:List Str).Nodup by decide +kernel) rfl (Or.inl rfl)),Bc,(AX (Aa (Al (Ai K rfl) (pv 0) Ad (fun _ _=>rfl)) (Aa (Aw HC (Al (Ai K rfl) (pv 0) Ad (fun _ _=>rfl)) (pv 1)) Ac)))⟩)) Ac)))
  (Ag (Co (AZ NV (Aq (C1 hr.gd Fu) (by rfl) h_repr PyProof.Rows.boot_repr (Aa (Aj GB (hr.mono (by decide)) (by rfl) XB.mg XB.F.kp XB.b .nil Ax (Aa (AX (Aa (AX (Aa (Al (Ai K rfl) (Al (Ai K rfl) (pv 0) Ad (fun _ _=>rfl)) Ad (fun _ _=>rfl)) (Aa (pv 5) Ac))) (Aa (pv 6) (Aa (Al (Ai K rfl) (pv 0) Ad (fun _ _=>rfl)) (Aa (Al (Ai K rfl) (pv 0) Ad (fun _ _=>rfl)) Ac))))) Ac)) Ac)) (pv 4) (AJ _))
  (Ao (AB Es))
  Bs)
  (Ao (AB (BZ Fe (Aq (C1 hr.gd Fu) (by rfl) h_repr PyProof.Rows.boot_repr (Aa (Aj GB (hr.mono (by decide)) (by rfl) XB.mg XB.F.kp XB.b .nil Ax (Aa (AX (Aa (Al (Ai K rfl) (pv 0) Ad (fun _ _=>rfl)) (Aa (pv 6) (Aa (pv 7) (Aa (Al (Ai K rfl) (pv 0) Ad (fun _ _=>rfl)) Ac))))) Ac)) Ac)) (pv 4) (AJ _)))))))))),?_⟩
  obtain ⟨t1,t2,Cv,F3,hc,EV,Eu,FO,hd2⟩:=cw.ex;have Sh:=Bl Eu;have pc:=cw.pc;have Wk:=Bl hd2;obtain ⟨a1,a2,wv,hm,Sl,VB,dw⟩:=cw.map.at'.ex;have wvl:wv.length=ws.length:=by have:=FR dw; rw [ZR] at this; exact this
  have wl:=cw.map.l64;have l10:=cw.l1;have l30:=cw.l2;have YS:∀ {i:Int},i < 10 ^ 30->i < 2 ^ 600:=fun h=>eO h (by decide +kernel)
  have kb:0<=kk/\kk < 2 ^ 600:=⟨by lia,eO Tr (by decide +kernel)⟩
  refine ⟨_,rfl,c,m,n,xs,ws,Am,Ap,x,d,rfl,cw,l6,fun H1 v kf s1 kn ib=>?_⟩;have bf:=ib.bst pc;obtain ⟨tv,lv,rfl,RB,WN⟩:=kn;refine ⟨tv,_,rfl,A2.of RB,rfl,_,_,rfl,_,_,rfl,rfl,?_⟩;have o10:kf.2.length<=10:=by have:=bf.op.2.1.length_le; rw [ZR] at this; lia
  obtain ⟨c0,c1⟩:=TM cw bf.op.1 o10 fun s hs=>bf.op.2.1.subset hs
  rw [<-bf.is] at c0 c1;have p0:0<=kf.1 * kk:=dz c0 kb.1;have p1:kf.1 * kk < 2 ^ 600:=by
   have e1:kf.1 * kk<=2 ^ 450 * kk:=aM (du c1) kb.1;have e2:(2 ^ 450:Int) * kk<=2 ^ 450 * 2 ^ 100:=bK (du Tr) (by decide +kernel);exact cx (cF e1 e2) (by decide +kernel)
  have nms:∀ s ∈ kf.2,BI s=true:=fun s hs=>cw.map.at'.nm _ (bf.op.sx pc s hs)
  obtain ⟨bb,fi,bl⟩:=Tx (k:=(kf.1 * kk,kf.2)) p0 p1 o10 nms;have dp:=fi.dp;have ln:=fi.len (by lia);refine ⟨_,rfl,_,rfl,_,_,rfl,rfl,⟨⟨c0,eO c1 (by decide +kernel)⟩,kb⟩,_,rfl,(by show 2<=sizeLine; lia),fun T hT=>?_⟩;have sT:=s1.trans (Af (o:=.tup [.int (kf.1 * kk),.ref lv]) hT);refine ⟨T,KD (kf.1 * kk,kf.2),rfl,.tup Ab (.cons (.int _) (.cons (.tup (Af hT _ _ WN) (Gy _ _)) .nil)),fi.sho,fi.nod,by lia,ln,?_⟩;generalize upd H1 T (.tup [.int (kf.1 * kk),.ref lv])=H2 at sT ⊢;have KC:=sT _ _ hc;have Pk:=sT _ _ hm;have hp12:=sT _ _ Sl;have WZ:=sT _ _ VB;have dw2:=BV dw fun b ys z=>sT _ _ z
  refine ⟨_,rfl,c,_,_,_,rfl,rfl,A2.of KC,rfl,m,_,_,_,rfl,rfl,A2.of Pk,rfl,a2,rfl,⟨_,A2.of WZ⟩,?_⟩;refine Bm B4 (xs:=wv) (fun D i σ H' acc=>∃ v0:Option V,σ=[v0,some (.int kk)]/\AD H2 H'/\H' D=some (.lst acc)/\acc.length=i/\AM H' acc ((DG kk (ws.take i)).map DC))
   (by lia) (fun D hD=>⟨_,rfl,Af hD,Ab,rfl,.nil⟩) (fun D i σ H' acc hD ⟨_,_,sa,Bg,al,_⟩=>⟨A2.of (sa _ _ WZ),Bg,al⟩) ?_ ?_
  ·rintro D i σ H' acc x' B hD ex ⟨v0,rfl,sa,Bg,al,dd⟩ hB;obtain ⟨u,t,eu,rfl,ht⟩:=DN dw2 ex;have htt:=sa _ _ ht;have uw:=cw.map.at'.wn u (ZW eu);refine ⟨_,rfl,_,rfl,Ve (i:=2) htt (aU 2) fun Z H3 s3 hZ'=>?_⟩;have hZ:H3 Z=some (.tup [.str u.1,.str u.2.1]):=hZ';refine ⟨_,rfl,t,_,_,_,rfl,rfl,A2.of (s3 _ _ htt),rfl,_,rfl,_,_,rfl,rfl,⟨⟨by lia,YS uw.2.2.2⟩,kb⟩,(by show 1<=sizeLine; lia),fun Y hY=>?_⟩;have s4:=s3.trans (Af (o:=.tup [.int (u.2.2 * kk)]) hY);have hYY:(upd H3 Y (.tup [.int (u.2.2 * kk)])) Y=some (.tup [.int (u.2.2 * kk)]):=Ab;have hZ4:=Af (o:=.tup [.int (u.2.2 * kk)]) hY _ _ hZ;generalize upd H3 Y (.tup [.int (u.2.2 * kk)])=H4 at s4 hYY hZ4 ⊢;refine ⟨Z,Y,_,_,rfl,rfl,A2.of hZ4,A2.of hYY,(by simp),(by show 2 + 1<=sizeLine; lia),fun z=>(by cases z),fun _ T2 KY=>?_⟩;have s5:=s4.trans (Af (o:=.tup ([V.str u.1,.str u.2.1] ++ [.int (u.2.2 * kk)])) KY);have nT:T2 ≠ D:=fun z=>by rw [z,s4 _ _ Bg] at KY; cases KY
   refine hB _ _ _ (s5 _ _ Bg) ⟨_,rfl,fun b o z=>by rw [Ae (Ah z hD)]; exact s5 _ _ (sa _ _ z),Ab,by rw [ZY,al]; rfl,?_⟩;rw [aD,eu,bF];unfold DG;rw [aa,aa];refine BO (BV dd fun b ys z=>?_) (.cons (.tup (vs:=[.str u.1,.str u.2.1,.int (u.2.2 * kk)]) (by rw [Ae nT]; exact Ab) (.cons (.str _) (.cons (.str _) (.cons (.int _) .nil)))) .nil);rw [Ae (B8 z Bg (fun y=>by cases y))];exact s5 _ _ z
  rintro DW σW H3 accW hDW ⟨vW,rfl,sW',VM,alW,ddW⟩;rw [wvl,aL] at ddW;refine ⟨DW,_,rfl,.inl ⟨AV.of VM,fun TW hTW=>?_⟩⟩;have s3:=sT.trans (sW'.trans (Af (o:=.tup accW) hTW));have Xl:(upd H3 TW (.tup accW)) TW=some (.tup accW):=Ab;have X6:=BV ddW fun b ys z=>Af (o:=.tup accW) hTW _ _ z
  generalize upd H3 TW (.tup accW)=H4 at s3 Xl X6 ⊢;have VD:=s3 _ _ hc;have WV:=s3 _ _ EV;have Zq:=Ar Eu fun b ys z=>s3 _ _ z
  refine ⟨_,rfl,c,_,_,_,rfl,rfl,A2.of VD,rfl,t1,rfl,⟨_,A2.of WV⟩,?_⟩;refine Bm B4 (xs:=Cv) (fun D i σ H' acc=>∃ v0:Option V,σ=[v0,some (.int kk)]/\AD H4 H'/\H' D=some (.lst acc)/\acc.length=i/\AM H' acc ((CB kk (Am.take i)).map BK))
   (by lia) (fun D hD=>⟨_,rfl,Af hD,Ab,rfl,.nil⟩) (fun D i σ H' acc hD ⟨_,_,sa,Bg,al,_⟩=>⟨A2.of (sa _ _ WV),Bg,al⟩) ?_ ?_
  ·rintro D i σ H' acc x' B hD ex ⟨v0,rfl,sa,Bg,al,dd⟩ hB;obtain ⟨u,t,eu,rfl,ht⟩:=B7 Zq ex;have htt:=sa _ _ ht;have q:=cw.ok1.lo u (ZW eu);refine ⟨_,rfl,t,_,_,_,rfl,rfl,A2.of htt,rfl,_,rfl,t,_,_,_,rfl,rfl,A2.of htt,rfl,_,rfl,_,_,rfl,rfl,⟨⟨by lia,YS q.2⟩,kb⟩,(by show 2<=sizeLine; lia),fun T hT=>?_⟩;have s4:=Af (o:=.tup [.str u.1,.int (u.2 * kk)]) hT;have nT:T ≠ D:=fun z=>by rw [z,Bg] at hT; cases hT
   refine hB _ _ _ (s4 _ _ Bg) ⟨_,rfl,fun b o z=>by rw [Ae (Ah z hD)]; exact s4 _ _ (sa _ _ z),Ab,by rw [ZY,al]; rfl,?_⟩;rw [aD,eu,bF];unfold CB;rw [aa,aa];refine BO (Ar dd fun b ys z=>?_) (.cons (Eb (u:=(u.1,u.2 * kk)) (by rw [Ae nT]; exact Ab)) .nil);rw [Ae (B8 z Bg (fun y=>by cases y))];exact s4 _ _ z
  rintro DS σS H5 accS hDS ⟨vS,rfl,sS,Z6,alS,ddS⟩;rw [Sh,aL] at ddS;refine ⟨DS,_,rfl,.inl ⟨AV.of Z6,fun TS hTS=>?_⟩⟩;have s5:=sS.trans (Af (o:=.tup accS) hTS);have VI:(upd H5 TS (.tup accS)) TS=some (.tup accS):=Ab;have VU:=Ar ddS fun b ys z=>Af (o:=.tup accS) hTS _ _ z
  generalize upd H5 TS (.tup accS)=H6 at s5 VI VU ⊢;have s6:=s3.trans s5;have Yo:=s6 _ _ hc;have WS:=s6 _ _ FO;have Zm:=Ar hd2 fun b ys z=>s6 _ _ z
  refine ⟨_,rfl,c,_,_,_,rfl,rfl,A2.of Yo,rfl,t2,rfl,⟨_,A2.of WS⟩,?_⟩;refine Bm B4 (xs:=F3) (fun D i σ H' acc=>∃ v0:Option V,σ=[v0,some (.int kk)]/\AD H6 H'/\H' D=some (.lst acc)/\acc.length=i/\AM H' acc ((CB kk (Ap.take i)).map BK))
   (by lia) (fun D hD=>⟨_,rfl,Af hD,Ab,rfl,.nil⟩) (fun D i σ H' acc hD ⟨_,_,sa,Bg,al,_⟩=>⟨A2.of (sa _ _ WS),Bg,al⟩) ?_ ?_
  ·rintro D i σ H' acc x' B hD ex ⟨v0,rfl,sa,Bg,al,dd⟩ hB;obtain ⟨u,t,eu,rfl,ht⟩:=B7 Zm ex;have htt:=sa _ _ ht;have q:=cw.ok2.lo u (ZW eu);refine ⟨_,rfl,t,_,_,_,rfl,rfl,A2.of htt,rfl,_,rfl,t,_,_,_,rfl,rfl,A2.of htt,rfl,_,rfl,_,_,rfl,rfl,⟨⟨by lia,YS q.2⟩,kb⟩,(by show 2<=sizeLine; lia),fun T hT=>?_⟩;have s4:=Af (o:=.tup [.str u.1,.int (u.2 * kk)]) hT;have nT:T ≠ D:=fun z=>by rw [z,Bg] at hT; cases hT
   refine hB _ _ _ (s4 _ _ Bg) ⟨_,rfl,fun b o z=>by rw [Ae (Ah z hD)]; exact s4 _ _ (sa _ _ z),Ab,by rw [ZY,al]; rfl,?_⟩;rw [aD,eu,bF];unfold CB;rw [aa,aa];refine BO (Ar dd fun b ys z=>?_) (.cons (Eb (u:=(u.1,u.2 * kk)) (by rw [Ae nT]; exact Ab)) .nil);rw [Ae (B8 z Bg (fun y=>by cases y))];exact s4 _ _ z
  rintro DF σF H7 accF hDF ⟨vF,rfl,sF,Z7,alF,ddF⟩;rw [Wk,aL] at ddF;refine ⟨DF,_,rfl,.inl ⟨AV.of Z7,fun TF hTF=>?_⟩⟩;have s7:=sF.trans (Af (o:=.tup accF) hTF);have Xm:(upd H7 TF (.tup accF)) TF=some (.tup accF):=Ab;have X7:=Ar ddF fun b ys z=>Af (o:=.tup accF) hTF _ _ z
  generalize upd H7 TF (.tup accF)=H8 at s7 Xm X7 ⊢;have s8:=s6.trans s7;have Yf:=s5.trans s7;have Ws:=s8 _ _ hc;have WC:=cw.ok1.T (by decide) k1 f1;have YH:=cw.ok2.T (by decide) k1 f2;have lT1:(CB kk Am).length=Am.length:=by unfold CB; rw [ZR]
  have lT2:(CB kk Ap).length=Ap.length:=by unfold CB; rw [ZR]
  refine ⟨_,rfl,c,_,_,_,rfl,rfl,A2.of Ws,rfl,m,_,_,_,rfl,rfl,A2.of (s8 _ _ hm),rfl,_,rfl,(by show 2<=sizeLine; lia),fun m1 Xb=>?_⟩;have Y7:=Af (o:=.tup [.ref a1,.ref TW]) Xb;have hmm:(upd H8 m1 (.tup [.ref a1,.ref TW])) m1=some (.tup [.ref a1,.ref TW]):=Ab;generalize upd H8 m1 (.tup [.ref a1,.ref TW])=H9 at Y7 hmm ⊢;have s9:=s8.trans Y7;have hc9:=s9 _ _ hc;refine ⟨_,rfl,_,rfl,c,_,_,_,rfl,rfl,A2.of hc9,rfl,_,rfl,c,_,_,_,rfl,rfl,A2.of hc9,rfl,(by show 4<=sizeLine; lia),fun c9 Zs=>?_⟩;have Yd:=Af (o:=.tup [.ref m1,.ref TS,.ref t2,x]) Zs;have hcc:(upd H9 c9 (.tup [.ref m1,.ref TS,.ref t2,x])) c9=some (.tup [.ref m1,.ref TS,.ref t2,x]):=Ab;generalize upd H9 c9 (.tup [.ref m1,.ref TS,.ref t2,x])=Mr at Yd hcc ⊢;have NO:=s9.trans Yd;have Ji:=Y7.trans Yd;have mT:=cw.map.tms (H':=Mr) (m':=m1) k1 fw (Yd _ _ hmm) (NO _ _ Sl) (Ji _ _ (Yf _ _ Xl)) (BV X6 fun b ys z=>Ji _ _ (Yf _ _ z));have cT:Bv Mr c9 m1 n xs (DG kk ws) (CB kk Am) Ap x d:=⟨⟨TS,t2,_,_,hcc,Ji _ _ (s7 _ _ VI),Ar VU fun b ys z=>Ji _ _ (s7 _ _ z),NO _ _ FO,Ar hd2 fun b ys z=>NO _ _ z⟩,mT,cw.n1,cw.n30,WC,cw.ok2,by lia,cw.l2,cw.lim⟩
  refine ⟨c9,m1,n,xs,_,_,Ap,x,d,rfl,cT,by lia,fun Js v2 k2 W7 YT Og=>?_⟩;have e2:=bf.times1 k1 (Og.bst cT.pc);subst e2;obtain ⟨b1,rfl,d1⟩:=YT.dat;refine ⟨b1,_,rfl,d1,fi.sho,fi.nod,by lia,ln,_,rfl,rfl,_,rfl,?_⟩;refine BB (fun z=>by rw [decide_eq_true rfl] at z; cases z) (fun _=>?_);have Mu:=NO.trans W7;have Xk:=Mu _ _ hc;refine ⟨_,rfl,c,_,_,_,rfl,rfl,A2.of Xk,rfl,_,rfl,_,rfl,_,rfl,c,_,_,_,rfl,rfl,A2.of Xk,rfl,(by show 4<=sizeLine; lia),fun cA hcA=>?_⟩;have scA:=Af (o:=.tup [.ref m,.ref TS,.ref TF,x]) hcA;have Xi:(upd Js cA (.tup [.ref m,.ref TS,.ref TF,x])) cA=some (.tup [.ref m,.ref TS,.ref TF,x]):=Ab;generalize upd Js cA (.tup [.ref m,.ref TS,.ref TF,x])=Qb at scA Xi ⊢;have SG:=(Ji.trans W7).trans scA;have cU:Bv Qb cA m n xs ws (CB kk Am) (CB kk Ap) x d:=⟨⟨TS,TF,_,_,Xi,SG _ _ (s7 _ _ VI),Ar VU fun b ys z=>SG _ _ (s7 _ _ z),SG _ _ Xm,Ar X7 fun b ys z=>SG _ _ z⟩,cw.map.keepT fun b ys z=>scA _ _ (Mu _ _ z),cw.n1,cw.n30,WC,YH,by lia,by lia,cw.lim⟩
  refine ⟨cA,m,n,xs,_,_,_,x,d,rfl,cU,by lia,fun W2 v3 k3 Mt WK YW=>?_⟩;have e3:=bf.times2 k1 (YW.bst cU.pc);subst e3;obtain ⟨b3,rfl,d3⟩:=WK.dat;refine ⟨b3,_,rfl,d3,fi.sho,fi.nod,by lia,ln,_,rfl,rfl,?_⟩;rw [decide_eq_true rfl];exact k W2 ((Mu.trans scA).trans Mt)
end
section
variable {P:Program} {w:World} {K:ZV} {mg:Str->Option Value} {base:Heap}
theorem Jk (h_max:mg "max"=none) {fT:Addr} {fdT:FuncData} (DK:Ex K mg fT fdT) (GT:AG P w K mg base BD 1 fT fdT ["_law_pen_here","_law_many"] CI) {f:Addr} {fd:FuncData} (F:DP K "_law_factor" "_law_factor" CO f fd):AG P w K mg base BD 2 f fd ["_law_pen_here","_law_case_here"] NF:=by
 refine F.ok Fd (fun vs H Q E h=>?_) (fun Cf A outer s H vs Q E hr h=>?_)
 ·obtain ⟨p,c,m,n,xs,ws,Am,Ap,x,d,rfl,_⟩:=h;rfl
 ·obtain ⟨p,c,m,n,xs,ws,Am,Ap,x,d,rfl,hP,c9,k⟩:=h;have nd:=Fd.nd;have hu:=ED hr;have big:100000 < sizeLine:=by decide
  refine ⟨_,(Ag (As (i:=2) nd rfl (Or.inl rfl) (Aw MO (Aw MO (Bt (N:=["_law_way"]) (σ0:=fun _=>[none]) rfl (AE.plain (by decide +kernel) (by decide +kernel) rfl (by decide +kernel)) (fun σ _=>Ba.none _ _ _ ["_law_way"] σ) (B0 K rfl (Al (Ai K rfl) (Al (Ai K rfl) (pv 1) Ad (fun _ _=>rfl)) Ad (fun _ _=>rfl)))
   (fun s2 H C fp=>⟨(Ak (i:=0) (show (["_law_way"]:List Str).Nodup by decide +kernel) rfl (Or.inl rfl)),Bc,(Al (Ai K rfl) (pv 0) Ad (fun _ _=>rfl))⟩)) (Bt (N:=["_law_row"]) (σ0:=fun _=>[none]) rfl (AE.plain (by decide +kernel) (by decide +kernel) rfl (by decide +kernel)) (fun σ _=>Ba.none _ _ _ ["_law_row"] σ) (B0 K rfl (Al (Ai K rfl) (pv 1) Ad (fun _ _=>rfl)))
   (fun s2 H C fp=>⟨(Ak (i:=0) (show (["_law_row"]:List Str).Nodup by decide +kernel) rfl (Or.inl rfl)),Bc,(Al (Ai K rfl) (pv 0) Ad (fun _ _=>rfl))⟩))) (Bt (N:=["_law_row"]) (σ0:=fun _=>[none]) rfl (AE.plain (by decide +kernel) (by decide +kernel) rfl (by decide +kernel)) (fun σ _=>Ba.none _ _ _ ["_law_row"] σ) (B0 K rfl (Al (Ai K rfl) (pv 1) Ad (fun _ _=>rfl)))
   (fun s2 H C fp=>⟨(Ak (i:=0) (show (["_law_row"]:List Str).Nodup by decide +kernel) rfl (Or.inl rfl)),Bc,(Al (Ai K rfl) (pv 0) Ad (fun _ _=>rfl))⟩))))
  (Ag (Co (MF (AZ GK (Aq (Jr rfl) (by rfl) h_max PyProof.Rows.boot_max (Aa (pv 2) Ac)) (Aw Kv Ad Ad) (AJ _)) (Kq (AZ Fe (Aj GT (hr.mono (by decide)) (by rfl) DK.mg DK.F.kp DK.b .nil Ax (Aa (pv 0) (Aa Ad Ac))) Ad (AJ _)))).pt
  (Ao (AB (Aw AY (Aw Kv Ad Ad) (Aj GT (hr.mono (by decide)) (by rfl) DK.mg DK.F.kp DK.b .nil Ax (Aa (pv 0) (Aa Ad Ac))))))
  Bs)
  (Ao (AB (Aw AY Ad (Aj GT (hr.mono (by decide)) (by rfl) DK.mg DK.F.kp DK.b .nil Ax (Aa (pv 0) (Aa Ad Ac)))))))),?_⟩
  have cw:=c9.cw;obtain ⟨t1,t2,Cv,F3,hc,EV,Eu,FO,hd2⟩:=cw.ex;have Sh:=Bl Eu;have pc:=cw.pc;have Wk:=Bl hd2;obtain ⟨a1,a2,wv,hm,Sl,VB,dw⟩:=cw.map.at'.ex;have wvl:wv.length=ws.length:=by have:=FR dw; rw [ZR] at this; exact this
  have wl:=cw.map.l64;have l10:=cw.l1;have l30:=cw.l2;have one:=cw.ok1.one;refine ⟨_,rfl,c,_,_,_,rfl,rfl,A2.of hc,rfl,m,_,_,_,rfl,rfl,A2.of hm,rfl,a2,rfl,⟨_,A2.of VB⟩,?_⟩;refine Bm B4 (xs:=wv) (fun D i σ H' acc=>∃ v0:Option V,σ=[v0]/\AD H H'/\H' D=some (.lst acc)/\acc.length=i/\acc=((ws.take i).map fun u=>u.2.2).map V.int)
   (by lia) (fun D hD=>⟨_,rfl,Af hD,Ab,rfl,rfl⟩) (fun D i σ H' acc hD ⟨_,_,sa,Bg,al,_⟩=>⟨A2.of (sa _ _ VB),Bg,al⟩) ?_ ?_
  ·rintro D i σ H' acc x' B hD ex ⟨v0,rfl,sa,Bg,al,rfl⟩ hB;obtain ⟨u,t,eu,rfl,ht⟩:=DN dw ex;refine ⟨_,rfl,t,_,_,_,rfl,rfl,A2.of (sa _ _ ht),rfl,?_⟩;refine hB _ _ _ Bg ⟨_,rfl,fun b o z=>by rw [Ae (Ah z hD)]; exact sa _ _ z,Ab,by rw [ZY,al]; rfl,?_⟩;rw [aD,eu,bF,aa,aa];rfl
  rintro D1 UQ H1 acc1 Xx ⟨v1,rfl,s1,h1,al1,rfl⟩;rw [wvl,aL] at h1;have Zr:=Ar Eu fun b ys z=>s1 _ _ z
  have Zo:=Ar hd2 fun b ys z=>s1 _ _ z
  refine ⟨_,rfl,c,_,_,_,rfl,rfl,A2.of (s1 _ _ hc),rfl,t1,rfl,⟨_,A2.of (s1 _ _ EV)⟩,?_⟩;refine Bm B4 (xs:=Cv) (fun D i σ H' acc=>∃ v0:Option V,σ=[v0]/\AD H1 H'/\H' D=some (.lst acc)/\acc.length=i/\acc=((Am.take i).map fun u=>u.2).map V.int)
   (by lia) (fun D hD=>⟨_,rfl,Af hD,Ab,rfl,rfl⟩) (fun D i σ H' acc hD ⟨_,_,sa,Bg,al,_⟩=>⟨A2.of (sa _ _ (s1 _ _ EV)),Bg,al⟩) ?_ ?_
  ·rintro D i σ H' acc x' B hD ex ⟨v0,rfl,sa,Bg,al,rfl⟩ hB;obtain ⟨u,t,eu,rfl,ht⟩:=B7 Zr ex;refine ⟨_,rfl,t,_,_,_,rfl,rfl,A2.of (sa _ _ ht),rfl,?_⟩;refine hB _ _ _ Bg ⟨_,rfl,fun b o z=>by rw [Ae (Ah z hD)]; exact sa _ _ z,Ab,by rw [ZY,al]; rfl,?_⟩;rw [aD,eu,bF,aa,aa];rfl
  rintro D2 A9 H2 acc2 KZ ⟨v2,rfl,s2,h2,al2,rfl⟩;rw [Sh,aL] at h2;refine ⟨D1,D2,_,_,rfl,rfl,s2 _ _ h1,h2,(by rw [ZR,ZR,ZR,ZR]; lia),fun D3 GZ=>?_⟩;have s3:=Af (o:=.lst ((ws.map fun u=>u.2.2).map V.int ++ (Am.map fun u=>u.2).map V.int)) GZ;have h3:(upd H2 D3 (.lst ((ws.map fun u=>u.2.2).map V.int ++ (Am.map fun u=>u.2).map V.int))) D3=some (.lst ((ws.map fun u=>u.2.2).map V.int ++ (Am.map fun u=>u.2).map V.int)):=Ab;generalize upd H2 D3 (.lst ((ws.map fun u=>u.2.2).map V.int ++ (Am.map fun u=>u.2).map V.int))=H3 at s3 h3 ⊢;have s23:=s2.trans s3;have Zn:=Ar Zo fun b ys z=>s23 _ _ z
  have Mt:=s1.trans s23;refine ⟨_,rfl,c,_,_,_,rfl,rfl,A2.of (Mt _ _ hc),rfl,t2,rfl,⟨_,A2.of (Mt _ _ FO)⟩,?_⟩;refine Bm B4 (xs:=F3) (fun D i σ H' acc=>∃ v0:Option V,σ=[v0]/\AD H3 H'/\H' D=some (.lst acc)/\acc.length=i/\acc=((Ap.take i).map fun u=>u.2).map V.int)
   (by lia) (fun D hD=>⟨_,rfl,Af hD,Ab,rfl,rfl⟩) (fun D i σ H' acc hD ⟨_,_,sa,Bg,al,_⟩=>⟨A2.of (sa _ _ (Mt _ _ FO)),Bg,al⟩) ?_ ?_
  ·rintro D i σ H' acc x' B hD ex ⟨v0,rfl,sa,Bg,al,rfl⟩ hB;obtain ⟨u,t,eu,rfl,ht⟩:=B7 Zn ex;refine ⟨_,rfl,t,_,_,_,rfl,rfl,A2.of (sa _ _ ht),rfl,?_⟩;refine hB _ _ _ Bg ⟨_,rfl,fun b o z=>by rw [Ae (Ah z hD)]; exact sa _ _ z,Ab,by rw [ZY,al]; rfl,?_⟩;rw [aD,eu,bF,aa,aa];rfl
  rintro D4 Hj H4 acc4 Sn ⟨v4,rfl,s4,h4,al4,rfl⟩;rw [Wk,aL] at h4;refine ⟨D3,D4,_,_,rfl,rfl,s4 _ _ h3,h4,(by rw [ZY,ZR,ZR,ZR,ZR,ZR,ZR]; lia),fun D5 hD5=>?_⟩;have ee:((ws.map fun u=>u.2.2).map V.int ++ (Am.map fun u=>u.2).map V.int) ++ (Ap.map fun u=>u.2).map V.int=((ws.map fun u=>u.2.2) ++ (Am.map fun u=>u.2) ++ (Ap.map fun u=>u.2)).map V.int:=by rw [aa,aa]
  rw [ee];have s5:=Mt.trans (s4.trans (Af (o:=.lst (((ws.map fun u=>u.2.2) ++ (Am.map fun u=>u.2) ++ (Ap.map fun u=>u.2)).map V.int)) hD5));have h5:(upd H4 D5 (.lst (((ws.map fun u=>u.2.2) ++ (Am.map fun u=>u.2) ++ (Ap.map fun u=>u.2)).map V.int))) D5=some (.lst (((ws.map fun u=>u.2.2) ++ (Am.map fun u=>u.2) ++ (Ap.map fun u=>u.2)).map V.int)):=Ab;generalize upd H4 D5 (.lst (((ws.map fun u=>u.2.2) ++ (Am.map fun u=>u.2) ++ (Ap.map fun u=>u.2)).map V.int))=H5 at s5 h5 ⊢;have P5:A0 H5 p:=by obtain ⟨x1,x2,x3,z⟩:=hP; exact ⟨x1,x2,x3,s5 _ _ z⟩
  have small:∀ d:Int,0<=d->d < 9->Wh ws Am Ap (1 + d):=fun d d0 d1=>by
   have key:∀ u:Int,0<=u->u * 9 < 10 ^ 30->u * (1 + d) < 10 ^ 30:=fun u u0 u9=>by
    have:u * (1 + d)<=u * 9:=bK (by lia) u0;lia
   exact ⟨by lia,fun u V6=>key _ (by have:=(cw.map.at'.wn u V6).2.2.1; lia) (c9.w9 u V6),fun r FP=>key _ (cw.ok1.lo r FP).1 (c9.r1 r FP),fun r FP=>key _ (by have:=(cw.ok2.lo r FP).1; lia) (c9.r2 r FP)⟩
  have kp:∀ {a b e:Int},Bd p H (upd H5 p (.lst (A6 a b e))):=fun {a b e}=>(Bd.of_same s5).trans Bd.upd
  refine ⟨_,rfl,D5,_,rfl,AV.of h5,fun z=>?_,fun mx m1 m2=>⟨_,_,rfl,rfl,⟨by decide,by decide,by decide⟩,_,_,rfl,rfl,_,rfl,?_⟩⟩
  ·have:=congrArg bH z;rw [ZY,ZY,ZR,ZR,ZR,eV] at this;lia
  refine BB (fun mz=>?_) (fun _=>R6 ?_)
  ·have mz':=of_decide_eq_true mz;refine ⟨_,rfl,p,3,rfl,P5,by decide,by decide,fun d a b e d0 d1=>⟨rfl,_,rfl,?_⟩⟩;refine BB (fun _=>?_) (fun _=>?_)
   ·refine ⟨_,_,rfl,rfl,⟨by decide,by decide,by decide⟩,_,rfl,p,9,rfl,A0.set a b e,by decide,by decide,fun d' a' b' e' XA X9=>⟨_,_,rfl,rfl,?_⟩⟩;have key:∀ u:Int,0<=u->u ∈ (ws.map fun u=>u.2.2) ++ (Am.map fun u=>u.2) ++ (Ap.map fun u=>u.2)->u * (10 ^ (20:Int).toNat + d') < 10 ^ 30:=fun u u0 V6=>by
     have ule:=m2 u V6;have e9:(10:Int) ^ (9:Int).toNat=10 ^ 9:=by decide
     have ZG:(10:Int) ^ (20:Int).toNat=10 ^ 20:=by decide
     rw [e9] at mz';rw [ZG];have g1:u * (10 ^ 20 + d')<=10 ^ 9 * (10 ^ 20 + d'):=aM (by lia) (by lia);have g2:(10:Int) ^ 9 * (10 ^ 20 + d')<=10 ^ 9 * (10 ^ 20 + 9):=bK (by lia) (by decide);have g3:(10:Int) ^ 9 * (10 ^ 20 + 9) < 10 ^ 30:=by decide
     lia
    have WB:(1:Int)<=10 ^ (20:Int).toNat + d':=by rw [show (10:Int) ^ (20:Int).toNat=10 ^ 20 by decide]; lia
    refine k _ _ (A0.set _ _ _) ((kp).trans Bd.upd) ⟨WB,fun u V6=>key _ (by have:=(cw.map.at'.wn u V6).2.2.1; lia) (aV _ (aV _ (ZZ.mpr ⟨u,V6,rfl⟩))),fun r FP=>key _ (cw.ok1.lo r FP).1 (aV _ (aw _ (ZZ.mpr ⟨r,FP,rfl⟩))),fun r FP=>key _ (by have:=(cw.ok2.lo r FP).1; lia) (aw _ (ZZ.mpr ⟨r,FP,rfl⟩))⟩ ?_;have ZG:(10:Int) ^ (20:Int).toNat=10 ^ 20:=by decide
    have XR:(10:Int) ^ 20 + 9 < 2 ^ 100:=by decide
    rw [ZG];lia
   ·refine ⟨_,rfl,p,9,rfl,A0.set a b e,by decide,by decide,fun d' a' b' e' XA X9=>⟨_,_,rfl,rfl,?_⟩⟩;have XR:(10:Int) < 2 ^ 100:=by decide
    exact k _ _ (A0.set _ _ _) ((kp).trans Bd.upd) (small d' XA X9) (by lia)
  ·refine ⟨_,rfl,p,9,rfl,P5,by decide,by decide,fun d' a' b' e' XA X9=>⟨_,_,rfl,rfl,?_⟩⟩;have XR:(10:Int) < 2 ^ 100:=by decide
   exact k _ _ (A0.set _ _ _) kp (small d' XA X9) (by lia)
end
section
variable {P:Program} {w:World} {K:ZV} {mg:Str->Option Value} {base:Heap}
theorem LG (h_len:mg "len"=none) (h_range:mg "range"=none) (h_tuple:mg "tuple"=none) {fT:Addr} {fdT:FuncData} (DK:Ex K mg fT fdT) (GT:AG P w K mg base BD 1 fT fdT ["_law_pen_here","_law_many"] CI) {f:Addr} {fd:FuncData} (F:DP K "_law_pair" "_law_pair" DV f fd):AG P w K mg base BD 2 f fd ["_law_pen_here","_law_sites"] (Ln K):=by
 refine F.ok G9 (fun vs H Q E h=>?_) (fun Cf A outer s H vs Q E hr h=>?_)
 ·obtain ⟨p,l,ns,rfl,_⟩:=h;rfl
 ·obtain ⟨p,l,ns,rfl,hP,hl,ne,nn,few,k⟩:=h;have nd:=G9.nd;have big:100000 < sizeLine:=by decide
  refine ⟨_,(Ag (As (i:=2) nd rfl (Or.inr rfl) (Al (A7 K rfl) (pv 1) (Aj GT (hr.mono (by decide)) (by rfl) DK.mg DK.F.kp DK.b .nil Ax (Aa (pv 0) (Aa (Aq (AS K rfl) (by rfl) h_len PySem.boot_len (Aa (pv 1) Ac)) Ac))) (fun _ _=>rfl)))
  (Ag (As (i:=3) nd rfl (Or.inl rfl) (BG Ac))
  (Ag (Cw PassesOwn.never rfl (BQ (by rfl) h_range (Aa Ad Ac)) (Ak (i:=4) nd rfl (Or.inl rfl))
  (Ag (FF (ix:=5) (N:=["_law_site","_law_pen_here","_law_both"]) (σ0:=fun σ=>[none,some 0,some 2].map fun j=>j.bind fun j=>(σ[j]?).join) nd rfl (Or.inl rfl) rfl (AE.caught (by rfl) (by decide +kernel) rfl (by decide +kernel) (by intro y hy; simp only [ZU,af,or_false] at hy; rcases hy with rfl | rfl <;> rfl)
   (by intro y hy e; simp only [ZU,af,or_false] at hy; rcases hy with rfl | rfl | rfl | rfl | rfl <;> first | exact ⟨_,rfl⟩ | cases e)) (fun σ _=>Ba.of [none,some 0,some 2] rfl (by
   intro i j x h1 h2;match i,h1,h2 with
   | 0,_,h2=>cases h2
   | 1,h1,h2=>cases h1; cases h2; exact ⟨rfl,.inl rfl,.inl rfl⟩
   | 2,h1,h2=>cases h1; cases h2; exact ⟨rfl,.inl rfl,.inl rfl⟩
   | n + 3,h1,_=>cases h1)) (BX K rfl (pv 1))
   (fun s2 H C fp=>⟨(Ak (i:=0) (show (["_law_site","_law_pen_here","_law_both"]:List Str).Nodup by decide +kernel) rfl (Or.inl rfl)),(HA (HV (AZ Fe (pv 0) (pv 2) (AJ _)) (HU (AZ Fe (Aj GT (hr.mono (by decide)) (by rfl) DK.mg DK.F.kp DK.b .nil Ax (Aa (pv 1) (Aa Ad Ac))) Ad (AJ _)))).pt),(pv 0)⟩))
  (Ao (HB (Ib PySem.F.plainAttrs_list PySem.F.slot_list_append PySem.F.type_list_append CV (pv 3) (Aa (A5 (AH K rfl) (by rfl) h_tuple PyProof.Rows.boot_tuple (Aa (pv 5) Ac)) Ac))))))
  (Ao (AB (pv 3)))))),?_⟩
  have npl:l ≠ p:=by
   intro z;obtain ⟨x1,x2,x3,hp⟩:=hP;rw [z,hp] at hl;injection hl with hl;injection hl with hl;have:=congrArg bH hl;match ns,hl with
   | a :: _,hl=>cases hl
  have b30:((ns.map V.str).length:Int) < 1073741824:=by rw [ZR]; lia
  have n0:0 < ns.length:=bN.mpr ne;refine ⟨_,rfl,_,rfl,_,rfl,l,_,rfl,.inl (AV.of hl),p,_,rfl,hP,by rw [ZR]; lia,b30,fun d a b e d0 d1=>?_⟩;rw [ZR] at d1;obtain ⟨y,hy⟩:∃ y,ns[d.toNat]? = some y:=⟨_,ZS (by lia)⟩
  have my:=ZW hy;have Pl:(upd H p (.lst (A6 a b e))) l=some (.lst (ns.map V.str)):=by rw [Ae npl]; exact hl
  have P1:A0 (upd H p (.lst (A6 a b e))) p:=A0.set a b e;have k1:Bd p H (upd H p (.lst (A6 a b e))):=Bd.upd;generalize upd H p (.lst (A6 a b e))=H1 at Pl P1 k1 ⊢;have Yw:Ff (ns.map V.str) d=some (.str y):=by
   have:Ff (ns.map V.str) ((d.toNat:Nat):Int)=some (.str y):=Cs (by rw [ai,hy]; rfl);rw [show ((d.toNat:Nat):Int)=d by lia] at this;exact this
  refine ⟨l,_,_,_,rfl,rfl,AV.of Pl,Yw,?_⟩;refine ⟨(by show 0<=sizeLine; lia),fun D hD=>?_⟩;have nD:D ≠ p:=P1.ne hD;have nDl:D ≠ l:=fun z=>by rw [z,Pl] at hD; cases hD
  refine ⟨2,rfl,by decide,by decide,?_⟩;refine Di (n:=2) (fun i σ H'=>∃ (v4 v5:Option V) (us:List V) (fs:List (List Str)),σ=[some (.ref p),some (.ref l),some (.str y),some (.ref D),v4,v5]/\A0 H' p/\(∀ b o,b ≠ p->b ≠ D->H1 b=some o->H' b=some o)/\H' D=some (.lst us)/\us.length=i/\Cu H' us fs/\∀ g ∈ fs,g.Sublist ns/\y ∈ g)
   ⟨_,_,[],[],rfl,P1.other nD,fun b o _ nb z=>by rw [Ae nb]; exact z,Ab,rfl,.nil,fun g hg=>nomatch hg⟩ ?_ ?_
  ·rintro i σ H2 hi ⟨v4,v5,us,fs,rfl,P2,k2,KZ,ul,tp,ok⟩ rt bk N hN;have PX:=k2 l _ npl (Ne.symm nDl) Pl;refine ⟨_,rfl,l,rfl,⟨_,AV.of PX⟩,?_⟩;refine Dt Cy (xs:=ns.map V.str) (fun DD i σ H' acc=>∃ (v0:Option V) (gs:List Str),σ=[v0,some (.ref p),some (.str y)]/\A0 H' p/\(∀ b o,b ≠ p->H2 b=some o->H' b=some o)/\H' DD=some (.lst acc)/\acc=gs.map V.str/\gs.Sublist (ns.take i)/\(y ∈ ns.take i->y ∈ gs)/\acc.length<=i)
    (by rw [ZR]; lia) (fun DD Bg=>⟨_,[],rfl,P2.other (P2.ne Bg),fun b o nb z=>by rw [Ae (Ah z Bg)]; exact z,Ab,rfl,dM _,(fun z=>by simp at z),ZX _⟩) (fun DD i σ H' acc Bg ⟨_,gs,_,_,ka,Gw,_,_,_,al⟩=>⟨AV.of (ka _ _ npl PX),Gw,al⟩) ?_ ?_
   ·rintro DD j σ H' acc x' B N' Bg ex ⟨v0,gs,rfl,Pa,ka,Gw,rfl,sb,WG,al⟩ hB hN';have nDD:DD ≠ p:=P2.ne Bg;obtain ⟨z,ez,rfl⟩:∃ z,ns[j]? = some z/\x'=.str z:=by
     rw [ai] at ex;cases q:ns[j]? with
     | none=>rw [q] at ex; cases ex
     | some y=>rw [q] at ex; exact ⟨y,rfl,(aI.inj ex).symm⟩
    have tk:ns.take (j + 1)=ns.take j ++ [z]:=by rw [aD,ez]; rfl
    have add:∀ {H5:Hp} {v:Option V},A0 H5 p->(∀ b o,b ≠ p->H2 b=some o->H5 b=some o)->H5 DD=some (.lst (gs.map V.str))->B [some (.str z),some (.ref p),some (.str y)] (.str z) H5:=fun {H5 v} P5 k5 h5=>
     hB _ _ _ h5 ⟨_,gs ++ [z],rfl,P5.other nDD,fun b o nb q=>by rw [Ae (Ah q Bg)]; exact k5 b o nb q,Ab,by rw [aa]; rfl,by rw [tk]; exact sb.append (List.Sublist.refl _),fun q=>by
      rw [tk] at q;rcases aG.mp q with q | q
      ·exact aV _ (WG q)
      ·exact aw _ q,by rw [ZY,bo]; lia⟩
    refine ⟨_,rfl,_,rfl,rfl,_,rfl,BB (fun q=>Vy ⟨_,rfl,add (v:=v0) Pa ka Gw⟩) (fun q=>?_)⟩;have zy:z ≠ y:=fun e=>q (by rw [e]; exact decide_eq_true rfl)
    refine ⟨_,rfl,p,2,rfl,Pa,by decide,by decide,fun d' a' b' e' XA X9=>⟨rfl,_,rfl,?_⟩⟩;have k6:∀ b o,b ≠ p->H2 b=some o->(upd H' p (.lst (A6 a' b' e'))) b=some o:=fun b o nb q=>by rw [Ae nb]; exact ka b o nb q
    have h6:(upd H' p (.lst (A6 a' b' e'))) DD=some (.lst (gs.map V.str)):=by rw [Ae nDD]; exact Gw
    refine BB (fun _=>⟨_,rfl,add (v:=v0) (A0.set _ _ _) k6 h6⟩) (fun _=>hN' _ _ ⟨_,gs,rfl,A0.set _ _ _,k6,h6,rfl,by rw [tk]; exact sb.trans (List.sublist_append_left _ _),fun q=>?_,by lia⟩);rw [tk] at q;rcases aG.mp q with q | q
    ·exact WG q
    ·exact absurd (ar.mp q).symm zy
   ·rintro DD σ H3 acc Bg ⟨v0,gs,rfl,P3,k3,Gw,rfl,sb,WG,al⟩;rw [ZR,aL] at sb WG;have nDD:DD ≠ p:=P2.ne Bg;have GZ:=k3 D _ nD KZ;refine ⟨_,rfl,.inl ⟨rfl,_,AV.of GZ⟩,_,rfl,DD,_,rfl,.inl ⟨AV.of Gw,fun T hT=>?_⟩⟩;have sT:=Af (o:=.tup (gs.map V.str)) hT;have nTD:T ≠ D:=fun q=>by rw [q,GZ] at hT; cases hT
    refine ⟨D,us,_,rfl,rfl,sT _ _ GZ,by lia,?_⟩;refine hN _ _ ⟨_,_,us ++ [.ref T],fs ++ [gs],rfl,(P3.same sT).other nD,fun b o nb Jb q=>by rw [Ae Jb]; exact sT _ _ (k3 _ _ nb (k2 b o nb Jb q)),Ab,by rw [ZY,ul]; rfl,?_,fun g hg=>?_⟩
    ·have t1:Cu (upd (upd H3 T (.tup (gs.map V.str))) D (.lst (us ++ [.ref T]))) us fs:=tp.keep fun b ys q=>by
      rw [Ae (B8 q KZ (fun w=>by cases w))];exact sT _ _ (k3 _ _ (by obtain ⟨_,_,_,w⟩:=P2; exact B8 q w (fun w=>by cases w)) q)
     exact t1.app (.cons (by rw [Ae nTD]; exact Ab) .nil)
    ·rcases aG.mp hg with hg | hg
     ·exact ok g hg
     ·rw [ar.mp hg];exact ⟨sb,WG my⟩
  ·rintro σ H2 ⟨v4,v5,us,fs,rfl,P2,k2,KZ,ul,tp,ok⟩;have tl:=tp.len;match us,fs,tp,ul with
   | [_,_],[fa,fb],.cons h1 (.cons h2 .nil),_=>
    exact ⟨_,rfl,k H2 D _ _ fa fb P2 (fun b o nb z=>k2 b o nb (fun q=>by have y':=k1 b o nb z; rw [q,hD] at y'; cases y') (k1 b o nb z)) KZ h1 h2 (ok fa (by simp)).1 (ok fb (by simp)).1 ⟨y,(ok fa (by simp)).2,(ok fb (by simp)).2⟩⟩
end
section
variable {P:Program} {w:World} {K:ZV} {mg:Str->Option Value} {base:Heap}
theorem Hm (h_min:mg "min"=none) (h_set:mg "set"=none) (h_sorted:mg "sorted"=none) (h_tuple:mg "tuple"=none) {fB:Addr} {fdB:FuncData} (XB:Fn K mg "plain_best" B9 ["case"] fB fdB) (GB:AG P w K mg base BD 6 fB fdB ["case"] F6) {fC:Addr} {fdC:FuncData} (XC:Fn K mg "cost" HR ["case","opening"] fC fdC) (GC:AG P w K mg base BD 5 fC fdC ["case","opening"] M8) {fH:Addr} {fdH:FuncData} (XH:Fn K mg "houses_cost" BW ["case","opening"] fH fdH) (GH:AG P w K mg base BD 2 fH fdH ["case","opening"] DQ) {fW:Addr} {fdW:FuncData} (XW:Fn K mg "ways_cost" CA ["case","opening"] fW fdW) (GW:AG P w K mg base BD 4 fW fdW ["case","opening"] Fi) {f:Addr} {fd:FuncData} (F:DP K "_law_together" "_law_together" Ck f fd):AG P w K mg base BD 7 f fd ["_law_case_here","_law_one","_law_other"] NA:=by
 refine F.ok Er (fun vs H Q E h=>?_) (fun Cf A outer s H vs Q E hr h=>?_)
 ·obtain ⟨c,o1,o2,m,n,xs,ws,Am,Ap,d,a,b,rfl,_⟩:=h;rfl
 ·obtain ⟨c,o1,o2,m,n,xs,ws,Am,Ap,d,a,b,rfl,cw,l6,h1,h2,sa,sb,⟨s0,YC,YB⟩,k⟩:=h;have nd:=Er.nd;have big:100000 < sizeLine:=by decide
  refine ⟨_,(Ag (As (i:=3) nd rfl (Or.inl rfl) (A5 (AH K rfl) (by rfl) h_tuple PyProof.Rows.boot_tuple (Aa (Aq (Hr rfl) (by rfl) h_sorted PyProof.Rows.boot_sorted (Aa (A5 (KH P w K rfl rfl rfl rfl) (by rfl) h_set PyProof.Rows.boot_set (Aa (Aw (Ig K rfl) (pv 1) (pv 2)) Ac)) Ac)) Ac)))
  (Ag (As (i:=4) nd rfl (Or.inl rfl) (A5 (AH K rfl) (by rfl) h_tuple PyProof.Rows.boot_tuple (Aa (Bt (N:=["_law_site","_law_other"]) (σ0:=fun σ=>[none,some 2].map fun j=>j.bind fun j=>(σ[j]?).join) rfl (AE.caught (by rfl) (by decide +kernel) rfl (by decide +kernel) (by intro y hy; simp only [ZU,af,or_false] at hy; rcases hy with rfl <;> rfl)
   (by intro y hy e; simp only [ZU,af,or_false] at hy; rcases hy with rfl | rfl | rfl <;> first | exact ⟨_,rfl⟩ | cases e)) (fun σ _=>Ba.of [none,some 2] rfl (by
   intro i j x h1 h2;match i,h1,h2 with
   | 0,_,h2=>cases h2
   | 1,h1,h2=>cases h1; cases h2; exact ⟨rfl,.inl rfl,.inl rfl⟩
   | n + 2,h1,_=>cases h1)) (B0 K rfl (pv 1))
   (fun s2 H C fp=>⟨(Ak (i:=0) (show (["_law_site","_law_other"]:List Str).Nodup by decide +kernel) rfl (Or.inl rfl)),(HA (AZ (Vp K rfl) (pv 0) (pv 1) (by rfl))),(pv 0)⟩)) Ac)))
  (Ag (Co (AZ NV (Aw AY (Aj GH (hr.mono (by decide)) (by rfl) XH.mg XH.F.kp XH.b .nil Ax (Aa (pv 0) (Aa (pv 3) Ac))) (Aj GH (hr.mono (by decide)) (by rfl) XH.mg XH.F.kp XH.b .nil Ax (Aa (pv 0) (Aa (pv 4) Ac)))) (Aw AY (Aj GH (hr.mono (by decide)) (by rfl) XH.mg XH.F.kp XH.b .nil Ax (Aa (pv 0) (Aa (pv 1) Ac))) (Aj GH (hr.mono (by decide)) (by rfl) XH.mg XH.F.kp XH.b .nil Ax (Aa (pv 0) (Aa (pv 2) Ac)))) (AJ _))
  (Ao (AB Es))
  Bs)
  (Ag (FF (ix:=5) (N:=["_law_some_here","_law_case_here"]) (σ0:=fun σ=>[none,some 0].map fun j=>j.bind fun j=>(σ[j]?).join) nd rfl (Or.inl rfl) rfl (AE.caught (by rfl) (by decide +kernel) rfl (by decide +kernel) (by intro y hy; simp only [ZU,af,or_false] at hy; rcases hy with rfl <;> rfl)
   (by intro y hy e; simp only [ZU,af,or_false] at hy; rcases hy with rfl | rfl | rfl | rfl <;> first | exact ⟨_,rfl⟩ | cases e)) (fun σ _=>Ba.of [none,some 0] rfl (by
   intro i j x h1 h2;match i,h1,h2 with
   | 0,_,h2=>cases h2
   | 1,h1,h2=>cases h1; cases h2; exact ⟨rfl,.inl rfl,.inl rfl⟩
   | n + 2,h1,_=>cases h1)) (BX K rfl (BG (Aa (pv 1) (Aa (pv 2) (Aa (pv 3) (Aa (pv 4) Ac))))))
   (fun s2 H C fp=>⟨(Ak (i:=0) (show (["_law_some_here","_law_case_here"]:List Str).Nodup by decide +kernel) rfl (Or.inl rfl)),Bc,(Aj GW (hr.mono (by decide)) (by rfl) XW.mg XW.F.kp XW.b .nil Ax (Aa (pv 1) (Aa (pv 0) Ac)))⟩))
  (Ag (Co (HV (AZ Et (Al (A7 K rfl) (pv 5) Ad (fun _ _=>rfl)) (Aq (ES rfl) (by rfl) h_min PyProof.Rows.boot_min (Aa (Al (A7 K rfl) (pv 5) Ad (fun _ _=>rfl)) (Aa (Al (A7 K rfl) (pv 5) Ad (fun _ _=>rfl)) Ac))) (AJ _)) (HU (AZ GK (Aw AY (Al (A7 K rfl) (pv 5) Ad (fun _ _=>rfl)) (Al (A7 K rfl) (pv 5) Ad (fun _ _=>rfl))) (Aw AY (Al (A7 K rfl) (pv 5) Ad (fun _ _=>rfl)) (Al (A7 K rfl) (pv 5) Ad (fun _ _=>rfl))) (AJ _)))).pt
  (Ao (AB Es))
  Bs)
  (Ag (As (i:=6) nd rfl (Or.inl rfl) (Al (Ai K rfl) (Aj GB (hr.mono (by decide)) (by rfl) XB.mg XB.F.kp XB.b .nil Ax (Aa (pv 0) Ac)) Ad (fun _ _=>rfl)))
  (Ag (Cw PassesOwn.never rfl (BX K rfl (BG (Aa (pv 1) (Aa (pv 2) (Aa (pv 3) (Aa (pv 4) Ac)))))) (Ak (i:=7) nd rfl (Or.inl rfl))
  (Ag (As (i:=8) nd rfl (Or.inl rfl) (Aj GC (hr.mono (by decide)) (by rfl) XC.mg XC.F.kp XC.b .nil Ax (Aa (pv 0) (Aa (pv 7) Ac))))
  (Ao (Co (HV (AZ NV (pv 8) (Aw AY (Aj GH (hr.mono (by decide)) (by rfl) XH.mg XH.F.kp XH.b .nil Ax (Aa (pv 0) (Aa (pv 7) Ac))) (Aj GW (hr.mono (by decide)) (by rfl) XW.mg XW.F.kp XW.b .nil Ax (Aa (pv 0) (Aa (pv 7) Ac)))) (AJ _)) (HU (AZ GK (pv 8) (pv 6) (AJ _)))).pt
  (Ao (AB Es))
  Bs))))
  (Ao (AB Es))))))))),?_⟩
  obtain ⟨t1,t2,Cv,F3,hc,EV,Eu,FO,hd2⟩:=cw.ex;have Sh:=Bl Eu;have pc:=cw.pc;have sn:=cw.ok1.nd;have la:a.length<=6:=by have:=sa.length_le; rw [ZR] at this; lia
  have lb:b.length<=6:=by have:=sb.length_le; rw [ZR] at this; lia
  have a0:a ≠ []:=fun z=>by rw [z] at YC; cases YC
  have b0:b ≠ []:=fun z=>by rw [z] at YB; cases YB
  refine ⟨_,rfl,_,rfl,o1,o2,_,_,rfl,rfl,A2.of h1,A2.of h2,(fun z=>a0 (eE.mp z)),(by rw [ZR,ZR]; lia),(fun z=>absurd (eE.mp z) b0),fun _ S0 hS0=>?_⟩;rw [<-aa];have t0:=Af (o:=.tup ((a ++ b).map V.str)) hS0;have Xq:(upd H S0 (.tup ((a ++ b).map V.str))) S0=some (.tup ((a ++ b).map V.str)):=Ab;generalize upd H S0 (.tup ((a ++ b).map V.str))=H1 at t0 Xq ⊢;refine ⟨S0,a ++ b,rfl,.inr (A2.of Xq),(by rw [ZY]; lia),fun S1 Sm=>?_⟩;have t1':=t0.trans (Af (o:=setS P w S1 (a ++ b)) Sm);refine ⟨S1,a ++ b,rfl,Ab,(by rw [ZY]; lia),fun L e hL en em es=>?_⟩;have t2':=t1'.trans (Af (o:=.lst (e.map V.str)) hL);refine ⟨L,_,rfl,.inl ⟨AV.of Ab,fun E hE=>?_⟩⟩;have t3:=t2'.trans (Af (o:=.tup (e.map V.str)) hE);have hEE:(upd (upd (upd H1 S1 (setS P w S1 (a ++ b))) L (.lst (e.map V.str))) E (.tup (e.map V.str))) E=some (.tup (e.map V.str)):=Ab;generalize upd (upd (upd H1 S1 (setS P w S1 (a ++ b))) L (.lst (e.map V.str))) E (.tup (e.map V.str))=H2 at t3 hEE ⊢;refine ⟨_,rfl,o1,rfl,⟨_,A2.of (t3 _ _ h1)⟩,?_⟩;refine Dt B4 (xs:=a.map V.str) (fun D i σ H' acc=>∃ v0:Option V,σ=[v0,some (.ref o2)]/\AD H2 H'/\H' D=some (.lst acc)/\acc=((a.take i).filter fun s=>decide (s ∈ b)).map V.str/\acc.length<=i)
   (by rw [ZR]; lia) (fun D hD=>⟨_,rfl,Af hD,Ab,rfl,ZX _⟩) (fun D i σ H' acc hD ⟨_,_,sA,Bg,_,al⟩=>⟨A2.of (sA _ _ (t3 _ _ h1)),Bg,al⟩) ?_ ?_
  ·rintro D i σ H' acc x' B N hD ex ⟨v0,rfl,sA,Bg,rfl,al⟩ hB hN;obtain ⟨y,ey,rfl⟩:∃ y,a[i]? = some y/\x'=.str y:=by
    rw [ai] at ex;cases q:a[i]? with
    | none=>rw [q] at ex; cases ex
    | some y=>rw [q] at ex; exact ⟨y,rfl,(aI.inj ex).symm⟩
   have tk:a.take (i + 1)=a.take i ++ [y]:=by rw [aD,ey]; rfl
   refine ⟨_,rfl,_,rfl,o2,_,rfl,.inr (A2.of (sA _ _ (t3 _ _ h2))),rfl,Pt b,_,rfl,?_⟩;rw [show (if false=true then !Wr (V.str y) (b.map V.str) else Wr (V.str y) (b.map V.str))=decide (y ∈ b) from R7 y b];refine BB (fun q=>?_) (fun q=>?_)
   ·have q':=of_decide_eq_true q;refine ⟨_,rfl,hB _ _ _ Bg ⟨_,rfl,fun b' o z=>by rw [Ae (Ah z hD)]; exact sA _ _ z,Ab,?_,by rw [ZY,bo]; lia⟩⟩;rw [tk,cu,aa,List.filter_cons_of_pos (by exact decide_eq_true q')];rfl
   ·refine hN _ _ ⟨_,rfl,sA,?_,?_,by lia⟩
    ·exact Bg
    ·rw [tk,cu,List.filter_cons_of_neg (by exact q),di,cy]
  rintro D σ H3 acc hD ⟨v0,rfl,sA,Bg,rfl,al⟩;rw [ZR,aL] at Bg;refine ⟨D,_,rfl,.inl ⟨AV.of Bg,fun C0 hC0=>?_⟩⟩;have t4:=sA.trans (Af (o:=.tup ((a.filter fun s=>decide (s ∈ b)).map V.str)) hC0);have hCC:(upd H3 C0 (.tup ((a.filter fun s=>decide (s ∈ b)).map V.str))) C0=some (.tup ((a.filter fun s=>decide (s ∈ b)).map V.str)):=Ab;have two:PL a b e (a.filter fun s=>decide (s ∈ b)):=⟨sa.nodup sn,sb.nodup sn,en,(sa.nodup sn).filter _,fun s=>by rw [em,aG],fun s=>by rw [bq,decide_eq_true_eq],fun z=>by
   have:s0 ∈ a.filter fun s=>decide (s ∈ b):=bq.mpr ⟨YC,decide_eq_true YB⟩
   rw [z] at this; cases this⟩
  generalize (a.filter fun s=>decide (s ∈ b))=cc at hCC two t4 hC0;generalize upd H3 C0 (.tup (cc.map V.str))=H4 at t4 hCC ⊢;have PR:=t3.trans t4;have oA:KP (Am.map (·.1)) a:=⟨a0,two.na,fun s hs=>sa.subset hs⟩
  have oB:KP (Am.map (·.1)) b:=⟨b0,two.nb,fun s hs=>sb.subset hs⟩
  have oE:KP (Am.map (·.1)) e:=⟨two.e0,two.ne,fun s hs=>by
   rcases (two.me s).mp hs with z | z
   ·exact sa.subset z
   ·exact sb.subset z⟩
  have oC:KP (Am.map (·.1)) cc:=⟨two.c0,two.nc,fun s hs=>sa.subset ((two.mc s).mp hs).1⟩
  have ox:∀ {g:List Str},KP (Am.map (·.1)) g->KP xs g:=fun {g} o=>⟨o.1,o.2.1,fun s hs=>by
   obtain ⟨r,FP,rfl⟩:=ZZ.mp (o.2.2 s hs);exact cw.ok1.sub r FP⟩
  have bnd:∀ {g:List Str},KP xs g->∀ gs,Fh ws g Ap gs->∀ q ∈ gs,-(2 ^ 300) < q.2.2/\q.2.2 < 2 ^ 300:=fun {g} o gs gg q hq=>by
   obtain ⟨i,hi,rfl⟩:=aF hq;obtain ⟨r,FP⟩:∃ r,Ap[i]? = some r:=⟨_,ZS (by rw [<-gg.1]; exact hi)⟩
   obtain ⟨_,⟨z1,z2⟩,z3⟩:=gg.2 i _ _ FP (ZS hi);have dd:Gg ws gs[i].2.1 r.1 gs[i].2.2:=⟨z2,fun mm hh=>by
    rcases z3 _ z1 mm hh with z | ⟨z,_⟩
    ·exact du z
    ·exact eM z⟩
   have:=cw.map.bound cw.n1 cw.n30 (o.2.2 _ z1) (cw.ok2.sub _ (ZW FP)) dd;exact ⟨dA Rp this.1,this.2⟩
  have h14:=PR _ _ h1;have h24:=PR _ _ h2;have hE4:=t4 _ _ hEE;refine ⟨_,rfl,_,rfl,c,E,m,n,xs,e,ws,Am,Ap,.non,d,rfl,cw.same PR,hE4,oE,fun H5 s5=>?_⟩;refine ⟨_,rfl,_,rfl,c,C0,m,n,xs,cc,ws,Am,Ap,.non,d,rfl,cw.same (PR.trans s5),s5 _ _ hCC,oC,fun H6 s6=>⟨_,_,rfl,rfl,?_⟩⟩;have Uu:=s5.trans s6;refine ⟨_,rfl,_,rfl,c,o1,m,n,xs,a,ws,Am,Ap,.non,d,rfl,cw.same (PR.trans Uu),Uu _ _ h14,oA,fun H7 s7=>?_⟩;have Y8:=Uu.trans s7;refine ⟨_,rfl,_,rfl,c,o2,m,n,xs,b,ws,Am,Ap,.non,d,rfl,cw.same (PR.trans Y8),Y8 _ _ h24,oB,fun H8 s8=>⟨_,_,rfl,rfl,rfl,_,rfl,?_⟩⟩;have Yf:=Y8.trans s8;have e1:(e.map (A1 Am)).sum + (cc.map (A1 Am)).sum=(a.map (A1 Am)).sum + (b.map (A1 Am)).sum:=two.sm (A1 Am);refine BB (fun z=>absurd (congrArg V.int e1) (of_decide_eq_false (by rw [eK] at z; exact z))) (fun _=>?_);refine ⟨_,rfl,_,rfl,_,rfl,_,rfl,(by show 4<=sizeLine; lia),fun Q4 hQ4=>?_⟩;have s9:=Yf.trans (Af (o:=.lst [.ref o1,.ref o2,.ref E,.ref C0]) hQ4);have hQQ:(upd H8 Q4 (.lst [.ref o1,.ref o2,.ref E,.ref C0])) Q4=some (.lst [.ref o1,.ref o2,.ref E,.ref C0]):=Ab;generalize upd H8 Q4 (.lst [.ref o1,.ref o2,.ref E,.ref C0])=H9 at s9 hQQ ⊢;have four:∀ (i:Nat) v,[V.ref o1,.ref o2,.ref E,.ref C0][i]? = some v->∃ (o:Addr) (g:List Str),v=.ref o/\[a,b,e,cc][i]? = some g/\H4 o=some (.tup (g.map V.str))/\KP (Am.map (·.1)) g:=fun i v hv=>by
   match i,hv with
   | 0,hv=>cases hv; exact ⟨_,_,rfl,rfl,h14,oA⟩
   | 1,hv=>cases hv; exact ⟨_,_,rfl,rfl,h24,oB⟩
   | 2,hv=>cases hv; exact ⟨_,_,rfl,rfl,hE4,oE⟩
   | 3,hv=>cases hv; exact ⟨_,_,rfl,rfl,hCC,oC⟩
   | n + 4,hv=>cases hv
  refine ⟨Q4,rfl,⟨_,AV.of hQQ⟩,?_⟩;refine Bm Cy (xs:=[V.ref o1,.ref o2,.ref E,.ref C0]) (fun D i σ H' acc=>∃ v0:Option V,σ=[v0,some (.ref c)]/\AD H9 H'/\H' D=some (.lst acc)/\acc.length=i/\acc=(([a,b,e,cc].take i).map fun g=>sW Ap (mD ws g)).map V.int)
   (by show 4 < sizeLine; lia) (fun D hD=>⟨_,rfl,Af hD,Ab,rfl,rfl⟩) (fun D i σ H' acc hD ⟨_,_,sB,Bg,al,_⟩=>⟨AV.of (sB _ _ hQQ),Bg,al⟩) ?_ ?_
  ·rintro D i σ H' acc x' B hD ex ⟨v0,rfl,sB,Bg,al,rfl⟩ hB;obtain ⟨o,g,rfl,eg,hg,og⟩:=four i x' ex;have sC:=s9.trans sB;refine ⟨_,rfl,_,rfl,c,o,m,n,xs,g,ws,Am,Ap,.non,d,rfl,cw.same (PR.trans sC),sC _ _ hg,ox og,bnd (ox og),fun H5' gs s5' gg=>?_⟩;rw [pc.ways og.1 (ox og).2.2 gg];refine hB _ _ _ (s5' _ _ Bg) ⟨_,rfl,fun b' o' z=>by rw [Ae (Ah z hD)]; exact s5' _ _ (sB _ _ z),Ab,by rw [ZY,al]; rfl,?_⟩;rw [aD,eg,bF,aa,aa];rfl
  rintro DW σ Mr acc hDW ⟨v0,rfl,sB,VM,al,rfl⟩;have hW:Mr DW=some (.lst [.int (sW Ap (mD ws a)),.int (sW Ap (mD ws b)),.int (sW Ap (mD ws e)),.int (sW Ap (mD ws cc))]):=VM;have W6:=s9.trans sB;obtain ⟨le1,le2⟩:=two.less pc;have le3:=two.more pc;refine ⟨_,rfl,DW,_,_,_,rfl,rfl,AV.of hW,rfl,_,rfl,DW,_,_,_,rfl,rfl,AV.of hW,rfl,_,rfl,DW,_,_,_,rfl,rfl,AV.of hW,rfl,_,_,rfl,_,_,rfl,rfl,_,rfl,?_⟩;refine BB (fun z=>by have:=of_decide_eq_true z; split at this <;> lia) (fun _=>?_);refine ⟨_,rfl,DW,_,_,_,rfl,rfl,AV.of hW,rfl,_,rfl,DW,_,_,_,rfl,rfl,AV.of hW,rfl,_,_,rfl,rfl,_,rfl,DW,_,_,_,rfl,rfl,AV.of hW,rfl,_,rfl,DW,_,_,_,rfl,rfl,AV.of hW,rfl,_,_,rfl,rfl,_,_,rfl,rfl,_,rfl,?_⟩;refine BB (fun z=>by have:=of_decide_eq_true z; lia) (fun _=>?_);refine ⟨_,rfl,c,m,n,xs,ws,Am,Ap,.non,d,rfl,cw.same (PR.trans W6),l6,fun Js v kf W7 kn ib=>?_⟩;have bf:=ib.bst pc;obtain ⟨tv,lv,rfl,RB,WN⟩:=kn;refine ⟨tv,_,_,_,rfl,rfl,A2.of RB,rfl,?_⟩;refine ⟨_,rfl,_,rfl,_,rfl,_,rfl,(by show 4<=sizeLine; lia),fun Q5 hQ5=>?_⟩;have Mu:=(W6.trans W7).trans (Af (o:=.lst [.ref o1,.ref o2,.ref E,.ref C0]) hQ5);have VJ:(upd Js Q5 (.lst [.ref o1,.ref o2,.ref E,.ref C0])) Q5=some (.lst [.ref o1,.ref o2,.ref E,.ref C0]):=Ab;generalize upd Js Q5 (.lst [.ref o1,.ref o2,.ref E,.ref C0])=Qb at Mu VJ ⊢;refine ⟨Q5,rfl,⟨_,AV.of VJ⟩,?_⟩;refine Gx (xs:=[V.ref o1,.ref o2,.ref E,.ref C0]) (fun _ σ H'=>∃ v7 v8:Option V,σ=[some (.ref c),some (.ref o1),some (.ref o2),some (.ref E),some (.ref C0),some (.ref DW),some (.int kf.1),v7,v8]/\AD Qb H') ⟨_,_,rfl,AD.refl _⟩ (fun i σ H' _ ⟨_,_,_,sD⟩=>AV.of (sD _ _ VJ)) ?_ ?_
  ·rintro i v σ W2 hv ⟨v7,v8,rfl,sD⟩ rt bk N hN;obtain ⟨o,g,rfl,eg,hg,og⟩:=four i v hv;have sE:=Mu.trans sD;have low:=bf.any pc og;refine ⟨_,rfl,_,rfl,c,o,m,n,xs,g,ws,Am,Ap,.non,d,rfl,cw.same (PR.trans sE),sE _ _ hg,ox og,og,bnd (ox og),fun H14 gs Wn gg=>?_⟩;rw [pc.ways og.1 (ox og).2.2 gg];have sF:=sE.trans Wn;refine ⟨_,rfl,_,rfl,_,rfl,c,o,m,n,xs,g,ws,Am,Ap,.non,d,rfl,cw.same (PR.trans sF),sF _ _ hg,og,fun ZQ QM=>?_⟩;have sG:=sF.trans QM;refine ⟨_,rfl,_,rfl,c,o,m,n,xs,g,ws,Am,Ap,.non,d,rfl,cw.same (PR.trans sG),sG _ _ hg,ox og,bnd (ox og),fun ZP gs' Wm gg'=>⟨_,_,rfl,rfl,rfl,_,rfl,?_⟩⟩;rw [pc.ways og.1 (ox og).2.2 gg',decide_eq_true rfl];refine R6 ?_;refine ⟨_,rfl,_,rfl,_,_,rfl,rfl,_,rfl,?_⟩;refine BB (fun z=>?_) (fun _=>hN _ _ ⟨_,_,rfl,((sD.trans Wn).trans QM).trans Wm⟩);have z':=of_decide_eq_true z;unfold Jn sm at low;lia
  ·rintro σ W2 ⟨v7,v8,rfl,sD⟩;exact k W2 (PR.trans (Mu.trans sD))
end
section
variable {P:Program} {w:World} {K:ZV} {mg:Str->Option Value} {base:Heap}
theorem Jj (h_len:mg "len"=none) (h_range:mg "range"=none) (h_repr:mg "repr"=none) {fB:Addr} {fdB:FuncData} (XB:Fn K mg "plain_best" B9 ["case"] fB fdB) (GB:AG P w K mg base BD 6 fB fdB ["case"] F6) {fC:Addr} {fdC:FuncData} (XC:Fn K mg "cost" HR ["case","opening"] fC fdC) (GC:AG P w K mg base BD 5 fC fdC ["case","opening"] M8) {f:Addr} {fd:FuncData} (F:DP K "_law_limits" "_law_limits" CN f fd):AG P w K mg base BD 7 f fd ["_law_case_here"] NC:=by
 refine F.ok Fc (fun vs H Q E h=>?_) (fun Cf A outer s H vs Q E hr h=>?_)
 ·obtain ⟨c,m,n,xs,ws,Am,Ap,x,d,rfl,_⟩:=h;rfl
 ·obtain ⟨c,m,n,xs,ws,Am,Ap,x,d,rfl,cw,l6,k⟩:=h;have nd:=Fc.nd;have Fu:=hr.units;have big:100000 < sizeLine:=by decide
  refine ⟨_,(Ag (As (i:=1) nd rfl (Or.inl rfl) (Aj GB (hr.mono (by decide)) (by rfl) XB.mg XB.F.kp XB.b .nil Ax (Aa (AX (Aa (Al (Ai K rfl) (pv 0) Ad (fun _ _=>rfl)) (Aa (Al (Ai K rfl) (pv 0) Ad (fun _ _=>rfl)) (Aa (Al (Ai K rfl) (pv 0) Ad (fun _ _=>rfl)) (Aa MM Ac))))) Ac)))
  (Ag (FF (ix:=2) (N:=["_law_k","_law_case_here"]) (σ0:=fun σ=>[none,some 0].map fun j=>j.bind fun j=>(σ[j]?).join) nd rfl (Or.inl rfl) rfl (AE.caught (by rfl) (by decide +kernel) rfl (by decide +kernel) (by intro y hy; simp only [ZU,af,or_false] at hy; rcases hy with rfl <;> rfl)
   (by intro y hy e; simp only [ZU,af,or_false] at hy; rcases hy with rfl | rfl | rfl | rfl <;> first | exact ⟨_,rfl⟩ | cases e)) (fun σ _=>Ba.of [none,some 0] rfl (by
   intro i j x h1 h2;match i,h1,h2 with
   | 0,_,h2=>cases h2
   | 1,h1,h2=>cases h1; cases h2; exact ⟨rfl,.inl rfl,.inl rfl⟩
   | n + 2,h1,_=>cases h1)) (BQ (by rfl) h_range (Aa (Aw AY (Aq (AS K rfl) (by rfl) h_len PySem.boot_len (Aa (Al (Ai K rfl) (pv 0) Ad (fun _ _=>rfl)) Ac)) Ad) Ac))
   (fun s2 H C fp=>⟨(Ak (i:=0) (show (["_law_k","_law_case_here"]:List Str).Nodup by decide +kernel) rfl (Or.inl rfl)),Bc,(Aj GB (hr.mono (by decide)) (by rfl) XB.mg XB.F.kp XB.b .nil Ax (Aa (AX (Aa (Al (Ai K rfl) (pv 1) Ad (fun _ _=>rfl)) (Aa (Al (Ai K rfl) (pv 1) Ad (fun _ _=>rfl)) (Aa (Al (Ai K rfl) (pv 1) Ad (fun _ _=>rfl)) (Aa (Aw AY Ad (pv 0)) Ac))))) Ac))⟩))
  (Ag (Cw PassesOwn.never rfl (BQ (by rfl) h_range (Aa (Aq (AS K rfl) (by rfl) h_len PySem.boot_len (Aa (pv 2) Ac)) Ac)) (Ak (i:=3) nd rfl (Or.inl rfl))
  (Ag (Co (HV (AZ Et (Aq (AS K rfl) (by rfl) h_len PySem.boot_len (Aa (Al (Ai K rfl) (Al (A7 K rfl) (pv 2) (pv 3) (fun _ _=>rfl)) Ad (fun _ _=>rfl)) Ac)) (Aw AY Ad (pv 3)) (AJ _)) (HV (AZ GK (Al (Ai K rfl) (Al (A7 K rfl) (pv 2) (pv 3) (fun _ _=>rfl)) Ad (fun _ _=>rfl)) (Al (Ai K rfl) (pv 1) Ad (fun _ _=>rfl)) (AJ _)) (HU (MF (AZ Et (pv 3) Ad (AJ _)) (Kq (AZ Et (Al (Ai K rfl) (Al (A7 K rfl) (pv 2) (pv 3) (fun _ _=>rfl)) Ad (fun _ _=>rfl)) (Al (Ai K rfl) (Al (A7 K rfl) (pv 2) (Aw MN (pv 3) Ad) (fun _ _=>rfl)) Ad (fun _ _=>rfl)) (AJ _)))).pt))).pt
  (Ao (AB Es))
  Bs)
  (Ao (Co (AZ NV (Aj GC (hr.mono (by decide)) (by rfl) XC.mg XC.F.kp XC.b .nil Ax (Aa (AX (Aa (Al (Ai K rfl) (pv 0) Ad (fun _ _=>rfl)) (Aa (Al (Ai K rfl) (pv 0) Ad (fun _ _=>rfl)) (Aa (Al (Ai K rfl) (pv 0) Ad (fun _ _=>rfl)) (Aa (Aw AY Ad (pv 3)) Ac))))) (Aa (Al (Ai K rfl) (Al (A7 K rfl) (pv 2) (pv 3) (fun _ _=>rfl)) Ad (fun _ _=>rfl)) Ac))) (Al (Ai K rfl) (Al (A7 K rfl) (pv 2) (pv 3) (fun _ _=>rfl)) Ad (fun _ _=>rfl)) (AJ _))
  (Ao (AB Es))
  Bs))))
  (Ao (AB (Rk (BZ Fe (Aq (C1 hr.gd Fu) (by rfl) h_repr PyProof.Rows.boot_repr (Aa (Al (A7 K rfl) (pv 2) (Uz Qn Ad) (fun _ _=>rfl)) Ac)) (Aq (C1 hr.gd Fu) (by rfl) h_repr PyProof.Rows.boot_repr (Aa (pv 1) Ac)) (AJ _)) (ML (BZ Fe (Aq (C1 hr.gd Fu) (by rfl) h_repr PyProof.Rows.boot_repr (Aa (Al (A7 K rfl) (pv 2) (Uz Qn Ad) (fun _ _=>rfl)) Ac)) (Aq (C1 hr.gd Fu) (by rfl) h_repr PyProof.Rows.boot_repr (Aa (pv 1) Ac)) (AJ _))))))))),?_⟩
  obtain ⟨t1,t2,Cv,F3,hc,EV,Eu,FO,hd2⟩:=cw.ex;have Sh:=Bl Eu;have pc:=cw.pc;refine ⟨_,rfl,c,_,_,_,rfl,rfl,A2.of hc,rfl,_,rfl,c,_,_,_,rfl,rfl,A2.of hc,rfl,_,rfl,c,_,_,_,rfl,rfl,A2.of hc,rfl,(by show 4<=sizeLine; lia),fun c0 Zx=>?_⟩;have s0:=Af (o:=.tup [.ref m,.ref t1,.ref t2,.non]) Zx;have Yv:=(cw.same s0).lim' (c2:=c0) (x':=.non) (d':=.none) Ab (s0 _ _ EV) (Ar Eu fun b ys z=>s0 _ _ z) (s0 _ _ FO) (Ar hd2 fun b ys z=>s0 _ _ z) (.inl ⟨rfl,rfl⟩);refine ⟨c0,m,n,xs,ws,Am,Ap,.non,.none,rfl,Yv,l6,fun H1 vf kf s1 knf ibf=>?_⟩;have MD:=s0.trans s1;have bf:=ibf.bst pc;have Zw:=MD _ _ hc;have ZK:=cw.same MD;have V9:=MD _ _ EV;have WU:=MD _ _ FO;have XQ:((Cv.length:Int) + 1) < 2 ^ 62:=cx (show (Cv.length:Int) + 1<=100 by lia) (by decide);have rn:((Cv.length:Int) + 1).toNat=Cv.length + 1:=by lia
  refine ⟨_,rfl,c,_,_,_,rfl,rfl,A2.of Zw,rfl,t1,_,rfl,.inr (A2.of V9),_,_,rfl,rfl,_,rfl,cF (by decide) (show (0:Int)<=(Cv.length:Int) + 1 by lia),XQ,?_⟩;rw [rn];have t30:(1000:Int) < 10 ^ 30:=by decide
  refine QS (n:=Cv.length + 1) (fun D i σ H' acc=>∃ (v0:Option V) (ks:List (Int × List Str)),σ=[v0,some (.ref c)]/\AD H1 H'/\H' D=some (.lst acc)/\acc.length=i/\ks.length=i/\∀ (j:Nat) v k,acc[j]? = some v->ks[j]? = some k->Ox H' v k/\E4 ws Am Ap (.int (1 + (j:Int))) k)
   (by lia) (fun D hD=>⟨_,[],rfl,Af hD,Ab,rfl,rfl,fun j v k e=>by simp at e⟩) (fun D i σ H' acc hD ⟨_,ks,_,sa,Bg,al,_⟩=>⟨Bg,al⟩) ?_ ?_
  ·rintro D i σ H' acc B hD hi ⟨v0,ks,rfl,sa,Bg,al,kl,hm⟩ hB;have KC:=sa _ _ Zw;refine ⟨_,rfl,c,_,_,_,rfl,rfl,A2.of KC,rfl,_,rfl,c,_,_,_,rfl,rfl,A2.of KC,rfl,_,rfl,c,_,_,_,rfl,rfl,A2.of KC,rfl,_,rfl,_,_,rfl,rfl,(by show 4<=sizeLine; lia),fun c2 hcc=>?_⟩;have s2:=sa.trans (Af (o:=.tup [.ref m,.ref t1,.ref t2,.int (1 + (0 + (i:Int)))]) hcc);have RF:(upd H' c2 (.tup [.ref m,.ref t1,.ref t2,.int (1 + (0 + (i:Int)))])) c2=some (.tup [.ref m,.ref t1,.ref t2,.int (1 + (0 + (i:Int)))]):=Ab;have KZ:=Af (o:=.tup [.ref m,.ref t1,.ref t2,.int (1 + (0 + (i:Int)))]) hcc _ _ Bg;have sA:=Af (o:=.tup [.ref m,.ref t1,.ref t2,.int (1 + (0 + (i:Int)))]) hcc;generalize upd H' c2 (.tup [.ref m,.ref t1,.ref t2,.int (1 + (0 + (i:Int)))])=H2 at s2 RF KZ sA ⊢;have ZJ:=(ZK.same s2).lim' (c2:=c2) (x':=.int (1 + (0 + (i:Int)))) (d':=.int (1 + (0 + (i:Int)))) RF (s2 _ _ V9) (Ar Eu fun b ys z=>s2 _ _ (MD _ _ z)) (s2 _ _ WU) (Ar hd2 fun b ys z=>s2 _ _ (MD _ _ z)) (.inr ⟨_,rfl,rfl,by lia,by lia⟩);refine ⟨c2,m,n,xs,ws,Am,Ap,_,_,rfl,ZJ,l6,fun H3 v k3 s3 kn ib=>?_⟩;have bk:=ib.bst pc;rw [bQ] at bk;have GZ:=s3 _ _ KZ;refine hB _ _ _ GZ ⟨_,ks ++ [k3],rfl,fun b o' z=>by rw [Ae (Ah z hD)]; exact s3 _ _ (s2 _ _ z),Ab,by rw [ZY,al]; rfl,by rw [ZY,kl]; rfl,fun j v' k' e1 e2=>?_⟩;have tk:∀ b ys,H3 b=some (.tup ys)->(upd H3 D (.lst (acc ++ [v]))) b=some (.tup ys):=fun b ys z=>by rw [Ae (B8 z GZ (fun q=>by cases q))]; exact z
   by_cases hj:j < i
   ·rw [aY (by lia)] at e1 e2;obtain ⟨z1,z2⟩:=hm j v' k' e1 e2;exact ⟨z1.same fun b ys z=>tk _ _ (s3 _ _ (sA _ _ z)),z2⟩
   ·have Zj:=(ag.mp e1).1;rw [ZY,bo] at Zj;have:j=i:=by lia
    subst this;rw [aP (by lia),al,dX] at e1;rw [aP (by lia),kl,dX] at e2;cases e1
    cases e2
    exact ⟨kn.same tk,bk⟩
  ·rintro D σ H3 acc hD ⟨v0,ks,rfl,sa,Bg,al,kl,hm⟩;have cw3:=ZK.same sa;have get:∀ j,j < Cv.length + 1->∃ v k,acc[j]? = some v/\ks[j]? = some k/\Ox H3 v k/\E4 ws Am Ap (.int (1 + (j:Int))) k:=fun j hj=>⟨acc[j]'(by lia),ks[j]'(by lia),ZS _,ZS _,hm j _ _ (ZS _) (ZS _)⟩
   have b62:((acc.length:Nat):Int) < 2 ^ 62:=cx (show (acc.length:Int)<=100 by lia) (by decide);refine ⟨_,rfl,D,_,rfl,.inl (AV.of Bg),_,rfl,cF (by decide) (Int.natCast_nonneg _),b62,?_⟩;rw [dE];refine Di (n:=acc.length) (fun _ σ H'=>∃ v3,σ=[some (.ref c),some vf,some (.ref D),v3]/\AD H3 H') ⟨_,rfl,AD.refl _⟩ ?_ ?_
   ·rintro j σ H4 hj ⟨v3,rfl,s4⟩ rt bk' N hN;obtain ⟨v,kk,ev,ek,kn,bk⟩:=get j (by lia);obtain ⟨tf,lf,rfl,hf1,hf2⟩:=knf;obtain ⟨tv,lv,rfl,RB,WN⟩:=kn;have Sn:=s4 _ _ Bg;have R9:=s4 _ _ RB;have WM:=s4 _ _ WN;have Zl:=s4 _ _ (sa _ _ hf1);have UH:Ff acc (0 + (j:Int))=some (.ref tv):=by rw [bQ]; exact Cs ev
    have lm:=bk.op.2.2;have lm2:(kk.2.length:Int)<=1 + (j:Int):=of_decide_eq_true lm;have m1:kf.1<=kk.1:=bf.mono bk fun zs o=>⟨⟨o.1,o.2.1,rfl⟩,fun _ _=>rfl⟩
    refine ⟨_,rfl,_,rfl,D,_,_,_,rfl,rfl,AV.of Sn,UH,tv,_,_,_,rfl,rfl,A2.of R9,rfl,lv,_,rfl,.inr (A2.of WM),_,rfl,_,_,rfl,rfl,_,_,rfl,rfl,_,rfl,?_⟩;refine BB (fun z=>by have:=of_decide_eq_true z; rw [ZR] at this; lia) (fun _=>?_);refine ⟨_,rfl,_,rfl,D,_,_,_,rfl,rfl,AV.of Sn,UH,tv,_,_,_,rfl,rfl,A2.of R9,rfl,_,rfl,tf,_,_,_,rfl,rfl,A2.of Zl,rfl,_,_,rfl,rfl,_,rfl,?_⟩;refine BB (fun z=>by have:=of_decide_eq_true z; lia) (fun _=>?_);refine ⟨_,rfl,_,_,rfl,rfl,_,rfl,?_⟩;have third:∀ {P1:Prop} {P2:Prop},(decide ((0:Int) + (j:Int) > 0)=true->P1)->(¬ decide ((0:Int) + (j:Int) > 0)=true->P2)->if decide ((0:Int) + (j:Int) > 0)=true then P1 else P2:=fun a b=>BB a b
    have dupG:∀ {G P:Prop},(G->P)->G->P:=fun f g=>f g
    refine dupG (fun S=>third (fun hp=>?_) (fun _=>R6 S)) ?_
    ·have hj1:0 < j:=by have:=of_decide_eq_true hp; lia
     obtain ⟨u,ku,eu,eku,knu,bu⟩:=get (j - 1) (by lia);obtain ⟨tu,lu,rfl,Yl,Zd⟩:=knu;have Ze:=s4 _ _ Yl;have Yw:Ff acc (0 + (j:Int) - 1)=some (.ref tu):=by
      rw [show (0:Int) + (j:Int) - 1=((j - 1:Nat):Int) by lia];exact Cs eu
     have m2:kk.1<=ku.1:=bk.mono bu fun zs o=>⟨⟨o.1,o.2.1,decide_eq_true (by have:=of_decide_eq_true o.2.2; lia)⟩,fun _ _=>rfl⟩
     refine ⟨_,rfl,_,rfl,D,_,_,_,rfl,rfl,AV.of Sn,UH,tv,_,_,_,rfl,rfl,A2.of R9,rfl,_,rfl,_,rfl,_,_,rfl,rfl,D,_,_,_,rfl,rfl,AV.of Sn,Yw,tu,_,_,_,rfl,rfl,A2.of Ze,rfl,_,_,rfl,rfl,_,rfl,?_⟩;exact BB (fun z=>by have:=of_decide_eq_true z; lia) (fun _=>S)
    have VD:=s4 _ _ (sa _ _ Zw);refine ⟨_,rfl,c,_,_,_,rfl,rfl,A2.of VD,rfl,_,rfl,c,_,_,_,rfl,rfl,A2.of VD,rfl,_,rfl,c,_,_,_,rfl,rfl,A2.of VD,rfl,_,rfl,_,_,rfl,rfl,(by show 4<=sizeLine; lia),fun c2 hcc=>?_⟩;have sA:=Af (o:=.tup [.ref m,.ref t1,.ref t2,.int (1 + (0 + (j:Int)))]) hcc;have RF:(upd H4 c2 (.tup [.ref m,.ref t1,.ref t2,.int (1 + (0 + (j:Int)))])) c2=some (.tup [.ref m,.ref t1,.ref t2,.int (1 + (0 + (j:Int)))]):=Ab;generalize upd H4 c2 (.tup [.ref m,.ref t1,.ref t2,.int (1 + (0 + (j:Int)))])=H5 at sA RF ⊢;have QM:=(sa.trans s4).trans sA;have ZJ:=(ZK.same QM).lim' (c2:=c2) (x':=.int (1 + (0 + (j:Int)))) (d':=.int (1 + (0 + (j:Int)))) RF (QM _ _ V9) (Ar Eu fun b ys z=>QM _ _ (MD _ _ z)) (QM _ _ WU) (Ar hd2 fun b ys z=>QM _ _ (MD _ _ z)) (.inr ⟨_,rfl,rfl,by lia,by lia⟩);have sx:=bk.op.sx pc;have on:KP (Am.map (·.1)) kk.2:=⟨bk.op.1,bk.op.2.1.nodup cw.ok1.nd,fun s hs=>bk.op.2.1.subset hs⟩
    refine ⟨_,rfl,_,rfl,D,_,_,_,rfl,rfl,AV.of (sA _ _ Sn),UH,tv,_,_,_,rfl,rfl,A2.of (sA _ _ R9),rfl,c2,lv,m,n,xs,kk.2,ws,Am,Ap,_,_,rfl,ZJ,sA _ _ WM,⟨bk.op.1,on.2.1,sx⟩,on,fun gs g q hq=>?_,fun H6 gs s6 g=>?_⟩
    ·obtain ⟨i,hi,rfl⟩:=aF hq;obtain ⟨r,FP⟩:∃ r,Ap[i]? = some r:=⟨_,ZS (by rw [<-g.1]; exact hi)⟩
     obtain ⟨_,⟨z1,z2⟩,z3⟩:=g.2 i _ _ FP (ZS hi);have dd:Gg ws gs[i].2.1 r.1 gs[i].2.2:=⟨z2,fun mm gg=>by
      rcases z3 _ z1 mm gg with z | ⟨z,_⟩
      ·exact du z
      ·exact eM z⟩
     have:=cw.map.bound cw.n1 cw.n30 (sx _ z1) (cw.ok2.sub _ (ZW FP)) dd;exact ⟨dA Rp this.1,this.2⟩
    have eq:=pc.ways bk.op.1 sx g;have ec:(kk.2.map (A1 Am)).sum + (gs.map fun g=>A1 Ap g.1 * g.2.2).sum=kk.1:=by
     rw [eq,bk.is]; rfl
    refine ⟨_,rfl,_,rfl,D,_,_,_,rfl,rfl,AV.of (s6 _ _ (sA _ _ Sn)),UH,tv,_,_,_,rfl,rfl,A2.of (s6 _ _ (sA _ _ R9)),rfl,rfl,_,rfl,?_⟩;refine BB (fun z=>?_) (fun _=>hN _ _ ⟨_,rfl,(s4.trans sA).trans s6⟩);rw [ec,decide_eq_true rfl] at z;cases z
   ·rintro σ H4 ⟨v3,rfl,s4⟩;have one:=cw.ok1.one;have free:∀ j k,Cv.length<=j + 1->E4 ws Am Ap (.int (1 + (j:Int))) k->k=kf:=fun j k hj b=>b.congr bf fun zs=>by
     constructor
     ·exact fun o=>⟨o.1,o.2.1,rfl⟩
     ·exact fun o=>⟨o.1,o.2.1,decide_eq_true (by have:=o.2.1.length_le; rw [ZR] at this; lia)⟩
    obtain ⟨va,ka,ea,eka,kna,ba⟩:=get Cv.length (by lia);obtain ⟨vb,kb,eb,ekb,knb,bb⟩:=get (Cv.length - 1) (by lia);have ia:Ff acc (-1)=some va:=by
     obtain ⟨v,z1,z2⟩:=TU (xs:=acc) (fun z=>by rw [z] at al; simp at al);rw [al,Nat.add_sub_cancel,ea] at z2;cases z2
     exact z1
    have ib:Ff acc (-2)=some vb:=by
     have e:Pg acc.length (-2)=some (Cv.length - 1):=by
      unfold Pg;rw [if_neg (by decide),if_pos (by lia)];congr 1;lia
     unfold Ff;rw [e];exact eb
    have e1:=free _ _ (by lia) ba;have e2:=free _ _ (by lia) bb;subst e1;subst e2;obtain ⟨_,_,bnd,fi,bl⟩:=bf.fine cw;have dp:=fi.dp;have ln:=fi.len (by lia);obtain ⟨a1,rfl,d1⟩:=(kna.same fun b ys z=>s4 _ _ z).dat;obtain ⟨a2,rfl,d2⟩:=(knb.same fun b ys z=>s4 _ _ z).dat;obtain ⟨a3,rfl,d3⟩:=(knf.same fun b ys z=>s4 _ _ (sa _ _ z)).dat;have Sn:=s4 _ _ Bg;refine ⟨_,rfl,_,rfl,D,_,_,_,rfl,rfl,AV.of Sn,ia,a1,_,rfl,d1,fi.sho,fi.nod,by lia,ln,_,rfl,a3,_,rfl,d3,fi.sho,fi.nod,by lia,ln,rfl,_,rfl,?_⟩;refine BB (fun _=>?_) (fun z=>absurd (decide_eq_true rfl) z);refine ⟨_,rfl,_,rfl,D,_,_,_,rfl,rfl,AV.of Sn,ib,a2,_,rfl,d2,fi.sho,fi.nod,by lia,ln,_,rfl,a3,_,rfl,d3,fi.sho,fi.nod,by lia,ln,rfl,?_⟩;rw [decide_eq_true rfl];exact k H4 (MD.trans (sa.trans s4))
end
section
variable {P:Program} {w:World} {K:ZV} {mg:Str->Option Value} {base:Heap}
theorem Ih {f:Addr} {fd:FuncData} (F:DP K "neighbours" "neighbours" CM f fd):AG P w K mg base BD 1 f fd ["web"] (Q0 K):=by
 refine F.ok Fb (fun vs H Q E h=>?_) (fun Cf A outer s H vs Q E hr h=>?_)
 ·obtain ⟨q,ps,ws,r,rfl,_⟩:=h;rfl
 ·obtain ⟨q,ps,ws,r,rfl,ok,k⟩:=h;obtain ⟨tp,tw,us,hq,htp,htw,hD⟩:=ok.web.ex;have nd:=Fb.nd;have hu:=ED hr;have big:1000 < sizeLine:=by decide
  have l30:=ok.l30;have l64:=ok.l64;refine ⟨_,Ag (Ee (pv 0) (BH K rfl rfl (Av (Ak (i:=1) nd rfl (Or.inl rfl)) (Av (Ak (i:=2) nd rfl (Or.inl rfl)) B5))))
   (Ag (QZ (ix:=3) (N:=["place"]) (σ0:=fun _=>[none]) nd rfl (Or.inl rfl) rfl (AE.plain (by decide +kernel) (by decide +kernel) rfl (by decide +kernel)) (fun σ _=>Ba.none _ _ _ ["place"] σ) (B0 K rfl (pv 1))
    (fun s2 H C fp=>⟨Ak (i:=0) (show (["place"]:List Str).Nodup by decide +kernel) rfl (Or.inl rfl),Bc,pv 0,LB⟩))
   (Ag (Cw PassesOwn.never rfl (B0 K rfl (pv 2)) (BH K rfl rfl (Av (Ak (i:=4) nd rfl (Or.inl rfl)) (Av (Ak (i:=5) nd rfl (Or.inl rfl)) (Av (Ak (i:=6) nd rfl (Or.inl rfl)) B5))))
    (Ag (Du hu (B6 hu (pv 3) (pv 4) (fun _ _=>rfl)) (pv 5) (pv 6) rfl) (Ao (Du hu (B6 hu (pv 3) (pv 5) (fun _ _=>rfl)) (pv 4) (pv 6) rfl))))
   (Ao (AB (pv 3))))),?_⟩
  refine ⟨_,rfl,q,_,rfl,A2.of hq,rfl,_,_,rfl,_,_,rfl,rfl,?_⟩;refine ⟨_,rfl,tp,rfl,⟨_,A2.of htp⟩,fun C hC=>⟨fun i m A8 H'=>m=ps.length - i/\i<=ps.length/\(∃ v,A8=[v])/\∃ ds:List Addr,AD H H'/\ds.length=i/\ds.Nodup/\C ∉ ds/\(∀ d ∈ ds,H d=none/\H' d=some (.dK []))/\H' C=some (.dK (sK (Oa (ps.take i) ds))),
   ⟨_,rfl,aH _,⟨_,rfl⟩,[],Af hC,rfl,.nil,by simp,by simp,Ab⟩,?_⟩⟩
  rintro i m A8 H' ⟨rfl,hi,⟨v,rfl⟩,ds,s1,dl,dn,dC,dH,Oi⟩;have Nb:=s1 _ _ htp;by_cases BE:i < ps.length
  ·refine .inr ⟨⟨_,V.str ps[i],A2.of Nb,by rw [ai,ZS BE]; rfl⟩,?_⟩;rintro x H6 ⟨rfl,hx⟩;have JE:=hx _ (A2.of Nb);rw [ai,ZS BE] at JE;cases JE
   have tl:(ps.take i).length=i:=by rw [aO]; lia
   have np:ps[i] ∉ (Oa (ps.take i) ds).map (·.1):=by
    rw [Im (by lia)];intro hm;obtain ⟨j,hj,e⟩:=aF hm;rw [cM] at e;have:=GQ ok.nd (ZS (show j < ps.length by lia)) (by rw [ZS BE,e]);lia
   refine ⟨_,rfl,fun d hd=>⟨_,Sum.inr ps[i],rfl,Af hd _ _ Oi,?_,_,by lia,rfl,BE,⟨_,rfl⟩,ds ++ [d],fun b o z=>?_,by simp [dl],?_,?_,fun c hc=>?_,?_⟩⟩
   ·rw [CJ];unfold Oa;rw [ZR,dW];lia
   ·rw [Ae (Ah z hC)];exact Af hd _ _ (s1 _ _ z)
   ·refine b8.mpr ⟨dn,br.mpr ⟨by simp,.nil⟩,fun a ha b hb=>?_⟩;have e:b=d:=by simpa using hb
    subst e;rintro rfl;rw [(dH _ ha).2] at hd;cases hd
   ·rw [aG,not_or];refine ⟨dC,fun hm=>?_⟩;have e:C=d:=by simpa using hm
    rw [<-e,Oi] at hd;cases hd
   ·rcases aG.mp hc with hc | hc
    ·refine ⟨(dH c hc).1,?_⟩;rw [Ae (fun z=>dC (by rw [<-z]; exact hc))];exact Af hd _ _ (dH c hc).2
    ·have e:c=d:=by simpa using hc
     subst e;refine ⟨s1.free hd,?_⟩;rw [Ae (fun z=>by rw [z,Oi] at hd; cases hd)];exact Ab
   ·rw [Ab,CZ np];have e1:ps.take (i + 1)=ps.take i ++ [ps[i]]:=by rw [aD,ZS BE]; rfl
    have e2:Oa (ps.take (i + 1)) (ds ++ [d])=Oa (ps.take i) ds ++ [(ps[i],.ref d)]:=by
     unfold Oa;rw [e1,List.zip_append (by lia),aa];rfl
    rw [e2]
  ·have e0:i=ps.length:=by lia
   subst e0;rw [aL] at Oi;refine .inl ⟨⟨_,A2.of Nb,by rw [ZR]; exact ZX _⟩,?_⟩;have NB0:NB H' C ps ds (Lb (ws.take 0)) 0:=⟨Oi,dl,dn,dC,fun j p d e1 e2=>⟨[],(dH d (ZW e2)).2,ZX _,fun y=>⟨fun z=>absurd z af,fun ⟨u,hu,_⟩=>absurd hu af⟩⟩⟩
   have ZO:Sq H' ps ds (BP (ws.take 0)):=fun j p d nv e1 e2 hr y v hy=>by
    have:nv=[]:=Rd.inj hr (.inl (dH d (ZW e2)).2);subst this;cases hy
   have hwl:us.length=ws.length:=by rw [FR hD,ZR]
   refine ⟨_,rfl,tw,rfl,⟨_,A2.of (s1 _ _ htw)⟩,LX (xs:=us) (fun i σ H2=>(∃ v4 v5 v6,σ=[some (.ref q),some (.ref tp),some (.ref tw),some (.ref C),v4,v5,v6])/\AD H H2/\NB H2 C ps ds (Lb (ws.take i)) (2 * i)/\Sq H2 ps ds (BP (ws.take i))) ⟨⟨_,_,_,rfl⟩,s1,NB0,ZO⟩ (fun i σ H2 _ hP=>A2.of (hP.2.1 _ _ htw)) (fun i x σ H2 hx hP rt bk=>?_) (fun σ H2 hP=>?_)⟩
   ·obtain ⟨⟨v4,v5,v6,rfl⟩,s2,nb,nbv⟩:=hP;obtain ⟨u,t,gu,rfl,ht⟩:=DN hD hx;have Xd:i < ws.length:=(ag.mp gu).1;have Zd:=ok.ends u (ZW gu);refine ⟨t,_,rfl,A2.of (s2 _ _ ht),rfl,_,_,rfl,_,_,rfl,_,_,rfl,rfl,?_⟩;obtain ⟨j,d,nv,a1,a2,a3,a4,a5,a6⟩:=nb.get ok.nd Zd.1;obtain ⟨DL,b1,b2,b3⟩:=MC nv u.2.1 (.int u.2.2);have dH1:∀ c ∈ ds,H c=none:=fun c hc=>(dH c hc).1
    refine ⟨_,rfl,_,rfl,_,rfl,C,_,rfl,?_,_,rfl,d,_,rfl,Gd.k (k:=Sum.inr u.2.1) a4 (by rw [CJ]; lia),?_⟩
    ·have:=CK.k (k:=Sum.inr u.1) nb.top;rw [a3] at this;exact this
    rw [b1];have Jb:=nb.put ok.nd a1 a2 a4 b2 b3 a6 a5;have WE:=nbv.put ok.nd nb.nd a1 a2 a4 b1 (fun _ _ _=>Py) (LZ gu);have s3:AD H (upd H2 d (.dK (sK DL))):=fun b o z=>by
     rw [Ae (Ah z (dH1 d (ZW a2)))];exact s2 _ _ z
    generalize upd H2 d (.dK (sK DL))=H3 at Jb WE s3 ⊢;obtain ⟨j',d',mv,c1,c2,c3,c4,c5,c6⟩:=Jb.get ok.nd Zd.2;obtain ⟨mv',e1,e2,e3⟩:=MC mv u.1 (.int u.2.2);refine ⟨_,rfl,_,rfl,_,rfl,C,_,rfl,?_,_,rfl,d',_,rfl,Gd.k (k:=Sum.inr u.1) c4 (by rw [CJ]; lia),?_⟩
    ·have:=CK.k (k:=Sum.inr u.2.1) Jb.top;rw [c3] at this;exact this
    rw [e1];have nb3:=Jb.put ok.nd c1 c2 c4 e2 e3 c6 c5;have YJ:=WE.put (Ed':=BP (ws.take (i + 1))) ok.nd Jb.nd c1 c2 c4 e1 (fun _ _ _ h=>h) (LZ gu).symm;refine ⟨⟨_,_,_,rfl⟩,fun b o z=>?_,nb3.mono (fun a b=>(RW gu a b).symm) (by lia),YJ⟩;rw [Ae (Ah z (dH1 d' (ZW c2)))];exact s3 _ _ z
   ·obtain ⟨⟨v4,v5,v6,rfl⟩,s2,nb,nbv⟩:=hP;rw [hwl,aL] at nb nbv;exact ⟨_,rfl,k H2 C ds s2 (nb.mono (fun _ _=>Iff.rfl) (by lia)) nbv hC fun d hd=>(dH d hd).1⟩
end
section
variable {P:Program} {w:World} {K:ZV} {mg:Str->Option Value} {base:Heap}
structure NbF (K:ZV) (mg:Str->Option Value) (f:Addr) (fd:FuncData):Prop where
 F:DP K "neighbours" "neighbours" CM f fd
 mg:mg "neighbours"=some (.ref f)
 b:DO K fd ["web"] []
theorem Eg {f fN:Addr} {fd fdN:FuncData} (NK:NbF K mg fN fdN) (hmi:mg "min"=none) (F:DP K "nearest" "nearest" DH f fd):AG P w K mg base BD 2 f fd ["web","starts"] (M7 K):=by
 have GN:AG P w K mg base BD 1 fN fdN ["web"] (Q0 K):=Ih NK.F;refine F.ok HP (fun vs H Q E h=>?_) (fun Cf A outer s H vs Q E hr h=>?_)
 ·obtain ⟨q,st,ps,ss,ws,r,rfl,_⟩:=h;rfl
 ·obtain ⟨q,st,ps,ss,ws,r,rfl,ok,pos,uniq,hst,ssne,ssn,sssub,k⟩:=h;have nd:=HP.nd;have hu:=ED hr;have Fu:=hr.units;have big:1000 < sizeLine:=by decide
  have l30:=ok.l30;have ssl:ss.length<=30:=by
   have:=BY ssn sssub;lia
  refine ⟨_,Ag (As (i:=2) nd rfl (Or.inl rfl) (Aj GN hr (by rfl) NK.mg NK.F.kp NK.b .nil Ax (Aa (pv 0) Ac)))
   (Ag (As (i:=3) nd rfl (Or.inr rfl) (Ia (N:=["start"]) (σ0:=fun _=>[none]) rfl (AE.plain (by decide +kernel) (by decide +kernel) rfl (by decide +kernel)) (fun σ _=>Ba.none _ _ _ ["start"] σ) (PI.or (BX K rfl (pv 1)) (B0 K rfl (pv 1)))
    (fun s2 H C fp=>⟨Ak (i:=0) (show (["start"]:List Str).Nodup by decide +kernel) rfl (Or.inl rfl),Bc,pv 0,AX (Aa Ad (Aa (pv 0) Ac))⟩)))
   (Ag (As (i:=4) nd rfl (Or.inl rfl) LB)
   (Ag (QY PassesOwn.never (L7 (pv 3) (fun _=>rfl))
    (Ag (Ee (SR (Aq (IP rfl Fu) (by rfl) hmi PyProof.Rows.boot_min (Aa
      (Bt (N:=["name","reached"]) (σ0:=fun σ=>[none,some 3].map fun j=>j.bind fun j=>(σ[j]?).join) rfl
       (AE.caught (by rfl) (by decide +kernel) rfl (by decide +kernel) (by intro y hy; simp only [ZU,af,or_false] at hy; rcases hy with rfl <;> rfl)
        (by intro y hy e; simp only [ZU,af,or_false] at hy; rcases hy with rfl | rfl | rfl <;> first | exact ⟨_,rfl⟩ | cases e))
       (fun σ _=>Ba.of [none,some 3] rfl (by
        intro i j x h1 h2;match i,h1,h2 with
        | 0,_,h2=>cases h2
        | 1,h1,h2=>cases h1; cases h2; exact ⟨rfl,.inl rfl,.inl rfl⟩
        | n + 2,h1,_=>cases h1)) (NU (pv 3))
       (fun s2 H C fp=>⟨Ak (i:=0) (show (["name","reached"]:List Str).Nodup by decide +kernel) rfl (Or.inl rfl),Bc,AX (Aa (B6 hu (pv 1) (pv 0) (fun _ _=>rfl)) (Aa (pv 0) Ac))⟩)) Ac)))
      (BH K rfl rfl (Av (BH K rfl rfl (Av (Ak (i:=5) nd rfl (Or.inl rfl)) (Av (Ak (i:=6) nd rfl (Or.inl rfl)) B5))) (Av (Ak (i:=7) nd rfl (Or.inl rfl)) B5))))
    (Ag (SN (pv 3) (pv 7))
    (Ag (Du hu (pv 4) (pv 7) (AX (Aa (pv 5) (Aa (pv 6) Ac))) rfl)
    (Ao (Cw PassesOwn.never rfl (NU (B6 hu (pv 2) (pv 7) (fun _ _=>rfl))) (Ak (i:=8) nd rfl (Or.inl rfl))
     (Ao (Co (QW (OR hu (pv 8) (pv 4)))
      (Ag (As (i:=9) nd rfl (Or.inl rfl) (AX (Aa (Aw AY (pv 5) (B6 hu (B6 hu (pv 2) (pv 7) (fun _ _=>rfl)) (pv 8) (fun _ _=>rfl))) (Aa (pv 6) Ac))))
      (Ao (Du hu (pv 3) (pv 8) (Aq (Jp rfl Fu) (by rfl) hmi PyProof.Rows.boot_min (Aa (pv 9) (Aa (LC hu (pv 3) (pv 8) (pv 9) ⟨rfl,rfl,rfl,rfl⟩) Ac))) rfl))) Bs))))))))
   (Ao (AB (pv 4)))))),?_⟩
  refine ⟨_,rfl,q,ps,ws,r,rfl,ok,fun H1 B ds s1 nb nbv hB hds=>?_⟩;have nbAt:∀ a,a ∈ ds->∃ u,H1 a=some u:=fun a hm=>by
   obtain ⟨i,hi,e⟩:=aF hm;have Xd:i < ps.length:=by rw [<-nb.len]; exact hi
   obtain ⟨nv,a1,_⟩:=nb.inner i ps[i] a (ZS Xd) (by rw [ZS hi,e]);exact ⟨_,a1⟩
  have Wt:=nb.top;rcases hst with hst | hst
  case' inl=>
   refine .inl ⟨_,rfl,st,rfl,⟨_,AV.of (s1 _ _ hst)⟩,fun RA hRA=>?_⟩
  case' inr=>
   refine .inr ⟨_,rfl,st,rfl,⟨_,A2.of (s1 _ _ hst)⟩,fun RA hRA=>?_⟩
  all_goals
   refine ⟨fun i m A8 H'=>m=ss.length - i/\i<=ss.length/\(∃ v,A8=[v])/\∃ nv:List (Str × V),AD H1 H'/\H' RA=some (.dK (sK nv))/\nv.map (·.1)=ss.take i/\∀ y v,(y,v) ∈ nv->JU H' v (0,y),
    ⟨_,rfl,aH _,⟨_,rfl⟩,[],Af hRA,Ab,rfl,fun y v hy=>absurd hy af⟩,?_⟩
   rintro i m A8 H' ⟨rfl,hi,⟨v,rfl⟩,nv,s2,Oi,nk,np⟩;have Nc:=s2 _ _ (s1 _ _ hst);by_cases BE:i < ss.length
   ·refine .inr ⟨⟨_,V.str ss[i],by first | exact AV.of Nc | exact A2.of Nc,by rw [ai,ZS BE]; rfl⟩,?_⟩;rintro x H6 ⟨rfl,hx⟩;have JE:=hx _ (by first | exact AV.of Nc | exact A2.of Nc);rw [ai,ZS BE] at JE;cases JE
    have nn:ss[i] ∉ nv.map (·.1):=by
     rw [nk];intro hm;obtain ⟨j,hj,e⟩:=aF hm;rw [aO] at hj;rw [cM] at e;have:=GQ ssn (ZS (show j < ss.length by lia)) (by rw [ZS BE,e]);lia
    have nl:nv.length=i:=by
     have:=congrArg bH nk;rw [ZR,aO] at this;lia
    refine ⟨_,rfl,_,rfl,(by show 2<=sizeLine; lia),fun t ht=>⟨_,Sum.inr ss[i],rfl,Af ht _ _ Oi,by rw [CJ]; lia,_,by lia,rfl,BE,⟨_,rfl⟩,nv ++ [(ss[i],.ref t)],fun b o z=>?_,by rw [Ab,CZ nn],?_,fun y v hy=>?_⟩⟩
    ·rw [Ae (Ah z hRA)];exact Af ht _ _ (s2 _ _ z)
    ·rw [aa,nk,aD,ZS BE]; rfl
    ·have tk:∀ b xs,(upd H6 t (.tup [.int 0,.str ss[i]])) b=some (.tup xs)->(upd (upd H6 t (.tup [.int 0,.str ss[i]])) RA (.dK (Bq (sK nv) (Sum.inr ss[i]:AK) (.ref t)))) b=some (.tup xs):=fun b xs z=>by
      rw [Ae (B8 z (Af ht _ _ Oi) (by intro z; cases z))]; exact z
     rcases aG.mp hy with hy | hy
     ·exact (np y v hy).same fun b xs z=>tk b xs (Af ht _ _ z)
     ·simp only [ar,Prod.mk.injEq] at hy;obtain ⟨rfl,rfl⟩:=hy;exact ⟨t,rfl,tk _ _ Ab⟩
   ·have e0:i=ss.length:=by lia
    subst e0;rw [aL] at nk;refine .inl ⟨⟨_,by first | exact AV.of Nc | exact A2.of Nc,by rw [ZR]; exact ZX _⟩,fun SA hSA=>?_⟩;have sS:=Af (o:=.dK []) hSA;have aR:RA ∉ ds/\RA ≠ B/\RA ≠ SA/\H RA=none:=⟨(fun hm=>by obtain ⟨u,e⟩:=nbAt RA hm; rw [hRA] at e; cases e),(fun z=>by rw [z,Wt] at hRA; cases hRA),(fun z=>by rw [<-z,Oi] at hSA; cases hSA),s1.free hRA⟩
    have aS:SA ∉ ds/\SA ≠ B/\SA ≠ RA/\H SA=none:=⟨(fun hm=>by obtain ⟨u,e⟩:=nbAt SA hm; rw [s2 _ _ e] at hSA; cases hSA),(fun z=>by rw [z,s2 _ _ Wt] at hSA; cases hSA),(fun z=>aR.2.2.1 z.symm),(s1.trans s2).free hSA⟩
    have s3:AD H1 (upd H' SA (.dK [])):=s2.trans sS;have N0:NI H (upd H' SA (.dK [])) ps ws B RA SA ds nv [] (fun _ _=>False) (fun y p=>y ∈ ss/\p=(0,y)):=by
     refine ⟨s1.trans s3,nb.r.same s3,nbv.of nb.r (fun d _ nv z=>by rcases z with a | ⟨o,a⟩; exact .inl (s3 _ _ a); exact .inr ⟨o,s3 _ _ a⟩),sS _ _ Oi,Ab,⟨by rw [nk]; exact ssn,fun y v hy=>⟨(0,y),(np y v hy).same fun b xs z=>sS _ _ z,by rw [<-nk]; exact ZZ.mpr ⟨_,hy,rfl⟩,rfl⟩,fun y p hp=>?_⟩,⟨.nil,fun y v hy=>absurd hy af,fun y p hp=>hp.elim⟩,fun y hy=>sssub y (by rw [<-nk]; exact hy),fun y hy=>absurd hy af⟩;obtain ⟨hy,rfl⟩:=hp;rw [<-nk] at hy;obtain ⟨⟨z,v⟩,a,b⟩:=ZZ.mp hy;have b':z=y:=b;subst b';exact ⟨v,a,(np z v a).same fun b xs z=>sS _ _ z⟩
    have D0:Ui ws ss (fun _ _=>False) (fun y p=>y ∈ ss/\p=(0,y)):=⟨fun _ _ h=>h.elim,fun y p ⟨h1,h2⟩=>by subst h2; exact ⟨h1,.nil y⟩,fun _ _ _ _ h=>h.elim,fun s hs=>.inr ⟨(0,s),⟨hs,rfl⟩,D6.refl _⟩⟩
    clear Oi Nc np;generalize upd H' SA (.dK [])=H5 at N0 ⊢;refine ⟨fun m σ H2=>∃ nvR nvS S R v5 v6 v7 v8 v9,m=ps.length - nvS.length/\σ=[some (.ref q),some (.ref st),some (.ref B),some (.ref RA),some (.ref SA),v5,v6,v7,v8,v9]/\NI H H2 ps ws B RA SA ds nvR nvS S R/\Ui ws ss S R/\∀ y p,R y p->∀ q,¬ S y q,
     ⟨_,nv,[],_,_,_,_,_,_,_,rfl,rfl,N0,D0,fun _ _ _ _ h=>h⟩,?_⟩
    clear N0 D0 hSA sS s3 s2 nk;rintro m σ H2 ⟨nvR,nvS,S,R,v5,v6,v7,v8,v9,rfl,rfl,N,Dj,dis⟩;refine ⟨_,rfl,_,.inr (.inr ⟨_,N.dR,rfl⟩),?_⟩;by_cases hne:nvR=[]
    ·subst hne;refine R6 ?_;have all:∀ x ∈ ps,∃ q,S x q:=Dj.done (fun y p h=>by obtain ⟨v,a,_⟩:=N.pR.2.2 y p h; cases a) ssne ok.con (fun T x hx tx cl=>ok.con (fun z=>T z->T r) (fun h=>h) (fun a b hab h tb=>h (cl b a hab.symm tb)) x hx tx) sssub;refine ⟨_,rfl,k H2 SA nvS N.same aS.2.2.2 N.dS N.pS.1 (fun x=>⟨N.subS x,fun hx=>N.inS.mpr (all x hx)⟩) fun y v hy=>?_⟩;obtain ⟨p,h1,h2⟩:=N.pS.2.1 y v hy;exact ⟨p,h1,Dj.near y p h2⟩
    ·have Zh:(!(sK nvR).isEmpty)=true:=by cases nvR with
      | nil=>exact absurd rfl hne
      | cons=>rfl
     rw [Zh];refine Vy ?_;obtain ⟨NN,hNN⟩:∃ NN:St->Hp->Prop,NN=fun A8 H'=>∃ m',m' < ps.length - nvS.length/\∃ nvR nvS S R v5 v6 v7 v8 v9,m'=ps.length - nvS.length/\A8=[some (.ref q),some (.ref st),some (.ref B),some (.ref RA),some (.ref SA),v5,v6,v7,v8,v9]/\NI H H' ps ws B RA SA ds nvR nvS S R/\Ui ws ss S R/\∀ y p,R y p->∀ q,¬ S y q:=⟨_,rfl⟩
     refine ⟨NN,fun A8 H' z=>by rw [hNN] at z; exact z,?_⟩;have lR:=N.lenR;have lS:=N.lenS;refine ⟨_,rfl,RA,_,rfl,.inl N.dR,fun o H3 fz C hC=>?_⟩;have fz':H3=upd H2 RA (.frz o (.dK (sK nvR))):=by
      rcases fz with ⟨_,e⟩ | ⟨e,_⟩
      ·exact e
      ·rw [N.dR] at e; cases e
     have hR3:=fz.at;have Y6:∀ b xs,H2 b=some (.tup xs)->H3 b=some (.tup xs):=fun b xs z=>by
      rw [fz.ne (B8 z N.dR (by intro z; cases z))]; exact z
     refine ⟨fun i m A8 H'=>m=nvR.length - i/\i<=nvR.length/\(∃ v,A8=[v,some (.ref RA)])/\∃ (acc:List V) (ks:List ((Int × Str) × Str)),AD H3 H'/\H' C=some (.lst acc)/\acc.length=i/\ks.length=i/\(∀ (j:Nat) v k,acc[j]? = some v->ks[j]? = some k->UO H' v k)/\(∀ (j:Nat) y v,j < i->nvR[j]? = some (y,v)->∃ p,JU H3 v p/\ks[j]? = some (p,y)),
      ⟨_,rfl,aH _,⟨_,rfl⟩,[],[],Af hC,Ab,rfl,rfl,fun j v k h=>(by simp at h),fun j y v hj=>absurd hj (gI _)⟩,?_⟩
     rintro i m A8 H' ⟨rfl,hi,⟨v,rfl⟩,acc,ks,s4,Oi,al,kl,hky,hks⟩;have Xr:=s4 _ _ hR3;have nCR:RA ≠ C:=Ah hR3 hC;by_cases BE:i < nvR.length
     ·refine .inr ⟨⟨Xr,by rw [CJ]; exact BE⟩,?_⟩;rintro z H6 ⟨rfl,key,v2,ek,rfl⟩;obtain ⟨y,ey,rfl⟩:=Ut ek;have hm:=ZW ey;obtain ⟨p,hp,hRp⟩:=N.pR.2.1 y v2 hm;have hp3:=hp.same Y6;refine ⟨_,rfl,_,rfl,RA,v2,rfl,.inl ⟨_,Sum.inr y,.inr ⟨o,Xr⟩,rfl,(Cm N.pR.1 hm).symm⟩,_,rfl,(by show 2<=sizeLine; lia),fun t ht=>?_⟩;have st:=Af (o:=.tup [v2,.str y]) ht;have hC2:=st _ _ Oi;have tC:∀ b xs,(upd H6 t (.tup [v2,.str y])) b=some (.tup xs)->(upd (upd H6 t (.tup [v2,.str y])) C (.lst (acc ++ [.ref t]))) b=some (.tup xs):=fun b xs z=>by
       rw [Ae (B8 z hC2 (by intro z; cases z))]; exact z
      refine ⟨acc,hC2,by lia,_,by lia,rfl,BE,⟨_,rfl⟩,acc ++ [.ref t],ks ++ [(p,y)],fun b u z=>?_,Ab,by simp [al],by simp [kl],fun j v k h1 h2=>?_,fun j y' v' hj h=>?_⟩
      ·rw [Ae (Ah z hC)];exact st _ _ (s4 _ _ z)
      ·by_cases hj:j < acc.length
       ·rw [aY hj] at h1;rw [aY (by lia)] at h2;exact (hky j v k h1 h2).same fun b xs z=>tC b xs (st _ _ z)
       ·rw [aP (by lia)] at h1;rw [aP (by lia)] at h2;have j0:j - acc.length=0:=by
         have:=(ag.mp h1).1;simp at this;lia
        have j1:j - ks.length=0:=by lia
        rw [j0] at h1;rw [j1] at h2;cases h1
        cases h2
        obtain ⟨t2,e2,g2⟩:=hp3;subst e2;exact ⟨t,t2,rfl,tC _ _ Ab,t2,rfl,tC _ _ (st _ _ (s4 _ _ g2))⟩
      ·by_cases ej:j=i
       ·subst ej;rw [ey] at h;cases h
        exact ⟨p,hp3,by rw [aP (by lia),kl,dX]; rfl⟩
       ·obtain ⟨p',a1,a2⟩:=hks j y' v' (by lia) h;exact ⟨p',a1,by rw [aY (by lia)]; exact a2⟩
     ·have e0:i=nvR.length:=by lia
      subst e0;have ksne:ks ≠ []:=by
       intro z;rw [z] at kl;exact hne (dJ.mp kl.symm)
      refine .inl ⟨⟨Xr,by rw [CJ]; exact ZX _⟩,C,acc,ks,rfl,Oi,by lia,ksne,hky,fun v kk hk hKy hmin=>?_⟩;refine ⟨RA,o,sK nvR,Xr,fun ob w z=>?_,?_⟩
      ·have z':H RA=some (.frz ob w):=z;rw [aR.2.2.2] at z';cases z'
      obtain ⟨⟨d0,Ja⟩,here⟩:=kk;obtain ⟨t,t2,rfl,ht,t2',e2,FO⟩:=hKy;cases e2
      have t45:∀ b xs,H' b=some (.tup xs)->(upd H' RA (.dK (sK nvR))) b=some (.tup xs):=fun b xs z=>by
       rw [Ae (B8 z Xr (by intro z; cases z))]; exact z
      have s25:AD H2 (upd H' RA (.dK (sK nvR))):=fun b u z=>by
       by_cases eb:b=RA
       ·subst eb;rw [N.dR] at z;cases z
        exact Ab
       ·rw [Ae eb];refine s4 _ _ ?_;rw [fz.ne eb]; exact z
      have N5:=N.grow s25;have ht5:=t45 _ _ ht;have WT:=t45 _ _ FO;have inR:∀ j y p,ks[j]? = some (p,y)->R y p:=fun j y p h=>by
       have hj:j < nvR.length:=by
        have:=(ag.mp h).1;lia
       obtain ⟨p',a1,a2⟩:=hks j nvR[j].1 nvR[j].2 hj (ZS hj);rw [h] at a2;cases a2
       obtain ⟨p'',b1,b2⟩:=N.pR.2.1 _ _ (dI hj);rw [a1.fn (b1.same Y6)];exact b2
      have hRh:R here (d0,Ja):=by
       obtain ⟨j,hj,ej⟩:=aF hk;exact inR j here (d0,Ja) (by rw [ZS hj,ej])
      have least:∀ z p,R z p->D6 (d0,Ja) p:=fun z p hz=>by
       obtain ⟨v,a,b⟩:=N.pR.2.2 z p hz;obtain ⟨j,hj,ej⟩:=aF a;obtain ⟨p',a1,a2⟩:=hks j z v hj (by rw [ZS hj,ej]);have:=a1.fn (b.same Y6);subst this;exact hmin _ (ZW a2)
      have nSh:∀ q,¬ S here q:=dis here _ hRh;have nearH:IY ws ss here (d0,Ja):=Dj.pick pos hRh nSh least;refine ⟨t,_,rfl,A2.of ht5,rfl,_,_,rfl,t2,_,rfl,A2.of WT,rfl,_,_,rfl,_,_,rfl,rfl,_,_,rfl,rfl,?_⟩;generalize upd H' RA (.dK (sK nvR))=H5 at N5 ht5 WT s25 ⊢;have hin:here ∈ nvR.map (·.1):=N5.inR.mpr ⟨_,hRh⟩;have hps:here ∈ ps:=N5.subR here hin;refine ⟨_,rfl,_,rfl,RA,_,Sum.inr here,rfl,N5.dR,rfl,by rw [GJ,decide_eq_true hin],?_⟩;rw [SF];have N6:=N5.setR aR (N5.pR.drop here) (fun y hy=>by
       obtain ⟨e,he,ee⟩:=ZZ.mp hy;exact N5.subR y (ZZ.mpr ⟨e,(bq.mp he).1,ee⟩))
      generalize upd H5 RA (.dK (sK (nvR.filter fun q=>decide (q.1 ≠ here))))=H6 at N6 ⊢;have nhS:here ∉ nvS.map (·.1):=fun h=>by
       obtain ⟨q,hq⟩:=N6.inS.mp h;exact nSh q hq
      refine ⟨_,rfl,_,rfl,(by show 2<=sizeLine; lia),fun t3 ht3=>?_⟩;have N7:=N6.grow (Af (o:=.tup [.int d0,.str Ja]) ht3);have WR:(upd H6 t3 (.tup [.int d0,.str Ja])) t3=some (.tup [.int d0,.str Ja]):=Ab;generalize upd H6 t3 (.tup [.int d0,.str Ja])=H7 at N7 WR ⊢;refine ⟨_,rfl,_,rfl,SA,_,rfl,Gd.k (k:=Sum.inr here) N7.dS (by rw [CJ]; have:=N7.lenS; lia),?_⟩;rw [CZ nhS];have N8:=N7.setS aS (N7.pS.put (CZ nhS) (p:=(d0,Ja)) ⟨t3,rfl,WR⟩) (fun y hy=>by
       rw [aa] at hy;rcases aG.mp hy with hy | hy
       ·exact N7.subS y hy
       ·have:y=here:=by simpa using hy
        rw [this]; exact hps)
      generalize upd H7 SA (.dK (sK (nvS ++ [(here,.ref t3)])))=H8 at N8 ⊢;obtain ⟨S',Oh⟩:∃ S':Str->Int × Str->Prop,S'=fun z q=>(z=here/\q=(d0,Ja))\/(z ≠ here/\S z q):=⟨_,rfl⟩
      obtain ⟨OY,hnvS⟩:∃ OY:List (Str × V),OY=nvS ++ [(here,.ref t3)]:=⟨_,rfl⟩
      rw [<-Oh,<-hnvS] at N8;have nSl:OY.length=nvS.length + 1:=by rw [hnvS]; simp
      have nearS:∀ y q,S' y q->IY ws ss y q:=fun y q h=>by
       rw [Oh] at h;rcases h with ⟨rfl,rfl⟩ | ⟨_,h⟩
       ·exact nearH
       ·exact Dj.near y q h
      have hSh:S' here (d0,Ja):=by rw [Oh]; exact .inl ⟨rfl,rfl⟩
      have toS:∀ y q,S y q->∃ q',S' y q':=fun y q h=>by
       by_cases e:y=here
       ·rw [e]; exact ⟨_,hSh⟩
       ·exact ⟨q,by rw [Oh]; exact .inr ⟨e,h⟩⟩
      obtain ⟨i0,d,Tc,a1,a2,a3,a4,a5⟩:=N8.nr.get ok.nd hps;have dm:=ZW a2;refine ⟨_,rfl,_,rfl,B,.ref d,rfl,?_,d,sK Tc,rfl,a4,fun o9 H9 fz9=>?_⟩
      ·have:=CK.k (k:=Sum.inr here) N8.nr.top;rw [a3] at this;exact this
      have N9:=N8.frz aR.1 aS.1 hds a1 a2 fz9 a5;obtain ⟨Pv,hPv⟩:∃ Pv:Nat->St->Hp->Prop,Pv=fun i σ H'=>∃ Hn R' v8 v9,σ=[some (.ref q),some (.ref st),some (.ref B),some (.ref RA),some (.ref SA),some (.int d0),some (.str Ja),some (.str here),v8,v9]/\NI H H' ps ws B RA SA ds Hn OY S' R'/\H' d=some (.frz o9 (.dK (sK Tc))) /\
        (∀ y p,R' y p->p.2 ∈ ss/\Bu ws p.2 y p.1)/\(∀ s ∈ ss,(∃ q,S' s q)\/∃ q,R' s q/\D6 q (0,s)) /\
        (∀ x q y l,S' x q->BP ws x y l->(∃ q',S' y q')\/(∃ q',R' y q'/\D6 q' (q.1 + l,q.2))\/(x=here/\∀ (j:Nat) (v:V),j < i->Tc[j]? ≠ some (y,v)))/\(∀ y p,R' y p->∀ q,¬ S' y q):=⟨_,rfl⟩
      refine Pr (a:=d) (o:=o9) (kvs:=sK Tc) Pv ?_ (fun i σ H' _ hP=>by rw [hPv] at hP; obtain ⟨_,_,_,_,_,_,z,_⟩:=hP; exact z) (fun i key v σ H' hx hP rt bk=>?_) (fun σ H' hP=>?_)
      ·rw [hPv];refine ⟨_,_,_,_,rfl,N9,fz9.at,fun y p h=>Dj.reach y p h.2,fun s hs=>?_,fun x qq y l hx he=>?_,fun y p h qq hq=>?_⟩
       ·rcases Dj.start s hs with ⟨qq,h⟩ | ⟨qq,h,le⟩
        ·exact .inl (toS s qq h)
        ·by_cases e:s=here
         ·rw [e]; exact .inl ⟨_,hSh⟩
         ·exact .inr ⟨qq,⟨e,h⟩,le⟩
       ·by_cases ex:x=here
        ·exact .inr (.inr ⟨ex,fun j v hj=>absurd hj (gI _)⟩)
        ·rw [Oh] at hx;rcases hx with ⟨h,_⟩ | ⟨_,hx⟩
         ·exact absurd h ex
         ·rcases Dj.relax x qq y l hx he with ⟨q',h⟩ | ⟨q',h,le⟩
          ·exact .inl (toS y q' h)
          ·by_cases e:y=here
           ·rw [e]; exact .inl ⟨_,hSh⟩
           ·exact .inr (.inl ⟨q',⟨e,h⟩,le⟩)
       ·rw [Oh] at hq;rcases hq with ⟨h2,_⟩ | ⟨_,h2⟩
        ·exact h.1 h2
        ·exact dis y p h.2 qq h2
      ·rw [hPv] at hP;obtain ⟨Hn,R',v8,v9,rfl,Sr,hf,rch,sta,rel,TK⟩:=hP;obtain ⟨y,e1,rfl⟩:=Ut hx;have hym:=ZW e1;obtain ⟨w0,hw0⟩:∃ w0,BF (sK Tc) (Sum.inr y:AK)=some w0:=by
        have:(BF (sK Tc) (Sum.inr y:AK)).isSome=true:=by rw [GJ,decide_eq_true (ZZ.mpr ⟨_,hym,rfl⟩)]
        exact fe.mp this
       obtain ⟨l,rfl,ed⟩:=Sr.nbv i0 here d Tc a1 a2 (.inr ⟨o9,hf⟩) y w0 (J4 hw0);have hyp:y ∈ ps:=by
        obtain ⟨u,hu,e⟩:=ed.adj;obtain ⟨q1,q2⟩:=ok.ends u hu;rcases e with ⟨_,e⟩ | ⟨e,_⟩
        ·rw [<-e]; exact q2
        ·rw [<-e]; exact q1
       refine ⟨_,rfl,_,rfl,SA,_,rfl,CK.k (k:=Sum.inr y) Sr.dS,_,rfl,?_⟩;rw [GJ];have step:∀ {z:Str},(∀ (j:Nat) (v:V),j < i->Tc[j]? ≠ some (z,v))->z ≠ y->∀ (j:Nat) (v:V),j < i + 1->Tc[j]? ≠ some (z,v):=fun h2 hz j v hj e=>by
        by_cases ej:j=i
        ·subst ej;rw [e1] at e;cases e
         exact hz rfl
        ·exact h2 j v (by lia) e
       by_cases hy:y ∈ OY.map (·.1)
       ·rw [decide_eq_true hy];refine R6 ?_;show Pv (i + 1) _ _
        rw [hPv];refine ⟨Hn,R',_,_,rfl,Sr,hf,rch,sta,fun x qq z l' JE he=>?_,TK⟩;rcases rel x qq z l' JE he with h | h | ⟨h1,h2⟩
        ·exact .inl h
        ·exact .inr (.inl h)
        ·by_cases ez:z=y
         ·rw [ez]; exact .inl (Sr.inS.mp hy)
         ·exact .inr (.inr ⟨h1,step h2 ez⟩)
       ·rw [decide_eq_false hy];refine Vy ?_;have nSy:∀ qq,¬ S' y qq:=fun qq h=>hy (Sr.inS.mpr ⟨qq,h⟩)
        have dgT:CK H' B (.str here) (some (.ref d)):=by
         have:=CK.k (k:=Sum.inr here) Sr.nr.top;rw [a3] at this;exact this
        refine ⟨_,rfl,_,rfl,_,rfl,B,.ref d,rfl,dgT,_,rfl,d,.int l,rfl,.inl ⟨_,Sum.inr y,.inr ⟨o9,hf⟩,rfl,hw0.symm⟩,_,_,rfl,rfl,_,rfl,(by show 2<=sizeLine; lia),fun t4 ht4=>?_⟩;have s4':=Af (o:=.tup [.int (d0 + l),.str Ja]) ht4;have Qa:=Sr.grow s4';have Xe:=s4' _ _ hf;have WQ:(upd H' t4 (.tup [.int (d0 + l),.str Ja])) t4=some (.tup [.int (d0 + l),.str Ja]):=Ab;generalize upd H' t4 (.tup [.int (d0 + l),.str Ja])=Js at Qa Xe WQ ⊢;have cand:JU Js (.ref t4) (d0 + l,Ja):=⟨t4,rfl,WQ⟩
        have candW:Ja ∈ ss/\Bu ws Ja y (d0 + l):=⟨nearH.1.1,nearH.1.2.snoc ed⟩
        have lR':=Qa.lenR;have fin:∀ (x:V) (pn:Int × Str),JU Js x pn->D6 pn (d0 + l,Ja)->(∀ old,R' y old->D6 pn old)->(pn.2 ∈ ss/\Bu ws pn.2 y pn.1) ->
          Pv (i + 1) [some (.ref q),some (.ref st),some (.ref B),some (.ref RA),some (.ref SA),some (.int d0),some (.str Ja),some (.str here),some (.str y),some (.ref t4)] (upd Js RA (.dK (Bq (sK Hn) (Sum.inr y:AK) x))):=by
         intro x pn hx1 hle hold hW;obtain ⟨nv2,p1,p2,p3⟩:=MC Hn y x;rw [p1,hPv];have N12:=Qa.setR aR (Qa.pR.put p1 hx1) (fun z hz=>by
          rcases (p3 z).mp hz with hz | rfl
          ·exact Qa.subR z hz
          ·exact hyp)
         refine ⟨nv2,_,_,_,rfl,N12,?_,fun z p hz=>?_,fun s hs=>?_,fun x' qq z l' JE he=>?_,fun z p hz qq hq=>?_⟩
         ·rw [Ae (fun z=>aR.1 (by rw [<-z]; exact dm))]; exact Xe
         ·rcases hz with ⟨rfl,rfl⟩ | ⟨_,hz⟩
          ·exact hW
          ·exact rch z p hz
         ·rcases sta s hs with h | ⟨qq,h,le⟩
          ·exact .inl h
          ·by_cases e:s=y
           ·subst e;exact .inr ⟨pn,.inl ⟨rfl,rfl⟩,(hold qq h).trans le⟩
           ·exact .inr ⟨qq,.inr ⟨e,h⟩,le⟩
         ·rcases rel x' qq z l' JE he with h | ⟨q',h,le⟩ | ⟨h1,h2⟩
          ·exact .inl h
          ·by_cases e:z=y
           ·subst e;exact .inr (.inl ⟨pn,.inl ⟨rfl,rfl⟩,(hold q' h).trans le⟩)
           ·exact .inr (.inl ⟨q',.inr ⟨e,h⟩,le⟩)
          ·by_cases e:z=y
           ·subst e;subst h1;have e2:=uniq _ _ _ _ he ed;subst e2;have e3:=Qa.pS.fn JE hSh;subst e3;exact .inr (.inl ⟨pn,.inl ⟨rfl,rfl⟩,hle⟩)
           ·exact .inr (.inr ⟨h1,step h2 e⟩)
         ·rcases hz with ⟨rfl,rfl⟩ | ⟨_,hz⟩
          ·exact nSy qq hq
          ·exact TK z p hz qq hq
        have put:∀ {x:V},Gd Js RA (.str y) x (upd Js RA (.dK (Bq (sK Hn) (Sum.inr y:AK) x))):=fun {x}=>Gd.k (k:=Sum.inr y) Qa.dR (by rw [CJ]; lia)
        obtain ⟨w1,pq,ew,hw1,hold,hWq⟩:∃ w1 pq,(BF (sK Hn) (Sum.inr y:AK)).getD (.ref t4)=w1/\JU Js w1 pq/\(∀ old,R' y old->D6 pq old)/\(pq.2 ∈ ss/\Bu ws pq.2 y pq.1):=by
         cases hv:BF (sK Hn) (Sum.inr y:AK) with
         | none=>
          refine ⟨_,_,rfl,cand,fun old h=>?_,candW⟩;have h1:y ∈ Hn.map (·.1):=Qa.inR.mpr ⟨old,h⟩;have h2:(BF (sK Hn) (Sum.inr y:AK)).isSome=true:=by rw [GJ,decide_eq_true h1]
          rw [hv] at h2;cases h2
         | some w1=>
          obtain ⟨pq,h1,h2⟩:=Qa.pR.2.1 y w1 (J4 hv);exact ⟨w1,pq,rfl,h1,fun old h=>by rw [Qa.pR.fn h2 h]; exact D6.refl _,rch y pq h2⟩
        refine ⟨_,rfl,_,rfl,RA,rfl,.inl ⟨_,.inl Qa.dR⟩,_,rfl,_,rfl,_,CK.k (k:=Sum.inr y) Qa.dR,_,_,(d0 + l,Ja),pq,rfl,cand,(by rw [ew]; exact hw1),fun le=>⟨_,rfl,_,rfl,RA,_,rfl,put,?_⟩,fun le=>⟨_,rfl,_,rfl,RA,_,rfl,put,?_⟩⟩
        ·rw [ew];exact fin w1 pq hw1 le hold hWq
        ·exact fin (.ref t4) _ cand (D6.refl _) (fun old h=>le.trans (hold old h)) candW
      ·rw [hPv] at hP;obtain ⟨Hn,R',v8,v9,rfl,Sr,hf,rch,sta,rel,TK⟩:=hP;show NN _ _
       rw [hNN];refine ⟨_,?_,Hn,OY,S',R',_,_,_,_,_,rfl,rfl,Sr,⟨nearS,rch,fun x qq y l hx he=>?_,sta⟩,TK⟩
       ·have:=Sr.lenS;lia
       ·rcases rel x qq y l hx he with h | h | ⟨rfl,h2⟩
        ·exact .inl h
        ·exact .inr h
        ·exfalso
         obtain ⟨⟨z,v⟩,Pk,e⟩:=ZZ.mp ((a5 y).mpr he.adj);have e':z=y:=e;subst e';obtain ⟨j,hj,e2⟩:=aF Pk;exact h2 j v (by rw [CJ]; exact hj) (by rw [ZS hj,e2])
end
section
variable {P:Program} {w:World} {K:ZV} {mg:Str->Option Value} {base:Heap}
structure NeF (K:ZV) (mg:Str->Option Value) (fN:Addr) (fdN:FuncData) (f:Addr) (fd:FuncData):Prop where
 N:NbF K mg fN fdN
 mi:mg "min"=none
 F:DP K "nearest" "nearest" DH f fd
 mg:mg "nearest"=some (.ref f)
 b:DO K fd ["web","starts"] []
theorem HD {f fN fE:Addr} {fd fdN fdE:FuncData} (EK:NeF K mg fN fdN fE fdE) (F:DP K "fars" "fars" Kj f fd):AG P w K mg base BD 3 f fd ["web","place"] (Q3 K):=by
 have GE:AG P w K mg base BD 2 fE fdE ["web","starts"] (M7 K):=Eg EK.N EK.mi EK.F;refine F.ok NJ (fun vs H Q E h=>?_) (fun Cf A outer s H vs Q E hr h=>?_)
 ·obtain ⟨q,ps,ws,r,x,rfl,_⟩:=h;rfl
 ·obtain ⟨q,ps,ws,r,x,rfl,ok,pos,uniq,hx,k⟩:=h;have hu:=ED hr;have nd:=NJ.nd;have big:1000 < sizeLine:=by decide
  have l30:=ok.l30;refine ⟨_,Ag (As (i:=2) nd rfl (Or.inr rfl) (Aj GE hr (by rfl) EK.mg EK.F.kp EK.b .nil Ax (Aa (pv 0) (Aa (BG (Aa (pv 1) Ac)) Ac))))
   (Ao (AB (Ia (N:=["name","told"]) (σ0:=fun σ=>[none,some 2].map fun j=>j.bind fun j=>(σ[j]?).join) rfl
      (AE.caught (by rfl) (by decide +kernel) rfl (by decide +kernel) (by intro y hy; simp only [ZU,af,or_false] at hy; rcases hy with rfl <;> rfl)
       (by intro y hy e; simp only [ZU,af,or_false] at hy; rcases hy with rfl | rfl | rfl <;> first | exact ⟨_,rfl⟩ | cases e))
      (fun σ _=>Ba.of [none,some 2] rfl (by
       intro i j x h1 h2;match i,h1,h2 with
       | 0,_,h2=>cases h2
       | 1,h1,h2=>cases h1; cases h2; exact ⟨rfl,.inl rfl,.inl rfl⟩
       | n + 2,h1,_=>cases h1)) (B0 K rfl (Al (Ai K rfl) (pv 0) Ad (fun _ _=>rfl)))
      (fun s2 H C fp=>⟨Ak (i:=0) (show (["name","told"]:List Str).Nodup by decide +kernel) rfl (Or.inl rfl),Bc,pv 0,Al (Ai K rfl) (B6 hu (pv 1) (pv 0) (fun _ _=>rfl)) Ad (fun _ _=>rfl)⟩)))),?_⟩
  refine ⟨_,rfl,_,rfl,(by show 1<=sizeLine; lia),fun st hst=>?_⟩;have s0:=Af (o:=.lst [.str x]) hst;refine ⟨q,st,ps,[x],ws,r,rfl,ok.same s0,pos,uniq,.inl Ab,by simp,br.mpr ⟨by simp,.nil⟩,by simpa using hx,fun H1 B nv s1 hB Wt nn nk nr=>?_⟩;have MD:=s0.trans s1;obtain ⟨tp,tw,us,hq,htp,htw,hD⟩:=ok.web.ex;refine ⟨_,rfl,q,_,0,.ref tp,rfl,rfl,A2.of (MD _ _ hq),Cs (j:=0) rfl,tp,rfl,⟨_,A2.of (MD _ _ htp)⟩,fun C hC=>?_⟩;refine ⟨fun i m A8 H2=>m=ps.length - i/\i<=ps.length/\(∃ v,A8=[v,some (.ref B)])/\∃ nc:List (Str × V),H2=upd H1 C (.dK (sK nc))/\nc.map (·.1)=ps.take i/\∀ y v,(y,v) ∈ nc->∃ n,v=.int n/\Gg ws x y n,⟨_,rfl,aH _,⟨_,rfl⟩,[],rfl,rfl,fun y v hy=>absurd hy af⟩,?_⟩;rintro i m A8 H2 ⟨rfl,hi,⟨v,rfl⟩,nc,rfl,ncK,ncV⟩;have sC:=Af (o:=.dK (sK nc)) hC;have Nb:=sC _ _ (MD _ _ htp);by_cases BE:i < ps.length
  ·refine .inr ⟨⟨_,V.str ps[i],A2.of Nb,by rw [ai,ZS BE]; rfl⟩,?_⟩;rintro z H6 ⟨rfl,hz⟩;have U5:=hz _ (A2.of Nb);rw [ai,ZS BE] at U5;cases U5
   obtain ⟨⟨y,v2⟩,hm,e⟩:=ZZ.mp ((nk ps[i]).mpr (dI BE));have e':y=ps[i]:=e;subst e';obtain ⟨p,⟨t,e2,ht⟩,hnr⟩:=nr ps[i] v2 hm;subst e2;have ZD:=sC _ _ Wt;have FO:=sC _ _ ht;have nn':ps[i] ∉ nc.map (·.1):=by
    rw [ncK];intro Pk;obtain ⟨j,hj,e⟩:=aF Pk;rw [aO] at hj;rw [cM] at e;have:=GQ ok.nd (ZS (show j < ps.length by lia)) (by rw [ZS BE,e]);lia
   have ncl:nc.length=i:=by
    have:=congrArg bH ncK;rw [ZR,aO] at this;lia
   refine ⟨_,rfl,_,rfl,_,rfl,B,.ref t,rfl,.inl ⟨_,Sum.inr ps[i],.inl ZD,rfl,(Cm nn hm).symm⟩,t,_,0,.int p.1,rfl,rfl,A2.of FO,Cs (j:=0) rfl,_,Sum.inr ps[i],rfl,Ab,by rw [CJ]; lia,_,by lia,rfl,BE,⟨_,rfl⟩,nc ++ [(ps[i],.int p.1)],by rw [Hw,CZ nn'],?_,fun y v hy=>?_⟩
   ·rw [aa,ncK,aD,ZS BE]; rfl
   ·rcases aG.mp hy with hy | hy
    ·exact ncV y v hy
    ·simp only [ar,Prod.mk.injEq] at hy;obtain ⟨rfl,rfl⟩:=hy;exact ⟨p.1,rfl,hnr.dst.2⟩
  ·have e0:i=ps.length:=by lia
   subst e0;rw [aL] at ncK;exact .inl ⟨⟨_,A2.of Nb,by rw [ZR]; exact ZX _⟩,k _ C nc (MD.trans sC) (MD.free hC) Ab ncK ncV⟩
end
section
variable {P:Program} {w:World} {K:ZV} {mg:Str->Option Value} {base:Heap}
theorem CP {fF:Addr} {fdF:FuncData} (XF:Fn K mg "fars" Kj ["web","place"] fF fdF) (GF:AG P w K mg base BD 3 fF fdF ["web","place"] (Q3 K)) {f:Addr} {fd:FuncData} (F:DP K "site_fars" "site_fars" Dq f fd):AG P w K mg base BD 4 f fd ["case"] HL:=by
 refine F.ok F9 (fun vs H Q E h=>?_) (fun Cf A outer s H vs Q E hr h=>?_)
 ·obtain ⟨c,m,n,xs,ws,Am,Ap,x,d,rfl,_⟩:=h;rfl
 ·obtain ⟨c,m,n,xs,ws,Am,Ap,x,d,rfl,cw,k⟩:=h;have nd:=F9.nd;have big:100000 < sizeLine:=by decide
  refine ⟨_,(Ao (AB (Ia (N:=["place","price","case"]) (σ0:=fun σ=>[none,none,some 0].map fun j=>j.bind fun j=>(σ[j]?).join) rfl (AE.caught (by rfl) (by decide +kernel) rfl (by decide +kernel) (by intro y hy; simp only [ZU,af,or_false] at hy; rcases hy with rfl <;> rfl)
   (by intro y hy e; simp only [ZU,af,or_false] at hy; rcases hy with rfl | rfl | rfl | rfl | rfl <;> first | exact ⟨_,rfl⟩ | cases e)) (fun σ _=>Ba.of [none,none,some 0] rfl (by
   intro i j x h1 h2;match i,h1,h2 with
   | 0,_,h2=>cases h2
   | 1,_,h2=>cases h2
   | 2,h1,h2=>cases h1; cases h2; exact ⟨rfl,.inl rfl,.inl rfl⟩
   | n + 3,h1,_=>cases h1)) (B0 K rfl (Al (Ai K rfl) (pv 0) Ad (fun _ _=>rfl)))
   (fun s2 H C fp=>⟨(BH K rfl (n:=2) rfl (Av (Ak (i:=0) (show (["place","price","case"]:List Str).Nodup by decide +kernel) rfl (Or.inl rfl)) (Av (Ak (i:=1) (show (["place","price","case"]:List Str).Nodup by decide +kernel) rfl (Or.inl rfl)) B5))),Bc,(pv 0),(Aj GF (hr.mono (by decide)) (by rfl) XF.mg XF.F.kp XF.b .nil Ax (Aa (Al (Ai K rfl) (pv 2) Ad (fun _ _=>rfl)) (Aa (pv 0) Ac)))⟩)))),?_⟩
  obtain ⟨t1,t2,Cv,F3,hc,EV,Eu,FO,hd2⟩:=cw.ex;obtain ⟨r,okw,pos,uni⟩:=cw.map.web cw.n1 cw.n30;have ul:=Bl Eu;have l1:=cw.l1;refine ⟨_,rfl,c,_,_,_,rfl,rfl,A2.of hc,rfl,t1,rfl,⟨_,A2.of EV⟩,?_⟩;refine OJ B4 (xs:=Cv) (Am.map (·.1)) (by rw [ZR,ul]) cw.ok1.nd (fun D i σ H' nv=>∃ (v0 v1:Option V),σ=[v0,v1,some (.ref c)]/\AD H H'/\H' D=some (.dK (sK nv))/\nv.map (·.1)=(Am.map (·.1)).take i/\∀ s v,(s,v) ∈ nv->RZ H' v xs ws s)
   (by lia) (fun D hD=>⟨_,_,rfl,Af hD,Ab,rfl,fun s v hm=>nomatch hm⟩) (fun D i σ H' nv hD ⟨v0,v1,_,sa,Bg,nk,_⟩=>⟨A2.of (sa _ _ EV),Bg,nk⟩) ?_ ?_
  ·rintro D i σ H' nv x' kk B hD ex ek ⟨v0,v1,rfl,sa,Bg,nk,nf⟩ hB;obtain ⟨u,t,eu,rfl,ht⟩:=B7 Eu ex;have e:kk=u.1:=by
    rw [ai,eu] at ek;exact (aI.inj ek).symm
   subst e;refine ⟨t,_,rfl,A2.of (sa _ _ ht),rfl,_,_,rfl,_,_,rfl,rfl,?_⟩;refine ⟨_,rfl,_,rfl,c,_,_,_,rfl,rfl,A2.of (sa _ _ hc),rfl,_,rfl,m,xs,ws,r,u.1,rfl,okw.same sa,pos,uni,cw.ok1.sub u (ZW eu),fun H1 B1 nb s1 fB Wt nbK nbV=>?_⟩;have Xx:=s1 _ _ Bg;refine hB _ _ _ Xx ⟨_,_,rfl,fun b o' z=>by rw [Ae (Ah z hD)]; exact s1 _ _ (sa _ _ z),Ab,?_,fun s v hm=>?_⟩
   ·rw [aa,nk,aD,ek];rfl
   ·have nB:∀ {b:Addr} {kv:List (AK × V)},b ≠ D->H1 b=some (.dK kv)->(upd H1 D (.dK (sK (nv ++ [(u.1,.ref B1)])))) b=some (.dK kv):=fun nb z=>by rw [Ae nb]; exact z
    rcases aG.mp hm with hm | hm
    ·obtain ⟨B2,Jb,rfl,z1,z2,z3⟩:=nf s v hm;by_cases e:B2=D
     ·subst e;rw [Bg] at z1;have e:=HO.dK.inj (aI.inj z1);have hm':((Sum.inr s:AK),V.ref B2) ∈ sK Jb:=by rw [<-e]; exact ZZ.mpr ⟨_,hm,rfl⟩
      obtain ⟨⟨y,u'⟩,h1,h2⟩:=ZZ.mp hm';cases h2
      obtain ⟨n',e',_⟩:=z3 _ _ h1;cases e'
     ·exact ⟨B2,Jb,rfl,nB e (s1 _ _ z1),z2,z3⟩
    ·simp only [ar,Prod.mk.injEq] at hm;obtain ⟨rfl,rfl⟩:=hm;exact ⟨B1,nb,rfl,nB (fun z=>by rw [z,Bg] at fB; cases fB) Wt,nbK,nbV⟩
  ·rintro D σ H' nv hD ⟨v0,v1,rfl,sa,Bg,nk,nf⟩;rw [ul,show Am.length=(Am.map (·.1)).length by rw [ZR],aL] at nk;exact k H' D nv sa hD Bg nk nf
end
section
variable {P:Program} {w:World} {K:ZV} {mg:Str->Option Value} {base:Heap}
theorem Cq (h_len:mg "len"=none) (h_min:mg "min"=none) {f:Addr} {fd:FuncData} (F:DP K "most_houses" "most_houses" C4 f fd):AG P w K mg base BD 1 f fd ["case"] Q1:=by
 refine F.ok E7 (fun vs H Q E h=>?_) (fun Cf A outer s H vs Q E hr h=>?_)
 ·obtain ⟨c,sites,x,d,rfl,_⟩:=h;rfl
 ·obtain ⟨c,sites,x,d,rfl,cs,k⟩:=h;have nd:=E7.nd;have big:100000 < sizeLine:=by decide
  refine ⟨_,(Ag (Ee (pv 0) (BH K rfl rfl (Av (Ak (i:=1) nd rfl (Or.inl rfl)) (Av (Ak (i:=2) nd rfl (Or.inl rfl)) (Av (Ak (i:=3) nd rfl (Or.inl rfl)) (Av (Ak (i:=4) nd rfl (Or.inl rfl)) B5))))))
  (Ao (AB (Rj (QW (Vn (pv 4))) (Aq (AS K rfl) (by rfl) h_len PySem.boot_len (Aa (pv 2) Ac)) (Aq (ES rfl) (by rfl) h_min PyProof.Rows.boot_min (Aa (pv 4) (Aa (Aq (AS K rfl) (by rfl) h_len PySem.boot_len (Aa (pv 2) Ac)) Ac))))))),?_⟩
  obtain ⟨mV,t2V,t1,Cv,Am,hc,EV,Eu,rfl,snd,sl,lim⟩:=cs;have ul:=Bl Eu;refine ⟨_,rfl,c,_,rfl,A2.of hc,rfl,_,_,rfl,_,_,rfl,_,_,rfl,_,_,rfl,rfl,?_⟩;refine ⟨_,rfl,_,rfl,?_⟩;rcases lim with ⟨rfl,_⟩ | ⟨lm,rfl,_,lm1,lm2⟩
  ·refine BB (fun _=>?_) (fun z=>by simp at z);refine ⟨_,rfl,t1,_,rfl,.inr (A2.of EV),?_⟩;refine k _ (by lia) fun j hj=>?_
   rw [ZR] at hj;simp only [Rz,iff_true];lia
  ·refine BB (fun z=>by simp at z) (fun _=>?_);refine ⟨_,rfl,_,rfl,t1,_,rfl,.inr (A2.of EV),_,_,rfl,?_⟩;refine k _ (by split <;> lia) fun j hj=>?_
   rw [ZR] at hj;simp only [Rz,decide_eq_true_eq];split <;> lia
theorem Dw (h_len:mg "len"=none) (h_sorted:mg "sorted"=none) {fM:Addr} {fdM:FuncData} (XM:Fn K mg "most_houses" C4 ["case"] fM fdM) (GM:AG P w K mg base BD 1 fM fdM ["case"] Q1) {f:Addr} {fd:FuncData} (F:DP K "openings" "openings" DT f fd):AG P w K mg base BD 2 f fd ["case"] Q7:=by
 refine F.ok G7 (fun vs H Q E h=>?_) (fun Cf A outer s H vs Q E hr h=>?_)
 ·obtain ⟨c,sites,x,d,rfl,_⟩:=h;rfl
 ·obtain ⟨c,sites,x,d,rfl,cs,s6,k⟩:=h;have nd:=G7.nd;have big:100000 < sizeLine:=by decide
  refine ⟨_,(Ag (As (i:=1) nd rfl (Or.inr rfl) (Aj GM (hr.mono (by decide)) (by rfl) XM.mg XM.F.kp XM.b .nil Ax (Aa (pv 0) Ac)))
  (Ag (As (i:=2) nd rfl (Or.inl rfl) (BG (Aa (AX Ac) Ac)))
  (Ag (Cw PassesOwn.never rfl (B0 K rfl (Al (Ai K rfl) (pv 0) Ad (fun _ _=>rfl))) (BH K rfl rfl (Av (Ak (i:=3) nd rfl (Or.inr rfl)) (Av (Ak (i:=4) nd rfl (Or.inl rfl)) B5)))
  (Ao (As (i:=2) nd rfl (Or.inl rfl) (Aw MO (pv 2) (Bt (N:=["houses","most","place"]) (σ0:=fun σ=>[none,some 1,some 3].map fun j=>j.bind fun j=>(σ[j]?).join) rfl (AE.caught (by rfl) (by decide +kernel) rfl (by decide +kernel) (by intro y hy; simp only [ZU,af,or_false] at hy; rcases hy with rfl | rfl <;> rfl)
   (by intro y hy e; simp only [ZU,af,or_false] at hy; rcases hy with rfl | rfl | rfl | rfl | rfl <;> first | exact ⟨_,rfl⟩ | cases e)) (fun σ _=>Ba.of [none,some 1,some 3] rfl (by
   intro i j x h1 h2;match i,h1,h2 with
   | 0,_,h2=>cases h2
   | 1,h1,h2=>cases h1; cases h2; exact ⟨rfl,.inl rfl,.inl rfl⟩
   | 2,h1,h2=>cases h1; cases h2; exact ⟨rfl,.inl rfl,.inl rfl⟩
   | n + 3,h1,_=>cases h1)) (BX K rfl (pv 2))
   (fun s2 H C fp=>⟨(Ak (i:=0) (show (["houses","most","place"]:List Str).Nodup by decide +kernel) rfl (Or.inl rfl)),(HA (AZ GK (Aq (AS K rfl) (by rfl) h_len PySem.boot_len (Aa (pv 0) Ac)) (pv 1) (AJ _))),(Aw (FJ K rfl) (pv 0) (AX (Aa (pv 2) Ac)))⟩))))))
  (Ao (AB (Aq (EW K rfl) (by rfl) h_sorted PyProof.Rows.boot_sorted (Aa (Bt (N:=["houses"]) (σ0:=fun _=>[none]) rfl (AE.plain (by decide +kernel) (by decide +kernel) rfl (by decide +kernel)) (fun σ _=>Ba.none _ _ _ ["houses"] σ) (BX K rfl (pv 2))
   (fun s2 H C fp=>⟨(Ak (i:=0) (show (["houses"]:List Str).Nodup by decide +kernel) rfl (Or.inl rfl)),(HA (ON K rfl (pv 0) (fun _=>rfl))),(pv 0)⟩)) Ac))))))),?_⟩
  refine ⟨_,rfl,c,sites,x,d,rfl,cs,fun mo mo0 mok=>?_⟩;obtain ⟨mV,t2V,t1,Cv,Am,hc,EV,Eu,rfl,snd,sl,lim⟩:=cs;have ul:=Bl Eu;rw [ZR] at sl mok;refine ⟨(by show 0<=sizeLine; lia),fun T0 hT0=>⟨(by show 1<=sizeLine; lia),fun L0 Xv=>?_⟩⟩;have s0:=(Af (o:=.tup []) hT0).trans (Af (o:=.lst [.ref T0]) Xv);refine ⟨_,rfl,c,_,_,_,rfl,rfl,A2.of (s0 _ _ hc),rfl,t1,rfl,⟨_,A2.of (s0 _ _ EV)⟩,?_⟩;refine LX (xs:=Cv) (fun i σ H'=>∃ (L:Addr) (us:List V) (fs:List (List Str)) (v2 v3:Option V),σ=[some (.ref c),some (.int mo),some (.ref L),v2,v3]/\AD H H'/\H' L=some (.lst us)/\Cu H' us fs/\Hh ((Am.map (·.1)).take i) mo fs/\fs.length<=2 ^ i)
   ⟨L0,[.ref T0],[[]],_,_,rfl,s0,Ab,.cons (by rw [Ae (by intro z; subst z; rw [Ab] at Xv; cases Xv)]; exact Ab) .nil,Hh.nil mo0,ZX _⟩
   (fun i σ H' _ ⟨_,_,_,_,_,_,sa,_⟩=>A2.of (sa _ _ EV)) ?_ ?_
  ·rintro i xx σ H' ex ⟨L,us,fs,v2,v3,rfl,sa,hL,tU,sub,fl⟩ rt bk;obtain ⟨u,t,eu,rfl,ht⟩:=B7 Eu ex;have hi:i < Am.length:=(ag.mp eu).1;have f512:fs.length<=512:=aQ fl (aQ (eB (by decide) (show i<=9 by lia)) (by decide));have hul:=tU.len;have ZE:∀ f ∈ fs,f.length<=10:=fun f hf=>by
    have:=((sub.2 f).mp hf).1.length_le;rw [aO,ZR] at this;lia
   refine ⟨t,_,rfl,A2.of (sa _ _ ht),rfl,_,_,rfl,_,_,rfl,rfl,?_⟩;refine ⟨_,rfl,_,rfl,L,rfl,⟨_,AV.of hL⟩,?_⟩;refine Dt Cy (xs:=us) (fun D j A8 H2 acc=>∃ v0:Option V,A8=[v0,some (.int mo),some (.str u.1)]/\AD H' H2/\H2 D=some (.lst acc)/\Cu H2 acc (((fs.take j).filter fun f=>decide ((f.length:Int) < mo)).map (· ++ [u.1]))/\acc.length<=j)
    (by lia) (fun D hD=>⟨_,rfl,Af hD,Ab,.nil,ZX _⟩) (fun D j A8 H2 acc hD ⟨v0,_,sb,Bg,_,al⟩=>⟨AV.of (sb _ _ hL),Bg,al⟩) ?_ ?_
   ·rintro D j A8 H2 acc x' B N hD ex' ⟨v0,rfl,sb,Bg,tp,al⟩ hB hN;obtain ⟨tf,f,rfl,ef,htf⟩:=tU.get ex';have fm:=ZE f (ZW ef);have RC:=sb _ _ htf;refine ⟨_,rfl,tf,_,rfl,.inr (A2.of RC),_,rfl,_,_,rfl,rfl,_,rfl,?_⟩;rw [ZR];refine BB (fun z=>?_) (fun z=>?_)
    ·have go:∀ (H5:Hp) (T:Addr),AD H2 H5->H5 T=some (.tup ((f ++ [u.1]).map V.str))->B [some (.ref tf),some (.int mo),some (.str u.1)] (.ref T) H5:=fun H5 T s5 hT=>by
      refine hB _ _ _ (s5 _ _ Bg) ⟨_,rfl,fun b o' z=>by rw [Ae (Ah z hD)]; exact s5 _ _ (sb _ _ z),Ab,?_,by rw [ZY]; simp; lia⟩;rw [aD,ef,cu,aa];simp only [dB,bZ,z,if_true,di,au,dO];refine ((tp.keep fun b ys z=>s5 _ _ z).app (.cons hT .nil)).keep fun b ys z=>?_
      rw [Ae (B8 z (s5 _ _ Bg) (fun q=>by cases q))];exact z
     refine ⟨_,rfl,_,rfl,(by show 1<=sizeLine; lia),fun T1 PY=>⟨tf,T1,_,_,rfl,rfl,A2.of (Af PY _ _ RC),A2.of Ab,by rw [ZR]; show f.length + 1<=sizeLine; lia,fun e=>?_,fun ne e=>?_,fun ne ne' p hp=>?_⟩⟩
     ·have e':f=[]:=by simpa using e
      subst e';exact go _ T1 (Af PY) Ab
     ·cases e
     ·exact go _ p ((Af PY).trans (Af hp)) (by rw [Ab,aa]; rfl)
    ·have z':decide ((f.length:Int) < mo)=false:=by simpa using z
     refine hN _ _ ⟨_,rfl,sb,Bg,?_,by lia⟩;rw [aD,ef,cu];simp only [dB,bZ,z',aq,if_false,di,cy];exact tp
   ·rintro D A8 H2 acc hD ⟨v0,rfl,sb,Bg,tp,al⟩;refine ⟨L,D,us,acc,rfl,rfl,sb _ _ hL,Bg,by lia,fun p hp=>?_⟩;have sp:=Af (o:=.lst (us ++ acc)) hp;rw [hul,aL] at tp;have e0:(Am.map (·.1))[i]? = some u.1:=by rw [ai,eu]; rfl
    have e1:(Am.map (·.1)).take (i + 1)=(Am.map (·.1)).take i ++ [u.1]:=by rw [aD,e0]; rfl
    have nin:u.1 ∉ (Am.map (·.1)).take i:=by
     have:=snd.sublist (g9 (i + 1) _);rw [e1] at this;exact fun z=>(b8.mp this).2.2 _ z _ (by simp) rfl
    refine ⟨p,us ++ acc,_,_,_,rfl,(sa.trans sb).trans sp,Ab,((tU.keep fun b ys z=>sb _ _ z).app tp).keep (fun b ys z=>sp _ _ z),?_,?_⟩
    ·rw [e1];exact Hh.step nin sub
    ·rw [ZY,ZR,Nat.pow_succ];have:=dY (fun f=>decide ((f.length:Int) < mo)) fs;lia
  ·rintro σ H' ⟨L,us,fs,v2,v3,rfl,sa,hL,tU,sub,fl⟩;rw [ul,show Am.length=(Am.map (·.1)).length by rw [ZR],aL] at sub;rw [ul] at fl;have X2:fs.length<=1024:=aQ fl (aQ (eB (by decide) sl) (by decide));have f64:fs.length<=64:=aQ fl (aQ (eB (by decide) (by rw [ZR] at s6; exact s6)) (by decide));have hul:=tU.len;refine ⟨_,rfl,L,rfl,⟨_,AV.of hL⟩,?_⟩;refine Dt Cy (xs:=us) (fun D i A8 H2 acc=>∃ v0:Option V,A8=[v0]/\AD H' H2/\H2 D=some (.lst acc)/\Cu H2 acc ((fs.take i).filter fun f=>!f.isEmpty)/\acc.length<=i)
    (by lia) (fun D hD=>⟨_,rfl,Af hD,Ab,.nil,ZX _⟩) (fun D i A8 H2 acc hD ⟨v0,_,sb,Bg,_,al⟩=>⟨AV.of (sb _ _ hL),Bg,al⟩) ?_ ?_
   ·rintro D i A8 H2 acc x' B N hD ex ⟨v0,rfl,sb,Bg,tp,al⟩ hB hN;obtain ⟨tf,f,rfl,ef,htf⟩:=tU.get ex;have RC:=sb _ _ htf;refine ⟨_,rfl,!f.isEmpty,.inr (.inl ⟨_,A2.of RC,by cases f <;> rfl⟩),?_⟩;refine BB (fun z=>?_) (fun z=>?_)
    ·refine ⟨_,rfl,hB _ _ _ Bg ⟨_,rfl,fun b o' z=>by rw [Ae (Ah z hD)]; exact sb _ _ z,Ab,?_,by rw [ZY]; simp; lia⟩⟩;rw [aD,ef,cu];simp only [dB,bZ,z,if_true,di];refine (tp.app (.cons RC .nil)).keep fun b ys z=>?_
     rw [Ae (B8 z Bg (fun q=>by cases q))];exact z
    ·have z':(!f.isEmpty)=false:=by simpa using z
     refine hN _ _ ⟨_,rfl,sb,Bg,?_,by lia⟩;rw [aD,ef,cu];simp only [dB,bZ,z',aq,if_false,di,cy];exact tp
   ·rintro D A8 H2 acc hD ⟨v0,rfl,sb,Bg,tp,al⟩;rw [hul,aL] at tp;refine ⟨D,acc,fun _=>true,rfl,AV.of Bg,tp.kinds (fun f hf=>?_),?_,fun l Cb hl pm=>?_⟩
    ·have:=(bq.mp hf).2;intro z;rw [z] at this;cases this
    ·have e1:=tp.len;have e2:=(List.length_filter_lt_length_iff_exists (p:=fun f:List Str=>!f.isEmpty) (l:=fs)).mpr ⟨[],(sub.2 []).mpr ⟨dM _,by simpa using mo0⟩,by simp⟩;lia
    ·obtain ⟨os,po,to⟩:=Cu.perm pm tp;have Yc:=Af (o:=.lst Cb) hl;refine k _ l Cb os ((sa.trans sb).trans Yc) ?_ Ab (to.keep fun b ys z=>Yc _ _ z) ⟨po.nodup_iff.mpr (sub.1.sublist dk),?_,fun ss=>?_⟩ (by rw [po.length_eq]; exact aQ (dY _ _) X2)
     ·cases e:H l with
      | none=>rfl
      | some o=>rw [sb _ _ (sa _ _ e)] at hl; cases hl
     ·trivial
     ·rw [po.mem_iff,bq,sub.2];constructor
      ·rintro ⟨⟨h1,h2⟩,h3⟩;have:=h1.length_le;rw [ZR] at this;exact ⟨(by intro z; rw [z] at h3; cases h3),h1,(mok _ this).mp h2⟩
      ·rintro ⟨h1,h2,h3⟩;have:=h2.length_le;rw [ZR] at this;exact ⟨⟨h2,(mok _ this).mpr h3⟩,by cases ss with | nil=>exact absurd rfl h1 | cons _ _=>rfl⟩
end
section
variable {P:Program} {w:World} {K:ZV} {mg:Str->Option Value} {base:Heap}
theorem Dx (h_dict:mg "dict"=none) (h_min:mg "min"=none) (h_sum:mg "sum"=none) {fS:Addr} {fdS:FuncData} (XS:Fn K mg "site_fars" Dq ["case"] fS fdS) (GS:AG P w K mg base BD 4 fS fdS ["case"] HL) {f:Addr} {fd:FuncData} (F:DP K "costs_of" "costs_of" DZ f fd):AG P w K mg base BD 5 f fd ["case","chosen"] J0:=by
 refine F.ok GD (fun vs H Q E h=>?_) (fun Cf A outer s H vs Q E hr h=>?_)
 ·obtain ⟨c,e,m,n,xs,ws,Am,Ap,x,d,us,os,rfl,_⟩:=h;rfl
 ·obtain ⟨c,e,m,n,xs,ws,Am,Ap,x,d,us,os,rfl,cw,he,tU,ond,opn,ol,k⟩:=h;have nd:=GD.nd;have hu:=ED hr;have big:100000 < sizeLine:=by decide
  refine ⟨_,(Ag (Ee (pv 0) (BH K rfl rfl (Av (Ak (i:=2) nd rfl (Or.inl rfl)) (Av (Ak (i:=3) nd rfl (Or.inl rfl)) (Av (Ak (i:=4) nd rfl (Or.inl rfl)) (Av (Ak (i:=5) nd rfl (Or.inl rfl)) B5))))))
  (Ag (As (i:=6) nd rfl (Or.inr rfl) (A5 (BR rfl) (by rfl) h_dict PyProof.Rows.boot_dict (Aa (pv 3) Ac)))
  (Ag (As (i:=7) nd rfl (Or.inr rfl) (Aj GS (hr.mono (by decide)) (by rfl) XS.mg XS.F.kp XS.b .nil Ax (Aa (pv 0) Ac)))
  (Ag (As (i:=8) nd rfl (Or.inl rfl) LA)
  (Ag (Cw PassesOwn.never rfl (BX K rfl (pv 1)) (Ak (i:=9) nd rfl (Or.inr rfl))
  (Ag (Ra (fun x=>decide (x=("place":Str))) (ix:=10) (N:=["place","many","aways","houses"]) (σ0:=fun σ=>[none,none,some 7,some 9].map fun j=>j.bind fun j=>(σ[j]?).join) nd rfl (Or.inl rfl) rfl (Ge.caught (by rfl) rfl (by decide +kernel) (by intro y hy; simp only [ZU,af,or_false] at hy; rcases hy with rfl | rfl <;> rfl) (by refine List.Pairwise.cons (fun y hy=>?_) (fK _ _); rw [ar.mp hy]; show @Ne Nat _ _; lia)
   (by intro y hy e; simp only [ZU,af,or_false] at hy; rcases hy with rfl | rfl | rfl | rfl | rfl | rfl <;> first | exact ⟨_,aJ⟩ | exact ⟨_,aA _ aJ⟩ | cases e)) (by intro x h; have h':=of_decide_eq_true h; subst h'; decide +kernel) (fun σ _=>Ba.of [none,none,some 7,some 9] rfl (by
   intro i j x h1 h2;match i,h1,h2 with
   | 0,_,h2=>cases h2
   | 1,_,h2=>cases h2
   | 2,h1,h2=>cases h1; cases h2; exact ⟨rfl,.inl rfl,.inl rfl⟩
   | 3,h1,h2=>cases h1; cases h2; exact ⟨rfl,.inl rfl,.inl rfl⟩
   | n + 4,h1,_=>cases h1)) (by
   intro σ i x v h1 h2;match i,h1,h2 with
   | 0,_,h2=>cases h2
   | 1,_,h2=>cases h2
   | 2,h1,h2=>cases h1; decide +kernel
   | 3,h1,h2=>cases h1; decide +kernel
   | n + 4,h1,_=>cases h1) (B0 K rfl (pv 4))
   (fun s2 H C fp=>⟨(BH K rfl (n:=2) rfl (Av (Ak (i:=0) (show (["place","many","aways","houses"]:List Str).Nodup by decide +kernel) rfl (Or.inr rfl) (.inl (by dsimp only; exact decide_eq_true rfl))) (Av (Ak (i:=1) (show (["place","many","aways","houses"]:List Str).Nodup by decide +kernel) rfl (Or.inl rfl)) B5))),Bc,(Aw NW (pv 1) (Aq (Jq rfl) (by rfl) h_min PyProof.Rows.boot_min (Aa (Bt (N:=["house","place","aways"]) (σ0:=fun σ=>[none,some 0,some 2].map fun j=>j.bind fun j=>(σ[j]?).join) rfl (AE.caught (by rfl) (by decide +kernel) rfl (by decide +kernel) (by intro y hy; simp only [ZU,af,or_false] at hy; rcases hy with rfl | rfl <;> rfl)
   (by intro y hy e; simp only [ZU,af,or_false] at hy; rcases hy with rfl | rfl | rfl | rfl <;> first | exact ⟨_,rfl⟩ | cases e)) (fun σ _=>Ba.of [none,some 0,some 2] rfl (by
   intro i j x h1 h2;match i,h1,h2 with
   | 0,_,h2=>cases h2
   | 1,h1,h2=>cases h1; cases h2; exact ⟨rfl,.inl rfl,.inl rfl⟩
   | 2,h1,h2=>cases h1; cases h2; exact ⟨rfl,.inl rfl,.inl rfl⟩
   | n + 3,h1,_=>cases h1)) (B0 K rfl (pv 3))
   (fun s2 H C fp=>⟨(Ak (i:=0) (show (["house","place","aways"]:List Str).Nodup by decide +kernel) rfl (Or.inl rfl)),Bc,(B6 hu (B6 hu (pv 2) (pv 0) (fun _ _=>rfl)) (pv 1) (fun _ _=>rfl))⟩)) Ac)))⟩))
  (Ao (Du hu (pv 8) (pv 9) (Aw AY (Aq (C8 rfl) (by rfl) h_sum PyProof.Rows.boot_sum (Aa (Bt (N:=["house","charges"]) (σ0:=fun σ=>[none,some 6].map fun j=>j.bind fun j=>(σ[j]?).join) rfl (AE.caught (by rfl) (by decide +kernel) rfl (by decide +kernel) (by intro y hy; simp only [ZU,af,or_false] at hy; rcases hy with rfl <;> rfl)
   (by intro y hy e; simp only [ZU,af,or_false] at hy; rcases hy with rfl | rfl | rfl <;> first | exact ⟨_,rfl⟩ | cases e)) (fun σ _=>Ba.of [none,some 6] rfl (by
   intro i j x h1 h2;match i,h1,h2 with
   | 0,_,h2=>cases h2
   | 1,h1,h2=>cases h1; cases h2; exact ⟨rfl,.inl rfl,.inl rfl⟩
   | n + 2,h1,_=>cases h1)) (B0 K rfl (pv 9))
   (fun s2 H C fp=>⟨(Ak (i:=0) (show (["house","charges"]:List Str).Nodup by decide +kernel) rfl (Or.inl rfl)),Bc,(B6 hu (pv 1) (pv 0) (fun _ _=>rfl))⟩)) Ac)) (Aq (C8 rfl) (by rfl) h_sum PyProof.Rows.boot_sum (Aa (pv 10) Ac))) rfl))))
  (Ao (AB (pv 8)))))))),?_⟩
  obtain ⟨t1,t2,Cv,F3,hc,EV,Eu,FO,hd2⟩:=cw.ex;have Sh:=Bl Eu;have Wk:=Bl hd2;have l1:=cw.l1;have l2:=cw.l2;have hul:=tU.len;refine ⟨_,rfl,c,_,rfl,A2.of hc,rfl,_,_,rfl,_,_,rfl,_,_,rfl,_,_,rfl,rfl,?_⟩;refine ⟨_,rfl,t1,Cv,Cn Am,rfl,EV,by unfold Cn; rw [ZR]; exact Sh,Km Eu,by rw [DI]; exact cw.ok1.nd,by unfold Cn; rw [ZR]; lia,fun CH hCH=>?_⟩;have s1:=Af (o:=.dK (sK (Cn Am))) hCH;have hCC:(upd H CH (.dK (sK (Cn Am)))) CH=some (.dK (sK (Cn Am))):=Ab;generalize upd H CH (.dK (sK (Cn Am)))=H1 at s1 hCC;refine ⟨_,rfl,c,m,n,xs,ws,Am,Ap,x,d,rfl,cw.same s1,fun H2 AW nv s2 fA hA nk nf=>?_⟩;have Mu:=s1.trans s2;intro D hD;have s3:=Af (o:=.dT []) hD;have fD:H D=none:=by
   cases z:H D with
   | none=>rfl
   | some o'=>rw [Mu _ _ z] at hD; cases hD
  refine ⟨_,rfl,e,rfl,⟨_,AV.of (s3 _ _ (Mu _ _ he))⟩,?_⟩;refine Gx (xs:=us) (fun i σ H'=>∃ (v9 v10:Option V) (kvs:List (List AK × V)),σ=[some (.ref c),some (.ref e),some (.ref m),some (.ref t1),some (.ref t2),some x,some (.ref CH),some (.ref AW),some (.ref D),v9,v10]/\AD H2 H'/\H' D=some (.dT kvs)/\kvs.map (·.1)=(os.take i).map (fun ss=>ss.map Sum.inr)/\(∀ ss v,(ss.map Sum.inr,v) ∈ kvs->∃ t,v=.int t/\FY ws Am Ap ss t))
   ⟨_,_,[],rfl,s3,Ab,rfl,fun ss v hm=>nomatch hm⟩ (fun i σ H' _ ⟨_,_,_,_,sa,_⟩=>AV.of (sa _ _ (Mu _ _ he))) ?_ ?_
  ·rintro i v σ H' hv ⟨v9,v10,kvs,rfl,sa,Bg,kk,kt⟩ rt bk NN hN;obtain ⟨o,ss,rfl,es,ho⟩:=tU.get hv;have hsm:=ZW es;have hi:i < os.length:=(ag.mp es).1;obtain ⟨sne,snd,ssub⟩:=opn ss hsm;have sl:ss.length<=Am.length:=by
    have:=List.Nodup.length_le_of_subset snd (fun s hs=>ssub s hs);rw [ZR] at this;exact this
   have Xa:=Mu _ _ ho;have sx:∀ s ∈ ss,s ∈ xs:=fun s hs=>by
    obtain ⟨r,FP,rfl⟩:=ZZ.mp (ssub s hs);exact cw.ok1.sub r FP
   have nnd:(nv.map (·.1)).Nodup:=by rw [nk]; exact cw.ok1.nd
   refine ⟨_,rfl,t2,rfl,⟨_,A2.of (sa _ _ (Mu _ _ FO))⟩,?_⟩;refine Bm B4 (xs:=F3) (fun D2 j A8 H3 acc=>∃ (v0 v1:Option V) (ds:List Int),A8=[v0,v1,some (.ref AW),some (.ref o)]/\AD H' H3/\H3 D2=some (.lst acc)/\acc=((Ap.zip ds).map fun p=>p.1.2 * p.2).map V.int/\ds.length=j/\acc.length=j/\∀ (q:Nat) r d,Ap[q]? = some r->ds[q]? = some d->Md ws ss r.1 d)
    (by lia) (fun D2 KZ=>⟨_,_,[],rfl,Af KZ,Ab,by rw [List.zip_nil_right]; rfl,rfl,rfl,fun q r d _ e=>by simp at e⟩)
    (fun D2 j A8 H3 acc KZ ⟨v0,v1,ds,_,sb,RI,_,_,al,_⟩=>⟨A2.of (sb _ _ (sa _ _ (Mu _ _ FO))),RI,al⟩) ?_ ?_
   ·rintro D2 j A8 H3 acc x' B KZ ex ⟨v0,v1,ds,rfl,sb,RI,ea,dl,al,dm⟩ hB;obtain ⟨u,t,eu,rfl,ht⟩:=B7 hd2 ex;have um:=ZW eu;have ux:u.1 ∈ xs:=cw.ok2.sub u um;have ub:=cw.ok2.lo u um;have sab:=sa.trans sb;have hA3:=sab _ _ hA;refine ⟨t,_,rfl,A2.of (sab _ _ (Mu _ _ ht)),rfl,_,_,rfl,_,_,rfl,rfl,?_⟩;refine ⟨_,rfl,_,rfl,o,rfl,⟨_,A2.of (sab _ _ Xa)⟩,?_⟩;refine Bm B4 (xs:=ss.map V.str) (fun D3 q JX H4 G4=>∃ (w0:Option V) (ns:List Int),JX=[w0,some (.str u.1),some (.ref AW)]/\AD H3 H4/\H4 D3=some (.lst G4)/\G4=ns.map V.int/\ns.length=q/\G4.length=q/\∀ (a:Nat) n' s,ns[a]? = some n'->ss[a]? = some s->Gg ws s u.1 n')
     (by rw [ZR]; lia) (fun D3 GZ=>⟨_,[],rfl,Af GZ,Ab,rfl,rfl,rfl,fun a n' s e=>by simp at e⟩)
     (fun D3 q JX H4 G4 GZ ⟨w0,ns,_,sc,ID,_,_,TY,_⟩=>⟨A2.of (sc _ _ (sab _ _ Xa)),ID,TY⟩) ?_ ?_
    ·rintro D3 q JX H4 G4 x3 B3 GZ RM ⟨w0,ns,rfl,sc,ID,UC,nl,TY,nm⟩ ZC;obtain ⟨s,ey,rfl⟩:∃ s,ss[q]? = some s/\x3=.str s:=by
      rw [ai] at RM;cases z:ss[q]? with
      | none=>rw [z] at RM; cases RM
      | some y=>rw [z] at RM; exact ⟨y,rfl,(aI.inj RM).symm⟩
     have hs:=ZW ey;obtain ⟨⟨s',vB⟩,hm,Tz⟩:=ZZ.mp (show s ∈ nv.map (·.1) by rw [nk]; exact ssub s hs);have Tz:s'=s:=Tz;subst Tz;obtain ⟨Bf,nb,rfl,hBf,nbk,nbv⟩:=nf _ _ hm;obtain ⟨⟨y',vy⟩,hmy,ZF⟩:=ZZ.mp (show u.1 ∈ nb.map (·.1) by rw [nbk]; exact ux);have ZF:y'=u.1:=ZF;subst ZF;obtain ⟨nn,rfl,dst⟩:=nbv _ _ hmy;have nbnd:(nb.map (·.1)).Nodup:=by rw [nbk]; exact cw.map.at'.nd
     have dg1:CK H4 AW (.str s') (some (.ref Bf)):=.inl ⟨_,Sum.inr s',.inl (sc _ _ hA3),rfl,(Cm nnd hm).symm⟩;have dg2:CK H4 Bf (.str u.1) (some (.int nn)):=.inl ⟨_,Sum.inr u.1,.inl (sc _ _ (sab _ _ hBf)),rfl,(Cm nbnd hmy).symm⟩;refine ⟨_,rfl,_,rfl,AW,.ref Bf,rfl,dg1,_,rfl,Bf,.int nn,rfl,dg2,?_⟩;refine ZC _ _ _ ID ⟨_,ns ++ [nn],rfl,fun b o' z=>by rw [Ae (Ah z GZ)]; exact sc _ _ z,Ab,by rw [UC,aa]; rfl,by rw [ZY,nl]; rfl,by rw [ZY,TY]; rfl,fun a n' s e1 e2=>?_⟩;by_cases ha:a < ns.length
     ·rw [aY ha] at e1;exact nm a n' s e1 e2
     ·have Zz:=(ag.mp e1).1;rw [ZY,bo] at Zz;have hqa:a=q:=by lia
      subst hqa;rw [aP (by lia),show a - ns.length=0 by lia,aX] at e1;cases e1
      rw [ey] at e2;cases e2
      exact dst
    ·rintro D3 JX H4 G4 GZ ⟨w0,ns,rfl,sc,ID,UC,nl,TY,nm⟩;rw [ZR] at nl;have nne:ns ≠ []:=fun z=>by rw [z] at nl; exact sne (dJ.mp nl.symm)
     refine ⟨D3,ns,rfl,by rw [ID,UC],nne,fun mn hmn hle=>?_⟩;have md:Md ws ss u.1 mn:=by
      obtain ⟨a,ha⟩:=bY hmn;have ha':=(ag.mp ha).1;have La:ss[a]? = some (ss[a]'(by lia)):=ZS _;refine ⟨⟨_,ZW La,(nm a _ _ ha La).1⟩,fun s hs mm g=>?_⟩;obtain ⟨b,hb⟩:=bY hs;have IC:=(ag.mp hb).1;have en:ns[b]? = some (ns[b]'(by lia)):=ZS _;have z1:=hle _ (ZW en);have z2:=(nm b _ _ en hb).2 mm g;lia
     have bd:0<=mn/\mn < 2 ^ 300:=by
      obtain ⟨a,ha⟩:=bY hmn;have ha':=(ag.mp ha).1;have La:ss[a]? = some (ss[a]'(by lia)):=ZS _;exact cw.map.bound cw.n1 cw.n30 (sx _ (ZW La)) ux (nm a _ _ ha La)
     refine ⟨_,_,rfl,rfl,⟨⟨by lia,by lia⟩,⟨by lia,by lia⟩⟩,?_⟩;have Z9:=sc _ _ RI;refine hB _ _ _ Z9 ⟨_,_,ds ++ [mn],rfl,fun b o' z=>by rw [Ae (Ah z KZ)]; exact sc _ _ (sb _ _ z),Ab,?_,by rw [ZY,dl]; rfl,by rw [ZY,al]; rfl,fun q r d e1 e2=>?_⟩
     ·rw [Lc (a:=u) (by rw [dl]; exact eu),aa,aa,ea];rfl
     ·by_cases ha:q < ds.length
      ·rw [aY ha] at e2;exact dm q r d e1 e2
      ·have Zz:=(ag.mp e2).1;rw [ZY,bo] at Zz;have hqa:q=j:=by lia
       subst hqa;rw [aP (by lia),show q - ds.length=0 by lia,aX] at e2;cases e2
       rw [eu] at e1;cases e1
       exact md
   ·rintro D2 A8 H3 acc KZ ⟨v0,v1,ds,rfl,sb,RI,ea,dl,al,dm⟩;have sab:=sa.trans sb;have wd:IW ws ss Ap ds:=⟨by lia,dm⟩
    refine ⟨_,rfl,o,rfl,⟨_,A2.of (sab _ _ Xa)⟩,?_⟩;refine Bm B4 (xs:=ss.map V.str) (fun D3 q JX H4 G4=>∃ w0:Option V,JX=[w0,some (.ref CH)]/\AD H3 H4/\H4 D3=some (.lst G4)/\G4=((ss.take q).map (A1 Am)).map V.int/\G4.length=q)
     (by rw [ZR]; lia) (fun D3 GZ=>⟨_,rfl,Af GZ,Ab,rfl,rfl⟩)
     (fun D3 q JX H4 G4 GZ ⟨w0,_,sc,ID,_,TY⟩=>⟨A2.of (sc _ _ (sab _ _ Xa)),ID,TY⟩) ?_ ?_
    ·rintro D3 q JX H4 G4 x3 B3 GZ RM ⟨w0,rfl,sc,ID,UC,TY⟩ ZC;obtain ⟨s,ey,rfl⟩:∃ s,ss[q]? = some s/\x3=.str s:=by
      rw [ai] at RM;cases z:ss[q]? with
      | none=>rw [z] at RM; cases RM
      | some y=>rw [z] at RM; exact ⟨y,rfl,(aI.inj RM).symm⟩
     obtain ⟨r,FP,rfl⟩:=ZZ.mp (ssub s (ZW ey));have hm:(r.1,V.int r.2) ∈ Cn Am:=by unfold Cn; exact ZZ.mpr ⟨r,FP,rfl⟩
     have dg:CK H4 CH (.str r.1) (some (.int r.2)):=.inl ⟨_,Sum.inr r.1,.inl (sc _ _ (sab _ _ (s2 _ _ hCC))),rfl,(Cm (by rw [DI]; exact cw.ok1.nd) hm).symm⟩;refine ⟨_,rfl,_,rfl,CH,.int r.2,rfl,dg,?_⟩;refine ZC _ _ _ ID ⟨_,rfl,fun b o' z=>by rw [Ae (Ah z GZ)]; exact sc _ _ z,Ab,?_,by rw [ZY,TY]; rfl⟩;rw [UC,aD,ey,aa,aa];simp [Bx cw.ok1.nd FP]
    ·rintro D3 JX H4 G4 GZ ⟨w0,rfl,sc,ID,UC,TY⟩;rw [ZR,aL] at UC;have Z8:=sc _ _ (sb _ _ Bg);have sall:=sab.trans sc;refine ⟨D3,_,rfl,AV.of (by rw [ID,UC]),_,rfl,D2,_,rfl,AV.of (by rw [sc _ _ RI,ea]),_,_,rfl,rfl,_,rfl,_,rfl,D,_,rfl,Gd.t (k:=ss.map Sum.inr) Z8 (by rw [N3]; exact sall _ _ Xa) ?_,?_⟩
     ·have:=congrArg bH kk;rw [ZR,ZR,aO] at this;lia
     have nin:ss.map Sum.inr ∉ kvs.map (·.1):=by
      rw [kk];intro hm;obtain ⟨s2,WW,e2⟩:=ZZ.mp hm;have e2:=K8 e2;subst e2;obtain ⟨b,hb,eb⟩:=aF WW;rw [aO] at hb;rw [cM] at eb;have IC:b < os.length:=by lia
      have e5:os[b]=os[i]:=eb.trans (aI.inj ((ZS hi).symm.trans es)).symm;have:=(cW (i:=b) (j:=i) (h₀:=IC) (h₁:=hi) ond).mp e5;lia
     rw [L4 _ (Ql nin)];refine hN _ _ ⟨_,_,kvs ++ [(ss.map Sum.inr,_)],rfl,fun b o' z=>by rw [Ae (Ah z hD)]; exact sall _ _ z,Ab,?_,fun s2 v2 hm=>?_⟩
     ·rw [aa,kk,aD,es,aa];rfl
     ·rcases aG.mp hm with hm | hm
      ·exact kt s2 v2 hm
      ·simp only [ar,Prod.mk.injEq] at hm;obtain ⟨e1,rfl⟩:=hm;have e1:=K8 e1;subst e1;exact ⟨_,rfl,ds,wd,rfl⟩
  ·rintro σ H' ⟨v9,v10,kvs,rfl,sa,Bg,kk,kt⟩;rw [hul,aL] at kk;exact ⟨_,rfl,k H' D kvs (Mu.trans sa) fD Bg kk kt⟩
theorem C6 (h_min:mg "min"=none) {fC fO:Addr} {fdC fdO:FuncData} (XC:Fn K mg "costs_of" DZ ["case","chosen"] fC fdC) (GC:AG P w K mg base BD 5 fC fdC ["case","chosen"] J0) (XO:Fn K mg "openings" DT ["case"] fO fdO) (GO:AG P w K mg base BD 2 fO fdO ["case"] Q7) {f:Addr} {fd:FuncData} (F:DP K "plain_best" "plain_best" B9 f fd):AG P w K mg base BD 6 f fd ["case"] F6:=by
 refine F.ok EZ (fun vs H Q E h=>?_) (fun Cf A outer s H vs Q E hr h=>?_)
 ·obtain ⟨c,m,n,xs,ws,Am,Ap,x,d,rfl,_⟩:=h;rfl
 ·obtain ⟨c,m,n,xs,ws,Am,Ap,x,d,rfl,cw,s6,k⟩:=h;have nd:=EZ.nd;have hu:=ED hr;have Fu:=hr.units;have big:100000 < sizeLine:=by decide
  refine ⟨_,(Ag (As (i:=1) nd rfl (Or.inr rfl) (Aj GC (hr.mono (by decide)) (by rfl) XC.mg XC.F.kp XC.b .nil Ax (Aa (pv 0) (Aa (Aj GO (hr.mono (by decide)) (by rfl) XO.mg XO.F.kp XO.b .nil Ax (Aa (pv 0) Ac)) Ac))))
  (Ao (AB (Aq (Ml rfl Fu) (by rfl) h_min PyProof.Rows.boot_min (Aa (Bt (N:=["opening","costs"]) (σ0:=fun σ=>[none,some 1].map fun j=>j.bind fun j=>(σ[j]?).join) rfl (AE.caught (by rfl) (by decide +kernel) rfl (by decide +kernel) (by intro y hy; simp only [ZU,af,or_false] at hy; rcases hy with rfl <;> rfl)
   (by intro y hy e; simp only [ZU,af,or_false] at hy; rcases hy with rfl | rfl | rfl <;> first | exact ⟨_,rfl⟩ | cases e)) (fun σ _=>Ba.of [none,some 1] rfl (by
   intro i j x h1 h2;match i,h1,h2 with
   | 0,_,h2=>cases h2
   | 1,h1,h2=>cases h1; cases h2; exact ⟨rfl,.inl rfl,.inl rfl⟩
   | n + 2,h1,_=>cases h1)) (pi_dT (pv 1))
   (fun s2 H C fp=>⟨(Ak (i:=0) (show (["opening","costs"]:List Str).Nodup by decide +kernel) rfl (Or.inl rfl)),Bc,(AX (Aa (B6 hu (pv 1) (pv 0) (fun _ _=>rfl)) (Aa (pv 0) Ac)))⟩)) Ac))))),?_⟩
  refine ⟨_,rfl,_,rfl,c,Am.map (·.1),x,d,rfl,cw.sites,by rw [ZR]; exact s6,fun H1 D us os s1 fD hD tU op ol=>?_⟩;have sne:Am.map (·.1) ≠ []:=by
   intro z;have:=cw.ok1.one;rw [eE] at z;rw [z] at this;simp at this
  have one:=op.ne sne cw.lim;refine ⟨c,D,m,n,xs,ws,Am,Ap,x,d,us,os,rfl,cw.same s1,hD,tU,op.1,fun ss hs=>op.opn cw.ok1.nd hs,ol,fun H2 D2 kvs s2 fD2 KZ kk kt=>?_⟩;obtain ⟨ks,Yj,ks2,ks3,ks4⟩:=IJ kk kt;have knd:(kvs.map (·.1)).Nodup:=by
   rw [kk];exact bX.mpr (op.1.imp fun {a b} ne e=>ne (K8 e))
  have kvl:kvs.length=os.length:=by
   have:=congrArg bH kk;rw [ZR,ZR] at this;exact this
  refine ⟨_,rfl,D2,kvs,rfl,KZ,fun o ts H3 fz tl tk=>?_⟩;obtain ⟨fz1,rfl⟩:=fz;have fH:H D2=none:=by
   cases z:H D2 with
   | none=>rfl
   | some o'=>rw [s1 _ _ z] at fD2; cases fD2
  have Mt:AD H (upd H2 D2 (.frz o (.dT kvs))):=fun b o' z=>by rw [Ae (Ah z fH)]; exact s2 _ _ (s1 _ _ z)
  have hfz:(upd H2 D2 (.frz o (.dT kvs))) D2=some (.frz o (.dT kvs)):=Ab;generalize upd H2 D2 (.frz o (.dT kvs))=H3 at Mt hfz tk;refine Bm SU (xs:=ts.map V.ref) (fun D3 j A8 H4 acc=>∃ v0:Option V,A8=[v0,some (.ref D2)]/\AD H3 H4/\H4 D3=some (.lst acc)/\acc.length=j/\∀ (q:Nat) w kq,acc[q]? = some w->ks[q]? = some kq->Ox H4 w kq)
   (by rw [ZR]; lia) (fun D3 GZ=>⟨_,rfl,Af GZ,Ab,rfl,fun q w kq e=>by simp at e⟩)
   (fun D3 j A8 H4 acc GZ ⟨v0,_,sa,Bg,al,_⟩=>⟨sa _ _ hfz,Bg,al⟩) ?_ ?_
  ·rintro D3 j A8 H4 acc x' B GZ ex ⟨v0,rfl,sa,Bg,al,kh⟩ hB;obtain ⟨t,et,rfl⟩:∃ t,ts[j]? = some t/\x'=.ref t:=by
    rw [ai] at ex;cases z:ts[j]? with
    | none=>rw [z] at ex; cases ex
    | some y=>rw [z] at ex; exact ⟨y,rfl,(aI.inj ex).symm⟩
   have hj:=(ag.mp et).1;have ekq:ks[j]? = some (ks[j]'(by lia)):=ZS _;generalize ks[j]'(by lia)=kq at ekq;have ekv:=ks3 j kq ekq;have htt:=sa _ _ (tk j t _ et ekv);have Zf:H4 t=some (.tup (kq.2.map V.str)):=by rw [htt,N3]
   have dg:CK H4 D2 (.ref t) (some (.int kq.1)):=.inr ⟨kvs,kq.2.map Sum.inr,t,.inr ⟨o,sa _ _ hfz⟩,rfl,htt,(Nx knd ekv).symm⟩;refine ⟨_,rfl,_,rfl,D2,.int kq.1,rfl,dg,_,rfl,(by show 2<=sizeLine; lia),fun T hT=>?_⟩;have sT:=Af (o:=.tup [.int kq.1,.ref t]) hT;have hDT:=sT _ _ Bg;have nT:T ≠ D3:=B8 Ab hDT (fun z=>by cases z);have keep:∀ b ys,H4 b=some (.tup ys)->(upd (upd H4 T (.tup [.int kq.1,.ref t])) D3 (.lst (acc ++ [.ref T]))) b=some (.tup ys):=fun b ys z=>by
    rw [Ae (B8 z Bg (fun q=>by cases q))];exact sT _ _ z
   refine hB _ _ _ hDT ⟨_,rfl,fun b o' z=>by rw [Ae (Ah z GZ)]; exact sT _ _ (sa _ _ z),Ab,by rw [ZY,al]; rfl,fun q w kq' e1 e2=>?_⟩;by_cases hq:q < acc.length
   ·rw [aY hq] at e1;exact (kh q w kq' e1 e2).same keep
   ·have hq2:=(ag.mp e1).1;rw [ZY,bo] at hq2;have hqj:q=j:=by lia
    subst hqj;rw [aP (by lia),show q - acc.length=0 by lia,aX] at e1;cases e1
    rw [ekq] at e2;cases e2
    exact ⟨T,t,rfl,by rw [Ae nT]; exact Ab,keep _ _ Zf⟩
  ·rintro D3 A8 H4 acc GZ ⟨v0,rfl,sa,Bg,al,kh⟩;rw [ZR] at al;have kne:ks ≠ []:=fun z=>by rw [z] at Yj; exact one Yj.symm
   refine ⟨D3,acc,ks,rfl,Bg,by lia,kne,kh,fun v kq hk hv hmin=>?_⟩;refine k H4 v kq (Mt.trans sa) hv ⟨?_,ks4 kq hk,fun ss t o' tt=>?_⟩
   ·exact (op.2.2 _).mp (by rw [<-Yj]; exact ZZ.mpr ⟨kq,hk,rfl⟩)
   ·have hm:=(op.2.2 ss).mpr o';rw [<-Yj] at hm;obtain ⟨k',Ng,rfl⟩:=ZZ.mp hm;rw [tt.uniq (ks4 k' Ng)];exact hmin k' Ng
end
section
variable {P:Program} {w:World} {K:ZV} {mg:Str->Option Value} {base:Heap}
theorem Gn {fN:Addr} {fdN:FuncData} (XN:Fn K mg "nearest" DH ["web","starts"] fN fdN) (GN:AG P w K mg base BD 2 fN fdN ["web","starts"] (M7 K)) {f:Addr} {fd:FuncData} (F:DP K "goings" "goings" FD f fd):AG P w K mg base BD 3 f fd ["case","opening"] Lp:=by
 refine F.ok J3 (fun vs H Q E h=>?_) (fun Cf A outer s H vs Q E hr h=>?_)
 ·obtain ⟨c,o,m,n,xs,ss,ws,Am,Ap,x,d,rfl,_⟩:=h;rfl
 ·obtain ⟨c,o,m,n,xs,ss,ws,Am,Ap,x,d,rfl,cw,ho,⟨sne,snd,ssub⟩,k⟩:=h;have nd:=J3.nd;have hu:=ED hr;have big:100000 < sizeLine:=by decide
  refine ⟨_,(Ag (Ee (pv 0) (Rg rfl (Av (Ak (i:=2) nd rfl (Or.inl rfl)) (Av (Ak (i:=3) nd rfl (Or.inl rfl)) (Av (Ak (i:=4) nd rfl (Or.inl rfl)) (Av (Ak (i:=5) nd rfl (Or.inl rfl)) B5))))))
  (Ag (As (i:=6) nd rfl (Or.inr rfl) (Aj GN (hr.mono (by decide)) (by rfl) XN.mg XN.F.kp XN.b .nil Ax (Aa (pv 2) (Aa (pv 1) Ac))))
  (Ao (AB (Bt (N:=["place","many","houses"]) (σ0:=fun σ=>[none,none,some 6].map fun j=>j.bind fun j=>(σ[j]?).join) rfl (AE.caught (by rfl) (by decide +kernel) rfl (by decide +kernel) (by intro y hy; simp only [ZU,af,or_false] at hy; rcases hy with rfl <;> rfl)
   (by intro y hy e; simp only [ZU,af,or_false] at hy; rcases hy with rfl | rfl | rfl | rfl <;> first | exact ⟨_,rfl⟩ | cases e)) (fun σ _=>Ba.of [none,none,some 6] rfl (by
   intro i j x h1 h2;match i,h1,h2 with
   | 0,_,h2=>cases h2
   | 1,_,h2=>cases h2
   | 2,h1,h2=>cases h1; cases h2; exact ⟨rfl,.inl rfl,.inl rfl⟩
   | n + 3,h1,_=>cases h1)) (MH (pv 4))
   (fun s2 H C fp=>⟨(BH K rfl (n:=2) rfl (Av (Ak (i:=0) (show (["place","many","houses"]:List Str).Nodup by decide +kernel) rfl (Or.inl rfl)) (Av (Ak (i:=1) (show (["place","many","houses"]:List Str).Nodup by decide +kernel) rfl (Or.inl rfl)) B5))),Bc,(AX (Aa (pv 0) (Aa (Al (Ai K rfl) (B6 hu (pv 2) (pv 0) (fun _ _=>rfl)) Ad (fun _ _=>rfl)) (Aa (Al (Ai K rfl) (B6 hu (pv 2) (pv 0) (fun _ _=>rfl)) Ad (fun _ _=>rfl)) Ac))))⟩)))))),?_⟩
  obtain ⟨t1,t2,Cv,F3,hc,EV,Eu,FO,hd2⟩:=cw.ex;obtain ⟨r,okw,pos,uni⟩:=cw.map.web cw.n1 cw.n30;refine ⟨_,rfl,c,_,rfl,A2.of hc,rfl,_,_,rfl,_,_,rfl,_,_,rfl,_,_,rfl,rfl,?_⟩;refine ⟨_,rfl,_,rfl,m,o,xs,ss,ws,r,rfl,okw,pos,uni,.inr ho,sne,snd,ssub,fun H1 B nv s1 fB hB knd kif kn=>?_⟩;have ul:=Bl hd2;have l2:=cw.l2;have Zp:AM H1 F3 (Ap.map BK):=Ar hd2 fun b ys z=>s1 _ _ z
  refine ⟨_,rfl,t2,rfl,⟨_,A2.of (s1 _ _ FO)⟩,?_⟩;refine Bm B4 (xs:=F3) (fun D i σ H' acc=>∃ (v0 v1:Option V) (gs:List AI),σ=[v0,v1,some (.ref B)]/\AD H1 H'/\H' D=some (.lst acc)/\AM H' acc (gs.map DC)/\acc.length=i/\gs.length=i/\∀ (j:Nat) r g,Ap[j]? = some r->gs[j]? = some g->g.1=r.1/\IY ws ss r.1 (g.2.2,g.2.1))
   (by lia) (fun D hD=>⟨_,_,[],rfl,Af hD,Ab,.nil,rfl,rfl,fun j r g _ e=>by simp at e⟩)
   (fun D i σ H' acc hD ⟨v0,v1,gs,_,sa,Bg,_,al,_⟩=>⟨A2.of (sa _ _ (s1 _ _ FO)),Bg,al⟩) ?_ ?_
  ·rintro D i σ H' acc x' Bk hD ex ⟨v0,v1,gs,rfl,sa,Bg,dd,al,gl,gok⟩ hBk;obtain ⟨u,t,eu,rfl,ht⟩:=B7 Zp ex;have ux:u.1 ∈ xs:=cw.ok2.sub u (ZW eu);obtain ⟨⟨y,v⟩,hm,rfl⟩:=ZZ.mp ((kif u.1).mpr ux);obtain ⟨p,⟨tp,rfl,htp⟩,near⟩:=kn _ _ hm;have ZD:=sa _ _ hB;have WO:=sa _ _ htp;have dg:CK H' B (.str u.1) (some (.ref tp)):=.inl ⟨_,Sum.inr u.1,.inl ZD,rfl,(Cm knd hm).symm⟩;refine ⟨t,_,rfl,A2.of (sa _ _ ht),rfl,_,_,rfl,_,_,rfl,rfl,?_⟩;refine ⟨_,rfl,_,rfl,_,rfl,B,.ref tp,rfl,dg,tp,_,1,.str p.2,rfl,rfl,A2.of WO,Cs (j:=1) rfl,_,rfl,_,rfl,B,.ref tp,rfl,dg,tp,_,0,.int p.1,rfl,rfl,A2.of WO,Cs (j:=0) rfl,(by show 3<=sizeLine; lia),fun T hT=>?_⟩;have sT:=Af (o:=.tup [.str u.1,.str p.2,.int p.1]) hT;have nT:T ≠ D:=by intro z; subst z; rw [Bg] at hT; cases hT
   refine hBk _ _ _ (sT _ _ Bg) ⟨_,_,gs ++ [(u.1,p.2,p.1)],rfl,fun b o' z=>by rw [Ae (Ah z hD)]; exact sT _ _ (sa _ _ z),Ab,?_,by rw [ZY,al]; rfl,by rw [ZY,gl]; rfl,fun j r' g er eg=>?_⟩
   ·rw [aa];refine BO (BV dd fun b ys z=>?_) (.cons (.tup (vs:=[.str u.1,.str p.2,.int p.1]) (by rw [Ae nT]; exact Ab) (.cons (.str _) (.cons (.str _) (.cons (.int _) .nil)))) .nil);rw [Ae (B8 z Bg (fun y=>by cases y))];exact sT _ _ z
   ·by_cases hj:j < gs.length
    ·rw [aY hj] at eg;exact gok j r' g er eg
    ·have Zj:=(ag.mp eg).1;rw [ZY,bo] at Zj;have hji:j=i:=by lia
     subst hji;rw [aP (by lia),gl,dX,aX] at eg;cases eg
     rw [eu] at er;cases er
     exact ⟨rfl,near⟩
  ·rintro D σ H' acc hD ⟨v0,v1,gs,rfl,sa,Bg,dd,al,gl,gok⟩;have fD:H D=none:=by
    cases z:H D with
    | none=>rfl
    | some o'=>rw [s1 _ _ z] at hD; cases hD
   exact k H' D acc gs (s1.trans sa) fD Bg dd ⟨by rw [gl,ul],gok⟩
theorem Dd (h_dict:mg "dict"=none) (h_sum:mg "sum"=none) {f:Addr} {fd:FuncData} (F:DP K "houses_cost" "houses_cost" BW f fd):AG P w K mg base BD 2 f fd ["case","opening"] DQ:=by
 refine F.ok E9 (fun vs H Q E h=>?_) (fun Cf A outer s H vs Q E hr h=>?_)
 ·obtain ⟨c,o,m,n,xs,ss,ws,Am,Ap,x,d,rfl,_⟩:=h;rfl
 ·obtain ⟨c,o,m,n,xs,ss,ws,Am,Ap,x,d,rfl,cw,ho,⟨sne,snd,ssub⟩,k⟩:=h;have nd:=E9.nd;have hu:=ED hr;have big:100000 < sizeLine:=by decide
  refine ⟨_,(Ag (As (i:=2) nd rfl (Or.inr rfl) (A5 (BR rfl) (by rfl) h_dict PyProof.Rows.boot_dict (Aa (Al MX (pv 0) Ad (fun _ _=>rfl)) Ac)))
  (Ao (AB (Aq (C8 rfl) (by rfl) h_sum PyProof.Rows.boot_sum (Aa (Bt (N:=["house","costs"]) (σ0:=fun σ=>[none,some 2].map fun j=>j.bind fun j=>(σ[j]?).join) rfl (AE.caught (by rfl) (by decide +kernel) rfl (by decide +kernel) (by intro y hy; simp only [ZU,af,or_false] at hy; rcases hy with rfl <;> rfl)
   (by intro y hy e; simp only [ZU,af,or_false] at hy; rcases hy with rfl | rfl | rfl <;> first | exact ⟨_,rfl⟩ | cases e)) (fun σ _=>Ba.of [none,some 2] rfl (by
   intro i j x h1 h2;match i,h1,h2 with
   | 0,_,h2=>cases h2
   | 1,h1,h2=>cases h1; cases h2; exact ⟨rfl,.inl rfl,.inl rfl⟩
   | n + 2,h1,_=>cases h1)) (MH (pv 1))
   (fun s2 H C fp=>⟨(Ak (i:=0) (show (["house","costs"]:List Str).Nodup by decide +kernel) rfl (Or.inl rfl)),Bc,(B6 hu (pv 1) (pv 0) (fun _ _=>rfl))⟩)) Ac))))),?_⟩
  obtain ⟨t1,t2,Cv,F3,hc,EV,Eu,FO,hd2⟩:=cw.ex;have ul:=Bl Eu;have l1:=cw.l1;have sl:ss.length<=Am.length:=by
   have:=List.Nodup.length_le_of_subset snd (fun s hs=>ssub s hs);rw [ZR] at this;exact this
  refine ⟨_,rfl,c,_,_,_,rfl,rfl,A2.of hc,rfl,t1,Cv,Cn Am,rfl,EV,by unfold Cn; rw [ZR]; exact ul,Km Eu,by rw [DI]; exact cw.ok1.nd,by unfold Cn; rw [ZR]; lia,fun B hB=>?_⟩;have s1:=Af (o:=.dK (sK (Cn Am))) hB;have Xy:(upd H B (.dK (sK (Cn Am)))) B=some (.dK (sK (Cn Am))):=Ab;generalize upd H B (.dK (sK (Cn Am)))=H1 at s1 Xy;refine ⟨_,rfl,o,rfl,⟨_,A2.of (s1 _ _ ho)⟩,?_⟩;refine Bm B4 (xs:=ss.map V.str) (fun D i σ H' acc=>∃ v0:Option V,σ=[v0,some (.ref B)]/\AD H1 H'/\H' D=some (.lst acc)/\acc=((ss.take i).map (A1 Am)).map V.int/\acc.length=i)
   (by rw [ZR]; lia) (fun D hD=>⟨_,rfl,Af hD,Ab,rfl,rfl⟩)
   (fun D i σ H' acc hD ⟨v0,_,sa,Bg,_,al⟩=>⟨A2.of (sa _ _ (s1 _ _ ho)),Bg,al⟩) ?_ ?_
  ·rintro D i σ H' acc x' Bk hD ex ⟨v0,rfl,sa,Bg,ea,al⟩ hBk;obtain ⟨y,ey,rfl⟩:∃ y,ss[i]? = some y/\x'=.str y:=by
    rw [ai] at ex;cases z:ss[i]? with
    | none=>rw [z] at ex; cases ex
    | some y=>rw [z] at ex; exact ⟨y,rfl,(aI.inj ex).symm⟩
   refine ⟨_,rfl,_,rfl,B,_,rfl,Lu (sa _ _ Xy) cw.ok1.nd (ssub y (ZW ey)),?_⟩;refine hBk _ _ _ Bg ⟨_,rfl,fun b o' z=>by rw [Ae (Ah z hD)]; exact sa _ _ z,Ab,?_,by rw [ZY,al]; rfl⟩;rw [ea,aD,ey,aa,aa];rfl
  ·rintro D σ H' acc hD ⟨v0,rfl,sa,Bg,ea,al⟩;rw [ZR,aL] at ea;exact ⟨D,ss.map (A1 Am),rfl,AV.of (by rw [Bg,ea]),k H' (s1.trans sa)⟩
theorem Ef (h_dict:mg "dict"=none) (h_sum:mg "sum"=none) {fG:Addr} {fdG:FuncData} (XG:Fn K mg "goings" FD ["case","opening"] fG fdG) (GG:AG P w K mg base BD 3 fG fdG ["case","opening"] Lp) {f:Addr} {fd:FuncData} (F:DP K "ways_cost" "ways_cost" CA f fd):AG P w K mg base BD 4 f fd ["case","opening"] Fi:=by
 refine F.ok F8 (fun vs H Q E h=>?_) (fun Cf A outer s H vs Q E hr h=>?_)
 ·obtain ⟨c,o,m,n,xs,ss,ws,Am,Ap,x,d,rfl,_⟩:=h;rfl
 ·obtain ⟨c,o,m,n,xs,ss,ws,Am,Ap,x,d,rfl,cw,ho,op,bd,k⟩:=h;have nd:=F8.nd;have hu:=ED hr;have big:100000 < sizeLine:=by decide
  refine ⟨_,(Ag (As (i:=2) nd rfl (Or.inr rfl) (A5 (BR rfl) (by rfl) h_dict PyProof.Rows.boot_dict (Aa (Al MX (pv 0) Ad (fun _ _=>rfl)) Ac)))
  (Ao (AB (Aq (C8 rfl) (by rfl) h_sum PyProof.Rows.boot_sum (Aa (Bt (N:=["place","house","length","manys"]) (σ0:=fun σ=>[none,none,none,some 2].map fun j=>j.bind fun j=>(σ[j]?).join) rfl (AE.caught (by rfl) (by decide +kernel) rfl (by decide +kernel) (by intro y hy; simp only [ZU,af,or_false] at hy; rcases hy with rfl <;> rfl)
   (by intro y hy e; simp only [ZU,af,or_false] at hy; rcases hy with rfl | rfl | rfl | rfl | rfl <;> first | exact ⟨_,rfl⟩ | cases e)) (fun σ _=>Ba.of [none,none,none,some 2] rfl (by
   intro i j x h1 h2;match i,h1,h2 with
   | 0,_,h2=>cases h2
   | 1,_,h2=>cases h2
   | 2,_,h2=>cases h2
   | 3,h1,h2=>cases h1; cases h2; exact ⟨rfl,.inl rfl,.inl rfl⟩
   | n + 4,h1,_=>cases h1)) (NT (Aj GG (hr.mono (by decide)) (by rfl) XG.mg XG.F.kp XG.b .nil Ax (Aa (pv 0) (Aa (pv 1) Ac))))
   (fun s2 H C fp=>⟨(BH K rfl (n:=3) rfl (Av (Ak (i:=0) (show (["place","house","length","manys"]:List Str).Nodup by decide +kernel) rfl (Or.inl rfl)) (Av (Ak (i:=1) (show (["place","house","length","manys"]:List Str).Nodup by decide +kernel) rfl (Or.inl rfl)) (Av (Ak (i:=2) (show (["place","house","length","manys"]:List Str).Nodup by decide +kernel) rfl (Or.inl rfl)) B5)))),Bc,(Aw NW (B6 hu (pv 3) (pv 0) (fun _ _=>rfl)) (pv 2))⟩)) Ac))))),?_⟩
  obtain ⟨t1,t2,Cv,F3,hc,EV,Eu,FO,hd2⟩:=cw.ex;have ul:=Bl hd2;have l2:=cw.l2;refine ⟨_,rfl,c,_,_,_,rfl,rfl,A2.of hc,rfl,t2,F3,Cn Ap,rfl,FO,by unfold Cn; rw [ZR]; exact ul,Km hd2,by rw [DI]; exact cw.ok2.nd,by unfold Cn; rw [ZR]; lia,fun B hB=>?_⟩;have s1:=Af (o:=.dK (sK (Cn Ap))) hB;have Xy:(upd H B (.dK (sK (Cn Ap)))) B=some (.dK (sK (Cn Ap))):=Ab;generalize upd H B (.dK (sK (Cn Ap)))=H1 at s1 Xy;refine ⟨_,rfl,_,rfl,c,o,m,n,xs,ss,ws,Am,Ap,x,d,rfl,cw.same s1,s1 _ _ ho,op,fun H2 G us gs s2 fG hG dG go=>?_⟩;have gl:=go.1;have usl:us.length=gs.length:=Le dG;refine ⟨G,rfl,⟨_,AV.of hG⟩,?_⟩;refine Bm Cy (xs:=us) (fun D i σ H' acc=>∃ v0 v1 v2:Option V,σ=[v0,v1,v2,some (.ref B)]/\AD H2 H'/\H' D=some (.lst acc)/\acc=((gs.take i).map fun g=>A1 Ap g.1 * g.2.2).map V.int/\acc.length=i)
   (by lia) (fun D hD=>⟨_,_,_,rfl,Af hD,Ab,rfl,rfl⟩)
   (fun D i σ H' acc hD ⟨v0,v1,v2,_,sa,Bg,_,al⟩=>⟨AV.of (sa _ _ hG),Bg,al⟩) ?_ ?_
  ·rintro D i σ H' acc x' Bk hD ex ⟨v0,v1,v2,rfl,sa,Bg,ea,al⟩ hBk;obtain ⟨g,t,eg,rfl,ht⟩:=DN dG ex;have hi:i < gs.length:=(ag.mp eg).1;have er:Ap[i]? = some (Ap[i]'(by lia)):=ZS _;have gm:=ZW eg;have e1:=(go.2 i _ _ er eg).1;have rm:=ZW er;have gp:g.1 ∈ Ap.map (·.1):=by rw [e1]; exact ZZ.mpr ⟨_,rm,rfl⟩
   have cb:1<=A1 Ap g.1/\A1 Ap g.1 < 10 ^ 30:=by rw [e1,Bx cw.ok2.nd rm]; exact cw.ok2.lo _ rm
   refine ⟨t,_,rfl,A2.of (sa _ _ ht),rfl,_,_,rfl,_,_,rfl,_,_,rfl,rfl,?_⟩;refine ⟨_,rfl,_,rfl,B,_,rfl,Lu (sa _ _ (s2 _ _ Xy)) cw.ok2.nd gp,_,rfl,_,_,rfl,rfl,⟨⟨by lia,by lia⟩,bd gs go g gm⟩,?_⟩;refine hBk _ _ _ Bg ⟨_,_,_,rfl,fun b o' z=>by rw [Ae (Ah z hD)]; exact sa _ _ z,Ab,?_,by rw [ZY,al]; rfl⟩;rw [ea,aD,eg,aa,aa];rfl
  ·rintro D σ H' acc hD ⟨v0,v1,v2,rfl,sa,Bg,ea,al⟩;rw [usl,aL] at ea;exact ⟨D,_,rfl,AV.of (by rw [Bg,ea]),k H' gs ((s1.trans s2).trans sa) go⟩
theorem NX {fH fW:Addr} {fdH fdW:FuncData} (XH:Fn K mg "houses_cost" BW ["case","opening"] fH fdH) (GH:AG P w K mg base BD 2 fH fdH ["case","opening"] DQ) (XW:Fn K mg "ways_cost" CA ["case","opening"] fW fdW) (GW:AG P w K mg base BD 4 fW fdW ["case","opening"] Fi) {f:Addr} {fd:FuncData} (F:DP K "cost" "cost" HR f fd):AG P w K mg base BD 5 f fd ["case","opening"] M8:=by
 refine F.ok NL (fun vs H Q E h=>?_) (fun Cf A outer s H vs Q E hr h=>?_)
 ·obtain ⟨c,o,m,n,xs,ss,ws,Am,Ap,x,d,rfl,_⟩:=h;rfl
 ·obtain ⟨c,o,m,n,xs,ss,ws,Am,Ap,x,d,rfl,cw,ho,op,op1,bd,k⟩:=h;have nd:=NL.nd;have big:100000 < sizeLine:=by decide
  refine ⟨_,(Ao (AB (Aw AY (Aj GH (hr.mono (by decide)) (by rfl) XH.mg XH.F.kp XH.b .nil Ax (Aa (pv 0) (Aa (pv 1) Ac))) (Aj GW (hr.mono (by decide)) (by rfl) XW.mg XW.F.kp XW.b .nil Ax (Aa (pv 0) (Aa (pv 1) Ac)))))),?_⟩;refine ⟨_,rfl,_,rfl,c,o,m,n,xs,ss,ws,Am,Ap,x,d,rfl,cw,ho,op1,fun H1 s1=>?_⟩;refine ⟨_,rfl,_,rfl,c,o,m,n,xs,ss,ws,Am,Ap,x,d,rfl,cw.same s1,s1 _ _ ho,op,bd,fun H2 gs s2 go=>⟨_,_,rfl,rfl,k H2 gs (s1.trans s2) go⟩⟩
end
theorem all_mk {l:eL} {w:World} {K:ZV} {h:Heap} {mg:Str->Option Value} {fa f1 f2 f3 f4 f5 f6 f7 f8 f9 f10 f11 f12 f13 f14 f15 f16 f17 f18 f19 f20 f21 f22 f23 f24 f25 f26:Addr} {d1 d2 d3 d4 d5 d6 d7 d8 d9 ZI ZH d12 d13 d14 d15 d16 d17 d18 d19 d20 d21 d22 d23 d24 d25 d26:FuncData} (X:K.In h) (G:h.Ns mainGlobals mg) (hfa:mg "law"=some (.ref fa))
  (a1:At K "neighbours" CM f1 d1) (a2:At K "fars" Kj f2 d2) (a3:At K "site_fars" Dq f3 d3) (a4:At K "nearest" DH f4 d4) (a5:At K "openings" DT f5 d5) (a6:At K "most_houses" C4 f6 d6) (a7:At K "plain_best" B9 f7 d7) (a8:At K "costs_of" DZ f8 d8) (a9:At K "goings" FD f9 d9) (a10:At K "houses_cost" BW f10 ZI) (a11:At K "ways_cost" CA f11 ZH) (a12:At K "cost" HR f12 d12) (a13:At K "_law_pen" EJ f13 d13) (a14:At K "_law_draw" DX f14 d14) (a15:At K "_law_names" BL f15 d15) (a16:At K "_law_great" Ds f16 d16) (a17:At K "_law_map" EL f17 d17) (a18:At K "_law_some" DU f18 d18) (a19:At K "_law_case" DY f19 d19) (a20:At K "_law_pair" DV f20 d20) (a21:At K "_law_together" Ck f21 d21) (a22:At K "_law_limits" CN f22 d22) (a23:At K "_law_changed" C5 f23 d23) (a24:At K "_law_factor" CO f24 d24) (a25:At K "_law_times" Dr f25 d25) (a26:At K "law" QH f26 d26)
  (z1:bC K mainGlobals "int"=some none) (z2:bC K mainGlobals "len"=some none) (z3:bC K mainGlobals "max"=some none) (z4:bC K mainGlobals "min"=some none) (z5:bC K mainGlobals "range"=some none) (z6:bC K mainGlobals "sorted"=some none) (z7:bC K mainGlobals "tuple"=some none) (z8:bC K mainGlobals "list"=some none) (z9:bC K mainGlobals "set"=some none) (z10:bC K mainGlobals "dict"=some none) (z11:bC K mainGlobals "sum"=some none) (z12:bC K mainGlobals "repr"=some none)  :
  ∃ fd:FuncData,(∀ (s:Shared) (v:Value),BindsTo s fd ⟨[v],[]⟩ [("_law_script",v)])/\∀ base:Heap,K.In base->base.Ns mainGlobals mg->AG l.prog w K mg base BD 8 fa fd ["_law_script"] (ND K):=by
 cases hfa.symm.trans (e7 X G a26.1)
 have y1:=bz X G z1;have y2:=bz X G z2;have y3:=bz X G z3;have y4:=bz X G z4;have y5:=bz X G z5;have y6:=bz X G z6;have y7:=bz X G z7;have y8:=bz X G z8;have y9:=bz X G z9;have Qd:=bz X G z10;have Sf:=bz X G z11;have y12:=bz X G z12;have n1:=Wv X G a1 (p:="web") fun _ _ _ _ _ _ _=>rfl
 have n2:=Ni X G a2 (p:="web") (q:="place") fun _ _ _ _ _ _ _ _=>rfl
 have n3:=Wv X G a3 (p:="case") fun _ _ _ _ _ _ _=>rfl
 have n4:=Ni X G a4 (p:="web") (q:="starts") fun _ _ _ _ _ _ _ _=>rfl
 have n5:=Wv X G a5 (p:="case") fun _ _ _ _ _ _ _=>rfl
 have n6:=Wv X G a6 (p:="case") fun _ _ _ _ _ _ _=>rfl
 have n7:=Wv X G a7 (p:="case") fun _ _ _ _ _ _ _=>rfl
 have n8:=Ni X G a8 (p:="case") (q:="chosen") fun _ _ _ _ _ _ _ _=>rfl
 have n9:=Ni X G a9 (p:="case") (q:="opening") fun _ _ _ _ _ _ _ _=>rfl
 have YQ:=Ni X G a10 (p:="case") (q:="opening") fun _ _ _ _ _ _ _ _=>rfl
 have YO:=Ni X G a11 (p:="case") (q:="opening") fun _ _ _ _ _ _ _ _=>rfl
 have n12:=Ni X G a12 (p:="case") (q:="opening") fun _ _ _ _ _ _ _ _=>rfl
 have n13:=Ni X G a13 (p:="_law_script") (q:="_law_k") fun _ _ _ _ _ _ _ _=>rfl
 have EU:=Ni X G a14 (p:="_law_pen_here") (q:="_law_many") fun _ _ _ _ _ _ _ _=>rfl
 have YN:=Ni X G a15 (p:="_law_pen_here") (q:="_law_many") fun _ _ _ _ _ _ _ _=>rfl
 have Td:=fa3 X G a16 (p:="_law_pen_here") (q:="_law_least") (r:="_law_size") fun _ _ _ _ _ _ _ _ _=>rfl
 have YM:=Ni X G a17 (p:="_law_pen_here") (q:="_law_many") fun _ _ _ _ _ _ _ _=>rfl
 have YL:=fa3 X G a18 (p:="_law_pen_here") (q:="_law_things") (r:="_law_most") fun _ _ _ _ _ _ _ _ _=>rfl
 have n19:=fa3 X G a19 (p:="_law_pen_here") (q:="_law_many") (r:="_law_most") fun _ _ _ _ _ _ _ _ _=>rfl
 have n20:=Ni X G a20 (p:="_law_pen_here") (q:="_law_sites") fun _ _ _ _ _ _ _ _=>rfl
 have n21:=fa3 X G a21 (p:="_law_case_here") (q:="_law_one") (r:="_law_other") fun _ _ _ _ _ _ _ _ _=>rfl
 have n22:=Wv X G a22 (p:="_law_case_here") fun _ _ _ _ _ _ _=>rfl
 have n23:=Ni X G a23 (p:="_law_pen_here") (q:="_law_case_here") fun _ _ _ _ _ _ _ _=>rfl
 have n24:=Ni X G a24 (p:="_law_pen_here") (q:="_law_case_here") fun _ _ _ _ _ _ _ _=>rfl
 have n25:=Ni X G a25 (p:="_law_case_here") (q:="_law_number") fun _ _ _ _ _ _ _ _=>rfl
 obtain ⟨oc,od,kV,doc,pm,an,Cf,ct,osl,e,lk,hcd⟩:=a26.2.ex;exact ⟨d26,fun s v=>by subst e; exact .of_eq rfl,fun base _ _=>Vr y1 y2 y3 y4 y5 n13 (Vq y2 a13.2) ⟨EU.F,EU.mg,EU.b⟩ (EN a14.2) n19 (LH y1 y6 y7 ⟨EU.F,EU.mg,EU.b⟩ (EN a14.2) ⟨YM.F,YM.mg,YM.b⟩ (Ta y1 y8 y5 y6 y7 ⟨YN.F,YN.mg,YN.b⟩ (OW ⟨y2,y4,y8,y5⟩ y1 ⟨EU.F,EU.mg,EU.b⟩ a15.2) ⟨EU.F,EU.mg,EU.b⟩ ⟨Td.F,Td.mg,Td.b⟩ (Ij ⟨EU.F,EU.mg,EU.b⟩ a16.2) a17.2) ⟨YL.F,YL.mg,YL.b⟩ (SY ⟨y2,y4,y8,y5⟩ ⟨EU.F,EU.mg,EU.b⟩ a18.2) ⟨Td.F,Td.mg,Td.b⟩ (Ij ⟨EU.F,EU.mg,EU.b⟩ a16.2) a19.2) n20 (LG y2 y5 y7 ⟨EU.F,EU.mg,EU.b⟩ (EN a14.2) a20.2) n21 (Hm y4 y9 y6 y7 n7 (C6 y4 n8 (Dx Qd y4 Sf n3 (CP n2 (HD ⟨⟨n1.F,n1.mg,n1.b⟩,y4,n4.F,n4.mg,n4.b⟩ a2.2) a3.2) a8.2) n5 (Dw y2 y6 n6 (Cq y2 y4 a6.2) a5.2) a7.2) n12 (NX YQ (Dd Qd Sf a10.2) YO (Ef Qd Sf n9 (Gn n4 (Eg ⟨n1.F,n1.mg,n1.b⟩ y4 a4.2) a9.2) a11.2) a12.2) YQ (Dd Qd Sf a10.2) YO (Ef Qd Sf n9 (Gn n4 (Eg ⟨n1.F,n1.mg,n1.b⟩ y4 a4.2) a9.2) a11.2) a21.2) n22 (Jj y2 y5 y12 n7 (C6 y4 n8 (Dx Qd y4 Sf n3 (CP n2 (HD ⟨⟨n1.F,n1.mg,n1.b⟩,y4,n4.F,n4.mg,n4.b⟩ a2.2) a3.2) a8.2) n5 (Dw y2 y6 n6 (Cq y2 y4 a6.2) a5.2) a7.2) n12 (NX YQ (Dd Qd Sf a10.2) YO (Ef Qd Sf n9 (Gn n4 (Eg ⟨n1.F,n1.mg,n1.b⟩ y4 a4.2) a9.2) a11.2) a12.2) a22.2) n23 (Ii Qd y2 y6 y7 n7 (C6 y4 n8 (Dx Qd y4 Sf n3 (CP n2 (HD ⟨⟨n1.F,n1.mg,n1.b⟩,y4,n4.F,n4.mg,n4.b⟩ a2.2) a3.2) a8.2) n5 (Dw y2 y6 n6 (Cq y2 y4 a6.2) a5.2) a7.2) ⟨EU.F,EU.mg,EU.b⟩ (EN a14.2) ⟨Td.F,Td.mg,Td.b⟩ (Ij ⟨EU.F,EU.mg,EU.b⟩ a16.2) a23.2) n25 (Kx y12 y7 n7 (C6 y4 n8 (Dx Qd y4 Sf n3 (CP n2 (HD ⟨⟨n1.F,n1.mg,n1.b⟩,y4,n4.F,n4.mg,n4.b⟩ a2.2) a3.2) a8.2) n5 (Dw y2 y6 n6 (Cq y2 y4 a6.2) a5.2) a7.2) a25.2) n24 (Jk y3 ⟨EU.F,EU.mg,EU.b⟩ (EN a14.2) a24.2) a26.2⟩
theorem Vf {K:ZV} {H:Hp} {a:Addr} {xs:List V} (o:Uc H) (h:AV K H a xs):TZ K H a xs:=by
 rcases h with (h | ⟨ob,h⟩) | h
 ·rcases o a with z | ⟨ob,ys,z⟩ <;> (rw [h] at z; cases z)
 ·exact .inl ⟨ob,h⟩
 ·exact .inr h
theorem walk {l:eL} {q:Program} {loose:List Str} {XP:(Str->Option Value)->Heap->Prop} {YP:World->Heap->Prop} {d:DefRec} {K:Params->ZV} (hn:l.most=some 63) (hdf:d.params.defaults=[])
  (hY:∀ (w:World) (h:Heap),YP w h->(K w.params).In h)
  (F:∀ (w:World) (mg:Str->Option Value) (fa:Addr) (h:Heap),(K w.params).In h->h.Ns mainGlobals mg->mg d.name=some (.ref fa) ->
   ∃ fd:FuncData,(∀ (s:Shared) (u:Value),BindsTo s fd ⟨[u],[]⟩ [("_law_script",u)])/\∀ base:Heap,(K w.params).In base->base.Ns mainGlobals mg->AG l.prog w (K w.params) mg base BD 8 fa fd ["_law_script"] (ND (K w.params))) :
  gD q loose XP YP l.row.toRowW d [] (fun f vs=>PySem.call f vs):=
 L2.walk_of (n:=63) (k:=8) (x:="_law_script") (CX:=fun _=>BD) (sp:=fun w=>ND (K w.params)) hn (by decide) hdf ⟨rfl,by decide,by decide,rfl⟩ hY F (fun _ _ a ns hl ho hS=>⟨a,ns,rfl,Vf ho hS,hl,fun _=>rfl⟩) fun _ _ _ _ _ z=>z
end K14
structure PySem.W.Fast:Prop where
  (tw2045195326190196526 tw8541107987246486483 tw8504364865857206486 tw4223029114479583665 tw1685778983729619150 tw18212279578508884335 tw17164934484332068864 tw2604938425214163823 tw11915306673754281076 tw17690697608271611055 tw13333695525936834446 tw7838753504713584702 tw14202024640691033611 tw1332157118731052209 tw3380169461824042174 tw17186967191034655064 tw9070441744223106448 tw17277133791057459373 tw6016326311850123206 tw7667919142195074256 tw13236677283325905264 tw8002481607850996582 tw7257058632194033232 tw14480071852176751874 tw15870071922045300418 tw10769036347113590450 tw16673665734363763181 tw8427808271047893691 tw8473051690839617500 tw2830163690547346392 tw18355741045729342735 tw10645169689534843335 tw14548066259685285757 tw8348803652991280650 tw2390888745355668706 tw5006894797513207059 tw11086577419726272157 tw9530833595391719803 tw5951801786652262111 tw3687299368652785988 tw929582589754140317 tw15484109294543108716 tw13489587972758808773 tw9455125190765950171 tw14977172107581137333 tw2754675576098386047 tw2277799828488285458 tw14296516307707026933 tw8266258604105267308 tw7497377640676237848 tw8395303190808996469 tw734390544645065622 tw11199581399361066228 tw7134519430202748743 tw982536704236178778 tw1692633739349016971 tw13425933550932394082 tw16401606800963262971 tw5663257381503182757 tw3505829118636344095 tw14583397270227570390 tw790379919603687685 tw70876410786850575 tw17261382131930216642 tw17167107353054615819 tw16904319879887537582 tw5834218257763710565 tw15996610460023831047 tw700186990271179363 tw17905565669710980131 tw1559368544961382073 tw7197871503689990604 tw18063944366524261566 tw2580291455575725802 tw17346539792720828759 tw16597268677293934381 tw2054331807600515526 tw3696034343119606446 tw3129490097407826349 tw10252844761522087093 tw14112570678194900284 tw5208224444502386502 tw4402823370800451537 tw14659974355347045323:True)
open PySem PySem.W PyProof.Rows
set_option maxRecDepth 100000 in
set_option maxHeartbeats 0 in
theorem PySem.Challenge.cw_openhouses_k14_whole_costs_hang_together_holds : PySem.Challenge.rw_openhouses_k14_whole_costs_hang_together.Holds := by
 w_on; o_law; k_head; (case hw=>w_witness2)
 k_fill
 refine K14.walk (l:=PySem.Challenge.rw_openhouses_k14_whole_costs_hang_together) rfl rfl (fun w h Y=>PySem.W.kIn_of Y) ?F
 case F=>
  intro w mg fa h KX G hmg;refine' K14.all_mk KX G hmg (L2.at_mk ?a1 ?l1 ?c1 ?k1) (L2.at_mk ?a2 ?l2 ?c2 ?k2) (L2.at_mk ?a3 ?l3 ?c3 ?k3) (L2.at_mk ?a4 ?l4 ?c4 ?k4) (L2.at_mk ?a5 ?l5 ?c5 ?k5) (L2.at_mk ?a6 ?l6 ?c6 ?k6) (L2.at_mk ?a7 ?l7 ?c7 ?k7) (L2.at_mk ?a8 ?l8 ?c8 ?k8) (L2.at_mk ?a9 ?l9 ?c9 ?k9) (L2.at_mk ?a10 ?l10 ?c10 ?k10) (L2.at_mk ?a11 ?l11 ?c11 ?k11) (L2.at_mk ?a12 ?l12 ?c12 ?k12) (L2.at_mk ?a13 ?l13 ?c13 ?k13) (L2.at_mk ?a14 ?l14 ?c14 ?k14) (L2.at_mk ?a15 ?l15 ?c15 ?k15) (L2.at_mk ?a16 ?l16 ?c16 ?k16) (L2.at_mk ?a17 ?l17 ?c17 ?k17) (L2.at_mk ?a18 ?l18 ?c18 ?k18) (L2.at_mk ?a19 ?l19 ?c19 ?k19) (L2.at_mk ?a20 ?l20 ?c20 ?k20) (L2.at_mk ?a21 ?l21 ?c21 ?k21) (L2.at_mk ?a22 ?l22 ?c22 ?k22) (L2.at_mk ?a23 ?l23 ?c23 ?k23) (L2.at_mk ?a24 ?l24 ?c24 ?k24) (L2.at_mk ?a25 ?l25 ?c25 ?k25) (L2.at_mk ?a26 ?l26 ?c26 ?k26) ?z1 ?z2 ?z3 ?z4 ?z5 ?z6 ?z7 ?z8 ?z9 ?z10 ?z11 ?z12;any_goals k_is
