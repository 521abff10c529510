import PyProof.Rows.All
import Wide.All
import OpenK.AllK
import Wide.FinOn
import Lean
import PyProof.EqAt
import PyProof.EqKinds
import PyProof.TupleCall
import PyProof.P3Eq
import PyProof.NeData
import PyProof.P3In
import PyProof.StrLawsChain
import KE.KIntText
import KE.IntTextLaws
import PyProof.Rows.StrJoinMade
import PyProof.Rows.FStr
import PyProof.ListMulRoad
import PySem.Challenge.RW_openhouses_k22_each_condition_of_a_paper
open List renaming getElem?_eq_getElem→eR,length_map→eU,mem_of_getElem?→eW,mem_cons→eX,length_append→eY,getElem?_map→eZ,not_mem_nil→ff,map_append→fg,getElem?_eq_some_iff→fh,mem_map→fi,mem_append_right→fm,mem_singleton→fo,mem_append→fq,size_toArray→fu,length_take→fJ,mem_cons_of_mem→fK,take_add_one→fQ,getD_eq_getElem?_getD→fS,map_cons→fU,mem_cons_self→fX,getElem_of_mem→fY,take_length→fZ,getElem?_append_right→gj,getElem?_append_left→gq,all_eq_true→gz,length_drop→gD,getElem?_cons_zero→gF,nodup_cons→gG,length_cons→gH,getElem_mem→gI,length→gK,map_map→gL,getElem?_zip_eq_some→gM,getElem?_eq_none→gO,pairwise_cons→gQ,range→gR,mem_append_left→gT,mem_of_mem_take→gU,length_reverse→gW,all_map→gY,take_of_length_le→gZ,pairwise_iff_getElem→h8,append_assoc→h9,getElem?_cons_succ→hX,mem_filter→ib,find?_cons→ic,map_take→ie,length_range→ig,pairwise_map→ik,mem_of_mem_drop→ip,filter_cons→iq,map_nil→ir,map_congr_left→iw,map_drop→iz,length_zip→i3,not_lt→i6,mem_range→i7,replicate→i8,ext_getElem?→i9,any_eq_true→iB,map_reverse→iC,any_cons→iD,lt_asymm→iE,append_nil→iG,filterMap_cons→iH,length_pos_iff→iI,filter_append→iK,getElem?_inj→iN,nodup_append→iO,getElem_take→iP,reverse_cons→iQ,getElem?_take_of_lt→iR,all_cons→iS,lookup_cons→iT,pairwise_singleton→iU,length_eq_zero_iff→iV,mem_reverse→iW,of_mem_zip→ja,filter_nil→jg,length_singleton→jh,lt_irrefl→jj,drop_zero→jk,cons→jm,mem_map_of_mem→jt,lt_trans→jv,mem_filterMap→jw,cons_append→j9,ext_getElem→jA,length_nil→jD,nodup_nil→jF,forIn_nil→jH,drop_eq_getElem_cons→jJ,sum_cons→jL,length_filterMap_le→jN,getElem?_set_self→jQ,filter_eq_nil_iff→jR,getElem?_reverse→jV,getElem?_set_ne→jW,mem_erase_of_ne→ka,pairwise_append→kb,length_eraseIdx→ke,getElem_toArray→kf,getElem?_of_mem→kg,take_succ_cons→kq,drop_succ_cons→ku,zip_cons_cons→kC,map_inj_right→kD,getElem?_drop→kG,take_sublist→kJ,flatten_cons→kL,getElem_inj→kN,zipIdx_cons→kQ,nil_append→kR,foldl_cons→kS,zipIdx_nil→kU,forIn_cons→kW,filterMap→kX,take_zero→kY,le_trans→lh,take_nil→lp,drop_nil→lq
open PySem.Heap renaming get?_push_of_some→eT,lt_size→fb,get?_push_size→fe,size_push→gh,get?_update_other→g8,get?_update_self→gA,get?_update_ne→kA,size_update→kP
open PySem.W renaming Frag→eV,mg_none_of→gm,nsIn→g9,kia_one→gN,mg_of→gX,fnOf→hZ,kitOne→i5,keepIn→iZ,codeIn→jb,methodObj→ju,instObj→jz,OpenLaw→j6,lookIn→jB,cellsFrom_some→jI,kitx_list→jX,kitx_dict→jY,plainGet→ko,findIn→kI,WalkO→kO
open Nat renaming le_refl→fc,ne_of_lt→fj,lt_of_lt_of_le→fk,le_trans→gc,lt_succ_of_lt→gf,lt_succ_self→gi,zero_le→gr,le_succ→gy,ne_of_gt→gB,lt_irrefl→gC,not_lt_zero→hV,zero_add→iu,le_of_lt→iY,not_lt→jd,sub_self→jf,mul_le_mul_right→jo,le_succ_of_le→j8,min_eq_left→jE,lt_or_ge→jS,add_sub_cancel→kK,mod_lt→lB
open Bool renaming false_ne_true→fH,false_eq_true→gx,and_eq_true→gE,eq_iff_iff→gP,false_and→ji,and_eq_true_iff→kh,not_eq_true'→kH,or_false→kZ,and_true→lg,not_true→lj
open Option renaming some→fV,map_some→iy,none→iA,isSome_iff_exists→iM,toList→jr,isSome_map→jy,isSome_some→jZ,getD_none→kB
open Array renaming length_toList→gg,perm_iff_toList_perm→iJ,toList→iX,getElem?_toList→jc,toList_append→jq,toList_inj→j7,getD_eq_getD_getElem?→jC,getElem?_eq_getElem→jG,ext→jM,mem_of_getElem?→jP,mem_toList_iff→jT,toList_push→kF,getD→lx
open Int renaming le_refl→gJ,emod_nonneg→i4,mul_le_mul_of_nonneg_right→iF,emod_lt_of_pos→iL,zero_add→je,toNat_natCast→j4,ediv_one→j5,mul_le_mul→jK,add_assoc→jO,add_zero→jU,natAbs_dvd_natAbs→kc,lt_of_le_of_lt→kM,mul_nonneg→lu,le_trans→ly,mul_one→lz,max_def→lA
local macro_rules|`(tactic|exists $es,*)=>`(tactic|refine ⟨$es,*, ?_⟩)
set_option Elab.async false
set_option linter.all false
set_option maxRecDepth 100000
set_option maxHeartbeats 4000000
namespace L2
open PySem PySem.W PyProof.Rows
structure Qy (lt:Keyed->Keyed->Bool):Prop where
 irr:∀ a,lt a a=false
 tra:∀ a b c,lt a b=true->lt b c=true->lt a c=true
 neg:∀ a b c,lt a c=true->lt a b=true\/lt b c=true
def Nl (lt:Keyed->Keyed->Bool) (a b:Keyed):Prop:=lt b a=false
section
variable {lt:Keyed->Keyed->Bool}
theorem Qy.rfl' (h:Qy lt) (a:Keyed):Nl lt a a:=h.irr a
theorem Qy.of_lt (h:Qy lt) {a b:Keyed} (e:lt a b=true):Nl lt a b:=by
 unfold Nl;cases z:lt b a
 ·rfl
 ·have:=h.tra _ _ _ e z;rw [h.irr] at this;cases this
theorem Qy.trans (h:Qy lt) {a b c:Keyed} (x:Nl lt a b) (y:Nl lt b c):Nl lt a c:=by
 unfold Nl at *;cases z:lt c a
 ·rfl
 ·rcases h.neg _ b _ z with q | q
  ·rw [y] at q; cases q
  ·rw [x] at q; cases q
end
def Cd (xs:Array Keyed) (i:Nat):Keyed:=xs.getD i (Value.none,Value.none)
theorem OE {xs:Array Keyed} {i:Nat} (h:i < xs.size):xs[i]? = some (Cd xs i):=by
 unfold Cd;simp [lx,h]
theorem Ja {xs ys:Array Keyed} {i j:Nat} (h:xs[i]? = ys[j]?):Cd xs i=Cd ys j:=by
 unfold Cd;rw [jC,jC,h]
theorem OD {xs:Array Keyed} {i:Nat} (h:i < xs.size):Cd xs i ∈ xs:=jP (OE h)
def X8 (prog:Program) (w:World) (A:Around) (s:Shared) (κ:SortKind) (lt:Keyed->Keyed->Bool) (a0:Array Keyed):Prop:=
 ∀ x y,x ∈ a0->y ∈ a0->∀ (Q:Bool->Shared->Prop) (E:Value->Shared->Prop),Q (lt x y) s->wpAny (model prog w) A (keyLt' κ x.1 y.1) Q E s
section
variable {prog:Program} {w:World} {A:Around} {E:Value->Shared->Prop} {s:Shared} {κ:SortKind} {lt:Keyed->Keyed->Bool} {a0:Array Keyed}
theorem JT {xs:Array Keyed} {i:Nat} {Q:Keyed->SortSt->Prop} {st:SortSt} (hi:i < xs.size) (h:Q (Cd xs i) st):wpS (model prog w) A E s (elem' xs i) Q st:=by
 rw [elem'_eq,OE hi];exact wpS_pure h
theorem Ti {x y:Keyed} {Q:Option Bool->SortSt->Prop} {st:SortSt} (an:X8 prog w A s κ lt a0) (hk:kindOf st=κ) (hx:x ∈ a0) (hy:y ∈ a0) (h:Q (some (lt x y)) st) :
  wpS (model prog w) A E s (lt' x y) Q st:=by
 rw [lt'_eq];refine wpS_bind (wpS_get ?_);rw [hk];refine wpS_bind (wpS_lift (wpAny_attempt (an x y hx hy _ _ ⟨rfl,?_⟩)));exact wpS_pure h
theorem CU {i j:Nat} {Q:Option Bool->SortSt->Prop} {st:SortSt} (an:X8 prog w A s κ lt a0) (hk:kindOf st=κ) (hp:(arrOf st).Perm a0) (hi:i < a0.size) (hj:j < a0.size)
  (h:Q (some (lt (Cd (arrOf st) i) (Cd (arrOf st) j))) st):wpS (model prog w) A E s (ltAt' i j) Q st:=by
 rw [ltAt'_eq];refine wpS_bind (wpS_get ?_);have e:=hp.size_eq;refine wpS_bind (JT (by lia) (wpS_bind (JT (by lia) ?_)));exact Ti an hk ((Array.Perm.mem_iff hp).mp (OD (by lia))) ((Array.Perm.mem_iff hp).mp (OD (by lia))) h
theorem LH {ρ:Type} {body:Nat->Option ρ × Nat × Nat->StateT SortSt Sem (ForInStep (Option ρ × Nat × Nat))} {f:Nat->Bool} {n lo hi:Nat} {st:SortSt}
  (hs:∀ x l (R:ForInStep (Option ρ × Nat × Nat)->SortSt->Prop),R (.done (none,l,l)) st->wpS (model prog w) A E s (body x (none,l,l)) R st)
  (hg:∀ x l r (R:ForInStep (Option ρ × Nat × Nat)->SortSt->Prop),l < r->r<=n ->
   (f (l + (r - l) / 2)=true->R (.yield (none,l + (r - l) / 2 + 1,r)) st)->(f (l + (r - l) / 2)=false->R (.yield (none,l,l + (r - l) / 2)) st)->wpS (model prog w) A E s (body x (none,l,r)) R st)
  (hl:lo<=hi) (hn:hi<=n) (mono:∀ i j,i<=j->j < n->f j=true->f i=true)
  (h1:∀ i,i < lo->f i=true) (h2:∀ i,hi<=i->i < n->f i=false) :
  wpS (model prog w) A E s (forIn [0:n] (none,lo,hi) body) (fun c AZ=>AZ=st/\∃ r,c=(none,r,r)/\r<=n/\(∀ i,i < r->f i=true)/\(∀ i,r<=i->i < n->f i=false)) st:=by
 refine wpS_forRange (I:=fun x c AZ=>AZ=st/\∃ l r,c=(none,l,r)/\l<=r/\r<=n/\r - l<=n - x/\(∀ i,i < l->f i=true)/\(∀ i,r<=i->i < n->f i=false)) ?_ ?_ ⟨rfl,lo,hi,rfl,hl,hn,by lia,h1,h2⟩
 ·rintro x c AZ _ hx ⟨rfl,l,r,rfl,q1,q2,q3,q4,q5⟩;by_cases hlr:l < r
  ·have hm:l + (r - l) / 2 < r:=by lia
   refine hg _ _ _ _ hlr q2 (fun e=>?_) (fun e=>?_)
   ·exact ⟨rfl,_,r,rfl,by lia,by lia,by lia,fun i i1=>mono _ _ (by lia) (by lia) e,q5⟩
   ·refine ⟨rfl,l,_,rfl,by lia,by lia,by lia,q4,fun i i1 i2=>?_⟩;cases z:f i
    ·rfl
    ·rw [mono _ _ i1 i2 z] at e; cases e
  ·have:l=r:=by lia
   subst this;exact hs _ _ _ ⟨rfl,l,rfl,q2,q4,q5⟩
 ·rintro c AZ ⟨rfl,l,r,rfl,q1,q2,q3,q4,q5⟩;have:l=r:=by lia
  subst this;exact ⟨rfl,l,rfl,q2,q4,q5⟩
end
section lists
variable {lt:Keyed->Keyed->Bool}
theorem IZ {xs:Array Keyed} {i:Nat} (h:i < xs.toList.length):xs.toList[i]=Cd xs i:=by
 have h':i < xs.size:=by simpa using h
 unfold Cd;simp [lx,h']
theorem VE {xs:Array Keyed} (h:∀ i j,i < j->j < xs.size->Nl lt (Cd xs i) (Cd xs j)):xs.toList.Pairwise (Nl lt):=by
 rw [h8];intro i j hi hj hij;rw [IZ,IZ];exact h i j hij (by simpa using hj)
end lists
section
variable {prog:Program} {w:World} {A:Around} {E:Value->Shared->Prop} {s:Shared} {κ:SortKind} {lt:Keyed->Keyed->Bool} {a0:Array Keyed}
end
section
variable {prog:Program} {w:World} {A:Around} {E:Value->Shared->Prop} {s:Shared} {κ:SortKind} {lt:Keyed->Keyed->Bool} {a0:Array Keyed}
end
section segs
variable {lt:Keyed->Keyed->Bool}
def SS (lt:Keyed->Keyed->Bool) (xs:Array Keyed) (lo hi:Nat):Prop:=∀ i j,lo<=i->i<=j->j < hi->Nl lt (Cd xs i) (Cd xs j)
def NS (lt:Keyed->Keyed->Bool) (xs:Array Keyed) (lo hi:Nat):Prop:=∀ i j,lo<=i->i<=j->j < hi->Nl lt (Cd xs j) (Cd xs i)
theorem Dl {xs:Array Keyed} {i j:Nat} (hj:j<=xs.size) (k:Nat):Cd (mirror xs i j ((j - i) / 2)) k=if i<=k/\k < j then Cd xs (i + j - 1 - k) else Cd xs k:=by
 have e:=getElem?_mirror_all (i:=i) hj k;split at e
 ·rw [if_pos ‹_›]; exact Ja e
 ·rw [if_neg ‹_›]; exact Ja e
theorem F7 {xs:Array Keyed} {src d:Nat} (hs:src < xs.size) (hd:d<=src) (k:Nat) :
  Cd (bubble xs src d) k=if k=src - d then Cd xs src else if src - d < k/\k<=src then Cd xs (k - 1) else Cd xs k:=by
 have e:=getElem?_bubble hs d hd k;by_cases h1:k=src - d
 ·rw [if_pos h1] at e ⊢; exact Ja e
 ·by_cases h2:src - d < k/\k<=src
  ·rw [if_neg h1,if_pos h2] at e ⊢; exact Ja e
  ·rw [if_neg h1,if_neg h2] at e ⊢; exact Ja e
theorem NS.mirror {xs:Array Keyed} {lo hi:Nat} (h:NS lt xs lo hi) (hs:hi<=xs.size):SS lt (mirror xs lo hi ((hi - lo) / 2)) lo hi:=by
 intro i j h1 h2 h3;rw [Dl hs,Dl hs,if_pos ⟨h1,by lia⟩,if_pos ⟨by lia,h3⟩];exact h _ _ (by lia) (by lia) (by lia)
theorem NS.even {xs:Array Keyed} {lo p hi:Nat} (h:NS lt xs lo hi) (hs:hi<=xs.size) (hp:lo<=p) (e:∀ i j,p<=i->i < hi->p<=j->j < hi->Nl lt (Cd xs i) (Cd xs j)) {top:Nat} (ht:hi<=top) (h':NS lt xs lo top) :
  NS lt (PyProof.Rows.mirror xs p hi ((hi - p) / 2)) lo top:=by
 intro i j h1 h2 h3;rw [Dl hs,Dl hs];by_cases c1:p<=j/\j < hi
 ·rw [if_pos c1];by_cases c2:p<=i/\i < hi
  ·rw [if_pos c2];exact e _ _ (by lia) (by lia) (by lia) (by lia)
  ·rw [if_neg c2];exact h' _ _ h1 (by lia) (by lia)
 ·rw [if_neg c1];by_cases c2:p<=i/\i < hi
  ·rw [if_pos c2];exact h' _ _ (by lia) (by lia) h3
  ·rw [if_neg c2];exact h' _ _ h1 h2 h3
def Kp (xs ys:Array Keyed) (lo:Nat):Prop:=ys.Perm xs/\∀ k,k < lo->Cd ys k=Cd xs k
theorem Kp.refl (xs:Array Keyed) (lo:Nat):Kp xs xs lo:=⟨Array.Perm.refl _,fun _ _=>rfl⟩
theorem Kp.size {xs ys:Array Keyed} {lo:Nat} (h:Kp xs ys lo):ys.size=xs.size:=h.1.size_eq
theorem Kp.mirror {xs ys:Array Keyed} {lo i j:Nat} (h:Kp xs ys lo) (hj:j<=xs.size) (hi:lo<=i):Kp xs (PyProof.Rows.mirror ys i j ((j - i) / 2)) lo:=by
 refine ⟨(mirror_perm _ _ _ _).trans h.1,fun k hk=>?_⟩;rw [Dl (by rw [h.size]; exact hj),if_neg (by lia)];exact h.2 k hk
theorem Kp.bubble {xs ys:Array Keyed} {lo src d:Nat} (h:Kp xs ys lo) (hs:src < xs.size) (hd:lo + d<=src):Kp xs (PyProof.Rows.bubble ys src d) lo:=by
 refine ⟨(bubble_perm _ _ _).trans h.1,fun k hk=>?_⟩;rw [F7 (by rw [h.size]; exact hs) (by lia),if_neg (by lia),if_neg (by lia)];exact h.2 k hk
end segs
section
variable {prog:Program} {w:World} {A:Around} {E:Value->Shared->Prop} {s:Shared} {κ:SortKind} {lt:Keyed->Keyed->Bool} {a0:Array Keyed}
theorem FJ {i j:Nat} {Q:Unit->SortSt->Prop} {st:SortSt} (h:Q () (setArr st (mirror (arrOf st) i j ((j - i) / 2)))):wpS (model prog w) A E s (reverseSlice' i j) Q st:=by
 rw [reverseSlice'_eq];exact wpS_modify h
theorem Ob {body:Nat->Option (Option Nat) × Nat->StateT SortSt Sem (ForInStep (Option (Option Nat) × Nat))} {f:Nat->Bool} {a nrem:Nat} {st:SortSt} (ha:a<=nrem)
  (hb:∀ x n (R:ForInStep (Option (Option Nat) × Nat)->SortSt->Prop),a<=n->n < nrem->(f n=true->R (.done (none,n)) st)->(f n=false->R (.yield (none,n + 1)) st)->wpS (model prog w) A E s (body x (none,n)) R st) :
  wpS (model prog w) A E s (forIn [a:nrem] (none,a) body) (fun c AZ=>AZ=st/\∃ n,c=(none,n)/\a<=n/\n<=nrem/\(∀ i,a<=i->i < n->f i=false)/\(n=nrem\/f n=true)) st:=by
 refine wpS_forRange (I:=fun x c AZ=>AZ=st/\c=(none,x)/\(∀ i,a<=i->i < x->f i=false)) ?_ ?_ ⟨rfl,rfl,fun i h1 h2=>by lia⟩
 ·rintro x c AZ h1 h2 ⟨rfl,rfl,q⟩;refine hb _ _ _ h1 h2 (fun e=>⟨rfl,x,rfl,h1,by lia,q,.inr e⟩) (fun e=>⟨rfl,rfl,fun i i1 i2=>?_⟩);by_cases z:i=x
  ·rw [z]; exact e
  ·exact q i i1 (by lia)
 ·rintro c AZ ⟨rfl,rfl,q⟩;rw [Nat.max_eq_right ha] at q ⊢;exact ⟨rfl,nrem,rfl,ha,fc _,q,.inl rfl⟩
theorem UP {xs:Array Keyed} (sw:Qy lt) {lo a n:Nat} (h:SS lt xs lo (lo + a)) (ha:1<=a) (q:∀ i,a<=i->i < n->lt (Cd xs (lo + i)) (Cd xs (lo + i - 1))=false):SS lt xs lo (lo + n):=by
 have step:∀ d,a + d<=n->SS lt xs lo (lo + (a + d)):=by
  intro d;induction d with
  | zero=>intro _; exact h
  | succ d ih=>
   intro hd i j h1 h2 h3;by_cases hj:j < lo + (a + d)
   ·exact ih (by lia) i j h1 h2 hj
   ·have ej:j=lo + (a + d):=by lia
    by_cases hi:i=j
    ·rw [hi]; exact sw.rfl' _
    ·have q1:=q (a + d) (by lia) (by lia);rw [<-ej] at q1;exact sw.trans (ih (by lia) i (j - 1) h1 (by lia) (by lia)) q1
 rcases jS n a with B6 | hge
 ·exact fun i j h1 h2 h3=>h i j h1 h2 (by lia)
 ·have:=step (n - a) (by lia);rw [show a + (n - a)=n by lia] at this;exact this
theorem J4 {lo nrem:Nat} {Q:Option Nat->SortSt->Prop} {st:SortSt} (sw:Qy lt) (an:X8 prog w A s κ lt a0) (hk:kindOf st=κ) (hp:(arrOf st).Perm a0) (hn:lo + nrem<=a0.size) (h1:1<=nrem)
  (h:∀ m ys,Kp (arrOf st) ys lo->1<=m->m<=nrem->SS lt ys lo (lo + m)->Q (some m) (setArr st ys)):wpS (model prog w) A E s (countRun' lo nrem) Q st:=by
 have hz:=hp.size_eq;refine wpS_bind (wpS_mono (Ob (f:=fun n=>lt (Cd (arrOf st) (lo + n)) (Cd (arrOf st) (lo + n - 1))) h1 ?_) ?_)
 ·intro x n R n1 n2 y1 y2;dsimp only;refine wpS_bind (CU an hk hp (by lia) (by lia) ?_);dsimp only;cases e:lt (Cd (arrOf st) (lo + n)) (Cd (arrOf st) (lo + n - 1))
  ·exact wpS_pure (y2 e)
  ·exact wpS_pure (y1 e)
 rintro c AZ ⟨rfl,n,rfl,n1,n2,q,hor⟩;dsimp only;have s0:SS lt (arrOf AZ) lo (lo + 1):=fun i j a1 a2 a3=>by
  have:i=j:=by lia
  rw [this];exact sw.rfl' _
 have sn:SS lt (arrOf AZ) lo (lo + n):=UP sw s0 (fc _) q;by_cases hnn:n=nrem
 ·rw [if_pos (by simpa using hnn)];exact wpS_pure (h n _ (Kp.refl _ _) n1 n2 sn)
 rw [if_neg (by simpa using hnn)];have B6:lt (Cd (arrOf AZ) (lo + n)) (Cd (arrOf AZ) (lo + n - 1))=true:=hor.resolve_left hnn;by_cases hgt:n > 1
 case' pos=>
  rw [if_pos hgt];refine wpS_bind (CU an hk hp (by lia) (by lia) ?_);dsimp only;cases hrose:lt (Cd (arrOf AZ) lo) (Cd (arrOf AZ) (lo + n - 1))
  case' true=>
   simp only [if_true];exact wpS_pure (h n _ (Kp.refl _ _) n1 n2 sn)
  case' false=>
   simp only [gx,if_false];refine wpS_bind (FJ ?_);have even:∀ i j,lo<=i->i < lo + n->lo<=j->j < lo + n->Nl lt (Cd (arrOf AZ) i) (Cd (arrOf AZ) j):=by
    intro i j a1 a2 a3 a4;have b1:=sn lo j (fc _) a3 a4;have b2:=sn i (lo + n - 1) a1 (by lia) (by lia);exact sw.trans (sw.trans b2 hrose) b1
   have ns0:NS lt (arrOf AZ) lo (lo + n):=fun i j a1 a2 a3=>even j i (by lia) a3 a1 (by lia)
   have ns1:NS lt (arrOf AZ) lo (lo + (n + 1)):=by
    intro i j a1 a2 a3;by_cases hj:j < lo + n
    ·exact ns0 i j a1 a2 hj
    ·have ej:j=lo + n:=by lia
     by_cases hi:i=j
     ·rw [hi]; exact sw.rfl' _
     ·rw [ej];exact sw.trans (sw.of_lt B6) (even _ _ (by lia) (by lia) a1 (by lia))
   have kp:Kp (arrOf AZ) (mirror (arrOf AZ) lo (lo + n) ((lo + n - lo) / 2)) lo:=(Kp.refl _ _).mirror (by lia) (fc _);have ns:NS lt (mirror (arrOf AZ) lo (lo + n) ((lo + n - lo) / 2)) lo (lo + (n + 1)):=ns0.even (by lia) (fc _) even (by lia) ns1;obtain ⟨ys,ey⟩:∃ ys,ys=mirror (arrOf AZ) lo (lo + n) ((lo + n - lo) / 2):=⟨_,rfl⟩
   rw [<-ey] at kp ns;show wpS (model prog w) A E s _ Q (setArr AZ (mirror (arrOf AZ) lo (lo + n) ((lo + n - lo) / 2)))
   rw [<-ey]
 case' neg=>
  rw [if_neg hgt];have en:n=1:=by lia
  have kp:Kp (arrOf AZ) (arrOf AZ) lo:=Kp.refl _ _;have ns:NS lt (arrOf AZ) lo (lo + (n + 1)):=by
   intro i j a1 a2 a3;by_cases hi:i=j
   ·rw [hi]; exact sw.rfl' _
   ·have e1:j=lo + n:=by lia
    have e2:i=lo + n - 1:=by lia
    rw [e1,e2];exact sw.of_lt B6
  obtain ⟨ys,ey⟩:∃ ys,ys=arrOf AZ:=⟨_,rfl⟩
  rw [<-ey] at ns;have kp:Kp (arrOf AZ) ys lo:=by rw [ey]; exact Kp.refl _ _
  show wpS (model prog w) A E s _ Q (setArr AZ (arrOf AZ))
  rw [<-ey]
 all_goals
  refine wpS_bind (wpS_lift (wpAny_rule ⟨rfl,?_⟩));refine wpS_bind (wpS_mono (wpS_forRange (I:=fun x c HL=>∃ neq ys,c=(none,x,neq)/\HL=setArr AZ ys/\Kp (arrOf AZ) ys lo/\NS lt ys lo (lo + x)/\neq + 1<=x /\
    (∀ i j,lo + x - (neq + 1)<=i->i < lo + x->lo + x - (neq + 1)<=j->j < lo + x->Nl lt (Cd ys i) (Cd ys j)))
   (Q:=fun c HL=>∃ m neq ys,c=(none,m,neq)/\HL=setArr AZ ys/\Kp (arrOf AZ) ys lo/\n + 1<=m/\m<=nrem/\NS lt ys lo (lo + m)/\neq + 1<=m /\
    (∀ i j,lo + m - (neq + 1)<=i->i < lo + m->lo + m - (neq + 1)<=j->j < lo + m->Nl lt (Cd ys i) (Cd ys j))) ?dstep ?dfin ?dinit) ?dpost)
  case dinit=>
   refine ⟨0,ys,rfl,rfl,kp,ns,by lia,fun i j a1 a2 a3 a4=>?_⟩;have:i=j:=by lia
   rw [this];exact sw.rfl' _
  case dfin=>
   rintro c HL ⟨neq,ys,rfl,rfl,kp,ns,a1,a2⟩;have e:max (n + 1) nrem=nrem:=by lia
   rw [e] at ns a1 a2 ⊢;exact ⟨nrem,neq,ys,rfl,rfl,kp,by lia,fc _,ns,a1,a2⟩
  case dstep=>
   rintro x c HL x1 x2 ⟨neq,ys,rfl,rfl,kp,ns,a1,a2⟩;dsimp only;have hzy:=kp.size;have hpy:(arrOf (setArr AZ ys)).Perm a0:=kp.1.trans hp;refine wpS_bind (CU (st:=setArr AZ ys) an hk hpy (by lia) (by lia) ?_);dsimp only;cases hless:lt (Cd ys (lo + x)) (Cd ys (lo + x - 1))
   ·simp only [gx,if_false];refine wpS_bind (CU (st:=setArr AZ ys) an hk hpy (by lia) (by lia) ?_);dsimp only;cases hlarger:lt (Cd ys (lo + x - 1)) (Cd ys (lo + x))
    ·simp only [gx,if_false];refine wpS_pure ⟨neq + 1,ys,rfl,rfl,kp,?_,by lia,?_⟩
     ·intro i j b1 b2 b3;by_cases hj:j < lo + x
      ·exact ns i j b1 b2 hj
      ·have ej:j=lo + x:=by lia
       by_cases hi:i=j
       ·rw [hi]; exact sw.rfl' _
       ·rw [ej];exact sw.trans hlarger (ns _ _ b1 (by lia) (by lia))
     ·have pin:∀ i,lo + (x + 1) - (neq + 1 + 1)<=i->i < lo + (x + 1)->Nl lt (Cd ys i) (Cd ys (lo + x - 1))/\Nl lt (Cd ys (lo + x - 1)) (Cd ys i):=by
       intro i b1 b2;by_cases hi:i=lo + x
       ·rw [hi];exact ⟨hlarger,hless⟩
       ·exact ⟨a2 _ _ (by lia) (by lia) (by lia) (by lia),a2 _ _ (by lia) (by lia) (by lia) (by lia)⟩
      intro i j b1 b2 b3 b4;exact sw.trans (pin i b1 b2).1 (pin j b3 b4).2
    ·simp only [if_true];exact wpS_pure ⟨x,neq,ys,rfl,rfl,kp,x1,by lia,ns,a1,a2⟩
   ·simp only [if_true];have ns':NS lt ys lo (lo + (x + 1)):=by
     intro i j b1 b2 b3;by_cases hj:j < lo + x
     ·exact ns i j b1 b2 hj
     ·have ej:j=lo + x:=by lia
      by_cases hi:i=j
      ·rw [hi]; exact sw.rfl' _
      ·rw [ej];exact sw.trans (sw.of_lt hless) (ns _ _ b1 (by lia) (by lia))
    have one:∀ (zs:Array Keyed) i j,lo + (x + 1) - (0 + 1)<=i->i < lo + (x + 1)->lo + (x + 1) - (0 + 1)<=j->j < lo + (x + 1)->Nl lt (Cd zs i) (Cd zs j):=by
     intro zs i j b1 b2 b3 b4;have:i=j:=by lia
     rw [this];exact sw.rfl' _
    by_cases hq:neq > 0
    ·rw [if_pos hq];refine wpS_bind (FJ (wpS_pure ⟨0,_,rfl,rfl,kp.mirror (by lia) (by lia),?_,by lia,one _⟩));exact ns.even (by show _<=ys.size; lia) (by lia) a2 (by lia) ns'
    ·rw [if_neg hq];exact wpS_pure ⟨0,ys,rfl,rfl,kp,ns',by lia,one _⟩
  case dpost=>
   rintro c HL ⟨m,neq,zs,rfl,rfl,kz,m1,m2,nz,a1,a2⟩;dsimp only;have hzz:=kz.size;by_cases hq:neq > 0
   case' pos=>
    rw [if_pos hq];refine wpS_bind (FJ ?_);have aM:Kp (arrOf AZ) (mirror zs (lo + m - (neq + 1)) (lo + m) ((lo + m - (lo + m - (neq + 1))) / 2)) lo:=kz.mirror (by lia) (by lia);have cD:NS lt (mirror zs (lo + m - (neq + 1)) (lo + m) ((lo + m - (lo + m - (neq + 1))) / 2)) lo (lo + m):=nz.even (by lia) (by lia) a2 (fc _) nz;obtain ⟨us,eu⟩:∃ us,us=mirror zs (lo + m - (neq + 1)) (lo + m) ((lo + m - (lo + m - (neq + 1))) / 2):=⟨_,rfl⟩
    rw [<-eu] at aM cD;show wpS (model prog w) A E s _ Q (setArr AZ (mirror zs (lo + m - (neq + 1)) (lo + m) ((lo + m - (lo + m - (neq + 1))) / 2)))
    rw [<-eu]
   case' neg=>
    rw [if_neg hq];obtain ⟨us,eu⟩:∃ us,us=zs:=⟨_,rfl⟩
    have aM:Kp (arrOf AZ) us lo:=by rw [eu]; exact kz
    have cD:NS lt us lo (lo + m):=by rw [eu]; exact nz
    rw [<-eu]
   all_goals
    have hzu:=aM.size;refine wpS_bind (FJ ?_);show wpS (model prog w) A E s _ Q (setArr AZ (mirror us lo (lo + m) ((lo + m - lo) / 2)))
    have kv:Kp (arrOf AZ) (mirror us lo (lo + m) ((lo + m - lo) / 2)) lo:=aM.mirror (by lia) (fc _);have sv:SS lt (mirror us lo (lo + m) ((lo + m - lo) / 2)) lo (lo + m):=cD.mirror (by lia);obtain ⟨vs,ev⟩:∃ vs,vs=mirror us lo (lo + m) ((lo + m - lo) / 2):=⟨_,rfl⟩
    rw [<-ev] at kv sv;rw [<-ev];have hzv:=kv.size;refine wpS_bind (wpS_mono (Ob (f:=fun n=>lt (Cd vs (lo + n)) (Cd vs (lo + n - 1))) m2 ?_) ?_)
    ·intro x n R n1 n2 y1 y2;dsimp only;refine wpS_bind (CU (st:=setArr AZ vs) an hk (kv.1.trans hp) (by lia) (by lia) ?_);dsimp only;cases e:lt (Cd vs (lo + n)) (Cd vs (lo + n - 1))
     ·exact wpS_pure (y2 e)
     ·exact wpS_pure (y1 e)
    rintro c UO ⟨rfl,n',rfl,b1,b2,b3,_⟩;exact wpS_pure (h n' vs kv (by lia) b2 (UP sw sv (by lia) b3))
theorem HI {lo n ok:Nat} {Q:Bool->SortSt->Prop} {st:SortSt} (sw:Qy lt) (an:X8 prog w A s κ lt a0) (hk:kindOf st=κ) (hp:(arrOf st).Perm a0) (hn:lo + n<=a0.size) (h1:1<=ok) (hok:ok<=n)
  (hs:SS lt (arrOf st) lo (lo + ok)) (h:∀ ys,Kp (arrOf st) ys lo->SS lt ys lo (lo + n)->Q true (setArr st ys)):wpS (model prog w) A E s (binarySort' lo n ok) Q st:=by
 have hz:=hp.size_eq;refine wpS_bind (wpS_mono (wpS_forRange (I:=fun k c AZ=>c=(none,())/\∃ ys,AZ=setArr st ys/\Kp (arrOf st) ys lo/\SS lt ys lo (lo + k))
  (Q:=fun c AZ=>c=(none,())/\∃ ys,AZ=setArr st ys/\Kp (arrOf st) ys lo/\SS lt ys lo (lo + n)) ?step ?fin ?init) ?post)
 case init=>
  rw [Nat.max_eq_left h1];exact ⟨rfl,arrOf st,rfl,Kp.refl _ _,hs⟩
 case fin=>
  rintro c AZ ⟨rfl,ys,rfl,kp,ss⟩;rw [show max (max ok 1) n=n by lia] at ss;exact ⟨rfl,ys,rfl,kp,ss⟩
 case post=>
  rintro c AZ ⟨rfl,ys,rfl,kp,ss⟩;exact wpS_pure (h ys kp ss)
 case step=>
  rintro k c AZ k1 k2 ⟨rfl,ys,rfl,kp,ss⟩;dsimp only;have hzy:=kp.size;have hpy:(arrOf (setArr st ys)).Perm a0:=kp.1.trans hp;refine wpS_bind (wpS_mono (LH (f:=fun m=>!(lt (Cd ys (lo + k)) (Cd ys (lo + m)))) (n:=k) ?_ ?_ (gr _) (fc _) ?_ ?_ ?_) ?_)
  ·intro x l R hR;dsimp only;rw [if_pos (fc _)];exact wpS_pure hR
  ·intro x l r R hlr hrk y1 y2;dsimp only;rw [if_neg (by lia),show (l + r) / 2=l + (r - l) / 2 by lia];refine wpS_bind (CU (st:=setArr st ys) an hk hpy (by lia) (by lia) ?_);dsimp only;cases e:lt (Cd ys (lo + k)) (Cd ys (lo + (l + (r - l) / 2)))
   ·exact wpS_pure (y1 (by rw [e]; rfl))
   ·exact wpS_pure (y2 (by rw [e]; rfl))
  ·intro i j hij hj e;simp only [kH] at e ⊢;exact sw.trans (ss _ _ (by lia) (by lia) (by lia)) e
  ·intro i hi;lia
  ·intro i hi1 Zx;lia
  ·rintro c FO ⟨rfl,r,rfl,r1,r2,r3⟩;refine wpS_bind ?_;rw [show (sortPriv% PySem.Builtin.moveDown)=moveDown' from rfl,moveDown'_eq];refine wpS_modify (wpS_pure ⟨rfl,bubble ys (lo + k) (lo + k - (lo + r)),rfl,kp.bubble (by lia) (by lia),?_⟩);intro i j a1 a2 a3;rw [F7 (by lia) (by lia),F7 (by lia) (by lia)];have g1:∀ m,lo<=m->m < lo + r->Nl lt (Cd ys m) (Cd ys (lo + k)):=fun m b1 b2=>by
    have q:=r2 (m - lo) (by lia);simp only [kH] at q;rw [show lo + (m - lo)=m by lia] at q;exact q
   have g2:∀ m,lo + r<=m->m < lo + k->Nl lt (Cd ys (lo + k)) (Cd ys m):=fun m b1 b2=>by
    have q:=r3 (m - lo) (by lia) (by lia);simp only [Bool.not_eq_false'] at q;rw [show lo + (m - lo)=m by lia] at q;exact sw.of_lt q
   repeat' split
   all_goals first
    | exact sw.rfl' _
    | exact g1 _ (by lia) (by lia)
    | exact g2 _ (by lia) (by lia)
    | exact ss _ _ (by lia) (by lia) (by lia)
    | (exfalso; lia)
end
section
variable {lt:Keyed->Keyed->Bool}
end
section
variable {prog:Program} {w:World} {A:Around} {E:Value->Shared->Prop} {s:Shared} {κ:SortKind} {lt:Keyed->Keyed->Bool} {a0:Array Keyed}
end
section
variable {prog:Program} {w:World} {A:Around} {E:Value->Shared->Prop} {s:Shared} {κ:SortKind} {lt:Keyed->Keyed->Bool} {a0:Array Keyed}
end
end L2
namespace L2
open PySem PySem.Spec PyProof.Rows
abbrev Bh:=Sum Int Str
def IY:Bh->Value->Bool
 | .inl k,v=>Value.isInt k v
 | .inr x,v=>Value.isStrOf x v
def keyH (w:World):Bh->Int
 | .inl k=>hashInt k
 | .inr x=>hashStr w x
theorem Br:∀ {k:Bh} {v:Value},IY k v=true->(∃ i t,k=Sum.inl i/\v=Value.int i t)\/(∃ x t,k=Sum.inr x/\v=Value.str x t)
 | .inl i,v,h=>by
  obtain ⟨t,e⟩:=Value.isInt_shape (k:=i) (v:=v) h;exact .inl ⟨i,t,rfl,e⟩
 | .inr x,v,h=>by
  obtain ⟨t,e⟩:=Value.isStrOf_shape (x:=x) (v:=v) h;exact .inr ⟨x,t,rfl,e⟩
theorem Qg (i:Int) (t:Tok):IY (.inl i) (.int i t)=true:=by simp [IY,Value.isInt]
theorem Qf (x:Str) (t:Tok):IY (.inr x) (.str x t)=true:=by simp [IY,Value.isStrOf]
theorem WQ (a b:Int):decide ((Sum.inl a:Bh)=Sum.inl b)=(a == b):=by
 by_cases e:a=b
 ·subst e; simp
 ·have h:¬ (Sum.inl a:Bh)=Sum.inl b:=fun q=>e (Sum.inl.inj q)
  rw [decide_eq_false h];exact (beq_eq_false_iff_ne.mpr e).symm
theorem WM (a b:Str):decide ((Sum.inr a:Bh)=Sum.inr b)=decide (a=b):=by
 by_cases e:a=b
 ·subst e; simp
 ·have h:¬ (Sum.inr a:Bh)=Sum.inr b:=fun q=>e (Sum.inr.inj q)
  rw [decide_eq_false h,decide_eq_false e]
theorem WO (a:Int) (b:Str):decide ((Sum.inl a:Bh)=Sum.inr b)=false:=decide_eq_false (fun q=>nomatch q)
theorem WN (a:Str) (b:Int):decide ((Sum.inr a:Bh)=Sum.inl b)=false:=decide_eq_false (fun q=>nomatch q)
def AY (prog:Program) (w:World):PySem.KeyKind prog w Bh where
 is:=IY
 hash:=keyH w
 inj:=fun v a b ha hb=>by
  rcases Br ha with ⟨i,t,rfl,rfl⟩ | ⟨x,t,rfl,rfl⟩
  ·rcases Br hb with ⟨j,u,rfl,e⟩ | ⟨y,u,rfl,e⟩
   ·injection e with e1 _; rw [e1]
   ·exact nomatch e
  ·rcases Br hb with ⟨j,u,rfl,e⟩ | ⟨y,u,rfl,e⟩
   ·exact nomatch e
   ·injection e with e1 _; rw [e1]
 byValue:=fun k v h=>by
  rcases Br h with ⟨i,t,rfl,rfl⟩ | ⟨x,t,rfl,rfl⟩ <;> rfl
 pyHash:=fun hv h=>by
  rcases Br hv with ⟨i,t,rfl,rfl⟩ | ⟨x,t,rfl,rfl⟩
  ·exact wpAny_pyHash_int h
  ·exact wpAny_pyHash_str h
 eqBool:=fun hu hv h=>by
  rcases Br hu with ⟨i,t,rfl,rfl⟩ | ⟨x,t,rfl,rfl⟩
  ·rcases Br hv with ⟨j,u,rfl,rfl⟩ | ⟨y,u,rfl,rfl⟩
   ·rw [WQ] at h; exact wpAny_eqBool_int h
   ·rw [WO] at h; exact SeqAt.EqAt.int_str i t y u _ _ _ _ h
  ·rcases Br hv with ⟨j,u,rfl,rfl⟩ | ⟨y,u,rfl,rfl⟩
   ·rw [WN] at h; exact SeqAt.EqAt.str_int x t j u _ _ _ _ h
   ·rw [WM] at h; exact wpAny_eqBool_str h
 «strs»:=fun k x t v h=>by
  rcases Br h with ⟨i,u,rfl,e⟩ | ⟨y,u,rfl,e⟩
  ·exact nomatch e
  ·injection e with e1 _;subst e1;cases v <;> rfl
theorem Mt (prog:Program) (w:World) (i:Int) (t:Tok):(AY prog w).is (.inl i) (.int i t)=true:=Qg i t
theorem Hw (prog:Program) (w:World) (x:Str) (t:Tok):(AY prog w).is (.inr x) (.str x t)=true:=Qf x t
inductive V where
 | non | bl (b:Bool) | int (i:Int) | str (x:Str) | byt (b:Array UInt8) | flt (b:UInt64) | ref (a:Addr) | ty (n:String)
 deriving DecidableEq
def AD:V->Value->Prop
 | .non,u=>u=Value.none
 | .bl b,u=>u=Value.bool b
 | .int i,u=>∃ t,u=Value.int i t
 | .str x,u=>∃ t,u=Value.str x t
 | .byt b,u=>∃ t,u=Value.bytes b t
 | .flt b,u=>∃ t,u=Value.float b t
 | .ref a,u=>u=Value.ref a
 | .ty n,u=>u=Value.type n
abbrev AB:List V->List Value->Prop:=Paired AD
theorem AB.length {xs:List V} {us:List Value} (r:AB xs us):xs.length=us.length:=Paired.length r
theorem AB.get:∀ {xs:List V} {us:List Value} {i:Nat} {x:V},AB xs us->xs[i]? = some x->∃ u,us[i]? = some u/\AD x u
 | _,_,_,_,.nil,e=>by simp at e
 | _,_,0,_,.cons r _,e=>by simp at e; subst e; exact ⟨_,rfl,r⟩
 | _,_,i + 1,x,.cons _ t,e=>by
  obtain ⟨u,h1,h2⟩:=AB.get (i:=i) (x:=x) t (by simpa using e);exact ⟨u,by simpa using h1,h2⟩
theorem AB.set {x:V} {u:Value} (r:AD x u):∀ {xs:List V} {us:List Value} (i:Nat),AB xs us->AB (xs.set i x) (us.set i u)
 | _,_,_,.nil=>.nil
 | _,_,0,.cons _ t=>.cons r t
 | _,_,i + 1,.cons q t=>.cons q (AB.set r i t)
theorem AB.append:∀ {xs ys:List V} {us ws:List Value},AB xs us->AB ys ws->AB (xs ++ ys) (us ++ ws)
 | _,_,_,_,.nil,s=>s
 | _,_,_,_,.cons r t,s=>.cons r (AB.append t s)
theorem AB.take:∀ {xs:List V} {us:List Value} (n:Nat),AB xs us->AB (xs.take n) (us.take n)
 | _,_,0,_=>.nil
 | _,_,_ + 1,.nil=>.nil
 | _,_,n + 1,.cons r t=>.cons r (AB.take n t)
theorem AB.drop:∀ {xs:List V} {us:List Value} (n:Nat),AB xs us->AB (xs.drop n) (us.drop n)
 | _,_,0,r=>r
 | _,_,_ + 1,.nil=>.nil
 | _,_,n + 1,.cons _ t=>AB.drop n t
def Hc:Option V->Option Value->Prop
 | some v,some u=>AD v u
 | none,none=>True
 | _,_=>False
def KV {κ:Type}:List (κ × V)->List (κ × Value)->Prop:=Paired fun (p:κ × V) (q:κ × Value)=>p.1=q.1/\AD p.2 q.2
def kV:Bh->V
 | .inl i=>.int i
 | .inr x=>.str x
inductive HO where
 /-- a list -/
 | lst (xs:List V)
 /-- a tuple (never changes) -/
 | tup (xs:List V)
 /-- a dict whose keys are ints and texts; one whose keys are tuples of ints and texts (the empty one is both) -/
 | dK (kvs:List (Bh × V)) | dT (kvs:List (List Bh × V))
 /-- a set of ints: Ar members,Ar size -/
 | set (S:Int->Bool) (n:Nat)
 /-- an instance of the class at C,Ar dict at dx,Ar attributes -/
 | ins (C dx:Addr) (fs:List (Str × V))
 /-- the dict of the instance at x -/
 | own (x:Addr)
 /-- the dict of an exception -/
 | xd (fs:List (Str × V))
 /-- a bound method,f of x -/
 | met (f x:Addr)
 /-- a range object lo,lo + 1,.. below hi -/
 | rng (lo hi:Int)
 /-- a thing that is known to the object (the script; a dict while a loop walks it): read,never written while it is so -/
 | frz (o:Obj) (u:HO)
 /-- a code YO table -/
 | tbl (ps:Array Value)
 /-- any other thing,by what is true of Ar one object (a def of one's own: SetO a S n:=HO.ext fun h=>..) -/
 | ext (φ:Heap->Prop)
abbrev Hp:=Addr->Option HO
def upd (H:Hp) (a:Addr) (o:HO):Hp:=fun b=>if b=a then some o else H b
theorem Ab {H:Hp} {a:Addr} {o:HO}:upd H a o a=some o:=by unfold upd; rw [if_pos rfl]
theorem Ae {H:Hp} {a b:Addr} {o:HO} (h:b ≠ a):upd H a o b=H b:=by unfold upd; rw [if_neg h]
theorem FL {H:Hp} {a:Addr} {o u:HO}:upd (upd H a o) a u=upd H a u:=by
 funext b; unfold upd; split <;> rfl
theorem C0 {H:Hp} {a b:Addr} {o u:HO} (h:H a=some o) (h':H b=some u) (d:o ≠ u):a ≠ b:=by
 intro e; subst e; rw [h] at h'; exact d (fV.inj h')
theorem Ah {H:Hp} {a b:Addr} {o:HO} (h:H a=some o) (h':H b=none):a ≠ b:=by
 intro e; subst e; rw [h] at h'; cases h'
def L6 (h:Heap) (a:Addr):Prop:=∀ o,h.get? a=some o->o.dict=none
theorem L6.new {h:Heap} {o:Obj} (hd:o.dict=none) (hf:o.isFreed=false):L6 (h.push o) h.objs.size:=fun o' e=>by
 rw [fe _ hf] at e;cases e
 exact hd
section
variable (P:Program) (w:World)
def AL (H:Hp) (h:Heap) (a:Addr):HO->Prop
 | .lst xs=>xs.length<=sizeLine/\∃ (Ar:List Value) (n:Nat),AB xs Ar/\h.get? a=some { cls:=.type "list",data:=.seq Ar.toArray n }
 | .tup xs=>xs.length<=sizeLine/\∃ Ar:List Value,AB xs Ar/\IsTup h a Ar.toArray/\L6 h a
 | .dK kvs=>kvs.length<=sizeLine/\(a == sysModules)=false/\∃ vs,KV kvs vs/\h.DictOf (AY P w) a vs
 | .dT kvs=>kvs.length<=sizeLine/\(a == sysModules)=false/\∃ xs:List (List Bh × Addr × Value),
   Paired (fun (p:List Bh × V) (q:List Bh × Addr × Value)=>p.1=q.1/\H q.2.1=some (.tup (p.1.map kV))/\AD p.2 q.2.2) kvs xs /\
   ∃ o es ep,h.get? a=some o/\o.ExactDict/\o.data=.dict es ep/\es.toList=xs.map (entryOfKey (tupleKind (AY P w)))/\(xs.map (·.1)).Nodup
 | .set S n=>h.SetOf (intKind P w) a S n
 | .ins C dx fs=>H dx=some (.own a)/\fs.length<=1000/\dx ≠ a/\h.get? a=some (jz C dx) /\
   ∃ mA,h.Ns1 dx mA/\(∀ f,Hc (fs.lookup f) (mA f))/\PySem.Within mA (fs.map (·.1))
 | .own _=>∃ o,h.get? a=some o
 | .xd fs=>∃ mA,h.Ns1 a mA/\∀ f,Hc (fs.lookup f) (mA f)
 | .rng lo hi=>∃ t u v,h.get? a=some { cls:=.type "range",data:=.fields #[.int lo t,.int hi u,.int 1 v] }
 | .frz o u=>h.get? a=some o/\AL H h a u
 | .tbl ps=>h.get? a=some { cls:=.none,data:=.fields ps }
 | .met f x=>h.get? a=some (ju (.ref f) (.ref x))
 | .ext φ=>φ h/\(∃ o,h.get? a=some o)/\∀ h1 h2:Heap,φ h1->(∀ o,h1.get? a=some o->h2.get? a=some o)->φ h2
def FI (H:Hp) (h:Heap):Prop:=∀ a o,H a=some o->AL P w H h a o
end
section
variable {P:Program} {w:World} {H H':Hp} {h h':Heap} {a:Addr} {o:HO}
theorem AL.lt (x:AL P w H h a o):a < h.objs.size:=by
 cases o with
 | lst xs=>obtain ⟨_,_,_,_,e⟩:=x; exact fb e
 | tup xs=>obtain ⟨_,_,_,p,_⟩:=x; exact p.lt
 | dK kvs=>obtain ⟨_,_,_,_,o,_,_,e,_⟩:=x; exact fb e
 | dT kvs=>obtain ⟨_,_,_,_,o,_,_,e,_⟩:=x; exact fb e
 | set S n=>obtain ⟨o,_,_,_,e,_⟩:=x; exact fb e
 | ins C dx fs=>obtain ⟨_,_,_,e,_⟩:=x; exact fb e
 | own y=>obtain ⟨_,e⟩:=x; exact fb e
 | xd fs=>obtain ⟨_,⟨_,_,_,e,_⟩,_⟩:=x; exact fb e
 | rng lo hi=>obtain ⟨_,_,_,e⟩:=x; exact fb e
 | frz ob u=>obtain ⟨e,_⟩:=x; exact fb e
 | tbl ps=>exact fb (show h.get? a=some _ from x)
 | met f y=>exact fb (show h.get? a=some _ from x)
 | ext φ=>obtain ⟨_,⟨_,e⟩,_⟩:=x; exact fb e
theorem Paired.mapP {α β:Type} {F G:α->β->Prop}:∀ {RS:List α} {l₂:List β},Paired F RS l₂->(∀ a b,F a b->G a b)->Paired G RS l₂
 | _,_,.nil,_=>.nil
 | _,_,.cons r t,f=>.cons (f _ _ r) (Paired.mapP t f)
theorem AL.stay (x:AL P w H h a o) (k:∀ b u,(b=a\/H b=some (.own a))->h.get? b=some u->h'.get? b=some u)
  (ho:∀ b,H b=some (.own a)->H' b=some (.own a)) (ht:∀ b xs,H b=some (.tup xs)->H' b=some (.tup xs)):AL P w H' h' a o:=by
 induction o with
 | lst xs=>obtain ⟨z,Ar,n,r,e⟩:=x; exact ⟨z,Ar,n,r,k _ _ (.inl rfl) e⟩
 | tup xs=>
  obtain ⟨z,Ar,r,⟨ob,e,c⟩,dn⟩:=x;have e':=k _ _ (.inl rfl) e;exact ⟨z,Ar,r,⟨ob,e',c⟩,fun o q=>by rw [e'] at q; cases q; exact dn _ e⟩
 | dK kvs=>obtain ⟨z,y,vs,r,ob,es,ep,e,c⟩:=x; exact ⟨z,y,vs,r,ob,es,ep,k _ _ (.inl rfl) e,c⟩
 | dT kvs=>
  obtain ⟨z,y,xs,r,ob,es,ep,e,c⟩:=x;exact ⟨z,y,xs,Paired.mapP r fun p q z=>⟨z.1,ht _ _ z.2.1,z.2.2⟩,ob,es,ep,k _ _ (.inl rfl) e,c⟩
 | set S n=>obtain ⟨ob,es,ep,t,e,c⟩:=x; exact ⟨ob,es,ep,t,k _ _ (.inl rfl) e,c⟩
 | ins C dx fs=>
  obtain ⟨d,z,ne,e,mA,⟨od,es,ep,e2,c⟩,r⟩:=x;exact ⟨ho _ d,z,ne,k _ _ (.inl rfl) e,mA,⟨od,es,ep,k _ _ (.inr d) e2,c⟩,r⟩
 | own y=>obtain ⟨ob,e⟩:=x; exact ⟨ob,k _ _ (.inl rfl) e⟩
 | xd fs=>obtain ⟨mA,⟨od,es,ep,e,c⟩,r⟩:=x; exact ⟨mA,⟨od,es,ep,k _ _ (.inl rfl) e,c⟩,r⟩
 | rng lo hi=>obtain ⟨t,u,v,e⟩:=x; exact ⟨t,u,v,k _ _ (.inl rfl) e⟩
 | frz ob u ih=>obtain ⟨e,q⟩:=x; exact ⟨k _ _ (.inl rfl) e,ih q⟩
 | tbl ps=>
  have e:h.get? a=some { cls:=.none,data:=.fields ps }:=x;show h'.get? a=some { cls:=.none,data:=.fields ps }
  exact k a _ (.inl rfl) e
 | met f y=>
  have e:h.get? a=some (ju (.ref f) (.ref y)):=x;show h'.get? a=some (ju (.ref f) (.ref y))
  exact k a _ (.inl rfl) e
 | ext φ=>obtain ⟨p,⟨o,e⟩,st⟩:=x; exact ⟨st _ _ p fun o q=>k _ _ (.inl rfl) q,⟨o,k _ _ (.inl rfl) e⟩,st⟩
theorem FI.lt (x:FI P w H h) (e:H a=some o):a < h.objs.size:=(x a o e).lt
theorem FI.fresh (x:FI P w H h) (e:h.objs.size<=a):H a=none:=by
 cases q:H a with
 | none=>rfl
 | some u=>exact absurd (fk (x.lt q) e) (gC _)
theorem FI.kept (x:FI P w H h) (k:∀ b u,h.get? b=some u->h'.get? b=some u):FI P w H h':=fun a o e=>
 (x a o e).stay (fun b u _ q=>k b u q) (fun _ q=>q) fun _ _ q=>q
theorem FI.laid (x:FI P w H h) (k:∀ b u,h.get? b=some u->h'.get? b=some u) (hp:h.objs.size<=a) (new:AL P w (upd H a o) h' a o):FI P w (upd H a o) h':=fun b u e=>by
 have hn:=x.fresh hp;by_cases hb:b=a
 ·subst hb; rw [Ab] at e; cases e; exact new
 ·rw [Ae hb] at e;exact (x b u e).stay (fun c v _ q=>k c v q) (fun c q=>by rw [Ae (Ah q hn)]; exact q) fun c xs q=>by rw [Ae (Ah q hn)]; exact q
end
def Rd (H:Hp) (a:Addr) (u:HO):Prop:=H a=some u\/∃ o,H a=some (.frz o u)
theorem Rd.ok {P:Program} {w:World} {H:Hp} {h:Heap} {a:Addr} {u:HO} (r:Rd H a u) (x:FI P w H h):AL P w H h a u:=by
 rcases r with r | ⟨o,r⟩
 ·exact x a u r
 ·obtain ⟨_,q⟩:=x a _ r;exact q
def Mut:Option HO->Prop
 | some (.lst _)=>True
 | some (.dK _)=>True
 | some (.dT _)=>True
 | some (.set _ _)=>True
 | some (.ins _ _ _)=>True
 | some (.ext _)=>True
 | _=>False
section
variable {P:Program} {w:World} {H:Hp} {h h':Heap} {x e:Addr} {o':HO}
theorem FI.write (ok:FI P w H h) (mu:Mut (H x)) (he:e=x\/H e=some (.own x)) (k:∀ b u,b ≠ e->h.get? b=some u->h'.get? b=some u) (heo:∃ u,h'.get? e=some u)
  (new:AL P w (upd H x o') h' x o'):FI P w (upd H x o') h':=fun b u q=>by
 have nown:∀ c y,H c=some (.own y)->c ≠ x:=fun c y r z=>by subst z; rw [r] at mu; exact mu
 have ntup:∀ c xs,H c=some (.tup xs)->c ≠ x:=fun c xs r z=>by subst z; rw [r] at mu; exact mu
 by_cases hb:b=x
 ·subst hb; rw [Ab] at q; cases q; exact new
 ·rw [Ae hb] at q;by_cases hbe:b=e
  ·have q':H b=some (.own x):=by
    rcases he with z | z
    ·exact absurd (hbe.trans z) hb
    ·rw [hbe]; exact z
   rw [q] at q'; cases q';obtain ⟨v,hv⟩:=heo;exact ⟨v,by rw [hbe]; exact hv⟩
  ·refine (ok b u q).stay (fun c v hc r=>k c v ?_ r) (fun c r=>by rw [Ae (nown c b r)]; exact r) fun c xs r=>by rw [Ae (ntup c xs r)]; exact r
   rcases hc with rfl | hc
   ·exact hbe
   ·rintro rfl;rcases he with z | z
    ·exact nown c b hc z
    ·rw [hc] at z; cases z; exact hb rfl
end
structure Un (fs ex:List Addr) (H H':Hp) (h h':Heap):Prop where
 keep:∀ b o,h.get? b=some o->H b=none->b ∉ fs->b ∉ ex->h'.get? b=some o
 slot:∀ b o,h.get? b=some o->H b=none->b ∈ fs->b ∉ ex->∃ sl,h'.get? b=some { o with slots:=sl }
 free:∀ b o,h.get? b=some o->H b=none->b ∉ ex->H' b=none
 there:∀ b o,h.get? b=some o->b ∉ ex->∃ o',h'.get? b=some o'
 tups:∀ b xs,H b=some (.tup xs)->H' b=some (.tup xs)
 frzs:∀ b o u,H b=some (.frz o u)->H' b=some (.frz o u)
 tbls:∀ b ps,H b=some (.tbl ps)->∃ more,H' b=some (.tbl (ps ++ more))
section
variable {fs fs' ex ex':List Addr} {H H1 H2:Hp} {h h1 h2 h':Heap} {a x e:Addr} {o:HO}
theorem Un.any (u:Un fs ex H H1 h h1) {b:Addr} {ob:Obj} (q:h.get? b=some ob) (n:H b=none) (hx:b ∉ ex):∃ sl,h1.get? b=some { ob with slots:=sl }:=by
 by_cases hb:b ∈ fs
 ·exact u.slot b ob q n hb hx
 ·exact ⟨ob.slots,u.keep b ob q n hb hx⟩
theorem Un.kept (k:∀ b u,h.get? b=some u->h'.get? b=some u):Un fs ex H H h h':=
 ⟨fun b ob q _ _ _=>k b ob q,fun b ob q _ _ _=>⟨ob.slots,k b ob q⟩,fun _ _ _ n _=>n,fun b ob q _=>⟨ob,k b ob q⟩,fun _ _ q=>q,fun _ _ _ q=>q,fun _ ps q=>⟨#[],by rw [q]; simp⟩⟩
theorem Un.refl:Un fs ex H H h h:=Un.kept fun _ _ q=>q
theorem Un.laid (k:∀ b u,h.get? b=some u->h'.get? b=some u) (hp:h.objs.size<=a) (hn:H a=none):Un fs ex H (upd H a o) h h' where
 keep:=fun b u q _ _ _=>k b u q
 slot:=fun b u q _ _ _=>⟨u.slots,k b u q⟩
 free:=fun b u q n _=>by rw [Ae (fj (fk (fb q) hp))]; exact n
 there:=fun b u q _=>⟨u,k b u q⟩
 tups:=fun b xs q=>by rw [Ae (Ah q hn)]; exact q
 frzs:=fun b u xs q=>by rw [Ae (Ah q hn)]; exact q
 tbls:=fun b ps q=>⟨#[],by rw [Ae (Ah q hn),q]; simp⟩
theorem Un.write (mu:Mut (H x)) (he:e=x\/H e=some (.own x)) (k:∀ b u,b ≠ e->h.get? b=some u->h'.get? b=some u) (heo:∃ u,h'.get? e=some u):Un fs ex H (upd H x o) h h':=by
 have hx:∀ b,H b=none->b ≠ x:=fun b n z=>by subst z; rw [n] at mu; exact mu
 have hb:∀ b,H b=none->b ≠ e:=fun b n z=>by
  subst z;rcases he with r | r
  ·exact hx b n r
  ·rw [n] at r; cases r
 have hm:∀ b u,H b=some u->¬ Mut (some u)->b ≠ x:=fun b u q nm z=>by subst z; rw [q] at mu; exact nm mu
 refine ⟨fun b u q n _ _=>k b u (hb b n) q,fun b u q n _ _=>⟨u.slots,k b u (hb b n) q⟩,fun b u q n _=>by rw [Ae (hx b n)]; exact n,fun b u q _=>?_,
  fun b xs q=>by rw [Ae (hm b _ q fun z=>z)]; exact q,fun b u xs q=>by rw [Ae (hm b _ q fun z=>z)]; exact q,fun b ps q=>⟨#[],by rw [Ae (hm b _ q fun z=>z),q]; simp⟩⟩
 by_cases hbe:b=e
 ·subst hbe; exact heo
 ·exact ⟨u,k b u hbe q⟩
end
def trk (h:Heap) (H:Hp):List Addr:=(gR h.objs.size).filter fun a=>(H a).isSome
def Lr (h:Heap) (H:Hp):Heap:=PySem.W.hideAll h (trk h H)
theorem Qj (h:Heap) (H:Hp):(Lr h H).objs.size=h.objs.size:=PySem.W.hideAll_size _ _
theorem Sj {h:Heap} {H:Hp} {b:Addr} {o:Obj} (e:h.get? b=some o) (n:H b=none):(Lr h H).get? b=some o:=
 PySem.W.hideAll_get _ e fun hm=>by
  have q:(H b).isSome=true:=(ib.mp hm).2;rw [n] at q; simp at q
theorem Ua {h:Heap} {H:Hp} {b:Addr} {o:Obj} (e:(Lr h H).get? b=some o):h.get? b=some o/\H b=none:=by
 have e':h.get? b=some o:=PySem.W.of_hideAll (trk h H) e;exists e';cases q:H b with
 | none=>rfl
 | some x=>
  have hm:b ∈ trk h H:=ib.mpr ⟨i7.mpr (fb e'),by simp [q]⟩;have z:(Lr h H).get? b=none:=PySem.W.hideAll_none (trk h H) hm;rw [z] at e; cases e
structure Mod (K:eV) (mg:Str->Option Value) (base:Heap):Prop where
 kin:K.In base
 glob:base.Ns mainGlobals mg
 blt:∃ mb,base.Ns builtinsNs mb/\∀ x:Str,x ≠ "__name__"->mb x=bootBuiltins x
 nolimit:base.NoLimit
structure Cx where
 prog:Program
 w:World
 K:eV
 mg:Str->Option Value
 base:Heap
 A:Around
 N:List Str
 s₀:Shared
 H₀:Hp
 env:Env
 outer:List Env
 stack:List Env
 ex:List Addr
 fn:Str->Bool
 calm:Bool
 pn:List (Addr × Obj)
 xe:Value->Shared->Prop
def Sv (l:List Env):List Addr:=l.filterMap (·.frame)
abbrev Cx.fs (X:Cx):List Addr:=Sv X.outer
def Vis (sc:Scope) (x:Str):Prop:=sc.names.lookup x=some .local\/sc.names.lookup x=some .cell\/sc.names.lookup x=some .free
def Yq (sc:Scope) (x:Str):Prop:=sc.names.lookup x=some .local\/sc.names.lookup x=some .cell
def Look (env:Env) (h:Heap) (m:Str->Option Value) (x:Str) (u:Value):Prop:=
 (env.kindOf x=some .local/\m x=some u)\/((env.kindOf x=some .cell\/env.kindOf x=some .free)/\∃ c,env.cells.lookup x=some c/\h.IsCell c (some u))
structure Cx.Ok (X:Cx):Prop where
 mod:Mod X.K X.mg X.base
 kind:X.env.scope.kind=.function
 glob:X.env.globals=mainGlobals
 blt:X.env.builtins=builtinsNs
 above:X.s₀.heap.objs.size<=X.env.locals
 inj:∀ x y c,X.env.cells.lookup x=some c->X.env.cells.lookup y=some c->x=y
 has:∀ x,(X.env.kindOf x=some .cell\/X.env.kindOf x=some .free)->∃ c,X.env.cells.lookup x=some c
 cab:∀ x c,X.fn x=true->X.env.cells.lookup x=some c->X.s₀.heap.objs.size<=c
 hd:X.calm=true->X.A.handled=none
 frames:X.A.frames=some X.stack
 stk:X.stack=X.outer\/(X.stack=X.env :: X.outer/\X.env.frame=some X.env.locals)
 exf:∀ b ∈ X.ex,b ≠ X.env.locals/\∀ x c,X.env.cells.lookup x=some c->c ≠ b
 bs:∀ b o,X.base.get? b=some o->X.s₀.heap.get? b=some o/\X.H₀ b=none
 bsz:X.base.objs.size<=X.s₀.heap.objs.size
 noex:∀ b o,X.base.get? b=some o->b ∉ X.ex
 exfs:∀ b ∈ X.ex,b ∉ X.fs
 funs:X.s₀.heap.FunFrames X.base X.outer
 frf:∀ b ∈ X.fs,X.H₀ b=none
structure As (X:Cx) (pins:List (Addr × Obj)) (σ:List (Option V)) (H:Hp) (s:Shared):Prop where
 ok:X.Ok
 os:s.os=X.s₀.os
 bare:AllBare s.gens
 base:Un X.fs X.ex X.H₀ H X.s₀.heap s.heap
 loc:∃ m,s.heap.Ns X.env.locals m/\∀ (i:Nat) (x:Str) (v:V),X.N[i]? = some x->σ[i]? = some (some v)->Vis X.env.scope x->∃ u,AD v u/\Look X.env s.heap m x u
 cell:∀ x c,X.env.cells.lookup x=some c->∃ v,s.heap.IsCell c v
 free:H X.env.locals=none
 freeC:∀ x c,X.env.cells.lookup x=some c->H c=none
 pin:∀ p ∈ X.pn ++ pins,s.heap.get? p.1=some p.2/\H p.1=none/\p.1 ≠ X.env.locals/\p.1 ∉ X.fs/\∀ v,p.2.data ≠ .cell v
 hok:FI X.prog X.w H s.heap
 len:σ.length=X.N.length
section
variable {X:Cx} {pins:List (Addr × Obj)} {σ:List (Option V)} {H H':Hp} {s:Shared} {h':Heap}
theorem Cx.Ok.nofr (ok:X.Ok) {b:Addr} {o:Obj} (e:X.base.get? b=some o):b ∉ X.fs:=fun hb=>by
 have:=(ok.funs.mem hb).1;rw [e] at this; cases this
theorem As.bs (I:As X pins σ H s):∀ b o,X.base.get? b=some o->s.heap.get? b=some o/\H b=none:=fun b o e=>
 ⟨I.base.keep b o (I.ok.bs b o e).1 (I.ok.bs b o e).2 (I.ok.nofr e) (I.ok.noex b o e),I.base.free b o (I.ok.bs b o e).1 (I.ok.bs b o e).2 (I.ok.noex b o e)⟩
theorem As.bk (I:As X pins σ H s):∀ b o,X.base.get? b=some o->s.heap.get? b=some o:=fun b o e=>(I.bs b o e).1
theorem As.mod (I:As X pins σ H s):Mod X.K X.mg X.base:=I.ok.mod
theorem As.kIn (I:As X pins σ H s):X.K.In s.heap:=I.ok.mod.kin.keeps I.bk
theorem As.lt (I:As X pins σ H s):X.env.locals < s.heap.objs.size:=let ⟨_,hn,_⟩:=I.loc; hn.lt
theorem As.sz (I:As X pins σ H s):X.s₀.heap.objs.size<=s.heap.objs.size:=gc I.ok.above (iY I.lt)
theorem As.nofs (I:As X pins σ H s) {a:Addr} (h:s.heap.objs.size<=a):a ∉ X.fs:=fun hb=>by
 obtain ⟨_,o,ho,_⟩:=I.ok.funs.mem hb;exact absurd (fk (fb ho) (gc I.sz h)) (gC _)
theorem As.cne (I:As X pins σ H s):∀ x c,X.env.cells.lookup x=some c->c ≠ X.env.locals:=fun x c e z=>by
 obtain ⟨v,o,ho,hd⟩:=I.cell x c e;obtain ⟨m,⟨o',es,ep,Ii,Lu,_⟩,_⟩:=I.loc;rw [z,Ii] at ho; cases ho; rw [Lu] at hd; cases hd
theorem As.funs (I:As X pins σ H s):s.heap.FunFrames X.base X.outer:=by
 have all:∀ (l:List Env),(∀ b ∈ Sv l,b ∈ X.fs)->X.s₀.heap.FunFrames X.base l->s.heap.FunFrames X.base l:=by
  intro l;induction l with
  | nil=>intro _ _; trivial
  | cons env r ih=>
   intro hs hl;obtain ⟨hk,⟨L,o,hf,hn,ho,hd⟩,hr⟩:=hl;have hL:L ∈ X.fs:=hs L (by unfold Sv; rw [iH,hf]; exact fX);obtain ⟨sl,e⟩:=I.base.slot L o ho (I.ok.frf L hL) hL fun z=>I.ok.exfs L z hL
   exact ⟨hk,⟨L,_,hf,hn,e,hd⟩,ih (fun b hb=>hs b (by unfold Sv; rw [iH,hf]; exact fK _ hb)) hr⟩
 exact all X.outer (fun _ hb=>hb) I.ok.funs
theorem As.stack (I:As X pins σ H s):s.heap.FunFrames X.base X.stack:=by
 rcases I.ok.stk with e | ⟨e,hf⟩
 ·rw [e]; exact I.funs
 ·rw [e];obtain ⟨m,hn,_⟩:=I.loc;refine .cons (by rw [I.ok.kind]; decide) hf hn ?_ I.funs;exact Heap.get?_none_of_le (gc I.ok.bsz I.ok.above)
theorem As.stkSub (I:As X pins σ H s):∀ b ∈ Sv X.stack,b ∈ X.env.locals :: X.fs:=fun b hb=>by
 rcases I.ok.stk with e | ⟨e,hf⟩
 ·rw [e] at hb; exact fK _ hb
 ·rw [e] at hb;unfold Sv at hb;rw [iH,hf] at hb;exact hb
theorem As.stkFree (I:As X pins σ H s):∀ b ∈ Sv X.stack,H b=none:=fun b hb=>by
 rcases eX.mp (I.stkSub b hb) with e | hb
 ·rw [e]; exact I.free
 ·obtain ⟨_,o,ho,_⟩:=I.ok.funs.mem hb;exact I.base.free b o ho (I.ok.frf b hb) fun z=>I.ok.exfs b z hb
theorem As.step {g':Array GenState} {t':Nat} {d':Drawn} {ch:List Addr} (I:As X pins σ H s)
  (hch:∀ b ∈ ch,(b ∈ X.ex\/X.s₀.heap.objs.size<=b)/\b ≠ X.env.locals/\(∀ x c,X.env.cells.lookup x=some c->c ≠ b)/\∀ p ∈ X.pn ++ pins,p.1 ≠ b)
  (keep:∀ b o,b ≠ X.env.locals->b ∉ X.fs->b ∉ ch->s.heap.get? b=some o->H b=none->h'.get? b=some o)
  (slot:∀ b o,b ≠ X.env.locals->b ∈ X.fs->b ∉ ch->s.heap.get? b=some o->H b=none->∃ sl,h'.get? b=some { o with slots:=sl }) (free:∀ b o,b ∉ ch->s.heap.get? b=some o->H b=none->H' b=none)
  (there:∀ b o,b ∉ ch->s.heap.get? b=some o->∃ o',h'.get? b=some o')
  (tups:∀ b xs,H b=some (.tup xs)->H' b=some (.tup xs)) (frzs:∀ b o u,H b=some (.frz o u)->H' b=some (.frz o u)) (tbls:∀ b ps,H b=some (.tbl ps)->∃ more,H' b=some (.tbl (ps ++ more)))
  (ns:∀ m,s.heap.Ns X.env.locals m->h'.Ns X.env.locals m) (hok:FI X.prog X.w H' h') (hg:AllBare g') :
  As X pins σ H' { s with heap:=h',gens:=g',drawn:=d',toks:=t' }:=by
 have neL:∀ b o,X.s₀.heap.get? b=some o->b ≠ X.env.locals:=fun b o e=>fj (fk (fb e) I.ok.above)
 have neC:∀ b o,X.s₀.heap.get? b=some o->b ∉ X.ex->b ∉ ch:=fun b o e hx hb=>by
  rcases (hch b hb).1 with z | z
  ·exact hx z
  ·exact absurd (fk (fb e) z) (gC _)
 have cellK:∀ x c,X.env.cells.lookup x=some c->∀ v,s.heap.IsCell c v->h'.IsCell c v:=fun x c e v ⟨o,ho,hd⟩=>by
  have nch:c ∉ ch:=fun z=>(hch c z).2.2.1 x c e rfl
  by_cases hc:c ∈ X.fs
  ·obtain ⟨sl,q⟩:=slot c o (I.cne x c e) hc nch ho (I.freeC x c e);exact ⟨_,q,hd⟩
  ·exact ⟨o,keep c o (I.cne x c e) hc nch ho (I.freeC x c e),hd⟩
 refine ⟨I.ok,I.os,hg,⟨fun b o e n hb hx=>?_,fun b o e n hb hx=>?_,fun b o e n hx=>?_,fun b o e hx=>?_,fun b xs e=>tups b xs (I.base.tups b xs e),fun b o xs e=>frzs b o xs (I.base.frzs b o xs e),fun b ps e=>?_⟩,?_,fun x c e=>?_,?_,fun x c e=>?_,fun p hp=>?_,hok,I.len⟩
 ·exact keep b o (neL b o e) hb (neC b o e hx) (I.base.keep b o e n hb hx) (I.base.free b o e n hx)
 ·obtain ⟨sl,e1⟩:=I.base.slot b o e n hb hx;obtain ⟨sl',e2⟩:=slot b _ (neL b o e) hb (neC b o e hx) e1 (I.base.free b o e n hx);exact ⟨sl',e2⟩
 ·obtain ⟨o',e1⟩:=I.base.there b o e hx;exact free b o' (neC b o e hx) e1 (I.base.free b o e n hx)
 ·obtain ⟨o',e1⟩:=I.base.there b o e hx;exact there b o' (neC b o e hx) e1
 ·obtain ⟨m1,e1⟩:=I.base.tbls b ps e;obtain ⟨m2,e2⟩:=tbls b _ e1;exact ⟨m1 ++ m2,by rw [e2,Array.append_assoc]⟩
 ·obtain ⟨m,hn,hl⟩:=I.loc;refine ⟨m,ns m hn,fun i x v e1 e2 e3=>?_⟩;obtain ⟨u,r,l⟩:=hl i x v e1 e2 e3;exists u,r;rcases l with l | ⟨k,c,e,z⟩
  ·exact .inl l
  ·exact .inr ⟨k,c,e,cellK x c e _ z⟩
 ·obtain ⟨v,z⟩:=I.cell x c e;exact ⟨v,cellK x c e v z⟩
 ·obtain ⟨m,⟨o,_,_,ho,_⟩,_⟩:=I.loc;exact free _ o (fun z=>(hch _ z).2.1 rfl) ho I.free
 ·obtain ⟨v,o,ho,hd⟩:=I.cell x c e;exact free c o (fun z=>(hch c z).2.2.1 x c e rfl) ho (I.freeC x c e)
 ·obtain ⟨e,n,ne,nf,d⟩:=I.pin p hp;have nch:p.1 ∉ ch:=fun z=>(hch p.1 z).2.2.2 p hp rfl
  exact ⟨keep p.1 p.2 ne nf nch e n,free p.1 p.2 nch e n,ne,nf,d⟩
theorem As.un {t':Nat} (I:As X pins σ H s) (u:Un X.fs [] H H' s.heap h') (hok:FI X.prog X.w H' h'):As X pins σ H' { s with heap:=h',toks:=t' }:=by
 obtain ⟨m,⟨o,es,ep,ho,r⟩,_⟩:=id I.loc;obtain ⟨sl,hL⟩:=u.any ho I.free (by simp);exact I.step (g':=s.gens) (d':=s.drawn) (ch:=[]) (fun _ z=>nomatch z) (fun b o _ hb _ e n=>u.keep b o e n hb (by simp)) (fun b o _ hb _ e n=>u.slot b o e n hb (by simp)) (fun b o _ e n=>u.free b o e n (by simp)) (fun b o _ e=>u.there b o e (by simp)) u.tups u.frzs u.tbls (fun m' hm=>by
  obtain ⟨o',bp,VD,Ii,r'⟩:=hm;rw [ho] at Ii; cases Ii;exact ⟨_,bp,VD,hL,r'⟩) hok I.bare
theorem As.call {g':Array GenState} {t':Nat} {d':Drawn} {ch:List Addr} (I:As X pins σ H s) (u:Un (Sv X.stack) ch H H' s.heap h') (hok:FI X.prog X.w H' h') (hg:AllBare g')
  (hch:∀ b ∈ ch,(b ∈ X.ex\/X.s₀.heap.objs.size<=b)/\b ≠ X.env.locals/\(∀ x c,X.env.cells.lookup x=some c->c ≠ b)/\∀ p ∈ X.pn ++ pins,p.1 ≠ b) :
  As X pins σ H' { s with heap:=h',gens:=g',drawn:=d',toks:=t' }:=by
 obtain ⟨m,⟨o,es,ep,ho,r⟩,_⟩:=id I.loc;obtain ⟨sl,hL⟩:=u.any ho I.free fun z=>(hch _ z).2.1 rfl
 exact I.step (ch:=ch) hch (fun b o hL hb hc e n=>u.keep b o e n (fun z=>(eX.mp (I.stkSub b z)).elim hL hb) hc) (fun b o _ _ hc e n=>u.any e n hc) (fun b o hc e n=>u.free b o e n hc) (fun b o hc e=>u.there b o e hc) u.tups u.frzs u.tbls (fun m' hm=>by
  obtain ⟨o',bp,VD,Ii,r'⟩:=hm;rw [ho] at Ii; cases Ii;exact ⟨_,bp,VD,hL,r'⟩) hok hg
theorem As.turned {t':Nat} {it:Addr} (I:As X pins σ H s) (k:∀ b o,b ≠ it->s.heap.get? b=some o->h'.get? b=some o) (hn:H it=none) (hL:it ≠ X.env.locals)
  (h1:it ∈ X.ex\/X.s₀.heap.objs.size<=it) (h2:∀ x c,X.env.cells.lookup x=some c->c ≠ it) (h3:∀ p ∈ X.pn ++ pins,p.1 ≠ it):As X pins σ H { s with heap:=h',toks:=t' }:=by
 have nit:∀ b u,H b=some u->b ≠ it:=fun b u e z=>by rw [z,hn] at e; cases e
 refine I.step (g':=s.gens) (d':=s.drawn) (ch:=[it]) (fun b hb=>?_) (fun b o _ _ hc e _=>k b o (fun z=>hc (by simp [z])) e) (fun b o _ _ hc e _=>⟨o.slots,k b o (fun z=>hc (by simp [z])) e⟩) (fun _ _ _ _ n=>n)
  (fun b o hc e=>⟨o,k b o (fun z=>hc (by simp [z])) e⟩) (fun _ _ e=>e) (fun _ _ _ e=>e) (fun b ps e=>⟨#[],by rw [e]; simp⟩) (fun m hm=>?_) (fun b u e=>?_) I.bare
 ·have e:b=it:=by simpa using hb
  subst e;exact ⟨h1,hL,h2,h3⟩
 ·obtain ⟨o,es,ep,ho,r⟩:=hm;exact ⟨o,es,ep,k _ o (Ne.symm hL) ho,r⟩
 ·refine (I.hok b u e).stay (fun c v hc q=>k c v ?_ q) (fun _ q=>q) fun _ _ q=>q
  rcases hc with z | z
  ·rw [z]; exact nit b u e
  ·exact nit c _ z
theorem As.tok (I:As X pins σ H s) (t:Nat):As X pins σ H { s with toks:=t }:=I.un (h':=s.heap) (t':=t) Un.refl I.hok
theorem As.kept {t':Nat} (I:As X pins σ H s) (k:∀ b u,s.heap.get? b=some u->h'.get? b=some u):As X pins σ H { s with heap:=h',toks:=t' }:=I.un (Un.kept k) (I.hok.kept k)
theorem As.laid {a:Addr} {o:HO} {t':Nat} (I:As X pins σ H s) (k:∀ b u,s.heap.get? b=some u->h'.get? b=some u) (hp:s.heap.objs.size<=a) (new:AL X.prog X.w (upd H a o) h' a o) :
  As X pins σ (upd H a o) { s with heap:=h',toks:=t' }:=I.un (Un.laid k hp (I.hok.fresh hp)) (I.hok.laid k hp new)
theorem As.write {x e:Addr} {o:HO} {t':Nat} (I:As X pins σ H s) (mu:Mut (H x)) (he:e=x\/H e=some (.own x)) (k:∀ b u,b ≠ e->s.heap.get? b=some u->h'.get? b=some u) (heo:∃ u,h'.get? e=some u)
  (new:AL X.prog X.w (upd H x o) h' x o):As X pins σ (upd H x o) { s with heap:=h',toks:=t' }:=I.un (Un.write mu he k heo) (I.hok.write mu he k heo new)
theorem As.pins_of {Va:List (Addr × Obj)} (I:As X pins σ H s) (h:∀ p ∈ Va,s.heap.get? p.1=some p.2/\H p.1=none/\p.1 ≠ X.env.locals/\p.1 ∉ X.fs/\∀ v,p.2.data ≠ .cell v):As X Va σ H s:=
 ⟨I.ok,I.os,I.bare,I.base,I.loc,I.cell,I.free,I.freeC,fun p hp=>(fq.mp hp).elim (fun z=>I.pin p (gT _ z)) (h p),I.hok,I.len⟩
theorem IQ {N:List Str} (hN:N.Nodup) {i j:Nat} {x:Str} (a:N[i]? = some x) (b:N[j]? = some x):i=j:=by
 obtain ⟨h1,e1⟩:=fh.mp a;obtain ⟨h2,e2⟩:=fh.mp b;exact (kN hN).mp (e1.trans e2.symm)
theorem Gx {M:Model} {A:Around} {E:Value->Shared->Prop} {i:Nat} {x:Str} {v:V} {u:Value} {Q:Unit->Shared->Prop} (I:As X pins σ H s) (hN:X.N.Nodup) (hi:X.N[i]? = some x) (hx:Yq X.env.scope x) (r:AD v u)
  (h:∀ s',As X pins (σ.set i (some v)) H s'->(∃ a,Heap.SameBut a s.heap s'.heap/\(a=X.env.locals\/X.env.cells.lookup x=some a))->Q () s') (hf:X.fn x=true\/X.env.scope.names.lookup x=some .local:=by first | exact .inl rfl | exact .inr rfl | assumption):wpAny M A (storeName X.env x u) Q E s:=by
 obtain ⟨m,hn,hl⟩:=id I.loc;have hcls:(X.env.scope.kind == .class || (X.env.scope.kind == .module && X.env.locals != X.env.globals))=false:=by rw [I.ok.kind]; rfl
 have hiσ:i < σ.length:=by rw [I.len]; exact (fh.mp hi).1
 have cne:=I.cne;have tracked:∀ {a:Addr} {h':Heap},(∃ o,s.heap.get? a=some o/\H a=none)->Heap.SameBut a s.heap h'->FI X.prog X.w H h':=fun {a h'} ha hs b ob e=>by
  obtain ⟨_,_,hfree⟩:=ha;refine (I.hok b ob e).stay (fun c w' hc q=>(hs.2 c ?_).trans q) (fun _ q=>q) fun _ _ q=>q
  rintro rfl;rcases hc with rfl | hc
  ·rw [hfree] at e; cases e
  ·rw [hfree] at hc; cases hc
 rcases hx with hk | hk
 ·refine wpAny_storeName_local hk hn (fun h' aY hs=>?_) hcls;obtain ⟨oL,_,_,hoL,_⟩:=id hn;refine h _ ⟨I.ok,I.os,I.bare,⟨fun b o e n hb hx=>?_,fun b o e n hb hx=>?_,I.base.free,fun b o e hx=>?_,I.base.tups,I.base.frzs,I.base.tbls⟩,⟨_,aY,fun j y v' e1 e2 e3=>?_⟩,fun y c e=>?_,I.free,I.freeC,fun p hp=>?_,tracked ⟨oL,hoL,I.free⟩ hs,by simpa using I.len⟩ ⟨_,hs,.inl rfl⟩
  ·exact (hs.2 b (fj (fk (fb e) I.ok.above))).trans (I.base.keep b o e n hb hx)
  ·obtain ⟨sl,e1⟩:=I.base.slot b o e n hb hx;exact ⟨sl,(hs.2 b (fj (fk (fb e) I.ok.above))).trans e1⟩
  ·obtain ⟨o',e1⟩:=I.base.there b o e hx;exact ⟨o',(hs.2 b (fj (fk (fb e) I.ok.above))).trans e1⟩
  ·by_cases hj:j=i
   ·subst hj;rw [hi] at e1; cases e1;rw [jQ hiσ] at e2;cases e2
    exact ⟨u,r,.inl ⟨hk,by simp⟩⟩
   ·rw [jW (Ne.symm hj)] at e2;obtain ⟨u',r',q⟩:=hl j y v' e1 e2 e3;exists u',r';rcases q with ⟨k,e⟩ | ⟨k,c,e,z⟩
    ·refine .inl ⟨k,?_⟩;have:y ≠ x:=fun e=>hj (IQ hN e1 (e ▸ hi))
     simp [this,e]
    ·exact .inr ⟨k,c,e,z.sameBut hs (cne y c e)⟩
  ·obtain ⟨w',z⟩:=I.cell y c e;exact ⟨w',z.sameBut hs (cne y c e)⟩
  ·obtain ⟨e,n,ne,nf,d⟩:=I.pin p hp;exact ⟨(hs.2 p.1 ne).trans e,n,ne,nf,d⟩
 ·have hfn:X.fn x=true:=by
   rcases hf with z | z
   ·exact z
   ·rw [z] at hk; cases hk
  obtain ⟨c,hc⟩:=I.ok.has x (.inl hk);obtain ⟨w',z⟩:=I.cell x c hc;refine wpAny_storeName_cell I.ok.kind hk hc z (fun h' LC hs=>?_);obtain ⟨oc,hoc,hocd⟩:=id z;refine h { s with heap:=h' } ⟨I.ok,I.os,I.bare,⟨fun b o e n hb hx=>?_,fun b o e n hb hx=>?_,I.base.free,fun b o e hx=>?_,I.base.tups,I.base.frzs,I.base.tbls⟩,⟨m,hn.sameBut hs (Ne.symm (cne x c hc)),fun j y v' e1 e2 e3=>?_⟩,fun y c' e=>?_,I.free,I.freeC,fun p hp=>?_,tracked ⟨oc,hoc,I.freeC x c hc⟩ hs,by simpa using I.len⟩ ⟨c,hs,.inr hc⟩
  ·exact (hs.2 b (fj (fk (fb e) (I.ok.cab x c hfn hc)))).trans (I.base.keep b o e n hb hx)
  ·obtain ⟨sl,e1⟩:=I.base.slot b o e n hb hx;exact ⟨sl,(hs.2 b (fj (fk (fb e) (I.ok.cab x c hfn hc)))).trans e1⟩
  ·obtain ⟨o',e1⟩:=I.base.there b o e hx;exact ⟨o',(hs.2 b (fj (fk (fb e) (I.ok.cab x c hfn hc)))).trans e1⟩
  ·by_cases hj:j=i
   ·subst hj;rw [hi] at e1; cases e1;rw [jQ hiσ] at e2;cases e2
    exact ⟨u,r,.inr ⟨.inl hk,c,hc,LC⟩⟩
   ·rw [jW (Ne.symm hj)] at e2;obtain ⟨u',r',q⟩:=hl j y v' e1 e2 e3;exists u',r';rcases q with q | ⟨k,c',e,z'⟩
    ·exact .inl q
    ·refine .inr ⟨k,c',e,z'.sameBut hs ?_⟩;rintro rfl;exact hj (IQ hN e1 (I.ok.inj _ _ _ e hc ▸ hi))
  ·by_cases hcc:c'=c
   ·subst hcc; exact ⟨_,LC⟩
   ·obtain ⟨w2,z2⟩:=I.cell y c' e;exact ⟨w2,z2.sameBut hs hcc⟩
  ·obtain ⟨e,n,ne,nf,d⟩:=I.pin p hp;refine ⟨(hs.2 p.1 ?_).trans e,n,ne,nf,d⟩;intro q;rw [q,hoc] at e;have q':oc=p.2:=fV.inj e;exact d w' (by rw [<-q']; exact hocd)
theorem LP {M:Model} {A:Around} {E:Value->Shared->Prop} {i:Nat} {x:Str} {v:V} {u:Value} {Q:Unit->Shared->Prop} (I:As X pins σ H s) (hN:X.N.Nodup) (hi:X.N[i]? = some x) (hx:Yq X.env.scope x) (r:AD v u)
  (h:∀ s',As X pins (σ.set i (some v)) H s'->Q () s') (hf:X.fn x=true\/X.env.scope.names.lookup x=some .local:=by first | exact .inl rfl | exact .inr rfl | assumption):wpAny M A (storeName X.env x u) Q E s:=
 Gx I hN hi hx r (fun s' I' _=>h s' I') hf
theorem As.call' {s':Shared} {ch:List Addr} (I:As X pins σ H s) (ho:s'.os=s.os) (u:Un (Sv X.stack) ch H H' s.heap s'.heap) (hok:FI X.prog X.w H' s'.heap) (hg:AllBare s'.gens)
  (hch:∀ b ∈ ch,(b ∈ X.ex\/X.s₀.heap.objs.size<=b)/\b ≠ X.env.locals/\(∀ x c,X.env.cells.lookup x=some c->c ≠ b)/\∀ p ∈ X.pn ++ pins,p.1 ≠ b):As X pins σ H' s':=by
 obtain ⟨h',g',d',t',o'⟩:=s';have e:o'=s.os:=ho;subst e;exact I.call (g':=g') (t':=t') (d':=d') u hok hg hch
end
abbrev XK:=Value->Option Addr->Hp->Prop
abbrev St:=List (Option V)
abbrev VK:=V->Hp->Prop
abbrev TE:=St->Hp->VK->Prop
abbrev TT:=St->Hp->(Bool->Hp->Prop)->Prop
abbrev TA:=St->Hp->(List V->Hp->Prop)->Prop
structure Gr where
 nx:St->Hp->Prop
 rt:VK
 bk:St->Hp->Prop:=fun _ _=>False
 ct:St->Hp->Prop:=fun _ _=>False
abbrev TS:=Gr->St->Hp->Prop
def EP (X:Cx) (pins:List (Addr × Obj)) (σ:St) (Q:VK) (u:Value) (s':Shared):Prop:=∃ v H',As X pins σ H' s'/\AD v u/\Q v H'
def TP (X:Cx) (pins:List (Addr × Obj)) (σ:St) (Q:Bool->Hp->Prop) (b:Bool) (s':Shared):Prop:=∃ H',As X pins σ H' s'/\Q b H'
def AP (X:Cx) (pins:List (Addr × Obj)) (σ:St) (Q:List V->Hp->Prop) (us:List Value) (s':Shared):Prop:=∃ vs H',As X pins σ H' s'/\AB vs us/\Q vs H'
def SP (X:Cx) (pins:List (Addr × Obj)) (D:Gr) (f:Flow) (s':Shared):Prop:=
 match f with
 | .next=>∃ Av H',As X pins Av H' s'/\D.nx Av H'
 | .brk=>∃ Av H',As X pins Av H' s'/\D.bk Av H'
 | .cont=>∃ Av H',As X pins Av H' s'/\D.ct Av H'
 | .ret u=>∃ v Av H',As X pins Av H' s'/\AD v u/\D.rt v H'
def PE (X:Cx) (e:Expr) (t:TE):Prop:=
 ∀ ⦃pins:List (Addr × Obj)⦄ (s:Shared) (σ:St) (H:Hp) (Q:VK),As X pins σ H s->t σ H Q->wpAny (model X.prog X.w) X.A (eval e X.env) (EP X pins σ Q) X.xe s
def PT (X:Cx) (e:Expr) (t:TT):Prop:=
 ∀ ⦃pins:List (Addr × Obj)⦄ (s:Shared) (σ:St) (H:Hp) (Q:Bool->Hp->Prop),As X pins σ H s->t σ H Q->wpAny (model X.prog X.w) X.A (isTrue e X.env (eval e X.env)) (TP X pins σ Q) X.xe s
def PW (X:Cx) (e:Expr) (t:TT):Prop:=
 ∀ ⦃whole:Sem Value⦄ (pins:List (Addr × Obj)) (s:Shared) (σ:St) (H:Hp) (Q:Bool->Hp->Prop),As X pins σ H s->t σ H Q->wpAny (model X.prog X.w) X.A (isTrue e X.env whole) (TP X pins σ Q) X.xe s
theorem PW.pt {X:Cx} {e:Expr} {t:TT} (h:PW X e t):PT X e t:=@h _
def PA (X:Cx) (es:List Expr) (t:TA):Prop:=
 ∀ ⦃pos:Pos⦄ (pins:List (Addr × Obj)) (s:Shared) (σ:St) (H:Hp) (Q:List V->Hp->Prop),As X pins σ H s->t σ H Q->wpAny (model X.prog X.w) X.A (spliced (backTo pos (starEach es X.env))) (AP X pins σ Q) X.xe s
def PS (X:Cx) (st:Stmt) (t:TS):Prop:=
 ∀ ⦃pins:List (Addr × Obj)⦄ (s:Shared) (σ:St) (H:Hp) (D:Gr),As X pins σ H s->t D σ H->wpAny (model X.prog X.w) X.A (exec st X.env) (SP X pins D) X.xe s
def NU (X:Cx) (st:List Stmt) (t:TS):Prop:=
 ∀ ⦃pins:List (Addr × Obj)⦄ (s:Shared) (σ:St) (H:Hp) (D:Gr),As X pins σ H s->t D σ H->wpAny (model X.prog X.w) X.A (execs st X.env) (SP X pins D) X.xe s
theorem Bt {α:Type} {t:Sem α} {Q Q':α->Shared->Prop} {M:Model} {A:Around} {E:Value->Shared->Prop} {s:Shared} (h:wpAny M A t Q E s) (hQ:∀ a s,Q a s->Q' a s):wpAny M A t Q' E s:=wpAny_mono h hQ fun _ _ x=>x
section
variable {X:Cx}
def To (i:Nat):TE:=fun σ H Q=>∃ v,σ[i]? = some (some v)/\Q v H
def tC (v:V):TE:=fun _ H Q=>Q v H
theorem W0 {i:Nat} {x:Str} {pos:Pos} (hN:X.N[i]? = some x) (hv:Vis X.env.scope x) (hd:(x == ("__debug__":Str))=false:=by decide) (hcd:(x == ("__classdict__":Str))=false:=by decide):PE X (.Name x pos) (To i):=by
 intro pins s σ H Q I h;obtain ⟨v,e,h⟩:=h;obtain ⟨m,hn,hl⟩:=I.loc;obtain ⟨u,r,l⟩:=hl i x v hN e hv;have fin:EP X pins σ Q u s:=⟨v,H,I,r,h⟩
 rcases l with ⟨hk,hm⟩ | ⟨hk,c,hc,hcell⟩
 ·exact wpAny_Name (wpAny_loadName_local I.ok.kind hk hn hm fin) hd
 ·rcases hk with hk | hk
  ·exact wpAny_Name (wpAny_loadName_cell I.ok.kind hk hc hcell fin) hd
  ·exact wpAny_Name (wpAny_loadName_free I.ok.kind hk hc hcell fin hcd) hd
theorem Ag {i j pos}:PE X (.Constant (.int i) j pos) (tC (.int i)):=fun _ _ _ H _ I h=>wpAny_Constant_int ⟨.int i,H,I.tok _,⟨_,rfl⟩,h⟩
theorem Fx {b j pos}:PE X (.Constant (.bool b) j pos) (tC (.bl b)):=fun _ _ _ H _ I h=>Constant_bool ⟨.bl b,H,I,rfl,h⟩
theorem R8 {j pos}:PE X (.Constant .none j pos) (tC .non):=fun _ _ _ H _ I h=>Constant_none ⟨.non,H,I,rfl,h⟩
theorem F2 {x j pos}:PE X (.Constant (.str x) j pos) (tC (.str x)):=fun _ _ _ H _ I h=>Calls.Constant_str ⟨.str x,H,I.tok _,⟨_,rfl⟩,h⟩
def Gl (X:Cx) (x:Str):Prop:=X.env.kindOf x=some .globalImplicit
theorem OB {E:Value->Shared->Prop} {pins:List (Addr × Obj)} {s:Shared} {σ:St} {H:Hp} {x:Str} {u:Value} {pos:Pos} {Q:Value->Shared->Prop} (I:As X pins σ H s) (hg:Gl X x) (hm:X.mg x=some u) (h:Q u s)
  (hd:(x == ("__debug__":Str))=false:=by decide):wpAny (model X.prog X.w) X.A (eval (.Name x pos) X.env) Q E s:=
 Calls.Name_function_global I.ok.kind hg (Calls.loadGlobal_global (by rw [I.ok.glob]; exact I.mod.glob.keeps I.bk) hm h) hd
theorem GJ {E:Value->Shared->Prop} {pins:List (Addr × Obj)} {s:Shared} {σ:St} {H:Hp} {x:Str} {u:Value} {pos:Pos} {Q:Value->Shared->Prop} (I:As X pins σ H s) (hg:Gl X x) (hm:X.mg x=none) (hv:bootBuiltins x=some u) (h:Q u s)
  (hn:x ≠ "__name__":=by decide) (hd:(x == ("__debug__":Str))=false:=by decide):wpAny (model X.prog X.w) X.A (eval (.Name x pos) X.env) Q E s:=by
 obtain ⟨mb,h1,h2⟩:=I.mod.blt;exact Calls.Name_function_global I.ok.kind hg (Calls.loadGlobal_builtin (by rw [I.ok.glob]; exact I.mod.glob.keeps I.bk) hm (by rw [I.ok.blt]; exact h1.keeps I.bk) ((h2 x hn).trans hv) h) hd
theorem TU {x:Str} {v:V} {u:Value} {pos:Pos} (hg:Gl X x) (hm:X.mg x=some u) (r:AD v u) (hd:(x == ("__debug__":Str))=false:=by decide):PE X (.Name x pos) (tC v):=
 fun _ _ _ H _ I h=>OB I hg hm ⟨v,H,I,r,h⟩ hd
theorem Ey {x:Str} {v:V} {u:Value} {pos:Pos} (hg:Gl X x) (hm:X.mg x=none) (hv:bootBuiltins x=some u) (r:AD v u) (hn:x ≠ "__name__":=by decide) (hd:(x == ("__debug__":Str))=false:=by decide):PE X (.Name x pos) (tC v):=
 fun _ _ _ H _ I h=>GJ I hg hm hv ⟨v,H,I,r,h⟩ hn hd
variable {a b:Expr} {ta tb:TE} {pos:Pos}
def PC (X:Cx) (op:CmpOp) (a b:Expr) (t:TE):Prop:=
 ∀ ⦃pins:List (Addr × Obj)⦄ (s:Shared) (σ:St) (H:Hp) (Q:VK),As X pins σ H s->t σ H Q ->
  wpAny (model X.prog X.w) X.A (eval a X.env) (fun v AV=>wpAny (model X.prog X.w) X.A (eval b X.env) (fun u EB=>wpAny (model X.prog X.w) X.A (compareOp op v u) (EP X pins σ Q) X.xe EB) X.xe AV) X.xe s
theorem Mq (b:Expr) {op:CmpOp} (h:op ≠ .In) (h2:op ≠ .NotIn):behindInMarks op b=false:=by
 have e1:(op == CmpOp.In)=false:=by cases op <;> first | rfl | exact absurd rfl h
 have e2:(op == CmpOp.NotIn)=false:=by cases op <;> first | rfl | exact absurd rfl h2
 cases b <;> simp [behindInMarks,e1,e2]
def tIsN (ta:TE):TE:=fun σ H Q=>ta σ H fun x H1=>Q (.bl (decide (x=.non))) H1
def tNotN (ta:TE):TE:=fun σ H Q=>ta σ H fun x H1=>Q (.bl (!decide (x=.non))) H1
theorem AD.none_iff {x:V} {v:Value} (r:AD x v):(v == Value.none)=decide (x=.non):=by
 cases x with
 | non=>cases r; rfl
 | bl _=>cases r; rfl
 | int _=>obtain ⟨t,rfl⟩:=r; rfl
 | str _=>obtain ⟨t,rfl⟩:=r; rfl
 | byt _=>obtain ⟨t,rfl⟩:=r; rfl
 | flt _=>obtain ⟨t,rfl⟩:=r; rfl
 | ref _=>cases r; rfl
 | ty _=>cases r; rfl
theorem La {j pos'} (ha:PE X a ta):PC X .Is a (.Constant .none j pos') (tIsN ta):=by
 intro pins s σ H Q I h;refine Bt (ha (pins:=pins) s σ H _ I h) fun v s1 ⟨x,H1,I1,r1,q1⟩=>?_
 exact Constant_none (is_none_gen ⟨.bl _,H1,I1,by rw [r1.none_iff]; rfl,q1⟩)
theorem KZ {j pos'} (ha:PE X a ta):PC X .IsNot a (.Constant .none j pos') (tNotN ta):=by
 intro pins s σ H Q I h;refine Bt (ha (pins:=pins) s σ H _ I h) fun v s1 ⟨x,H1,I1,r1,q1⟩=>?_
 exact Constant_none (isnot_none_gen ⟨.bl _,H1,I1,by rw [r1.none_iff]; rfl,q1⟩)
def tB (t:TE):TT:=fun σ H Q=>t σ H fun x H1=>∃ c,x=.bl c/\Q c H1
theorem RE {op:CmpOp} {t:TE} (h:PC X op a b t) (h1:behindInMarks op b=false:=by first | exact Mq _ (by decide) (by decide) | rfl):PE X (.Compare a [op] [b] pos) t:=fun pins s σ H Q I hw=>wpAny_Compare1 (h (pins:=pins) s σ H Q I hw) h1
theorem F1 {op:CmpOp} {t:TE} (h:PC X op a b t) (h1:behindInMarks op b=false:=by first | exact Mq _ (by decide) (by decide) | rfl):PT X (.Compare a [op] [b] pos) (tB t):=by
 intro pins s σ H Q I hw;refine wpAny_isTrue_Compare1 (Bt (h (pins:=pins) s σ H _ I hw) fun v s1 h1=>Bt h1 fun u s2 h2=>Bt h2 fun c s3 ⟨x,H1,I1,r1,q1⟩=>?_) h1;obtain ⟨d,rfl,q⟩:=q1;cases r1
 exact wpAny_truthy_bool ⟨H1,I1,q⟩
theorem G6 {e:Expr} {t:TE} (h:PE X e t) (he:∀ whole,isTrue e X.env whole=(do let v <- whole; standAt e.pos; holding [v] (truthy v)):=by intro _; rfl):PT X e (tB t):=by
 intro pins s σ H Q I hw;refine isTrue_plain (Bt (h (pins:=pins) s σ H _ I hw) fun v s1 ⟨x,H1,I1,r1,q1⟩=>?_) (he _);obtain ⟨d,rfl,q⟩:=q1;cases r1
 exact wpAny_truthy_bool ⟨H1,I1,q⟩
variable {tA ay:TT} {rest:List Expr}
def tAnd (t u:TT):TT:=fun σ H Q=>t σ H fun c H1=>if c=true then u σ H1 Q else Q false H1
def tOr (t u:TT):TT:=fun σ H Q=>t σ H fun c H1=>if c=true then Q true H1 else u σ H1 Q
def tNot (t:TT):TT:=fun σ H Q=>t σ H fun c H1=>Q (!c) H1
theorem O0 (ha:PT X a tA):PW X (.BoolOp .And [a] pos) tA:=by
 intro wh pins s σ H Q I h;refine isTrue_and (Bt (ha (pins:=pins) s σ H Q I h) fun c s1 e=>?_);cases c with
 | true=>exact isTrue_and_nil e
 | false=>exact e
theorem G5 (ha:PT X a tA):PW X (.BoolOp .Or [a] pos) tA:=by
 intro wh pins s σ H Q I h;refine isTrue_or (Bt (ha (pins:=pins) s σ H Q I h) fun c s1 e=>?_);cases c with
 | false=>exact isTrue_or_nil e
 | true=>exact e
theorem Nm (ha:PT X a tA) (hb:PW X (.BoolOp .And (b :: rest) pos) ay):PW X (.BoolOp .And (a :: b :: rest) pos) (tAnd tA ay):=by
 intro wh pins s σ H Q I h;refine isTrue_and (Bt (ha (pins:=pins) s σ H _ I h) fun c s1 ⟨H1,I1,q1⟩=>?_);cases c with
 | true=>exact hb (whole:=wh) (pins:=pins) s1 σ H1 Q I1 q1
 | false=>exact ⟨H1,I1,q1⟩
theorem Kh (ha:PT X a tA) (hb:PW X (.BoolOp .Or (b :: rest) pos) ay):PW X (.BoolOp .Or (a :: b :: rest) pos) (tOr tA ay):=by
 intro wh pins s σ H Q I h;refine isTrue_or (Bt (ha (pins:=pins) s σ H _ I h) fun c s1 ⟨H1,I1,q1⟩=>?_);cases c with
 | true=>exact ⟨H1,I1,q1⟩
 | false=>exact hb (whole:=wh) (pins:=pins) s1 σ H1 Q I1 q1
theorem EN (ha:PT X a tA):PT X (.UnaryOp .Not a pos) (tNot tA):=by
 intro pins s σ H Q I h;exact isTrue_not (ha (pins:=pins) s σ H (fun c H1=>Q (!c) H1) I h)
def tAndV (ta tb:TE):TE:=fun σ H Q=>ta σ H fun x H1=>∃ c,x=.bl c/\if c=true then tb σ H1 Q else Q (.bl false) H1
def tOrV (ta tb:TE):TE:=fun σ H Q=>ta σ H fun x H1=>∃ c,x=.bl c/\if c=true then Q (.bl true) H1 else tb σ H1 Q
def tNotV (ta:TE):TE:=fun σ H Q=>ta σ H fun x H1=>∃ c,x=.bl c/\Q (.bl (!c)) H1
theorem De {op} {t:TE} (h:PE X a t):PE X (.BoolOp op [a] pos) t:=fun pins s σ H Q I hw=>BoolOp_one (h (pins:=pins) s σ H Q I hw)
theorem C3 (ha:PE X a ta) (hb:PE X (.BoolOp .And (b :: rest) pos) tb):PE X (.BoolOp .And (a :: b :: rest) pos) (tAndV ta tb):=by
 intro pins s σ H Q I h;refine BoolOp_and (Bt (ha (pins:=pins) s σ H _ I h) fun v s1 ⟨x,H1,I1,r1,q1⟩=>?_);obtain ⟨c,rfl,q1⟩:=q1;cases r1
 refine wpAny_truthy_bool ?_;cases c with
 | true=>exact hb (pins:=pins) s1 σ H1 Q I1 q1
 | false=>exact ⟨.bl false,H1,I1,rfl,q1⟩
theorem pe_or (ha:PE X a ta) (hb:PE X (.BoolOp .Or (b :: rest) pos) tb):PE X (.BoolOp .Or (a :: b :: rest) pos) (tOrV ta tb):=by
 intro pins s σ H Q I h;refine BoolOp_or (Bt (ha (pins:=pins) s σ H _ I h) fun v s1 ⟨x,H1,I1,r1,q1⟩=>?_);obtain ⟨c,rfl,q1⟩:=q1;cases r1
 refine wpAny_truthy_bool ?_;cases c with
 | false=>exact hb (pins:=pins) s1 σ H1 Q I1 q1
 | true=>exact ⟨.bl true,H1,I1,rfl,q1⟩
theorem W2 (ha:PE X a ta):PE X (.UnaryOp .Not a pos) (tNotV ta):=by
 intro pins s σ H Q I h;refine UnaryOp_ (Bt (ha (pins:=pins) s σ H _ I h) fun v s1 ⟨x,H1,I1,r1,q1⟩=>?_);obtain ⟨c,rfl,q1⟩:=q1;cases r1
 exact not_of (wpAny_truthy_bool ⟨.bl (!c),H1,I1,rfl,q1⟩)
def tIf (t:TT) (ta tb:TE):TE:=fun σ H Q=>t σ H fun c H1=>if c=true then ta σ H1 Q else tb σ H1 Q
theorem R9 {c:Expr} (hc:PT X c tA) (ha:PE X a ta) (hb:PE X b tb):PE X (.IfExp c a b pos) (tIf tA ta tb):=by
 intro pins s σ H Q I h;refine wpAny_IfExp (Bt (hc (pins:=pins) s σ H _ I h) fun d s1 ⟨H1,I1,q1⟩=>?_);cases d with
 | true=>exact ha (pins:=pins) s1 σ H1 Q I1 q1
 | false=>exact hb (pins:=pins) s1 σ H1 Q I1 q1
end
def Ba (K:eV) (H:Hp) (a:Addr) (xs:List V):Prop:=
 Rd H a (.lst xs) \/
  ∃ (o:Obj) (Ar:Array Value) (n:Nat),K.lookup a=some o/\o.cls=.type "list"/\o.dict=none/\o.data=.seq Ar n/\Ar.size<=sizeLine/\AB xs Ar.toList
def Az (K:eV) (H:Hp) (a:Addr) (xs:List V):Prop:=
 Rd H a (.tup xs) \/
  ∃ (o:Obj) (Ar:Array Value) (n:Nat),K.lookup a=some o/\o.cls=.type "tuple"/\o.data=.seq Ar n/\Ar.size<=sizeLine/\AB xs Ar.toList
def absV:Value->Option V
 | .none=>some .non
 | .bool b=>some (.bl b)
 | .int i _=>some (.int i)
 | .str x _=>some (.str x)
 | .bytes b _=>some (.byt b)
 | .float b _=>some (.flt b)
 | .ref a=>some (.ref a)
 | .type n=>some (.ty n)
 | _=>none
theorem AD.abs {x:V} {u:Value} (r:AD x u):absV u=some x:=by
 cases x with
 | non=>cases r; rfl
 | bl _=>cases r; rfl
 | int _=>obtain ⟨t,rfl⟩:=r; rfl
 | str _=>obtain ⟨t,rfl⟩:=r; rfl
 | byt _=>obtain ⟨t,rfl⟩:=r; rfl
 | flt _=>obtain ⟨t,rfl⟩:=r; rfl
 | ref _=>cases r; rfl
 | ty _=>cases r; rfl
theorem AD.inj {x y:V} {u:Value} (r:AD x u) (q:AD y u):x=y:=fV.inj (r.abs.symm.trans q.abs)
theorem AB.inj:∀ {xs ys:List V} {us:List Value},AB xs us->AB ys us->xs=ys
 | _,_,_,.nil,.nil=>rfl
 | _,_,_,.cons r t,.cons r' t'=>by rw [r.inj r',AB.inj t t']
section
variable {X:Cx} {pins:List (Addr × Obj)} {σ:St} {H:Hp} {s:Shared} {a:Addr} {xs ys:List V}
theorem Ba.of {K:eV} (h:H a=some (.lst xs)):Ba K H a xs:=.inl (.inl h)
theorem Az.of {K:eV} (h:H a=some (.tup xs)):Az K H a xs:=.inl (.inl h)
theorem As.list (I:As X pins σ H s) (h:Ba X.K H a xs):∃ Ar:List Value,AB xs Ar/\PlainL s.heap a Ar.toArray/\xs.length<=sizeLine:=by
 rcases h with h | ⟨o,Ar,n,hk,hc,hd,hs,hz,r⟩
 ·obtain ⟨z,Ar,n,r,e⟩:=h.ok I.hok;exact ⟨Ar,r,⟨_,n,e,rfl,rfl,rfl⟩,z⟩
 ·exists Ar.toList,r,⟨o,n,I.kIn a o hk,hc,hd,by simpa using hs⟩
  have e:=r.length;simp only [gg] at e;lia
theorem As.tuple (I:As X pins σ H s) (h:Az X.K H a xs):∃ Ar:List Value,AB xs Ar/\IsTup s.heap a Ar.toArray/\xs.length<=sizeLine:=by
 rcases h with h | ⟨o,Ar,n,hk,hc,hs,hz,r⟩
 ·obtain ⟨z,Ar,r,p,_⟩:=h.ok I.hok;exact ⟨Ar,r,p,z⟩
 ·exists Ar.toList,r,⟨o,I.kIn a o hk,hc,n,by simpa using hs⟩
  have e:=r.length;simp only [gg] at e;lia
theorem As.list_inj (I:As X pins σ H s) (h:Ba X.K H a xs) (h':Ba X.K H a ys):xs=ys:=by
 obtain ⟨Ar,r,⟨o,n,e,_,_,d⟩,_⟩:=I.list h;obtain ⟨its',r',⟨o',n',e',_,_,d'⟩,_⟩:=I.list h';rw [e] at e'; cases e';rw [d] at d';injection d' with d1 _;have:Ar=its':=by simpa using congrArg iX d1
 subst this;exact r.inj r'
theorem As.tuple_inj (I:As X pins σ H s) (h:Az X.K H a xs) (h':Az X.K H a ys):xs=ys:=by
 obtain ⟨Ar,r,⟨o,e,_,n,d⟩,_⟩:=I.tuple h;obtain ⟨its',r',⟨o',e',_,n',d'⟩,_⟩:=I.tuple h';rw [e] at e'; cases e';rw [d] at d';injection d' with d1 _;have:Ar=its':=by simpa using congrArg iX d1
 subst this;exact r.inj r'
end
abbrev Cx.wish (X:Cx) (E:Value->Shared->Prop):Cx:={ X with xe:=E }
abbrev Cx.nox (X:Cx):Cx:=X.wish fun _ _=>False
theorem Cx.Ok.wish {X:Cx} (ok:X.Ok) (E:Value->Shared->Prop):(X.wish E).Ok:=
 ⟨ok.mod,ok.kind,ok.glob,ok.blt,ok.above,ok.inj,ok.has,ok.cab,ok.hd,ok.frames,ok.stk,ok.exf,ok.bs,ok.bsz,ok.noex,ok.exfs,ok.funs,ok.frf⟩
theorem Cx.Ok.unwish {X:Cx} {E:Value->Shared->Prop} (ok:(X.wish E).Ok):X.Ok:=
 ⟨ok.mod,ok.kind,ok.glob,ok.blt,ok.above,ok.inj,ok.has,ok.cab,ok.hd,ok.frames,ok.stk,ok.exf,ok.bs,ok.bsz,ok.noex,ok.exfs,ok.funs,ok.frf⟩
section
variable {X:Cx} {pins:List (Addr × Obj)} {σ:St} {H:Hp} {s:Shared} {E:Value->Shared->Prop}
theorem As.wish (I:As X pins σ H s) (E:Value->Shared->Prop):As (X.wish E) pins σ H s:=⟨I.ok.wish E,I.os,I.bare,I.base,I.loc,I.cell,I.free,I.freeC,I.pin,I.hok,I.len⟩
theorem As.unwish (I:As (X.wish E) pins σ H s):As X pins σ H s:=⟨I.ok.unwish,I.os,I.bare,I.base,I.loc,I.cell,I.free,I.freeC,I.pin,I.hok,I.len⟩
theorem SP.unwish {D:Gr} {f:Flow} {s':Shared} (h:SP (X.wish E) pins D f s'):SP X pins D f s':=by
 cases f with
 | next=>obtain ⟨Av,H',I,q⟩:=h; exact ⟨Av,H',I.unwish,q⟩
 | brk=>obtain ⟨Av,H',I,q⟩:=h; exact ⟨Av,H',I.unwish,q⟩
 | cont=>obtain ⟨Av,H',I,q⟩:=h; exact ⟨Av,H',I.unwish,q⟩
 | ret u=>obtain ⟨v,Av,H',I,r,q⟩:=h; exact ⟨v,Av,H',I.unwish,r,q⟩
theorem NU.nox {st:List Stmt} {t:TS} (h:NU X.nox st t):NU X st t:=fun pins s σ H D I hw=>
 wpAny_mono (h (pins:=pins) s σ H D (I.wish _) hw) (fun _ _ q=>q.unwish) fun _ _ z=>False.elim z
end
section
variable {X:Cx} {st:Stmt} {rest:List Stmt} {t u:TS} {e:Expr} {te:TE} {pos:Pos}
def tNext:TS:=fun D σ H=>D.nx σ H
def tSeq (t u:TS):TS:=fun D σ H=>t { D with nx:=u D } σ H
theorem BB:NU X [] tNext:=fun _ _ σ H _ I h=>wpAny_execs_nil ⟨σ,H,I,h⟩
theorem Af (h1:PS X st t) (h2:NU X rest u):NU X (st :: rest) (tSeq t u):=by
 intro pins s σ H D I h;refine wpAny_execs_cons (Bt (h1 (pins:=pins) s σ H { D with nx:=u D } I h) fun f s1 q=>?_);cases f with
 | next=>
  obtain ⟨Av,H',I',q⟩:=q;exact h2 (pins:=pins) s1 Av H' D I' q
 | ret v=>exact q
 | brk=>exact q
 | cont=>exact q
theorem Ak (h1:PS X st t):NU X [st] t:=by
 intro pins s σ H D I h;refine wpAny_execs_cons (Bt (h1 (pins:=pins) s σ H D I h) fun f s1 q=>?_);cases f with
 | next=>exact wpAny_execs_nil q
 | ret v=>exact q
 | brk=>exact q
 | cont=>exact q
theorem As.quiet {pins:List (Addr × Obj)} {σ:St} {H:Hp} {s:Shared} (I:As X pins σ H s):interactive X.env=false:=by simp [interactive,I.ok.kind]
def tDrop (te:TE):TS:=fun D σ H=>te σ H fun _ H1=>D.nx σ H1
theorem Ci (he:PE X e te) (hs:swapsWith e none pos.line X.env=pure false:=by rfl):PS X (.Expr e pos) (tDrop te):=by
 intro pins s σ H D I h;exact wpAny_Expr_any (Bt (he (pins:=pins) s σ H _ I h) fun v s1 ⟨x,H1,I1,r1,q1⟩=>⟨σ,H1,I1,q1⟩) I.quiet hs
def tRet (te:TE):TS:=fun D σ H=>te σ H D.rt
theorem A7 (he:PE X e te):PS X (.Return (some e) pos) (tRet te):=by
 intro pins s σ H D I h;exact wpAny_Return_some (Bt (he (pins:=pins) s σ H _ I h) fun v s1 ⟨x,H1,I1,r1,q1⟩=>⟨x,σ,H1,I1,r1,q1⟩)
def tIfS (c:TT) (t u:TS):TS:=fun D σ H=>c σ H fun b H1=>if b=true then t D σ H1 else u D σ H1
theorem C9 {c:Expr} {a b:List Stmt} {tc:TT} (hc:PT X c tc) (ha:NU X a t) (hb:NU X b u):PS X (.If c a b pos) (tIfS tc t u):=by
 intro pins s σ H D I h;refine wpAny_If (Bt (hc (pins:=pins) s σ H _ I h) fun d s1 ⟨H1,I1,q1⟩=>?_);cases d with
 | true=>exact ha (pins:=pins) s1 σ H1 D I1 q1
 | false=>exact hb (pins:=pins) s1 σ H1 D I1 q1
end
abbrev TG:=V->St->Hp->(St->Hp->Prop)->Prop
abbrev VG:=List V->St->Hp->(St->Hp->Prop)->Prop
def PG (X:Cx) (target:Expr) (t:TG):Prop:=
 ∀ ⦃pins:List (Addr × Obj)⦄ (s:Shared) (σ:St) (H:Hp) (v:V) (u:Value) (Q:St->Hp->Prop),As X pins σ H s->AD v u->t v σ H Q ->
  wpAny (model X.prog X.w) X.A (assign target X.env u) (fun _ s'=>∃ Av H',As X pins Av H' s'/\Q Av H') X.xe s
def PGs (X:Cx) (ts:List Expr) (t:VG):Prop:=
 ∀ ⦃pins:List (Addr × Obj)⦄ (s:Shared) (σ:St) (H:Hp) (vs:List V) (us:List Value) (Q:St->Hp->Prop),As X pins σ H s->AB vs us->t vs σ H Q ->
  wpAny (model X.prog X.w) X.A (assignInOrder ((assignEach ts X.env).map (·.2)) us) (fun _ s'=>∃ Av H',As X pins Av H' s'/\Q Av H') X.xe s
abbrev Xs:=V->V->V->Hp->(Hp->Prop)->Prop
def PSet (X:Cx) (t:Xs):Prop:=
 ∀ ⦃pins:List (Addr × Obj)⦄ (s:Shared) (σ:St) (H:Hp) (o i v:V) (ov iv u:Value) (Q:Hp->Prop),As X pins σ H s->AD o ov->AD i iv->AD v u->t o i v H Q ->
  wpAny (model X.prog X.w) X.A (setItem ov iv u) (fun _ s'=>∃ H',As X pins σ H' s'/\Q H') X.xe s
section
variable {X:Cx} {pos:Pos}
def Mz (i:Nat):TG:=fun v σ H Q=>Q (σ.set i (some v)) H
theorem Ai {i:Nat} {x:Str} (hN:X.N.Nodup) (hi:X.N[i]? = some x) (hx:Yq X.env.scope x) (hf:X.fn x=true\/X.env.scope.names.lookup x=some .local:=by first | exact .inl rfl | exact .inr rfl | assumption):PG X (.Name x pos) (Mz i):=by
 intro pins s σ H v u Q I r h;exact wpAny_assign_Name (LP I hN hi hx r (fun s' I'=>⟨_,H,I',h⟩) hf)
def gNil:VG:=fun vs σ H Q=>vs=[]/\Q σ H
def gCons (t:TG) (u:VG):VG:=fun vs σ H Q=>∃ v r,vs=v :: r/\t v σ H fun Av H'=>u r Av H' Q
theorem AW:PGs X [] gNil:=by
 intro pins s σ H vs us Q I r h;obtain ⟨e,h⟩:=h;subst e;cases r
 exact assignInOrder_nil ⟨σ,H,I,h⟩
theorem Aj {e:Expr} {es:List Expr} {t:TG} {u:VG} (h1:PG X e t) (h2:PGs X es u)
  (hs:(assignEach (e :: es) X.env).map (·.2)=assign e X.env :: (assignEach es X.env).map (·.2):=by rfl):PGs X (e :: es) (gCons t u):=by
 intro pins s σ H vs us Q I r h;obtain ⟨v,vr,e1,h⟩:=h;subst e1;cases r with
 | cons r rr=>
  rw [hs];refine assignInOrder_cons (Bt (h1 (pins:=pins) s σ H _ _ _ I r h) fun _ s1 ⟨X9,H1,I1,q1⟩=>?_);exact h2 (pins:=pins) s1 X9 H1 _ _ Q I1 rr q1
def gTup (K:eV) (n:Nat) (t:VG):TG:=fun v σ H Q=>∃ a xs,v=.ref a/\Az K H a xs/\xs.length=n/\t xs σ H Q
theorem Wx {es:List Expr} {k:Nat} {t:VG} {n:Nat} (hc:X.calm=true) (h:PGs X es t)
  (hn:(assignEach es X.env).length=n:=by rfl) (hst:(assignEach es X.env).findIdx? (·.1)=none:=by rfl):PG X (.Tuple es k pos) (gTup X.K n t):=by
 intro pins s σ H v u Q I r hw;obtain ⟨a,xs,e1,hq,hl,hw⟩:=hw;subst e1;cases r
 obtain ⟨Ar,rv,ht,hz⟩:=I.tuple hq;refine assign_Tuple_tuple (I.ok.hd hc) ht (by simp [hn,<-hl,rv.length]) hst fun h' hx=>?_
 have I1:As X pins σ H { s with heap:=h' }:=I.kept (t':=s.toks) fun b o e=>hx b o (fj (fb e)) e
 exact h (pins:=pins) _ σ H xs _ Q I1 (by simpa using rv) hw
def gSub (to ti:TE) (t:Xs):TG:=fun v σ H Q=>to σ H fun o H1=>ti σ H1 fun i H2=>t o i v H2 fun H3=>Q σ H3
theorem Np {o i:Expr} {to ti:TE} {t:Xs} (ho:PE X o to) (hi:PE X i ti) (hs:PSet X t)
  (ha:∀ v,assign (.Subscript o i pos) X.env v=(do
   let ov <- holding [v] (eval o X.env)
   let iv <- holding [v,ov] (eval i X.env)
   standAt pos
   holding [v,ov,iv] (setItem ov iv v)
   release [v,ov,iv] []):=by intro _; rfl):PG X (.Subscript o i pos) (gSub to ti t):=by
 intro pins s σ H v u Q I r h;rw [ha];refine wpAny_bind (wpAny_holding (Bt (ho (pins:=pins) s σ H _ I h) fun ov s1 ⟨x,H1,I1,r1,q1⟩=>?_));refine wpAny_bind (wpAny_holding (Bt (hi (pins:=pins) s1 σ H1 _ I1 q1) fun iv s2 ⟨y,H2,I2,r2,q2⟩=>?_));refine wpAny_bind (wpAny_standAt (wpAny_bind (wpAny_holding (Bt (hs (pins:=pins) s2 σ H2 x y v ov iv u _ I2 r1 r2 r q2) fun _ s3 ⟨H3,I3,q3⟩=>?_))));exact wpAny_release ⟨σ,H3,I3,q3⟩
def Tq (te:TE) (g:TG):TS:=fun D σ H=>te σ H fun x H1=>g x σ H1 D.nx
theorem Dd {tg e:Expr} {te:TE} {g:TG} (he:PE X e te) (hg:PG X tg g) (hs:swapsWithSole [tg] e pos.line X.env=pure false:=by rfl) (hw:swappedStores [tg] e X.env=pure none:=by rfl)
  (h1:(assignEach [tg] X.env).map (·.2)=[assign tg X.env]:=by rfl):PS X (.Assign [tg] e pos) (Tq te g):=by
 intro pins s σ H D I h;refine wpAny_Assign_stores (Bt (he (pins:=pins) s σ H _ I h) fun v s1 ⟨x,H1,I1,r1,q1⟩=>?_) hs hw;rw [h1];exact Bt (hg (pins:=pins) s1 σ H1 x v _ I1 r1 q1) fun _ s2 q=>q
theorem Ax {i:Nat} {x:Str} {e:Expr} {te:TE} {pos':Pos} (hN:X.N.Nodup) (hi:X.N[i]? = some x) (hx:Yq X.env.scope x) (he:PE X e te) (hs:swapsWith e (some (.Name x pos')) pos.line X.env=pure false:=by rfl) (hf:X.fn x=true\/X.env.scope.names.lookup x=some .local:=by first | exact .inl rfl | exact .inr rfl | assumption) :
  PS X (.Assign [.Name x pos'] e pos) (Tq te (Mz i)):=by
 intro pins s σ H D I h;refine wpAny_Assign_Name (Bt (he (pins:=pins) s σ H _ I h) fun v s1 ⟨y,H1,I1,r1,q1⟩=>?_) hs;exact LP I1 hN hi hx r1 (fun s2 I2=>⟨_,H1,I2,q1⟩) hf
end
section
variable {X:Cx} {pos:Pos}
def VW (c:TT) (tb:TS):TS:=fun D σ H=>∃ W:Nat->St->Hp->Prop,(∃ m,W m σ H)/\∀ m σ H,W m σ H ->
 c σ H fun b H1=>if b=true then ∃ N:St->Hp->Prop,(∀ Av H',N Av H'->∃ m',m' < m/\W m' Av H')/\tb { D with nx:=N,ct:=N,bk:=D.nx } σ H1 else D.nx σ H1
theorem R3 {c:Expr} {body:List Stmt} {tc:TT} {tb:TS} (hp:PassesOwn (model X.prog X.w) X.A X.env X.xe) (hc:PT X c tc) (hb:NU X body tb):PS X (.While c body [] pos) (VW tc tb):=by
 intro pins s σ H D I h;obtain ⟨W,⟨m0,w0⟩,turn⟩:=h;refine wpAny_While (codeAny_whileLoop (fun n s'=>∃ Av H',As X pins Av H' s'/\W n Av H') ?_ m0 ⟨σ,H,I,w0⟩);rintro n s1 ⟨X9,H1,I1,w1⟩;refine wpAny_passesOwn hp (Bt (hc (pins:=pins) s1 X9 H1 _ I1 (turn n X9 H1 w1)) fun b s2 ⟨H2,I2,q2⟩=>?_);cases b with
 | true=>
  obtain ⟨N,hN,q2⟩:=q2;rw [if_pos rfl];refine wpAny_passesOwn hp (Bt (hb (pins:=pins) s2 X9 H2 _ I2 q2) fun f s3 q3=>?_);cases f with
  | next=>
   obtain ⟨QC,H3,I3,n3⟩:=q3;obtain ⟨m',hm,w3⟩:=hN QC H3 n3;exact ⟨m',hm,QC,H3,I3,w3⟩
  | cont=>
   obtain ⟨QC,H3,I3,n3⟩:=q3;obtain ⟨m',hm,w3⟩:=hN QC H3 n3;exact ⟨m',hm,QC,H3,I3,w3⟩
  | brk=>exact q3
  | ret v=>exact q3
 | false=>
  rw [if_neg fH];exact wpAny_execs_nil ⟨X9,H2,I2,q2⟩
end
structure It where
 go:Nat->Hp->Prop
 yld:Nat->Hp->V->Hp->Prop
 stop:Nat->Hp->Prop
def Em (X:Cx) (pins:List (Addr × Obj)) (H:Hp) (b:Addr):Prop:=
 H b=none/\b ≠ X.env.locals/\b ∉ X.fs/\(b ∈ X.ex\/X.s₀.heap.objs.size<=b)/\(∀ x c,X.env.cells.lookup x=some c->c ≠ b)/\∀ p ∈ X.pn ++ pins,p.1 ≠ b
theorem As.fpOk {X:Cx} {pins:List (Addr × Obj)} {σ:St} {H H':Hp} {s:Shared} {b:Addr} (I:As X pins σ H s) (hb:s.heap.objs.size<=b) (hn:H' b=none):Em X pins H' b:=by
 refine ⟨hn,gB (fk I.lt hb),I.nofs hb,.inr (gc I.sz hb),fun x c e z=>?_,fun p hp z=>?_⟩
 ·obtain ⟨v,q⟩:=I.cell x c e;exact absurd (fk q.lt (by rw [z]; exact hb)) (gC _)
 ·exact absurd (fk (fb (I.pin p hp).1) (by rw [z]; exact hb)) (gC _)
structure MI (P:Program) (w:World) (K:eV) (tg:Expr) (J:It) (fp:List Addr) (it:Addr) (tn:Nat->Heap->Prop):Prop where
 mem:it ∈ fp
 obj:∀ i h,tn i h->∀ b ∈ fp,∃ o,h.get? b=some o/\∀ v,o.data ≠ .cell v
 keep:∀ i h h',tn i h->(∀ b ∈ fp,∀ o,h.get? b=some o->h'.get? b=some o)->tn i h'
 item:∀ (X:Cx),X.prog=P->X.w=w->X.K=K->X.calm=true->∀ (i:Nat) (pins:List (Addr × Obj)) (s:Shared) (σ:St) (H:Hp) (E:Value->Shared->Prop),As X pins σ H s->(∀ b ∈ fp,Em X pins H b)->tn i s.heap->J.go i H ->
  wpAny (model P w) X.A (pyNext (.ref it)) (fun r s1=>∃ u,r=some u /\
   wpAny (model P w) X.A (letOwnedTupleGo tg (.ref it) u) (fun _ s2=>∃ x H',As X pins σ H' s2/\AD x u/\J.yld i H x H'/\tn (i + 1) s2.heap/\∀ b ∈ fp,H' b=none) E s1) E s
 done:∀ (X:Cx),X.prog=P->X.w=w->X.K=K->X.calm=true->∀ (i:Nat) (pins:List (Addr × Obj)) (s:Shared) (σ:St) (H:Hp) (E:Value->Shared->Prop),As X pins σ H s->(∀ b ∈ fp,Em X pins H b)->tn i s.heap->J.stop i H ->
  wpAny (model P w) X.A (pyNext (.ref it)) (fun r s1=>r=none/\As X pins σ H s1) E s
 self:∀ (A:Around) (i:Nat) (s:Shared) (Q:Value->Shared->Prop) (E:Value->Shared->Prop),tn i s.heap->Q (.ref it) s->wpAny (model P w) A (pyIter (.ref it)) Q E s
abbrev TI:=St->Hp->(It->Hp->Prop)->Prop
def PIE (X:Cx) (pins:List (Addr × Obj)) (σ:St) (tg:Expr) (R:It->Hp->Prop) (itv:Value) (s2:Shared):Prop:=
 ∃ (it:Addr) (fp:List Addr) (tn:Nat->Heap->Prop) (J:It) (H':Hp),itv=.ref it/\As X pins σ H' s2/\MI X.prog X.w X.K tg J fp it tn/\tn 0 s2.heap/\(∀ b ∈ fp,Em X pins H' b)/\R J H'
def PI (X:Cx) (tg iter:Expr) (wi:TI):Prop:=
 ∀ ⦃pins:List (Addr × Obj)⦄ (s:Shared) (σ:St) (H:Hp) (R:It->Hp->Prop),As X pins σ H s->wi σ H R ->
  wpAny (model X.prog X.w) X.A (eval iter X.env) (fun v s1=>wpAny (model X.prog X.w) X.A (pyIter v) (PIE X pins σ tg R) X.xe s1) X.xe s
theorem Ks {M:Model} {A:Around} {E:Value->Shared->Prop} {s:Shared} {tg:Expr} {it:Addr} {u:Value} {o:Obj} {n:String} {vs:Array Value} {Q:Unit->Shared->Prop} (ho:s.heap.get? it=some o) (hc:o.cls=.type n) (hd:o.data=.fields vs)
  (hn:["enumerate","zip","dict_itemiterator","dict_reverseitemiterator","odict_iterator","itertools.zip_longest","itertools.pairwise"].contains n=false) (hQ:Q () s):wpAny M A (letOwnedTupleGo tg (.ref it) u) Q E s:=by
 unfold letOwnedTupleGo;cases tg <;> first
  | exact wpAny_pure hQ
  | (cases u <;> first
    | exact wpAny_pure hQ
    | (refine wpAny_bind (wpAny_load ho ?_)
       rw [hc,hd];show wpAny M A (if (["enumerate","zip","dict_itemiterator","dict_reverseitemiterator","odict_iterator","itertools.zip_longest","itertools.pairwise"].contains n && vs[0]? == some (rawInt _))=true then _ else _) Q E s
       rw [if_neg (by intro h; rw [hn,ji] at h; cases h)];exact wpAny_pure hQ))
def Itl (K:eV) (a:Addr):It:=
 ⟨fun i H=>∃ xs x,Ba K H a xs/\xs[i]? = some x,fun i H x H'=>H'=H/\∀ xs,Ba K H a xs->xs[i]? = some x,fun i H=>∃ xs,Ba K H a xs/\xs.length<=i⟩
def Q5 (K:eV) (a:Addr):It:=
 ⟨fun i H=>∃ xs x,Az K H a xs/\xs[i]? = some x,fun i H x H'=>H'=H/\∀ xs,Az K H a xs->xs[i]? = some x,fun i H=>∃ xs,Az K H a xs/\xs.length<=i⟩
def Tg (lo:Int) (n:Nat):It:=⟨fun i _=>i < n,fun i H x H'=>H'=H/\x=.int (lo + i),fun i _=>n<=i⟩
theorem JZ {P:Program} {w:World} {K:eV} {tg:Expr} (a it:Addr):MI P w K tg (Itl K a) [it] it (fun i h=>h.IsListIter it a i) where
 mem:=by simp
 obj:=fun i h st b hb=>by
  have e:b=it:=by simpa using hb
  subst e;obtain ⟨o,e,c,d⟩:=st;exact ⟨o,e,fun v z=>by rw [d] at z; cases z⟩
 keep:=fun i h h' st k=>st.at fun o e=>k it (by simp) o e
 item:=by
  intro X hP hw hK hc i pins s σ H E I hf st hg;subst hP hw hK;obtain ⟨xs,x,hq,hx⟩:=hg;obtain ⟨Ar,rv,p,hz⟩:=I.list hq;obtain ⟨u,hu,ru⟩:=rv.get hx;obtain ⟨f0,f1,f2,f3,f4,f5⟩:=hf it (by simp);refine wpAny_pyNext_list_item st p.isList (x:=u) (by simpa using hu) fun h' AZ sb=>?_
  have I1:As X pins σ H { s with heap:=h' }:=I.turned (t':=s.toks) (fun b o hb e=>(sb.2 b hb).trans e) f0 f1 f3 f4 f5;obtain ⟨o,e,c,d⟩:=id AZ;exact ⟨u,rfl,Ks (s:={ s with heap:=h' }) e c d (by decide) ⟨x,H,I1,ru,⟨rfl,fun ys hy=>by rw [I.list_inj hy hq]; exact hx⟩,AZ,fun b hb=>(hf b hb).1⟩⟩
 done:=by
  intro X hP hw hK hc i pins s σ H E I hf st hg;subst hP hw hK;obtain ⟨xs,hq,hx⟩:=hg;obtain ⟨Ar,rv,p,hz⟩:=I.list hq;obtain ⟨f0,f1,f2,f3,f4,f5⟩:=hf it (by simp);have hl:=rv.length;exact wpAny_pyNext_list_end (I.ok.hd hc) st p.isList (by simp; lia) fun h' eb=>⟨rfl,I.turned (t':=s.toks) (fun b o hb e=>eb b o hb e) f0 f1 f3 f4 f5⟩
 self:=fun _ _ _ _ _ st h=>wpAny_pyIter_listiter st h
theorem Ir {P:Program} {w:World} {K:eV} {tg:Expr} (a it:Addr):MI P w K tg (Q5 K a) [it] it (fun i h=>h.IsTupleIter it a i) where
 mem:=by simp
 obj:=fun i h st b hb=>by
  have e:b=it:=by simpa using hb
  subst e;obtain ⟨o,e,c,d⟩:=st;exact ⟨o,e,fun v z=>by rw [d] at z; cases z⟩
 keep:=fun i h h' st k=>st.at fun o e=>k it (by simp) o e
 item:=by
  intro X hP hw hK hc i pins s σ H E I hf st hg;subst hP hw hK;obtain ⟨xs,x,hq,hx⟩:=hg;obtain ⟨Ar,rv,p,hz⟩:=I.tuple hq;obtain ⟨u,hu,ru⟩:=rv.get hx;obtain ⟨f0,f1,f2,f3,f4,f5⟩:=hf it (by simp);refine wpAny_pyNext_tuple_item st (show s.heap.IsTuple a Ar.toArray from p) (x:=u) (by simpa using hu) fun h' AZ sb=>?_
  have I1:As X pins σ H { s with heap:=h' }:=I.turned (t':=s.toks) (fun b o hb e=>(sb.2 b hb).trans e) f0 f1 f3 f4 f5;obtain ⟨o,e,c,d⟩:=id AZ;exact ⟨u,rfl,Ks (s:={ s with heap:=h' }) e c d (by decide) ⟨x,H,I1,ru,⟨rfl,fun ys hy=>by rw [I.tuple_inj hy hq]; exact hx⟩,AZ,fun b hb=>(hf b hb).1⟩⟩
 done:=by
  intro X hP hw hK hc i pins s σ H E I hf st hg;subst hP hw hK;obtain ⟨xs,hq,hx⟩:=hg;obtain ⟨Ar,rv,p,hz⟩:=I.tuple hq;obtain ⟨f0,f1,f2,f3,f4,f5⟩:=hf it (by simp);have hl:=rv.length;exact wpAny_pyNext_tuple_end (I.ok.hd hc) st (show s.heap.IsTuple a Ar.toArray from p) (by simp; lia) fun h' eb=>⟨rfl,I.turned (t':=s.toks) (fun b o hb e=>eb b o hb e) f0 f1 f3 f4 f5⟩
 self:=fun _ _ _ _ _ st h=>wpAny_pyIter_tupleiter st h
theorem MY {P:Program} {w:World} {K:eV} {tg:Expr} (it:Addr) (lo:Int) (n:Nat):MI P w K tg (Tg lo n) [it] it (fun i h=>IsRangeIter h it (lo + (i:Nat) * 1) ((n:Int) - (i:Nat)) 1) where
 mem:=by simp
 obj:=fun i h st b hb=>by
  have e:b=it:=by simpa using hb
  subst e;exact ⟨_,st,fun v z=>by
   have z':Data.fields _=Data.cell v:=z;cases z'⟩
 keep:=fun i h h' st k=>k it (by simp) _ st
 item:=by
  intro X hP hw hK hc i pins s σ H E I hf st hg;subst hP hw hK;obtain ⟨f0,f1,f2,f3,f4,f5⟩:=hf it (by simp);have W:=Walks.range (prog:=X.prog) (w:=X.w) (I.ok.hd hc) it lo 1 n;refine W.item i s _ _ hg st fun v h' tk hv AZ kk=>?_
  obtain ⟨t,rfl⟩:=hv;have I1:As X pins σ H { s with heap:=h',toks:=tk }:=I.turned (fun b o hb e=>kk b o (by simpa using hb) e) f0 f1 f3 f4 f5;refine ⟨_,rfl,Ks (s:={ s with heap:=h',toks:=tk }) (n:="range_iterator") AZ rfl rfl (by decide) ⟨.int (lo + i),H,I1,⟨t,?_⟩,⟨rfl,rfl⟩,AZ,fun b hb=>(hf b hb).1⟩⟩;rw [lz]
 done:=by
  intro X hP hw hK hc i pins s σ H E I hf st hg;subst hP hw hK;obtain ⟨f0,f1,f2,f3,f4,f5⟩:=hf it (by simp);exact wpAny_pyNext_range_end (I.ok.hd hc) st (by have:n<=i:=hg; lia) fun h' eb=>⟨rfl,I.turned (t':=s.toks) (fun b o hb e=>eb b o hb e) f0 f1 f3 f4 f5⟩
 self:=fun _ _ _ _ _ st h=>wpAny_pyIter_rangeiter st h
section
variable {X:Cx} {tg:Expr}
def Vj (K:eV) (tl:TE):TI:=fun σ H R=>tl σ H fun x H1=>∃ a,x=.ref a/\(∃ xs,Ba K H1 a xs)/\R (Itl K a) H1
def iTup (K:eV) (tl:TE):TI:=fun σ H R=>tl σ H fun x H1=>∃ a,x=.ref a/\(∃ xs,Az K H1 a xs)/\R (Q5 K a) H1
theorem O4 {l:Expr} {tl:TE} (hl:PE X l tl):PI X tg l (Vj X.K tl):=by
 intro pins s σ H R I h;refine Bt (hl (pins:=pins) s σ H _ I h) fun v s1 ⟨x,H1,I1,r1,q1⟩=>?_
 obtain ⟨a,e,⟨xs,hq⟩,q⟩:=q1;subst e;cases r1
 obtain ⟨Ar,rv,p,hz⟩:=I1.list hq;refine wpAny_pyIter_list p.isList ?_;refine ⟨s1.heap.objs.size,[s1.heap.objs.size],_,_,H1,rfl,I1.kept (t':=s1.toks) fun b o e=>eT _ e,JZ a _,⟨_,fe _ rfl,rfl,rfl⟩,fun b hb=>?_,q⟩;have e:b=s1.heap.objs.size:=by simpa using hb
 subst e;exact I1.fpOk (fc _) (I1.hok.fresh (fc _))
theorem IF {l:Expr} {tl:TE} (hl:PE X l tl):PI X tg l (iTup X.K tl):=by
 intro pins s σ H R I h;refine Bt (hl (pins:=pins) s σ H _ I h) fun v s1 ⟨x,H1,I1,r1,q1⟩=>?_
 obtain ⟨a,e,⟨xs,hq⟩,q⟩:=q1;subst e;cases r1
 obtain ⟨Ar,rv,p,hz⟩:=I1.tuple hq;refine wpAny_pyIter_tuple (show s1.heap.IsTuple a Ar.toArray from p) ?_;refine ⟨s1.heap.objs.size,[s1.heap.objs.size],_,_,H1,rfl,I1.kept (t':=s1.toks) fun b o e=>eT _ e,Ir a _,⟨_,fe _ rfl,rfl,rfl⟩,fun b hb=>?_,q⟩;have e:b=s1.heap.objs.size:=by simpa using hb
 subst e;exact I1.fpOk (fc _) (I1.hok.fresh (fc _))
theorem Ma {pins:List (Addr × Obj)} {σ:St} {H:Hp} {s:Shared} {R:It->Hp->Prop} {E:Value->Shared->Prop} {lo hi:Int} {t u v:Tok} {tk:Nat} (I:As X pins σ H s) (h1:-(2 ^ 62)<=lo) (h2:lo < 2 ^ 62) (h3:-(2 ^ 62)<=hi) (h4:hi < 2 ^ 62)
  (q:R (Tg lo (hi - lo).toNat) H):wpAny (model X.prog X.w) X.A (pyIter (.ref s.heap.objs.size)) (PIE X pins σ tg R) E { s with heap:=s.heap.push { cls:=.type "range",data:=.fields #[.int lo t,.int hi u,.int 1 v] },toks:=tk }:=by
 refine wpAny_pyIter_range (IsRange.new ..) (small_one h1 h2 h3 h4) ?_;have I1:As X pins σ H { s with heap:=s.heap.push { cls:=.type "range",data:=.fields #[.int lo t,.int hi u,.int 1 v] },toks:=tk }:=I.kept fun b o e=>eT _ e
 refine ⟨(s.heap.push { cls:=.type "range",data:=.fields #[.int lo t,.int hi u,.int 1 v] }).objs.size,[(s.heap.push { cls:=.type "range",data:=.fields #[.int lo t,.int hi u,.int 1 v] }).objs.size],_,_,H,rfl,
  I1.kept (t':=tk) fun b o e=>eT _ e,MY _ lo (hi - lo).toNat,?_,fun b hb=>?_,q⟩
 ·have e1:lo + ((0:Nat):Int) * 1=lo:=by simp
  have e2:(((hi - lo).toNat:Nat):Int) - ((0:Nat):Int)=Builtin.Range.rangeSize lo hi 1:=by rw [rangeSize_one]; split <;> lia
  show IsRangeIter _ _ (lo + ((0:Nat):Int) * 1) ((((hi - lo).toNat:Nat):Int) - ((0:Nat):Int)) 1
  rw [e1,e2];exact fe _ rfl
 ·have e:b=(s.heap.push { cls:=.type "range",data:=.fields #[.int lo t,.int hi u,.int 1 v] }).objs.size:=by simpa using hb
  subst e;exact I1.fpOk (fc _) (I1.hok.fresh (fc _))
def iRng1 (ta:TA):TI:=fun σ H R=>ta σ H fun vs H1=>∃ j:Int,vs=[.int j]/\-(2 ^ 62)<=j/\j < 2 ^ 62/\R (Tg 0 j.toNat) H1
def iRng2 (ta:TA):TI:=fun σ H R=>ta σ H fun vs H1=>∃ i j:Int,vs=[.int i,.int j]/\(-(2 ^ 62)<=i/\i < 2 ^ 62/\-(2 ^ 62)<=j/\j < 2 ^ 62)/\R (Tg i (j - i).toNat) H1
theorem DY {a:Expr} {ta:TA} {p pos:Pos} (hg:Gl X "range") (hm:X.mg "range"=none) (ha:PA X [a] ta) (hs:starEach [a] X.env=[(false,eval a X.env)]:=by rfl):PI X tg (.Call (.Name "range" p) [a] [] pos) (iRng1 ta):=by
 intro pins s σ H R I h;refine Call_ (GJ I hg hm boot_range (PyProof.Rows.callWith_type1 (Bt (ha (pos:=pos) (pins:=pins) s σ H _ I h) fun us s1 ⟨vs,H1,I1,r1,q1⟩=>?_) hs rfl));obtain ⟨j,e,q1,q2,q⟩:=q1;subst e;cases r1 with
 | cons r rr=>
  cases rr
  obtain ⟨t,rfl⟩:=r;exact call_range_1 (Ma I1 (by lia) (by lia) q1 q2 (by simpa using q))
theorem PK {a b:Expr} {ta:TA} {p pos:Pos} (hg:Gl X "range") (hm:X.mg "range"=none) (ha:PA X [a,b] ta) (hs:starEach [a,b] X.env=[(false,eval a X.env),(false,eval b X.env)]:=by rfl) (Yh:starEach [b] X.env=[(false,eval b X.env)]:=by rfl) :
  PI X tg (.Call (.Name "range" p) [a,b] [] pos) (iRng2 ta):=by
 intro pins s σ H R I h;refine Call_ (GJ I hg hm boot_range (PyProof.Rows.callWith_type1 (Bt (ha (pos:=pos) (pins:=pins) s σ H _ I h) fun us s1 ⟨vs,H1,I1,r1,q1⟩=>?_) (by rw [hs,Yh]) (by rw [Yh]; rfl)));obtain ⟨i,j,e,⟨q1,q2,q3,q4⟩,q⟩:=q1;subst e;cases r1 with
 | cons r rr=>
  cases rr with
  | cons r' rr=>
   cases rr
   obtain ⟨t,rfl⟩:=r;obtain ⟨t',rfl⟩:=r';exact call_range_2 (Ma I1 q1 q2 q3 q4 q)
def tFor (wi:TI) (g:TG) (tb:TS):TS:=fun D σ H=>wi σ H fun J H1=>∃ W:Nat->Nat->St->Hp->Prop,(∃ m,W 0 m σ H1)/\∀ i m σ H,W i m σ H ->
 (J.stop i H/\D.nx σ H)\/(J.go i H/\∃ N:St->Hp->Prop,(∀ Av H',N Av H'->∃ m',m' < m/\W (i + 1) m' Av H')/\∀ x H',J.yld i H x H'->g x σ H' fun A6 H2=>tb { D with nx:=N,ct:=N,bk:=D.nx } A6 H2)
def Ex (fp:List Addr) (h:Heap):List (Addr × Obj):=fp.filterMap fun b=>(h.get? b).map fun o=>(b,o)
theorem Bo {fp:List Addr} {h:Heap} {b:Addr} {o:Obj} (hb:b ∈ fp) (e:h.get? b=some o):(b,o) ∈ Ex fp h:=jw.mpr ⟨b,hb,by rw [e]; rfl⟩
theorem PX {fp:List Addr} {h:Heap} {p:Addr × Obj} (hp:p ∈ Ex fp h):p.1 ∈ fp/\h.get? p.1=some p.2:=by
 obtain ⟨b,hb,e⟩:=jw.mp hp;cases q:h.get? b with
 | none=>rw [q] at e; cases e
 | some o=>
  rw [q] at e;have e':(b,o)=p:=fV.inj e;subst e';exact ⟨hb,q⟩
theorem As.pinned {pins:List (Addr × Obj)} {σ:St} {H:Hp} {s:Shared} {fp:List Addr} (I:As X pins σ H s) (hf:∀ b ∈ fp,Em X pins H b) (ho:∀ b ∈ fp,∃ o,s.heap.get? b=some o/\∀ v,o.data ≠ .cell v):As X (pins ++ Ex fp s.heap) σ H s:=
 I.pins_of fun p hp=>(fq.mp hp).elim (fun z=>I.pin p (fm _ z)) fun z=>by
  obtain ⟨hb,e⟩:=PX z;obtain ⟨f0,f1,f2,_⟩:=hf p.1 hb;obtain ⟨o,e',d⟩:=ho p.1 hb;rw [e] at e'; cases e';exact ⟨e,f0,f1,f2,d⟩
theorem As.unpinned {pins pl:List (Addr × Obj)} {σ:St} {H:Hp} {s:Shared} (I:As X (pins ++ pl) σ H s):As X pins σ H s:=I.pins_of fun p hp=>I.pin p (fm _ (gT _ hp))
theorem Cm {iter:Expr} {body:List Stmt} {wi:TI} {g:TG} {tb:TS} {pos:Pos} (hp:PassesOwn (model X.prog X.w) X.A X.env X.xe) (hc:X.calm=true) (hi:PI X tg iter wi) (hg:PG X tg g) (hb:NU X body tb)
  (hs:∀ x,foldedSetIterable iter X.env x=pure x:=by intro _; rfl):PS X (.For tg iter body [] pos) (tFor wi g tb):=by
 intro pins s σ H D I h;refine wpAny_For (Bt (hi (pins:=pins) s σ H _ I h) fun v s1 h1=>Bt h1 fun itv s2 h2=>?_) hs;obtain ⟨it,fp,tn,J,H2,e,I2,T,FO,f2,W,⟨m0,w0⟩,turn⟩:=h2;subst e;have stat:∀ {H':Hp},(∀ b ∈ fp,H' b=none)->∀ b ∈ fp,Em X pins H' b:=fun hn b hb=>⟨hn b hb,(f2 b hb).2⟩
 refine codeAny_forLoop_any (fun n s'=>∃ i Av H',As X pins Av H' s'/\tn i s'.heap/\(∀ b ∈ fp,H' b=none)/\W i n Av H') ?_ m0 ⟨0,σ,H2,I2,FO,fun b hb=>(f2 b hb).1,w0⟩;rintro n s3 ⟨i,QC,H3,I3,UO,fr3,w3⟩;rcases turn i n QC H3 w3 with ⟨stop,qn⟩ | ⟨go,N,hN,step⟩
 ·refine wpAny_passesOwn hp (Bt (T.done X rfl rfl rfl hc i (pins:=pins) s3 QC H3 X.xe I3 (stat fr3) UO stop) fun r s4 ⟨hr,I4⟩=>?_);subst hr;exact wpAny_execs_nil ⟨QC,H3,I4,qn⟩
 ·refine wpAny_passesOwn hp (Bt (T.item X rfl rfl rfl hc i (pins:=pins) s3 QC H3 X.xe I3 (stat fr3) UO go) fun r s4 ⟨u,hr,h4⟩=>?_);subst hr;refine wpAny_passesOwn hp (Bt h4 fun _ s5 ⟨x,H5,I5,r5,y5,bL,fr5⟩=>?_);have I5':=I5.pinned (stat fr5) (T.obj _ _ bL);refine wpAny_passesOwn hp (Bt (hg s5 QC H5 x u _ I5' r5 (step x H5 y5)) fun _ s6 ⟨σ6,H6,I6,q6⟩=>?_);refine wpAny_passesOwn hp (Bt (hb s6 σ6 H6 _ I6 q6) fun f s7 q7=>?_);have again:∀ {EZ:St} {H7:Hp},As X (pins ++ Ex fp s5.heap) EZ H7 s7->N EZ H7->∃ m,m < n/\∃ i Av H',As X pins Av H' s7/\tn i s7.heap/\(∀ b ∈ fp,H' b=none)/\W i m Av H':=fun {EZ H7} I7 n7=>by
   obtain ⟨m',hm,w7⟩:=hN EZ H7 n7;refine ⟨m',hm,i + 1,EZ,H7,I7.unpinned,T.keep _ _ _ bL fun b hb o e=>(I7.pin (b,o) (fm _ (fm _ (Bo hb e)))).1,fun b hb=>?_,w7⟩;obtain ⟨o,e,d⟩:=T.obj _ _ bL b hb;exact (I7.pin (b,o) (fm _ (fm _ (Bo hb e)))).2.1
  cases f with
  | next=>obtain ⟨EZ,H7,I7,n7⟩:=q7; exact again I7 n7
  | cont=>obtain ⟨EZ,H7,I7,n7⟩:=q7; exact again I7 n7
  | brk=>obtain ⟨EZ,H7,I7,q7⟩:=q7; exact ⟨EZ,H7,I7.unpinned,q7⟩
  | ret v=>obtain ⟨x7,EZ,H7,I7,r7,q7⟩:=q7; exact ⟨x7,EZ,H7,I7.unpinned,r7,q7⟩
end
theorem OL {K:eV} {a:Addr} {xs:List V} {g:TG} {tb:TS} {D:Gr} {σ:St} {H:Hp} (Pv:Nat->St->Hp->Prop) (h0:Pv 0 σ H) (hl:∀ i σ H,i<=xs.length->Pv i σ H->Az K H a xs)
  (hs:∀ i x σ H,xs[i]? = some x->Pv i σ H->g x σ H fun A6 H2=>tb { D with nx:=Pv (i + 1),ct:=Pv (i + 1),bk:=D.nx } A6 H2) (hd:∀ σ H,Pv xs.length σ H->D.nx σ H) :
  ∃ W:Nat->Nat->St->Hp->Prop,(∃ m,W 0 m σ H)/\∀ i m σ H,W i m σ H ->
   ((Q5 K a).stop i H/\D.nx σ H)\/((Q5 K a).go i H/\∃ N:St->Hp->Prop,(∀ Av H',N Av H'->∃ m',m' < m/\W (i + 1) m' Av H')/\∀ x H',(Q5 K a).yld i H x H'->g x σ H' fun A6 H2=>tb { D with nx:=N,ct:=N,bk:=D.nx } A6 H2):=by
 exists fun i m σ H=>m=xs.length - i/\i<=xs.length/\Pv i σ H,⟨xs.length,by simp,gr _,h0⟩
 rintro i m σ H ⟨rfl,hi,p⟩;have q:=hl i σ H hi p;by_cases B6:i < xs.length
 ·refine .inr ⟨⟨xs,xs[i],q,by simp [B6]⟩,Pv (i + 1),fun Av H' p'=>⟨xs.length - (i + 1),by lia,rfl,B6,p'⟩,fun x H' y=>?_⟩;obtain ⟨e,y⟩:=y;subst e;exact hs i x σ _ (y xs q) p
 ·have e:i=xs.length:=by lia
  subst e;exact .inl ⟨⟨xs,q,fc _⟩,hd σ H p⟩
theorem Eh {lo:Int} {n:Nat} {g:TG} {tb:TS} {D:Gr} {σ:St} {H:Hp} (Pv:Nat->St->Hp->Prop) (h0:Pv 0 σ H)
  (hs:∀ i σ H,i < n->Pv i σ H->g (.int (lo + i)) σ H fun A6 H2=>tb { D with nx:=Pv (i + 1),ct:=Pv (i + 1),bk:=D.nx } A6 H2) (hd:∀ σ H,Pv n σ H->D.nx σ H) :
  ∃ W:Nat->Nat->St->Hp->Prop,(∃ m,W 0 m σ H)/\∀ i m σ H,W i m σ H ->
   ((Tg lo n).stop i H/\D.nx σ H)\/((Tg lo n).go i H/\∃ N:St->Hp->Prop,(∀ Av H',N Av H'->∃ m',m' < m/\W (i + 1) m' Av H')/\∀ x H',(Tg lo n).yld i H x H'->g x σ H' fun A6 H2=>tb { D with nx:=N,ct:=N,bk:=D.nx } A6 H2):=by
 exists fun i m σ H=>m=n - i/\i<=n/\Pv i σ H,⟨n,by simp,gr _,h0⟩
 rintro i m σ H ⟨rfl,hi,p⟩;by_cases B6:i < n
 ·refine .inr ⟨B6,Pv (i + 1),fun Av H' p'=>⟨n - (i + 1),by lia,rfl,B6,p'⟩,fun x H' y=>?_⟩;obtain ⟨e,y⟩:=y;subst e y;exact hs i σ _ B6 p
 ·have e:i=n:=by lia
  subst e;exact .inl ⟨fc _,hd σ H p⟩
abbrev R2:=V->V->Hp->VK->Prop
def EC (X:Cx) (f:Value->Value->Sem Value) (r:R2):Prop:=
 ∀ ⦃pins:List (Addr × Obj)⦄ (s:Shared) (σ:St) (H:Hp) (x y:V) (v u:Value) (Q:VK),As X pins σ H s->AD x v->AD y u->r x y H Q ->
  wpAny (model X.prog X.w) X.A (f v u) (EP X pins σ Q) X.xe s
def UnR (X:Cx) (f:Value->Sem Value) (r:V->Hp->VK->Prop):Prop:=
 ∀ ⦃pins:List (Addr × Obj)⦄ (s:Shared) (σ:St) (H:Hp) (x:V) (v:Value) (Q:VK),As X pins σ H s->AD x v->r x H Q ->
  wpAny (model X.prog X.w) X.A (f v) (EP X pins σ Q) X.xe s
def Bv (X:Cx) (f:Value) (r:List V->Hp->VK->Prop):Prop:=
 ∀ ⦃pins:List (Addr × Obj)⦄ (s:Shared) (σ:St) (H:Hp) (xs:List V) (us:List Value) (Q:VK),As X pins σ H s->AB xs us->r xs H Q ->
  wpAny (model X.prog X.w) X.A (call f us) (EP X pins σ Q) X.xe s
def TruR (X:Cx) (r:V->Hp->(Bool->Hp->Prop)->Prop):Prop:=
 ∀ ⦃pins:List (Addr × Obj)⦄ (s:Shared) (σ:St) (H:Hp) (x:V) (v:Value) (Q:Bool->Hp->Prop),As X pins σ H s->AD x v->r x H Q ->
  wpAny (model X.prog X.w) X.A (truthy v) (TP X pins σ Q) X.xe s
def tOp (r:R2) (ta tb:TE):TE:=fun σ H Q=>ta σ H fun x H1=>tb σ H1 fun y H2=>r x y H2 Q
def tUn (r:V->Hp->VK->Prop) (ta:TE):TE:=fun σ H Q=>ta σ H fun x H1=>r x H1 Q
def rI (C:Int->Int->Prop) (g:Int->Int->V):R2:=fun x y H Q=>∃ i j,x=.int i/\y=.int j/\C i j/\Q (g i j) H
def UY (g:Int->Int->V):R2:=fun x y H Q=>∃ i j,x=.int i/\y=.int j/\Q (g i j) H
def rU (g:Int->V):V->Hp->VK->Prop:=fun x H Q=>∃ i,x=.int i/\Q (g i) H
section
variable {X:Cx} {a b c:Expr} {ta tb tc:TE} {pos:Pos}
theorem Xo (ha:PE X a ta) (hb:PE X b tb) {pins:List (Addr × Obj)} {s:Shared} {σ:St} {H:Hp} {R:V->V->Hp->Prop} (I:As X pins σ H s)
  (h:ta σ H fun x H1=>tb σ H1 fun y H2=>R x y H2) {Q:Value->Shared->Prop} {f:Value->Value->Sem Value}
  (hf:∀ v u s2 x y H2,As X pins σ H2 s2->AD x v->AD y u->R x y H2->wpAny (model X.prog X.w) X.A (f v u) Q X.xe s2) :
  wpAny (model X.prog X.w) X.A (eval a X.env) (fun v AV=>wpAny (model X.prog X.w) X.A (eval b X.env) (fun u EB=>wpAny (model X.prog X.w) X.A (f v u) Q X.xe EB) X.xe AV) X.xe s:=by
 refine Bt (ha (pins:=pins) s σ H _ I h) fun v s1 ⟨x,H1,I1,r1,q1⟩=>?_
 refine Bt (hb (pins:=pins) s1 σ H1 _ I1 q1) fun u s2 ⟨y,H2,I2,r2,q2⟩=>?_
 exact hf v u s2 x y H2 I2 r1 r2 q2
theorem Aw {op:Operator} {r:R2} (ho:EC X (binaryOp op) r) (ha:PE X a ta) (hb:PE X b tb):PE X (.BinOp a op b pos) (tOp r ta tb):=by
 intro pins s σ H Q I h;exact wpAny_BinOp (Xo ha hb I h fun v u s2 x y H2 I2 rx ry q=>ho (pins:=pins) s2 σ H2 x y v u Q I2 rx ry q)
theorem R7 {op:UnaryOp} {r:V->Hp->VK->Prop} (ho:UnR X (unaryOp op) r) (ha:PE X a ta):PE X (.UnaryOp op a pos) (tUn r ta):=by
 intro pins s σ H Q I h;exact UnaryOp_ (Bt (ha (pins:=pins) s σ H _ I h) fun v s1 ⟨x,H1,I1,r1,q1⟩=>ho (pins:=pins) s1 σ H1 x v Q I1 r1 q1)
theorem opI {f:Value->Value->Sem Value} {C:Int->Int->Prop} {g:Int->Int->Int}
  (rule:∀ (i j:Int) (t u:Tok) (s:Shared) (Q:Value->Shared->Prop) (E:Value->Shared->Prop),C i j->Q (.int (g i j) s.toks) { s with toks:=s.toks + 1 }->wpAny (model X.prog X.w) X.A (f (.int i t) (.int j u)) Q E s) :
  EC X f (rI C fun i j=>.int (g i j)):=by
 intro pins s σ H x y v u Q I rx ry h;obtain ⟨i,j,rfl,rfl,hc,q⟩:=h;obtain ⟨t,rfl⟩:=rx;obtain ⟨t',rfl⟩:=ry;exact rule i j t t' s _ _ hc ⟨.int (g i j),H,I.tok _,⟨_,rfl⟩,q⟩
theorem opI0 {f:Value->Value->Sem Value} {g:Int->Int->Int}
  (rule:∀ (i j:Int) (t u:Tok) (s:Shared) (Q:Value->Shared->Prop) (E:Value->Shared->Prop),Q (.int (g i j) s.toks) { s with toks:=s.toks + 1 }->wpAny (model X.prog X.w) X.A (f (.int i t) (.int j u)) Q E s) :
  EC X f (UY fun i j=>.int (g i j)):=by
 intro pins s σ H x y v u Q I rx ry h;obtain ⟨i,j,rfl,rfl,q⟩:=h;obtain ⟨t,rfl⟩:=rx;obtain ⟨t',rfl⟩:=ry;exact rule i j t t' s _ _ ⟨.int (g i j),H,I.tok _,⟨_,rfl⟩,q⟩
theorem TX {f:Value->Value->Sem Value} {g:Int->Int->Bool}
  (rule:∀ (i j:Int) (t u:Tok) (s:Shared) (Q:Value->Shared->Prop) (E:Value->Shared->Prop),Q (.bool (g i j)) s->wpAny (model X.prog X.w) X.A (f (.int i t) (.int j u)) Q E s) :
  EC X f (UY fun i j=>.bl (g i j)):=by
 intro pins s σ H x y v u Q I rx ry h;obtain ⟨i,j,rfl,rfl,q⟩:=h;obtain ⟨t,rfl⟩:=rx;obtain ⟨t',rfl⟩:=ry;exact rule i j t t' s _ _ ⟨.bl (g i j),H,I,rfl,q⟩
def CPow (i j:Int):Prop:=0<=j/\j<=1000000/\i.natAbs < 2 ^ 64
def X7 (i j:Int):Prop:=(-(2 ^ 64) < i/\i < 2 ^ 64)\/(-(2 ^ 64) < j/\j < 2 ^ 64)
theorem X7.ok {i j:Int} (h:X7 i j):IntMulOk i j:=by
 rcases h with ⟨h1,h2⟩ | ⟨h1,h2⟩
 ·exact .of_left (intBits_le_64 h1 h2)
 ·exact .of_right (intBits_le_64 h1 h2)
theorem Bg:EC X (binaryOp .Add) (UY fun i j=>.int (i + j)):=opI0 fun _ _ _ _ _ _ _ q=>add_int q
theorem EO:EC X (binaryOp .Sub) (UY fun i j=>.int (i - j)):=opI0 fun _ _ _ _ _ _ _ q=>sub_int q
theorem Df:EC X (binaryOp .Mult) (rI X7 fun i j=>.int (i * j)):=opI fun _ _ _ _ _ _ _ hc q=>mul_int q hc.ok
theorem ER:EC X (binaryOp .Mod) (rI (fun _ j=>0 < j) fun i j=>.int (i % j)):=opI fun i j _ _ _ _ _ hc q=>by
 have h1:(0:Int) < j:=hc;exact mod_int' (by lia) (by rw [Int.fmod_eq_emod_of_nonneg i (by lia)]; exact q)
theorem WE:EC X (binaryOp .Pow) (rI CPow fun i j=>.int (i ^ j.toNat)):=opI fun _ _ _ _ _ _ _ hc q=>pow_int_small hc.1 hc.2.1 hc.2.2 q
theorem unI {f:Value->Sem Value} {g:Int->Int}
  (rule:∀ (i:Int) (t:Tok) (s:Shared) (Q:Value->Shared->Prop) (E:Value->Shared->Prop),Q (.int (g i) s.toks) { s with toks:=s.toks + 1 }->wpAny (model X.prog X.w) X.A (f (.int i t)) Q E s) :
  UnR X f (rU fun i=>.int (g i)):=by
 intro pins s σ H x v Q I rx h;obtain ⟨i,rfl,q⟩:=h;obtain ⟨t,rfl⟩:=rx;exact rule i t s _ _ ⟨.int (g i),H,I.tok _,⟨_,rfl⟩,q⟩
theorem MW:UnR X (unaryOp .USub) (rU fun i=>.int (-i)):=unI fun _ _ _ _ _ q=>neg_int q
end
def scal:V->V->Bool
 | .non,.non=>true | .non,.int _=>true | .int _,.non=>true | .non,.bl _=>true | .bl _,.non=>true | .non,.str _=>true | .str _,.non=>true
 | .int _,.int _=>true | .bl _,.bl _=>true | .str _,.str _=>true | .byt _,.byt _=>true
 | .int _,.str _=>true | .str _,.int _=>true | .bl _,.str _=>true | .str _,.bl _=>true
 | _,_=>false
def rEq:R2:=fun x y H Q=>scal x y=true/\Q (.bl (decide (x=y))) H
def rNe:R2:=fun x y H Q=>scal x y=true/\Q (.bl (!decide (x=y))) H
theorem OP {i j:Int}:decide (V.int i=V.int j)=(i == j):=by
 rw [gP];simp
theorem S7 {i j:Bool}:decide (V.bl i=V.bl j)=(i == j):=by
 rw [gP];simp
theorem OO {i j:Str}:decide (V.str i=V.str j)=(i == j):=by
 rw [gP];simp
theorem OQ {i j:Array UInt8}:decide (V.byt i=V.byt j)=(i.toList == j.toList):=by
 rw [gP];cases i
 cases j
 simp
section
variable {X:Cx} {a b c:Expr} {ta tb tc:TE} {pos:Pos}
theorem Be {pins:List (Addr × Obj)} {σ:St} {H:Hp} {s:Shared} {Q:VK} {k k':Bool} (I:As X pins σ H s) (q:Q (.bl k) H) (e:k=k'):EP X pins σ Q (.bool k') s:=by
 subst e;exact ⟨.bl k,H,I,rfl,q⟩
theorem Kn:EC X (compareOp .Eq) rEq:=by
 intro pins s σ H x y v u Q I rx ry h;obtain ⟨hs,q⟩:=h;cases x with
 | non=>
  cases rx
  cases y with
  | non=>cases ry; exact PySem.EqNone.eq_none_none (Be I q (by simp))
  | bl j=>cases ry; exact PySem.EqNone.eq_none_bool (Be I q (by simp))
  | int j=>obtain ⟨t',rfl⟩:=ry; exact PySem.EqNone.eq_none_int (Be I q (by simp))
  | str j=>obtain ⟨t',rfl⟩:=ry; exact PySem.EqNone.eq_none_str (Be I q (by simp))
  | _=>exact absurd (show false=true from hs) fH
 | bl i=>
  cases rx
  cases y with
  | non=>cases ry; exact PySem.EqNone.eq_bool_none (Be I q (by simp))
  | bl j=>cases ry; exact eq_bool (Be I q S7)
  | str j=>obtain ⟨t',rfl⟩:=ry; exact PySem.EqMixed.eq_bool_str (Be I q (by simp))
  | _=>exact absurd (show false=true from hs) fH
 | int i=>
  obtain ⟨t,rfl⟩:=rx;cases y with
  | non=>cases ry; exact PySem.EqNone.eq_int_none (Be I q (by simp))
  | int j=>obtain ⟨t',rfl⟩:=ry; exact eq_int (Be I q OP)
  | str j=>obtain ⟨t',rfl⟩:=ry; exact PySem.EqMixed.eq_int_str (Be I q (by simp))
  | _=>exact absurd (show false=true from hs) fH
 | str i=>
  obtain ⟨t,rfl⟩:=rx;cases y with
  | non=>cases ry; exact PySem.EqNone.eq_str_none (Be I q (by simp))
  | bl j=>cases ry; exact PySem.EqMixed.eq_str_bool (Be I q (by simp))
  | int j=>obtain ⟨t',rfl⟩:=ry; exact PySem.EqMixed.eq_str_int (Be I q (by simp))
  | str j=>obtain ⟨t',rfl⟩:=ry; exact eq_str (Be I q OO)
  | _=>exact absurd (show false=true from hs) fH
 | byt i=>
  obtain ⟨t,rfl⟩:=rx;cases y with
  | byt j=>obtain ⟨t',rfl⟩:=ry; exact PySem.W.eq_bytes (Be I q OQ)
  | _=>exact absurd (show false=true from hs) fH
 | _=>cases y <;> exact absurd (show false=true from hs) fH
theorem RM:EC X (compareOp .NotEq) rNe:=by
 intro pins s σ H x y v u Q I rx ry h;obtain ⟨hs,q⟩:=h;cases x with
 | non=>
  cases rx
  cases y with
  | non=>cases ry; exact PySem.EqNone.ne_none_none (Be I q (by simp))
  | bl j=>cases ry; exact PySem.EqNone.ne_none_bool (Be I q (by simp))
  | int j=>obtain ⟨t',rfl⟩:=ry; exact PySem.EqNone.ne_none_int (Be I q (by simp))
  | str j=>obtain ⟨t',rfl⟩:=ry; exact PySem.EqNone.ne_none_str (Be I q (by simp))
  | _=>exact absurd (show false=true from hs) fH
 | bl i=>
  cases rx
  cases y with
  | non=>cases ry; exact PySem.EqNone.ne_bool_none (Be I q (by simp))
  | bl j=>cases ry; exact ne_bool (Be I q (congrArg not S7))
  | str j=>obtain ⟨t',rfl⟩:=ry; exact PySem.EqMixed.ne_bool_str (Be I q (by simp))
  | _=>exact absurd (show false=true from hs) fH
 | int i=>
  obtain ⟨t,rfl⟩:=rx;cases y with
  | non=>cases ry; exact PySem.EqNone.ne_int_none (Be I q (by simp))
  | int j=>obtain ⟨t',rfl⟩:=ry; exact ne_int (Be I q (congrArg not OP))
  | str j=>obtain ⟨t',rfl⟩:=ry; exact PySem.EqMixed.ne_int_str (Be I q (by simp))
  | _=>exact absurd (show false=true from hs) fH
 | str i=>
  obtain ⟨t,rfl⟩:=rx;cases y with
  | non=>cases ry; exact PySem.EqNone.ne_str_none (Be I q (by simp))
  | bl j=>cases ry; exact PySem.EqMixed.ne_str_bool (Be I q (by simp))
  | int j=>obtain ⟨t',rfl⟩:=ry; exact PySem.EqMixed.ne_str_int (Be I q (by simp))
  | str j=>obtain ⟨t',rfl⟩:=ry; exact ne_str (Be I q (congrArg not OO))
  | _=>exact absurd (show false=true from hs) fH
 | byt i=>
  obtain ⟨t,rfl⟩:=rx;cases y with
  | byt j=>obtain ⟨t',rfl⟩:=ry; exact PySem.W.ne_bytes (Be I q (congrArg not OQ))
  | _=>exact absurd (show false=true from hs) fH
 | _=>cases y <;> exact absurd (show false=true from hs) fH
theorem Vb:EC X (compareOp .Lt) (UY fun i j=>.bl (decide (i < j))):=TX fun _ _ _ _ _ _ _ q=>lt_int q
theorem Mi:EC X (compareOp .LtE) (UY fun i j=>.bl (decide (i<=j))):=TX fun _ _ _ _ _ _ _ q=>le_int q
theorem op_gt:EC X (compareOp .Gt) (UY fun i j=>.bl (decide (j < i))):=TX fun _ _ _ _ _ _ _ q=>gt_int q
theorem Vc:EC X (compareOp .GtE) (UY fun i j=>.bl (decide (j<=i))):=TX fun _ _ _ _ _ _ _ q=>ge_int q
theorem BL (b:Expr) {op:CmpOp} (h:op ≠ .In:=by decide) (h2:op ≠ .NotIn:=by decide):behindInMarks op b=false:=by
 have e1:(op == CmpOp.In)=false:=by cases op <;> first | rfl | exact absurd rfl h
 have e2:(op == CmpOp.NotIn)=false:=by cases op <;> first | rfl | exact absurd rfl h2
 cases b <;> simp [behindInMarks,e1,e2]
theorem CQ {op:CmpOp} {r:R2} (ho:EC X (compareOp op) r) (ha:PE X a ta) (hb:PE X b tb) (hm:behindInMarks op b=false):PE X (.Compare a [op] [b] pos) (tOp r ta tb):=by
 intro pins s σ H Q I h;exact wpAny_Compare1 (Xo ha hb I h fun v u s2 x y H2 I2 rx ry q=>ho (pins:=pins) s2 σ H2 x y v u Q I2 rx ry q) hm
def UN (t:TE):TT:=fun σ H Q=>t σ H fun x H'=>∃ k,x=.bl k/\Q k H'
theorem B9 {op:CmpOp} {r:R2} (ho:EC X (compareOp op) r) (ha:PE X a ta) (hb:PE X b tb) (hm:behindInMarks op b=false):PT X (.Compare a [op] [b] pos) (UN (tOp r ta tb)):=by
 intro pins s σ H Q I h;refine wpAny_isTrue_Compare1 (Bt (ha (pins:=pins) s σ H _ I h) fun v s1 ⟨x,H1,I1,r1,q1⟩=>Bt (hb (pins:=pins) s1 σ H1 _ I1 q1) fun u s2 ⟨y,H2,I2,r2,q2⟩=>
  Bt (ho (pins:=pins) s2 σ H2 x y v u _ I2 r1 r2 q2) fun c s3 ⟨z,H3,I3,r3,k,e,q3⟩=>?_) hm
 subst e;cases r3
 exact wpAny_truthy_bool ⟨H3,I3,q3⟩
def MZ (r r':R2) (ta tb tc:TE):TE:=fun σ H Q=>ta σ H fun x H1=>tb σ H1 fun y H2=>r x y H2 fun z H3=>∃ k,z=.bl k /\
 (if k=true then tc σ H3 fun w' H4=>r' y w' H4 Q else Q (.bl false) H3)
theorem RF {op WH:CmpOp} {r r':R2} (ho:EC X (compareOp op) r) (Ii:EC X (compareOp WH) r') (ha:PE X a ta) (hb:PE X b tb) (hc:PE X c tc)
  (hm:lastMarks [op,WH] [b,c]=false:=by with_unfolding_all rfl):PE X (.Compare a [op,WH] [b,c] pos) (MZ r r' ta tb tc):=by
 intro pins s σ H Q I h;refine Compare_chain (Bt (ha (pins:=pins) s σ H _ I h) fun v s1 ⟨x,H1,I1,r1,q1⟩=>chain_link (Bt (hb (pins:=pins) s1 σ H1 _ I1 q1) fun u s2 ⟨y,H2,I2,r2,q2⟩=>
  Bt (ho (pins:=pins) s2 σ H2 x y v u _ I2 r1 r2 q2) fun d s3 ⟨z,H3,I3,r3,k,e,q3⟩=>?_)) hm
 subst e;cases r3
 refine wpAny_truthy_bool ?_;cases k with
 | false=>exact ite_ff ⟨.bl false,H3,I3,rfl,q3⟩
 | true=>exact ite_tt (chain_last (Bt (hc (pins:=pins) s3 σ H3 _ I3 q3) fun w' s4 ⟨z',H4,I4,r4,q4⟩=>Ii (pins:=pins) s4 σ H4 y z' u w' Q I4 r2 r4 q4))
theorem Md {op WH:CmpOp} {r r':R2} (ho:EC X (compareOp op) r) (Ii:EC X (compareOp WH) r') (ha:PE X a ta) (hb:PE X b tb) (hc:PE X c tc)
  (hm:lastMarks [op,WH] [b,c]=false:=by with_unfolding_all rfl):PT X (.Compare a [op,WH] [b,c] pos) (UN (MZ r r' ta tb tc)):=by
 intro pins s σ H Q I h;refine isTrue_chain (Bt (ha (pins:=pins) s σ H _ I h) fun v s1 ⟨x,H1,I1,r1,q1⟩=>test_link (Bt (hb (pins:=pins) s1 σ H1 _ I1 q1) fun u s2 ⟨y,H2,I2,r2,q2⟩=>
  Bt (ho (pins:=pins) s2 σ H2 x y v u _ I2 r1 r2 q2) fun d s3 ⟨z,H3,I3,r3,k,e,q3⟩=>?_)) hm
 subst e;cases r3
 refine wpAny_truthy_bool ?_;cases k with
 | false=>
  obtain ⟨k',e',q'⟩:=q3;cases e'
  exact ite_ff ⟨H3,I3,q'⟩
 | true=>
  refine ite_tt (test_last (Bt (hc (pins:=pins) s3 σ H3 _ I3 q3) fun w' s4 ⟨z',H4,I4,r4,q4⟩=>Bt (Ii (pins:=pins) s4 σ H4 y z' u w' _ I4 r2 r4 q4) fun d' s5 ⟨z2,H5,I5,r5,k2,e2,q5⟩=>?_));subst e2;cases r5
  exact wpAny_truthy_bool ⟨H5,I5,q5⟩
def TruV (K:eV) (x:V) (H:Hp) (k:Bool):Prop:=
 match x with
 | .non=>k=false
 | .bl b=>k=b
 | .int i=>k=(i != 0)
 | .str y=>y.length<=sizeLine/\k=((y.length:Int) != 0)
 | .byt y=>y.size<=sizeLine/\k=((y.size:Int) != 0)
 | .ref p=>(∃ xs,Ba K H p xs/\k = !xs.isEmpty)\/(∃ xs,Az K H p xs/\k = !xs.isEmpty)\/∃ kvs,H p=some (.dK kvs)/\k = !kvs.isEmpty
 | _=>False
theorem Nz {κ:Type} {kvs:List (κ × V)} {vs:List (κ × Value)} (r:KV kvs vs):(!vs.isEmpty) = !kvs.isEmpty:=by
 cases r <;> rfl
theorem Jb {xs:List V} {Ar:List Value} (r:AB xs Ar):(!Ar.toArray.isEmpty) = !xs.isEmpty:=by
 cases r <;> simp
theorem F5:(sizeLine:Nat) < 2 ^ 63:=by rw [sizeLine_eq]; decide
theorem VT:TruR X (fun x H Q=>∃ k,TruV X.K x H k/\Q k H):=by
 intro pins s σ H x v Q I rx h;obtain ⟨k,e,q⟩:=h;have hl:=F5;have hs:sizeLine=16777216:=sizeLine_eq;cases x with
 | non=>
  cases rx
  have e':k=false:=e;subst e';exact truthy_none ⟨H,I,q⟩
 | bl b=>
  cases rx
  have e':k=b:=e;subst e';exact wpAny_truthy_bool ⟨H,I,q⟩
 | int i=>
  obtain ⟨t,rfl⟩:=rx;have e':k=(i != 0):=e;subst e';exact PySem.P.truthy_int ⟨H,I,q⟩
 | str y=>
  obtain ⟨t,rfl⟩:=rx;obtain ⟨hy,e'⟩:y.length<=sizeLine/\k=((y.length:Int) != 0):=e;subst e';exact PySem.P.truthy_str (by lia) ⟨H,I.tok _,q⟩
 | byt y=>
  obtain ⟨t,rfl⟩:=rx;obtain ⟨hy,e'⟩:y.size<=sizeLine/\k=((y.size:Int) != 0):=e;subst e';exact PySem.W.truthy_bytes (by lia) ⟨H,I.tok _,q⟩
 | ref p=>
  cases rx
  have e':(∃ xs,Ba X.K H p xs/\k = !xs.isEmpty)\/(∃ xs,Az X.K H p xs/\k = !xs.isEmpty)\/∃ kvs,H p=some (.dK kvs)/\k = !kvs.isEmpty:=e;rcases e' with ⟨xs,hx,e'⟩ | ⟨xs,hx,e'⟩ | ⟨kvs,hx,e'⟩
  ·subst e';obtain ⟨Ar,r,pl,hz⟩:=I.list hx;have hlen:=r.length;exact wpAny_truthy_list pl.isList (by simp only [fu]; lia) ⟨H,I.tok _,by rw [Jb r]; exact q⟩
  ·subst e';obtain ⟨Ar,r,pl,hz⟩:=I.tuple hx;have hlen:=r.length;exact truthy_tuple pl (by simp only [fu]; lia) ⟨H,I.tok _,by rw [Jb r]; exact q⟩
  ·subst e';obtain ⟨hz,hS,vs,r,m⟩:kvs.length<=sizeLine/\(p == sysModules)=false/\∃ vs,KV kvs vs/\s.heap.DictOf (AY X.prog X.w) p vs:=I.hok p _ hx;have hlen:kvs.length=vs.length:=Paired.length r;exact wpAny_truthy_dict hS m (by lia) ⟨H,I.tok _,by rw [Nz r]; exact q⟩
 | _=>exact (show False from e).elim
theorem R1 (ha:PE X a ta) (he:∀ whole,isTrue a X.env whole=(do let v <- whole; standAt a.pos; holding [v] (truthy v))) :
  PT X a (fun σ H Q=>ta σ H fun x H'=>∃ k,TruV X.K x H' k/\Q k H'):=by
 intro pins s σ H Q I h;exact isTrue_plain (Bt (ha (pins:=pins) s σ H _ I h) fun v s1 ⟨x,H1,I1,r1,q1⟩=>VT (pins:=pins) s1 σ H1 x v Q I1 r1 q1) (he _)
theorem F3:EC X (binaryOp .Add) (fun x y H Q=>∃ i j,x=.str i/\y=.str j/\i.length + j.length<=sizeLine/\Q (.str (i ++ j)) H):=by
 intro pins s σ H x y v u Q I rx ry h;obtain ⟨i,j,rfl,rfl,hz,q⟩:=h;obtain ⟨t,rfl⟩:=rx;obtain ⟨t',rfl⟩:=ry;exact add_str (fun t' tk=>⟨.str (i ++ j),H,I.tok _,⟨_,rfl⟩,q⟩) hz
theorem Cq {x:V} {us:List Value} (r:AB [x] us):∃ u,us=[u]/\AD x u:=by
 cases r with
 | cons r1 r2=>cases r2; exact ⟨_,rfl,r1⟩
theorem Oc {x y:V} {us:List Value} (r:AB [x,y] us):∃ u w',us=[u,w']/\AD x u/\AD y w':=by
 cases r with
 | cons r1 r2=>
  cases r2 with
  | cons r3 r4=>cases r4; exact ⟨_,_,rfl,r1,r3⟩
theorem MG:Bv X (.builtin "abs") (fun xs H Q=>∃ i,xs=[.int i]/\Q (.int (if i < 0 then -i else i)) H):=by
 intro pins s σ H xs us Q I r h;obtain ⟨i,rfl,q⟩:=h;obtain ⟨u,rfl,t,rfl⟩:=Cq r;exact call_abs_int fun u tk=>⟨.int (if i < 0 then -i else i),H,I.tok _,⟨_,rfl⟩,q⟩
theorem GZ (hc:X.calm=true):Bv X (.builtin "max") (fun xs H Q=>∃ i j,xs=[.int i,.int j]/\Q (.int (if j > i then j else i)) H):=by
 intro pins s σ H xs us Q I r h;obtain ⟨i,j,rfl,q⟩:=h;obtain ⟨u,w',rfl,⟨t,rfl⟩,⟨t',rfl⟩⟩:=Oc r;refine max_two_ints (I.ok.hd hc) fun h' tk k=>⟨_,H,I.kept k,?_,q⟩
 by_cases hj:j > i
 ·rw [if_pos hj,if_pos hj]; exact ⟨_,rfl⟩
 ·rw [if_neg hj,if_neg hj]; exact ⟨_,rfl⟩
theorem Qv (hc:X.calm=true):Bv X (.builtin "min") (fun xs H Q=>∃ i j,xs=[.int i,.int j]/\Q (.int (if j < i then j else i)) H):=by
 intro pins s σ H xs us Q I r h;obtain ⟨i,j,rfl,q⟩:=h;obtain ⟨u,w',rfl,⟨t,rfl⟩,⟨t',rfl⟩⟩:=Oc r;refine min_two_ints (I.ok.hd hc) fun h' tk k=>⟨_,H,I.kept k,?_,q⟩
 by_cases hj:j < i
 ·rw [if_pos hj,if_pos hj]; exact ⟨_,rfl⟩
 ·rw [if_neg hj,if_neg hj]; exact ⟨_,rfl⟩
theorem Kz:Bv X (.type "int") (fun xs H Q=>(∃ i,xs=[.int i]/\Q (.int i) H)\/∃ k,xs=[.bl k]/\Q (.int (if k then 1 else 0)) H):=by
 intro pins s σ H xs us Q I r h;rcases h with ⟨i,rfl,q⟩ | ⟨k,rfl,q⟩
 ·obtain ⟨u,rfl,t,rfl⟩:=Cq r;exact call_int_int ⟨.int i,H,I,⟨_,rfl⟩,q⟩
 ·obtain ⟨u,rfl,r1⟩:=Cq r;cases r1
  exact call_int_bool ⟨.int (if k then 1 else 0),H,I.tok _,⟨_,rfl⟩,q⟩
end
structure X0 (h:Heap) (x dx C:Addr) (mA:Str->Option Value):Prop where
 obj:h.get? x=some (jz C dx)
 ns:h.Ns1 dx mA
 ne:dx ≠ x
theorem Qe {h:Heap} {dx:Addr} {mA:Str->Option Value} (n:h.Ns1 dx mA):∃ od,h.get? dx=some od/\∀ name,jB name od=some (mA name):=by
 obtain ⟨o,es,ep,ho,hd,hk,_,hm⟩:=n;refine ⟨o,ho,fun name=>?_⟩;have e:=hm name;unfold nsFind findBy at e;rw [<-Array.find?_toList] at e;unfold jB;rw [hd];dsimp only;split
 ·rename_i y q
  rw [q] at e;exact congrArg some e
 ·rename_i q
  rw [q] at e;have a:es.toList.any (·.refKey)=false:=by
   rw [List.any_eq_false];intro y hy;obtain ⟨z,t,hkey⟩:=hk y (jT.mp hy);simp [DictEntry.refKey,hkey]
  have a':¬ es.toList.any (·.refKey)=true:=by rw [a]; exact fH
  rw [if_neg a'];exact congrArg some e
theorem X0.look {h:Heap} {x dx C:Addr} {mA:Str->Option Value} (I:X0 h x dx C mA):∃ od,PySem.W.InstAt h x (jz C dx) C (some od)/\∀ name,jB name od=some (mA name):=
 let ⟨od,ho,hl⟩:=Qe I.ns
 ⟨od,⟨I.obj,rfl,rfl,ho⟩,hl⟩
section
variable {prog:Program} {w:World} {A:Around} {E:Value->Shared->Prop} {s:Shared} {K:eV} {x dx C f:Addr} {mA:Str->Option Value} {name:Str} {v:Value}
end
theorem Hc.some_of {v:V} {o:Option Value} (r:Hc (some v) o):∃ u,o=some u/\AD v u:=by
 cases o with
 | none=>exact (show False from r).elim
 | some u=>exact ⟨u,rfl,r⟩
section
variable {P:Program} {w:World} {H H':Hp} {h h':Heap} {a C dx:Addr} {fs fs':List (Str × V)}
theorem Uo (hok:FI P w H h) (e:H a=some (.ins C dx fs)):∃ mA,X0 h a dx C mA/\(∀ f,Hc (fs.lookup f) (mA f))/\PySem.Within mA (fs.map (·.1))/\fs.length<=1000/\H dx=some (.own a):=by
 obtain ⟨d,z,ne,ob,mA,n,r,q⟩:=(show AL P w H h a (.ins C dx fs) from hok a _ e)
 exact ⟨mA,⟨ob,n,ne⟩,r,q,z,d⟩
end
structure Cls (K:eV) (C:Addr):Prop where
 pg:ko K C Str.empty=true
 hd:PySem.W.hasDictIn K C=true
 po:PySem.W.plainOver K C=true
 sa:kI K (.ref C) "__setattr__"=some (some (.builtin "object.__setattr__"))
theorem Cls.get {K:eV} {C:Addr} (c:Cls K C) (f:Str):ko K C f=true:=c.pg
section
variable {X:Cx} {pins:List (Addr × Obj)} {σ:St} {H:Hp} {s:Shared} {a C dx:Addr} {fs:List (Str × V)} {f:Str} {v:V} {A:Around} {E:Value->Shared->Prop}
end
section
variable {X:Cx} {o e value:Expr} {f:Str} {pos pos' tpos:Pos} {ta tv:TE}
end
section
variable {X:Cx} {pins:List (Addr × Obj)} {σ:St} {H:Hp} {s:Shared} {A:Around} {E:Value->Shared->Prop} {Q:Value->Shared->Prop} {c:Value} {b:Bool}
inductive Dy (K:eV) (H:Hp):V->Value->Prop where
 | non:Dy K H .non (.type "NoneType")
 | bl (x:Bool):Dy K H (.bl x) (.type "bool")
 | int (i:Int):Dy K H (.int i) (.type "int")
 | str (x:Str):Dy K H (.str x) (.type "str")
 | flt (x:UInt64):Dy K H (.flt x) (.type "float")
 | lst {a:Addr} {xs:List V} (e:H a=some (.lst xs)):Dy K H (.ref a) (.type "list")
 | frz {a:Addr} {o:Obj} {xs:List V} (e:H a=some (.frz o (.lst xs))):Dy K H (.ref a) (.type "list")
 | tup {a:Addr} {xs:List V} (e:H a=some (.tup xs)):Dy K H (.ref a) (.type "tuple")
 | dK {a:Addr} {kvs:List (Bh × V)} (e:H a=some (.dK kvs)):Dy K H (.ref a) (.type "dict")
 | dT {a:Addr} {kvs:List (List Bh × V)} (e:H a=some (.dT kvs)):Dy K H (.ref a) (.type "dict")
 | ins {a C dx:Addr} {fs:List (Str × V)} (e:H a=some (.ins C dx fs)) (cl:Cls K C) (ha:kI K (.ref C) "__class__"=some (some (.builtin "object.__class__")))
   (hn:PySem.W.specialIn K (.builtin "object.__class__") "__get__"=some (some (.builtin "getset_descriptor.__get__"))) (htk:PySem.W.takesIn K (.builtin "object.__class__")=some true)
   (hm:PySem.W.mroIn K C (.type "object")=some true):Dy K H (.ref a) (.ref C)
theorem Qh {x:V} {u t:Value} (I:As X pins σ H s) (rx:AD x u) (ty:Dy X.K H x t) (e:i5 X.K t c=some b) (h:∀ tk,Q (.bool b) { s with toks:=tk }) :
  wpAny (model X.prog X.w) A (call (.builtin "isinstance") [u,c]) Q E s:=by
 cases ty with
 | non=>cases (show u=Value.none from rx); exact gN PySem.W.kitx_none I.kIn True.intro e (fun z=>nomatch z) h
 | bl y=>cases (show u=Value.bool y from rx); exact gN PySem.W.kitx_bool I.kIn True.intro e (fun z=>nomatch z) h
 | int i=>obtain ⟨t,q⟩:=(show ∃ t,u=Value.int i t from rx); cases q; exact gN PySem.W.kitx_int I.kIn True.intro e (fun z=>nomatch z) h
 | str y=>obtain ⟨t,q⟩:=(show ∃ t,u=Value.str y t from rx); cases q; exact gN PySem.W.kitx_str I.kIn True.intro e (fun z=>nomatch z) h
 | flt y=>obtain ⟨t,q⟩:=(show ∃ t,u=Value.float y t from rx); cases q; exact gN PySem.W.kitx_float I.kIn True.intro e (fun z=>nomatch z) h
 | @lst a xs ea=>
  cases (show u=Value.ref a from rx)
  obtain ⟨_,_,n,_,h1⟩:=(show AL X.prog X.w H s.heap a (.lst xs) from I.hok a _ ea)
  exact gN jX I.kIn ⟨_,h1,rfl⟩ e (fun z=>nomatch z) h
 | @frz a ob xs ea=>
  cases (show u=Value.ref a from rx)
  obtain ⟨_,_,_,n,_,h1⟩:=(show AL X.prog X.w H s.heap a (.frz ob (.lst xs)) from I.hok a _ ea)
  exact gN jX I.kIn ⟨_,h1,rfl⟩ e (fun z=>nomatch z) h
 | @tup a xs ea=>
  cases (show u=Value.ref a from rx)
  obtain ⟨_,_,_,p,_⟩:=(show AL X.prog X.w H s.heap a (.tup xs) from I.hok a _ ea)
  obtain ⟨o,h1,h2,_⟩:=p;exact gN PySem.W.kitx_tuple I.kIn ⟨o,h1,h2⟩ e (fun z=>nomatch z) h
 | @dK a kvs ea=>
  cases (show u=Value.ref a from rx)
  obtain ⟨_,_,vs,_,p⟩:=(show AL X.prog X.w H s.heap a (.dK kvs) from I.hok a _ ea)
  obtain ⟨o,es,ep,h1,h2,_⟩:=p;exact gN jY I.kIn ⟨o,h1,h2.1⟩ e (fun z=>nomatch z) h
 | @dT a kvs ea=>
  cases (show u=Value.ref a from rx)
  obtain ⟨_,_,xs,_,o,es,ep,h1,h2,_⟩:=(show AL X.prog X.w H s.heap a (.dT kvs) from I.hok a _ ea)
  exact gN jY I.kIn ⟨o,h1,h2.1⟩ e (fun z=>nomatch z) h
 | @ins a C dx fs ea cl ha hn htk hm=>
  cases (show u=Value.ref a from rx)
  obtain ⟨mA,O,_⟩:=Uo I.hok ea;obtain ⟨od,J,_⟩:=O.look;exact gN (PySem.W.kitx_own (cl.get _) cl.hd ha hn htk hm) I.kIn J e (fun z=>nomatch z) h
end
structure El (k:Nat) (A:Around):Prop where
 hd:A.handled=none
 dp:A.depth + 3 * k + 5 < recursionLimit
 un:A.units + 16 * k + 200 < cLine
 gd:A.guards=some []:=by rfl
theorem El.mono {j k:Nat} {A:Around} (r:El k A) (h:j<=k):El j A:=⟨r.hd,by have:=r.dp; lia,by have:=r.un; lia,r.gd⟩
theorem El.deeper {k:Nat} {A:Around} (r:El (k + 1) A) (env:Env):El k (A.deeper env):=
 ⟨r.hd,by have:=r.dp; show A.depth + 1 + 3 * k + 5 < _; lia,by have:=r.un; show A.units + 3 + 16 * k + 200 < _; lia,r.gd⟩
theorem El.depth {k:Nat} {A:Around} (r:El k A):A.depth < recursionLimit:=by have:=r.dp; lia
theorem El.units {k:Nat} {A:Around} (r:El k A):A.units + 64 < cLine:=by have:=r.un; lia
def tNil:TA:=fun _ H Q=>Q [] H
def tCons (ta:TE) (tr:TA):TA:=fun σ H Q=>ta σ H fun x H1=>tr σ H1 fun xs H2=>Q (x :: xs) H2
section
variable {X:Cx} {e:Expr} {es:List Expr} {te:TE} {t:TA} {pos:Pos}
theorem Ad:PA X [] tNil:=fun _ _ _ _ H Q I h=>Calls.spliced_nil ⟨[],H,I,.nil,h⟩
theorem Aa (ha:PE X e te) (hr:PA X es t) (hs:starEach (e :: es) X.env=(false,eval e X.env) :: starEach es X.env:=by rfl):PA X (e :: es) (tCons te t):=by
 intro pos pins s σ H Q I h;rw [hs];show wpAny _ _ (spliced ((false,eval e X.env) :: backTo pos (starEach es X.env))) _ _ s
 refine Calls.spliced_cons (Bt (ha (pins:=pins) s σ H _ I h) fun u s1 ⟨x,H1,I1,r1,q1⟩=>?_);exact Bt (hr (pos:=pos) (pins:=pins) s1 σ H1 _ I1 q1) fun us s2 ⟨xs,H2,I2,r2,q2⟩=>⟨x :: xs,H2,I2,.cons r1 r2,q2⟩
def tTup (t:TA):TE:=fun σ H Q=>t σ H fun xs H1=>xs.length<=sizeLine/\∀ p,H1 p=none->Q (.ref p) (upd H1 p (.tup xs))
def tLst (t:TA):TE:=fun σ H Q=>t σ H fun xs H1=>xs.length<=sizeLine/\∀ p,H1 p=none->Q (.ref p) (upd H1 p (.lst xs))
theorem Au {x1} (h:PA X es t):PE X (.Tuple es x1 pos) (tTup t):=by
 intro pins s σ H Q I hq;refine wpAny_Tuple_spliced (Bt (h (pos:=pos) (pins:=pins) s σ H _ I hq) fun us s1 ⟨xs,H1,I1,r,z,q⟩=>⟨by rw [<-r.length]; exact z,?_⟩);have hf:H1 s1.heap.objs.size=none:=I1.hok.fresh (fc _);refine ⟨.ref s1.heap.objs.size,upd H1 s1.heap.objs.size (.tup xs),I1.laid (t':=s1.toks) (fun b u e=>eT _ e) (fc _) ?_,rfl,q _ hf⟩;exact ⟨z,us,r,⟨_,fe _ rfl,rfl,_,rfl⟩,L6.new rfl rfl⟩
theorem B5 (h:PA X es t):PE X (.List es pos) (tLst t):=by
 intro pins s σ H Q I hq;refine wpAny_List_spliced (Bt (h (pos:=pos) (pins:=pins) s σ H _ I hq) fun us s1 ⟨xs,H1,I1,r,z,q⟩=>⟨by rw [<-r.length]; exact z,?_⟩);have hf:H1 s1.heap.objs.size=none:=I1.hok.fresh (fc _);refine ⟨.ref s1.heap.objs.size,upd H1 s1.heap.objs.size (.lst xs),I1.laid (t':=s1.toks) (fun b u e=>eT _ e) (fc _) ?_,rfl,q _ hf⟩;exact ⟨z,us,0,r,fe _ rfl⟩
end
abbrev Sp:=List V->Hp->VK->XK->Prop
abbrev SR:=List Env->Hp->Shared->XK->Value->Shared->Prop
structure UI (P:Program) (w:World) (K:eV) (mg:Str->Option Value) (base:Heap) (A:Around) (outer:List Env) (s:Shared) (H:Hp):Prop where
 frames:A.frames=some outer
 mod:Mod K mg base
 bs:∀ b o,base.get? b=some o->s.heap.get? b=some o/\H b=none
 bsz:base.objs.size<=s.heap.objs.size
 funs:s.heap.FunFrames base outer
 frf:∀ b ∈ Sv outer,H b=none
 hok:FI P w H s.heap
 bare:AllBare s.gens
def CE (outer:List Env) (P:Program) (w:World) (H:Hp) (s:Shared) (Q:VK) (u:Value) (s':Shared):Prop:=
 ∃ v H',s'.os=s.os/\AllBare s'.gens/\Un (Sv outer) [] H H' s.heap s'.heap/\FI P w H' s'.heap/\AD v u/\Q v H'
def CR (CX:SR) (outer:List Env) (P:Program) (w:World) (H:Hp) (s:Shared) (Q:VK) (E:XK) (r:Result) (s':Shared):Prop:=
 match r with
 | .ok (.ret u)=>CE outer P w H s Q u s'
 | .ok _=>False
 | .error e=>CX outer H s E e s'
structure A8 (P:Program) (w:World) (K:eV) (mg:Str->Option Value) (base:Heap) (CX:SR) (k:Nat) (f:Addr) (fd:FuncData) (ps:List Str) (sp:Sp):Prop where
 len:∀ vs H Q E,sp vs H Q E->vs.length=ps.length
 run:∀ (A:Around) (outer:List Env) (s:Shared) (H:Hp) (args:Args) (us:List Value) (vs:List V) (Q:VK) (E:XK),El k A->UI P w K mg base A outer s H->BindsTo s fd args (ps.zip us)->AB vs us->sp vs H Q E ->
  codeAny (model P w) A (.call (.ref f) args) (CR CX outer P w H s Q E) s
section
variable {X:Cx} {pins:List (Addr × Obj)} {σ:St} {H:Hp} {s s':Shared}
theorem As.env0 (I:As X pins σ H s):UI X.prog X.w X.K X.mg X.base X.A X.stack s H:=
 ⟨I.ok.frames,I.ok.mod,I.bs,gc I.ok.bsz I.sz,I.stack,I.stkFree,I.hok,I.bare⟩
theorem As.after {Q:VK} {u:Value} (I:As X pins σ H s) (h:CE X.stack X.prog X.w H s Q u s'):EP X pins σ Q u s':=by
 obtain ⟨v,H',os,bare,un,hok,r,q⟩:=h;obtain ⟨hh,g,d,t,cB⟩:=s';obtain rfl:cB=s.os:=os;exact ⟨v,H',I.call (h':=hh) (g':=g) (d':=d) (t':=t) (ch:=[]) un hok bare (fun b z=>absurd z (by simp)),r,q⟩
end
def tCall (sp:Sp) (dvs:List V) (E:XK) (t:TA):TE:=fun σ H Q=>t σ H fun vs H1=>sp (vs ++ dvs) H1 Q E
def HG (K:eV) (fd:FuncData) (ps:List Str) (ds:List Value):Prop:=
 ∀ (s:Shared) (us:List Value),K.In s.heap->(us ++ ds).length=ps.length->BindsTo s fd ⟨us,[]⟩ (ps.zip (us ++ ds))
theorem HG.all {K:eV} {fd:FuncData} {ps:List Str} (h:∀ us:List Value,us.length=ps.length->bindArgs fd ⟨us,[]⟩=pure (ps.zip us)):HG K fd ps []:=fun s us _ hl=>by
 rw [iG] at hl ⊢;exact .of_eq (h us hl)
def NT (CX:SR) (X:Cx) (E:XK):Prop:=∀ (pins:List (Addr × Obj)) (σ:St) (H:Hp) (s:Shared) (e:Value) (s':Shared),As X pins σ H s->CX X.stack H s E e s'->X.xe e s'
section
variable {X:Cx} {CX:SR} {k:Nat} {f C:Addr} {fd:FuncData} {ps:List Str} {sp:Sp} {dvs:List V} {ds:List Value} {E:XK} {x m:Str} {p pos apos:Pos} {e o:Expr} {es:List Expr} {ta:TE} {t:TA}
theorem Ws {pins:List (Addr × Obj)} {σ:St} {H:Hp} {s:Shared} {Q:VK} {us:List Value} {vs:List V} (F:A8 X.prog X.w X.K X.mg X.base CX k f fd ps sp) (hr:El k X.A) (hb:HG X.K fd ps ds) (hd:AB dvs ds) (hx:NT CX X E)
  (I:As X pins σ H s) (r:AB vs us) (h:sp (vs ++ dvs) H Q E):wpAny (model X.prog X.w) X.A (call (.ref f) us) (EP X pins σ Q) X.xe s:=by
 have r2:AB (vs ++ dvs) (us ++ ds):=r.append hd;have hl:(us ++ ds).length=ps.length:=by rw [<-r2.length]; exact F.len _ _ _ _ h
 refine wpAny_call (codeAny_mono (F.run X.A X.stack s H ⟨us,[]⟩ (us ++ ds) (vs ++ dvs) Q E hr I.env0 (hb s us I.kIn hl) r2 h) fun r s' hq=>?_);cases r with
 | error e=>exact hx pins σ H s e s' I hq
 | ok fl=>
  cases fl with
  | ret u=>exact I.after hq
  | next=>exact False.elim hq
  | brk=>exact False.elim hq
  | cont=>exact False.elim hq
theorem An (F:A8 X.prog X.w X.K X.mg X.base CX k f fd ps sp) (hr:El k X.A) (hg:Gl X x) (hm:X.mg x=some (.ref f)) (hk:iZ X.K (.ref f)=true) (hb:HG X.K fd ps ds) (hd:AB dvs ds) (hx:NT CX X E)
  (ha:PA X (e :: es) t) (hdb:(x == ("__debug__":Str))=false:=by decide) (he:starEach (e :: es) X.env=(false,eval e X.env) :: starEach es X.env:=by rfl) (hpl:(backTo pos (starEach es X.env)).any (·.1)=false:=by rfl) :
  PE X (.Call (.Name x p) (e :: es) [] pos) (tCall sp dvs E t):=by
 intro pins s σ H Q I h;refine wpAny_Call_Name_kw (OB I hg hm ?_ hdb);refine PySem.W.callWith_K (h₀:=X.base) I.ok.mod.kin hk (Bt (ha (pos:=pos) (pins:=pins) s σ H _ I h) fun us s1 ⟨vs,H1,I1,r,q⟩=>⟨I1.kIn,?_⟩) he hpl;exact Ws F hr hb hd hx I1 r q
end
section
variable {X:Cx} {CX:SR} {k:Nat} {f C:Addr} {fd:FuncData} {ps ks:List Str} {sp:Sp} {E:XK} {x m:Str} {p pos apos kpos:Pos} {e o:Expr} {es:List Expr} {kws:List Keyword} {te ta:TE} {t tk:TA} {nm:Option Str}
variable {g:List Value->List Value->List Value} {gV:List V->List V->List V}
end
structure A4 (N P:List Str) (sc:Scope):Prop where
 kind:sc.kind=.function
 co:sc.isCoroutine=false
 gen:sc.isGenerator=false
 nd:N.Nodup
 pre:N.take P.length=P
 par:∀ x ∈ P,sc.names.lookup x=some .local\/sc.names.lookup x=some .cell
 nofree:∀ y ∈ sc.names,y.2 ≠ .free
theorem K0 {kindOf:Str->Option NameKind} {x:Str}:∀ {binds:List (Str × Value)} {m:Str->Option Value},(∀ v,(x,v) ∉ binds)->bindL kindOf binds m x=m x
 | [],_,_=>rfl
 | (n,v) :: r,m,h=>by
  unfold bindL;rw [K0 fun w hw=>h w (fK _ hw)];split
  ·have:x ≠ n:=by rintro rfl; exact h v fX
   simp [this]
  ·rfl
theorem K2 {kindOf:Str->Option NameKind} {x:Str}:∀ {binds:List (Str × Value)} {m:Str->Option Value},(∀ v,(x,v) ∉ binds)->bindC kindOf binds m x=m x
 | [],_,_=>rfl
 | (n,v) :: r,m,h=>by
  unfold bindC;rw [K2 fun w hw=>h w (fK _ hw)];split
  ·rfl
  ·have:x ≠ n:=by rintro rfl; exact h v fX
   simp [this]
theorem K1 {kindOf:Str->Option NameKind} {x:Str} {v:Value}:∀ {P:List Str} {vs:List Value} {i:Nat} {m:Str->Option Value},P.Nodup->P[i]? = some x->vs[i]? = some v->kindOf x=some .local ->
  bindL kindOf (P.zip vs) m x=some v
 | [],_,_,_,_,h,_,_=>by simp at h
 | _ :: _,[],_,_,_,_,h,_=>by simp at h
 | p :: P,w :: vs,0,m,nd,h1,h2,hk=>by
  simp at h1 h2; subst h1; subst h2;show bindL kindOf ((p,w) :: P.zip vs) m p=_
  unfold bindL;rw [K0 fun v hv=>(gG.mp nd).1 (ja hv).1,if_pos hk];simp
 | p :: P,w :: vs,i + 1,m,nd,h1,h2,hk=>by
  show bindL kindOf ((p,w) :: P.zip vs) m x=_
  unfold bindL;exact K1 (i:=i) (gG.mp nd).2 (by simpa using h1) (by simpa using h2) hk
theorem K3 {kindOf:Str->Option NameKind} {x:Str} {v:Value}:∀ {P:List Str} {vs:List Value} {i:Nat} {m:Str->Option Value},P.Nodup->P[i]? = some x->vs[i]? = some v->kindOf x ≠ some .local ->
  bindC kindOf (P.zip vs) m x=some v
 | [],_,_,_,_,h,_,_=>by simp at h
 | _ :: _,[],_,_,_,_,h,_=>by simp at h
 | p :: P,w :: vs,0,m,nd,h1,h2,hk=>by
  simp at h1 h2; subst h1; subst h2;show bindC kindOf ((p,w) :: P.zip vs) m p=_
  unfold bindC;rw [K2 fun v hv=>(gG.mp nd).1 (ja hv).1,if_neg hk];simp
 | p :: P,w :: vs,i + 1,m,nd,h1,h2,hk=>by
  show bindC kindOf ((p,w) :: P.zip vs) m x=_
  unfold bindC;exact K3 (i:=i) (gG.mp nd).2 (by simpa using h1) (by simpa using h2) hk
def start (N:List Str) (vs:List V):St:=vs.map some ++ i8 (N.length - vs.length) none
def MB (CX:SR) (P:Program) (w:World) (K:eV) (mg:Str->Option Value) (base:Heap) (N:List Str) (qual:Str) (scope:Scope) (f:Addr) (cd:Value) (A:Around) (outer:List Env) (s:Shared) (H:Hp) (E:XK):Cx where
 prog:=P
 w:=w
 K:=K
 mg:=mg
 base:=base
 A:=A.deeper (envOfC qual scope s.heap.objs.size f cd)
 N:=N
 s₀:=s
 H₀:=H
 env:=envOfC qual scope s.heap.objs.size f cd
 outer:=outer
 stack:=envOfC qual scope s.heap.objs.size f cd :: outer
 ex:=[]
 calm:=true
 fn:=fun _=>true
 pn:=[]
 xe:=fun e s'=>wpAny (model P w) (A.deeper (envOfC qual scope s.heap.objs.size f cd)) (leaving (envOfC qual scope s.heap.objs.size f cd) e) (fun _ Wr=>CX outer H s E e Wr) (fun e' Wr=>CX outer H s E e' Wr) s'
theorem ME {sc:Scope} {n:Nat} {x:Str} (h:sc.names.lookup x=some .cell):∃ c,(cellsFrom n sc.names []).lookup x=some c:=by
 have q:=jI sc.names n [] (.inl h);exact iM.mp q
theorem Qi {CX:SR} {P:Program} {w:World} {K:eV} {mg:Str->Option Value} {base:Heap} {N ps:List Str} {qual:Str} {scope:Scope} {f:Addr} {cd:Value} {A:Around} {outer:List Env} {s s1:Shared} {H:Hp} {E:XK} {us:List Value} {vs:List V}
  (S:A4 N ps scope) (hd:A.handled=none) (e0:UI P w K mg base A outer s H) (hl:vs.length=ps.length) (r:AB vs us)
  (x:InCallC s s.heap.objs.size (bindL (envOfC qual scope s.heap.objs.size f cd).kindOf (ps.zip us) fun _=>none) (cellsFrom (s.heap.objs.size + 1) scope.names []) (bindC (envOfC qual scope s.heap.objs.size f cd).kindOf (ps.zip us) fun _=>none) s1) :
  As (MB CX P w K mg base N qual scope f cd A outer s H E) [] (start N vs) H s1:=by
 have hpl:ps.length<=N.length:=by have:=congrArg gK S.pre; rw [fJ] at this; lia
 obtain ⟨h1,tk,rfl,hk⟩:=x.done;have noA:∀ b:Addr,b ∉ (MB CX P w K mg base N qual scope f cd A outer s H E).ex:=fun b z=>absurd (show b ∈ ([]:List Addr) from z) (by simp)
 refine ⟨⟨e0.mod,S.kind,rfl,rfl,fc _,fun y z c h1 h2=>?_,fun y hy=>?_,fun y c _ h=>?_,fun _=>hd,Around.frames_deeper e0.frames,.inr ⟨rfl,rfl⟩,fun b z=>absurd z (noA b),e0.bs,e0.bsz,fun b _ _=>noA b,fun b z=>absurd z (noA b),e0.funs,e0.frf⟩,
  rfl,e0.bare,Un.kept hk,⟨_,x.toInCall.ns,fun i y v h1 h2 h3=>?_⟩,fun y c h=>⟨_,x.cell y c h⟩,e0.hok.fresh (fc _),fun y c h=>?_,fun p hp=>absurd (show p ∈ ([]:List (Addr × Obj)) from hp) (by simp),e0.hok.kept hk,?_⟩
 ·exact name_of_addr x.apart (PySem.mem_of_lookup h1) (PySem.mem_of_lookup h2)
 ·have hy:scope.names.lookup y=some .cell\/scope.names.lookup y=some .free:=hy;rcases hy with hy | hy
  ·exact ME hy
  ·exact absurd rfl (S.nofree _ (PySem.mem_of_lookup hy))
 ·exact iY (x.above y c (PySem.mem_of_lookup h))
 ·have hi:i < vs.length:=by
   unfold start at h2;by_cases hi:i < vs.length
   ·exact hi
   ·rw [gj (by simpa using hi)] at h2;rw [List.getElem?_replicate] at h2;split at h2 <;> cases h2
  have ha:vs[i]? = some v:=by
   unfold start at h2;rw [gq (by simpa using hi),eZ] at h2;cases e:vs[i]? with
   | none=>rw [e] at h2; cases h2
   | some a=>rw [e] at h2; cases h2; rfl
  obtain ⟨u,hu,rv⟩:=r.get ha;have hp:ps[i]? = some y:=by
   rw [<-S.pre,iR (by lia)]; exact h1
  have ndP:ps.Nodup:=by rw [<-S.pre]; exact S.nd.sublist (kJ _ _)
  exists u,rv;rcases S.par y (eW hp) with k | k
  ·exact .inl ⟨k,K1 ndP hp hu k⟩
  ·obtain ⟨c,e⟩:=ME (n:=s.heap.objs.size + 1) k;refine .inr ⟨.inl k,c,e,?_⟩;have q:=x.cell y c e;rw [K3 ndP hp hu (by show scope.names.lookup y ≠ _; rw [k]; decide)] at q;exact q
 ·exact e0.hok.fresh (iY (x.above y c (PySem.mem_of_lookup h)))
 ·unfold start;show _=N.length
  rw [eY,eU,List.length_replicate];lia
theorem fn_of {CX:SR} {P:Program} {w:World} {K:eV} {mg:Str->Option Value} {base:Heap} {k:Nat} {f:Addr} {name qual:Str} {params:Arguments} {body:List Stmt} {scope:Scope} {dV kV doc pm cdv ct oc:Value} {an od:Option Addr}
  {osl:Array (Option Value)} {N ps:List Str} {sp:Sp} (lk:K.lookup f=some ⟨oc,od,.func (hZ name qual params body scope dV kV doc pm an cdv ct),osl⟩) (hcd:jb K cdv qual=true) (S:A4 N ps scope)
  (len:∀ vs H Q E,sp vs H Q E->vs.length=ps.length)
  (hbody:∀ (A:Around) (outer:List Env) (s:Shared) (H:Hp) (vs:List V) (Q:VK) (E:XK),El k (A.deeper (envOfC qual scope s.heap.objs.size f cdv))->sp vs H Q E ->
   ∃ t,NU (MB CX P w K mg base N qual scope f cdv A outer s H E) body t/\t { nx:=fun _ H'=>Q .non H',rt:=Q } (start N vs) H) :
  A8 P w K mg base CX (k + 1) f (hZ name qual params body scope dV kV doc pm an cdv ct) ps sp:=by
 refine ⟨len,fun A outer s H args us vs Q E hr e0 hb r hsp=>?_⟩;have hl:=len _ _ _ _ hsp;have KX:K.In s.heap:=e0.mod.kin.keeps fun b o e=>(e0.bs b o e).1
 have lim:s.heap.NoLimit:=e0.mod.nolimit.keeps fun b o e=>(e0.bs b o e).1
 have hkind:∀ y ∈ ps.zip us,scope.names.lookup y.1=some .local\/(scope.names.lookup y.1=some .cell/\((cellsFrom (s.heap.objs.size + 1) scope.names []).lookup y.1).isSome=true):=fun ⟨n,v⟩ hy=>by
  rcases S.par n (ja hy).1 with q | q
  ·exact .inl q
  ·exact .inr ⟨q,jI _ _ _ (.inl q)⟩
 refine codeAny_call_function hr.depth (KX _ _ lk) rfl S.co S.gen rfl (PySem.W.codeRec_of KX hcd) (hb _ _ _ _ ?_);refine wpAny_newFunctionEnv_cells S.kind hkind fun env he s1 x=>?_
 subst he;refine ⟨lim.keeps x.toInCall.keep,codeAny_func ?_⟩;obtain ⟨t,ht,hq⟩:=hbody A outer s H vs Q E (hr.deeper _) hsp;have I:As (MB CX P w K mg base N qual scope f cdv A outer s H E) [] (start N vs) H s1:=Qi S hr.hd e0 hl r x;refine wpAny_mono (ht s1 (start N vs) H _ I hq) (fun fl s' hs=>?_) fun e s' hs=>hs
 have fin:∀ {Av:St} {H':Hp} {v:V} {u:Value},As (MB CX P w K mg base N qual scope f cdv A outer s H E) [] Av H' s'->AD v u->Q v H'->CE outer P w H s Q u s':=
  fun {Av H' v u} J rv q=>⟨v,H',J.os,J.bare,J.base,J.hok,rv,q⟩
 cases fl with
 | ret u=>
  obtain ⟨v,Av,H',J,rv,q⟩:=hs;exact fin J rv q
 | next=>
  obtain ⟨Av,H',J,q⟩:=hs;exact fin (v:=V.non) (u:=Value.none) J rfl q
 | brk=>
  obtain ⟨_,_,_,q⟩:=hs;exact False.elim q
 | cont=>
  obtain ⟨_,_,_,q⟩:=hs;exact False.elim q
section
variable {X:Cx} {x:Str} {p pos:Pos} {e:Expr} {es:List Expr} {t:TA} {id T:String} {r:List V->Hp->VK->Prop}
def tCB (r:List V->Hp->VK->Prop) (t:TA):TE:=fun σ H Q=>t σ H fun vs H1=>r vs H1 Q
theorem Ao (hc:Bv X (.builtin id) r) (hg:Gl X x) (hm:X.mg x=none) (hv:bootBuiltins x=some (.builtin id)) (ha:PA X (e :: es) t) (hn:x ≠ "__name__":=by decide) (hdb:(x == ("__debug__":Str))=false:=by decide)
  (he:starEach (e :: es) X.env=(false,eval e X.env) :: starEach es X.env:=by rfl) (hpl:(backTo pos (starEach es X.env)).any (·.1)=false:=by rfl):PE X (.Call (.Name x p) (e :: es) [] pos) (tCB r t):=by
 intro pins s σ H Q I h;refine wpAny_Call_Name_kw (GJ I hg hm hv ?_ hn hdb);exact PyProof.Rows.callWith_builtin1 (Bt (ha (pos:=pos) (pins:=pins) s σ H _ I h) fun us s1 ⟨vs,H1,I1,r1,q1⟩=>hc (pins:=pins) s1 σ H1 vs us Q I1 r1 q1) he hpl
theorem AQ (hc:Bv X (.type T) r) (hg:Gl X x) (hm:X.mg x=none) (hv:bootBuiltins x=some (.type T)) (ha:PA X (e :: es) t) (hn:x ≠ "__name__":=by decide) (hdb:(x == ("__debug__":Str))=false:=by decide)
  (he:starEach (e :: es) X.env=(false,eval e X.env) :: starEach es X.env:=by rfl) (hpl:(backTo pos (starEach es X.env)).any (·.1)=false:=by rfl):PE X (.Call (.Name x p) (e :: es) [] pos) (tCB r t):=by
 intro pins s σ H Q I h;refine wpAny_Call_Name_kw (GJ I hg hm hv ?_ hn hdb);exact PyProof.Rows.callWith_type1 (Bt (ha (pos:=pos) (pins:=pins) s σ H _ I h) fun us s1 ⟨vs,H1,I1,r1,q1⟩=>hc (pins:=pins) s1 σ H1 vs us Q I1 r1 q1) he hpl
end
end L2
namespace HT
open PySem PyProof.Rows
section
open PySem.SeqAt
open PySem.AutoSeq1 (wpAny_loadPart')
open PySem.MeetsSeq PySem.MeetsSeq2 PySem.MeetsSeq3
end
section
variable {prog:Program} {w:World} {A:Around} {E:Value->Shared->Prop} {s:Shared}
theorem cat_tup {t b:Addr} {vs ws:List Value} {Q:Value->Shared->Prop} (ht:IsTup s.heap t vs.toArray) (hb:IsTup s.heap b ws.toArray) (hv:vs ≠ [])
  (h1:ws=[]->Q (.ref t) s) (h2:ws ≠ []->Q (.ref s.heap.objs.size) { s with heap:=s.heap.push { cls:=.type "tuple",data:=.seq (vs ++ ws).toArray } })
  (hsz:vs.length + ws.length<=sizeLine):wpAny (model prog w) A (binaryOp .Add (.ref t) (.ref b)) Q E s:=by
 obtain ⟨⟨cls,dd,data,sl⟩,ho,hc,n,hd⟩:=id ht;obtain ⟨⟨ab,Td,data2,Ow⟩,SX,Ta,n2,hd2⟩:=id hb;simp only at hc hd Ta hd2;subst hc hd Ta hd2;have e:vs.toArray ++ ws.toArray=(vs ++ ws).toArray:=by simp
 by_cases hw:ws=[]
 ·exact concat_meets ⟨_,ho,rfl⟩ ⟨_,SX,rfl⟩ noFill_tuple_add seq_tuple_add PySem.F.slot_tuple_add PySem.F.entry_tuple_add (PySem.F.args_tuple_add_2 _ _)
   (tuple_addW1 t b vs.toArray ws.toArray n n2 dd Td sl Ow (by simpa using hv) (by simp [hw])) ⟨ho,SX,h1 hw⟩
 ·refine concat_meets ⟨_,ho,rfl⟩ ⟨_,SX,rfl⟩ noFill_tuple_add seq_tuple_add PySem.F.slot_tuple_add PySem.F.entry_tuple_add (PySem.F.args_tuple_add_2 _ _)
   (tuple_addW2 t b vs.toArray ws.toArray n n2 dd Td sl Ow (by simpa using hv) (by simpa using hw) (by rw [fu,fu]; exact hsz)) ⟨ho,SX,?_⟩
  rw [e];exact h2 hw
def sIx (n d:Nat):Option Int->Nat
 | none=>d
 | some v=>if v < 0 then (v + (n:Int)).toNat else min v.toNat n
theorem sIx_nat (n d k:Nat):sIx n d (some (k:Int))=min k n:=by
 show (if (k:Int) < 0 then ((k:Int) + (n:Int)).toNat else min (k:Int).toNat n)=min k n
 rw [if_neg (by lia),j4]
theorem Wq (n d:Nat) (hd:d<=n) (o:Option Int):sIx n d o<=n:=by
 cases o with
 | none=>exact hd
 | some v=>
  show (if v < 0 then (v + (n:Int)).toNat else min v.toNat n)<=n
  by_cases hv:v < 0
  ·rw [if_pos hv]; lia
  ·rw [if_neg hv]; exact Nat.min_le_right _ _
theorem OR (v:Int) (n d:Nat):(if v < 0 then max (v + (n:Int)) 0 else min v (n:Int))=((sIx n d (some v):Nat):Int):=by
 show (if v < 0 then max (v + (n:Int)) 0 else min v (n:Int))=(((if v < 0 then (v + (n:Int)).toNat else min v.toNat n):Nat):Int)
 by_cases hv:v < 0
 ·simp only [if_pos hv]; lia
 ·simp only [if_neg hv]; lia
theorem NF (lo hi:Option Int) (n:Nat):Builtin.Slice.sliceAdjust lo hi 1 (n:Int)=(((sIx n 0 lo:Nat):Int),((sIx n n hi:Nat):Int)):=by
 have h1:¬ ((1:Int) < 0):=by lia
 unfold Builtin.Slice.sliceAdjust;simp only [h1,if_false];refine Prod.ext ?_ ?_
 ·cases lo with
  | none=>rfl
  | some v=>exact OR v n 0
 ·cases hi with
  | none=>rfl
  | some v=>exact OR v n n
theorem Nn (i j:Nat):Builtin.Slice.slicePlaces (i:Int) (j:Int) 1=j - i:=by
 unfold Builtin.Slice.slicePlaces;have h1:(1:Int) > 0:=by lia
 simp only [h1,if_true,j5];split <;> lia
theorem Iw {v:Value} {o:Option Int} {Q:Option Int->Shared->Prop} (p:IsPart v o) (h:Q o s):wpAny (model prog w) A (Builtin.Slice.slicePartIndex v) Q E s:=by
 cases p with
 | none=>exact slicePart_none h
 | int i t=>exact slicePart_int h
theorem Gz {sl:Addr} {vl vu:Value} {lo hi:Option Int} {n:Nat} {Q:Int × Int × Nat->Shared->Prop} (hs:s.heap.IsSliceOf sl vl vu .none) (pl:IsPart vl lo) (pu:IsPart vu hi)
  (h:Q (((sIx n 0 lo:Nat):Int),1,sIx n n hi - sIx n 0 lo) s):wpAny (model prog w) A (Builtin.Slice.sliceApplied (.ref sl) (pure (n:Int))) Q E s:=by
 obtain ⟨os,hos,hcs,hds⟩:=id hs;unfold Builtin.Slice.sliceApplied Builtin.Slice.sliceFields;refine wpAny_bind (wpAny_bind (wpAny_field hos hds (x:=vl) rfl (wpAny_bind (wpAny_field hos hds (x:=vu) rfl (wpAny_bind (wpAny_field hos hds (x:=.none) rfl (wpAny_pure ?_)))))));refine wpAny_bind (slicePart_none ?_);show wpAny _ _ (if ((1:Int) == 0)=true then _ else _) _ _ s
 rw [if_neg (by decide)];refine wpAny_bind (Iw pl (wpAny_bind (Iw pu (wpAny_bind (wpAny_pure ?_)))));show wpAny _ _ (match Builtin.Slice.sliceAdjust lo hi 1 (n:Int) with | (lo,hi)=>pure (lo,(1:Int),Builtin.Slice.slicePlaces lo hi 1)) _ _ s
 rw [NF lo hi n];show wpAny _ _ (pure (((sIx n 0 lo:Nat):Int),(1:Int),Builtin.Slice.slicePlaces ((sIx n 0 lo:Nat):Int) ((sIx n n hi:Nat):Int) 1)) _ _ s
 rw [Nn];exact wpAny_pure h
theorem R5 (xs:Array Value) (i k:Nat):((gR k).filterMap fun (m:Nat)=>xs[((i:Int) + (m:Int) * 1).toNat]?).toArray=((xs.toList.drop i).take k).toArray:=by
 have e:(fun (m:Nat)=>xs[((i:Int) + (m:Int) * 1).toNat]?)=fun m=>xs[i + m]?:=by
  funext m;have:((i:Int) + (m:Int) * 1).toNat=i + m:=by lia
  rw [this]
 rw [e];have:=pick_run xs i k;rw [List.filterMap_map] at this;have e2:((fun x=>xs[x]?) ∘ fun x=>i + x)=fun m=>xs[i + m]?:=rfl
 rw [e2] at this;rw [this]
theorem getItem_tuple_cut {t sl:Addr} {items:Array Value} {vl vu:Value} {lo hi:Option Int} {Q:Value->Shared->Prop} (ht:IsTup s.heap t items) (hs:s.heap.IsSliceOf sl vl vu .none) (pl:IsPart vl lo) (pu:IsPart vu hi)
  (hw:¬ (sIx items.size 0 lo=0/\sIx items.size items.size hi=items.size))
  (h:Q (.ref s.heap.objs.size) { s with heap:=s.heap.push { cls:=.type "tuple",data:=.seq ((items.toList.drop (sIx items.size 0 lo)).take (sIx items.size items.size hi - sIx items.size 0 lo)).toArray } })
  (hsz:items.size<=sizeLine):wpAny (model prog w) A (getItem (.ref t) (.ref sl)) Q E s:=by
 have htake:sizeOk (.seq ((items.toList.drop (sIx items.size 0 lo)).take (sIx items.size items.size hi - sIx items.size 0 lo)).toArray):=by
  show ((items.toList.drop (sIx items.size 0 lo)).take (sIx items.size items.size hi - sIx items.size 0 lo)).toArray.size<=sizeLine
  rw [fu,fJ,gD,gg];lia
 have hj:sIx items.size items.size hi<=items.size:=Wq _ _ (fc _) hi;obtain ⟨os,hos,hcs,hds⟩:=id hs;have hTs:s.TypeIs (.ref sl) "slice":=⟨os,hos,hcs⟩
 unfold getItem;try with_reducible refine wpAny_holding ?_
 first | refine wpAny_bind (wpAny_pure ?_) | skip
 refine wpAny_bind (wpAny_sequenceKey ht.typeIs (by decide) ?_);refine wpAny_bind (wpAny_callSpecial?_slot (name:=Str.ofString "__getitem__") ht.typeIs PyProof.Rows.slot_tuple_getitem
  (wpAny_call_entry PyProof.Rows.slot_tuple_getitem ht.typeIs entry_tuple_getitem ?_ (args_tuple_getitem _ _)))
 show wpAny _ _ (Builtin.Tuple.tupleItemsOf (.ref t) >>= _) _ _ s
 refine wpAny_bind (tupleItemsOf_ ht ?_);refine wpAny_bind (wpAny_typeOf hTs ?_);rw [if_pos (by decide)];refine wpAny_bind (Gz hs pl pu ?_);have hno:¬ ((((sIx items.size 0 lo:Nat):Int) == 0 && (1:Int) == 1 && (sIx items.size items.size hi - sIx items.size 0 lo) == items.size)=true):=by
  intro q;rw [gE,gE] at q;have q1:((sIx items.size 0 lo:Nat):Int)=0:=eq_of_beq q.1.1;have q2:sIx items.size items.size hi - sIx items.size 0 lo=items.size:=eq_of_beq q.2;exact hw ⟨by lia,by lia⟩
 show wpAny _ _ (if (((sIx items.size 0 lo:Nat):Int) == 0 && (1:Int) == 1 && (sIx items.size items.size hi - sIx items.size 0 lo) == items.size)=true then _ else _) _ _ s
 rw [if_neg hno,R5];first
  | exact wpAny_bind (m:=Builtin.Tuple.tupleExact _) (wpAny_newObj_type (wpAny_pure ⟨_,rfl,wpAny_pure h⟩) htake)
  | exact wpAny_bind (m:=Builtin.Tuple.tupleExact _) (wpAny_newObj_type (wpAny_bind (wpAny_pure (wpAny_pure ⟨_,rfl,wpAny_pure h⟩))) htake)
  | exact wpAny_bind (wpAny_bind (m:=Builtin.Tuple.tupleExact _) (wpAny_newObj_type (wpAny_pure (wpAny_pure ⟨_,rfl,wpAny_pure h⟩)) htake))
  | exact wpAny_bind (wpAny_bind (m:=Builtin.Tuple.tupleExact _) (wpAny_newObj_type (wpAny_pure ⟨_,rfl,wpAny_pure h⟩) htake))
end
end HT
namespace L2
open PySem PySem.Spec PyProof.Rows
abbrev TO:=St->Hp->(Option Int->Hp->Prop)->Prop
def PO (X:Cx) (e:Option Expr) (t:TO):Prop:=
 ∀ ⦃pins:List (Addr × Obj)⦄ (s:Shared) (σ:St) (H:Hp) (Q:Option Int->Hp->Prop),As X pins σ H s->t σ H Q ->
  wpAny (model X.prog X.w) X.A (evalPart e X.env) (fun u s'=>∃ o H',As X pins σ H' s'/\IsPart u o/\Q o H') X.xe s
def En:TO:=fun _ H Q=>Q none H
def tPart (t:TE):TO:=fun σ H Q=>t σ H fun x H1=>∃ i,x=.int i/\Q (some i) H1
section
variable {X:Cx} {e:Expr} {te:TE} {lo hi:Option Expr} {tl th:TO} {pos p2:Pos}
theorem BD:PO X none En:=by
 intro pins s σ H Q I h;rw [evalPart_none];exact wpAny_pure ⟨none,H,I,.none,h⟩
theorem BC (h:PE X e te):PO X (some e) (tPart te):=by
 intro pins s σ H Q I hw;rw [evalPart_some];refine Bt (h (pins:=pins) s σ H _ I hw) fun u s1 ⟨x,H1,I1,r1,q1⟩=>?_
 obtain ⟨i,rfl,q⟩:=q1;obtain ⟨t,rfl⟩:=r1;exact ⟨some i,H1,I1,.int i t,q⟩
def SlR (X:Cx) (r:V->Option Int->Option Int->Hp->VK->Prop):Prop:=
 ∀ ⦃pins:List (Addr × Obj)⦄ (s:Shared) (σ:St) (H:Hp) (x:V) (v vl vu:Value) (lo hi:Option Int) (sl:Addr) (Q:VK),As X pins σ H s->AD x v->s.heap.IsSliceOf sl vl vu .none->IsPart vl lo->IsPart vu hi->r x lo hi H Q ->
  ∃ T id,typeLookup (.type T) "__getitem__"=pure (some (.builtin id))/\s.TypeIs v T/\wpAny (model X.prog X.w) X.A (getItem v (.ref sl)) (EP X pins σ Q) X.xe s
def tSl (r:V->Option Int->Option Int->Hp->VK->Prop) (te:TE) (tl th:TO):TE:=fun σ H Q=>te σ H fun x H1=>tl σ H1 fun l H2=>th σ H2 fun u H3=>r x l u H3 Q
theorem B4 {r:V->Option Int->Option Int->Hp->VK->Prop} (hr:SlR X r) (he:PE X e te) (hl:PO X lo tl) (hu:PO X hi th):PE X (.Subscript e (.Slice lo hi none p2) pos) (tSl r te tl th):=by
 intro pins s σ H Q I h;refine Subscript_ (Bt (he (pins:=pins) s σ H _ I h) fun v s1 ⟨x,H1,I1,r1,q1⟩=>?_);refine wpAny_Slice (Bt (hl (pins:=pins) s1 σ H1 _ I1 q1) fun vl s2 ⟨l,H2,I2,pl,q2⟩=>Bt (hu (pins:=pins) s2 σ H2 _ I2 q2) fun vu s3 ⟨u,H3,I3,pu,q3⟩=>?_);rw [evalPart_none];refine wpAny_pure ?_;have I4:As X pins σ H3 { s3 with heap:=s3.heap.push { cls:=.type "slice",data:=.fields #[vl,vu,.none] } }:=I3.kept (t':=s3.toks) fun b ob q=>eT _ q
 obtain ⟨T,id,hT,ht,hg⟩:=hr { s3 with heap:=s3.heap.push { cls:=.type "slice",data:=.fields #[vl,vu,.none] } } σ H3 x v vl vu l u s3.heap.objs.size Q I4 r1 (Heap.IsSliceOf.new ..) pl pu q3;show wpAny (model X.prog X.w) X.A (subscriptTail e (.Slice lo hi none p2) v (.ref s3.heap.objs.size)) (EP X pins σ Q) X.xe { s3 with heap:=s3.heap.push { cls:=.type "slice",data:=.fields #[vl,vu,.none] } }
 exact tail_any (ops:=[.ref s3.heap.objs.size,v]) ht hT hg (by with_unfolding_all rfl)
def HU (xs:List V) (lo hi:Option Int):List V:=(xs.drop (HT.sIx xs.length 0 lo)).take (HT.sIx xs.length xs.length hi - HT.sIx xs.length 0 lo)
theorem HE (xs:List V) (lo hi:Option Int):(HU xs lo hi).length<=xs.length:=by
 unfold HU;rw [fJ,gD];lia
def TF (K:eV):V->Option Int->Option Int->Hp->VK->Prop:=fun x lo hi H Q=>∃ a xs,x=.ref a/\Az K H a xs /\
 ¬ (HT.sIx xs.length 0 lo=0/\HT.sIx xs.length xs.length hi=xs.length)/\∀ p,H p=none->Q (.ref p) (upd H p (.tup (HU xs lo hi)))
theorem We:SlR X (TF X.K):=by
 intro pins s σ H x v vl vu lo hi sl Q I rx hs pl pu h;obtain ⟨a,xs,rfl,hx,hw,q⟩:=h;cases rx
 obtain ⟨Ar,r,ht,hz⟩:=I.tuple hx;have hlen:Ar.toArray.size=xs.length:=by rw [fu]; exact r.length.symm
 exists "tuple",_,PyProof.Rows.slot_tuple_getitem.lookup,ht.typeIs;refine HT.getItem_tuple_cut ht hs pl pu (by rw [hlen]; exact hw) ?_ (by rw [hlen]; exact hz);rw [hlen];refine ⟨.ref s.heap.objs.size,_,I.laid (t':=s.toks) (o:=.tup (HU xs lo hi)) (fun b ob q=>eT _ q) (fc _) ?_,rfl,q _ (I.hok.fresh (fc _))⟩;exact ⟨gc (HE xs lo hi) hz,_,(r.drop (HT.sIx xs.length 0 lo)).take (HT.sIx xs.length xs.length hi - HT.sIx xs.length 0 lo),IsTup.new _ _,L6.new rfl rfl⟩
def UZ (K:eV):R2:=fun x y H Q=>∃ a b xs ys,x=.ref a/\y=.ref b/\Az K H a xs/\Az K H b ys/\xs ≠ []/\xs.length + ys.length<=sizeLine /\
 (ys=[]->Q (.ref a) H)/\(ys ≠ []->∀ p,H p=none->Q (.ref p) (upd H p (.tup (xs ++ ys))))
theorem AB.nil_iff {xs:List V} {us:List Value} (r:AB xs us):us=[] ↔ xs=[]:=by
 cases r with
 | nil=>simp
 | cons _ _=>simp
theorem TV:EC X (binaryOp .Add) (UZ X.K):=by
 intro pins s σ H x y v u Q I rx ry h;obtain ⟨a,b,xs,ys,rfl,rfl,ha,hb,hx,hz,q1,q2⟩:=h;cases rx
 cases ry
 obtain ⟨Ar,r1,p1,_⟩:=I.tuple ha;obtain ⟨JJ,r2,p2,_⟩:=I.tuple hb;refine HT.cat_tup p1 p2 (fun z=>hx (r1.nil_iff.mp z)) (fun z=>⟨.ref a,H,I,rfl,q1 (r2.nil_iff.mp z)⟩) (fun z=>?_) (by rw [<-r1.length,<-r2.length]; exact hz);refine ⟨.ref s.heap.objs.size,_,I.laid (t':=s.toks) (o:=.tup (xs ++ ys)) (fun b ob q=>eT _ q) (fc _) ?_,rfl,q2 (fun w=>z (r2.nil_iff.mpr w)) _ (I.hok.fresh (fc _))⟩;exact ⟨by rw [eY]; exact hz,_,r1.append r2,IsTup.new _ _,L6.new rfl rfl⟩
end
def Vh (n:Nat) (i:Int):Option Nat:=if 0<=i then (if i < n then some i.toNat else none) else if -(n:Int)<=i then some (i + n).toNat else none
def Gu {α:Type} (xs:List α) (i:Int):Option α:=(Vh xs.length i).bind fun j=>xs[j]?
theorem OC {n:Nat} {i:Int} {j:Nat} (h:Vh n i=some j):seqIndex? i n=some j/\j < n/\-(n:Int)<=i/\i < n:=by
 unfold Vh at h;by_cases h0:0<=i
 ·rw [if_pos h0] at h;by_cases h1:i < n
  ·rw [if_pos h1] at h;have e:i.toNat=j:=fV.inj h;exact ⟨by rw [seqIndex_of h0 h1,e],by lia,by lia,h1⟩
  ·rw [if_neg h1] at h; cases h
 ·rw [if_neg h0] at h;by_cases h1:-(n:Int)<=i
  ·rw [if_pos h1] at h;have e:(i + n).toNat=j:=fV.inj h;exact ⟨by rw [seqIndex_neg (by lia) h1,e],by lia,h1,by lia⟩
  ·rw [if_neg h1] at h; cases h
theorem Ik {α:Type} {xs:List α} {i:Int} {v:α} (h:Gu xs i=some v):∃ j,seqIndex? i xs.length=some j/\xs[j]? = some v/\j < xs.length/\-(xs.length:Int)<=i/\i < xs.length:=by
 unfold Gu at h;cases e:Vh xs.length i with
 | none=>rw [e] at h; cases h
 | some j=>
  rw [e] at h;obtain ⟨h1,h2,h3,h4⟩:=OC e;exact ⟨j,h1,h,h2,h3,h4⟩
theorem BF {α:Type} {xs:List α} {j:Nat} {v:α} (h:xs[j]? = some v):Gu xs (j:Int)=some v:=by
 have hj:j < xs.length:=(fh.mp h).1;have e:Vh xs.length (j:Int)=some j:=by
  unfold Vh;rw [if_pos (by lia),if_pos (by lia)]; simp
 unfold Gu; rw [e]; exact h
def UB (b:Expr):Prop:=∀ o i,subscripted b false o i=operate [o,i] (getItem o i)
def Yt (X:Cx) (r:R2):Prop:=
 ∀ (value slice:Expr) (pins:List (Addr × Obj)) (s:Shared) (σ:St) (H:Hp) (x y:V) (v u:Value) (Q:VK),As X pins σ H s->AD x v->AD y u->r x y H Q ->
  subscripted slice false v u=operate [v,u] (getItem v u)->wpAny (model X.prog X.w) X.A (subscriptTail value slice v u) (EP X pins σ Q) X.xe s
def MtR (X:Cx) (id:String) (r:V->List V->Hp->VK->Prop):Prop:=
 ∀ ⦃pins:List (Addr × Obj)⦄ (s:Shared) (σ:St) (H:Hp) (x:V) (xs:List V) (v:Value) (us:List Value) (Q:VK),As X pins σ H s->AD x v->AB xs us->r x xs H Q ->
  wpAny (model X.prog X.w) X.A (call (.builtin id) (v :: us)) (EP X pins σ Q) X.xe s
section
variable {X:Cx} {a b:Expr} {ta tb:TE} {pos:Pos}
theorem A3 {r:R2} (hr:Yt X r) (ha:PE X a ta) (hb:PE X b tb) (hs:UB b):PE X (.Subscript a b pos) (tOp r ta tb):=by
 intro pins s σ H Q I h;exact Subscript_ (Xo ha hb I h fun v u s2 x y H2 I2 rx ry q=>hr a b (pins:=pins) s2 σ H2 x y v u Q I2 rx ry q (hs _ _))
def rIxL (K:eV):R2:=fun x y H Q=>∃ p xs i v,x=.ref p/\y=.int i/\Ba K H p xs/\Gu xs i=some v/\Q v H
def rIxT (K:eV):R2:=fun x y H Q=>∃ p xs i v,x=.ref p/\y=.int i/\Az K H p xs/\Gu xs i=some v/\Q v H
def rIxS:R2:=fun x y H Q=>∃ z i c,x=.str z/\y=.int i/\z.length<=sizeLine/\Gu z.cps.toList i=some c/\Q (.str ⟨#[c]⟩) H
theorem Bu:Yt X (rIxL X.K):=by
 intro value slice pins s σ H x y v u Q I rx ry h hs;obtain ⟨p,xs,i,z,rfl,rfl,hq,he,q⟩:=h;cases rx
 obtain ⟨t,rfl⟩:=ry;obtain ⟨Ar,r,pl,hz⟩:=I.list hq;obtain ⟨j,h1,h2,h3,h4,h5⟩:=Ik he;obtain ⟨w,ew,Rt⟩:=r.get h2;have hl:=r.length;have hn:=F5;have fin:EP X pins σ Q w s:=⟨z,H,I,Rt,q⟩
 by_cases h0:0<=i
 ·have hj:i.toNat=j:=by
   rw [seqIndex_of h0 h5] at h1;exact fV.inj h1
  exact item_listR pl.isList h0 (by lia) (by rw [hj]; simpa using ew) fin hs
 ·have hj:(i + (Ar.toArray.size:Int)).toNat=j:=by
   rw [seqIndex_neg (by lia) h4] at h1;rw [fu,<-hl];exact fV.inj h1
  exact subscriptTail_builtinR (x:=w) pl.isList.typeIs slot_list_getitem.lookup
   (wpAny_getItem_list_neg (Q:=fun r s'=>r=w/\EP X pins σ Q r s') pl.isList (by lia) (by rw [fu] <;> lia) (by lia) (by rw [hj]; simpa using ew) ⟨rfl,fin⟩) hs
theorem F6:Yt X (rIxT X.K):=by
 intro value slice pins s σ H x y v u Q I rx ry h hs;obtain ⟨p,xs,i,z,rfl,rfl,hq,he,q⟩:=h;cases rx
 obtain ⟨t,rfl⟩:=ry;obtain ⟨Ar,r,pl,hz⟩:=I.tuple hq;obtain ⟨j,h1,h2,h3,h4,h5⟩:=Ik he;obtain ⟨w,ew,Rt⟩:=r.get h2;have hl:=r.length;have hn:=F5;have fin:EP X pins σ Q w s:=⟨z,H,I,Rt,q⟩
 exact subscriptTail_builtinR (x:=w) pl.typeIs slot_tuple_getitem.lookup
  (getItem_tuple (j:=j) (Q:=fun r s'=>r=w/\EP X pins σ Q r s') pl (by lia) (by lia) (by rw [fu,<-hl]; exact h1) (by simpa using ew) ⟨rfl,fin⟩) hs
theorem RZ:Yt X rIxS:=by
 intro value slice pins s σ H x y v u Q I rx ry h hs;obtain ⟨z,i,c,rfl,rfl,hz,he,q⟩:=h;obtain ⟨t,rfl⟩:=rx;obtain ⟨t',rfl⟩:=ry;obtain ⟨j,h1,h2,h3,h4,h5⟩:=Ik he;have hl:z.cps.toList.length=z.length:=by simp [Str.length]
 rw [hl] at h1 h4 h5;have hn:=F5;exact tail_any (typeIs_str s z t) slot_str_getitem.lookup (getItem_str (c:=c) (by
  have e1:decide (i < -(2 ^ 63:Int))=false:=decide_eq_false (by lia);have e2:decide (i >= 2 ^ 63)=false:=decide_eq_false (by lia);rw [e1,e2,kZ]) (by rw [h1]; simpa using h2) ⟨.str ⟨#[c]⟩,H,I.tok _,⟨_,rfl⟩,q⟩) hs
theorem Nw (Ar:List Value) (n j:Nat) (u:Value):Obj.mapSeq (·.setIfInBounds j u) { cls:=.type "list",data:=.seq Ar.toArray n } = { cls:=.type "list",data:=.seq (Ar.set j u).toArray n }:=by
 simp [Obj.mapSeq]
theorem As.lst {pins:List (Addr × Obj)} {σ:St} {H:Hp} {s:Shared} {p:Addr} {xs:List V} (I:As X pins σ H s) (h:H p=some (.lst xs)) :
  ∃ (Ar:List Value) (n:Nat),AB xs Ar/\s.heap.get? p=some { cls:=.type "list",data:=.seq Ar.toArray n }/\xs.length<=sizeLine:=by
 obtain ⟨z,Ar,n,r,e⟩:=I.hok p _ h;exact ⟨Ar,n,r,e,z⟩
theorem As.lstUpd {pins:List (Addr × Obj)} {σ:St} {H:Hp} {s:Shared} {p:Addr} {xs ys:List V} {Ar its':List Value} {n n':Nat} {f:Obj->Obj} (I:As X pins σ H s) (h:H p=some (.lst xs))
  (ho:s.heap.get? p=some { cls:=.type "list",data:=.seq Ar.toArray n }) (hf:f { cls:=.type "list",data:=.seq Ar.toArray n } = { cls:=.type "list",data:=.seq its'.toArray n' }) (r:AB ys its') (hz:ys.length<=sizeLine) (t:Nat) :
  As X pins σ (upd H p (.lst ys)) { s with heap:=s.heap.update p f,toks:=t }:=by
 have e:(s.heap.update p f).get? p=some { cls:=.type "list",data:=.seq its'.toArray n' }:=by
  rw [gA f ho (by rw [hf] <;> rfl),hf]
 refine I.write (x:=p) (e:=p) (by rw [h]; trivial) (.inl rfl) (fun b u hb q=>(g8 _ _ (Ne.symm hb)).trans q) ⟨_,e⟩ ?_;exact ⟨hz,its',n',r,e⟩
def rSetL:V->V->V->Hp->(Hp->Prop)->Prop:=fun o i v H Q=>∃ p xs k j,o=.ref p/\i=.int k/\H p=some (.lst xs)/\Vh xs.length k=some j/\Q (upd H p (.lst (xs.set j v)))
theorem Iy:PSet X rSetL:=by
 intro pins s σ H o i v ov iv u Q I ro ri rv h;obtain ⟨p,xs,k,j,rfl,rfl,hp,hj,q⟩:=h;cases ro
 obtain ⟨t,rfl⟩:=ri;obtain ⟨Ar,n,r,ho,hz⟩:=I.lst hp;obtain ⟨h1,h2,h3,h4⟩:=OC hj;have hl:=r.length;have hn:=F5;have I':As X pins σ (upd H p (.lst (xs.set j v))) { s with heap:=s.heap.update p (Obj.mapSeq (·.setIfInBounds j u)) }:=
  I.lstUpd hp ho (Nw Ar n j u) (r.set rv j) (by rw [List.length_set]; exact hz) s.toks
 by_cases h0:0<=k
 ·have hk:k.toNat=j:=by
   rw [seqIndex_of h0 h4] at h1;exact fV.inj h1
  exact PySem.W.ki_setAt ho h0 (by lia) (by rw [fu,<-hl]; exact h4) (by rw [hk]; exact ⟨_,I',q⟩)
 ·have hk:(k + (Ar.toArray.size:Int)).toNat=j:=by
   rw [seqIndex_neg (by lia) h3] at h1;rw [fu,<-hl];exact fV.inj h1
  exact PySem.W.ki_setBack ho (by lia) (by rw [fu,<-hl]; exact h3) (by lia) (by rw [hk]; exact ⟨_,I',q⟩)
theorem KJ (lo hi:Option Int) (n:Nat):(sliceBounds lo hi none n).1=((HT.sIx n 0 lo:Nat):Int)/\(sliceBounds lo hi none n).2.1=((HT.sIx n n hi:Nat):Int)/\(sliceBounds lo hi none n).2.2=1:=by
 refine ⟨?_,?_,rfl⟩
 ·cases lo with
  | none=>simp [sliceBounds,HT.sIx]
  | some i=>
   simp only [sliceBounds,HT.sIx,kB,show (1:Int) > 0 by decide,if_true];by_cases h:i < 0
   ·simp only [h,if_true] <;> lia
   ·simp only [h,if_false] <;> lia
 ·cases hi with
  | none=>simp [sliceBounds,HT.sIx]
  | some i=>
   simp only [sliceBounds,HT.sIx,kB,show (1:Int) > 0 by decide,if_true];by_cases h:i < 0
   ·simp only [h,if_true] <;> lia
   ·simp only [h,if_false] <;> lia
theorem JA (Ar:List Value) (lo hi:Option Int):slicePick Ar.toArray lo hi none=((Ar.drop (HT.sIx Ar.length 0 lo)).take (HT.sIx Ar.length Ar.length hi - HT.sIx Ar.length 0 lo)).toArray:=by
 obtain ⟨h1,h2,h3⟩:=KJ lo hi Ar.toArray.size;unfold slicePick;rw [h1,h2,h3];simp only [sliceRange_one,pick_run,fu] <;> rfl
def rSlL (K:eV):V->Option Int->Option Int->Hp->VK->Prop:=fun x lo hi H Q=>∃ a xs,x=.ref a/\Ba K H a xs/\∀ p,H p=none->Q (.ref p) (upd H p (.lst (HU xs lo hi)))
theorem Tv:SlR X (rSlL X.K):=by
 intro pins s σ H x v vl vu lo hi sl Q I rx hs pl pu h;obtain ⟨a,xs,rfl,hx,q⟩:=h;cases rx
 obtain ⟨Ar,r,ht,hz⟩:=I.list hx;have hlen:=r.length;exists "list",_,slot_list_getitem.lookup,ht.isList.typeIs;refine wpAny_getItem_list_slice ht.isList hs pl pu .none (by simp) ?_ (by rw [fu] <;> lia);rw [JA,<-hlen];refine ⟨.ref s.heap.objs.size,_,I.laid (t':=s.toks) (o:=.lst (HU xs lo hi)) (fun b ob q=>eT _ q) (fc _) ?_,rfl,q _ (I.hok.fresh (fc _))⟩;exact ⟨gc (HE xs lo hi) hz,_,0,(r.drop (HT.sIx xs.length 0 lo)).take (HT.sIx xs.length xs.length hi - HT.sIx xs.length 0 lo),fe _ rfl⟩
def E9:V->Bool
 | .non=>true
 | .bl _=>true
 | .int _=>true
 | .str _=>true
 | _=>false
def Tc:V->V->Bool
 | .non,.non=>true
 | .bl a,.bl b=>a == b
 | .bl a,.int b=>(if a then 1 else 0) == b
 | .int a,.bl b=>a == (if b then 1 else 0)
 | .int a,.int b=>a == b
 | .str a,.str b=>a == b
 | _,_=>false
theorem Xk {A:Around} {s:Shared} {y x:V} {u v:Value} (ry:AD y u) (rx:AD x v) (fy:E9 y=true) (fx:E9 x=true):SeqAt.EqAt A s u v (Tc y x):=by
 cases y with
 | non=>
  cases ry
  cases x with
  | non=>cases rx; exact SeqAt.EqAt.same _
  | bl b=>cases rx; exact SeqAt.EqAt.none_bool b
  | int b=>obtain ⟨t,rfl⟩:=rx; exact SeqAt.EqAt.none_int b t
  | str b=>obtain ⟨t,rfl⟩:=rx; exact SeqAt.EqAt.none_str b t
  | _=>exact absurd (show false=true from fx) fH
 | bl a=>
  cases ry
  cases x with
  | non=>cases rx; exact SeqAt.EqAt.bool_none a
  | bl b=>cases rx; exact SeqAt.EqAt.bool_bool a b
  | int b=>obtain ⟨t,rfl⟩:=rx; exact SeqAt.EqAt.bool_int a b t
  | str b=>obtain ⟨t,rfl⟩:=rx; exact SeqAt.EqAt.bool_str a b t
  | _=>exact absurd (show false=true from fx) fH
 | int a=>
  obtain ⟨t',rfl⟩:=ry;cases x with
  | non=>cases rx; exact SeqAt.EqAt.int_none a t'
  | bl b=>cases rx; exact SeqAt.EqAt.int_bool a t' b
  | int b=>obtain ⟨t,rfl⟩:=rx; exact SeqAt.EqAt.int_int a t' b t
  | str b=>obtain ⟨t,rfl⟩:=rx; exact SeqAt.EqAt.int_str a t' b t
  | _=>exact absurd (show false=true from fx) fH
 | str a=>
  obtain ⟨t',rfl⟩:=ry;cases x with
  | non=>cases rx; exact SeqAt.EqAt.str_none a t'
  | bl b=>cases rx; exact SeqAt.EqAt.str_bool a t' b
  | int b=>obtain ⟨t,rfl⟩:=rx; exact SeqAt.EqAt.str_int a t' b t
  | str b=>obtain ⟨t,rfl⟩:=rx; exact SeqAt.EqAt.str_str a t' b t
  | _=>exact absurd (show false=true from fx) fH
 | _=>exact absurd (show false=true from fy) fH
def NC (x:V) (u:Value):Bool:=match u with
 | .none=>Tc .non x
 | .bool b=>Tc (.bl b) x
 | .int i _=>Tc (.int i) x
 | .str z _=>Tc (.str z) x
 | _=>false
theorem S3 {x y:V} {u:Value} (r:AD y u) (f:E9 y=true):NC x u=Tc y x:=by
 cases y with
 | non=>cases r; rfl
 | bl b=>cases r; rfl
 | int i=>obtain ⟨t,rfl⟩:=r; rfl
 | str z=>obtain ⟨t,rfl⟩:=r; rfl
 | _=>exact absurd (show false=true from f) fH
theorem Gj {x:V}:∀ {xs:List V} {us:List Value},AB xs us->xs.all E9=true->us.any (NC x)=xs.any fun y=>Tc y x
 | _,_,.nil,_=>rfl
 | y :: xs,u :: us,.cons r t,f=>by
  rw [iS,gE] at f;rw [iD,iD,S3 r f.1,Gj t f.2]
theorem ES {A:Around} {s:Shared} {x:V} {v:Value} (rx:AD x v) (fx:E9 x=true):∀ {xs:List V} {us:List Value},AB xs us->xs.all E9=true->∀ u ∈ us,SeqAt.EqAt A s u v (NC x u)
 | _,_,.nil,_=>fun u hu=>by cases hu
 | y :: xs,u :: us,.cons r t,f=>fun u' hu=>by
  rw [iS,gE] at f;rcases eX.mp hu with rfl | hu
  ·rw [S3 r f.1]; exact Xk r rx f.1 fx
  ·exact ES rx fx t f.2 u' hu
def Vi (x:V) (xs:List V):Bool:=xs.any fun y=>Tc y x
def rIn (K:eV) (neg:Bool):R2:=fun x y H Q=>∃ p xs,y=.ref p/\(Ba K H p xs\/Az K H p xs)/\E9 x=true/\xs.all E9=true/\Q (.bl (if neg then !Vi x xs else Vi x xs)) H
theorem Km:EC X (compareOp .In) (rIn X.K false):=by
 intro pins s σ H x y v u Q I rx ry h;obtain ⟨p,xs,rfl,hq,fx,fs,q⟩:=h;cases ry
 rcases hq with hq | hq
 ·obtain ⟨Ar,r,pl,hz⟩:=I.list hq;refine SeqAt.in_listAt (NC x) pl.isList (fun w hw=>ES rx fx r fs w (by simpa using hw)) ⟨.bl _,H,I,rfl,?_⟩;rw [show Ar.toArray.any (NC x)=Ar.any (NC x) by simp,Gj r fs];exact q
 ·obtain ⟨Ar,r,pl,hz⟩:=I.tuple hq;refine SeqAt.in_tupleAt (NC x) pl (fun w hw=>ES rx fx r fs w (by simpa using hw)) ⟨.bl _,H,I,rfl,?_⟩;rw [show Ar.toArray.any (NC x)=Ar.any (NC x) by simp,Gj r fs];exact q
theorem Lc:EC X (compareOp .NotIn) (rIn X.K true):=by
 intro pins s σ H x y v u Q I rx ry h;obtain ⟨p,xs,rfl,hq,fx,fs,q⟩:=h;cases ry
 rcases hq with hq | hq
 ·obtain ⟨Ar,r,pl,hz⟩:=I.list hq;refine SeqAt.notIn_listAt (NC x) pl.isList (fun w hw=>ES rx fx r fs w (by simpa using hw)) ⟨.bl _,H,I,rfl,?_⟩;rw [show Ar.toArray.any (NC x)=Ar.any (NC x) by simp,Gj r fs];exact q
 ·obtain ⟨Ar,r,pl,hz⟩:=I.tuple hq;refine SeqAt.notIn_tupleAt (NC x) pl (fun w hw=>ES rx fx r fs w (by simpa using hw)) ⟨.bl _,H,I,rfl,?_⟩;rw [show Ar.toArray.any (NC x)=Ar.any (NC x) by simp,Gj r fs];exact q
theorem Bp:Bv X (.builtin "len") (fun xs H Q=>∃ p ys,xs=[.ref p]/\(Ba X.K H p ys\/Az X.K H p ys)/\Q (.int ys.length) H):=by
 intro pins s σ H xs us Q I r h;obtain ⟨p,ys,rfl,hq,q⟩:=h;obtain ⟨u,rfl,rx⟩:=Cq r;cases rx
 have hn:=F5;rcases hq with hq | hq
 ·obtain ⟨Ar,r',pl,hz⟩:=I.list hq;have hlen:=r'.length;exact Calls.call_len_list pl.isList (by simp only [fu] <;> lia) ⟨.int ys.length,H,I.tok _,⟨s.toks + 1,by rw [fu,hlen]⟩,q⟩
 ·obtain ⟨Ar,r',pl,hz⟩:=I.tuple hq;have hlen:=r'.length;exact len_tuple pl (by simp only [fu] <;> lia) ⟨.int ys.length,H,I.tok _,⟨s.toks + 1,by rw [fu,hlen]⟩,q⟩
theorem Gi:Bv X (.builtin "len") (fun xs H Q=>∃ z,xs=[.str z]/\z.length<=sizeLine/\Q (.int z.length) H):=by
 intro pins s σ H xs us Q I r h;obtain ⟨z,rfl,hz,q⟩:=h;obtain ⟨u,rfl,t,rfl⟩:=Cq r;have hn:=F5;exact len_str (by lia) ⟨.int z.length,H,I.tok _,⟨_,rfl⟩,q⟩
theorem Lz:Bv X (.type "list") (fun xs H Q=>∃ p ys,xs=[.ref p]/\(Ba X.K H p ys\/Az X.K H p ys)/\∀ l,H l=none->Q (.ref l) (upd H l (.lst ys))):=by
 intro pins s σ H xs us Q I r h;obtain ⟨p,ys,rfl,hq,q⟩:=h;obtain ⟨u,rfl,rx⟩:=Cq r;cases rx
 have fin:∀ (Ar:List Value),AB ys Ar->ys.length<=sizeLine->∀ (h':Heap) (c':Nat),(∀ b o',s.heap.get? b=some o'->h'.get? b=some o') ->
   h'.get? s.heap.objs.size=some { cls:=.type "list",dict:=none,data:=.seq Ar.toArray c',slots:=#[] }->EP X pins σ Q (.ref s.heap.objs.size) { s with heap:=h' }:=fun Ar r' hz h' c' kp e=>
  ⟨.ref s.heap.objs.size,_,I.laid (t':=s.toks) kp (fc _) (show AL X.prog X.w _ h' _ (.lst ys) from ⟨hz,Ar,c',r',e⟩),rfl,q _ (I.hok.fresh (fc _))⟩
 rcases hq with hq | hq
 ·obtain ⟨Ar,r',pl,hz⟩:=I.list hq;have hlen:=r'.length;obtain ⟨o,ho,hc,n,hd⟩:=pl.isList;exact call_list_seq p (.inl rfl) ho hc hd (fun h' c' kp e=>fin Ar r' hz h' c' kp e) (by simp only [fu] <;> lia)
 ·obtain ⟨Ar,r',pl,hz⟩:=I.tuple hq;have hlen:=r'.length;obtain ⟨o,ho,hc,n,hd⟩:=pl;exact call_list_seq p (.inr rfl) ho hc hd (fun h' c' kp e=>fin Ar r' hz h' c' kp e) (by simp only [fu] <;> lia)
theorem Fz:Bv X (.type "tuple") (fun xs H Q=>∃ p ys,xs=[.ref p]/\((Ba X.K H p ys/\∀ l,H l=none->Q (.ref l) (upd H l (.tup ys)))\/(Az X.K H p ys/\Q (.ref p) H))):=by
 intro pins s σ H xs us Q I r h;obtain ⟨p,ys,rfl,h⟩:=h;obtain ⟨u,rfl,rx⟩:=Cq r;cases rx
 rcases h with ⟨hq,q⟩ | ⟨hq,q⟩
 ·obtain ⟨Ar,r',pl,hz⟩:=I.list hq;have hlen:=r'.length;refine call_tuple_list pl.isList (fun h' kp=>?_) (by simp only [fu] <;> lia);have I1:As X pins σ H { s with heap:=h' }:=I.kept (t':=s.toks) kp;have I2:As X pins σ (upd H h'.objs.size (.tup ys)) { s with heap:=h'.push { cls:=.type "tuple",data:=.seq Ar.toArray } }:=
   I1.laid (t':=s.toks) (fun b o e=>eT _ e) (fc _) (show AL X.prog X.w _ _ _ (.tup ys) from ⟨hz,Ar,r',IsTup.new _ _,L6.new rfl rfl⟩)
  exact ⟨.ref h'.objs.size,_,I2,rfl,q _ (I1.hok.fresh (fc _))⟩
 ·obtain ⟨Ar,r',pl,hz⟩:=I.tuple hq;exact call_tuple_same pl ⟨.ref p,H,I,rfl,q⟩
def tyV (K:eV) (T:String) (x:V) (H:Hp):Prop:=match x with
 | .str _=>T="str"
 | .int _=>T="int"
 | .ref p=>(T="list"/\∃ xs,Ba K H p xs)\/(T="tuple"/\∃ o,K.lookup p=some o/\o.cls=.type "tuple"/\o.dict=none) \/
   (T="dict"/\((∃ kvs,H p=some (.dK kvs))\/∃ kvs,H p=some (.dT kvs)))\/(T="set"/\∃ S n,H p=some (.set S n))
 | _=>False
theorem VQ {pins:List (Addr × Obj)} {σ:St} {H:Hp} {s:Shared} {T:String} {x:V} {v:Value} (I:As X pins σ H s) (r:AD x v) (ty:tyV X.K T x H) :
  s.TypeIs v T/\∀ a,v=.ref a->∃ ob,s.heap.get? a=some ob/\ob.dict=none:=by
 cases x with
 | str z=>
  obtain ⟨t,rfl⟩:=r;cases (show T="str" from ty)
  exact ⟨typeIs_str s z t,fun _ e=>nomatch e⟩
 | int i=>
  obtain ⟨t,rfl⟩:=r;cases (show T="int" from ty)
  exact ⟨typeIs_int s i t,fun _ e=>nomatch e⟩
 | ref p=>
  cases r
  rcases ty with ⟨rfl,xs,hq⟩ | ⟨rfl,o,hk,hc,hd⟩ | ⟨rfl,hk⟩ | ⟨rfl,S,n,hk⟩
  ·obtain ⟨Ar,_,pl,_⟩:=I.list hq;refine ⟨pl.isList.typeIs,fun a e=>?_⟩;cases e
   obtain ⟨o,n,e,c,hd,_⟩:=pl;exact ⟨o,e,hd⟩
  ·refine ⟨⟨o,I.kIn p o hk,hc⟩,fun a e=>?_⟩;cases e
   exact ⟨o,I.kIn _ o hk,hd⟩
  ·have z:∃ o,s.heap.get? p=some o/\o.ExactDict:=by
    rcases hk with ⟨kvs,hk⟩ | ⟨kvs,hk⟩
    ·obtain ⟨_,_,_,_,o,_,_,e,ex,_⟩:=I.hok p _ hk;exact ⟨o,e,ex⟩
    ·obtain ⟨_,_,_,_,o,_,_,e,ex,_⟩:=I.hok p _ hk;exact ⟨o,e,ex⟩
   obtain ⟨o,e,ex⟩:=z;refine ⟨⟨o,e,ex.1⟩,fun a e2=>?_⟩;cases e2
   exact ⟨o,e,ex.2.1⟩
  ·obtain ⟨o,_,_,_,e,ex,_⟩:=I.hok p _ hk;refine ⟨⟨o,e,ex.1⟩,fun a e2=>?_⟩;cases e2
   exact ⟨o,e,ex.2.1⟩
 | _=>exact False.elim ty
def tBM (K:eV) (T:String) (r:V->List V->Hp->VK->Prop) (to:TE) (t:TA):TE:=fun σ H Q=>to σ H fun x H1=>tyV K T x H1/\t σ H1 fun xs H2=>r x xs H2 Q
variable {o e:Expr} {es:List Expr} {to:TE} {t:TA} {name:Str} {apos FA:Pos} {T id:String} {r:V->List V->Hp->VK->Prop}
theorem Ea (pa:PlainAttrs T) (slot:Slot T name id) (hty:typeOf (.builtin id)=pure (.type "method_descriptor")) (hm:MtR X id r) (ho:PE X o to) (ha:PA X (e :: es) t)
  (hbase:attributeBase o name X.env (eval o X.env)=eval o X.env:=by rfl)
  (hfew:((backTo FA (starEach (e :: es) X.env)).all (fun x=>!x.1) && (backToKw FA (keywordEach [] X.env)).all (fun x=>x.1.isSome)
   && decide ((e :: es).length + ([]:List Keyword).length + (if ([]:List Keyword).isEmpty then 0 else 1) < 30))=true:=by rfl)
  (hline:(apos.endLine == FA.line)=true:=by rfl) (hs:starEach (e :: es) X.env=(false,eval e X.env) :: starEach es X.env:=by rfl) (hplain:(backTo FA (starEach es X.env)).any (·.1)=false:=by rfl) :
  PE X (.Call (.Attribute o name apos) (e :: es) [] FA) (tBM X.K T r to t):=by
 intro pins s σ H Q I h;refine wpAny_Call_method_late hbase hfew hline rfl (Bt (ho (pins:=pins) s σ H _ I h) fun v s1 ⟨x,H1,I1,r1,ty,q1⟩=>?_);obtain ⟨h1,h2⟩:=VQ I1 r1 ty;exists T,id,pa,slot,hty,h1,h2;have hA:=ha (pos:=FA) (pins:=pins) s1 σ H1 _ I1 q1;rw [hs] at hA ⊢;refine Calls.callWith_builtin (by show (false || (backTo FA (starEach es X.env)).any (·.1))=false; rw [hplain] <;> rfl) (Calls.evalArgs_plain ?_);exact Bt hA fun us s2 ⟨vs,H2,I2,r2,q2⟩=>hm (pins:=pins) s2 σ H2 x vs v us Q I2 r1 r2 q2
end
def MtM (X:Cx) (id:String) (r:V->List V->Hp->VK->Prop):Prop:=
 ∀ ⦃pins:List (Addr × Obj)⦄ (s:Shared) (σ:St) (H:Hp) (x:V) (xs:List V) (v:Value) (us:List Value) (Q:VK),As X pins σ H s->AD x v->AB xs us->r x xs H Q ->
  wpAny (model X.prog X.w) X.A (call (.builtin id) (v :: us)) (EP X pins σ Q) X.xe s
theorem AB.one:∀ {x:V} {us:List Value},AB [x] us->∃ u,us=[u]/\AD x u
 | _,_,.cons r .nil=>⟨_,rfl,r⟩
section
variable {X:Cx} {pins:List (Addr × Obj)} {σ:St} {H:Hp} {s:Shared} {l b:Addr} {xs ys zs:List V}
theorem As.lset {Ar its':List Value} {n:Nat} {f:Array Value->Array Value} {t':Nat} (I:As X pins σ H s) (hH:H l=some (.lst xs))
  (e:s.heap.get? l=some { cls:=.type "list",data:=.seq Ar.toArray n }) (hf:f Ar.toArray=its'.toArray) (hv:AB ys its') (hz:ys.length<=sizeLine) :
  As X pins σ (upd H l (.lst ys)) { s with heap:=s.heap.update l (Obj.mapSeq f),toks:=t' }:=by
 have q:=PySem.IsL.update e f;rw [hf] at q;refine I.write (x:=l) (e:=l) (by rw [hH]; exact trivial) (.inl rfl) (fun b' u hb hu=>(g8 s.heap (Obj.mapSeq f) (Ne.symm hb)).trans hu) ⟨_,q⟩ ?_;exact ⟨hz,its',_,hv,q⟩
theorem As.lnew {Ar:List Value} {t':Nat} (I:As X pins σ H s) (hv:AB ys Ar) (hz:ys.length<=sizeLine) :
  As X pins σ (upd H s.heap.objs.size (.lst ys)) { s with heap:=s.heap.push { cls:=.type "list",data:=.seq Ar.toArray },toks:=t' }:=
 I.laid (fun _ _ q=>eT _ q) (fc _) ⟨hz,Ar,0,hv,fe _ rfl⟩
theorem As.fresh (I:As X pins σ H s):H s.heap.objs.size=none:=I.hok.fresh (fc _)
theorem As.lstM (I:As X pins σ H s) (hH:H l=some (.lst xs)):xs.length<=sizeLine/\∃ (Ar:List Value) (n:Nat),AB xs Ar/\xs.length=Ar.length/\s.heap.get? l=some { cls:=.type "list",data:=.seq Ar.toArray n }:=by
 obtain ⟨z,Ar,n,r,e⟩:=I.hok l _ hH;exact ⟨z,Ar,n,r,r.length,e⟩
end
section
variable {X:Cx}
def TH:V->List V->Hp->VK->Prop:=fun x vs H Q=>∃ l xs y,x=.ref l/\vs=[y]/\H l=some (.lst xs)/\xs.length < sizeLine/\Q .non (upd H l (.lst (xs ++ [y])))
theorem Bj:MtM X "list.append" TH:=by
 intro pins s σ H x vs v us Q I rx rv h;obtain ⟨l,xs,y,rfl,rfl,hH,hz,q⟩:=h;cases rx
 obtain ⟨u,rfl,ru⟩:=rv.one;obtain ⟨z,Ar,n,r,hl,e⟩:=I.lstM hH;refine call_meets F.slot_list_append ⟨_,e,rfl⟩ F.entry_list_append (F.args_list_append_2 _ _) (PySem.list_append l Ar.toArray n u (by rw [fu]; lia)) ⟨e,?_⟩;refine ⟨.non,_,I.lset (its':=Ar ++ [u]) hH e (by simp) (r.append (.cons ru .nil)) ?_,rfl,q⟩;rw [eY,jh];lia
def rCat:R2:=fun x y H Q=>∃ l b xs zs,x=.ref l/\y=.ref b/\H l=some (.lst xs)/\H b=some (.lst zs)/\xs.length + zs.length<=sizeLine/\∀ p,H p=none->Q (.ref p) (upd H p (.lst (xs ++ zs)))
theorem G7:EC X (binaryOp .Add) rCat:=by
 intro pins s σ H x y v u Q I rx ry h;obtain ⟨l,b,xs,zs,rfl,rfl,hH,hB,hz,q⟩:=h;cases rx
 cases ry
 obtain ⟨z,Ar,n,r,hl,e⟩:=I.lstM hH;obtain ⟨z2,JJ,n2,r2,Jz,e2⟩:=I.lstM hB;refine PySem.P.add_list e e2 ?_ (by rw [fu,fu]; lia);have ea:Ar.toArray ++ JJ.toArray=(Ar ++ JJ).toArray:=by simp
 rw [ea];exact ⟨.ref _,_,I.lnew (t':=s.toks) (r.append r2) (by rw [eY]; lia),rfl,q _ I.fresh⟩
end
section
variable {prog:Program} {w:World} {A:Around} {E:Value->Shared->Prop} {s:Shared}
set_option maxRecDepth 100000 in
end
section
variable {X:Cx}
end
section
variable {κ:Type} [DecidableEq κ]
def Bz (kvs:List (κ × V)) (k:κ):Option V:=(kvs.find? fun kv=>decide (kv.1=k)).map (·.2)
def BJ (kvs:List (κ × V)) (k:κ) (v:V):List (κ × V):=
 if (kvs.any fun kv=>decide (kv.1=k))=true then kvs.map (fun kv=>if kv.1=k then (kv.1,v) else kv) else kvs ++ [(k,v)]
def Jk (kvs:List (κ × V)) (k:κ):List (κ × V):=kvs.filter fun kv=>decide (kv.1 ≠ k)
theorem BG {p:κ × V} {r:List (κ × V)} {k:κ} (e:p.1=k):Bz (p :: r) k=some p.2:=by simp [Bz,ic,e]
theorem B3 {p:κ × V} {r:List (κ × V)} {k:κ} (e:¬ p.1=k):Bz (p :: r) k=Bz r k:=by simp [Bz,ic,e]
theorem Cr (k:κ):∀ kvs:List (κ × V),(kvs.any fun kv=>decide (kv.1=k))=(Bz kvs k).isSome
 | []=>rfl
 | p :: r=>by
  rw [iD];by_cases e:p.1=k
  ·simp only [BG e,decide_eq_true e,Bool.true_or,jZ]
  ·rw [B3 e,decide_eq_false e,Bool.false_or]; exact Cr k r
theorem LK (k j:κ) (y:V):∀ kvs:List (κ × V),Bz (kvs.map fun kv=>if kv.1=k then (kv.1,y) else kv) j=(Bz kvs j).map fun x=>if j=k then y else x
 | []=>rfl
 | p :: r=>by
  have ih:=LK k j y r;rw [fU];by_cases h:p.1=k
  ·rw [if_pos h];by_cases e:p.1=j
   ·rw [BG (p:=(p.1,y)) e,BG e,iy,if_pos (e.symm.trans h)]
   ·rw [B3 (p:=(p.1,y)) e,B3 e,ih]
  ·rw [if_neg h];by_cases e:p.1=j
   ·rw [BG (p:=p) e,BG e,iy,if_neg (fun z=>h (e.trans z))]
   ·rw [B3 (p:=p) e,B3 e,ih]
theorem JY (k j:κ) (y:V):∀ kvs:List (κ × V),Bz kvs k=none->Bz (kvs ++ [(k,y)]) j=if j=k then some y else Bz kvs j
 | [],_=>by
  by_cases e:k=j
  ·rw [if_pos e.symm]; exact BG (p:=(k,y)) e
  ·rw [if_neg (fun z=>e z.symm)]; exact B3 (p:=(k,y)) e
 | p :: r,hn=>by
  rw [j9];have hk:¬ p.1=k:=fun z=>by rw [BG z] at hn; cases hn
  rw [B3 hk] at hn;have ih:=JY k j y r hn;by_cases e:p.1=j
  ·rw [BG e,BG e,if_neg (fun z=>hk (e.trans z))]
  ·rw [B3 e,B3 e,ih]
theorem QK (kvs:List (κ × V)) (k j:κ) (y:V):Bz (BJ kvs k y) j=if j=k then some y else Bz kvs j:=by
 unfold BJ;by_cases a:(kvs.any fun kv=>decide (kv.1=k))=true
 ·rw [if_pos a,LK];rw [Cr] at a;by_cases e:j=k
  ·obtain ⟨x,hx⟩:=iM.mp a;rw [if_pos e,e,hx,iy,if_pos rfl]
  ·rw [if_neg e];cases Bz kvs j with
   | none=>rfl
   | some x=>rw [iy,if_neg e]
 ·rw [if_neg a];refine JY k j y kvs ?_;rw [Cr] at a;cases q:Bz kvs k with
  | none=>rfl
  | some x=>rw [q] at a; exact (a rfl).elim
theorem CA (kvs:List (κ × V)) (k:κ) (v:V):(BJ kvs k v).length<=kvs.length + 1:=by
 unfold BJ;split
 ·rw [eU]; lia
 ·rw [eY,gH,jD]; lia
theorem R0 {kvs:List (κ × V)} {k:κ} (v:V) (h:Bz kvs k=none):BJ kvs k v=kvs ++ [(k,v)]:=by
 unfold BJ;rw [Cr,h];exact if_neg (by decide)
theorem Hc.isSome_eq {o:Option V} {u:Option Value} (r:Hc o u):o.isSome=u.isSome:=by
 cases o with
 | none=>cases u with
  | none=>rfl
  | some _=>exact (show False from r).elim
 | some _=>cases u with
  | none=>exact (show False from r).elim
  | some _=>rfl
theorem Hc.getD {o:Option V} {u:Option Value} {d:V} {d':Value} (r:Hc o u) (rd:AD d d'):AD (o.getD d) (u.getD d'):=by
 cases o with
 | none=>cases u with
  | none=>exact rd
  | some _=>exact (show False from r).elim
 | some _=>cases u with
  | none=>exact (show False from r).elim
  | some _=>exact r
theorem KV.val {kvs:List (κ × V)} {vs:List (κ × Value)} (r:KV kvs vs) (k:κ):Hc (Bz kvs k) (valueAt vs k):=by
 unfold KV at r;induction r with
 | nil=>exact True.intro
 | @cons p q ps qs h t ih=>
  obtain ⟨h1,h2⟩:=h;by_cases e:p.1=k
  ·have e':q.1=k:=h1.symm.trans e;have b:valueAt (q :: qs) k=some q.2:=by simp [valueAt,ic,e']
   rw [BG e,b]; exact h2
  ·have e':¬ q.1=k:=fun z=>e (h1.trans z)
   have b:valueAt (q :: qs) k=valueAt qs k:=by simp [valueAt,ic,e']
   rw [B3 e,b]; exact ih
theorem KV.any {kvs:List (κ × V)} {vs:List (κ × Value)} (r:KV kvs vs) (k:κ):(kvs.any fun kv=>decide (kv.1=k))=vs.any fun kv=>decide (kv.1=k):=by
 unfold KV at r;induction r with
 | nil=>rfl
 | cons h t ih=>rw [iD,iD,ih,h.1]
theorem KV.repl {kvs:List (κ × V)} {vs:List (κ × Value)} (r:KV kvs vs) (k:κ) {y:V} {u:Value} (ry:AD y u) :
  KV (kvs.map fun kv=>if kv.1=k then (kv.1,y) else kv) (vs.map fun kv=>if kv.1=k then (kv.1,u) else kv):=by
 unfold KV at r ⊢;induction r with
 | nil=>exact .nil
 | @cons p q ps qs h t ih=>
  rw [fU,fU];refine .cons ?_ ih;obtain ⟨h1,h2⟩:=h;by_cases e:p.1=k
  ·rw [if_pos e,if_pos (h1.symm.trans e)]; exact ⟨h1,ry⟩
  ·rw [if_neg e,if_neg (fun z=>e (h1.trans z))]; exact ⟨h1,h2⟩
theorem KV.put {kvs:List (κ × V)} {vs:List (κ × Value)} (r:KV kvs vs) (k:κ) {y:V} {u:Value} (ry:AD y u):KV (BJ kvs k y) (stored vs k u):=by
 unfold BJ stored;rw [r.any k];by_cases e:(vs.any fun kv=>decide (kv.1=k))=true
 ·rw [if_pos e,if_pos e]; exact r.repl k ry
 ·rw [if_neg e,if_neg e]; exact Paired.snoc r ⟨rfl,ry⟩
theorem KV.drop {kvs:List (κ × V)} {vs:List (κ × Value)} (r:KV kvs vs) (k:κ):KV (Jk kvs k) (without vs k):=by
 unfold KV at r ⊢;unfold Jk without;induction r with
 | nil=>exact .nil
 | @cons p q ps qs h t ih=>
  obtain ⟨h1,h2⟩:=h;rw [iq,iq];by_cases e:p.1=k
  ·have a:¬ decide (p.1 ≠ k)=true:=by simp [e]
   have b:¬ decide (q.1 ≠ k)=true:=by simp [h1.symm.trans e]
   rw [if_neg a,if_neg b]; exact ih
  ·have e':¬ q.1=k:=fun z=>e (h1.trans z)
   have a:decide (p.1 ≠ k)=true:=by simp [e]
   have b:decide (q.1 ≠ k)=true:=by simp [e']
   rw [if_pos a,if_pos b]; exact .cons ⟨h1,h2⟩ ih
theorem KV.length {kvs:List (κ × V)} {vs:List (κ × Value)} (r:KV kvs vs):kvs.length=vs.length:=Paired.length r
theorem S5 (kvs:List (κ × V)) (k:κ):(Jk kvs k).length<=kvs.length:=List.length_filter_le _ _
end
theorem Hy {P:Program} {w:World} {k:Bh} {u:Value} (r:AD (kV k) u):(AY P w).is k u=true:=by
 cases k with
 | inl i=>obtain ⟨t,e⟩:=(show ∃ t,u=Value.int i t from r); subst e; exact Mt P w i t
 | inr x=>obtain ⟨t,e⟩:=(show ∃ t,u=Value.str x t from r); subst e; exact Hw P w x t
theorem Kq {P:Program} {w:World}:∀ {ks:List Bh} {us:List Value},AB (ks.map kV) us->ItemsAre (AY P w) ks us
 | [],_,r=>by rw [ir] at r; cases r; exact .nil
 | k :: ks,_,r=>by
  rw [fU] at r;cases r with
  | cons h t=>exact .cons (Hy h) (Kq t)
abbrev KT (H:Hp):List (List Bh × V)->List (List Bh × Addr × Value)->Prop:=Paired fun p q=>p.1=q.1/\H q.2.1=some (.tup (p.1.map kV))/\AD p.2 q.2.2
theorem KT.val {H:Hp} {kvs:List (List Bh × V)} {xs:List (List Bh × Addr × Value)} (r:KT H kvs xs) (k:List Bh):Hc (Bz kvs k) ((atKey xs k).map (·.2)):=by
 induction r with
 | nil=>exact True.intro
 | @cons p q ps qs h t ih=>
  obtain ⟨h1,_,h2⟩:=h;by_cases e:p.1=k
  ·have e':q.1=k:=h1.symm.trans e;have b:atKey (q :: qs) k=some q.2:=by simp [atKey,ic,e']
   rw [BG e,b]; exact h2
  ·have e':¬ q.1=k:=fun z=>e (h1.trans z)
   have b:atKey (q :: qs) k=atKey qs k:=by simp [atKey,ic,e']
   rw [B3 e,b]; exact ih
theorem KT.repl {H:Hp} {kvs:List (List Bh × V)} {xs:List (List Bh × Addr × Value)} (r:KT H kvs xs) (k:List Bh) {y:V} {u:Value} (ry:AD y u) :
  KT H (kvs.map fun kv=>if kv.1=k then (kv.1,y) else kv) (xs.map (putAt k u)):=by
 induction r with
 | nil=>exact .nil
 | @cons p q ps qs h t ih=>
  rw [fU,fU];refine .cons ?_ ih;obtain ⟨h1,h2,h3⟩:=h;unfold putAt;by_cases e:p.1=k
  ·rw [if_pos e,if_pos (h1.symm.trans e)]; exact ⟨h1,h2,ry⟩
  ·rw [if_neg e,if_neg (fun z=>e (h1.trans z))]; exact ⟨h1,h2,h3⟩
theorem KT.put {H:Hp} {kvs:List (List Bh × V)} {xs:List (List Bh × Addr × Value)} (r:KT H kvs xs) (k:List Bh) {b:Addr} {y:V} {u:Value} (hb:H b=some (.tup (k.map kV))) (ry:AD y u) :
  KT H (BJ kvs k y) (storedH xs k b u):=by
 have e:(kvs.any fun kv=>decide (kv.1=k))=(atKey xs k).isSome:=by
  rw [Cr,(r.val k).isSome_eq,jy]
 unfold BJ storedH;rw [e];by_cases q:(atKey xs k).isSome=true
 ·rw [if_pos q,if_pos q]; exact r.repl k ry
 ·rw [if_neg q,if_neg q]; exact Paired.snoc r ⟨rfl,hb,ry⟩
theorem KT.keeps {H H':Hp} {kvs:List (List Bh × V)} {xs:List (List Bh × Addr × Value)} (r:KT H kvs xs) (ht:∀ b ys,H b=some (.tup ys)->H' b=some (.tup ys)):KT H' kvs xs:=
 Paired.mapP r fun _ _ z=>⟨z.1,ht _ _ z.2.1,z.2.2⟩
section
variable {P:Program} {w:World} {H:Hp} {h:Heap} {a:Addr}
theorem UX {u:HO} (ok:FI P w H h) (e:Rd H a u):AL P w H h a u:=e.ok ok
theorem Jl {kvs:List (Bh × V)} (ok:FI P w H h) (e:Rd H a (.dK kvs)):kvs.length<=sizeLine/\(a == sysModules)=false/\∃ vs,KV kvs vs/\h.DictOf (AY P w) a vs:=
 show AL P w H h a (.dK kvs) from UX ok e
theorem S6 {kvs:List (Bh × V)} (ok:FI P w H h) (e:H a=some (.dK kvs)):kvs.length<=sizeLine/\(a == sysModules)=false/\∃ vs,KV kvs vs/\h.DictOf (AY P w) a vs:=Jl ok (.inl e)
theorem GK {ks:List Bh} (ok:FI P w H h) (e:H a=some (.tup (ks.map kV))):(tupleKind (AY P w)).is h ks a:=by
 obtain ⟨_,Ar,r,⟨o,h1,h2,n,h3⟩,_⟩:=(show AL P w H h a (.tup (ks.map kV)) from ok a _ e)
 exact ⟨o,Ar.toArray,n,h1,h2,h3,by simpa using Kq r⟩
theorem Jj {kvs:List (List Bh × V)} (ok:FI P w H h) (e:Rd H a (.dT kvs)):kvs.length<=sizeLine/\(a == sysModules)=false /\
  ∃ xs,KT H kvs xs/\h.DictOfH (tupleKind (AY P w)) a xs:=by
 obtain ⟨z,y,xs,r,o,es,ep,h1,h2,h3,h4,h5⟩:=(show AL P w H h a (.dT kvs) from UX ok e)
 refine ⟨z,y,xs,r,o,es,ep,h1,h2,h3,h4,fun x hx=>?_,h5⟩;have all:∀ {l:List (List Bh × V)} {m:List (List Bh × Addr × Value)},KT H l m->∀ x ∈ m,(tupleKind (AY P w)).is h x.1 x.2.1:=by
  intro l m q;induction q with
  | nil=>intro x hx; exact nomatch hx
  | @cons p q ps qs hq t ih=>
   intro x hx;rcases eX.mp hx with e | hx
   ·subst e;exact GK ok (by rw [<-hq.1]; exact hq.2.1)
   ·exact ih x hx
 exact all r x hx
theorem dt_of {kvs:List (List Bh × V)} (ok:FI P w H h) (e:H a=some (.dT kvs)):kvs.length<=sizeLine/\(a == sysModules)=false /\
  ∃ xs,KT H kvs xs/\h.DictOfH (tupleKind (AY P w)) a xs:=Jj ok (.inl e)
end
def Cp (H:Hp) (a:Addr) (y:V) (r:Option V):Prop:=
 (∃ kvs k,Rd H a (.dK kvs)/\y=kV k/\r=Bz kvs k)\/∃ kvs k b,Rd H a (.dT kvs)/\y=.ref b/\H b=some (.tup (k.map kV))/\r=Bz kvs k
def FF (H:Hp) (a:Addr) (y v:V) (H':Hp):Prop:=
 (∃ kvs k,H a=some (.dK kvs)/\y=kV k/\kvs.length < sizeLine/\H'=upd H a (.dK (BJ kvs k v))) \/
 ∃ kvs k b,H a=some (.dT kvs)/\y=.ref b/\H b=some (.tup (k.map kV))/\kvs.length < sizeLine/\H'=upd H a (.dT (BJ kvs k v))
theorem Cp.k {H:Hp} {a:Addr} {kvs:List (Bh × V)} {k:Bh} (e:H a=some (.dK kvs)):Cp H a (kV k) (Bz kvs k):=.inl ⟨kvs,k,.inl e,rfl,rfl⟩
theorem Cp.t {H:Hp} {a b:Addr} {kvs:List (List Bh × V)} {k:List Bh} (e:H a=some (.dT kvs)) (eb:H b=some (.tup (k.map kV))):Cp H a (.ref b) (Bz kvs k):=.inr ⟨kvs,k,b,.inl e,rfl,eb,rfl⟩
theorem FF.k {H:Hp} {a:Addr} {kvs:List (Bh × V)} {k:Bh} {v:V} (e:H a=some (.dK kvs)) (hl:kvs.length < sizeLine):FF H a (kV k) v (upd H a (.dK (BJ kvs k v))):=.inl ⟨kvs,k,e,rfl,hl,rfl⟩
theorem FF.t {H:Hp} {a b:Addr} {kvs:List (List Bh × V)} {k:List Bh} {v:V} (e:H a=some (.dT kvs)) (eb:H b=some (.tup (k.map kV))) (hl:kvs.length < sizeLine) :
  FF H a (.ref b) v (upd H a (.dT (BJ kvs k v))):=.inr ⟨kvs,k,b,e,rfl,eb,hl,rfl⟩
section
variable {X:Cx} {pins:List (Addr × Obj)} {σ:St} {H:Hp} {s:Shared} {a:Addr} {y v:V} {u r:Value} {o:Option V} {A:Around} {E:Value->Shared->Prop}
theorem As.big (I:As X pins σ H s):sysModules < s.heap.objs.size:=by
 have h:mainGlobals < s.heap.objs.size:=(I.mod.glob.keeps I.bk).lt;exact Nat.lt_trans (by decide) h
theorem Qr {Q:Value->Shared->Prop} (hu:A.units + 1 < cLine) (I:As X pins σ H s) (g:Cp H a y (some v)) (ry:AD y u) (h:∀ w' s',As X pins σ H s'->AD v w'->Q w' s') :
  wpAny (model X.prog X.w) A (getItem (.ref a) u) Q E s:=by
 rcases g with ⟨kvs,k,e,ey,l⟩ | ⟨kvs,k,b,e,ey,eb,l⟩
 ·subst ey;obtain ⟨z,hd,vs,rel,dd⟩:=Jl I.hok e;obtain ⟨w',hw,Rt⟩:=Hc.some_of (v:=v) (o:=valueAt vs k) (by rw [l]; exact rel.val k);exact wpAny_getItem_of (Hy ry) dd.mapOf hw (h w' _ (I.tok _) Rt)
 ·subst ey;cases (show u=Value.ref b from ry)
  obtain ⟨z,hd,xs,rel,dd⟩:=Jj I.hok e;obtain ⟨w',hw,Rt⟩:=Hc.some_of (v:=v) (o:=(atKey xs k).map (·.2)) (by rw [l]; exact rel.val k);obtain ⟨p,hp,aW⟩:=Option.map_eq_some_iff.mp hw;refine wpAny_getItem_heap (tupleKind_room_in1 hu) (GK I.hok eb) dd hp ?_;rw [aW];exact h w' _ (I.tok _) Rt
theorem d_in {Q:Value->Shared->Prop} (hu:A.units + 1 < cLine) (I:As X pins σ H s) (g:Cp H a y o) (ry:AD y u) (h:∀ s',As X pins σ H s'->Q (.bool o.isSome) s') :
  wpAny (model X.prog X.w) A (compareOp .In u (.ref a)) Q E s:=by
 rcases g with ⟨kvs,k,e,ey,l⟩ | ⟨kvs,k,b,e,ey,eb,l⟩
 ·subst ey;obtain ⟨z,hd,vs,rel,dd⟩:=Jl I.hok e;refine wpAny_in_of (Hy ry) hd dd.mapOf ?_;rw [<-(rel.val k).isSome_eq,<-l];exact h _ (I.tok _)
 ·subst ey;cases (show u=Value.ref b from ry)
  obtain ⟨z,hd,xs,rel,dd⟩:=Jj I.hok e;refine wpAny_in_heap (tupleKind_room_in1 hu) (GK I.hok eb) hd dd ?_;have q:=(rel.val k).isSome_eq;rw [jy] at q;rw [<-q,<-l];exact h _ (I.tok _)
theorem Uz {Q:Value->Shared->Prop} (hu:A.units + 1 < cLine) (I:As X pins σ H s) (g:Cp H a y o) (ry:AD y u) (h:∀ s',As X pins σ H s'->Q (.bool (!o.isSome)) s') :
  wpAny (model X.prog X.w) A (compareOp .NotIn u (.ref a)) Q E s:=by
 rcases g with ⟨kvs,k,e,ey,l⟩ | ⟨kvs,k,b,e,ey,eb,l⟩
 ·subst ey;obtain ⟨z,hd,vs,rel,dd⟩:=Jl I.hok e;refine wpAny_notIn_of (Hy ry) hd dd.mapOf ?_;rw [<-(rel.val k).isSome_eq,<-l];exact h _ (I.tok _)
 ·subst ey;cases (show u=Value.ref b from ry)
  obtain ⟨z,hd,xs,rel,dd⟩:=Jj I.hok e;refine wpAny_notIn_heap (tupleKind_room_in1 hu) (GK I.hok eb) hd dd ?_;have q:=(rel.val k).isSome_eq;rw [jy] at q;rw [<-q,<-l];exact h _ (I.tok _)
theorem Ij {h':Heap} {t':Nat} {ob:HO} (I:As X pins σ H s) (mu:Mut (H a)) (hs:Heap.SameBut a s.heap h') (he:∃ q,h'.get? a=some q) (new:AL X.prog X.w (upd H a ob) h' a ob) :
  As X pins σ (upd H a ob) { s with heap:=h',toks:=t' }:=
 I.write (x:=a) (e:=a) mu (.inl rfl) (fun b q hb z=>(hs.2 b hb).trans z) he new
theorem Ly {P:Program} {w:World} {H':Hp} {h':Heap} {kvs:List (Bh × V)} {vs:List (Bh × Value)} (z:kvs.length<=sizeLine) (hd:(a == sysModules)=false) (rel:KV kvs vs) (dd:h'.DictOf (AY P w) a vs) :
  AL P w H' h' a (.dK kvs):=⟨z,hd,vs,rel,dd⟩
theorem Qq {H':Hp} {Q:Unit->Shared->Prop} (hu:A.units + 1 < cLine) (I:As X pins σ H s) (g:FF H a y v H') (ry:AD y u) (rv:AD v r) (h:∀ s',As X pins σ H' s'->Q () s') :
  wpAny (model X.prog X.w) A (setItem (.ref a) u r) Q E s:=by
 rcases g with ⟨kvs,k,e,ey,l,eH⟩ | ⟨kvs,k,b,e,ey,eb,l,eH⟩
 ·subst ey eH;obtain ⟨z,hd,vs,rel,dd⟩:=S6 I.hok e;have hz:vs.length<=sizeLine:=by rw [<-rel.length]; exact z
  have hl:(BJ kvs k v).length<=sizeLine:=by have:=CA kvs k v; lia
  refine wpAny_setItem_pairs (hsz:=hz) (Hy ry) dd fun h' MQ hs=>h _ ?_
  have he:∃ q,h'.get? a=some q:=let ⟨q,_,_,hq,_⟩:=MQ; ⟨q,hq⟩;exact Ij I (by rw [e]; exact True.intro) hs he (Ly hl hd (rel.put k rv) MQ)
 ·subst ey eH;cases (show u=Value.ref b from ry)
  obtain ⟨z,hd,xs,rel,dd⟩:=dt_of I.hok e;have hz:xs.length<=sizeLine:=by rw [<-Paired.length rel]; exact z
  have hl:(BJ kvs k v).length<=sizeLine:=by have:=CA kvs k v; lia
  refine wpAny_setItem_heap (hsz:=hz) (tupleKind_room_in1 hu) (GK I.hok eb) dd fun h' MQ hs=>h _ ?_
  obtain ⟨q,es,ep,hq,h2,h3,h4,_,h5⟩:=MQ;refine Ij I (by rw [e]; exact True.intro) hs ⟨q,hq⟩ ⟨hl,hd,_,(rel.put k eb rv).keeps fun c ys ec=>?_,q,es,ep,hq,h2,h3,h4,h5⟩;rw [Ae (C0 ec e (fun z=>nomatch z))];exact ec
end
section
variable {X:Cx} {pins:List (Addr × Obj)} {σ:St} {H:Hp} {s:Shared} {a:Addr} {kvs:List (Bh × V)} {k:Bh} {u:Value} {A:Around} {E:Value->Shared->Prop}
theorem Qs {Q:Unit->Shared->Prop} (I:As X pins σ H s) (e:H a=some (.dK kvs)) (ry:AD (kV k) u) (l:(Bz kvs k).isSome=true) (h:∀ s',As X pins σ (upd H a (.dK (Jk kvs k))) s'->Q () s') :
  wpAny (model X.prog X.w) A (delItem (.ref a) u) Q E s:=by
 obtain ⟨z,hd,vs,rel,dd⟩:=S6 I.hok e;refine wpAny_delItem_slot dd.typeIs (by decide) PySem.F.slot_dict_delitem
  (call_meetsIn PySem.F.slot_dict_delitem dd.typeIs PySem.F.entry_dict_delitem (PySem.F.args_dict_delitem_2 _ _) (meets_dict_delitem_pairs (AY X.prog X.w) a (Hy ry)) ⟨vs,dd,by rw [<-rel.length]; exact z,by rw [<-(rel.val k).isSome_eq]; exact l,fun h' MQ hs=>h _ ?_⟩)
 have he:∃ q,h'.get? a=some q:=let ⟨q,_,_,hq,_⟩:=MQ; ⟨q,hq⟩;exact Ij I (by rw [e]; exact True.intro) hs he (Ly (gc (S5 kvs k) z) hd (rel.drop k) MQ)
end
def NoSl (i:Expr):Prop:=∀ ov iv,subscripted i false ov iv=operate [ov,iv] (getItem ov iv)
theorem Tr {prog:Program} {w:World} {A:Around} {E:Value->Shared->Prop} {s:Shared} {env:Env} {value slice:Expr} {pos:Pos} {T id:String} {Q:Value->Shared->Prop}
  (hl:typeLookup (.type T) "__getitem__"=pure (some (.builtin id))) (hs:NoSl slice)
  (h:wpAny (model prog w) A (eval value env) (fun o AV=>wpAny (model prog w) A (eval slice env) (fun i EB=>EB.TypeIs o T/\wpAny (model prog w) A (getItem o i) Q E EB) E AV) E s) :
  wpAny (model prog w) A (eval (.Subscript value slice pos) env) Q E s:=by
 refine Subscript_ (wpAny_mono h (fun o AV Bd=>wpAny_mono Bd (fun i EB GQ=>?_) fun _ _ x=>x) fun _ _ x=>x);obtain ⟨hT,GQ⟩:=GQ;unfold subscriptTail;refine wpAny_bind ?_;rw [getitemInPython_of_ne hT.not_modules];refine wpAny_bind (wpAny_specialOf hT hl ?_);have fin:wpAny (model prog w) A (subscripted slice false o i) (fun r Co=>wpAny (model prog w) A (letTemporaryGo value o r >>= fun _=>pure r) Q E Co) E EB:=by
  rw [hs o i];exact wpAny_operating (wpAny_mono GQ (fun r Co HQ=>wpAny_bind (wpAny_letTemporaryGo (wpAny_pure HQ))) fun _ _ x=>x)
 first
  | exact wpAny_pure (wpAny_bind fin)
  | exact wpAny_bind (wpAny_pure (wpAny_bind fin))
  | exact wpAny_bind fin
theorem M9 {X:Cx} {pins:List (Addr × Obj)} {σ:St} {H:Hp} {s:Shared} {a:Addr} {y:V} {o:Option V} (I:As X pins σ H s) (g:Cp H a y o):s.TypeIs (.ref a) "dict":=by
 rcases g with ⟨kvs,k,e,_,_⟩ | ⟨kvs,k,b,e,_,_,_⟩
 ·obtain ⟨_,_,vs,_,dd⟩:=Jl I.hok e;exact dd.typeIs
 ·obtain ⟨_,_,xs,_,dd⟩:=Jj I.hok e;exact dd.typeIs
def tDGet (td ty:TE):TE:=fun σ H Q=>td σ H fun x H1=>ty σ H1 fun y H2=>∃ a v,x=.ref a/\Cp H2 a y (some v)/\Q v H2
def tDIn (ty td:TE):TE:=fun σ H Q=>ty σ H fun y H1=>td σ H1 fun x H2=>∃ a o,x=.ref a/\Cp H2 a y o/\Q (.bl o.isSome) H2
def Tp (ty td:TE):TE:=fun σ H Q=>ty σ H fun y H1=>td σ H1 fun x H2=>∃ a o,x=.ref a/\Cp H2 a y o/\Q (.bl (!o.isSome)) H2
def sDPut (td ty tv:TE):TS:=fun D σ H=>tv σ H fun v H1=>td σ H1 fun x H2=>ty σ H2 fun y H3=>∃ a H4,x=.ref a/\FF H3 a y v H4/\D.nx σ H4
def sDDel (td ty:TE):TS:=fun D σ H=>td σ H fun x H1=>ty σ H1 fun y H2=>∃ a kvs k,x=.ref a/\H2 a=some (.dK kvs)/\y=kV k/\(Bz kvs k).isSome=true/\D.nx σ (upd H2 a (.dK (Jk kvs k)))
section
variable {X:Cx} {o i e value:Expr} {pos pos' tpos:Pos} {td ty tv:TE}
theorem Bl (hu:X.A.units + 1 < cLine) (ho:PE X o td) (hi:PE X i ty) (hs:NoSl i):PE X (.Subscript o i pos) (tDGet td ty):=by
 intro pins s σ H Q I h;refine Tr PySem.F.slot_dict_getitem.lookup hs (Bt (ho (pins:=pins) s σ H _ I h) fun u s1 ⟨x,H1,I1,rx,q1⟩=>Bt (hi (pins:=pins) s1 σ H1 _ I1 q1) fun iv s2 ⟨y,H2,I2,ry,a,v,ex,g,q2⟩=>?_);subst ex;obtain rfl:u=Value.ref a:=rx;exact ⟨M9 I2 g,Qr hu I2 g ry fun w' s3 I3 Rt=>⟨v,H2,I3,Rt,q2⟩⟩
theorem W3 (hu:X.A.units + 1 < cLine) (hi:PE X i ty) (ho:PE X o td):PC X .In i o (tDIn ty td):=by
 intro pins s σ H Q I h;refine Bt (hi (pins:=pins) s σ H _ I h) fun iv s1 ⟨y,H1,I1,ry,q1⟩=>Bt (ho (pins:=pins) s1 σ H1 _ I1 q1) fun u s2 ⟨x,H2,I2,rx,a,ov,ex,g,q2⟩=>?_
 subst ex;obtain rfl:u=Value.ref a:=rx;exact d_in hu I2 g ry fun s3 I3=>⟨.bl ov.isSome,H2,I3,rfl,q2⟩
theorem PM (hu:X.A.units + 1 < cLine) (hi:PE X i ty) (ho:PE X o td):PC X .NotIn i o (Tp ty td):=by
 intro pins s σ H Q I h;refine Bt (hi (pins:=pins) s σ H _ I h) fun iv s1 ⟨y,H1,I1,ry,q1⟩=>Bt (ho (pins:=pins) s1 σ H1 _ I1 q1) fun u s2 ⟨x,H2,I2,rx,a,ov,ex,g,q2⟩=>?_
 subst ex;obtain rfl:u=Value.ref a:=rx;exact Uz hu I2 g ry fun s3 I3=>⟨.bl (!ov.isSome),H2,I3,rfl,q2⟩
theorem DJ (hu:X.A.units + 1 < cLine) (ho:PE X o td) (hi:PE X i ty) (hv:PE X value tv) (hs:swapsWith value (some (.Subscript o i pos')) pos.line X.env=pure false) :
  PS X (.Assign [.Subscript o i pos'] value pos) (sDPut td ty tv):=by
 intro pins s σ H D I h;refine wpAny_Assign_Subscript (Bt (hv (pins:=pins) s σ H _ I h) fun r s1 ⟨v,H1,I1,rv,q1⟩=>Bt (ho (pins:=pins) s1 σ H1 _ I1 q1) fun u s2 ⟨x,H2,I2,rx,q2⟩=>Bt (hi (pins:=pins) s2 σ H2 _ I2 q2) fun iv s3 ⟨y,H3,I3,ry,a,H4,ex,g,q3⟩=>?_) hs;subst ex;obtain rfl:u=Value.ref a:=rx;exact Qq hu I3 g ry rv fun s4 I4=>⟨σ,H4,I4,q3⟩
theorem TN (ho:PE X o td) (hi:PE X i ty):PS X (.Delete [.Subscript o i tpos] pos) (sDDel td ty):=by
 intro pins s σ H D I h;refine wpAny_Delete (wpAny_deleteEach_cons (wpAny_delete_Subscript (Bt (ho (pins:=pins) s σ H _ I h) fun u s1 ⟨x,H1,I1,rx,q1⟩=>Bt (hi (pins:=pins) s1 σ H1 _ I1 q1) fun iv s2 ⟨y,H2,I2,ry,a,kvs,k,ex,e,ey,l,q2⟩=>?_)));subst ex ey;obtain rfl:u=Value.ref a:=rx;exact Qs I2 e ry l fun s3 I3=>wpAny_deleteEach_nil ⟨σ,_,I3,q2⟩
end
theorem Jm {P:Program} {w:World} {H:Hp} (h:Heap) (hb:sysModules < h.objs.size):AL P w H (h.push { cls:=.type "dict",data:=.dict #[] }) h.objs.size (.dK []):=
 ⟨gr _,beq_eq_false_iff_ne.mpr (Ne.symm (fj hb)),[],.nil,Heap.DictOf.new h⟩
theorem S4 {P:Program} {w:World} {H:Hp} (h:Heap) (hb:sysModules < h.objs.size):AL P w H (h.push { cls:=.type "dict",data:=.dict #[] }) h.objs.size (.dT []):=
 ⟨gr _,beq_eq_false_iff_ne.mpr (Ne.symm (fj hb)),[],.nil,_,#[],0,fe _ rfl,⟨rfl,rfl,rfl⟩,rfl,rfl,jF⟩
def VY:TE:=fun _ H Q=>∀ p,H p=none->Q (.ref p) (upd H p (.dK []))
def VX:TE:=fun _ H Q=>∀ p,H p=none->Q (.ref p) (upd H p (.dT []))
section
variable {X:Cx} {pos:Pos}
theorem Mg:PE X (.Dict [] [] pos) VY:=fun pins s σ H Q I h=>
 wpAny_Dict_empty ⟨.ref s.heap.objs.size,_,I.laid (a:=s.heap.objs.size) (o:=.dK []) (t':=s.toks) (fun _ _ q=>eT _ q) (fc _) (Jm s.heap I.big),rfl,h _ (I.hok.fresh (fc _))⟩
theorem RB:PE X (.Dict [] [] pos) VX:=fun pins s σ H Q I h=>
 wpAny_Dict_empty ⟨.ref s.heap.objs.size,_,I.laid (a:=s.heap.objs.size) (o:=.dT []) (t':=s.toks) (fun _ _ q=>eT _ q) (fc _) (S4 s.heap I.big),rfl,h _ (I.hok.fresh (fc _))⟩
end
def IW (kvs more:List (Bh × V)):List (Bh × V):=more.foldl (fun acc kv=>BJ acc kv.1 kv.2) kvs
structure M2 (X:Cx) (o:Expr) (m:Str) (apos:Pos) (e f:Expr) (FA:Pos):Prop where
 base:attributeBase o m X.env (eval o X.env)=eval o X.env
 few:((backTo FA (starEach [e,f] X.env)).all (fun x=>!x.1) && (backToKw FA (keywordEach [] X.env)).all (fun x=>x.1.isSome)
  && decide (([e,f]:List Expr).length + ([]:List Keyword).length + (if ([]:List Keyword).isEmpty then 0 else 1) < 30))=true
 line:(apos.endLine == FA.line)=true
 trees:backTo FA (starEach [e,f] X.env)=[(false,eval e X.env),(false,eval f X.env)]
def IsD (H:Hp) (a:Addr):Prop:=(∃ kvs,Rd H a (.dK kvs))\/∃ kvs,Rd H a (.dT kvs)
theorem WR {X:Cx} {pins:List (Addr × Obj)} {σ:St} {H:Hp} {s:Shared} {a:Addr} (I:As X pins σ H s) (d:IsD H a) :
  s.TypeIs (.ref a) "dict"/\(∀ b,Value.ref a=.ref b->∃ ob,s.heap.get? b=some ob/\ob.dict=none)/\(a == sysModules)=false:=by
 rcases d with ⟨kvs,e⟩ | ⟨kvs,e⟩
 ·obtain ⟨_,hd,vs,_,dd⟩:=Jl I.hok e;refine ⟨dd.typeIs,fun b q=>?_,hd⟩;cases q
  obtain ⟨ob,_,_,h1,h2,_⟩:=dd;exact ⟨ob,h1,h2.2.1⟩
 ·obtain ⟨_,hd,xs,_,dd⟩:=Jj I.hok e;refine ⟨dd.typeIs,fun b q=>?_,hd⟩;cases q
  obtain ⟨ob,_,_,h1,h2,_⟩:=dd;exact ⟨ob,h1,h2.2.1⟩
section
variable {X:Cx} {pins:List (Addr × Obj)} {σ:St} {H:Hp} {s:Shared} {a:Addr} {y d:V} {u r:Value} {o:Option V} {A:Around} {E:Value->Shared->Prop}
theorem Xn {Q:Value->Shared->Prop} (hu:A.units + 1 < cLine) (I:As X pins σ H s) (g:Cp H a y o) (ry:AD y u) (rd:AD d r) (h:∀ w' s',As X pins σ H s'->AD (o.getD d) w'->Q w' s') :
  wpAny (model X.prog X.w) A (call (.builtin "dict.get") [.ref a,u,r]) Q E s:=by
 rcases g with ⟨kvs,k,e,ey,l⟩ | ⟨kvs,k,b,e,ey,eb,l⟩
 ·subst ey;obtain ⟨z,hd,vs,rel,dd⟩:=Jl I.hok e;refine call_meetsIn PySem.F.slot_dict_get dd.typeIs PySem.F.entry_dict_get (PySem.F.args_dict_get_3 _ _ _) (meets_dict_get_default (AY X.prog X.w) a (Hy ry) hd r) ⟨_,dd.mapOf,h _ _ (I.tok _) ?_⟩;rw [l];exact (rel.val k).getD rd
 ·subst ey;cases (show u=Value.ref b from ry)
  obtain ⟨z,hd,xs,rel,dd⟩:=Jj I.hok e;refine call_meetsIn PySem.F.slot_dict_get dd.typeIs PySem.F.entry_dict_get (PySem.F.args_dict_get_3 _ _ _) (meetsH_dict_get_default (tupleKind (AY X.prog X.w)) a b hd r) ⟨tupleKind_room_in1 hu,k,xs,GK I.hok eb,dd,h _ _ (I.tok _) ?_⟩;rw [l];exact (rel.val k).getD rd
end
def VZ (td ty tx:TE):TE:=fun σ H Q=>td σ H fun x H1=>∃ a,x=.ref a/\IsD H1 a/\ty σ H1 fun y H2=>tx σ H2 fun z H3=>∃ o,Cp H3 a y o/\Q (o.getD z) H3
section
variable {X:Cx} {o e f:Expr} {apos FA:Pos} {td ty tx:TE}
theorem RC (hu:X.A.units + 1 < cLine) (ho:PE X o td) (he:PE X e ty) (hf:PE X f tx) (m:M2 X o "get" apos e f FA):PE X (.Call (.Attribute o "get" apos) [e,f] [] FA) (VZ td ty tx):=by
 intro pins s σ H Q I h;refine wpAny_Call_method m.base m.few m.line PySem.F.plainAttrs_dict PySem.F.slot_dict_get PySem.F.type_dict_get (Bt (ho (pins:=pins) s σ H _ I h) fun u s1 ⟨x,H1,I1,rx,a,ex,d,q1⟩=>?_);subst ex;obtain rfl:u=Value.ref a:=rx;obtain ⟨t1,t2,_⟩:=WR I1 d;exists t1,t2;rw [m.trees];refine Calls.callWith_builtin rfl (Calls.evalArgs_plain (Calls.spliced_cons (Bt (he (pins:=pins) s1 σ H1 _ I1 q1) fun iv s2 ⟨y,H2,I2,ry,q2⟩=>
  Calls.spliced_cons (Bt (hf (pins:=pins) s2 σ H2 _ I2 q2) fun fv s3 ⟨z,H3,I3,rz,ov,g,q3⟩=>Calls.spliced_nil ?_))))
 exact Xn hu I3 g ry rz fun w' s4 I4 Rt=>⟨_,H3,I4,Rt,q3⟩
end
section
variable {X:Cx} {pins:List (Addr × Obj)} {σ:St} {H:Hp} {s:Shared} {a:Addr} {kvs:List (Bh × V)} {A:Around} {E:Value->Shared->Prop}
end
section
variable {X:Cx} {pins:List (Addr × Obj)} {σ:St} {H:Hp} {s:Shared} {a:Addr} {y:V} {u:Value} {A:Around} {E:Value->Shared->Prop}
end
end L2
namespace Att
open PySem PySem.W PySem.Calls PyProof.Rows
theorem HP {P:Params} {h:Heap}:∀ (ns:List Int) (vs:List Value),WellAll P h vs (ns.map WData.int)->IntsAre vs ns:=by
 intro ns;induction ns with
 | nil=>
  intro vs w;rw [ir] at w;cases w
  exact .nil
 | cons n ns ih=>
  intro vs w;rw [fU] at w;cases w with
  | cons a b=>
   cases a
   exact .cons _ _ (ih _ b)
theorem Pw {l:OpenLaw} {n:Nat} (hn:l.most=some n) {P:Params} {h:Heap} {args:List WData} {vals:List Value}
  (hpre:l.row.toRowW.claim.pre args=true) (hwl:WellAll P h vals args) :
  ∃ a vs ns,vals=[Value.ref a]/\args=[WData.list (ns.map WData.int)]/\h.get? a=some { cls:=.type "list",data:=.seq vs.toArray }/\IntsAre vs ns/\ns.length<=n:=by
 have hsh:WShape.hasAll [] args [.list .int]=true:=(pre_splitW hpre).1;have hc:l.pre.holds [] { args:=args } = true:=(pre_splitW hpre).2;obtain ⟨d,r,rfl,h1,h2⟩:=hasAllW_cons hsh;obtain rfl:=hasAllW_nil h2;obtain ⟨xs,rfl,h3⟩:=hasW_list h1;obtain ⟨ns,rfl⟩:=items_int h3;have hlen:ns.length<=n:=by
  unfold OpenLaw.pre at hc;have h4:(WTm.not (.lt (.lit (.int (n:Int))) (.len (.arg 0)))).holds [] { args:=[.list (ns.map .int)] } = true:=by
   have h4:=(holds_andW hc).1;rw [hn] at h4;exact h4
  have h5:=condW_of h4 (w_not (w_lt w_lit (w_len_list (w_arg rfl))));rw [eU] at h5;refine Nat.le_of_not_lt fun q=>?_
  have q':(n:Int) < ((ns.length:Nat):Int):=by lia
  first
   | (rw [decide_eq_true q'] at h5; exact absurd h5 (by decide))
   | (simp at h5; lia)
 cases hwl with
 | cons w1 w2=>
  cases w2
  cases w1 with
  | list ho hall=>exact ⟨_,_,ns,rfl,rfl,ho,HP ns _ hall,hlen⟩
theorem PH (l:OpenLaw) (args:List WData):l.row.toRowW.claim.post args (.bool true) args=true:=
 postW_of (r:=l.row.toRowW) (X:=(true == true))
  (show WShape.has [] (.bool true) .bool=true by first | rfl | decide | simp [WShape.has,WShape.arms,WShape.armsAll])
  (show (WTm.eq .res (.lit (.bool true))).value [] { args:=args,res:=some (.bool true),after:=args } = some (.bool (true == true)) from w_eq_bool (w_res rfl) w_lit) rfl
theorem attach_call {l:OpenLaw} {n:Nat} {q:Program} {loose:List Str} {XP:(Str->Option Value)->Heap->Prop} {YP:World->Heap->Prop} {d:DefRec}
  (hn:l.most=some n) (hdf:d.params.defaults=[])
  (call:∀ (w:World) (s₀ AV:Shared) (mg mb:Str->Option Value) (fa:Addr) (o:Obj) (pm cd doc:Value) (a:Addr) (vs:List Value) (ns:List Int),
   Ground q loose [] XP w s₀ mg mb AV.heap->YP w AV.heap ->
   AV.heap.get? fa=some o->o.data=.func (docDef d.name d.params d.body d.scope pm cd doc)->AV.heap.CodeRec cd d.name->mg d.name=some (.ref fa) ->
   AV.heap.get? a=some { cls:=.type "list",data:=.seq vs.toArray }->IntsAre vs ns->ns.length<=n->AV.gens=#[] ->
   codeAny (model l.prog w) callerA (.call (.ref fa) ⟨[.ref a],[]⟩) (fun r s'=>r=.ok (.ret (.bool true))/\OldK AV.heap s'.heap/\s'.os=AV.os/\AllBare s'.gens) AV) :
  WalkO q loose XP YP l.row.toRowW d [] (fun f vs=>PySem.call f vs):=by
 intro w s₀ AV mg mb G Y fa o pm cd doc dV kV ho hd hcd hD hmg hg args vals as hpre hlay hrd hwl hlo;obtain rfl:dV=.none:=Dflts.none hD hdf;obtain rfl:kV=.none:=Dflts.noKw hD;obtain ⟨a,vs,ns,rfl,rfl,hobj,hints,hlen⟩:=Pw hn hpre hwl;refine enter_call (codeAny_mono (call w s₀ AV mg mb fa o pm cd doc a vs ns G Y ho (fd_plain hd) hcd hmg hobj hints hlen hg) fun r s' hq=>?_);obtain ⟨rfl,h2,h3,h4⟩:=hq;exact ⟨.inl ⟨.bool true,.bool true,[],rfl,fun _=>rfl,.bool true,PH l _,fun _=>⟨List.Pairwise.nil,fun _ hm=>(nomatch hm)⟩⟩,h2,h3,h4⟩
section
variable {prog:Program} {w:World} {A:Around} {E:Value->Shared->Prop} {s:Shared} {K:Frag}
end
end Att
namespace L2
open PySem PySem.Spec PyProof.Rows
theorem JX:∀ {vs:List Value} {ns:List Int},IntsAre vs ns->AB (ns.map V.int) vs
 | _,_,.nil=>.nil
 | _,_,.cons n t h=>.cons ⟨t,rfl⟩ (JX h)
def UC (H:Hp):Prop:=∀ b,H b=none\/∃ o xs,H b=some (.frz o (.lst xs))
theorem RW {P:Program} {w:World} {K:eV} {mg mb:Str->Option Value} {CX:SR} {k:Nat} {fa a:Addr} {fd:FuncData} {x:Str} {sp:Sp} {AV:Shared} {vs:List Value} {ns:List Int}
  (KX:K.In AV.heap) (hns:AV.heap.Ns mainGlobals mg) (hb:AV.heap.Ns builtinsNs mb) (hbb:∀ x:Str,x ≠ "__name__"->mb x=bootBuiltins x) (hlim:AV.heap.NoLimit) (hg:AV.gens=#[])
  (ha:AV.heap.get? a=some { cls:=.type "list",data:=.seq vs.toArray }) (hi:IntsAre vs ns) (hl:ns.length<=sizeLine) (hr:El k callerA)
  (F:∀ base:Heap,K.In base->base.Ns mainGlobals mg->A8 P w K mg base CX k fa fd [x] sp) (hbind:∀ (s:Shared) (u:Value),BindsTo s fd ⟨[u],[]⟩ [(x,u)])
  (hsp:∀ H:Hp,UC H->Ba K H a (ns.map V.int)->sp [.ref a] H (fun v _=>v=.bl true) fun _ _ _=>False)
  (hCX:∀ H e s',CX [] H AV (fun _ _ _=>False) e s'->False) :
  codeAny (model P w) callerA (.call (.ref fa) ⟨[.ref a],[]⟩) (fun r s'=>r=.ok (.ret (.bool true))/\OldK AV.heap s'.heap/\s'.os=AV.os/\AllBare s'.gens) AV:=by
 have rv:=JX hi;have lenV:=hi.length;have core:∀ H:Hp,UC H->Ba K H a (ns.map V.int)->FI P w H AV.heap->(∀ b,H b ≠ none->b=a)->(H a ≠ none->K.lookup a=none) ->
   codeAny (model P w) callerA (.call (.ref fa) ⟨[.ref a],[]⟩) (fun r s'=>r=.ok (.ret (.bool true))/\OldK AV.heap s'.heap/\s'.os=AV.os/\AllBare s'.gens) AV:=by
  intro H hO hS hok hA hK;have base_of:∀ {b:Addr} {o:Obj},AV.heap.get? b=some o->H b=none->(Lr AV.heap H).get? b=some o:=fun e n=>Sj e n
  have noA:∀ {b:Addr} {o:Obj} {es:Array DictEntry} {ep:Nat},AV.heap.get? b=some o->o.data=.dict es ep->H b=none:=fun {b o es ep} e d=>by
   cases q:H b with
   | none=>rfl
   | some u=>
    have e':b=a:=hA b (by rw [q]; simp);subst e';rw [ha] at e; cases e;have d':Data.seq vs.toArray _=Data.dict es ep:=d;cases d'
  have nsK:∀ {b:Addr} {m:Str->Option Value},AV.heap.Ns b m->(Lr AV.heap H).Ns b m:=fun {b m} ⟨o,es,ep,e,d,r⟩=>⟨o,es,ep,base_of e (noA e d),d,r⟩
  have hKb:K.In (Lr AV.heap H):=fun b o e=>base_of (KX b o e) (by
   cases q:H b with
   | none=>rfl
   | some u=>
    have e':b=a:=hA b (by rw [q]; simp);subst e';rw [hK (by rw [q]; simp)] at e; cases e)
  have hM:Mod K mg (Lr AV.heap H):=⟨hKb,nsK hns,⟨mb,nsK hb,hbb⟩,let ⟨mc,h1,h2⟩:=hlim; ⟨mc,nsK h1,h2⟩⟩
  have e0:UI P w K mg (Lr AV.heap H) callerA [] AV H:=⟨rfl,hM,fun b o e=>Ua e,Nat.le_of_eq (Qj _ _),trivial,fun b hb=>absurd (show b ∈ ([]:List Addr) from hb) (by simp),hok,.of_eq hg⟩
  refine codeAny_mono ((F _ hKb (nsK hns)).run callerA [] AV H ⟨[.ref a],[]⟩ [.ref a] [.ref a] _ _ hr e0 (hbind AV (.ref a)) (.cons rfl .nil) (hsp H hO hS)) fun r s' h=>?_
  cases r with
  | error e=>exact (hCX H e s' h).elim
  | ok fl=>
   cases fl with
   | next=>exact False.elim h
   | brk=>exact False.elim h
   | cont=>exact False.elim h
   | ret u=>
    obtain ⟨v,H',os,bare,un,cV,r',q⟩:=h;have q':v=.bl true:=q;subst q';obtain rfl:u=Value.bool true:=r';refine ⟨rfl,OldK.of_keep fun b o e=>?_,os,bare⟩;cases q:H b with
    | none=>exact un.keep b o e q (by intro z; exact absurd (show b ∈ ([]:List Addr) from z) (by simp)) (by simp)
    | some u=>
     rcases hO b with z | ⟨ob,xs,z⟩
     ·rw [q] at z; cases z
     ·have z2:=un.frzs b ob _ z;obtain ⟨e1,_⟩:=hok b _ z;obtain ⟨e2,_⟩:=cV b _ z2;rw [e] at e1; cases e1;exact e2
 cases hk:K.lookup a with
 | some o=>
  have e:=KX a o hk;rw [ha] at e;cases e
  refine core (fun _=>none) (fun _=>.inl rfl) (.inr ⟨_,vs.toArray,_,hk,rfl,rfl,rfl,by rw [fu,lenV]; exact hl,by simpa using rv⟩) (fun b u z=>by have z':(none:Option HO)=some u:=z; cases z') (fun b z=>absurd rfl z) fun z=>absurd rfl z
 | none=>
  refine core (fun b=>if b=a then some (.frz { cls:=.type "list",data:=.seq vs.toArray } (.lst (ns.map V.int))) else none) (fun b=>?_) (.inl (.inr ⟨{ cls:=.type "list",data:=.seq vs.toArray },if_pos rfl⟩)) (fun b u z=>?_) (fun b z=>?_) fun _=>hk
  ·by_cases hb:b=a
   ·exact .inr ⟨_,_,if_pos hb⟩
   ·exact .inl (if_neg hb)
  ·by_cases hb:b=a
   ·have z':=(if_pos hb).symm.trans z;cases z'
    subst hb;exact ⟨ha,by rw [eU]; exact hl,vs,_,rv,ha⟩
   ·have z':=(if_neg hb).symm.trans z;cases z'
  ·by_cases hb:b=a
   ·exact hb
   ·exact absurd (if_neg hb) z
theorem walk_of {l:j6} {n k:Nat} {q:Program} {loose:List Str} {XP:(Str->Option Value)->Heap->Prop} {YP:World->Heap->Prop} {d:DefRec} {K:Params->eV} {CX:World->SR} {sp:World->Sp} {x:Str}
  (hn:l.most=some n) (aX:n<=sizeLine) (hdf:d.params.defaults=[]) (hr:El k callerA)
  (hY:∀ (w:World) (h:Heap),YP w h->(K w.params).In h)
  (F:∀ (w:World) (mg:Str->Option Value) (fa:Addr) (h:Heap),(K w.params).In h->h.Ns mainGlobals mg->mg d.name=some (.ref fa) ->
   ∃ fd:FuncData,(∀ (s:Shared) (u:Value),BindsTo s fd ⟨[u],[]⟩ [(x,u)]) /\
    ∀ base:Heap,(K w.params).In base->base.Ns mainGlobals mg->A8 l.prog w (K w.params) mg base (CX w) k fa fd [x] (sp w))
  (hsp:∀ (w:World) (H:Hp) (a:Addr) (ns:List Int),ns.length<=n->UC H->Ba (K w.params) H a (ns.map V.int)->sp w [.ref a] H (fun v _=>v=.bl true) fun _ _ _=>False)
  (hCX:∀ (w:World) (H:Hp) (s:Shared) (e:Value) (s':Shared),CX w [] H s (fun _ _ _=>False) e s'->False) :
  kO q loose XP YP l.row.toRowW d [] (fun f vs=>PySem.call f vs):=by
 refine Att.attach_call hn hdf fun w s₀ AV mg mb fa o pm cd doc a vs ns G Y ho hd hcd hmg hobj hints hlen hg=>?_
 have KX:=hY w _ Y;obtain ⟨fd,hb,hF⟩:=F w mg fa _ KX G.T.g hmg;exact RW KX G.T.g G.T.b G.T.builtins G.T.nolimit hg hobj hints (gc hlen aX) hr hF hb (fun H hO hS=>hsp w H a ns hlen hO hS) fun H e s'=>hCX w H AV e s'
def E4 (s:Stmt):Arguments:=match s with
 | .FunctionDef _ a _ _ _ _ _ _ _ _=>a
 | _=>{ posonlyargs:=[],args:=[],vararg:=none,kwonlyargs:=[],kw_defaults:=[],kwarg:=none,defaults:=[] }
def C8 (s:Stmt):List Stmt:=match s with
 | .FunctionDef _ _ b _ _ _ _ _ _ _=>b
 | _=>[]
def Ap (s:Stmt):Scope:=match s with
 | .FunctionDef _ _ _ _ _ _ sc _ _ _=>sc
 | _=>{ kind:=.function,names:=[],isGenerator:=false,isCoroutine:=false }
abbrev B0:SR:=fun _ _ _ _ _ _=>False
abbrev E0:XK:=fun _ _ _=>False
theorem A1 {X:Cx}:NT B0 X E0:=fun _ _ _ _ _ _ _ h=>h.elim
structure DT (K:eV) (x qual:Str) (st:Stmt) (f:Addr) (fd:FuncData):Prop where
 ex:∃ (oc:Value) (od:Option Addr) (kV doc pm:Value) (an:Option Addr) (cdv ct:Value) (osl:Array (Option Value)),
  fd=hZ x qual (E4 st) (C8 st) (Ap st) .none kV doc pm an cdv ct/\K.lookup f=some ⟨oc,od,.func fd,osl⟩/\jb K cdv qual=true
 kp:iZ K (.ref f)=true
section
variable {P:Program} {w:World} {K:eV} {mg:Str->Option Value} {base:Heap}
theorem DT.ok {x qual:Str} {st:Stmt} {f:Addr} {fd:FuncData} {N ps:List Str} {k:Nat} {sp:Sp} (F:DT K x qual st f fd) (S:A4 N ps (Ap st)) (len:∀ vs H Q E,sp vs H Q E->vs.length=ps.length)
  (hbody:∀ (cdv:Value) (A:Around) (outer:List Env) (s:Shared) (H:Hp) (vs:List V) (Q:VK) (E:XK),El k (A.deeper (envOfC qual (Ap st) s.heap.objs.size f cdv))->sp vs H Q E ->
   ∃ t,NU (MB B0 P w K mg base N qual (Ap st) f cdv A outer s H E).nox (C8 st) t/\t { nx:=fun _ H'=>Q .non H',rt:=Q } (start N vs) H):A8 P w K mg base B0 (k + 1) f fd ps sp:=by
 obtain ⟨oc,od,kV,doc,pm,an,cdv,ct,osl,rfl,lk,hcd⟩:=F.ex;refine fn_of lk hcd S len fun A outer s H vs Q E hr hsp=>?_
 obtain ⟨t,h,q⟩:=hbody cdv A outer s H vs Q E hr hsp;exact ⟨t,h.nox,q⟩
theorem DT.binds {x qual:Str} {st:Stmt} {f:Addr} {fd:FuncData} {ps:List Str} (F:DT K x qual st f fd)
  (h:∀ (kV doc pm:Value) (an:Option Addr) (cdv ct:Value) (us:List Value),us.length=ps.length->bindArgs (hZ x qual (E4 st) (C8 st) (Ap st) .none kV doc pm an cdv ct) ⟨us,[]⟩=pure (ps.zip us)):HG K fd ps []:=by
 obtain ⟨oc,od,kV,doc,pm,an,cdv,ct,osl,rfl,lk,hcd⟩:=F.ex;exact .all (h kV doc pm an cdv ct)
theorem Xe {x qual:Str} {st:Stmt} {f:Addr} {oc:Value} {od an:Option Addr} {osl:Array (Option Value)} {kV doc pm cdv ct:Value} (l:K.lookup f=some ⟨oc,od,.func (hZ x qual (E4 st) (C8 st) (Ap st) .none kV doc pm an cdv ct),osl⟩)
  (c:jb K cdv qual=true) (k:iZ K (.ref f)=true):DT K x qual st f (hZ x qual (E4 st) (C8 st) (Ap st) .none kV doc pm an cdv ct):=⟨⟨oc,od,kV,doc,pm,an,cdv,ct,osl,rfl,l,c⟩,k⟩
end
theorem Dm {A:Around} {k:Nat} (hr:El k A):A.units + 1 < cLine:=Nat.lt_of_le_of_lt (Nat.add_le_add_left (by decide:1<=64) _) hr.units
section
variable {X:Cx}
theorem pv (i:Nat) {x:Str} {pos:Pos} (hN:X.N[i]? = some x:=by rfl) (hv:Vis X.env.scope x:=by first | exact Or.inl rfl | exact Or.inr (Or.inl rfl) | exact Or.inr (Or.inr rfl)) (hd:(x == ("__debug__":Str))=false:=by decide)
  (hcd:(x == ("__classdict__":Str))=false:=by decide):PE X (.Name x pos) (To i):=W0 hN hv hd hcd
end
theorem BO {A B:Prop} (h:B):if false=true then A else B:=by
 rw [if_neg fH];exact h
theorem CS {A B:Prop} (h:A):if true=true then A else B:=by
 rw [if_pos rfl];exact h
theorem DP {c A B:Prop} [Decidable c] (h1:c->A) (h2:¬ c->B):if c then A else B:=by
 by_cases h:c
 ·rw [if_pos h];exact h1 h
 ·rw [if_neg h];exact h2 h
def Aq (H H':Hp):Prop:=∀ b o,H b=some o->H' b=some o
theorem Aq.refl (H:Hp):Aq H H:=fun _ _ h=>h
theorem Aq.trans {H H1 H2:Hp} (a:Aq H H1) (b:Aq H1 H2):Aq H H2:=fun c o h=>b c o (a c o h)
theorem Aq.free {H H':Hp} (e:Aq H H') {l:Addr} (h:H' l=iA):H l=iA:=by
 cases q:H l with
 | none=>rfl
 | some o=>
  rw [e l o q] at h;cases h
section
variable {κ:Type} [DecidableEq κ]
theorem QL {kvs:List (κ × V)} {k:κ} (h:Bz kvs k=none):¬ k ∈ kvs.map (·.1):=by
 intro m;obtain ⟨p,hp,e⟩:=fi.mp m;have q:(kvs.any fun kv=>decide (kv.1=k))=true:=iB.mpr ⟨p,hp,decide_eq_true e⟩;rw [Cr,h] at q;exact absurd q (by simp)
end
abbrev Ay (X:Cx) (scope:Scope) (cl:List (Str × Addr)) (N:List Str) (s2:Shared) (H:Hp) (C:Addr) (fp:List Addr):Cx where
 prog:=X.prog
 w:=X.w
 K:=X.K
 mg:=X.mg
 base:=X.base
 A:=X.A
 N:=N
 s₀:=s2
 H₀:=H
 env:=compEnvC scope cl C X.env
 outer:=X.stack
 stack:=X.stack
 ex:=fp
 fn:=fun _=>false
 calm:=X.calm
 pn:=[]
 xe:=fun _ _=>False
structure AF (X:Cx) (scope:Scope) (cl:List (Str × Addr)):Prop where
 clos:closureFor scope X.env=pure cl
 cell:∀ y ∈ scope.names,y.2 ≠ .cell
 kind:scope.kind=.function
 names:∀ y ∈ scope.names,y.2=.local->scope.names.lookup y.1=some .local
 sub:∀ x c,cl.lookup x=some c->X.env.cells.lookup x=some c
 has:∀ x,((relabel scope X.env).names.lookup x=some .cell\/(relabel scope X.env).names.lookup x=some .free)->∃ c,cl.lookup x=some c
def AU (X:Cx) (cl:List (Str × Addr)) (scope:Scope) (N:List Str) (σ Av:St):Prop:=
 Av.length=N.length/\∀ (i:Nat) (x:Str) (v:V),N[i]? = some x->Av[i]? = some (some v) ->
  (∃ j:Nat,X.N[j]? = some x/\σ[j]? = some (some v))/\(X.env.kindOf x=some .cell\/X.env.kindOf x=some .free) /\
   ((relabel scope X.env).names.lookup x=some .cell\/(relabel scope X.env).names.lookup x=some .free)
theorem AU.none (X:Cx) (cl:List (Str × Addr)) (scope:Scope) (N:List Str) (σ:St):AU X cl scope N σ (N.map fun _=>iA):=by
 refine ⟨by simp,fun i x v h1 h2=>?_⟩;rw [eZ,h1] at h2;cases h2
section
variable {X:Cx} {pins:List (Addr × Obj)} {σ Av:St} {H H':Hp} {s2 s':Shared} {scope:Scope} {cl:List (Str × Addr)} {N:List Str} {fp:List Addr} {C D:Addr} {Bd h':Heap} {t':Nat}
theorem Jp (I:As X pins σ H s2) (hf:∀ b ∈ fp,Em X pins H b) (hfo:∀ b ∈ fp,∃ o,s2.heap.get? b=some o) (co:AF X scope cl) (hσ:AU X cl scope N σ Av)
  (k:∀ b o,s2.heap.get? b=some o->Bd.get? b=some o) (hD:s2.heap.objs.size<=D) (hC:s2.heap.objs.size<=C) (hDC:C ≠ D)
  (new:Bd.get? D=some { cls:=.type "list",data:=.seq ([]:List Value).toArray 0 }\/∃ n,Bd.get? D=some { cls:=.type "list",data:=.seq ([]:List Value).toArray n }) {m:Str->Option Value} (hn:Bd.Ns C m) :
  As (Ay X scope cl N s2 H C fp) [] Av (upd H D (.lst [])) { s2 with heap:=Bd,toks:=t' }:=by
 have fD:H D=none:=I.hok.fresh hD;have fC:H C=none:=I.hok.fresh hC;have newO:AL X.prog X.w (upd H D (.lst [])) Bd D (.lst []):=by
  exists gr _,[]
  rcases new with e | ⟨n,e⟩
  ·exact ⟨0,.nil,e⟩
  ·exact ⟨n,.nil,e⟩
 have lts:∀ b ∈ fp,b < s2.heap.objs.size:=fun b hb=>let ⟨_,e⟩:=hfo b hb; fb e
 have cells_lt:∀ x c,cl.lookup x=some c->c < s2.heap.objs.size:=fun x c e=>by
  obtain ⟨v,q⟩:=I.cell x c (co.sub x c e);exact q.lt
 have ok:Cx.Ok (Ay X scope cl N s2 H C fp):=by
  refine ⟨I.ok.mod,?_,I.ok.glob,I.ok.blt,hC,?_,?_,?_,I.ok.hd,I.ok.frames,.inl rfl,?_,I.bs,gc I.ok.bsz I.sz,?_,?_,I.stack,I.stkFree⟩
  ·exact co.kind
  ·exact fun x y c e1 e2=>I.ok.inj x y c (co.sub x c e1) (co.sub y c e2)
  ·exact fun x h=>co.has x h
  ·exact fun x c h _=>by cases h
  ·intro b hb;refine ⟨fun e=>?_,fun x c e=>(hf b hb).2.2.2.2.1 x c (co.sub x c e)⟩;have z:=lts b hb;exact absurd (fk z hC) (by rw [show b=C from e]; exact gC _)
  ·intro b o e hb;have HR:b ∈ fp:=hb;rcases (hf b HR).2.2.2.1 with z | z
   ·exact I.ok.noex b o e z
   ·exact absurd (fk (fb e) (gc I.ok.bsz z)) (gC _)
  ·intro b hb hz;have HR:b ∈ fp:=hb;obtain ⟨_,f1,f2,_⟩:=hf b HR;rcases eX.mp (I.stkSub b hz) with e | e
   ·exact f1 e
   ·exact f2 e
 refine ⟨ok,rfl,I.bare,Un.laid k hD fD,?_,?_,?_,?_,?_,I.hok.laid k hD newO,hσ.1⟩
 ·refine ⟨m,hn,fun i x v e1 e2 _=>?_⟩;obtain ⟨⟨j,j1,j2⟩,kk,kr⟩:=hσ.2 i x v e1 e2;obtain ⟨mo,_,hl⟩:=I.loc;obtain ⟨u,r,l⟩:=hl j x v j1 j2 (by
   rcases kk with z | z
   ·exact .inr (.inl z)
   ·exact .inr (.inr z))
  refine ⟨u,r,.inr ⟨kr,?_⟩⟩;obtain ⟨c,hc⟩:=co.has x kr;rcases l with ⟨z,_⟩ | ⟨_,c',LC,hcell⟩
  ·rcases kk with q | q
   ·rw [z] at q; cases q
   ·rw [z] at q; cases q
  ·have e3:=co.sub x c hc;rw [LC] at e3;have e4:c'=c:=fV.inj e3;subst e4;obtain ⟨o,ho,hd⟩:=hcell;exact ⟨c',hc,o,k _ o ho,hd⟩
 ·intro x c e;obtain ⟨v,o,ho,hd⟩:=I.cell x c (co.sub x c e);exact ⟨v,o,k _ o ho,hd⟩
 ·show upd H D (.lst []) C=none
  rw [Ae hDC];exact fC
 ·intro x c e;rw [Ae (fj (fk (cells_lt x c e) hD))];exact I.freeC x c (co.sub x c e)
 ·intro p hp;cases hp
theorem Gh {pl:List (Addr × Obj)} (I:As X pins σ H s2) (hf:∀ b ∈ fp,Em X pins H b) (hC:s2.heap.objs.size<=C) (I2:As (Ay X scope cl N s2 H C fp) pl Av H' s')
  (hs:Heap.SameBut C s'.heap h'):As X pins σ H' { s' with heap:=h' }:=by
 have nC:∀ b o,s2.heap.get? b=some o->b ≠ C:=fun b o e=>fj (fk (fb e) hC)
 have u:=I2.base;refine I.call' (s':={ s' with heap:=h' }) (ch:=fp) I2.os ⟨?_,?_,u.free,?_,u.tups,u.frzs,u.tbls⟩ ?_ I2.bare fun b hb=>?_
 ·exact fun b o e n h1 h2=>(hs.2 b (nC b o e)).trans (u.keep b o e n h1 h2)
 ·intro b o e n h1 h2;obtain ⟨sl,q⟩:=u.slot b o e n h1 h2;exact ⟨sl,(hs.2 b (nC b o e)).trans q⟩
 ·intro b o e h2;obtain ⟨o',q⟩:=u.there b o e h2;exact ⟨o',(hs.2 b (nC b o e)).trans q⟩
 ·intro b ob e;have hfree:H' C=none:=I2.free;refine (I2.hok b ob e).stay (fun c w' hc q=>(hs.2 c ?_).trans q) (fun _ q=>q) fun _ _ q=>q
  rintro rfl;rcases hc with rfl | hc
  ·rw [hfree] at e; cases e
  ·rw [hfree] at hc; cases hc
 ·obtain ⟨_,f1,_,f3,f4,f5⟩:=hf b hb;exact ⟨f3,f1,f4,f5⟩
end
section
variable {prog:Program} {w:World} {A:Around} {R:Result->Shared->Prop} {s:Shared}
theorem BR {elt target iter:Expr} {ifs:List Expr} {scope:Scope} {pos:Pos} {it acc:Value} {env:Env} (I:Nat->Shared->Prop)
  (turn:∀ n s,I n s->wpAny (model prog w) A (pyNext it) (fun r AV=>match r with
   | none=>R (.ok .next) AV
   | some v=>wpAny (model prog w) A (letOwnedTupleGo target it v) (fun _ LM=>wpAny (model prog w) A (assign target env v) (fun _ EB=>
     wpAny (model prog w) A (forIn ifs true fun c r=>if r=true then do let ok <- isTrue c env (eval c env); pure (ForInStep.yield ok) else pure (ForInStep.yield r)) (fun ok Co=>
      if ok=true then wpAny (model prog w) A (eval elt env) (fun x QP=>
       wpAny (model prog w) A (call (.builtin "list.append") [acc,x]) (fun _ QO=>∃ m,m < n/\I m QO) (notedBy (model prog w) A env fun e s'=>R (.error e) s') QP) (notedBy (model prog w) A env fun e s'=>R (.error e) s') Co
      else ∃ m,m < n/\I m Co) (notedBy (model prog w) A env fun e s'=>R (.error e) s') EB) (notedBy (model prog w) A env fun e s'=>R (.error e) s') LM) (notedBy (model prog w) A env fun e s'=>R (.error e) s') AV) (notedBy (model prog w) A env fun e s'=>R (.error e) s') s)
  (n:Nat) (h:I n s) :
  codeAny (model prog w) A (.compLoop (.ListComp elt [⟨target,iter,ifs,0⟩] scope pos) 0 it acc env) R s:=by
 refine codeAny_loop rfl I (fun n s hI=>?_) n h;show wpAny _ A ((compTurn (.ListComp elt [⟨target,iter,ifs,0⟩] scope pos) 0 it acc env).onRaise (fun x=>do noteFrame x env; theTreesLotGoes x)) _ _ s
 refine wpAny_noted ?_;rw [compTurn_list];refine wpAny_bind (wpAny_standAt (wpAny_bind (wpAny_mono (turn n s hI) (fun r AV Bd=>?_) fun _ _ h'=>h')));cases r with
 | none=>exact wpAny_pure Bd
 | some v=>
  refine wpAny_bind (wpAny_mono Bd (fun _ LM Se=>?_) fun _ _ h'=>h');refine wpAny_bind (wpAny_mono Se (fun _ EB GQ=>wpAny_bind (wpAny_mono GQ (fun ok Co HQ=>?_) fun _ _ h'=>h')) fun _ _ h'=>h');cases ok with
  | false=>exact wpAny_pure ⟨rfl,HQ⟩
  | true=>
   exact wpAny_bind (wpAny_bind (wpAny_mono HQ (fun x QP N1=>wpAny_bind (wpAny_mono N1 (fun _ QO CT=>wpAny_pure (wpAny_pure ⟨rfl,CT⟩)) fun _ _ h'=>h')) fun _ _ h'=>h'))
end
def Xz (X:Cx) (ifs:List Expr) (t:TT):Prop:=
 ∀ ⦃pins:List (Addr × Obj)⦄ (s:Shared) (σ:St) (H:Hp) (Q:Bool->Hp->Prop),As X pins σ H s->t σ H Q ->
  wpAny (model X.prog X.w) X.A (forIn ifs true fun c r=>if r=true then do let ok <- isTrue c X.env (eval c X.env); pure (ForInStep.yield ok) else pure (ForInStep.yield r)) (TP X pins σ Q) X.xe s
def J8:TT:=fun _ H Q=>Q true H
theorem AO {X:Cx}:Xz X [] J8:=fun _ _ _ H _ I h=>wpAny_tests_nil ⟨H,I,h⟩
theorem KW {X:Cx} {c:Expr} {t:TT} (h:PT X c t):Xz X [c] t:=fun pins s σ H Q I q=>wpAny_tests_one (h (pins:=pins) s σ H Q I q)
def Od (wi:TI) (g:TG) (tt:TT) (te:TE) (σ0:St->St):TE:=fun σ H Q=>wi σ H fun J H1=>∀ D,H1 D=none->∃ W:Nat->Nat->St->Hp->Prop,(∃ m,W 0 m (σ0 σ) (upd H1 D (.lst []))) /\
 ∀ i m Av H',W i m Av H'->(J.stop i H'/\Q (.ref D) H')\/(J.go i H'/\∀ x H2,J.yld i H' x H2->g x Av H2 fun A6 H3=>tt A6 H3 fun b H4=>
  if b=true then te A6 H4 (fun v H5=>∃ acc,H5 D=some (.lst acc)/\acc.length < sizeLine/\∃ m',m' < m/\W (i + 1) m' A6 (upd H5 D (.lst (acc ++ [v])))) else ∃ m',m' < m/\W (i + 1) m' A6 H4)
theorem Bf {X:Cx} {tg iter elt:Expr} {ifs:List Expr} {scope:Scope} {cl:List (Str × Addr)} {N:List Str} {pos:Pos} {wi:TI} {g:TG} {tt:TT} {te:TE} {σ0:St->St} (hc:X.calm=true) (co:AF X scope cl)
  (hσ:∀ σ,σ.length=X.N.length->AU X cl scope N σ (σ0 σ)) (hi:PI X tg iter wi)
  (hb:∀ s2 H C fp,PG (Ay X scope cl N s2 H C fp) tg g/\Xz (Ay X scope cl N s2 H C fp) ifs tt/\PE (Ay X scope cl N s2 H C fp) elt te)
  (hs:∀ x,foldedSetIterable iter X.env x=pure x:=by intro _; rfl):PE X (.ListComp elt [⟨tg,iter,ifs,0⟩] scope pos) (Od wi g tt te σ0):=by
 intro pins s σ H Q I h;rw [eval_ListComp];refine wpAny_comprehension_free (use:=none) rfl hs co.clos co.kind co.names (wpAny_mono (hi (pins:=pins) s σ H _ I h) (fun xv s1 h1=>wpAny_mono h1 (fun itv s2 h2=>?_) fun _ _ e=>e) fun _ _ e=>e);obtain ⟨it,fp,tn,J,H2,rfl,I2,T,FO,f2,hW⟩:=h2;refine wpAny_newObj_type (wpAny_newFunctionEnv co.cell (by intro y hy; cases hy) (fun Bd BQ BE=>?_) co.kind);dsimp only at BQ BE ⊢;generalize Lx:s2.heap.push { cls:=.type "list",dict:=none,data:=.seq ([]:List Value).toArray } = HH at BQ BE ⊢;have BM:HH.objs.size=s2.heap.objs.size + 1:=by rw [<-Lx,gh]
 have old:∀ b o,s2.heap.get? b=some o->Bd.get? b=some o:=fun b o e=>
  BE.extBut b o (fj (by rw [BM]; exact gf (fb e))) (eT _ (Lx ▸ eT _ e))
 have newD:∃ n,Bd.get? s2.heap.objs.size=some { cls:=.type "list",data:=.seq ([]:List Value).toArray n }:=
  ⟨_,BE.extBut _ _ (fj (by rw [BM]; exact gi _)) (eT _ (Lx ▸ fe _ rfl))⟩
 obtain ⟨W,⟨m0,w0⟩,turn⟩:=hW s2.heap.objs.size I2.fresh;have hfo:∀ b ∈ fp,∃ o,s2.heap.get? b=some o:=fun b hb=>let ⟨o,e,_⟩:=T.obj _ _ FO b hb; ⟨o,e⟩
 have I3:As (Ay X scope cl N s2 H2 HH.objs.size fp) [] (σ0 σ) (upd H2 s2.heap.objs.size (.lst [])) { s2 with heap:=Bd,toks:=s2.toks + ([]:List (Str × Value)).length }:=
  Jp I2 f2 hfo co (hσ σ I.len) old (fc _) (by rw [BM]; exact gy _) (gB (by rw [BM]; exact gi _)) (.inr newD) BQ
 have fC:s2.heap.objs.size<=HH.objs.size:=by rw [BM]; exact gy _
 obtain ⟨hg,ht,he⟩:=hb s2 H2 HH.objs.size fp;have loop:∀ Co:Shared,Co = { s2 with heap:=Bd,toks:=s2.toks + ([]:List (Str × Value)).length } ->
   codeAny (model X.prog X.w) X.A (.compLoop (.ListComp elt [⟨tg,iter,ifs,0⟩] scope pos) 0 (.ref it) (.ref s2.heap.objs.size) (compEnvC scope cl HH.objs.size X.env))
    (compPost (model X.prog X.w) X.A X.xe none (EP X pins σ Q) (.ref s2.heap.objs.size) HH.objs.size) Co:=by
  rintro Co rfl;have stat:∀ {H':Hp} ,(∀ b ∈ fp,H' b=none)->∀ b ∈ fp,Em (Ay X scope cl N s2 H2 HH.objs.size fp) [] H' b:=fun hn b hb=>by
   refine ⟨hn b hb,?_,?_,.inl hb,?_,fun p hp=>by cases hp⟩
   ·obtain ⟨o,e⟩:=hfo b hb;exact fj (show b < HH.objs.size by rw [BM]; exact gf (fb e))
   ·intro hz;obtain ⟨_,q1,q2,_⟩:=f2 b hb;rcases eX.mp (I2.stkSub b hz) with e | e
    ·exact q1 e
    ·exact q2 e
   ·exact fun x c e=>(f2 b hb).2.2.2.2.1 x c (co.sub x c e)
  refine BR (fun n s'=>∃ i Av H',As (Ay X scope cl N s2 H2 HH.objs.size fp) [] Av H' s'/\tn i s'.heap/\(∀ b ∈ fp,H' b=none)/\W i n Av H') ?_ m0
   ⟨0,σ0 σ,_,I3,T.keep _ _ _ FO fun b hb o e=>old b o e,fun b hb=>?_,w0⟩
  ·rintro n s4 ⟨i,Ia,H4,I4,MN,OK,w4⟩;rcases turn i n Ia H4 w4 with ⟨stop,qn⟩ | ⟨go,step⟩
   ·refine wpAny_mono (T.done (Ay X scope cl N s2 H2 HH.objs.size fp) rfl rfl rfl hc i [] s4 Ia H4 (fun _ _=>False) I4 (stat OK) MN stop) (fun r s5 ⟨hr,I5⟩=>?_) fun _ _ z=>z.elim
    subst hr;obtain ⟨m5,Uq,_⟩:=id I5.loc;exact ⟨m5,Uq,fun h' Up=>⟨.ref _,H4,Gh I2 f2 fC I5 Up,rfl,qn⟩⟩
   ·refine wpAny_mono (T.item (Ay X scope cl N s2 H2 HH.objs.size fp) rfl rfl rfl hc i [] s4 Ia H4 (fun _ _=>False) I4 (stat OK) MN go) (fun r s5 ⟨u,hr,h5⟩=>?_) fun _ _ z=>z.elim
    subst hr;refine wpAny_mono h5 (fun _ s6 ⟨x,H6,I6,r6,y6,KD,Uv⟩=>?_) fun _ _ z=>z.elim
    have UE:=I6.pinned (stat Uv) (T.obj _ _ KD);refine wpAny_mono (hg s6 Ia H6 x u _ UE r6 (step x H6 y6)) (fun _ s7 ⟨EZ,H7,I7,q7⟩=>?_) fun _ _ z=>z.elim
    refine wpAny_mono (ht s7 EZ H7 _ I7 q7) (fun ok s8 ⟨H8,I8,q8⟩=>?_) fun _ _ z=>z.elim
    have again:∀ {s9:Shared} {HZ:St} {H9:Hp} ,As (Ay X scope cl N s2 H2 HH.objs.size fp) ([] ++ Ex fp s6.heap) HZ H9 s9->(∃ m',m' < n/\W (i + 1) m' HZ H9)->∃ m,m < n/\∃ i Av H',As (Ay X scope cl N s2 H2 HH.objs.size fp) [] Av H' s9/\tn i s9.heap/\(∀ b ∈ fp,H' b=none)/\W i m Av H':=fun {s9 HZ H9} I9 n9=>by
     obtain ⟨m',hm,w9⟩:=n9;refine ⟨m',hm,i + 1,HZ,H9,I9.unpinned,T.keep _ _ _ KD fun b hb o e=>(I9.pin (b,o) (fm _ (fm _ (Bo hb e)))).1,fun b hb=>?_,w9⟩;obtain ⟨o,e,d⟩:=T.obj _ _ KD b hb;exact (I9.pin (b,o) (fm _ (fm _ (Bo hb e)))).2.1
    cases ok with
    | false=>
     rw [if_neg fH] at q8 ⊢;exact again I8 q8
    | true=>
     rw [if_pos rfl] at q8 ⊢;refine wpAny_mono (he s8 EZ H8 _ I8 q8) (fun y s9 ⟨v,H9,I9,r9,acc,hacc,hsz,q9⟩=>?_) fun _ _ z=>z.elim
     refine wpAny_mono (Bj (X:=Ay X scope cl N s2 H2 HH.objs.size fp) s9 EZ H9 (.ref s2.heap.objs.size) [v] (.ref s2.heap.objs.size) [y] (fun _ MR=>∃ m',m' < n/\W (i + 1) m' EZ MR) I9 rfl (.cons r9 .nil) ⟨_,acc,v,rfl,rfl,hacc,hsz,q9⟩) (fun _ XU ⟨_,MR,UG,_,TJ⟩=>?_) fun _ _ z=>z.elim
     exact again UG TJ
  ·have z:=(f2 b hb).1;obtain ⟨o,e⟩:=hfo b hb;rw [Ae (fj (fb e))];exact z
 exact codeAny_compStart_list (loop _ rfl) (T.self _ 0 _ _ _ (T.keep _ _ _ FO fun b hb o e=>old b o e) (loop _ rfl))
def Its (x:Str):It:=⟨fun i _=>i < x.cps.size,fun i H v H'=>H'=H/\∃ c,x.cps[i]? = some c/\v=.str ⟨#[c]⟩,fun i _=>x.cps.size<=i⟩
theorem Pe {P:Program} {w:World} {K:eV} {tg:Expr} (it:Addr) (x:Str) (t:Tok):MI P w K tg (Its x) [it] it (fun i h=>h.IsStrIter it "str_ascii_iterator" x t i) where
 mem:=by simp
 obj:=fun i h st b hb=>by
  have e:b=it:=by simpa using hb
  subst e;obtain ⟨o,e,c,d⟩:=st;exact ⟨o,e,fun v z=>by rw [d] at z; cases z⟩
 keep:=fun i h h' st k=>let ⟨o,e,r⟩:=st; ⟨o,k it (by simp) o e,r⟩
 item:=by
  intro X hP hw hK hc i pins s σ H E I hf st hg;subst hP hw hK;obtain ⟨f0,f1,f2,f3,f4,f5⟩:=hf it (by simp);have Sl:i < x.cps.size:=hg;refine wpAny_pyNext_ascii_item st (c:=x.cps[i]) (by simp [Sl]) fun h' AZ sb=>?_
  have I1:As X pins σ H { s with heap:=h',toks:=s.toks + 1 }:=I.turned (fun b o hb e=>(sb.2 b hb).trans e) f0 f1 f3 f4 f5;obtain ⟨o,e,c,d⟩:=id AZ;exact ⟨_,rfl,Ks (s:={ s with heap:=h',toks:=s.toks + 1 }) e c d (by decide) ⟨.str ⟨#[x.cps[i]]⟩,H,I1,⟨_,rfl⟩,⟨rfl,_,by simp [Sl],rfl⟩,AZ,fun b hb=>(hf b hb).1⟩⟩
 done:=by
  intro X hP hw hK hc i pins s σ H E I hf st hg;subst hP hw hK;obtain ⟨f0,f1,f2,f3,f4,f5⟩:=hf it (by simp);have Sl:x.cps.size<=i:=hg;exact wpAny_pyNext_ascii_end (I.ok.hd hc) st (by simp [Sl]) fun h' eb=>⟨rfl,I.turned (t':=s.toks) (fun b o hb e=>eb b o hb e) f0 f1 f3 f4 f5⟩
 self:=fun _ _ _ _ _ st h=>wpAny_pyIter_striter_ascii st h
theorem Pd {P:Program} {w:World} {K:eV} {tg:Expr} (it:Addr) (x:Str) (t:Tok):MI P w K tg (Its x) [it] it (fun i h=>h.IsStrIter it "str_iterator" x t i) where
 mem:=by simp
 obj:=fun i h st b hb=>by
  have e:b=it:=by simpa using hb
  subst e;obtain ⟨o,e,c,d⟩:=st;exact ⟨o,e,fun v z=>by rw [d] at z; cases z⟩
 keep:=fun i h h' st k=>let ⟨o,e,r⟩:=st; ⟨o,k it (by simp) o e,r⟩
 item:=by
  intro X hP hw hK hc i pins s σ H E I hf st hg;subst hP hw hK;obtain ⟨f0,f1,f2,f3,f4,f5⟩:=hf it (by simp);have Sl:i < x.cps.size:=hg;refine wpAny_pyNext_wide_item st (c:=x.cps[i]) (by simp [Sl]) fun h' AZ sb=>?_
  have I1:As X pins σ H { s with heap:=h',toks:=s.toks + 1 }:=I.turned (fun b o hb e=>(sb.2 b hb).trans e) f0 f1 f3 f4 f5;obtain ⟨o,e,c,d⟩:=id AZ;exact ⟨_,rfl,Ks (s:={ s with heap:=h',toks:=s.toks + 1 }) e c d (by decide) ⟨.str ⟨#[x.cps[i]]⟩,H,I1,⟨_,rfl⟩,⟨rfl,_,by simp [Sl],rfl⟩,AZ,fun b hb=>(hf b hb).1⟩⟩
 done:=by
  intro X hP hw hK hc i pins s σ H E I hf st hg;subst hP hw hK;obtain ⟨f0,f1,f2,f3,f4,f5⟩:=hf it (by simp);have Sl:x.cps.size<=i:=hg;exact wpAny_pyNext_wide_end (I.ok.hd hc) st (by simp [Sl]) fun h' eb=>⟨rfl,I.turned (t':=s.toks) (fun b o hb e=>eb b o hb e) f0 f1 f3 f4 f5⟩
 self:=fun _ _ _ _ _ st h=>wpAny_pyIter_striter_wide st h
def iStr (tl:TE):TI:=fun σ H R=>tl σ H fun x H1=>∃ z,x=.str z/\R (Its z) H1
theorem Wv {X:Cx} {tg l:Expr} {tl:TE} (hl:PE X l tl):PI X tg l (iStr tl):=by
 intro pins s σ H R I h;refine Bt (hl (pins:=pins) s σ H _ I h) fun v s1 ⟨x,H1,I1,r1,q1⟩=>?_
 obtain ⟨z,rfl,q⟩:=q1;obtain ⟨t,rfl⟩:=r1;have fin:∀ b ∈ [s1.heap.objs.size],Em X pins H1 b:=fun b hb=>by
  have e:b=s1.heap.objs.size:=by simpa using hb
  subst e;exact I1.fpOk (fc _) (I1.hok.fresh (fc _))
 cases ha:z.cps.all (· < 128)
 ·exact wpAny_pyIter_wide ha ⟨s1.heap.objs.size,[s1.heap.objs.size],_,_,H1,rfl,I1.kept (t':=s1.toks) fun b o e=>eT _ e,Pd _ z t,⟨_,fe _ rfl,rfl,rfl⟩,fin,q⟩
 ·exact wpAny_pyIter_ascii ha ⟨s1.heap.objs.size,[s1.heap.objs.size],_,_,H1,rfl,I1.kept (t':=s1.toks) fun b o e=>eT _ e,Pe _ z t,⟨_,fe _ rfl,rfl,rfl⟩,fin,q⟩
theorem BU {X:Cx} (hc:X.calm=true):Bv X (.builtin "all") (fun xs H Q=>∃ (p:Addr) (bs:List Bool),xs=[.ref p]/\Ba X.K H p (bs.map V.bl)/\Q (.bl (bs.all id)) H):=by
 intro pins s σ H xs us Q I r h;obtain ⟨p,bs,rfl,hq,q⟩:=h;obtain ⟨u,rfl,ru⟩:=Cq r;cases ru
 obtain ⟨Ar,rv,pl,hz⟩:=I.list hq;have hlen:Ar.length=bs.length:=by rw [<-rv.length,eU]
 refine call_all_walk (wpAny_pyIter_list pl.isList ?_);have hne:p ≠ s.heap.objs.size:=by
  obtain ⟨o,n,e,_⟩:=pl;exact fj (fb e)
 exists s.heap.objs.size,_,_,_,_,_,fun i=>bs.getD i true,rfl,Walks.list (A:=X.A.in1) (I.ok.hd hc) s.heap.objs.size p hne Ar.toArray,⟨⟨_,fe _ rfl,rfl,rfl⟩,?_⟩,?_
 ·exact pl.isList.at fun o e=>eT _ e
 ·intro i v s1 Q1 E1 hv hQ;have hv':Ar[i]? = some v:=by simpa using hv
  have hb:∃ b,bs[i]? = some b:=by
   cases e:bs[i]? with
   | some b=>exact ⟨b,rfl⟩
   | none=>
    have:=List.getElem?_eq_none_iff.mp e;have:=(fh.mp hv').1;lia
  obtain ⟨b,hb⟩:=hb;obtain ⟨u,hu,ru⟩:=rv.get (i:=i) (x:=V.bl b) (by rw [eZ,hb]; rfl);rw [hv'] at hu;cases hu
  cases ru
  have e:bs.getD i true=b:=by rw [fS,hb]; rfl
  have hQ':Q1 (bs.getD i true) s1:=hQ;rw [e] at hQ';exact wpAny_truthy_bool hQ'
 ·intro h' tk hk;have e:(gR Ar.toArray.size).all (fun i=>bs.getD i true)=bs.all id:=by
   rw [fu,hlen];apply gP.mpr;simp only [gz,i7,id];constructor
   ·intro h b hb;obtain ⟨i,hi,e⟩:=fY hb;have:=h i hi;rw [fS,eR hi] at this;simpa [e] using this
   ·intro h i hi;rw [fS,eR hi];exact h _ (gI hi)
  rw [e];refine ⟨.bl _,H,?_,rfl,q⟩;have I1:As X pins σ H { s with heap:=s.heap.push { cls:=.type "list_iterator",data:=.fields #[.ref p,.int 0 0] } }:=I.kept (t':=s.toks) fun b o e=>eT _ e
  have F:=I.fpOk (fc _) (I.hok.fresh (fc _));obtain ⟨f0,f1,f2,f3,f4,f5⟩:=F;exact I1.turned (it:=s.heap.objs.size) (fun b o hb e=>hk b o (by simpa using hb) e) f0 f1 f3 f4 f5
theorem BS {X:Cx}:Bv X (.builtin "isinstance") (fun xs H Q=>∃ x c t b,xs=[x,.ty c]/\Dy X.K H x t/\i5 X.K t (.type c)=some b/\Q (.bl b) H):=by
 intro pins s σ H xs us Q I r h;obtain ⟨x,c,t,b,rfl,ty,e,q⟩:=h;obtain ⟨u,v,rfl,rx,rc⟩:=Oc r;cases rc
 exact Qh I rx ty e fun tk=>⟨.bl b,H,I.tok tk,rfl,q⟩
theorem Kl {X:Cx}:EC X (compareOp .LtE) (fun x y H Q=>∃ i j,x=.str i/\y=.str j/\Q (.bl (!(decide (j.cps.toList < i.cps.toList)))) H):=by
 intro pins s σ H x y v u Q I rx ry h;obtain ⟨i,j,rfl,rfl,q⟩:=h;obtain ⟨t,rfl⟩:=rx;obtain ⟨t',rfl⟩:=ry;exact PySem.P.le_str ⟨.bl _,H,I,rfl,q⟩
def tSlS (te:TE) (tl th:TO):TE:=fun σ H Q=>te σ H fun x H1=>tl σ H1 fun l H2=>th σ H2 fun u H3=>∃ z,x=.str z/\z.length<=sizeLine/\Q (.str (Txt.slice z l u)) H3
theorem FY {X:Cx} {e:Expr} {te:TE} {lo hi:Option Expr} {tl th:TO} {pos p2:Pos} (he:PE X e te) (hl:PO X lo tl) (hu:PO X hi th):PE X (.Subscript e (.Slice lo hi none p2) pos) (tSlS te tl th):=by
 intro pins s σ H Q I h;refine Subscript_ (Bt (he (pins:=pins) s σ H _ I h) fun v s1 ⟨x,H1,I1,r1,q1⟩=>?_);refine wpAny_Slice (Bt (hl (pins:=pins) s1 σ H1 _ I1 q1) fun vl s2 ⟨l,H2,I2,pl,q2⟩=>Bt (hu (pins:=pins) s2 σ H2 _ I2 q2) fun vu s3 ⟨u,H3,I3,pu,q3⟩=>?_);rw [evalPart_none];refine wpAny_pure ?_;obtain ⟨z,rfl,hz,q⟩:=q3;obtain ⟨t,rfl⟩:=r1;show wpAny (model X.prog X.w) X.A (subscriptTail e (.Slice lo hi none p2) (.str z t) (.ref s3.heap.objs.size)) (EP X pins σ Q) X.xe { s3 with heap:=s3.heap.push { cls:=.type "slice",data:=.fields #[vl,vu,.none] } }
 have kk:KeptH (fun h=>∀ b o,s3.heap.get? b=some o->h.get? b=some o):=fun h ob hh b o e=>eT _ (hh b o e)
 have fin:ItemOn (model X.prog X.w) X.A X.xe (.str z t) (.ref s3.heap.objs.size) (EP X pins σ Q) { s3 with heap:=s3.heap.push { cls:=.type "slice",data:=.fields #[vl,vu,.none] } }:=by
  cases pl with
  | none=>
   cases pu with
   | none=>exact SBH.sliceItem_nn kk (fun _ _ e=>e) (fun h' t' k kp=>⟨.str _,H3,I3.kept kp,⟨_,rfl⟩,q⟩) hz
   | int j uj=>exact SBH.sliceItem_ns kk (fun _ _ e=>e) (fun h' t' k kp=>⟨.str _,H3,I3.kept kp,⟨_,rfl⟩,q⟩) hz
  | int i ui=>
   cases pu with
   | none=>exact SBH.sliceItem_sn kk (fun _ _ e=>e) (fun h' t' k kp=>⟨.str _,H3,I3.kept kp,⟨_,rfl⟩,q⟩) hz
   | int j uj=>exact SBH.sliceItem_ss kk (fun _ _ e=>e) (fun h' t' k kp=>⟨.str _,H3,I3.kept kp,⟨_,rfl⟩,q⟩) hz
 obtain ⟨T,id,hT,ht,hg⟩:=fin;exact tail_any (ops:=[.ref s3.heap.objs.size,.str z t]) ht hT hg (by with_unfolding_all rfl)
theorem Dh {α:Type}:∀ {l:List (Str × α)} {x:Str} {k:α},l.lookup x=some k->(x,k) ∈ l
 | [],_,_,h=>by cases h
 | (n,v) :: r,x,k,h=>by
  rw [iT] at h;by_cases e:x=n
  ·subst e;simp at h;subst h;exact fX
  ·have:(x == n)=false:=beq_eq_false_iff_ne.mpr e;rw [this] at h;exact fK _ (Dh h)
theorem AF.plain {X:Cx} {scope:Scope} (hfree:∀ x ∈ scope.names,x.2 ≠ .free) (hcell:∀ y ∈ scope.names,y.2 ≠ .cell) (hkind:scope.kind=.function)
  (hnames:∀ y ∈ scope.names,y.2=.local->scope.names.lookup y.1=some .local):AF X scope []:=by
 refine ⟨closureFor_none hfree,hcell,hkind,hnames,fun x c h=>(by cases h),fun x h=>?_⟩;have key:∀ k,(relabel scope X.env).names.lookup x=some k->∃ y ∈ scope.names,y.2=k:=by
  intro k e;have m:=Dh e;obtain ⟨⟨n,k'⟩,hm,e'⟩:=fi.mp m;have hf:=hfree _ hm;have:(k' == NameKind.free)=false:=by
   cases k' <;> first | rfl | exact absurd rfl hf
  dsimp only at e';rw [this] at e';simp at e';exact ⟨_,hm,e'.2⟩
 rcases h with h | h
 ·obtain ⟨y,hy,e⟩:=key _ h;exact absurd e (hcell y hy)
 ·obtain ⟨y,hy,e⟩:=key _ h;exact absurd e (hfree y hy)
def GH (c:Nat):Bool:=decide (97<=c) && decide (c<=122)
theorem lt1 (a b:Nat):decide (([a]:List Nat) < [b])=decide (a < b):=by
 apply decide_eq_decide.mpr;rw [List.cons_lt_cons_iff];constructor
 ·rintro (h | ⟨_,h⟩)
  ·exact h
  ·exact absurd h (by simp)
 ·exact fun h=>.inl h
theorem leA (c:Nat):(!(decide ((⟨#[c]⟩:Str).cps.toList < (Str.ofString "a").cps.toList)))=decide (97<=c):=by
 show (!(decide (([c]:List Nat) < [97])))=_
 rw [lt1,<-decide_not];exact decide_eq_decide.mpr (by lia)
theorem leZ (c:Nat):(!(decide ((Str.ofString "z").cps.toList < (⟨#[c]⟩:Str).cps.toList)))=decide (c<=122):=by
 show (!(decide (([122]:List Nat) < [c])))=_
 rw [lt1,<-decide_not];exact decide_eq_decide.mpr (by lia)
def AA (t:Str):Bool:=decide (1<=t.length) && decide (t.length<=6) && t.cps.toList.all GH
def FE (K:eV) (H:Hp) (x:V):Prop:=∃ ty,Dy K H x ty/\i5 K ty (.type "str")=some false
def KH (K:eV):Sp:=fun vs H Q _=>∃ x,vs=[x]/\((∃ t,x=.str t/\t.length<=1000/\∀ H',Aq H H'->Q (.bl (AA t)) H')\/(FE K H x/\Q (.bl false) H))
theorem Ac {H:Hp} {p:Addr} {o:HO} (h:H p=none):Aq H (upd H p o):=fun b u e=>by
 rw [Ae (Ah e h)];exact e
theorem J7 {α β:Type} (f:α->β) (l:List α) (i:Nat) (c:α) (h:l[i]? = some c):(l.take (i + 1)).map f=(l.take i).map f ++ [f c]:=by
 rw [List.take_succ,h,fg];rfl
mutual
inductive F0 (H:Hp):V->PyData->Prop
 | non:F0 H .non .none
 | bl (b:Bool):F0 H (.bl b) (.bool b)
 | int (i:Int):F0 H (.int i) (.int i)
 | str (x:Str):F0 H (.str x) (.str x)
 | tup {a:Addr} {vs:List V} {ds:List PyData}:H a=some (.tup vs)->A2 H vs ds->F0 H (.ref a) (.tuple ds)
 | lst {a:Addr} {vs:List V} {ds:List PyData}:H a=some (.lst vs)->A2 H vs ds->F0 H (.ref a) (.list ds)
inductive A2 (H:Hp):List V->List PyData->Prop
 | nil:A2 H [] []
 | cons {v:V} {vs:List V} {d:PyData} {ds:List PyData}:F0 H v d->A2 H vs ds->A2 H (v :: vs) (d :: ds)
end
mutual
theorem F0.mono {H H':Hp} (s:∀ a o,H a=some o->(∃ vs,o=.tup vs\/o=.lst vs)->H' a=some o):∀ {v:V} {d:PyData},F0 H v d->F0 H' v d
 | _,_,.non=>.non
 | _,_,.bl b=>.bl b
 | _,_,.int i=>.int i
 | _,_,.str x=>.str x
 | _,_,.tup e r=>.tup (s _ _ e ⟨_,.inl rfl⟩) (A2.mono s r)
 | _,_,.lst e r=>.lst (s _ _ e ⟨_,.inr rfl⟩) (A2.mono s r)
theorem A2.mono {H H':Hp} (s:∀ a o,H a=some o->(∃ vs,o=.tup vs\/o=.lst vs)->H' a=some o):∀ {vs:List V} {ds:List PyData},A2 H vs ds->A2 H' vs ds
 | _,_,.nil=>.nil
 | _,_,.cons x r=>.cons (F0.mono s x) (A2.mono s r)
end
theorem F0.same {H H':Hp} {v:V} {d:PyData} (h:F0 H v d) (s:Aq H H'):F0 H' v d:=h.mono fun a o e _=>s a o e
mutual
theorem F0.reads {X:Cx} {pins:List (Addr × Obj)} {σ:St} {H:Hp} {s:Shared} (I:As X pins σ H s):∀ {v:V} {d:PyData} {u:Value},F0 H v d->AD v u->∃ as,Reads s.heap u d as
 | _,_,_,.non,r=>by cases r; exact ⟨_,.none⟩
 | _,_,_,.bl b,r=>by cases r; exact ⟨_,.bool b⟩
 | _,_,_,.int i,r=>by obtain ⟨t,rfl⟩:=r; exact ⟨_,.int i t⟩
 | _,_,_,.str x,r=>by obtain ⟨t,rfl⟩:=r; exact ⟨_,.str x t⟩
 | _,_,_,.tup (a:=a) e m,r=>by
  cases r
  obtain ⟨_,Ar,rv,⟨o,ho,hc,n,hd⟩,_⟩:=(show AL X.prog X.w H s.heap a (.tup _) from I.hok a _ e)
  obtain ⟨as,q⟩:=A2.reads I m rv;exact ⟨_,.tuple ho hc hd (by simpa using q)⟩
 | _,_,_,.lst (a:=a) e m,r=>by
  cases r
  obtain ⟨_,Ar,n,rv,ho⟩:=(show AL X.prog X.w H s.heap a (.lst _) from I.hok a _ e)
  obtain ⟨as,q⟩:=A2.reads I m rv;exact ⟨_,.list ho rfl rfl (by simpa using q)⟩
theorem A2.reads {X:Cx} {pins:List (Addr × Obj)} {σ:St} {H:Hp} {s:Shared} (I:As X pins σ H s):∀ {vs:List V} {ds:List PyData} {us:List Value},A2 H vs ds->AB vs us->∃ as,ReadsAll s.heap us ds as
 | _,_,_,.nil,r=>by cases r; exact ⟨_,.nil⟩
 | _,_,_,.cons x m,r=>by
  cases r with
  | cons r1 r2=>
   obtain ⟨as,q1⟩:=F0.reads I x r1;obtain ⟨bs,q2⟩:=A2.reads I m r2;exact ⟨_,.cons q1 q2⟩
end
theorem PV {X:Cx} (hu:X.A.units + 64 < cLine):EC X (compareOp .Eq) (fun x y H Q=>∃ d e,F0 H x d/\F0 H y e/\d.canLay0=true/\e.canLay0=true/\d.depth<=60/\Q (.bl (PyData.eqv d e)) H):=by
 intro pins s σ H x y v u Q I rx ry h;obtain ⟨d,e,h1,h2,c1,c2,hd,q⟩:=h;obtain ⟨as,r1⟩:=h1.reads I rx;obtain ⟨bs,r2⟩:=h2.reads I ry;exact SeqAt.compareEq_reads r1 r2 c1 c2 (by have:=Nat.min_le_left d.depth e.depth; lia) ⟨.bl _,H,I,rfl,q⟩
theorem Jd (z:Str) (xs:List Str):Vi (.str z) (xs.map V.str)=decide (z ∈ xs):=by
 unfold Vi;induction xs with
 | nil=>simp
 | cons x xs ih=>
  rw [fU,iD,ih];have e:Tc (.str x) (.str z)=decide (z=x):=by
   show (x == z)=_
   by_cases h:z=x
   ·subst h; simp
   ·have h':¬ x=z:=fun q=>h q.symm
    rw [decide_eq_false h];exact beq_eq_false_iff_ne.mpr h'
  rw [e];by_cases h:z=x
  ·simp [h]
  ·by_cases h2:z ∈ xs <;> simp [h,h2]
theorem GS (xs:List Str):(xs.map V.str).all E9=true:=by
 rw [gY];exact gz.mpr fun _ _=>rfl
def AM (p:Addr) (H H':Hp):Prop:=∀ b o,b ≠ p->H b=some o->H' b=some o
theorem AM.trans {p:Addr} {H H1 H2:Hp} (a:AM p H H1) (b:AM p H1 H2):AM p H H2:=fun c o n e=>b c o n (a c o n e)
theorem AM.of_same {p:Addr} {H H':Hp} (s:Aq H H'):AM p H H':=fun b o _ e=>s b o e
theorem AM.upd {p:Addr} {H:Hp} {o:HO}:AM p H (L2.upd H p o):=fun b u n e=>by rw [Ae n]; exact e
def U6 (K:eV) (H:Hp) (a:Addr) (xs:List V):Prop:=(∃ ob,H a=some (.frz ob (.lst xs)))\/∃ o Ar n,List.lookup a K=some o/\o.cls=Value.type "list"/\o.dict=none/\o.data=Data.seq Ar n/\Ar.size<=sizeLine/\AB xs Ar.toList
theorem U6.sq {K:eV} {H:Hp} {a:Addr} {xs:List V} (h:U6 K H a xs):Ba K H a xs:=by
 rcases h with ⟨ob,h⟩ | h
 ·exact .inl (.inr ⟨ob,h⟩)
 ·exact .inr h
theorem U6.same {K:eV} {H H':Hp} {a:Addr} {xs:List V} (h:U6 K H a xs) (s:Aq H H'):U6 K H' a xs:=by
 rcases h with ⟨ob,h⟩ | h
 ·exact .inl ⟨ob,s _ _ h⟩
 ·exact .inr h
theorem SF {ns:List Int} {i:Int} (h0:0<=i) (h1:i < ns.length):∃ c,Gu (ns.map V.int) i=some (V.int c):=by
 obtain ⟨n,rfl⟩:∃ n:Nat,i=(n:Int):=⟨i.toNat,by lia⟩
 have hn:n < ns.length:=by lia
 exact ⟨ns[n],BF (by rw [eZ,eR hn]; rfl)⟩
theorem L4 {α:Type} {l:List α} {i:Int} {c:α} (h:Gu l i=some c):c ∈ l:=by
 obtain ⟨j,_,h2,_⟩:=Ik h;exact eW h2
abbrev Ge:Str:="abcdefghijklmnopqrstuvwxyz"
theorem Hx:∀ c ∈ Ge.cps.toList,GH c=true:=by decide +kernel
def UD (z:Str):Prop:=∀ c ∈ z.cps.toList,GH c=true
theorem RQ {z:Str} (h1:1<=z.length) (h2:z.length<=6) (h:UD z):AA z=true:=by
 unfold AA;rw [decide_eq_true h1,decide_eq_true h2,gz.mpr h];rfl
theorem RT {z:Str} (h:AA z=true):1<=z.length/\z.length<=6/\UD z:=by
 unfold AA at h;rw [gE,gE,decide_eq_true_eq,decide_eq_true_eq,gz] at h;exact ⟨h.1.1,h.1.2,h.2⟩
theorem Cg {α:Type} [BEq α] [LawfulBEq α]:∀ {l xs:List α},l.Nodup->(∀ x ∈ l,x ∈ xs)->l.length<=xs.length
 | [],_,_,_=>gr _
 | a :: l,xs,hn,hs=>by
  have ha:=hs a fX;have aY:=gG.mp hn;have:=Cg (l:=l) (xs:=xs.erase a) aY.2 fun x hx=>(ka (show x ≠ a from fun e=>aY.1 (by rw [<-e]; exact hx))).mpr (hs x (fK _ hx))
  rw [List.length_erase_of_mem ha] at this;have:0 < xs.length:=List.length_pos_of_mem ha;rw [gH];lia
theorem C6 (H:Hp):∀ xs:List Str,A2 H (xs.map V.str) (xs.map .str)
 | []=>.nil
 | x :: xs=>.cons (.str x) (C6 H xs)
theorem EU:∀ {xs:List Str},(∀ x ∈ xs,AA x=true)->PyData.canLayAll0 (xs.map .str)=true
 | [],_=>rfl
 | x :: xs,h=>by
  show (PyData.strOk x && PyData.canLayAll0 (xs.map .str))=true
  rw [EU fun y hy=>h y (fK _ hy),lg];obtain ⟨_,_,lo⟩:=RT (h x fX);unfold PyData.strOk;rw [Array.all_eq_true_iff_forall_mem];intro c hc;have:=lo c (by simpa using hc);unfold GH at this;rw [gE,decide_eq_true_eq,decide_eq_true_eq] at this;rw [decide_eq_true_eq];lia
theorem F8:∀ xs:List Str,PyData.depthAll (xs.map .str)=0
 | []=>rfl
 | x :: xs=>by
  show max 0 (PyData.depthAll (xs.map .str))=0
  rw [F8 xs];rfl
theorem AF.caught {X:Cx} {scope:Scope} {cl:List (Str × Addr)} (clos:closureFor scope X.env=pure cl) (hcell:∀ y ∈ scope.names,y.2 ≠ .cell) (hkind:scope.kind=.function)
  (hnames:∀ y ∈ scope.names,y.2=.local->scope.names.lookup y.1=some .local) (hcl:∀ y ∈ cl,X.env.cells.lookup y.1=some y.2)
  (hfr:∀ y ∈ scope.names,y.2=.free->∃ c,cl.lookup y.1=some c):AF X scope cl:=by
 refine ⟨clos,hcell,hkind,hnames,fun x c h=>hcl _ (Dh h),fun x h=>?_⟩;have key:∀ k,(relabel scope X.env).names.lookup x=some k->k=.cell\/k=.free->∃ c,cl.lookup x=some c:=by
  intro k e hk;have m:=Dh e;obtain ⟨⟨n,k'⟩,hm,e'⟩:=fi.mp m;dsimp only at e';by_cases hf:k'=.free
  ·subst hf;have en:n=x:=by
    by_cases hc:(NameKind.free == NameKind.free && X.env.scope.kind == .function && X.env.kindOf n == some .cell)=true
    ·rw [if_pos hc] at e';injection e'
    ·rw [if_neg hc] at e';injection e'
   subst en;exact hfr _ hm rfl
  ·have:(k' == NameKind.free)=false:=by
    cases k' <;> first | rfl | exact absurd rfl hf
   rw [this] at e';simp at e';rcases hk with hk | hk
   ·exact absurd (e'.2.trans hk) (hcell _ hm)
   ·exact absurd (e'.2.trans hk) hf
 rcases h with h | h
 ·exact key _ h (.inl rfl)
 ·exact key _ h (.inr rfl)
theorem AU.of {X:Cx} {cl:List (Str × Addr)} {scope:Scope} {N:List Str} {σ:St} (js:List (Option Nat)) (hl:js.length=N.length)
  (h:∀ (i j:Nat) (x:Str),N[i]? = some x->js[i]? = some (some j)->X.N[j]? = some x/\(X.env.kindOf x=some .cell\/X.env.kindOf x=some .free)/\((relabel scope X.env).names.lookup x=some .cell\/(relabel scope X.env).names.lookup x=some .free)) :
  AU X cl scope N σ (js.map fun j=>j.bind fun j=>(σ[j]?).join):=by
 refine ⟨by rw [eU,hl],fun i x v h1 h2=>?_⟩;rw [eZ] at h2;cases e:js[i]? with
 | none=>rw [e] at h2; cases h2
 | some o=>
  rw [e] at h2;cases o with
  | none=>cases h2
  | some j=>
   obtain ⟨a,b,c⟩:=h i j x h1 e;refine ⟨⟨j,a,?_⟩,b,c⟩;have h3:(σ[j]?).join=some v:=fV.inj h2;cases e2:σ[j]? with
   | none=>rw [e2] at h3; cases h3
   | some o=>
    rw [e2] at h3;have:o=some v:=h3;rw [this]
abbrev A9:=Str × Str × Int
def Fj (u:A9):PyData:=.tuple [.str u.1,.str u.2.1,.int u.2.2]
def Jy (u v:A9):Prop:=(u.1=v.1/\u.2.1=v.2.1)\/(u.1=v.2.1/\u.2.1=v.1)
structure L7 (xs:List Str) (k:Nat) (ws:List A9):Prop where
 of:∀ u ∈ ws,∃ i j:Nat,i < j/\j < k/\xs[i]? = some u.1/\xs[j]? = some u.2.1/\1<=u.2.2
 sep:ws.Pairwise fun u v=>¬ Jy u v
 to:∀ j,0 < j->j < k->∃ u ∈ ws,∃ i:Nat,i < j/\xs[i]? = some u.1/\xs[j]? = some u.2.1
 len:2 * ws.length<=k * (k - 1)
structure Xr (xs:List Str) (ws:List A9):Prop where
 of:∀ u ∈ ws,u.1 ∈ xs/\u.2.1 ∈ xs/\u.1 ≠ u.2.1/\1<=u.2.2
 sep:ws.Pairwise fun u v=>¬ Jy u v
 to:∀ j,0 < j->j < xs.length->∃ u ∈ ws,∃ i:Nat,i < j/\xs[i]? = some u.1/\xs[j]? = some u.2.1
 len:2 * ws.length<=xs.length * (xs.length - 1) + 10
theorem IS {xs:List Str} (h:xs.Nodup) {i j:Nat} {x:Str} (a:xs[i]? = some x) (b:xs[j]? = some x):i=j:=IQ h a b
theorem L7.nil (xs:List Str):L7 xs 1 []:=⟨(fun _ h=>nomatch h),List.Pairwise.nil,(fun j h1 h2=>by lia),(by decide)⟩
theorem L7.more {xs:List Str} {k:Nat} {ws us:List A9} (hn:xs.Nodup) (h:L7 xs k ws) (hk:k < xs.length) (js:List Nat) (hj:js.Nodup) (B6:∀ j ∈ js,j < k) (h0:js ≠ [])
  (hl:us.length=js.length) (hu:∀ (q:Nat) (u:A9) (j:Nat),us[q]? = some u->js[q]? = some j->xs[j]? = some u.1/\xs[k]? = some u.2.1/\1<=u.2.2):L7 xs (k + 1) (ws ++ us):=by
 have at_:∀ u ∈ us,∃ (q j:Nat),us[q]? = some u/\js[q]? = some j/\j < k/\xs[j]? = some u.1/\xs[k]? = some u.2.1/\1<=u.2.2:=by
  intro u hm;obtain ⟨q,hq,e⟩:=fY hm;have e1:us[q]? = some u:=by rw [eR hq,e]
  have e2:js[q]? = some js[q]:=eR (by lia);obtain ⟨a,b,c⟩:=hu q u _ e1 e2;exact ⟨q,_,e1,e2,B6 _ (gI _),a,b,c⟩
 exists ?_,?_,?_
 ·intro u hm;rcases fq.mp hm with hm | hm
  ·obtain ⟨i,j,a,b,c⟩:=h.of u hm;exact ⟨i,j,a,by lia,c⟩
  ·obtain ⟨q,j,_,_,a,b,c,d⟩:=at_ u hm;exact ⟨j,k,a,by lia,b,c,d⟩
 ·rw [kb];exists h.sep,?_
  ·rw [h8];intro q r hq hr hqr al;have a1:=hu q us[q] js[q] (eR hq) (eR (by lia));have a2:=hu r us[r] js[r] (eR hr) (eR (by lia));have l1:=B6 js[q] (gI _);have l2:=B6 js[r] (gI _);rcases al with ⟨e1,_⟩ | ⟨e1,_⟩
   ·have a3:=a1.1;rw [e1] at a3;have ej:=IS hn a3 a2.1;exact absurd ((kN hj).mp ej) (by lia)
   ·have a3:=a1.1;rw [e1] at a3;have ej:=IS hn a3 a2.2.1;lia
  ·intro u aU v hv al;obtain ⟨i,j,hij,hjk,e1,e2,_⟩:=h.of u aU;obtain ⟨q,m,_,_,hm,e3,e4,_⟩:=at_ v hv;rcases al with ⟨_,z⟩ | ⟨z,_⟩
   ·rw [z] at e2;have:=IS hn e2 e4;lia
   ·rw [z] at e1;have:=IS hn e1 e4;lia
 ·intro j h1 h2;by_cases e:j=k
  ·subst e;cases us with
   | nil=>
    cases js with
    | nil=>exact absurd rfl h0
    | cons _ _=>cases hl
   | cons u us=>
    obtain ⟨q,m,_,_,hm,e3,e4,_⟩:=at_ u fX;exact ⟨u,fm _ fX,m,hm,e3,e4⟩
  ·obtain ⟨u,hm,i,a,b⟩:=h.to j h1 (by lia);exact ⟨u,gT _ hm,i,a,b⟩
 ·have:=h.len;have hjl:js.length<=k:=by
   have:=Cg (l:=js) (xs:=gR k) hj fun j hm=>i7.mpr (B6 j hm)
   rwa [ig] at this
  rw [eY,hl];show 2 * (ws.length + js.length)<=(k + 1) * (k + 1 - 1)
  rw [kK];have e:(k + 1) * k=k * (k - 1) + 2 * k:=by
   cases k with
   | zero=>rfl
   | succ k=>
    rw [kK];simp only [Nat.succ_mul,Nat.mul_succ,Nat.add_mul,Nat.mul_add];lia
  lia
theorem L7.ways {xs:List Str} {ws:List A9} (hn:xs.Nodup) (h:L7 xs xs.length ws):Xr xs ws:=by
 refine ⟨fun u hm=>?_,h.sep,h.to,by have:=h.len; lia⟩;obtain ⟨i,j,a,b,c,d,e⟩:=h.of u hm;refine ⟨eW c,eW d,fun z=>?_,e⟩;rw [z] at c;have:=IS hn c d;lia
def Du (xs:List Str) (ws:List A9):Prop:=(∀ u ∈ ws,u.1 ∈ xs/\u.2.1 ∈ xs/\u.1 ≠ u.2.1/\1<=u.2.2)/\(ws.Pairwise fun u v=>¬ Jy u v) /\
 ∀ j,0 < j->j < xs.length->∃ u ∈ ws,∃ i:Nat,i < j/\xs[i]? = some u.1/\xs[j]? = some u.2.1
theorem Xr.c {xs:List Str} {ws:List A9} (h:Xr xs ws):Du xs ws:=⟨h.of,h.sep,h.to⟩
theorem Du.snoc {xs:List Str} {ws:List A9} {x y:Str} {n:Int} (h:Du xs ws) (hx:x ∈ xs) (hy:y ∈ xs) (ne:x ≠ y) (hn:1<=n) (no:∀ u ∈ ws,¬ ((x=u.1\/x=u.2.1)/\(y=u.1\/y=u.2.1))):Du xs (ws ++ [(x,y,n)]):=by
 refine ⟨fun u hu=>?_,?_,fun j h1 h2=>?_⟩
 ·rcases fq.mp hu with hu | hu
  ·exact h.1 u hu
  ·rw [fo.mp hu]; exact ⟨hx,hy,ne,hn⟩
 ·rw [kb];refine ⟨h.2.1,iU _ _,fun u hu v hv al=>?_⟩;rw [fo.mp hv] at al;refine no u hu ?_;rcases al with ⟨e1,e2⟩ | ⟨e1,e2⟩
  ·exact ⟨.inl e1.symm,.inr e2.symm⟩
  ·exact ⟨.inr e2.symm,.inl e1.symm⟩
 ·obtain ⟨u,hu,r⟩:=h.2.2 j h1 h2;exact ⟨u,gT _ hu,r⟩
theorem Jo {H:Hp}:∀ {vs:List V} {ds:List PyData},A2 H vs ds->vs.length=ds.length
 | _,_,.nil=>rfl
 | _,_,.cons _ r=>by rw [gH,gH,Jo r]
theorem Gg {H:Hp}:∀ {vs:List V} {ws:List A9} {i:Nat} {x:V},A2 H vs (ws.map Fj)->vs[i]? = some x->∃ u t,ws[i]? = some u/\x=.ref t/\H t=some (.tup [.str u.1,.str u.2.1,.int u.2.2])
 | _,[],i,x,.nil,e=>by cases e
 | _,u :: ws,0,x,.cons (v:=v) h _,e=>by
  have e':v=x:=by simpa using e
  subst e';cases h with
  | tup ha hd=>
   exists u,_,rfl,rfl;cases hd with
   | cons h1 r1=>
    cases r1 with
    | cons h2 r2=>
     cases r2 with
     | cons h3 r3=>
      cases r3
      cases h1
      cases h2
      cases h3
      exact ha
 | _,u :: ws,i + 1,x,.cons _ r,e=>by
  obtain ⟨u',t,a,b⟩:=Gg (i:=i) (x:=x) r (by simpa using e);exact ⟨u',t,by simpa using a,b⟩
theorem BK {H:Hp}:∀ {vs us:List V} {ds es:List PyData},A2 H vs ds->A2 H us es->A2 H (vs ++ us) (ds ++ es)
 | _,_,_,_,.nil,h=>h
 | _,_,_,_,.cons a r,h=>.cons a (BK r h)
theorem Dk (K:eV) {X:Cx} (h:X.K=K):Yt X (rIxL K):=by subst h; exact Bu
theorem AE (K:eV) {X:Cx} (h:X.K=K):Yt X (rIxT K):=by subst h; exact F6
theorem WG (K:eV) {X:Cx} (h:X.K=K):EC X (compareOp .In) (rIn K false):=by subst h; exact Km
theorem AX (K:eV) {X:Cx} (h:X.K=K) {es:List Expr} {k:Nat} {t:VG} {n:Nat} {pos:Pos} (hc:X.calm=true) (ht:PGs X es t)
  (hn:(assignEach es X.env).length=n:=by rfl) (hst:(assignEach es X.env).findIdx? (·.1)=none:=by rfl):PG X (.Tuple es k pos) (gTup K n t):=by subst h; exact Wx hc ht hn hst
end L2
namespace L2
open PySem PySem.W PyProof.Rows
section
variable {n:Nat} (hn:0 < n)
include hn
end
end L2
namespace L2
open PySem PySem.Spec PyProof.Rows PySem.W
theorem AL.there {P:Program} {w:World} {H:Hp} {h:Heap} {a:Addr} {o:HO} (x:AL P w H h a o):∃ ob,h.get? a=some ob:=by
 cases o with
 | lst xs=>obtain ⟨_,_,_,_,e⟩:=x; exact ⟨_,e⟩
 | tup xs=>obtain ⟨_,_,_,⟨ob,e,_⟩,_⟩:=x; exact ⟨ob,e⟩
 | dK kvs=>obtain ⟨_,_,_,_,o,_,_,e,_⟩:=x; exact ⟨o,e⟩
 | dT kvs=>obtain ⟨_,_,_,_,o,_,_,e,_⟩:=x; exact ⟨o,e⟩
 | set S n=>obtain ⟨o,_,_,_,e,_⟩:=x; exact ⟨o,e⟩
 | ins C dx fs=>obtain ⟨_,_,_,e,_⟩:=x; exact ⟨_,e⟩
 | own y=>exact x
 | xd fs=>obtain ⟨_,⟨_,_,_,e,_⟩,_⟩:=x; exact ⟨_,e⟩
 | rng lo hi=>obtain ⟨_,_,_,e⟩:=x; exact ⟨_,e⟩
 | frz ob u=>obtain ⟨e,_⟩:=x; exact ⟨_,e⟩
 | tbl ps=>exact ⟨_,(show h.get? a=some _ from x)⟩
 | met f y=>exact ⟨_,(show h.get? a=some _ from x)⟩
 | ext φ=>obtain ⟨_,⟨_,e⟩,_⟩:=x; exact ⟨_,e⟩
theorem As.laidF {X:Cx} {pins:List (Addr × Obj)} {σ:St} {H:Hp} {s:Shared} {h2:Heap} {D:Addr} {o:HO} {m:Str->Option Value} (I:As X pins σ H s)
  (hl:s.heap.Ns X.env.locals m/\∀ (i:Nat) (x:Str) (v:V),X.N[i]? = some x->σ[i]? = some (some v)->Vis X.env.scope x->∃ u,AD v u/\Look X.env s.heap m x u) (hn:h2.Ns X.env.locals m)
  (kp:∀ b ob,b ≠ X.env.locals->s.heap.get? b=some ob->h2.get? b=some ob) (hD:s.heap.get? D=none) (hDL:D ≠ X.env.locals) (new:AL X.prog X.w (upd H D o) h2 D o):As X pins σ (upd H D o) { s with heap:=h2 }:=by
 have fD:H D=none:=by
  cases z:H D with
  | none=>rfl
  | some u=>
   obtain ⟨ob,e⟩:=AL.there (I.hok D u z);rw [hD] at e;cases e
 have neL:∀ b ob,X.s₀.heap.get? b=some ob->b ≠ X.env.locals:=fun b ob e=>fj (fk (fb e) I.ok.above)
 have neD:∀ b ob,s.heap.get? b=some ob->b ≠ D:=fun b ob e z=>by rw [z,hD] at e; cases e
 have cellK:∀ x c,X.env.cells.lookup x=some c->∀ v,s.heap.IsCell c v->h2.IsCell c v:=fun x c e v ⟨ob,ho,hd⟩=>⟨ob,kp c ob (I.cne x c e) ho,hd⟩
 refine ⟨I.ok,I.os,I.bare,⟨?_,?_,?_,?_,?_,?_,?_⟩,⟨m,hn,?_⟩,?_,?_,?_,?_,?_,I.len⟩
 ·exact fun b ob e n hb hx=>kp b ob (neL b ob e) (I.base.keep b ob e n hb hx)
 ·intro b ob e n hb hx;obtain ⟨sl,q⟩:=I.base.slot b ob e n hb hx;exact ⟨sl,kp b _ (neL b ob e) q⟩
 ·intro b ob e n hx;obtain ⟨aK,q⟩:=I.base.there b ob e hx;rw [Ae (neD b aK q)];exact I.base.free b ob e n hx
 ·intro b ob e hx;obtain ⟨aK,q⟩:=I.base.there b ob e hx;exact ⟨aK,kp b aK (neL b ob e) q⟩
 ·intro b xs e;have q:=I.base.tups b xs e;rw [Ae (Ah q fD)];exact q
 ·intro b ob u e;have q:=I.base.frzs b ob u e;rw [Ae (Ah q fD)];exact q
 ·intro b ps e;obtain ⟨more,q⟩:=I.base.tbls b ps e;exact ⟨more,by rw [Ae (Ah q fD)]; exact q⟩
 ·intro i x v e1 e2 e3;obtain ⟨u,r,l⟩:=hl.2 i x v e1 e2 e3;exists u,r;rcases l with l | ⟨k,c,e,z⟩
  ·exact .inl l
  ·exact .inr ⟨k,c,e,cellK x c e _ z⟩
 ·intro x c e;obtain ⟨v,z⟩:=I.cell x c e;exact ⟨v,cellK x c e v z⟩
 ·rw [Ae (Ne.symm hDL)];exact I.free
 ·intro x c e;obtain ⟨v,ob,ho,_⟩:=I.cell x c e;rw [Ae (neD c ob ho)];exact I.freeC x c e
 ·intro p hp;obtain ⟨e,n,ne,nf,d⟩:=I.pin p hp;exact ⟨kp _ _ ne e,by rw [Ae (neD _ _ e)]; exact n,ne,nf,d⟩
 ·intro b u e;by_cases hb:b=D
  ·subst hb;rw [Ab] at e;cases e
   exact new
  ·rw [Ae hb] at e;refine (I.hok b u e).stay (fun c v hc q=>kp c v ?_ q) (fun c q=>by rw [Ae (Ah q fD)]; exact q) fun c xs q=>by rw [Ae (Ah q fD)]; exact q
   rintro rfl;rcases hc with rfl | hc
   ·rw [I.free] at e; cases e
   ·rw [I.free] at hc; cases hc
end L2
namespace L2
open PySem PySem.Spec PyProof.Rows
section
variable {prog:Program} {w:World} {A:Around} {E:Value->Shared->Prop} {s:Shared}
end
def BZ (a b:Str):Str:=if b.cps.toList < a.cps.toList then b else a
def Cc (a b:Str):Str:=if a.cps.toList < b.cps.toList then b else a
theorem KC {ss:List Str}:∀ {us:List Value},AB (ss.map V.str) us->StrsAre us ss:=by
 induction ss with
 | nil=>intro us r; cases r; exact .nil
 | cons x ss ih=>
  intro us r;cases r with
  | cons r1 r2=>
   obtain ⟨t,rfl⟩:=r1;exact .cons x t (ih r2)
theorem Ga:∀ {us:List Value} {ss:List Str},StrsAre us ss->AB (ss.map V.str) us
 | _,_,.nil=>.nil
 | _,_,.cons x t r=>.cons ⟨t,rfl⟩ (Ga r)
theorem Ek {X:Cx}:Bv X (.builtin "sorted") (fun xs H Q=>∃ (a:Addr) (ss:List Str),xs=[.ref a]/\Ba X.K H a (ss.map V.str)/\ss.length < 64 /\
  ∀ (l:Addr) (ss':List Str),H l=none->ss'.Perm ss->sortedS ss'=true->Q (.ref l) (upd H l (.lst (ss'.map V.str)))):=by
 intro pins s σ H xs us Q I r h;obtain ⟨a,ss,rfl,ha,Kr,q⟩:=h;obtain ⟨u,rfl,ru⟩:=Cq r;cases ru
 obtain ⟨Ar,rv,pl,hz⟩:=I.list ha;have hl:Ar.length=ss.length:=by rw [<-rv.length,eU]
 refine sorted_strs pl.isList (KC rv) (by lia) fun out ss' h1 h2 h3=>?_
 obtain ⟨e,he⟩:=sortedAll_at s.heap Ar out;refine ⟨.ref (s.heap.objs.size + 1),_,I.laid (o:=.lst (ss'.map V.str)) (t':=s.toks) (fun b o z=>sortedAll_old z) (gy _) ⟨?_,out.toList,e,Ga h1,by simpa using he⟩,rfl,q _ ss' (I.hok.fresh (gy _)) h2 h3⟩;rw [eU,h2.length_eq];have:100 < sizeLine:=by decide
 lia
end L2
namespace L2
open PySem PySem.Spec PySem.W PyProof.Rows
theorem Fh {vs:List Value} {p:Keyed} (h:p ∈ (pairsOf vs).toList):p=(p.2,p.2)/\p.2 ∈ vs:=by
 rw [pairsOf_toList] at h;obtain ⟨e,m⟩:=mem_zip_self h;refine ⟨?_,e ▸ m⟩;obtain ⟨x,y⟩:=p;exact Prod.ext e rfl
theorem PN (vs:List Value):(pairsOf vs).toList.map (·.2)=vs:=by
 rw [pairsOf_toList];induction vs with
 | nil=>rfl
 | cons v vs ih=>rw [kC,fU,ih]
theorem RK {vs:List Value} {xs:Array Keyed} (h:xs.Perm (pairsOf vs)):(xs.toList.map (·.2)).Perm vs:=by
 have q:=(iJ.mp h).map (·.2);rw [PN] at q;exact q
theorem RJ {lt:Keyed->Keyed->Bool} {vs:List Value} {xs:Array Keyed} (h:xs.Perm (pairsOf vs)) (hs:xs.toList.Pairwise (Nl lt)):(xs.toList.map (·.2)).Pairwise (fun u v=>lt (v,v) (u,u)=false):=by
 rw [ik];refine hs.imp_of_mem fun {p q} hp hq n=>?_
 have e1:=(Fh ((iJ.mp h).mem_iff.mp hp)).1;have e2:=(Fh ((iJ.mp h).mem_iff.mp hq)).1;rw [<-e1,<-e2];exact n
section
variable {prog:Program} {w:World} {A:Around} {E:Value->Shared->Prop} {s:Shared} {lt:Keyed->Keyed->Bool}
def Cmpd (prog:Program) (w:World) (s:Shared) (lt:Keyed->Keyed->Bool) (vs:List Value):Prop:=
 2<=vs.length->∀ (A:Around) (h':Heap),(∀ b o,s.heap.get? b=some o->h'.get? b=some o) ->
  ∃ κ,(∀ (Q:SortKind->Shared->Prop) (E:Value->Shared->Prop),Q κ { s with heap:=h' }->wpAny (model prog w) A (keyKind' vs.toArray) Q E { s with heap:=h' })/\X8 prog w A { s with heap:=h' } κ lt (pairsOf vs)
end
inductive J2 where
 | i (n:Int)
 | s (x:Str)
 deriving DecidableEq
def EA:J2->J2->Bool
 | .i a,.i b=>decide (a < b)
 | .s a,.s b=>decide (a.cps.toList < b.cps.toList)
 | .i _,.s _=>true
 | .s _,.i _=>false
def B7:List J2->List J2->Bool
 | [],[]=>false
 | [],_ :: _=>true
 | _ :: _,[]=>false
 | x :: xs,y :: ys=>if x=y then B7 xs ys else EA x y
theorem U3 (a:J2):EA a a=false:=by
 cases a with
 | i n=>simp [EA]
 | s x=>exact strKind.irrefl x.cps.toList
theorem U1:∀ {a b c:J2},EA a b=true->EA b c=true->EA a c=true
 | .i a,.i b,.i c,h1,h2=>by
  simp only [EA,decide_eq_true_eq] at h1 h2 ⊢;lia
 | .i _,.i _,.s _,_,_=>rfl
 | .i _,.s _,.s _,_,_=>rfl
 | .i _,.s _,.i _,_,h=>by cases h
 | .s _,.i _,_,h,_=>by cases h
 | .s _,.s _,.i _,_,h=>by cases h
 | .s x,.s y,.s z,h1,h2=>strKind.trans x.cps.toList y.cps.toList z.cps.toList h1 h2
theorem U2 {a b:J2} (h:a ≠ b):EA a b=true\/EA b a=true:=by
 cases a <;> cases b <;> simp [EA]
 ·have:∀ x y:Int,J2.i x ≠ J2.i y->x < y\/y < x:=fun x y h=>by
   have:x ≠ y:=fun e=>h (by rw [e])
   lia
  exact this _ _ h
 ·rename_i x y
  by_cases h1:x.cps.toList < y.cps.toList
  ·exact .inl h1
  ·by_cases h2:y.cps.toList < x.cps.toList
   ·exact .inr h2
   ·exfalso
    apply h;have e:=strKind.total x.cps.toList y.cps.toList (decide_eq_false h1) (decide_eq_false h2);cases x
    cases y
    rw [j7] at e;subst e;rfl
theorem OA:∀ a,B7 a a=false
 | []=>rfl
 | x :: xs=>by unfold B7; rw [if_pos rfl]; exact OA xs
theorem Xp {a b:J2} (h:EA a b=true):a ≠ b:=fun e=>by
 rw [e,U3] at h;cases h
theorem Lo:∀ a b c,B7 a b=true->B7 b c=true->B7 a c=true
 | [],[],_,h,_=>by cases h
 | [],_ :: _,[],_,h=>by cases h
 | [],_ :: _,_ :: _,_,_=>rfl
 | _ :: _,[],_,h,_=>by cases h
 | _ :: _,_ :: _,[],_,h=>by cases h
 | x :: xs,y :: ys,z :: zs,h1,h2=>by
  unfold B7 at h1 h2 ⊢;by_cases e1:x=y
  ·rw [if_pos e1] at h1;by_cases e2:y=z
   ·rw [if_pos e2] at h2;rw [if_pos (e1.trans e2)];exact Lo xs ys zs h1 h2
   ·rw [if_neg e2] at h2;rw [if_neg (by rw [e1]; exact e2),e1];exact h2
  ·rw [if_neg e1] at h1;by_cases e2:y=z
   ·rw [if_neg (by rw [<-e2]; exact e1),<-e2];exact h1
   ·rw [if_neg e2] at h2;have h3:=U1 h1 h2;rw [if_neg (Xp h3)];exact h3
theorem O9:∀ a b,B7 a b=false->B7 b a=false->a=b
 | [],[],_,_=>rfl
 | [],_ :: _,h,_=>by cases h
 | _ :: _,[],_,h=>by cases h
 | x :: xs,y :: ys,h1,h2=>by
  unfold B7 at h1 h2;by_cases e:x=y
  ·rw [if_pos e] at h1;rw [if_pos e.symm] at h2;rw [e,O9 xs ys h1 h2]
  ·rw [if_neg e] at h1;rw [if_neg (fun z=>e z.symm)] at h2;rcases U2 e with q | q
   ·rw [h1] at q; cases q
   ·rw [h2] at q; cases q
theorem Uk (a b c:List J2) (h:B7 a c=true):B7 a b=true\/B7 b c=true:=by
 cases e1:B7 a b
 ·right;cases e2:B7 b a
  ·rw [<-O9 a b e1 e2]; exact h
  ·exact Lo _ _ _ e2 h
 ·exact .inl rfl
theorem Uj (f:Value->List J2):Qy (fun x y=>B7 (f x.1) (f y.1)):=
 ⟨fun a=>OA _,fun a b c=>Lo _ _ _,fun a b c=>Uk _ _ _⟩
def BY:Value->J2
 | .int n _=>.i n
 | .str x _=>.s x
 | _=>.i 0
def LL:V->J2
 | .int n=>.i n
 | .str x=>.s x
 | _=>.i 0
def Di (h:Heap):Value->List J2
 | .ref a=>match h.get? a with
  | some o=>(match o.data with
   | .seq xs _=>xs.toList.map BY
   | _=>[])
  | none=>[]
 | v=>[BY v]
def JI (H:Hp):V->List J2
 | .ref a=>match H a with
  | some (.tup ys)=>ys.map LL
  | _=>[]
 | v=>[LL v]
def K7 (k:Bool) (v:V):Prop:=if k=true then ∃ x,v=.str x else ∃ n,v=.int n
def CF (k:Bool) (v:Value):Prop:=if k=true then ∃ x t,v=.str x t else ∃ n t,v=.int n t
theorem Um {k:Bool} {v:V} {u:Value} (r:AD v u) (h:K7 k v):CF k u/\BY u=LL v:=by
 unfold K7 at h;unfold CF;cases k with
 | true=>
  simp only [if_true] at h ⊢;obtain ⟨x,rfl⟩:=h;obtain ⟨t,rfl⟩:=r;exact ⟨⟨x,t,rfl⟩,rfl⟩
 | false=>
  simp only [gx,if_false] at h ⊢;obtain ⟨x,rfl⟩:=h;obtain ⟨t,rfl⟩:=r;exact ⟨⟨x,t,rfl⟩,rfl⟩
def NJ (H:Hp) (kd:Nat->Bool) (v:V):Prop:=∃ t ys,v=.ref t/\H t=some (.tup ys)/\ys ≠ []/\∀ i y,ys[i]? = some y->K7 (kd i) y
def NH (h:Heap) (kd:Nat->Bool) (v:Value):Prop:=∃ t o xs n,v=.ref t/\h.get? t=some o/\o.cls=.type "tuple"/\o.data=.seq xs n/\0 < xs.size/\∀ (i:Nat) x,xs.toList[i]? = some x->CF (kd i) x
theorem VR {X:Cx} {pins:List (Addr × Obj)} {σ:St} {H:Hp} {s:Shared} (I:As X pins σ H s) {kd:Nat->Bool} {v:V} {u:Value} (r:AD v u) (h:NJ H kd v):NH s.heap kd u/\Di s.heap u=JI H v:=by
 obtain ⟨t,ys,rfl,ht,ne,hy⟩:=h;cases r
 obtain ⟨_,Ar,rv,⟨o,ho,hc,n,hd⟩,_⟩:=(show AL X.prog X.w H s.heap t (.tup _) from I.hok t _ ht)
 have e:JI H (.ref t)=ys.map LL:=by
  show (match H t with | some (.tup ys)=>ys.map LL | _=>[])=_
  rw [ht]
 have e2:Di s.heap (.ref t)=Ar.map BY:=by
  show (match s.heap.get? t with | some o=>(match o.data with | .seq xs _=>xs.toList.map BY | _=>[]) | none=>[])=_
  rw [ho];dsimp only;rw [hd]
 have all:∀ {ys:List V} {Ar:List Value} (k:Nat),AB ys Ar->(∀ i y,ys[i]? = some y->K7 (kd (k + i)) y)->(∀ (i:Nat) x,Ar[i]? = some x->CF (kd (k + i)) x)/\Ar.map BY=ys.map LL:=by
  intro ys;induction ys with
  | nil=>intro Ar k rv _; cases rv; exact ⟨fun i x e=>by simp at e,rfl⟩
  | cons y ys ih=>
   intro Ar k rv hy;cases rv with
   | cons r1 r2=>
    obtain ⟨a1,a2⟩:=Um r1 (hy 0 y rfl);obtain ⟨b1,b2⟩:=ih (k + 1) r2 fun i z e=>by
     have:=hy (i + 1) z (by simpa using e);rw [show k + 1 + i=k + (i + 1) by lia];exact this
    refine ⟨fun i x e=>?_,by rw [fU,fU,a2,b2]⟩;cases i with
    | zero=>
     rw [gF] at e;cases e
     exact a1
    | succ i=>
     have:=b1 i x (by simpa using e);rw [show k + 1 + i=k + (i + 1) by lia] at this;exact this
 obtain ⟨a1,a2⟩:=all 0 rv fun i y e=>by rw [iu]; exact hy i y e
 refine ⟨⟨t,o,Ar.toArray,n,rfl,ho,hc,hd,?_,fun i x e=>?_⟩,by rw [e,e2,a2]⟩
 ·have:=rv.length;have:0 < ys.length:=iI.mpr ne;simp;lia
 ·have:=a1 i x (by simpa using e);rw [iu] at this;exact this
section
variable {prog:Program} {w:World} {A:Around} {E:Value->Shared->Prop} {s:Shared} {Q:Bool->Shared->Prop}
theorem TY {k b:Bool} {u v:Value} (hu:CF k u) (hv:CF k v) (h:Q (EA (BY u) (BY v)) s):wpAny (model prog w) A (oneLt' b u v) Q E s:=by
 unfold CF at hu hv;cases k with
 | true=>
  simp only [if_true] at hu hv;obtain ⟨x,t,rfl⟩:=hu;obtain ⟨y,t',rfl⟩:=hv;cases b with
  | true=>exact oneLt_str h
  | false=>exact kat_one _ _ (PySem.P.lt_str h)
 | false=>
  simp only [gx,if_false] at hu hv;obtain ⟨x,t,rfl⟩:=hu;obtain ⟨y,t',rfl⟩:=hv;cases b with
  | true=>exact oneLt_int h
  | false=>exact kat_one _ _ (lt_int h)
theorem Xj {k:Bool} {u v:Value} (hu:CF k u) (hv:CF k v):SeqAt.EqAt A s u v (decide (BY u=BY v)):=by
 unfold CF at hu hv;cases k with
 | true=>
  simp only [if_true] at hu hv;obtain ⟨x,t,rfl⟩:=hu;obtain ⟨y,t',rfl⟩:=hv;have e:decide (BY (.str x t)=BY (.str y t'))=(x == y):=by
   show decide (J2.s x=J2.s y)=_
   rw [gP];simp
  rw [e];exact SeqAt.EqAt.str_str x t y t'
 | false=>
  simp only [gx,if_false] at hu hv;obtain ⟨x,t,rfl⟩:=hu;obtain ⟨y,t',rfl⟩:=hv;have e:decide (BY (.int x t)=BY (.int y t'))=(x == y):=by
   show decide (J2.i x=J2.i y)=_
   rw [gP];simp
  rw [e];exact SeqAt.EqAt.int_int x t y t'
theorem Ko {b:Bool} {kd:Nat->Bool}:∀ (xs ys:List Value) (i:Nat),(∀ (j:Nat) x,xs[j]? = some x->CF (kd (i + j)) x)->(∀ (j:Nat) x,ys[j]? = some x->CF (kd (i + j)) x) ->
  Q (B7 (xs.map BY) (ys.map BY)) s->KatLex prog w A b (decide (xs.length < ys.length)) Q (xs.zip ys) i s
 | [],[],i,_,_,h=>h
 | [],y :: ys,i,_,_,h=>h
 | x :: xs,[],i,_,_,h=>h
 | x :: xs,y :: ys,i,hx,hy,h=>by
  have kx:CF (kd i) x:=hx 0 x rfl;have ky:CF (kd i) y:=hy 0 y rfl;rw [fU,fU] at h;unfold B7 at h;refine kat_cons (Xj kx ky _ _ _ _ ?_);refine kat_go (fun e=>kat_yes ?_) (fun e=>kat_no (TY kx ky ?_))
  ·have e':=of_decide_eq_true e;rw [if_pos e'] at h;have r:=Ko (b:=b) (kd:=kd) xs ys (i + 1) (fun j z e=>by rw [show i + 1 + j=i + (j + 1) by lia]; exact hx (j + 1) z (by simpa using e)) (fun j z e=>by rw [show i + 1 + j=i + (j + 1) by lia]; exact hy (j + 1) z (by simpa using e)) h;have e2:decide ((x :: xs).length < (y :: ys).length)=decide (xs.length < ys.length):=by simp
   rw [e2];exact r
  ·have e':=of_decide_eq_false e;rw [if_neg e'] at h;exact h
theorem VS {kd:Nat->Bool} {u v:Value} (hu:NH s.heap kd u) (hv:NH s.heap kd v) (h:Q (B7 (Di s.heap u) (Di s.heap v)) s):wpAny (model prog w) A (keyLt' (tuples' true) u v) Q E s:=by
 obtain ⟨t,o,xs,n,rfl,ho,hc,hd,p,hx⟩:=hu;obtain ⟨t',o',av,n',rfl,Ii,LC,Lu,p',My⟩:=hv;have e1:Di s.heap (.ref t)=xs.toList.map BY:=by
  show (match s.heap.get? t with | some o=>(match o.data with | .seq xs _=>xs.toList.map BY | _=>[]) | none=>[])=_
  rw [ho];dsimp only;rw [hd]
 have e2:Di s.heap (.ref t')=av.toList.map BY:=by
  show (match s.heap.get? t' with | some o=>(match o.data with | .seq xs _=>xs.toList.map BY | _=>[]) | none=>[])=_
  rw [Ii];dsimp only;rw [Lu]
 rw [e1,e2] at h;refine kat_lt ho hd Ii Lu ?_;have e3:decide (xs.size < av.size)=decide (xs.toList.length < av.toList.length):=by simp
 rw [e3];exact Ko (kd:=kd) _ _ 0 (fun j x e=>by rw [iu]; exact hx j x e) (fun j x e=>by rw [iu]; exact My j x e) h
theorem Pg {kd:Nat->Bool} {vs:List Value} (h:∀ v ∈ vs,NH s.heap kd v):Cmpd prog w s (fun x y=>B7 (Di s.heap x.1) (Di s.heap y.1)) vs:=by
 intro h2 A h' kp;have h1:∀ v ∈ vs,NH h' kd v/\Di h' v=Di s.heap v:=fun v hv=>by
  obtain ⟨t,o,xs,n,rfl,ho,hc,hd,p,hx⟩:=h v hv;exists ⟨t,o,xs,n,rfl,kp t o ho,hc,hd,p,hx⟩;show (match h'.get? t with | some o=>(match o.data with | .seq xs _=>xs.toList.map BY | _=>[]) | none=>[])=(match s.heap.get? t with | some o=>(match o.data with | .seq xs _=>xs.toList.map BY | _=>[]) | none=>[])
  rw [ho,kp t o ho]
 exists tuples' true,?_
 ·intro Q E hq;have tups:∀ l:List Value,(∀ v ∈ l,NH h' kd v)->∃ fs:List Value,KatTups h' l fs/\fs.length=l.length/\∀ f ∈ fs,CF (kd 0) f:=by
   intro l;induction l with
   | nil=>intro _; exact ⟨[],KatTups.nil,rfl,fun f hf=>nomatch hf⟩
   | cons v l ih=>
    intro hl;obtain ⟨fs,k1,k2,k3⟩:=ih fun v hv=>hl v (fK _ hv)
    obtain ⟨t,o,xs,n,rfl,ho,hc,hd,p,hx⟩:=hl v fX;have g:xs[0]? = some xs[0]:=jG p;refine ⟨xs[0] :: fs,KatTups.cons ho hc hd g k1,by rw [gH,gH,k2],fun f hf=>?_⟩;rcases eX.mp hf with rfl | hf
    ·exact hx 0 _ (by rw [jc]; exact g)
    ·exact k3 f hf
  obtain ⟨fs,k1,k2,k3⟩:=tups vs fun v hv=>(h1 v hv).1
  cases ek:kd 0 with
  | true=>
   refine kat_kind (T:=.type "str") k1 (by lia) (fun v hv=>?_) rfl hq;have q:=k3 v hv;unfold CF at q;rw [ek] at q;simp only [if_true] at q;obtain ⟨x,t,rfl⟩:=q;exact Looks.now
  | false=>
   refine kat_kind (T:=.type "int") k1 (by lia) (fun v hv=>?_) rfl hq;have q:=k3 v hv;unfold CF at q;rw [ek] at q;simp only [gx,if_false] at q;obtain ⟨x,t,rfl⟩:=q;exact Looks.now
 ·intro x y hx hy Q E hq;obtain ⟨ex,mx⟩:=Fh (vs:=vs) (p:=x) (by simpa using hx);obtain ⟨ey,my⟩:=Fh (vs:=vs) (p:=y) (by simpa using hy);rw [ex,ey] at hq ⊢;dsimp only at hq ⊢;refine VS (h1 _ mx).1 (h1 _ my).1 ?_;show Q (B7 (Di h' x.2) (Di h' y.2)) _
  rw [(h1 _ mx).2,(h1 _ my).2];exact hq
end
theorem OW {us LA:List Value} (p:LA.Perm us):∀ {vs:List V},AB vs us->∃ Fp,AB Fp LA/\Fp.Perm vs:=by
 induction p with
 | nil=>intro vs h; exact ⟨vs,h,.refl _⟩
 | cons x p ih=>
  intro vs h;cases h with
  | cons h1 h2=>
   obtain ⟨Fp,a,b⟩:=ih h2;exact ⟨_ :: Fp,.cons h1 a,b.cons _⟩
 | swap x y l=>
  intro vs h;cases h with
  | cons h1 h2=>
   cases h2 with
   | cons h3 h4=>exact ⟨_ :: _ :: _,.cons h3 (.cons h1 h4),.swap _ _ _⟩
 | trans p1 p2 YX YW=>
  intro vs h;obtain ⟨vs1,a1,b1⟩:=YW h;obtain ⟨vs2,a2,b2⟩:=YX a1;exact ⟨vs2,a2,b2.trans b1⟩
end L2
namespace L2
open PySem PySem.Spec PyProof.Rows
section
variable {prog:Program} {w:World} {A:Around} {E:Value->Shared->Prop} {s:Shared}
end
def Ez (u:A9):A9:=(BZ u.1 u.2.1,Cc u.1 u.2.1,u.2.2)
theorem Qp {H:Hp} {vs Fp:List V} (p:Fp.Perm vs):∀ {ws:List A9},A2 H vs (ws.map Fj)->∃ Hf:List A9,A2 H Fp (Hf.map Fj)/\Hf.Perm ws:=by
 induction p with
 | nil=>intro ws h; exact ⟨ws,h,.refl _⟩
 | cons x p ih=>
  intro ws h;cases ws with
  | nil=>cases h
  | cons u ws=>
   cases h with
   | cons h1 h2=>
    obtain ⟨Hf,a,b⟩:=ih h2;exact ⟨u :: Hf,.cons h1 a,b.cons u⟩
 | swap x y l=>
  intro ws h;cases ws with
  | nil=>cases h
  | cons u ws=>
   cases h with
   | cons h1 h2=>
    cases ws with
    | nil=>cases h2
    | cons v ws=>
     cases h2 with
     | cons h3 h4=>exact ⟨v :: u :: ws,.cons h3 (.cons h1 h4),.swap u v ws⟩
 | trans p1 p2 YX YW=>
  intro ws h;obtain ⟨ws1,a1,b1⟩:=YW h;obtain ⟨ws2,a2,b2⟩:=YX a1;exact ⟨ws2,a2,b2.trans b1⟩
theorem O2 {X:Cx} {ix:Nat} {x:Str} {px spos:Pos} {tg iter elt:Expr} {ifs:List Expr} {scope:Scope} {cl:List (Str × Addr)} {N:List Str} {pos:Pos} {wi:TI} {g:TG} {tt:TT} {te:TE} {σ0:St->St} (hN:X.N.Nodup) (hix:X.N[ix]? = some x) (hlx:Yq X.env.scope x) (hc:X.calm=true) (co:AF X scope cl)
  (hσ:∀ σ,σ.length=X.N.length->AU X cl scope N σ (σ0 σ)) (hi:PI X tg iter wi)
  (hb:∀ s2 H C fp,PG (Ay X scope cl N s2 H C fp) tg g/\Xz (Ay X scope cl N s2 H C fp) ifs tt/\PE (Ay X scope cl N s2 H C fp) elt te)
  (hsw:swapsWith (.ListComp elt [⟨tg,iter,ifs,0⟩] scope pos) (some (.Name x px)) spos.line X.env=pure true:=by rfl)
  (hs:∀ x,foldedSetIterable iter X.env x=pure x:=by intro _; rfl) (hf:X.fn x=true\/X.env.scope.names.lookup x=some .local:=by first | exact .inl rfl | exact .inr rfl | assumption) :
  PS X (.Assign [.Name x px] (.ListComp elt [⟨tg,iter,ifs,0⟩] scope pos) spos) (Tq (Od wi g tt te σ0) (Mz ix)):=by
 intro pins s σ H DD I h;rw [exec_Assign_Name_used _ _ _ _ hsw];refine wpAny_bind (wpAny_standAt (wpAny_bind ?_));show wpAny _ X.A (do let _ <- comprehension (.ListComp elt [⟨tg,iter,ifs,0⟩] scope pos) scope X.env _ (newList []) false (eval iter X.env) (some (assign (.Name x px) X.env))) _ _ s
 refine wpAny_bind (wpAny_mono (wpAny_comprehension_free (use:=some (assign (.Name x px) X.env)) (Q:=fun _ s'=>SP X pins DD .next s') rfl hs co.clos co.kind co.names
  (wpAny_mono (hi (pins:=pins) s σ H _ I h) (fun xv s1 h1=>wpAny_mono h1 (fun itv s2 h2=>?_) fun _ _ e=>e) fun _ _ e=>e)) (fun _ s' hq=>wpAny_pure (wpAny_pure hq)) fun _ _ e=>e)
 obtain ⟨it,fp,tn,J,H2,rfl,I2,T,FO,f2,hW⟩:=h2;refine wpAny_newObj_type (wpAny_newFunctionEnv co.cell (by intro y hy; cases hy) (fun Bd BQ BE=>?_) co.kind);dsimp only at BQ BE ⊢;generalize Lx:s2.heap.push { cls:=.type "list",dict:=none,data:=.seq ([]:List Value).toArray } = HH at BQ BE ⊢;have BM:HH.objs.size=s2.heap.objs.size + 1:=by rw [<-Lx,gh]
 have old:∀ b o,s2.heap.get? b=some o->Bd.get? b=some o:=fun b o e=>
  BE.extBut b o (fj (by rw [BM]; exact gf (fb e))) (eT _ (Lx ▸ eT _ e))
 have newD:∃ n,Bd.get? s2.heap.objs.size=some { cls:=.type "list",data:=.seq ([]:List Value).toArray n }:=
  ⟨_,BE.extBut _ _ (fj (by rw [BM]; exact gi _)) (eT _ (Lx ▸ fe _ rfl))⟩
 obtain ⟨W,⟨m0,w0⟩,turn⟩:=hW s2.heap.objs.size I2.fresh;have hfo:∀ b ∈ fp,∃ o,s2.heap.get? b=some o:=fun b hb=>let ⟨o,e,_⟩:=T.obj _ _ FO b hb; ⟨o,e⟩
 have I3:As (Ay X scope cl N s2 H2 HH.objs.size fp) [] (σ0 σ) (upd H2 s2.heap.objs.size (.lst [])) { s2 with heap:=Bd,toks:=s2.toks + ([]:List (Str × Value)).length }:=
  Jp I2 f2 hfo co (hσ σ I.len) old (fc _) (by rw [BM]; exact gy _) (gB (by rw [BM]; exact gi _)) (.inr newD) BQ
 have fC:s2.heap.objs.size<=HH.objs.size:=by rw [BM]; exact gy _
 obtain ⟨hg,ht,he⟩:=hb s2 H2 HH.objs.size fp;have loop:∀ Co:Shared,Co = { s2 with heap:=Bd,toks:=s2.toks + ([]:List (Str × Value)).length } ->
   codeAny (model X.prog X.w) X.A (.compLoop (.ListComp elt [⟨tg,iter,ifs,0⟩] scope pos) 0 (.ref it) (.ref s2.heap.objs.size) (compEnvC scope cl HH.objs.size X.env))
    (compPost (model X.prog X.w) X.A X.xe (some (assign (.Name x px) X.env)) (fun _ s'=>SP X pins DD .next s') (.ref s2.heap.objs.size) HH.objs.size) Co:=by
  rintro Co rfl;have stat:∀ {H':Hp} ,(∀ b ∈ fp,H' b=none)->∀ b ∈ fp,Em (Ay X scope cl N s2 H2 HH.objs.size fp) [] H' b:=fun hn b hb=>by
   refine ⟨hn b hb,?_,?_,.inl hb,?_,fun p hp=>by cases hp⟩
   ·obtain ⟨o,e⟩:=hfo b hb;exact fj (show b < HH.objs.size by rw [BM]; exact gf (fb e))
   ·intro hz;obtain ⟨_,q1,q2,_⟩:=f2 b hb;rcases eX.mp (I2.stkSub b hz) with e | e
    ·exact q1 e
    ·exact q2 e
   ·exact fun x c e=>(f2 b hb).2.2.2.2.1 x c (co.sub x c e)
  refine BR (fun n s'=>∃ i Av H',As (Ay X scope cl N s2 H2 HH.objs.size fp) [] Av H' s'/\tn i s'.heap/\(∀ b ∈ fp,H' b=none)/\W i n Av H') ?_ m0
   ⟨0,σ0 σ,_,I3,T.keep _ _ _ FO fun b hb o e=>old b o e,fun b hb=>?_,w0⟩
  ·rintro n s4 ⟨i,Ia,H4,I4,MN,OK,w4⟩;rcases turn i n Ia H4 w4 with ⟨stop,qn⟩ | ⟨go,step⟩
   ·refine wpAny_mono (T.done (Ay X scope cl N s2 H2 HH.objs.size fp) rfl rfl rfl hc i [] s4 Ia H4 (fun _ _=>False) I4 (stat OK) MN stop) (fun r s5 ⟨hr,I5⟩=>?_) fun _ _ z=>z.elim
    subst hr;obtain ⟨m5,Uq,_⟩:=id I5.loc;have I6:As X pins σ H4 s5:=Gh (h':=s5.heap) I2 f2 fC I5 (Heap.SameBut.refl _ _);have cC:∀ y c,X.env.cells.lookup y=some c->c ≠ HH.objs.size:=fun y c e=>by
     obtain ⟨v,q⟩:=I2.cell y c e;exact fj (fk q.lt fC)
    have lC:X.env.locals ≠ HH.objs.size:=fj (fk I2.lt fC);show wpAny _ X.A (assign (.Name x px) X.env (.ref s2.heap.objs.size)) _ X.xe s5
    refine wpAny_assign_Name (Gx I6 hN hix hlx (v:=.ref s2.heap.objs.size) rfl (fun s7 I7 ⟨a,sb,ha⟩=>?_) hf);have aC:a ≠ HH.objs.size:=by
     rcases ha with rfl | ha
     ·exact lC
     ·exact cC _ _ ha
    refine ⟨m5,Uq.sameBut sb (Ne.symm aC),fun h' Up=>⟨_,H4,?_,qn⟩⟩;exact I7.turned (t':=s7.toks) (it:=HH.objs.size) (fun b o hb e=>(Up.2 b hb).trans e) I5.free (Ne.symm lC) (.inr (gc I2.sz fC)) cC fun p hp z=>by
     have e:=(I2.pin p hp).1;exact absurd (fk (fb e) fC) (by rw [z]; exact gC _)
   ·refine wpAny_mono (T.item (Ay X scope cl N s2 H2 HH.objs.size fp) rfl rfl rfl hc i [] s4 Ia H4 (fun _ _=>False) I4 (stat OK) MN go) (fun r s5 ⟨u,hr,h5⟩=>?_) fun _ _ z=>z.elim
    subst hr;refine wpAny_mono h5 (fun _ s6 ⟨x,H6,I6,r6,y6,KD,Uv⟩=>?_) fun _ _ z=>z.elim
    have UE:=I6.pinned (stat Uv) (T.obj _ _ KD);refine wpAny_mono (hg s6 Ia H6 x u _ UE r6 (step x H6 y6)) (fun _ s7 ⟨EZ,H7,I7,q7⟩=>?_) fun _ _ z=>z.elim
    refine wpAny_mono (ht s7 EZ H7 _ I7 q7) (fun ok s8 ⟨H8,I8,q8⟩=>?_) fun _ _ z=>z.elim
    have again:∀ {s9:Shared} {HZ:St} {H9:Hp} ,As (Ay X scope cl N s2 H2 HH.objs.size fp) ([] ++ Ex fp s6.heap) HZ H9 s9->(∃ m',m' < n/\W (i + 1) m' HZ H9)->∃ m,m < n/\∃ i Av H',As (Ay X scope cl N s2 H2 HH.objs.size fp) [] Av H' s9/\tn i s9.heap/\(∀ b ∈ fp,H' b=none)/\W i m Av H':=fun {s9 HZ H9} I9 n9=>by
     obtain ⟨m',hm,w9⟩:=n9;refine ⟨m',hm,i + 1,HZ,H9,I9.unpinned,T.keep _ _ _ KD fun b hb o e=>(I9.pin (b,o) (fm _ (fm _ (Bo hb e)))).1,fun b hb=>?_,w9⟩;obtain ⟨o,e,d⟩:=T.obj _ _ KD b hb;exact (I9.pin (b,o) (fm _ (fm _ (Bo hb e)))).2.1
    cases ok with
    | false=>
     rw [if_neg fH] at q8 ⊢;exact again I8 q8
    | true=>
     rw [if_pos rfl] at q8 ⊢;refine wpAny_mono (he s8 EZ H8 _ I8 q8) (fun y s9 ⟨v,H9,I9,r9,acc,hacc,hsz,q9⟩=>?_) fun _ _ z=>z.elim
     refine wpAny_mono (Bj (X:=Ay X scope cl N s2 H2 HH.objs.size fp) s9 EZ H9 (.ref s2.heap.objs.size) [v] (.ref s2.heap.objs.size) [y] (fun _ MR=>∃ m',m' < n/\W (i + 1) m' EZ MR) I9 rfl (.cons r9 .nil) ⟨_,acc,v,rfl,rfl,hacc,hsz,q9⟩) (fun _ XU ⟨_,MR,UG,_,TJ⟩=>?_) fun _ _ z=>z.elim
     exact again UG TJ
  ·have z:=(f2 b hb).1;obtain ⟨o,e⟩:=hfo b hb;rw [Ae (fj (fb e))];exact z
 exact codeAny_compStart_list (loop _ rfl) (T.self _ 0 _ _ _ (T.keep _ _ _ FO fun b hb o e=>old b o e) (loop _ rfl))
theorem Paired.at {α β:Type} {F:α->β->Prop}:∀ {RS:List α} {l₂:List β},Paired F RS l₂->∀ {i:Nat} {a:α},RS[i]? = some a->∃ b,l₂[i]? = some b/\F a b
 | _,_,.nil,i,a,h=>by simp at h
 | _,_,.cons r t,0,a,h=>by
  simp only [gF,fV.injEq] at h;subst h;exact ⟨_,rfl,r⟩
 | _,_,.cons r t,i + 1,a,h=>by
  simp only [hX] at h;obtain ⟨b,h1,h2⟩:=Paired.at t h;exact ⟨b,by simpa using h1,h2⟩
theorem P8 {P:Program} {w:World} {k:Bh} {u:Value} (h:(AY P w).is k u=true):AD (kV k) u:=by
 rcases Br (show IY k u=true from h) with ⟨i,t,rfl,rfl⟩ | ⟨x,t,rfl,rfl⟩
 ·exact ⟨t,rfl⟩
 ·exact ⟨t,rfl⟩
def VO (a:Addr) (kvs:List (Bh × V)) (o:Obj):It:=
 ⟨fun i H=>H a=some (.frz o (.dK kvs))/\i < kvs.length,fun i H x H'=>H'=H/\∃ k v,kvs[i]? = some (k,v)/\x=kV k,fun i H=>H a=some (.frz o (.dK kvs))/\kvs.length<=i⟩
theorem NA {X:Cx} {pins:List (Addr × Obj)} {σ:St} {H:Hp} {s:Shared} {a:Addr} {o:Obj} {kvs:List (Bh × V)} {es:Array DictEntry} {ep:Nat} (I:As X pins σ H s) (e:H a=some (.frz o (.dK kvs))) (he:o.data=.dict es ep) :
  (a == sysModules)=false/\∃ vs,KV kvs vs/\s.heap.DictAt (AY X.prog X.w) a vs ep:=by
 obtain ⟨ho,z,hd,vs,rel,o',bp,VD,h1,h2,h3,h4⟩:=(show AL X.prog X.w H s.heap a (.frz o (.dK kvs)) from I.hok a _ e)
 rw [ho] at h1;cases h1
 rw [he] at h3;injection h3 with h5 h6;subst h5 h6;exact ⟨hd,vs,rel,o,es,ho,h2,he,h4⟩
theorem Pf {P:Program} {w:World} {K:eV} {tg:Expr} (a it:Addr) {kvs:List (Bh × V)} {o:Obj} {es:Array DictEntry} {ep:Nat} (he:o.data=.dict es ep) :
  MI P w K tg (VO a kvs o) [it] it (fun i h=>h.IsKeyIter it a i kvs.length ep) where
 mem:=by simp
 obj:=fun i h st b hb=>by
  have e:b=it:=by simpa using hb
  subst e;obtain ⟨o,e,c,d⟩:=st;exact ⟨o,e,fun v z=>by rw [d] at z; cases z⟩
 keep:=fun i h h' st k=>st.at fun o e=>k it (by simp) o e
 item:=by
  intro X hP hw hK hc i pins s σ H E I hf st hg;subst hP hw hK;obtain ⟨hq,B6⟩:=hg;obtain ⟨hd,vs,rel,da⟩:=NA I hq he;have hx:kvs[i]? = some kvs[i]:=by simp [B6]
  obtain ⟨⟨k,v⟩,hv,e1,e2⟩:=Paired.at rel hx;have hl:kvs.length=vs.length:=rel.length;obtain ⟨f0,f1,f2,f3,f4,f5⟩:=hf it (by simp);rw [hl] at st;refine wpAny_pyNext_dict_item st da hv fun key h' hkey AZ sb=>?_
  have I1:As X pins σ H { s with heap:=h' }:=I.turned (t':=s.toks) (fun b o hb e=>(sb.2 b hb).trans e) f0 f1 f3 f4 f5;rw [<-hl] at AZ;obtain ⟨o',e,c,d⟩:=id AZ;refine ⟨key,rfl,Ks (s:={ s with heap:=h' }) e c d (by decide) ⟨kV k,H,I1,P8 hkey,⟨rfl,k,kvs[i].2,?_,rfl⟩,AZ,fun b hb=>(hf b hb).1⟩⟩;have Xl:kvs[i].1=k:=e1;rw [hx,<-Xl]
 done:=by
  intro X hP hw hK hc i pins s σ H E I hf st hg;subst hP hw hK;obtain ⟨hq,hle⟩:=hg;obtain ⟨hd,vs,rel,da⟩:=NA I hq he;have hl:kvs.length=vs.length:=rel.length;obtain ⟨f0,f1,f2,f3,f4,f5⟩:=hf it (by simp);rw [hl] at st;exact wpAny_pyNext_dict_end (I.ok.hd hc) st da (by simp; lia) fun h' eb=>⟨rfl,I.turned (t':=s.toks) (fun b o hb e=>eb b o hb e) f0 f1 f3 f4 f5⟩
 self:=fun _ _ _ _ _ st h=>wpAny_pyIter_keyiter st h
def E8 (H:Hp) (a:Addr) (kvs:List (Bh × V)) (o:Obj) (H':Hp):Prop:=(H a=some (.dK kvs)/\H'=upd H a (.frz o (.dK kvs)))\/(H a=some (.frz o (.dK kvs))/\H'=H)
theorem E8.at {H H':Hp} {a:Addr} {kvs:List (Bh × V)} {o:Obj} (f:E8 H a kvs o H'):H' a=some (.frz o (.dK kvs)):=by
 rcases f with ⟨_,rfl⟩ | ⟨e,rfl⟩
 ·exact Ab
 ·exact e
theorem E8.ne {H H':Hp} {a b:Addr} {kvs:List (Bh × V)} {o:Obj} (f:E8 H a kvs o H') (h:b ≠ a):H' b=H b:=by
 rcases f with ⟨_,rfl⟩ | ⟨e,rfl⟩
 ·exact Ae h
 ·rfl
theorem As.freeze {X:Cx} {pins:List (Addr × Obj)} {σ:St} {H:Hp} {s:Shared} {a:Addr} {kvs:List (Bh × V)} (I:As X pins σ H s) (e:Rd H a (.dK kvs)) :
  ∃ o es ep H',o.data=.dict es ep/\E8 H a kvs o H'/\As X pins σ H' s:=by
 rcases e with e | ⟨o,e⟩
 ·obtain ⟨z,hd,vs,rel,o,es,ep,h1,h2,h3,h4⟩:=(show AL X.prog X.w H s.heap a (.dK kvs) from I.hok a _ e)
  exists o,es,ep,upd H a (.frz o (.dK kvs)),h3,.inl ⟨e,rfl⟩;exact I.write (x:=a) (e:=a) (h':=s.heap) (t':=s.toks) (by rw [e]; exact True.intro) (.inl rfl) (fun b u _ q=>q) ⟨o,h1⟩ ⟨h1,z,hd,vs,rel,o,es,ep,h1,h2,h3,h4⟩
 ·obtain ⟨ho,z,hd,vs,rel,o',es,ep,h1,h2,h3,h4⟩:=(show AL X.prog X.w H s.heap a (.frz o (.dK kvs)) from I.hok a _ e)
  rw [ho] at h1;cases h1
  exact ⟨o,es,ep,H,h3,.inr ⟨e,rfl⟩,I⟩
def iDict (tl:TE):TI:=fun σ H R=>tl σ H fun x H1=>∃ a kvs,x=.ref a/\Rd H1 a (.dK kvs)/\∀ o H2,E8 H1 a kvs o H2->R (VO a kvs o) H2
theorem O5 {X:Cx} {tg l:Expr} {tl:TE} (hl:PE X l tl):PI X tg l (iDict tl):=by
 intro pins s σ H R I h;refine Bt (hl (pins:=pins) s σ H _ I h) fun v s1 ⟨x,H1,I1,r1,q1⟩=>?_
 obtain ⟨a,kvs,e,hr,q⟩:=q1;subst e;cases r1
 obtain ⟨o,es,ep,H2,he,fz,I2⟩:=I1.freeze hr;obtain ⟨hd,vs,rel,da⟩:=NA I2 fz.at he;refine wpAny_pyIter_dict hd da ?_;refine ⟨s1.heap.objs.size,[s1.heap.objs.size],_,_,H2,rfl,I2.kept (t':=s1.toks) fun b o e=>eT _ e,Pf a _ he,⟨_,fe _ rfl,rfl,?_⟩,fun b hb=>?_,q o H2 fz⟩
 ·rw [rel.length]; rfl
 ·have e:b=s1.heap.objs.size:=by simpa using hb
  subst e;exact I2.fpOk (fc _) (I2.hok.fresh (fc _))
theorem Sy {a:Addr} {kvs:List (Bh × V)} {o:Obj} {g:TG} {tb:TS} {D:Gr} {σ:St} {H:Hp} (Pv:Nat->St->Hp->Prop) (h0:Pv 0 σ H) (hl:∀ i σ H,i<=kvs.length->Pv i σ H->H a=some (.frz o (.dK kvs)))
  (hs:∀ i k v σ H,kvs[i]? = some (k,v)->Pv i σ H->g (kV k) σ H fun A6 H2=>tb { D with nx:=Pv (i + 1),ct:=Pv (i + 1),bk:=D.nx } A6 H2) (hd:∀ σ H,Pv kvs.length σ H->D.nx σ H) :
  ∃ W:Nat->Nat->St->Hp->Prop,(∃ m,W 0 m σ H)/\∀ i m σ H,W i m σ H ->
   ((VO a kvs o).stop i H/\D.nx σ H)\/((VO a kvs o).go i H/\∃ N:St->Hp->Prop,(∀ Av H',N Av H'->∃ m',m' < m/\W (i + 1) m' Av H')/\∀ x H',(VO a kvs o).yld i H x H'->g x σ H' fun A6 H2=>tb { D with nx:=N,ct:=N,bk:=D.nx } A6 H2):=by
 exists fun i m σ H=>m=kvs.length - i/\i<=kvs.length/\Pv i σ H,⟨kvs.length,by simp,gr _,h0⟩
 rintro i m σ H ⟨rfl,hi,p⟩;have q:=hl i σ H hi p;by_cases B6:i < kvs.length
 ·refine .inr ⟨⟨q,B6⟩,Pv (i + 1),fun Av H' p'=>⟨kvs.length - (i + 1),by lia,rfl,B6,p'⟩,fun x H' y=>?_⟩;obtain ⟨e,k,v,e1,e2⟩:=y;subst e e2;exact hs i k v σ _ e1 p
 ·have e:i=kvs.length:=by lia
  subst e;exact .inl ⟨⟨q,fc _⟩,hd σ H p⟩
section
variable {prog:Program} {w:World} {A:Around} {E:Value->Shared->Prop} {s:Shared}
end
theorem ET (a:List Nat):¬ a < a:=jj a
section
variable {X:Cx} {pins:List (Addr × Obj)} {σ Av:St} {H H':Hp} {s2 s':Shared} {scope:Scope} {cl:List (Str × Addr)} {N:List Str} {fp:List Addr} {C D:Addr} {Bd h':Heap} {t':Nat}
theorem HF {ob:HO} (I:As X pins σ H s2) (hf:∀ b ∈ fp,Em X pins H b) (hfo:∀ b ∈ fp,∃ o,s2.heap.get? b=some o) (co:AF X scope cl) (hσ:AU X cl scope N σ Av)
  (k:∀ b o,s2.heap.get? b=some o->Bd.get? b=some o) (hD:s2.heap.objs.size<=D) (hC:s2.heap.objs.size<=C) (hDC:C ≠ D)
  (newO:AL X.prog X.w (upd H D ob) Bd D ob) {m:Str->Option Value} (hn:Bd.Ns C m) :
  As (Ay X scope cl N s2 H C fp) [] Av (upd H D ob) { s2 with heap:=Bd,toks:=t' }:=by
 have fD:H D=none:=I.hok.fresh hD;have fC:H C=none:=I.hok.fresh hC;have lts:∀ b ∈ fp,b < s2.heap.objs.size:=fun b hb=>let ⟨_,e⟩:=hfo b hb; fb e
 have cells_lt:∀ x c,cl.lookup x=some c->c < s2.heap.objs.size:=fun x c e=>by
  obtain ⟨v,q⟩:=I.cell x c (co.sub x c e);exact q.lt
 have ok:Cx.Ok (Ay X scope cl N s2 H C fp):=by
  refine ⟨I.ok.mod,?_,I.ok.glob,I.ok.blt,hC,?_,?_,?_,I.ok.hd,I.ok.frames,.inl rfl,?_,I.bs,gc I.ok.bsz I.sz,?_,?_,I.stack,I.stkFree⟩
  ·exact co.kind
  ·exact fun x y c e1 e2=>I.ok.inj x y c (co.sub x c e1) (co.sub y c e2)
  ·exact fun x h=>co.has x h
  ·exact fun x c h _=>by cases h
  ·intro b hb;refine ⟨fun e=>?_,fun x c e=>(hf b hb).2.2.2.2.1 x c (co.sub x c e)⟩;have z:=lts b hb;exact absurd (fk z hC) (by rw [show b=C from e]; exact gC _)
  ·intro b o e hb;have HR:b ∈ fp:=hb;rcases (hf b HR).2.2.2.1 with z | z
   ·exact I.ok.noex b o e z
   ·exact absurd (fk (fb e) (gc I.ok.bsz z)) (gC _)
  ·intro b hb hz;have HR:b ∈ fp:=hb;obtain ⟨_,f1,f2,_⟩:=hf b HR;rcases eX.mp (I.stkSub b hz) with e | e
   ·exact f1 e
   ·exact f2 e
 refine ⟨ok,rfl,I.bare,Un.laid k hD fD,?_,?_,?_,?_,?_,I.hok.laid k hD newO,hσ.1⟩
 ·refine ⟨m,hn,fun i x v e1 e2 _=>?_⟩;obtain ⟨⟨j,j1,j2⟩,kk,kr⟩:=hσ.2 i x v e1 e2;obtain ⟨mo,_,hl⟩:=I.loc;obtain ⟨u,r,l⟩:=hl j x v j1 j2 (by
   rcases kk with z | z
   ·exact .inr (.inl z)
   ·exact .inr (.inr z))
  refine ⟨u,r,.inr ⟨kr,?_⟩⟩;obtain ⟨c,hc⟩:=co.has x kr;rcases l with ⟨z,_⟩ | ⟨_,c',LC,hcell⟩
  ·rcases kk with q | q
   ·rw [z] at q; cases q
   ·rw [z] at q; cases q
  ·have e3:=co.sub x c hc;rw [LC] at e3;have e4:c'=c:=fV.inj e3;subst e4;obtain ⟨o,ho,hd⟩:=hcell;exact ⟨c',hc,o,k _ o ho,hd⟩
 ·intro x c e;obtain ⟨v,o,ho,hd⟩:=I.cell x c (co.sub x c e);exact ⟨v,o,k _ o ho,hd⟩
 ·show upd H D ob C=none
  rw [Ae hDC];exact fC
 ·intro x c e;rw [Ae (fj (fk (cells_lt x c e) hD))];exact I.freeC x c (co.sub x c e)
 ·intro p hp;cases hp
end
section
variable {prog:Program} {w:World} {A:Around} {R:Result->Shared->Prop} {s:Shared}
theorem C1 {kx vx target iter:Expr} {ifs:List Expr} {scope:Scope} {pos:Pos} {it:Value} {D:Addr} {env:Env} (I:Nat->Shared->Prop)
  (turn:∀ n s,I n s->wpAny (model prog w) A (pyNext it) (fun r AV=>match r with
   | none=>R (.ok .next) AV
   | some v=>wpAny (model prog w) A (letOwnedTupleGo target it v) (fun _ LM=>wpAny (model prog w) A (assign target env v) (fun _ EB=>
     wpAny (model prog w) A (forIn ifs true fun c r=>if r=true then do let ok <- isTrue c env (eval c env); pure (ForInStep.yield ok) else pure (ForInStep.yield r)) (fun ok Co=>
      if ok=true then wpAny (model prog w) A (eval kx env) (fun kv QP=>wpAny (model prog w) A (eval vx env) (fun vv QO=>
       wpAny (model prog w) A (dictSet D kv vv) (fun _ Y1=>∃ m,m < n/\I m Y1) (notedBy (model prog w) A env fun e s'=>R (.error e) s') QO) (notedBy (model prog w) A env fun e s'=>R (.error e) s') QP) (notedBy (model prog w) A env fun e s'=>R (.error e) s') Co
      else ∃ m,m < n/\I m Co) (notedBy (model prog w) A env fun e s'=>R (.error e) s') EB) (notedBy (model prog w) A env fun e s'=>R (.error e) s') LM) (notedBy (model prog w) A env fun e s'=>R (.error e) s') AV) (notedBy (model prog w) A env fun e s'=>R (.error e) s') s)
  (n:Nat) (h:I n s) :
  codeAny (model prog w) A (.compLoop (.DictComp kx vx [⟨target,iter,ifs,0⟩] scope pos) 0 it (.ref D) env) R s:=by
 refine codeAny_loop rfl I (fun n s hI=>?_) n h;show wpAny _ A ((compTurn (.DictComp kx vx [⟨target,iter,ifs,0⟩] scope pos) 0 it (.ref D) env).onRaise (fun x=>do noteFrame x env; theTreesLotGoes x)) _ _ s
 refine wpAny_noted ?_;rw [compTurn_dict];refine wpAny_bind (wpAny_standAt (wpAny_bind (wpAny_mono (turn n s hI) (fun r AV Bd=>?_) fun _ _ h'=>h')));cases r with
 | none=>exact wpAny_pure Bd
 | some v=>
  refine wpAny_bind (wpAny_mono Bd (fun _ LM Se=>?_) fun _ _ h'=>h');refine wpAny_bind (wpAny_mono Se (fun _ EB GQ=>wpAny_bind (wpAny_mono GQ (fun ok Co HQ=>?_) fun _ _ h'=>h')) fun _ _ h'=>h');cases ok with
  | false=>exact wpAny_pure ⟨rfl,HQ⟩
  | true=>
   exact wpAny_bind (wpAny_bind (wpAny_mono HQ (fun kv QP N1=>wpAny_bind (wpAny_holding (wpAny_mono N1 (fun vv QO CT=>wpAny_bind (wpAny_standAt (wpAny_holding (wpAny_mono CT (fun _ Y1 cL=>wpAny_pure ⟨rfl,cL⟩) fun _ _ h'=>h')))) fun _ _ h'=>h'))) fun _ _ h'=>h'))
end
theorem Kx {X:Cx} {pins:List (Addr × Obj)} {σ:St} {H:Hp} {s:Shared} {a:Addr} {k:Bh} {v:V} {u r:Value} {kvs:List (Bh × V)} {A:Around} {E:Value->Shared->Prop} {Q:Unit->Shared->Prop} (I:As X pins σ H s) (e:H a=some (.dK kvs)) (l:kvs.length < sizeLine) (ry:AD (kV k) u) (rv:AD v r)
  (h:∀ s',As X pins σ (upd H a (.dK (BJ kvs k v))) s'->Q () s'):wpAny (model X.prog X.w) A (dictSet a u r) Q E s:=by
 obtain ⟨z,hd,vs,rel,dd⟩:=S6 I.hok e;have hz:vs.length<=sizeLine:=by rw [<-rel.length]; exact z
 have hl:(BJ kvs k v).length<=sizeLine:=by have:=CA kvs k v; lia
 refine wpAny_dictSet_pairs (hsz:=hz) (Hy ry) dd fun h' MQ hs=>h _ ?_
 have he:∃ q,h'.get? a=some q:=let ⟨q,_,_,hq,_⟩:=MQ; ⟨q,hq⟩;exact Ij I (by rw [e]; exact True.intro) hs he (Ly hl hd (rel.put k rv) MQ)
def QN (wi:TI) (g:TG) (tt:TT) (tk tv:TE) (σ0:St->St):TE:=fun σ H Q=>wi σ H fun J H1=>∀ D,H1 D=none->∃ W:Nat->Nat->St->Hp->Prop,(∃ m,W 0 m (σ0 σ) (upd H1 D (.dK []))) /\
 ∀ i m Av H',W i m Av H'->(J.stop i H'/\Q (.ref D) H')\/(J.go i H'/\∀ x H2,J.yld i H' x H2->g x Av H2 fun A6 H3=>tt A6 H3 fun b H4=>
  if b=true then tk A6 H4 (fun y H5=>tv A6 H5 fun v H6=>∃ kvs k,y=kV k/\H6 D=some (.dK kvs)/\kvs.length < sizeLine/\∃ m',m' < m/\W (i + 1) m' A6 (upd H6 D (.dK (BJ kvs k v)))) else ∃ m',m' < m/\W (i + 1) m' A6 H4)
theorem IG {X:Cx} {tg iter kx vx:Expr} {ifs:List Expr} {scope:Scope} {cl:List (Str × Addr)} {N:List Str} {pos:Pos} {wi:TI} {g:TG} {tt:TT} {tk tv:TE} {σ0:St->St} (hc:X.calm=true) (co:AF X scope cl)
  (hσ:∀ σ,σ.length=X.N.length->AU X cl scope N σ (σ0 σ)) (hi:PI X tg iter wi)
  (hb:∀ s2 H C fp,PG (Ay X scope cl N s2 H C fp) tg g/\Xz (Ay X scope cl N s2 H C fp) ifs tt/\PE (Ay X scope cl N s2 H C fp) kx tk/\PE (Ay X scope cl N s2 H C fp) vx tv)
  (hs:∀ x,foldedSetIterable iter X.env x=pure x:=by intro _; rfl):PE X (.DictComp kx vx [⟨tg,iter,ifs,0⟩] scope pos) (QN wi g tt tk tv σ0):=by
 intro pins s σ H Q I h;rw [arm_eval_DictComp];refine wpAny_comprehension_free (use:=none) rfl hs co.clos co.kind co.names (wpAny_mono (hi (pins:=pins) s σ H _ I h) (fun xv s1 h1=>wpAny_mono h1 (fun itv s2 h2=>?_) fun _ _ e=>e) fun _ _ e=>e);obtain ⟨it,fp,tn,J,H2,rfl,I2,T,FO,f2,hW⟩:=h2;refine wpAny_newObj_type (wpAny_newFunctionEnv co.cell (by intro y hy; cases hy) (fun Bd BQ BE=>?_) co.kind);dsimp only at BQ BE ⊢;generalize Lx:s2.heap.push { cls:=.type "dict",dict:=none,data:=.dict #[] } = HH at BQ BE ⊢;have BM:HH.objs.size=s2.heap.objs.size + 1:=by rw [<-Lx,gh]
 have old:∀ b o,s2.heap.get? b=some o->Bd.get? b=some o:=fun b o e=>
  BE.extBut b o (fj (by rw [BM]; exact gf (fb e))) (eT _ (Lx ▸ eT _ e))
 have newD:AL X.prog X.w (upd H2 s2.heap.objs.size (.dK [])) Bd s2.heap.objs.size (.dK []):=
  let ⟨z,hd,vs,rel,o,es,ep,ho,r⟩:=Jm (P:=X.prog) (w:=X.w) (H:=upd H2 s2.heap.objs.size (.dK [])) s2.heap I2.big
  ⟨z,hd,vs,rel,o,es,ep,BE.extBut _ _ (fj (by rw [BM]; exact gi _)) (eT _ (Lx ▸ ho)),r⟩
 obtain ⟨W,⟨m0,w0⟩,turn⟩:=hW s2.heap.objs.size I2.fresh;have hfo:∀ b ∈ fp,∃ o,s2.heap.get? b=some o:=fun b hb=>let ⟨o,e,_⟩:=T.obj _ _ FO b hb; ⟨o,e⟩
 have I3:As (Ay X scope cl N s2 H2 HH.objs.size fp) [] (σ0 σ) (upd H2 s2.heap.objs.size (.dK [])) { s2 with heap:=Bd,toks:=s2.toks + ([]:List (Str × Value)).length }:=
  HF I2 f2 hfo co (hσ σ I.len) old (fc _) (by rw [BM]; exact gy _) (gB (by rw [BM]; exact gi _)) newD BQ
 have fC:s2.heap.objs.size<=HH.objs.size:=by rw [BM]; exact gy _
 obtain ⟨hg,ht,hk,hv⟩:=hb s2 H2 HH.objs.size fp;have loop:∀ Co:Shared,Co = { s2 with heap:=Bd,toks:=s2.toks + ([]:List (Str × Value)).length } ->
   codeAny (model X.prog X.w) X.A (.compLoop (.DictComp kx vx [⟨tg,iter,ifs,0⟩] scope pos) 0 (.ref it) (.ref s2.heap.objs.size) (compEnvC scope cl HH.objs.size X.env))
    (compPost (model X.prog X.w) X.A X.xe none (EP X pins σ Q) (.ref s2.heap.objs.size) HH.objs.size) Co:=by
  rintro Co rfl;have stat:∀ {H':Hp} ,(∀ b ∈ fp,H' b=none)->∀ b ∈ fp,Em (Ay X scope cl N s2 H2 HH.objs.size fp) [] H' b:=fun hn b hb=>by
   refine ⟨hn b hb,?_,?_,.inl hb,?_,fun p hp=>by cases hp⟩
   ·obtain ⟨o,e⟩:=hfo b hb;exact fj (show b < HH.objs.size by rw [BM]; exact gf (fb e))
   ·intro hz;obtain ⟨_,q1,q2,_⟩:=f2 b hb;rcases eX.mp (I2.stkSub b hz) with e | e
    ·exact q1 e
    ·exact q2 e
   ·exact fun x c e=>(f2 b hb).2.2.2.2.1 x c (co.sub x c e)
  refine C1 (fun n s'=>∃ i Av H',As (Ay X scope cl N s2 H2 HH.objs.size fp) [] Av H' s'/\tn i s'.heap/\(∀ b ∈ fp,H' b=none)/\W i n Av H') ?_ m0
   ⟨0,σ0 σ,_,I3,T.keep _ _ _ FO fun b hb o e=>old b o e,fun b hb=>?_,w0⟩
  ·rintro n s4 ⟨i,Ia,H4,I4,MN,OK,w4⟩;rcases turn i n Ia H4 w4 with ⟨stop,qn⟩ | ⟨go,step⟩
   ·refine wpAny_mono (T.done (Ay X scope cl N s2 H2 HH.objs.size fp) rfl rfl rfl hc i [] s4 Ia H4 (fun _ _=>False) I4 (stat OK) MN stop) (fun r s5 ⟨hr,I5⟩=>?_) fun _ _ z=>z.elim
    subst hr;obtain ⟨m5,Uq,_⟩:=id I5.loc;exact ⟨m5,Uq,fun h' Up=>⟨.ref _,H4,Gh I2 f2 fC I5 Up,rfl,qn⟩⟩
   ·refine wpAny_mono (T.item (Ay X scope cl N s2 H2 HH.objs.size fp) rfl rfl rfl hc i [] s4 Ia H4 (fun _ _=>False) I4 (stat OK) MN go) (fun r s5 ⟨u,hr,h5⟩=>?_) fun _ _ z=>z.elim
    subst hr;refine wpAny_mono h5 (fun _ s6 ⟨x,H6,I6,r6,y6,KD,Uv⟩=>?_) fun _ _ z=>z.elim
    have UE:=I6.pinned (stat Uv) (T.obj _ _ KD);refine wpAny_mono (hg s6 Ia H6 x u _ UE r6 (step x H6 y6)) (fun _ s7 ⟨EZ,H7,I7,q7⟩=>?_) fun _ _ z=>z.elim
    refine wpAny_mono (ht s7 EZ H7 _ I7 q7) (fun ok s8 ⟨H8,I8,q8⟩=>?_) fun _ _ z=>z.elim
    have again:∀ {s9:Shared} {HZ:St} {H9:Hp} ,As (Ay X scope cl N s2 H2 HH.objs.size fp) ([] ++ Ex fp s6.heap) HZ H9 s9->(∃ m',m' < n/\W (i + 1) m' HZ H9)->∃ m,m < n/\∃ i Av H',As (Ay X scope cl N s2 H2 HH.objs.size fp) [] Av H' s9/\tn i s9.heap/\(∀ b ∈ fp,H' b=none)/\W i m Av H':=fun {s9 HZ H9} I9 n9=>by
     obtain ⟨m',hm,w9⟩:=n9;refine ⟨m',hm,i + 1,HZ,H9,I9.unpinned,T.keep _ _ _ KD fun b hb o e=>(I9.pin (b,o) (fm _ (fm _ (Bo hb e)))).1,fun b hb=>?_,w9⟩;obtain ⟨o,e,d⟩:=T.obj _ _ KD b hb;exact (I9.pin (b,o) (fm _ (fm _ (Bo hb e)))).2.1
    cases ok with
    | false=>
     rw [if_neg fH] at q8 ⊢;exact again I8 q8
    | true=>
     rw [if_pos rfl] at q8 ⊢;refine wpAny_mono (hk s8 EZ H8 _ I8 q8) (fun yk s9 ⟨k,H9,I9,r9,q9⟩=>?_) fun _ _ z=>z.elim
     refine wpAny_mono (hv s9 EZ H9 _ I9 q9) (fun yv XU ⟨v,MR,UG,cn,kvs,key,ek,hacc,hsz,TJ⟩=>?_) fun _ _ z=>z.elim
     subst ek;exact Kx (X:=Ay X scope cl N s2 H2 HH.objs.size fp) UG hacc hsz r9 cn fun s11 eG=>again eG TJ
  ·have z:=(f2 b hb).1;obtain ⟨o,e⟩:=hfo b hb;rw [Ae (fj (fb e))];exact z
 exact codeAny_compStart_dict (loop _ rfl) (T.self _ 0 _ _ _ (T.keep _ _ _ FO fun b hb o e=>old b o e) (loop _ rfl))
theorem R4 {X:Cx} {ix:Nat} {x:Str} {px spos:Pos} {tg iter kx vx:Expr} {ifs:List Expr} {scope:Scope} {cl:List (Str × Addr)} {N:List Str} {pos:Pos} {wi:TI} {g:TG} {tt:TT} {tk tv:TE} {σ0:St->St} (hN:X.N.Nodup) (hix:X.N[ix]? = some x) (hlx:Yq X.env.scope x) (hc:X.calm=true) (co:AF X scope cl)
  (hσ:∀ σ,σ.length=X.N.length->AU X cl scope N σ (σ0 σ)) (hi:PI X tg iter wi)
  (hb:∀ s2 H C fp,PG (Ay X scope cl N s2 H C fp) tg g/\Xz (Ay X scope cl N s2 H C fp) ifs tt/\PE (Ay X scope cl N s2 H C fp) kx tk/\PE (Ay X scope cl N s2 H C fp) vx tv)
  (hsw:swapsWith (.DictComp kx vx [⟨tg,iter,ifs,0⟩] scope pos) (some (.Name x px)) spos.line X.env=pure true:=by rfl)
  (hs:∀ x,foldedSetIterable iter X.env x=pure x:=by intro _; rfl) (hf:X.fn x=true\/X.env.scope.names.lookup x=some .local:=by first | exact .inl rfl | exact .inr rfl | assumption) :
  PS X (.Assign [.Name x px] (.DictComp kx vx [⟨tg,iter,ifs,0⟩] scope pos) spos) (Tq (QN wi g tt tk tv σ0) (Mz ix)):=by
 intro pins s σ H DD I h;rw [exec_Assign_Name_used _ _ _ _ hsw];refine wpAny_bind (wpAny_standAt (wpAny_bind ?_));show wpAny _ X.A (do let _ <- comprehension (.DictComp kx vx [⟨tg,iter,ifs,0⟩] scope pos) scope X.env _ newDict false (eval iter X.env) (some (assign (.Name x px) X.env))) _ _ s
 refine wpAny_bind (wpAny_mono (wpAny_comprehension_free (use:=some (assign (.Name x px) X.env)) (Q:=fun _ s'=>SP X pins DD .next s') rfl hs co.clos co.kind co.names
  (wpAny_mono (hi (pins:=pins) s σ H _ I h) (fun xv s1 h1=>wpAny_mono h1 (fun itv s2 h2=>?_) fun _ _ e=>e) fun _ _ e=>e)) (fun _ s' hq=>wpAny_pure (wpAny_pure hq)) fun _ _ e=>e)
 obtain ⟨it,fp,tn,J,H2,rfl,I2,T,FO,f2,hW⟩:=h2;refine wpAny_newObj_type (wpAny_newFunctionEnv co.cell (by intro y hy; cases hy) (fun Bd BQ BE=>?_) co.kind);dsimp only at BQ BE ⊢;generalize Lx:s2.heap.push { cls:=.type "dict",dict:=none,data:=.dict #[] } = HH at BQ BE ⊢;have BM:HH.objs.size=s2.heap.objs.size + 1:=by rw [<-Lx,gh]
 have old:∀ b o,s2.heap.get? b=some o->Bd.get? b=some o:=fun b o e=>
  BE.extBut b o (fj (by rw [BM]; exact gf (fb e))) (eT _ (Lx ▸ eT _ e))
 have newD:AL X.prog X.w (upd H2 s2.heap.objs.size (.dK [])) Bd s2.heap.objs.size (.dK []):=
  let ⟨z,hd,vs,rel,o,es,ep,ho,r⟩:=Jm (P:=X.prog) (w:=X.w) (H:=upd H2 s2.heap.objs.size (.dK [])) s2.heap I2.big
  ⟨z,hd,vs,rel,o,es,ep,BE.extBut _ _ (fj (by rw [BM]; exact gi _)) (eT _ (Lx ▸ ho)),r⟩
 obtain ⟨W,⟨m0,w0⟩,turn⟩:=hW s2.heap.objs.size I2.fresh;have hfo:∀ b ∈ fp,∃ o,s2.heap.get? b=some o:=fun b hb=>let ⟨o,e,_⟩:=T.obj _ _ FO b hb; ⟨o,e⟩
 have I3:As (Ay X scope cl N s2 H2 HH.objs.size fp) [] (σ0 σ) (upd H2 s2.heap.objs.size (.dK [])) { s2 with heap:=Bd,toks:=s2.toks + ([]:List (Str × Value)).length }:=
  HF I2 f2 hfo co (hσ σ I.len) old (fc _) (by rw [BM]; exact gy _) (gB (by rw [BM]; exact gi _)) newD BQ
 have fC:s2.heap.objs.size<=HH.objs.size:=by rw [BM]; exact gy _
 obtain ⟨hg,ht,hk,hv⟩:=hb s2 H2 HH.objs.size fp;have loop:∀ Co:Shared,Co = { s2 with heap:=Bd,toks:=s2.toks + ([]:List (Str × Value)).length } ->
   codeAny (model X.prog X.w) X.A (.compLoop (.DictComp kx vx [⟨tg,iter,ifs,0⟩] scope pos) 0 (.ref it) (.ref s2.heap.objs.size) (compEnvC scope cl HH.objs.size X.env))
    (compPost (model X.prog X.w) X.A X.xe (some (assign (.Name x px) X.env)) (fun _ s'=>SP X pins DD .next s') (.ref s2.heap.objs.size) HH.objs.size) Co:=by
  rintro Co rfl;have stat:∀ {H':Hp} ,(∀ b ∈ fp,H' b=none)->∀ b ∈ fp,Em (Ay X scope cl N s2 H2 HH.objs.size fp) [] H' b:=fun hn b hb=>by
   refine ⟨hn b hb,?_,?_,.inl hb,?_,fun p hp=>by cases hp⟩
   ·obtain ⟨o,e⟩:=hfo b hb;exact fj (show b < HH.objs.size by rw [BM]; exact gf (fb e))
   ·intro hz;obtain ⟨_,q1,q2,_⟩:=f2 b hb;rcases eX.mp (I2.stkSub b hz) with e | e
    ·exact q1 e
    ·exact q2 e
   ·exact fun x c e=>(f2 b hb).2.2.2.2.1 x c (co.sub x c e)
  refine C1 (fun n s'=>∃ i Av H',As (Ay X scope cl N s2 H2 HH.objs.size fp) [] Av H' s'/\tn i s'.heap/\(∀ b ∈ fp,H' b=none)/\W i n Av H') ?_ m0
   ⟨0,σ0 σ,_,I3,T.keep _ _ _ FO fun b hb o e=>old b o e,fun b hb=>?_,w0⟩
  ·rintro n s4 ⟨i,Ia,H4,I4,MN,OK,w4⟩;rcases turn i n Ia H4 w4 with ⟨stop,qn⟩ | ⟨go,step⟩
   ·refine wpAny_mono (T.done (Ay X scope cl N s2 H2 HH.objs.size fp) rfl rfl rfl hc i [] s4 Ia H4 (fun _ _=>False) I4 (stat OK) MN stop) (fun r s5 ⟨hr,I5⟩=>?_) fun _ _ z=>z.elim
    subst hr;obtain ⟨m5,Uq,_⟩:=id I5.loc;have I6:As X pins σ H4 s5:=Gh (h':=s5.heap) I2 f2 fC I5 (Heap.SameBut.refl _ _);have cC:∀ y c,X.env.cells.lookup y=some c->c ≠ HH.objs.size:=fun y c e=>by
     obtain ⟨v,q⟩:=I2.cell y c e;exact fj (fk q.lt fC)
    have lC:X.env.locals ≠ HH.objs.size:=fj (fk I2.lt fC);show wpAny _ X.A (assign (.Name x px) X.env (.ref s2.heap.objs.size)) _ X.xe s5
    refine wpAny_assign_Name (Gx I6 hN hix hlx (v:=.ref s2.heap.objs.size) rfl (fun s7 I7 ⟨a,sb,ha⟩=>?_) hf);have aC:a ≠ HH.objs.size:=by
     rcases ha with rfl | ha
     ·exact lC
     ·exact cC _ _ ha
    refine ⟨m5,Uq.sameBut sb (Ne.symm aC),fun h' Up=>⟨_,H4,?_,qn⟩⟩;exact I7.turned (t':=s7.toks) (it:=HH.objs.size) (fun b o hb e=>(Up.2 b hb).trans e) I5.free (Ne.symm lC) (.inr (gc I2.sz fC)) cC fun p hp z=>by
     have e:=(I2.pin p hp).1;exact absurd (fk (fb e) fC) (by rw [z]; exact gC _)
   ·refine wpAny_mono (T.item (Ay X scope cl N s2 H2 HH.objs.size fp) rfl rfl rfl hc i [] s4 Ia H4 (fun _ _=>False) I4 (stat OK) MN go) (fun r s5 ⟨u,hr,h5⟩=>?_) fun _ _ z=>z.elim
    subst hr;refine wpAny_mono h5 (fun _ s6 ⟨x,H6,I6,r6,y6,KD,Uv⟩=>?_) fun _ _ z=>z.elim
    have UE:=I6.pinned (stat Uv) (T.obj _ _ KD);refine wpAny_mono (hg s6 Ia H6 x u _ UE r6 (step x H6 y6)) (fun _ s7 ⟨EZ,H7,I7,q7⟩=>?_) fun _ _ z=>z.elim
    refine wpAny_mono (ht s7 EZ H7 _ I7 q7) (fun ok s8 ⟨H8,I8,q8⟩=>?_) fun _ _ z=>z.elim
    have again:∀ {s9:Shared} {HZ:St} {H9:Hp} ,As (Ay X scope cl N s2 H2 HH.objs.size fp) ([] ++ Ex fp s6.heap) HZ H9 s9->(∃ m',m' < n/\W (i + 1) m' HZ H9)->∃ m,m < n/\∃ i Av H',As (Ay X scope cl N s2 H2 HH.objs.size fp) [] Av H' s9/\tn i s9.heap/\(∀ b ∈ fp,H' b=none)/\W i m Av H':=fun {s9 HZ H9} I9 n9=>by
     obtain ⟨m',hm,w9⟩:=n9;refine ⟨m',hm,i + 1,HZ,H9,I9.unpinned,T.keep _ _ _ KD fun b hb o e=>(I9.pin (b,o) (fm _ (fm _ (Bo hb e)))).1,fun b hb=>?_,w9⟩;obtain ⟨o,e,d⟩:=T.obj _ _ KD b hb;exact (I9.pin (b,o) (fm _ (fm _ (Bo hb e)))).2.1
    cases ok with
    | false=>
     rw [if_neg fH] at q8 ⊢;exact again I8 q8
    | true=>
     rw [if_pos rfl] at q8 ⊢;refine wpAny_mono (hk s8 EZ H8 _ I8 q8) (fun yk s9 ⟨k,H9,I9,r9,q9⟩=>?_) fun _ _ z=>z.elim
     refine wpAny_mono (hv s9 EZ H9 _ I9 q9) (fun yv XU ⟨v,MR,UG,cn,kvs,key,ek,hacc,hsz,TJ⟩=>?_) fun _ _ z=>z.elim
     subst ek;exact Kx (X:=Ay X scope cl N s2 H2 HH.objs.size fp) UG hacc hsz r9 cn fun s11 eG=>again eG TJ
  ·have z:=(f2 b hb).1;obtain ⟨o,e⟩:=hfo b hb;rw [Ae (fj (fb e))];exact z
 exact codeAny_compStart_dict (loop _ rfl) (T.self _ 0 _ _ _ (T.keep _ _ _ FO fun b hb o e=>old b o e) (loop _ rfl))
theorem KS (p x:Str) (r:List Str):risingS p (x :: r)=(!ltCps x.cps.toList p.cps.toList && risingS x r):=rfl
theorem Kg:∀ (p:Str) (l:List Str),risingS p l=true->(p :: l).Pairwise fun a b=>¬ b.cps.toList < a.cps.toList
 | p,[],_=>iU _ _
 | p,x :: r,h=>by
  rw [KS,gE,ltCps_eq] at h;have h1:¬ x.cps.toList < p.cps.toList:=by simpa using h.1
  have h2:=Kg x r h.2;refine gQ.mpr ⟨fun y hy=>?_,h2⟩;rcases eX.mp hy with rfl | hy
  ·exact h1
  ·have h3:=(gQ.mp h2).1 y hy;have a:p.cps.toList<=x.cps.toList:=i6.mp h1;have b:x.cps.toList<=y.cps.toList:=i6.mp h3;exact i6.mpr (lh a b)
theorem Fc {l:List Str} (h:sortedS l=true):l.Pairwise fun a b=>¬ b.cps.toList < a.cps.toList:=by
 cases l with
 | nil=>exact .nil
 | cons p l=>exact Kg p l h
theorem CZ {a b:Str} (h1:¬ b.cps.toList < a.cps.toList) (h2:¬ a.cps.toList < b.cps.toList):a=b:=by
 have e:a.cps.toList=b.cps.toList:=List.le_antisymm (i6.mp h1) (i6.mp h2);cases a; cases b
 simp only [Str.mk.injEq];exact j7.mp e
theorem Kc {l m:List Str} (hl:l.Pairwise fun a b=>¬ b.cps.toList < a.cps.toList) (hm:m.Pairwise fun a b=>¬ b.cps.toList < a.cps.toList) (p:l.Perm m):l=m:=
 List.Perm.eq_of_pairwise (fun a b _ _ h1 h2=>CZ h1 h2) hl hm p
theorem Mf {l m:List Str} (hl:l.Nodup) (hm:m.Nodup) (h:∀ x,x ∈ l ↔ x ∈ m):l.Perm m:=(List.perm_ext_iff_of_nodup hl hm).mpr h
def LF (ws:List A9) (x y:Str):Prop:=∃ u ∈ ws,(u.1=x/\u.2.1=y)\/(u.1=y/\u.2.1=x)
theorem LF.symm {ws:List A9} {x y:Str} (h:LF ws x y):LF ws y x:=let ⟨u,hu,h⟩:=h; ⟨u,hu,h.symm⟩
theorem C5 (u:A9):(Ez u).1=u.1/\(Ez u).2.1=u.2.1\/(Ez u).1=u.2.1/\(Ez u).2.1=u.1:=by
 unfold Ez BZ Cc;by_cases h:u.2.1.cps.toList < u.1.cps.toList
 ·have h':¬ u.1.cps.toList < u.2.1.cps.toList:=iE h;rw [if_pos h,if_neg h'];exact .inr ⟨rfl,rfl⟩
 ·rw [if_neg h];by_cases h':u.1.cps.toList < u.2.1.cps.toList
  ·rw [if_pos h']; exact .inl ⟨rfl,rfl⟩
  ·rw [if_neg h'];have e:u.1=u.2.1:=CZ h h';exact .inl ⟨rfl,e⟩
theorem SH {ws Hf:List A9} (p:Hf.Perm (ws.map Ez)) (x y:Str):LF Hf x y ↔ LF ws x y:=by
 constructor
 ·rintro ⟨u,hu,h⟩;obtain ⟨v,hv,rfl⟩:=fi.mp (p.mem_iff.mp hu);exists v,hv;rcases C5 v with ⟨e1,e2⟩ | ⟨e1,e2⟩
  ·rw [e1,e2] at h; exact h
  ·rw [e1,e2] at h;rcases h with ⟨a,b⟩ | ⟨a,b⟩
   ·exact .inr ⟨b,a⟩
   ·exact .inl ⟨b,a⟩
 ·rintro ⟨v,hv,h⟩;exists Ez v,p.mem_iff.mpr (fi.mpr ⟨v,hv,rfl⟩);rcases C5 v with ⟨e1,e2⟩ | ⟨e1,e2⟩
  ·rw [e1,e2]; exact h
  ·rw [e1,e2];rcases h with ⟨a,b⟩ | ⟨a,b⟩
   ·exact .inr ⟨b,a⟩
   ·exact .inl ⟨b,a⟩
theorem Qm {xs:List Str} {ws Hf:List A9} (p:Hf.Perm (ws.map Ez)) (h:∀ u ∈ ws,u.1 ∈ xs/\u.2.1 ∈ xs):∀ u ∈ Hf,u.1 ∈ xs/\u.2.1 ∈ xs:=fun u hu=>by
 obtain ⟨v,hv,rfl⟩:=fi.mp (p.mem_iff.mp hu);obtain ⟨a,b⟩:=h v hv;rcases C5 v with ⟨e1,e2⟩ | ⟨e1,e2⟩ <;> rw [e1,e2]
 ·exact ⟨a,b⟩
 ·exact ⟨b,a⟩
def L8 (xs:List Str) (ws:List A9):Prop:=∀ j,0 < j->j < xs.length->∃ u ∈ ws,∃ i:Nat,i < j/\xs[i]? = some u.1/\xs[j]? = some u.2.1
theorem L8.all {xs:List Str} {ws:List A9} (h:L8 xs ws) (S:Str->Prop) (cl:∀ x y,LF ws x y->S x->S y) {r:Str} (hr:r ∈ xs) (sr:S r):∀ x ∈ xs,S x:=by
 have down:∀ n (i:Nat),i<=n->∀ x,xs[i]? = some x->S x->∀ x0,xs[0]? = some x0->S x0:=by
  intro n;induction n with
  | zero=>
   intro i hi x e s x0 e0;have:i=0:=by lia
   subst this;rw [e] at e0; cases e0; exact s
  | succ n ih=>
   intro i hi x e s x0 e0;by_cases hz:i=0
   ·subst hz;rw [e] at e0; cases e0; exact s
   ·obtain ⟨u,hu,k,hk,e1,e2⟩:=h i (by lia) (fh.mp e).1;rw [e] at e2; cases e2;exact ih k (by lia) u.1 e1 (cl _ _ ⟨u,hu,.inr ⟨rfl,rfl⟩⟩ s) x0 e0
 have up:∀ x0,xs[0]? = some x0->S x0->∀ n (i:Nat),i<=n->∀ x,xs[i]? = some x->S x:=by
  intro x0 e0 s0 n;induction n with
  | zero=>
   intro i hi x e;have:i=0:=by lia
   subst this;rw [e0] at e; cases e; exact s0
  | succ n ih=>
   intro i hi x e;by_cases hz:i=0
   ·subst hz;rw [e0] at e; cases e; exact s0
   ·obtain ⟨u,hu,k,hk,e1,e2⟩:=h i (by lia) (fh.mp e).1;rw [e] at e2; cases e2;exact cl _ _ ⟨u,hu,.inl ⟨rfl,rfl⟩⟩ (ih k (by lia) u.1 e1)
 intro x hx;obtain ⟨i,hi,e⟩:=fY hr;obtain ⟨j,hj,e'⟩:=fY hx;have h0:xs[0]? = some xs[0]:=eR (by lia);have s0:S xs[0]:=down i i (fc _) r (by rw [eR hi,e]) sr _ h0;exact up _ h0 s0 j j (fc _) x (by rw [eR hj,e'])
section
variable {ws:List A9} {r:Str} {bs cs:List (Str × Option Str)}
theorem QJ {α β:Type} {l:List (α × β)} (h:(l.map (·.1)).Nodup) {x:α} {a b:β} (ha:(x,a) ∈ l) (hb:(x,b) ∈ l):a=b:=by
 induction l with
 | nil=>cases ha
 | cons p l ih=>
  rw [fU] at h;obtain ⟨h1,h2⟩:=gG.mp h;have key:∀ c,(x,c) ∈ l->p.1 ≠ x:=fun c hc z=>h1 (by rw [z]; exact fi.mpr ⟨(x,c),hc,rfl⟩)
  rcases eX.mp ha with e | ha1
  ·rcases eX.mp hb with e' | Zz
   ·rw [<-e] at e'; cases e'; rfl
   ·exact absurd (by rw [<-e]) (key b Zz)
  ·rcases eX.mp hb with e' | Zz
   ·exact absurd (by rw [<-e']) (key a ha1)
   ·exact ih h2 ha1 Zz
end
section
variable {ws:List A9} {r:Str} {wk:List (Str × List Str)}
end
theorem CY {H2 H3:Hp} {vs:List V} {ws:List A9} (h:A2 H2 vs (ws.map Fj)) (ht:∀ b xs,H2 b=some (.tup xs)->H3 b=some (.tup xs)):A2 H3 vs (ws.map Fj):=by
 induction ws generalizing vs with
 | nil=>cases h; exact .nil
 | cons u ws ih=>
  cases h with
  | cons h1 r=>
   refine .cons ?_ (ih r);cases h1 with
   | tup ha hd=>
    refine .tup (ht _ _ ha) ?_;cases hd with
    | cons h1 r1=>
     cases r1 with
     | cons h2 r2=>
      cases r2 with
      | cons h3 r3=>
       cases r3
       cases h1
       cases h2
       cases h3
       exact .cons (.str _) (.cons (.str _) (.cons (.int _) .nil))
theorem Hu {α:Type} {l:List α} (h:l.Nodup) {i j:Nat} {x:α} (a:l[i]? = some x) (b:l[j]? = some x):i=j:=
 (iN (fh.mp a).1 h).mp (a.trans b.symm)
def sK (nv:List (Str × V)):List (Bh × V):=nv.map fun q=>(Sum.inr q.1,q.2)
theorem CH (nv:List (Str × V)):(sK nv).length=nv.length:=eU ..
theorem KQ (nv:List (Str × V)):(sK nv).map (·.1)=(nv.map (·.1)).map Sum.inr:=by unfold sK; rw [gL,gL]; rfl
theorem Wo (a b:List (Str × V)):sK (a ++ b)=sK a ++ sK b:=fg ..
theorem KP:∀ {nv:List (Str × V)} {y:Str},y ∉ nv.map (·.1)->Bz (sK nv) (Sum.inr y:Bh)=none
 | [],y,_=>rfl
 | q :: nv,y,h=>by
  rw [fU,eX,not_or] at h;show Bz ((Sum.inr q.1,q.2) :: sK nv) (Sum.inr y:Bh)=none
  rw [B3 (fun z=>h.1 (Sum.inr.inj z).symm)];exact KP h.2
theorem DH:∀ {nv:List (Str × V)} {y:Str} {v:V},(nv.map (·.1)).Nodup->(y,v) ∈ nv->Bz (sK nv) (Sum.inr y:Bh)=some v
 | [],y,v,_,h=>nomatch h
 | q :: nv,y,v,hn,h=>by
  rw [fU] at hn;obtain ⟨h1,h2⟩:=gG.mp hn;show Bz ((Sum.inr q.1,q.2) :: sK nv) (Sum.inr y:Bh)=some v
  rcases eX.mp h with e | h'
  ·subst e;exact BG rfl
  ·rw [B3 (fun z=>h1 (by rw [Sum.inr.inj z]; exact fi.mpr ⟨(y,v),h',rfl⟩))];exact DH h2 h'
theorem Hq {nv:List (Str × V)} {y:Str}:(Bz (sK nv) (Sum.inr y:Bh)).isSome=decide (y ∈ nv.map (·.1)):=by
 by_cases h:y ∈ nv.map (·.1)
 ·rw [decide_eq_true h];cases e:Bz (sK nv) (Sum.inr y:Bh) with
  | some v=>rfl
  | none=>
   have:=QL e;rw [KQ] at this;exact absurd (fi.mpr ⟨y,h,rfl⟩) this
 ·rw [decide_eq_false h,KP h]; rfl
theorem DN {nv:List (Str × V)} {y:Str} {v:V} (h:y ∉ nv.map (·.1)):BJ (sK nv) (Sum.inr y:Bh) v=sK (nv ++ [(y,v)]):=by
 rw [R0 v (KP h),Wo]; rfl
theorem Ni (nv:List (Str × V)) (y:Str) (v:V):∃ Ef,BJ (sK nv) (Sum.inr y:Bh) v=sK Ef/\Ef.length<=nv.length + 1/\∀ z,z ∈ Ef.map (·.1) ↔ z ∈ nv.map (·.1)\/z=y:=by
 by_cases h:y ∈ nv.map (·.1)
 ·refine ⟨nv.map fun q=>if q.1=y then (q.1,v) else q,?_,by rw [eU]; lia,fun z=>?_⟩
  ·unfold BJ;have:((sK nv).any fun kv=>decide (kv.1=(Sum.inr y:Bh)))=true:=by
    rw [Cr,Hq,decide_eq_true h]
   rw [if_pos this];unfold sK;rw [gL,gL];refine iw fun q _=>?_
   by_cases e:q.1=y
   ·simp [e]
   ·have e':¬ (Sum.inr q.1:Bh)=Sum.inr y:=fun z=>e (Sum.inr.inj z)
    simp [e,e']
  ·have e:(nv.map fun q=>if q.1=y then (q.1,v) else q).map (·.1)=nv.map (·.1):=by
    rw [gL];refine iw fun q _=>?_
    by_cases e:q.1=y <;> simp [e]
   rw [e];constructor
   ·exact .inl
   ·rintro (q | rfl)
    ·exact q
    ·exact h
 ·refine ⟨nv ++ [(y,v)],DN h,by simp,fun z=>by simp⟩
theorem UU {nv:List (Str × V)} {i:Nat} {k:Bh} {v:V} (h:(sK nv)[i]? = some (k,v)):∃ y,nv[i]? = some (y,v)/\k=.inr y:=by
 unfold sK at h;rw [eZ] at h;cases e:nv[i]? with
 | none=>rw [e] at h; cases h
 | some q=>
  rw [e] at h;simp only [iy,fV.injEq,Prod.mk.injEq] at h;exact ⟨q.1,by rw [<-h.2],h.1.symm⟩
structure Web (H:Hp) (q:Addr) (ps:List Str) (ws:List A9):Prop where
 ex:∃ tp tw us,H q=some (.tup [.ref tp,.ref tw])/\H tp=some (.tup (ps.map V.str))/\H tw=some (.tup us)/\A2 H us (ws.map Fj)
theorem Web.same {H H':Hp} {q:Addr} {ps:List Str} {ws:List A9} (h:Web H q ps ws) (s:∀ b xs,H b=some (.tup xs)->H' b=some (.tup xs)):Web H' q ps ws:=by
 obtain ⟨tp,tw,us,h1,h2,h3,h4⟩:=h.ex;exact ⟨tp,tw,us,s _ _ h1,s _ _ h2,s _ _ h3,CY h4 s⟩
def O7 (ps:List Str) (ds:List Addr):List (Str × V):=(ps.zip ds).map fun q=>(q.1,V.ref q.2)
theorem IT {ps:List Str} {ds:List Addr} (h:ps.length<=ds.length):(O7 ps ds).map (·.1)=ps:=by
 unfold O7;rw [gL];have:((fun (x:Str × V)=>x.1) ∘ fun (q:Str × Addr)=>(q.1,V.ref q.2))=Prod.fst:=rfl;rw [this,List.map_fst_zip h]
theorem O6 {ps:List Str} {ds:List Addr} {i:Nat} {p:Str} {d:Addr} (h1:ps[i]? = some p) (h2:ds[i]? = some d):(p,V.ref d) ∈ O7 ps ds:=by
 unfold O7;refine fi.mpr ⟨(p,d),eW (i:=i) ?_,rfl⟩;rw [gM];exact ⟨h1,h2⟩
structure NB (H:Hp) (B:Addr) (ps:List Str) (ds:List Addr) (P:Str->Str->Prop) (n:Nat):Prop where
 top:H B=some (.dK (sK (O7 ps ds)))
 len:ds.length=ps.length
 nd:ds.Nodup
 nB:B ∉ ds
 inner:∀ (i:Nat) (p:Str) (d:Addr),ps[i]? = some p->ds[i]? = some d->∃ nv:List (Str × V),H d=some (.dK (sK nv))/\nv.length<=n/\∀ y,y ∈ nv.map (·.1) ↔ P p y
theorem NB.get {H:Hp} {B:Addr} {ps:List Str} {ds:List Addr} {P:Str->Str->Prop} {n:Nat} (h:NB H B ps ds P n) (hn:ps.Nodup) {p:Str} (hp:p ∈ ps) :
  ∃ (i:Nat) (d:Addr) (nv:List (Str × V)),ps[i]? = some p/\ds[i]? = some d/\Bz (sK (O7 ps ds)) (Sum.inr p:Bh)=some (.ref d)/\H d=some (.dK (sK nv))/\nv.length<=n/\∀ y,y ∈ nv.map (·.1) ↔ P p y:=by
 obtain ⟨i,hi,e⟩:=fY hp;have e1:ps[i]? = some p:=by rw [eR hi,e]
 have Sk:i < ds.length:=by rw [h.len]; exact hi
 have e2:ds[i]? = some ds[i]:=eR Sk;obtain ⟨nv,a1,a2,a3⟩:=h.inner i p _ e1 e2;refine ⟨i,_,nv,e1,e2,DH ?_ (O6 e1 e2),a1,a2,a3⟩;rw [IT (by rw [h.len]; exact fc _)];exact hn
theorem NB.put {H:Hp} {B:Addr} {ps:List Str} {ds:List Addr} {P:Str->Str->Prop} {n:Nat} (h:NB H B ps ds P n) {i:Nat} {p y:Str} {d:Addr} (hn:ps.Nodup) (e1:ps[i]? = some p) (e2:ds[i]? = some d) {nv Ef:List (Str × V)} (hd:H d=some (.dK (sK nv)))
  (hl:Ef.length<=nv.length + 1) (hk:∀ z,z ∈ Ef.map (·.1) ↔ z ∈ nv.map (·.1)\/z=y) (hP:∀ z,z ∈ nv.map (·.1) ↔ P p z) (hln:nv.length<=n):NB (upd H d (.dK (sK Ef))) B ps ds (fun a b=>P a b\/(a=p/\b=y)) (n + 1):=by
 have dm:d ∈ ds:=eW e2;refine ⟨by rw [Ae (fun z=>h.nB (by rw [z]; exact dm))]; exact h.top,h.len,h.nd,h.nB,fun j q c f1 f2=>?_⟩;by_cases z:c=d
 ·subst z;have ij:i=j:=Hu h.nd e2 f2;subst ij;rw [e1] at f1; cases f1;refine ⟨Ef,Ab,by lia,fun z=>?_⟩;rw [hk,hP];simp
 ·obtain ⟨nw,b1,b2,b3⟩:=h.inner j q c f1 f2;refine ⟨nw,by rw [Ae z]; exact b1,by lia,fun y'=>?_⟩;rw [b3];have:q ≠ p:=by
   rintro rfl;have ij:=Hu hn e1 f1;subst ij;rw [e2] at f2; cases f2;exact z rfl
  simp [this]
theorem NB.mono {H:Hp} {B:Addr} {ps:List Str} {ds:List Addr} {P P':Str->Str->Prop} {n m:Nat} (h:NB H B ps ds P n) (hP:∀ a b,P a b ↔ P' a b) (hn:n<=m):NB H B ps ds P' m:=
 ⟨h.top,h.len,h.nd,h.nB,fun i p d e1 e2=>let ⟨nv,a1,a2,a3⟩:=h.inner i p d e1 e2; ⟨nv,a1,by lia,fun y=>(a3 y).trans (hP p y)⟩⟩
structure Ju (H:Hp) (q:Addr) (ps:List Str) (ws:List A9) (r:Str):Prop where
 web:Web H q ps ws
 nd:ps.Nodup
 l30:ps.length<=30
 l64:ws.length < 64
 ends:∀ u ∈ ws,u.1 ∈ ps/\u.2.1 ∈ ps
 first:ps[0]? = some r
 con:∀ S:Str->Prop,S r->(∀ x y,LF ws x y->S x->S y)->∀ x ∈ ps,S x
theorem Ju.same {H H':Hp} {q:Addr} {ps:List Str} {ws:List A9} {r:Str} (h:Ju H q ps ws r) (s:Aq H H'):Ju H' q ps ws r:=
 ⟨h.web.same fun b xs z=>s _ _ z,h.nd,h.l30,h.l64,h.ends,h.first,h.con⟩
theorem SG {ws:List A9} {i:Nat} {u:A9} (h:ws[i]? = some u) (a b:Str):LF (ws.take (i + 1)) a b ↔ (LF (ws.take i) a b\/(a=u.1/\b=u.2.1))\/(a=u.2.1/\b=u.1):=by
 rw [fQ,h];constructor
 ·rintro ⟨v,hv,e⟩;rcases fq.mp hv with hv | hv
  ·exact .inl (.inl ⟨v,hv,e⟩)
  ·have:v=u:=by simpa using hv
   subst this;rcases e with ⟨e1,e2⟩ | ⟨e1,e2⟩
   ·exact .inl (.inr ⟨e1.symm,e2.symm⟩)
   ·exact .inr ⟨e2.symm,e1.symm⟩
 ·rintro ((⟨v,hv,e⟩ | ⟨rfl,rfl⟩) | ⟨rfl,rfl⟩)
  ·exact ⟨v,gT _ hv,e⟩
  ·exact ⟨u,fm _ (by simp),.inl ⟨rfl,rfl⟩⟩
  ·exact ⟨u,fm _ (by simp),.inr ⟨rfl,rfl⟩⟩
structure NR (H:Hp) (B:Addr) (ps:List Str) (ds:List Addr) (P:Str->Str->Prop):Prop where
 top:H B=some (.dK (sK (O7 ps ds)))
 len:ds.length=ps.length
 nd:ds.Nodup
 nB:B ∉ ds
 inner:∀ (i:Nat) (p:Str) (d:Addr),ps[i]? = some p->ds[i]? = some d->∃ nv:List (Str × V),Rd H d (.dK (sK nv))/\∀ y,y ∈ nv.map (·.1) ↔ P p y
theorem NB.r {H:Hp} {B:Addr} {ps:List Str} {ds:List Addr} {P:Str->Str->Prop} {n:Nat} (h:NB H B ps ds P n):NR H B ps ds P:=
 ⟨h.top,h.len,h.nd,h.nB,fun i p d e1 e2=>let ⟨nv,a1,_,a3⟩:=h.inner i p d e1 e2; ⟨nv,.inl a1,a3⟩⟩
theorem NR.get {H:Hp} {B:Addr} {ps:List Str} {ds:List Addr} {P:Str->Str->Prop} (h:NR H B ps ds P) (hn:ps.Nodup) {p:Str} (hp:p ∈ ps) :
  ∃ (i:Nat) (d:Addr) (nv:List (Str × V)),ps[i]? = some p/\ds[i]? = some d/\Bz (sK (O7 ps ds)) (Sum.inr p:Bh)=some (.ref d)/\Rd H d (.dK (sK nv))/\∀ y,y ∈ nv.map (·.1) ↔ P p y:=by
 obtain ⟨i,hi,e⟩:=fY hp;have e1:ps[i]? = some p:=by rw [eR hi,e]
 have Sk:i < ds.length:=by rw [h.len]; exact hi
 have e2:ds[i]? = some ds[i]:=eR Sk;obtain ⟨nv,a1,a3⟩:=h.inner i p _ e1 e2;refine ⟨i,_,nv,e1,e2,DH ?_ (O6 e1 e2),a1,a3⟩;rw [IT (by rw [h.len]; exact fc _)];exact hn
theorem Rd.ne {H:Hp} {a b:Addr} {u o:HO} (h:Rd H a u) (hb:a ≠ b):Rd (upd H b o) a u:=by
 rcases h with h | ⟨ob,h⟩
 ·exact .inl (by rw [Ae hb]; exact h)
 ·exact .inr ⟨ob,by rw [Ae hb]; exact h⟩
theorem Rd.fz {H H':Hp} {a b:Addr} {u:HO} {kvs:List (Bh × V)} {o:Obj} (h:Rd H a u) (f:E8 H b kvs o H') (hb:a ≠ b):Rd H' a u:=by
 rcases h with h | ⟨ob,h⟩
 ·exact .inl (by rw [f.ne hb]; exact h)
 ·exact .inr ⟨ob,by rw [f.ne hb]; exact h⟩
theorem NR.other {H:Hp} {B a:Addr} {ps:List Str} {ds:List Addr} {P:Str->Str->Prop} {o:HO} (h:NR H B ps ds P) (ha:a ∉ ds) (hB:a ≠ B):NR (upd H a o) B ps ds P:=
 ⟨by rw [Ae (Ne.symm hB)]; exact h.top,h.len,h.nd,h.nB,fun i p d e1 e2=>let ⟨nv,a1,a3⟩:=h.inner i p d e1 e2
  ⟨nv,a1.ne (fun z=>ha (by rw [<-z]; exact eW e2)),a3⟩⟩
theorem NR.freeze {H H':Hp} {B:Addr} {ps:List Str} {ds:List Addr} {P:Str->Str->Prop} (h:NR H B ps ds P) {i:Nat} {p:Str} {d:Addr} (e1:ps[i]? = some p) (e2:ds[i]? = some d) {nv:List (Str × V)} {o:Obj} (f:E8 H d (sK nv) o H') (hP:∀ y,y ∈ nv.map (·.1) ↔ P p y):NR H' B ps ds P:=by
 have dm:d ∈ ds:=eW e2;refine ⟨by rw [f.ne (fun z=>h.nB (by rw [z]; exact dm))]; exact h.top,h.len,h.nd,h.nB,fun j q c f1 f2=>?_⟩;by_cases z:c=d
 ·subst z;have ij:i=j:=Hu h.nd e2 f2;subst ij;rw [e1] at f1; cases f1;exact ⟨nv,.inr ⟨o,f.at⟩,hP⟩
 ·obtain ⟨nw,b1,b3⟩:=h.inner j q c f1 f2;exact ⟨nw,b1.fz f z,b3⟩
theorem TB {nv Ef:List (Str × V)} {y:Str} {v:V} (e:BJ (sK nv) (Sum.inr y:Bh) v=sK Ef) (hn:(nv.map (·.1)).Nodup):(Ef.map (·.1)).Nodup:=by
 have inj:∀ {a b:List (Str × V)},(sK a).map (·.1)=(sK b).map (·.1)->a.map (·.1)=b.map (·.1):=fun {a b} h=>by
  rw [KQ,KQ] at h;exact kD (fun x y z=>Sum.inr.inj z) |>.mp h
 by_cases h:y ∈ nv.map (·.1)
 ·have e2:(BJ (sK nv) (Sum.inr y:Bh) v).map (·.1)=(sK nv).map (·.1):=by
   unfold BJ;have:((sK nv).any fun kv=>decide (kv.1=(Sum.inr y:Bh)))=true:=by rw [Cr,Hq,decide_eq_true h]
   rw [if_pos this,gL];refine iw fun q _=>?_
   by_cases e:q.1=(Sum.inr y:Bh) <;> simp [e]
  rw [e] at e2;rw [inj e2];exact hn
 ·rw [DN h] at e;have e2:(nv ++ [(y,v)]).map (·.1)=Ef.map (·.1):=inj (by rw [e]);rw [<-e2,fg];refine iO.mpr ⟨hn,gG.mpr ⟨by simp,.nil⟩,fun a ha b hb=>?_⟩;have e3:b=y:=by simpa using hb
  subst e3;rintro rfl;exact h ha
section
variable {ws:List A9} {r:Str} {bs:List (Str × Option Str)} {wk:List (Str × List Str)} {ps:List Str}
end
theorem G8 {α:Type} {l:List (Str × α)} (h:(l.map (·.1)).Nodup) (f:Str × α->Bool):((l.filter f).map (·.1)).Nodup:=by
 have s:List.Sublist ((l.filter f).map (·.1)) (l.map (·.1)):=List.Sublist.map _ List.filter_sublist;exact s.nodup h
theorem As.thaw {X:Cx} {pins:List (Addr × Obj)} {σ:St} {H:Hp} {s:Shared} {a:Addr} {o:Obj} {u:HO} (I:As X pins σ H s) (e:H a=some (.frz o u)) (h0:∀ ob w,X.H₀ a ≠ some (.frz ob w)) (hu:u ≠ .own a/\∀ xs,u ≠ .tup xs):As X pins σ (upd H a u) s:=by
 obtain ⟨ho,hok⟩:=(show AL X.prog X.w H s.heap a (.frz o u) from I.hok a _ e)
 have nn:∀ b,H b=none->b ≠ a:=fun b hb z=>by rw [z,e] at hb; cases hb
 have own:∀ b y,H b=some (.own y)->b ≠ a:=fun b y hb z=>by rw [z,e] at hb; cases hb
 have tup:∀ b xs,H b=some (.tup xs)->b ≠ a:=fun b xs hb z=>by rw [z,e] at hb; cases hb
 refine ⟨I.ok,I.os,I.bare,⟨I.base.keep,I.base.slot,fun b ob q n hx=>?_,I.base.there,fun b xs q=>?_,fun b ob w q=>?_,fun b ps q=>?_⟩,I.loc,I.cell,?_,fun x c q=>?_,fun p hp=>?_,fun b w q=>?_,I.len⟩
 ·have z:=I.base.free b ob q n hx;rw [Ae (nn b z)]; exact z
 ·have z:=I.base.tups b xs q;rw [Ae (tup b xs z)]; exact z
 ·have z:=I.base.frzs b ob w q;by_cases hb:b=a
  ·subst hb; exact absurd q (h0 ob w)
  ·rw [Ae hb]; exact z
 ·obtain ⟨more,z⟩:=I.base.tbls b ps q;exists more;rw [Ae (fun hb=>by rw [hb,e] at z; cases z)]; exact z
 ·rw [Ae (nn _ I.free)]; exact I.free
 ·rw [Ae (nn _ (I.freeC x c q))]; exact I.freeC x c q
 ·obtain ⟨z1,z2,z3⟩:=I.pin p hp;exact ⟨z1,by rw [Ae (nn _ z2)]; exact z2,z3⟩
 ·by_cases hb:b=a
  ·subst hb;rw [Ab] at q;cases q
   exact hok.stay (fun c v _ z=>z) (fun c z=>by rw [Ae (own c _ z)]; exact z) fun c xs z=>by rw [Ae (tup c xs z)]; exact z
  ·rw [Ae hb] at q;exact (I.hok b w q).stay (fun c v _ z=>z) (fun c z=>by rw [Ae (own c _ z)]; exact z) fun c xs z=>by rw [Ae (tup c xs z)]; exact z
theorem TR {X:Cx} {e:Expr} {t:TE} (h:PE X e t):PE X e (fun σ H Q=>t σ H fun x H1=>∃ a o kvs,H1 a=some (.frz o (.dK kvs))/\(∀ ob w,X.H₀ a ≠ some (.frz ob w))/\Q x (upd H1 a (.dK kvs))):=by
 intro pins s σ H Q I q;refine Bt (h (pins:=pins) s σ H _ I q) fun v s1 ⟨x,H1,I1,r1,a,o,kvs,e1,h0,q1⟩=>?_
 exact ⟨x,_,I1.thaw e1 h0 ⟨(by intro z; cases z),(by intro xs z; cases z)⟩,r1,q1⟩
def ED (A:Around) (s:Shared) (x y:Value) (b:Bool):Prop:=∀ (prog:Program) (w:World) (E Q:Value->Shared->Prop),Q (.bool b) s->wpAny (model prog w) A (richCompare .Lt x y) Q E s
theorem ED.int (A:Around) (s:Shared) (a:Int) (t:Tok) (c:Int) (u:Tok):ED A s (.int a t) (.int c u) (decide (a < c)):=fun prog w E Q h=>
 (PyProof.Rows.lt_int h:wpAny (model prog w) A (compareOp .Lt (.int a t) (.int c u)) Q E s)
theorem ED.str (A:Around) (s:Shared) (a:Str) (t:Tok) (c:Str) (u:Tok):ED A s (.str a t) (.str c u) (decide (a.cps.toList < c.cps.toList)):=fun prog w E Q h=>
 (PySem.P.lt_str h:wpAny (model prog w) A (compareOp .Lt (.str a t) (.str c u)) Q E s)
section
open PySem.SeqAt
open PySem.AutoSeq1 (wpAny_loadPart')
open PySem.MeetsSeq PySem.MeetsSeq2 PySem.MeetsSeq3
theorem Ph (l b:Addr) (x1 x2 y1 y2:Value) (n n2:Nat) (dd Td:Option Addr) (sl Ow:Array (Option Value)) (e1 b1 e2 b2:Bool) :
  Meets (Builtin.«tuple.__lt__» ⟨[.ref l,.ref b],[]⟩)
   (fun A R s=>s.heap.get? l=some { cls:=.type "tuple",dict:=dd,data:=.seq #[x1,x2] n,slots:=sl }/\s.heap.get? b=some { cls:=.type "tuple",dict:=Td,data:=.seq #[y1,y2] n2,slots:=Ow } /\
    EqAt A.in1 s x1 y1 e1/\(e1=false->ED A.in1 s x1 y1 b1)/\(e1=true->EqAt A.in1 s x2 y2 e2/\(e2=false->ED A.in1 s x2 y2 b2)) /\
    R (.ok (.ret (.bool (if e1=true then (if e2=true then false else b2) else b1)))) s):=
 .of_wp fun prog w A R s h=>by
  obtain ⟨hp,g,d,tk,os⟩:=s; obtain ⟨hl,hb,Yk,JK,h2,h⟩:=h;have f2:=AutoSeq1.sub_tuple_tuple;wp_walk using wpAny_loadPart' hl,wpAny_loadPart' hb,wpAny_forIn_list _ (fun rest b s'=>b.1=none/\s'=⟨hp,g,d,tk,os⟩/\(rest=[(x1,y1),(x2,y2)]\/(rest=[(x2,y2)]/\e1=true)\/(rest=[]/\e1=true/\e2=true))) _
  case turn=>
   rintro ⟨y,x⟩ rest b s' ⟨HR,rfl,hz | ⟨hz,h1⟩ | ⟨hz,_⟩⟩
   ·cases hz
    refine wpAny_bind (Yk prog w _ _ ?_);cases ee:e1 with
    | true=>
     wp_walk
     exact ⟨rfl,rfl,.inr (.inl ⟨rfl,rfl⟩)⟩
    | false=>
     rw [ee,if_neg fH] at h;have hri:=JK ee prog w;wp_walk using hri;exact ⟨_,rfl,by simpa using h⟩
   ·cases hz
    obtain ⟨cZ,Jz⟩:=h2 h1;rw [if_pos h1] at h;refine wpAny_bind (cZ prog w _ _ ?_);cases ee:e2 with
    | true=>
     wp_walk
     exact ⟨rfl,rfl,.inr (.inr ⟨rfl,h1,rfl⟩)⟩
    | false=>
     rw [ee,if_neg fH] at h;have hri:=Jz ee prog w;wp_walk using hri;exact ⟨_,rfl,by simpa using h⟩
   ·cases hz
  case fin=>
   rintro ⟨b1',b2'⟩ s' ⟨HR,rfl,hz | ⟨hz,h1⟩ | ⟨hz,h1,dQ⟩⟩
   ·cases hz
   ·cases hz
   ·simp only at HR;subst HR;rw [if_pos h1,if_pos dQ] at h;wp_walk;exact ⟨_,rfl,by simpa [Builtin.Tuple.tupleCompareSizes] using h⟩
  case h=>
   exact ⟨rfl,rfl,.inl rfl⟩
end
theorem ED.tup2 {A:Around} {s:Shared} {l b:Addr} {x1 x2 y1 y2:Value} {e1 b1 e2 b2:Bool} (hl:IsTup s.heap l #[x1,x2]) (hb:IsTup s.heap b #[y1,y2]) (hu:A.units < cLine) (h1:SeqAt.EqAt A.in1 s x1 y1 e1) (l1:e1=false->ED A.in1 s x1 y1 b1)
  (h2:e1=true->SeqAt.EqAt A.in1 s x2 y2 e2/\(e2=false->ED A.in1 s x2 y2 b2)):ED A s (.ref l) (.ref b) (if e1=true then (if e2=true then false else b2) else b1):=fun prog w E Q h=>by
 obtain ⟨⟨cls,dd,data,sl⟩,ho,hc,n,hd⟩:=id hl;obtain ⟨⟨ab,Td,data2,Ow⟩,SX,Ta,n2,hd2⟩:=id hb;simp only at hc hd Ta hd2;subst hc hd Ta hd2;exact richCompare_meets_room (op:=.Lt) ⟨_,ho,rfl⟩ ⟨_,SX,rfl⟩ PySem.F.slot_tuple_lt PySem.F.entry_tuple_lt (PySem.F.args_tuple_lt_2 _ _) (Ph l b x1 x2 y1 y2 n n2 dd Td sl Ow e1 b1 e2 b2)
  ⟨ho,SX,h1,l1,h2,show Value.bool _ ≠ Value.notImplemented/\Q (.bool _) s from ⟨(fun x=>nomatch x),h⟩⟩ hu
def Qd (p q:Int × Str):Bool:=if (p.1 == q.1)=true then (if (p.2 == q.2)=true then false else decide (p.2.cps.toList < q.2.cps.toList)) else decide (p.1 < q.1)
def Dv (h:Heap) (v:Value) (p:Int × Str):Prop:=∃ a t u,v=.ref a/\IsTup h a #[.int p.1 t,.str p.2 u]
theorem Dv.keep {h h':Heap} {v:Value} {p:Int × Str} (x:Dv h v p) (k:∀ b o,h.get? b=some o->h'.get? b=some o):Dv h' v p:=by
 obtain ⟨a,t,u,rfl,o,ho,r⟩:=x;exact ⟨a,t,u,rfl,o,k _ _ ho,r⟩
theorem Ll {A:Around} {s:Shared} {v w:Value} {p q:Int × Str} (hv:Dv s.heap v p) (hw:Dv s.heap w q) (hu:A.units < cLine):ED A s v w (Qd p q):=by
 obtain ⟨a,t,u,rfl,hl⟩:=hv;obtain ⟨b,t',u',rfl,hb⟩:=hw;exact ED.tup2 hl hb hu (SeqAt.EqAt.int_int _ _ _ _) (fun _=>ED.int _ _ _ _ _ _) fun _=>⟨SeqAt.EqAt.str_str _ _ _ _,fun _=>ED.str _ _ _ _ _ _⟩
theorem Ux {A:Around} {s:Shared} {v w:Value} {p q:Int × Str} (hv:Dv s.heap v p) (hw:Dv s.heap w q) (hu:A.units < cLine):SeqAt.EqAt A s v w (decide (p=q)):=by
 obtain ⟨a,t,u,rfl,hl⟩:=hv;obtain ⟨b,t',u',rfl,hb⟩:=hw;by_cases hab:a=b
 ·subst hab;have e:p=q:=by
   obtain ⟨o,ho,hc,n,hd⟩:=hl;obtain ⟨o',Ii,LC,n',Lu⟩:=hb;rw [ho] at Ii;cases Ii
   rw [hd] at Lu;injection Lu with e1 e2;have e3:=congrArg iX e1;simp only [jm.injEq,Value.int.injEq,Value.str.injEq] at e3;exact Prod.ext e3.1.1 e3.2.1.1
  rw [decide_eq_true e];intro prog w E Q h;unfold eqBool;refine wpAny_holding ?_;exact wpAny_ite_split (fun _=>wpAny_bind (wpAny_rule (wpAny_pure h))) (fun hn=>absurd (by simp) hn)
 ·have key:=SeqAt.RcAt.tuples (A:=A) (s:=s) (e:=fun j=>if j=0 then p.1 == q.1 else p.2 == q.2) (show s.heap.IsTuple a #[.int p.1 t,.str p.2 u] from hl) (show s.heap.IsTuple b #[.int q.1 t',.str q.2 u'] from hb) hu (fun j h1 h2=>by
   match j,h1,h2 with
   | 0,_,_=>exact SeqAt.EqAt.int_int _ _ _ _
   | 1,_,_=>exact SeqAt.EqAt.str_str _ _ _ _
   | j + 2,h1,_=>exact absurd (show j + 2 < 2 from h1) (by lia))
  have e:((gR (min (#[Value.int p.1 t,.str p.2 u]:Array Value).size (#[Value.int q.1 t',.str q.2 u']:Array Value).size)).all (fun j=>if j=0 then p.1 == q.1 else p.2 == q.2) && (#[Value.int p.1 t,.str p.2 u]:Array Value).size == (#[Value.int q.1 t',.str q.2 u']:Array Value).size)=decide (p=q):=by
   show ((gR 2).all (fun j=>if j=0 then p.1 == q.1 else p.2 == q.2) && (2 == 2))=decide (p=q)
   have:(gR 2)=[0,1]:=rfl;rw [this];simp only [iS,List.all_nil,lg,beq_self_eq_true];rw [gP];simp [Prod.ext_iff]
  rw [e] at key;exact SeqAt.EqAt.of_refs hab key
def Jx (h:Heap) (v:Value) (k:(Int × Str) × Str):Prop:=∃ a l u,v=.ref a/\IsTup h a #[.ref l,.str k.2 u]/\Dv h (.ref l) k.1
theorem Jx.keep {h h':Heap} {v:Value} {p:(Int × Str) × Str} (x:Jx h v p) (k:∀ b o,h.get? b=some o->h'.get? b=some o):Jx h' v p:=by
 obtain ⟨a,l,u,rfl,⟨o,ho,r⟩,z⟩:=x;exact ⟨a,l,u,rfl,⟨o,k _ _ ho,r⟩,z.keep k⟩
def Ve (p q:(Int × Str) × Str):Bool:=if decide (p.1=q.1)=true then (if (p.2 == q.2)=true then false else decide (p.2.cps.toList < q.2.cps.toList)) else Qd p.1 q.1
theorem WL {A:Around} {s:Shared} {v w:Value} {p q:(Int × Str) × Str} (hv:Jx s.heap v p) (hw:Jx s.heap w q) (hu:A.units + 1 < cLine):ED A s v w (Ve p q):=by
 obtain ⟨a,l,u,rfl,hl,hp⟩:=hv;obtain ⟨b,l',u',rfl,hb,hq⟩:=hw;exact ED.tup2 hl hb (by lia) (Ux hp hq (by rw [PySem.Around.in1_units]; exact hu)) (fun _=>Ll hp hq (by rw [PySem.Around.in1_units]; exact hu)) fun _=>⟨SeqAt.EqAt.str_str _ _ _ _,fun _=>ED.str _ _ _ _ _ _⟩
def UK (prog:Program) (w:World) (A:Around) (g0:Heap) (P:Nat->Value->Prop) (bt:Nat->Nat->Bool):Prop:=
 ∀ i j vi vj (s:Shared) (Q:Value->Shared->Prop) (E:Value->Shared->Prop),(∀ b o,g0.get? b=some o->s.heap.get? b=some o)->P i vi->P j vj->Q (.bool (bt i j)) s->wpAny (model prog w) A (richCompare .Lt vi vj) Q E s
section
variable {prog:Program} {w:World} {A:Around} {R:Result->Shared->Prop} {I:Addr} {fp wr:List Addr} {n:Nat} {P:Nat->Value->Prop} {St:Nat->Heap->Prop} {g0:Heap}
theorem Qa (W:Walks prog w A.in1 I fp wr n P St) (bt:Nat->Nat->Bool) (cm:UK prog w A.in1 g0 P bt) (S:Addr) (nS:S ∉ fp) (gw:∀ b o,g0.get? b=some o->b ∉ wr/\b ≠ S) :
  ∀ (m j:Nat) (s:Shared) (bv:Value) (c:Nat),n - (j + 1)=m->j + 1<=n->St (j + 1) s.heap->P (argBest bt j) bv->(∀ b o,g0.get? b=some o->s.heap.get? b=some o) ->
  s.heap.get? S=some { cls:=.type "list",dict:=none,data:=.seq #[bv,bv] c,slots:=#[] } ->
  (∀ v h2 tk,P (argBest bt (n - 1)) v->(∀ b o,b ∉ wr->b ≠ S->s.heap.get? b=some o->h2.get? b=some o)->R (.ok (.ret v)) { s with heap:=h2,toks:=tk }) ->
  codeAny (model prog w) A (.builtin "min.loop" ⟨[.ref I,.none,.ref S],[]⟩) R s:=by
 have Sw:S ∉ wr:=fun z=>nS (W.sub _ z)
 have nm:(toString "min" ++ toString ".loop":String)="min.loop":=by decide
 intro m;induction m with
 | zero=>
  intro j s bv c hm hj st pb g1 aS r;have jn:j + 1=n:=by lia
  refine codeAny_builtin F.entry_min_loop ?_;rw [Around.under_plainId F.plain_min_loop _];refine wpAny_bind (m:=seqItems? (.ref S)) (wpAny_seqItems aS rfl ?_);refine wpAny_bind (wpAny_tryCatch (W.done s _ _ (jn ▸ st) fun h2 tk k2=>?_));have VF:=k2 S _ Sw aS;refine wpAny_bind (m:=updateSeq S (fun _=>#[])) ?_;refine wpAny_updateSeq VF rfl (wpAny_bind (wpAny_letGo (wpAny_pure ?_)));exact r bv _ tk (by rw [<-jn]; exact pb) fun b o bw bS e=>(g8 _ _ (Ne.symm bS)).trans (k2 b o bw e)
 | succ m ih=>
  intro j s bv c hm hj st pb g1 aS r;have lt:j + 1 < n:=by lia
  refine codeAny_builtin F.entry_min_loop ?_;rw [Around.under_plainId F.plain_min_loop _];refine wpAny_bind (m:=seqItems? (.ref S)) (wpAny_seqItems aS rfl ?_);refine wpAny_bind (wpAny_tryCatch (W.item (j + 1) s _ _ lt st fun v h2 tk pv FO k2=>?_));have VF:=k2 S _ Sw aS;have g2:∀ b o,g0.get? b=some o->h2.get? b=some o:=fun b o e=>k2 b o (gw b o e).1 (g1 b o e)
  show wpAny _ A.in1 (tryCatch (holding [v,v] (richCompare .Lt v bv >>= _)) _ >>= _) _ _ _
  refine wpAny_bind (wpAny_tryCatch (wpAny_holding (wpAny_bind (cm (j + 1) (argBest bt j) v bv _ _ _ g2 pv pb ?_))));refine wpAny_bind (wpAny_holding (wpAny_truthy_bool ?_));refine wpAny_bind (wpAny_letGo (wpAny_pure ?_));cases hb:bt (j + 1) (argBest bt j) with
  | true=>
   simp only [if_true];refine wpAny_bind ?_;refine wpAny_updateSeq VF rfl (wpAny_bind (wpAny_letGo ?_));rw [nm];refine wpAny_pure ⟨plainId_quiet F.plain_min_loop _,ih (j + 1) _ v _ (by lia) lt (W.frame _ _ _ FO fun b bf o e=>?_) (by simp only [argBest,hb,if_true]; exact pv) (fun b o e=>?_) (gA _ VF rfl) fun v' h3 VV YE k3=>?_⟩
   ·exact (g8 _ _ (fun z:S=b=>nS (by rw [z]; exact bf))).trans e
   ·exact (g8 _ _ (Ne.symm (gw b o e).2)).trans (g2 b o e)
   ·exact r v' h3 VV YE fun b o bw bS e=>k3 b o bw bS ((g8 _ _ (Ne.symm bS)).trans (k2 b o bw e))
  | false=>
   simp only [gx,if_false];refine wpAny_bind (wpAny_letGo ?_);rw [nm];refine wpAny_pure ⟨plainId_quiet F.plain_min_loop _,ih (j + 1) _ bv c (by lia) lt FO (by simp only [argBest,hb,gx,if_false]; exact pb) g2 VF fun v' h3 VV YE k3=>?_⟩;exact r v' h3 VV YE fun b o bw bS e=>k3 b o bw bS (k2 b o bw e)
theorem IU (W:Walks prog w A.in1 I fp wr n P St) (bt:Nat->Nat->Bool) (cm:UK prog w A.in1 g0 P bt) (S:Addr) (nS:S ∉ fp) (gw:∀ b o,g0.get? b=some o->b ∉ wr/\b ≠ S) (hn:0 < n) {s:Shared} {c:Nat} (st:St 0 s.heap)
  (g1:∀ b o,g0.get? b=some o->s.heap.get? b=some o) (aS:s.heap.get? S=some { cls:=.type "list",dict:=none,data:=.seq #[] c,slots:=#[] })
  (r:∀ v h2 tk,P (argBest bt (n - 1)) v->(∀ b o,b ∉ wr->b ≠ S->s.heap.get? b=some o->h2.get? b=some o)->R (.ok (.ret v)) { s with heap:=h2,toks:=tk }) :
  codeAny (model prog w) A (.builtin "min.loop" ⟨[.ref I,.none,.ref S],[]⟩) R s:=by
 have Sw:S ∉ wr:=fun z=>nS (W.sub _ z)
 have nm:(toString "min" ++ toString ".loop":String)="min.loop":=by decide
 refine codeAny_builtin F.entry_min_loop ?_;rw [Around.under_plainId F.plain_min_loop _];refine wpAny_bind (m:=seqItems? (.ref S)) (wpAny_seqItems aS rfl ?_);refine wpAny_bind (wpAny_tryCatch (W.item 0 s _ _ hn st fun v h2 tk pv FO k2=>?_));have VF:=k2 S _ Sw aS;refine wpAny_bind (m:=updateSeq S (fun _=>#[v,v])) ?_;refine wpAny_updateSeq VF rfl ?_;rw [nm];refine wpAny_pure ⟨plainId_quiet F.plain_min_loop _,Qa W bt cm S nS gw _ 0 _ v _ rfl hn (W.frame _ _ _ FO fun b bf o e=>?_) pv (fun b o e=>?_) (gA _ VF rfl) fun v' h3 VV YE k3=>?_⟩
 ·exact (g8 _ _ (fun z:S=b=>nS (by rw [z]; exact bf))).trans e
 ·exact (g8 _ _ (Ne.symm (gw b o e).2)).trans (k2 b o (gw b o e).1 (g1 b o e))
 ·exact r v' h3 VV YE fun b o bw bS e=>k3 b o bw bS ((g8 _ _ (Ne.symm bS)).trans (k2 b o bw e))
end
section
variable {prog:Program} {w:World} {A:Around} {E:Value->Shared->Prop} {s:Shared}
theorem GC {l:Addr} {vs:List Value} {bt:Nat->Nat->Bool} {Q:Value->Shared->Prop} (hh:A.handled=none) (hl:s.heap.IsList l vs.toArray) (hn:0 < vs.length) (cm:UK prog w A.in1 s.heap (fun i v=>vs[i]? = some v) bt)
  (h:∀ v h2 tk,vs[argBest bt (vs.length - 1)]? = some v->(∀ b o,s.heap.get? b=some o->h2.get? b=some o)->Q v { s with heap:=h2,toks:=tk }):wpAny (model prog w) A (call (.builtin "min") [.ref l]) Q E s:=by
 have nm:(toString "min" ++ toString ".loop":String)="min.loop":=by decide
 have B6:l < s.heap.objs.size:=by obtain ⟨o,ho,_⟩:=id hl; exact fb ho
 refine call_function_tree F.kind_min F.plain_min F.entry_min (F.args_min1 _) ?_;refine wpAny_bind (wpAny_of_eq (show Builtin.Builtins.bindParams "min" ["key","default"] 0 ⟨[],[]⟩=pure [none,none] from rfl) ?_);refine wpAny_bind (wpAny_pure ?_);refine wpAny_bind (wpAny_pyIter_list hl ?_);refine wpAny_bind (wpAny_newObj_type ?_);rw [nm];have sz:(s.heap.push { cls:=.type "list_iterator",data:=.fields #[.ref l,.int 0 0] }).objs.size=s.heap.objs.size + 1:=gh ..;have W:=(Walks.list (prog:=prog) (w:=w) (A:=A.in1) hh s.heap.objs.size l (fj B6) vs.toArray).weaken (P':=fun i v=>vs[i]? = some v) (fun i v e=>by simpa using e);refine wpAny_pure ⟨plainId_quiet F.plain_min_loop _,IU (g0:=s.heap) W bt cm (s.heap.push { cls:=.type "list_iterator",data:=.fields #[.ref l,.int 0 0] }).objs.size (fun hm=>?_) (fun b o e=>⟨fun hm=>?_,fun z=>?_⟩) (by simpa using hn) ?_ (fun b o e=>eT _ (eT _ e)) (fe _ rfl) fun v h2 tk pv k2=>?_⟩
 ·rw [sz] at hm;rcases eX.mp hm with z | hm
  ·exact absurd z (Nat.succ_ne_self _)
  ·rcases eX.mp hm with z | hm
   ·exact absurd z (gB (gf B6))
   ·cases hm
 ·have:=fb e;rw [fo.mp hm] at this;exact absurd this (gC _)
 ·have:=fb e;rw [z,sz] at this;exact absurd this (jd.mpr (gy _))
 ·exact ⟨⟨_,eT _ (fe _ rfl),rfl,rfl⟩,(hl.push _).push _⟩
 ·refine h v h2 tk (by simpa using pv) fun b o e=>k2 b o (fun hm=>?_) (fun z=>?_) (eT _ (eT _ e))
  ·have:=fb e;rw [fo.mp hm] at this;exact absurd this (gC _)
  ·have:=fb e;rw [z,sz] at this;exact absurd this (jd.mpr (gy _))
end
section
variable {prog:Program} {w:World} {A:Around} {E:Value->Shared->Prop} {s:Shared}
theorem RR {a b:Value} {bt:Nat->Nat->Bool} {Q:Value->Shared->Prop} (hh:A.handled=none) (cm:UK prog w A.in1 s.heap (fun i v=>[a,b][i]? = some v) bt)
  (h:∀ v h2 tk,[a,b][argBest bt 1]? = some v->(∀ c o,s.heap.get? c=some o->h2.get? c=some o)->Q v { s with heap:=h2,toks:=tk }):wpAny (model prog w) A (call (.builtin "min") [a,b]) Q E s:=by
 have nm:(toString "min" ++ toString ".loop":String)="min.loop":=by decide
 have hT:(s.heap.push { cls:=.type "tuple",data:=.seq #[a,b] }).IsTuple s.heap.objs.size #[a,b]:=⟨_,fe _ rfl,rfl,0,rfl⟩
 refine call_function_tree F.kind_min F.plain_min F.entry_min (F.args_min2 _ _) ?_;refine wpAny_bind (wpAny_of_eq (show Builtin.Builtins.bindParams "min" ["key","default"] 0 ⟨[],[]⟩=pure [none,none] from rfl) ?_);show wpAny _ A.in1 (newTuple [a,b] >>= _) _ _ s
 refine wpAny_bind (wpAny_newObj_type ?_);refine wpAny_bind (wpAny_pyIter_tuple hT ?_);refine wpAny_bind (wpAny_newObj_type ?_);rw [nm];have s1:(s.heap.push { cls:=.type "tuple",data:=.seq #[a,b] }).objs.size=s.heap.objs.size + 1:=gh ..;have s2:((s.heap.push { cls:=.type "tuple",data:=.seq #[a,b] }).push { cls:=.type "tuple_iterator",data:=.fields #[.ref s.heap.objs.size,.int 0 0] }).objs.size=s.heap.objs.size + 2:=by rw [gh,s1]
 have W:=(Walks.tuple (prog:=prog) (w:=w) (A:=A.in1) hh (s.heap.push { cls:=.type "tuple",data:=.seq #[a,b] }).objs.size s.heap.objs.size (by rw [s1]; exact fj (gi _)) #[a,b]).weaken (P':=fun i v=>[a,b][i]? = some v) (fun i v e=>by simpa using e);refine wpAny_pure ⟨plainId_quiet F.plain_min_loop _,IU (g0:=s.heap) W bt cm ((s.heap.push { cls:=.type "tuple",data:=.seq #[a,b] }).push { cls:=.type "tuple_iterator",data:=.fields #[.ref s.heap.objs.size,.int 0 0] }).objs.size (fun hm=>?_) (fun b o e=>⟨fun hm=>?_,fun z=>?_⟩) (by simp) ?_ (fun b o e=>eT _ (eT _ (eT _ e))) (fe _ rfl) fun v h2 tk pv k2=>?_⟩
 ·rw [s2] at hm;rcases eX.mp hm with z | hm
  ·rw [s1] at z; exact absurd z (gB (gi _))
  ·rcases eX.mp hm with z | hm
   ·exact absurd z (gB (gf (gi _)))
   ·cases hm
 ·have:=fb e;rw [fo.mp hm,s1] at this;exact absurd this (jd.mpr (gy _))
 ·have:=fb e;rw [z,s2] at this;exact absurd this (jd.mpr (gc (gy _) (gy _)))
 ·exact ⟨⟨_,eT _ (fe _ rfl),rfl,rfl⟩,(hT.push _).push _⟩
 ·refine h v h2 tk (by simpa using pv) fun b o e=>k2 b o (fun hm=>?_) (fun z=>?_) (eT _ (eT _ (eT _ e)))
  ·have:=fb e;rw [fo.mp hm,s1] at this;exact absurd this (jd.mpr (gy _))
  ·have:=fb e;rw [z,s2] at this;exact absurd this (jd.mpr (gc (gy _) (gy _)))
end
theorem Jt (bt:Nat->Nat->Bool) (num:Nat->Int) (h1:∀ i j,bt i j=true->num i<=num j) (h2:∀ i j,bt i j=false->num j<=num i):∀ k,argBest bt k<=k/\∀ j,j<=k->num (argBest bt k)<=num j
 | 0=>⟨fc _,fun j hj=>by
  have:j=0:=by lia
  subst this; exact gJ _⟩
 | k + 1=>by
  obtain ⟨a1,a2⟩:=Jt bt num h1 h2 k;simp only [argBest];cases hc:bt (k + 1) (argBest bt k) with
  | true=>
   simp only [if_true];refine ⟨fc _,fun j hj=>?_⟩;have:=h1 _ _ hc;by_cases Lq:j<=k
   ·have:=a2 j Lq; lia
   ·have:j=k + 1:=by lia
    subst this; exact gJ _
  | false=>
   simp only [gx,if_false];refine ⟨j8 a1,fun j hj=>?_⟩;by_cases Lq:j<=k
   ·exact a2 j Lq
   ·have:j=k + 1:=by lia
    subst this; exact h2 _ _ hc
def Jv (H:Hp) (v:V) (p:Int × Str):Prop:=∃ t,v=.ref t/\H t=some (.tup [.int p.1,.str p.2])
def VN (H:Hp) (v:V) (k:(Int × Str) × Str):Prop:=∃ t t2,v=.ref t/\H t=some (.tup [.ref t2,.str k.2])/\Jv H (.ref t2) k.1
theorem Jv.same {H H':Hp} {v:V} {p:Int × Str} (h:Jv H v p) (s:∀ b xs,H b=some (.tup xs)->H' b=some (.tup xs)):Jv H' v p:=let ⟨t,e,z⟩:=h; ⟨t,e,s _ _ z⟩
theorem VN.same {H H':Hp} {v:V} {p:(Int × Str) × Str} (h:VN H v p) (s:∀ b xs,H b=some (.tup xs)->H' b=some (.tup xs)):VN H' v p:=let ⟨t,t2,e,z,q⟩:=h; ⟨t,t2,e,s _ _ z,q.same s⟩
theorem Jv.at {X:Cx} {pins:List (Addr × Obj)} {σ:St} {H:Hp} {s:Shared} {v:V} {u:Value} {p:Int × Str} (I:As X pins σ H s) (r:AD v u) (h:Jv H v p):Dv s.heap u p:=by
 obtain ⟨t,rfl,ht⟩:=h;cases r
 obtain ⟨Ar,rv,pl,hz⟩:=I.tuple (Az.of ht);cases rv with
 | cons a1 b1=>
  cases b1 with
  | cons a2 b2=>
   cases b2
   obtain ⟨t1,rfl⟩:=a1;obtain ⟨t2,rfl⟩:=a2;exact ⟨t,t1,t2,rfl,pl⟩
theorem VN.at {X:Cx} {pins:List (Addr × Obj)} {σ:St} {H:Hp} {s:Shared} {v:V} {u:Value} {k:(Int × Str) × Str} (I:As X pins σ H s) (r:AD v u) (h:VN H v k):Jx s.heap u k:=by
 obtain ⟨t,l,rfl,ht,hp⟩:=h;cases r
 obtain ⟨Ar,rv,pl,hz⟩:=I.tuple (Az.of ht);cases rv with
 | cons a1 b1=>
  cases b1 with
  | cons a2 b2=>
   cases b2
   cases a1
   obtain ⟨t2,rfl⟩:=a2;exact ⟨t,l,t2,rfl,pl,hp.at I (show AD (V.ref l) (Value.ref l) from rfl)⟩
def Dx (p q:Int × Str):Prop:=p.1 < q.1\/(p.1=q.1/\¬ q.2.cps.toList < p.2.cps.toList)
theorem Dx.refl (p:Int × Str):Dx p p:=.inr ⟨rfl,jj _⟩
theorem Dx.trans {p q r:Int × Str} (h1:Dx p q) (h2:Dx q r):Dx p r:=by
 rcases h1 with a | ⟨a,b⟩ <;> rcases h2 with c | ⟨c,d⟩
 ·exact .inl (by lia)
 ·exact .inl (by lia)
 ·exact .inl (by lia)
 ·exact .inr ⟨by lia,i6.mpr (lh (i6.mp b) (i6.mp d))⟩
theorem Dx.add {d d' l:Int} {s s':Str} (h:Dx (d,s) (d',s')):Dx (d + l,s) (d' + l,s'):=by
 rcases h with a | ⟨a,b⟩
 ·have a':d < d':=a;exact .inl (show d + l < d' + l by lia)
 ·have a':d=d':=a;exact .inr ⟨show d + l=d' + l by lia,b⟩
theorem Dx.up {d d':Int} {s:Str} (h:d<=d'):Dx (d,s) (d',s):=by
 by_cases e:d=d'
 ·exact .inr ⟨e,jj _⟩
 ·exact .inl (show d < d' by lia)
theorem Dx.fst {p q:Int × Str} (h:Dx p q):p.1<=q.1:=by
 rcases h with a | ⟨a,_⟩ <;> lia
theorem Lm {p q:Int × Str} (h:Qd p q=true):Dx p q:=by
 unfold Qd at h;by_cases e:(p.1 == q.1)=true
 ·have e':p.1=q.1:=by simpa using e
  rw [if_pos e] at h;by_cases e2:(p.2 == q.2)=true
  ·rw [if_pos e2] at h; cases h
  ·rw [if_neg e2] at h;exact .inr ⟨e',iE (by simpa using h)⟩
 ·rw [if_neg e] at h;exact .inl (by simpa using h)
theorem Ln {p q:Int × Str} (h:Qd p q=false):Dx q p:=by
 unfold Qd at h;by_cases e:(p.1 == q.1)=true
 ·have e':p.1=q.1:=by simpa using e
  rw [if_pos e] at h;by_cases e2:(p.2 == q.2)=true
  ·have bu:p.2=q.2:=by simpa using e2
   exact .inr ⟨e'.symm,by rw [bu]; exact jj _⟩
  ·rw [if_neg e2] at h;exact .inr ⟨e'.symm,by simpa using h⟩
 ·rw [if_neg e] at h;have e':¬ p.1=q.1:=by simpa using e
  have:¬ p.1 < q.1:=by simpa using h
  exact .inl (by lia)
theorem Uh {p q:(Int × Str) × Str} (h:Ve p q=true):Dx p.1 q.1:=by
 unfold Ve at h;by_cases e:decide (p.1=q.1)=true
 ·have:p.1=q.1:=by simpa using e
  rw [this]; exact Dx.refl _
 ·rw [if_neg e] at h;exact Lm h
theorem Ui {p q:(Int × Str) × Str} (h:Ve p q=false):Dx q.1 p.1:=by
 unfold Ve at h;by_cases e:decide (p.1=q.1)=true
 ·have:p.1=q.1:=by simpa using e
  rw [this]; exact Dx.refl _
 ·rw [if_neg e] at h;exact Ln h
theorem EY (bt:Nat->Nat->Bool) (num:Nat->Int × Str) (h1:∀ i j,bt i j=true->Dx (num i) (num j)) (h2:∀ i j,bt i j=false->Dx (num j) (num i)):∀ k,argBest bt k<=k/\∀ j,j<=k->Dx (num (argBest bt k)) (num j)
 | 0=>⟨fc _,fun j hj=>by
  have:j=0:=by lia
  subst this; exact Dx.refl _⟩
 | k + 1=>by
  obtain ⟨a1,a2⟩:=EY bt num h1 h2 k;simp only [argBest];cases hc:bt (k + 1) (argBest bt k) with
  | true=>
   simp only [if_true];refine ⟨fc _,fun j hj=>?_⟩;by_cases Lq:j<=k
   ·exact (h1 _ _ hc).trans (a2 j Lq)
   ·have:j=k + 1:=by lia
    subst this; exact Dx.refl _
  | false=>
   simp only [gx,if_false];refine ⟨j8 a1,fun j hj=>?_⟩;by_cases Lq:j<=k
   ·exact a2 j Lq
   ·have:j=k + 1:=by lia
    subst this; exact h2 _ _ hc
theorem Jr {X:Cx} (hc:X.calm=true) (hu:X.A.units + 64 < cLine):Bv X (.builtin "min") (fun xs H Q=>∃ (a:Addr) (vs:List V) (ks:List ((Int × Str) × Str)),xs=[.ref a]/\H a=some (.lst vs)/\vs.length=ks.length/\ks ≠ []/\(∀ (i:Nat) v k,vs[i]? = some v->ks[i]? = some k->VN H v k) /\
  ∀ v k,k ∈ ks->VN H v k->(∀ k' ∈ ks,Dx k.1 k'.1)->Q v H):=by
 intro pins s σ H xs us Q I r h;obtain ⟨a,vs,ks,rfl,ha,hl,hne,hk,q⟩:=h;obtain ⟨u,rfl,ru⟩:=Cq r;cases ru
 obtain ⟨Ar,rv,pl,hz⟩:=I.list (Ba.of ha);have il:Ar.length=ks.length:=by rw [<-rv.length,hl]
 have pos:0 < ks.length:=iI.mpr hne;have kat:∀ (i:Nat) (v:Value),Ar[i]? = some v->∃ k,ks[i]? = some k/\Jx s.heap v k/\∃ x,vs[i]? = some x/\AD x v:=fun i v e=>by
  have hi:i < Ar.length:=(fh.mp e).1;have e1:vs[i]? = some vs[i]:=eR (by lia);have e2:ks[i]? = some ks[i]:=eR (by lia);obtain ⟨v',e3,r3⟩:=rv.get e1;rw [e] at e3;cases e3
  exact ⟨_,e2,(hk i _ _ e1 e2).at I r3,_,e1,r3⟩
 refine GC (bt:=fun i j=>Ve (ks.getD i default) (ks.getD j default)) (I.ok.hd hc) pl.isList (by lia) (fun i j vi vj s' Q' E' g hi hj hQ=>?_) fun v h2 tk hv k2=>?_
 ·obtain ⟨ki,e1,a1,_⟩:=kat i vi hi;obtain ⟨kj,e2,a2,_⟩:=kat j vj hj;have d1:ks.getD i default=ki:=by rw [fS,e1]; rfl
  have d2:ks.getD j default=kj:=by rw [fS,e2]; rfl
  dsimp only at hQ;rw [d1,d2] at hQ;exact WL (a1.keep g) (a2.keep g) (by rw [PySem.Around.in1_units]; lia) _ _ _ _ hQ
 ·obtain ⟨k,e1,a1,x,e3,r3⟩:=kat _ v hv;obtain ⟨b1,b2⟩:=EY (fun i j=>Ve (ks.getD i default) (ks.getD j default)) (fun i=>(ks.getD i default).1) (fun _ _=>Uh) (fun _ _=>Ui) (Ar.length - 1);refine ⟨x,H,I.kept k2,r3,q x k (eW e1) (hk _ x k e3 e1) fun k' SY=>?_⟩;obtain ⟨j,hj,ej⟩:=fY SY;have:=b2 j (by lia);have d1:ks.getD (argBest (fun i j=>Ve (ks.getD i default) (ks.getD j default)) (Ar.length - 1)) default=k:=by rw [fS,e1]; rfl
  have d2:ks.getD j default=k':=by rw [fS,eR hj,ej]; rfl
  rw [d1,d2] at this;exact this
theorem JN {X:Cx} (hc:X.calm=true) (hu:X.A.units + 64 < cLine):Bv X (.builtin "min") (fun xs H Q=>∃ (x y:V) (p q:Int × Str),xs=[x,y]/\Jv H x p/\Jv H y q/\((Dx q p->Q y H)/\(Dx p q->Q x H))):=by
 intro pins s σ H xs us Q I r h;obtain ⟨x,y,p,q,rfl,hx,hy,q1,q2⟩:=h;obtain ⟨u,v,rfl,ru,rv⟩:=Oc r;have pu:=hx.at I ru;have pv:=hy.at I rv;refine RR (bt:=fun i j=>Qd ([p,q].getD i default) ([p,q].getD j default)) (I.ok.hd hc) (fun i j vi vj s' Q' E' g hi hj hQ=>?_) fun z h2 tk hz k2=>?_
 ·have at':∀ (i:Nat) (vi:Value),[u,v][i]? = some vi->Dv s.heap vi ([p,q].getD i default):=fun i vi e=>by
   match i,e with
   | 0,e=>cases e; exact pu
   | 1,e=>cases e; exact pv
   | i + 2,e=>cases e
  exact Ll ((at' i vi hi).keep g) ((at' j vj hj).keep g) (by rw [PySem.Around.in1_units]; lia) _ _ _ _ hQ
 ·have e:argBest (fun i j=>Qd ([p,q].getD i default) ([p,q].getD j default)) 1=if Qd q p=true then 1 else 0:=rfl
  rw [e] at hz;cases hl:Qd q p with
  | true=>
   rw [hl,if_pos rfl] at hz;cases hz
   exact ⟨y,H,I.kept k2,rv,q1 (Lm hl)⟩
  | false=>
   rw [hl,if_neg fH] at hz;cases hz
   exact ⟨x,H,I.kept k2,ru,q2 (Ln hl)⟩
def BV (ws:List A9) (x y:Str) (l:Int):Prop:=∃ u ∈ ws,((u.1=x/\u.2.1=y)\/(u.1=y/\u.2.1=x))/\u.2.2=l
theorem BV.adj {ws:List A9} {x y:Str} {l:Int} (h:BV ws x y l):LF ws x y:=let ⟨u,hu,e,_⟩:=h; ⟨u,hu,e⟩
theorem BV.symm {ws:List A9} {x y:Str} {l:Int} (h:BV ws x y l):BV ws y x l:=let ⟨u,hu,e,z⟩:=h; ⟨u,hu,e.symm,z⟩
inductive Bq (ws:List A9):Str->Str->Int->Prop
 | nil (x:Str):Bq ws x x 0
 | cons {x y z:Str} {l m:Int}:BV ws x y l->Bq ws y z m->Bq ws x z (l + m)
theorem Bq.app {ws:List A9} {x y z:Str} {m n:Int} (h:Bq ws x y m) (g:Bq ws y z n):Bq ws x z (m + n):=by
 induction h with
 | nil x=>rw [je]; exact g
 | cons e _ ih=>rw [jO]; exact .cons e (ih g)
theorem Bq.snoc {ws:List A9} {x y z:Str} {m l:Int} (h:Bq ws x y m) (e:BV ws y z l):Bq ws x z (m + l):=by
 have:=h.app (.cons e (.nil z));rwa [jU] at this
theorem Bq.symm {ws:List A9} {x y:Str} {m:Int} (h:Bq ws x y m):Bq ws y x m:=by
 induction h with
 | nil x=>exact .nil x
 | @cons x y z l m e _ ih=>rw [Int.add_comm]; exact ih.snoc e.symm
theorem Bq.pos {ws:List A9} (hp:∀ u ∈ ws,1<=u.2.2) {x y:Str} {m:Int} (h:Bq ws x y m):0<=m:=by
 induction h with
 | nil x=>exact gJ _
 | cons e _ ih=>
  obtain ⟨u,hu,_,rfl⟩:=e;have:=hp u hu;lia
def NV (ws:List A9) (ss:List Str) (y:Str) (p:Int × Str):Prop:=(p.2 ∈ ss/\Bq ws p.2 y p.1)/\∀ s ∈ ss,∀ m,Bq ws s y m->Dx p (m,s)
structure UJ (ws:List A9) (ss:List Str) (S R:Str->Int × Str->Prop):Prop where
 near:∀ y p,S y p->NV ws ss y p
 reach:∀ y p,R y p->p.2 ∈ ss/\Bq ws p.2 y p.1
 relax:∀ x p y l,S x p->BV ws x y l->(∃ q,S y q)\/∃ q,R y q/\Dx q (p.1 + l,p.2)
 start:∀ s ∈ ss,(∃ q,S s q)\/∃ q,R s q/\Dx q (0,s)
theorem UJ.out {ws:List A9} {ss:List Str} {S R:Str->Int × Str->Prop} (h:UJ ws ss S R) (hp:∀ u ∈ ws,1<=u.2.2) {x z:Str} {m:Int} (g:Bq ws x z m) (hz:∀ q,¬ S z q):∀ p,S x p->∃ y q,R y q/\Dx q (p.1 + m,p.2):=by
 induction g with
 | nil x=>intro p cT; exact absurd cT (hz p)
 | @cons x y z l m e g ih=>
  intro p hx;rcases h.relax x p y l hx e with ⟨q,hq⟩ | ⟨q,hq,le⟩
  ·obtain ⟨y',q',h1,h2⟩:=ih hz q hq;refine ⟨y',q',h1,h2.trans ?_⟩;have n1:=(h.near y q hq).2 p.2 (h.near x p hx).1.1 (p.1 + l) ((h.near x p hx).1.2.snoc e);have:=n1.add (l:=m);rw [jO] at this;exact this
  ·exact ⟨y,q,hq,le.trans (Dx.up (by have:=g.pos hp; lia))⟩
theorem UJ.pick {ws:List A9} {ss:List Str} {S R:Str->Int × Str->Prop} (h:UJ ws ss S R) (hp:∀ u ∈ ws,1<=u.2.2) {y:Str} {p:Int × Str} (hy:R y p) (ny:∀ q,¬ S y q) (least:∀ z q,R z q->Dx p q):NV ws ss y p:=by
 refine ⟨h.reach y p hy,fun s hs m g=>?_⟩;rcases h.start s hs with ⟨q,hq⟩ | ⟨q,hq,le⟩
 ·obtain ⟨z,q',h1,h2⟩:=h.out hp g ny q hq;refine (least z q' h1).trans (h2.trans ?_);have n1:=(h.near s q hq).2 s hs 0 (.nil s);have:=(show Dx (q.1,q.2) (0,s) from n1).add (l:=m);rw [je] at this;exact this
 ·exact (least s q hq).trans (le.trans (Dx.up (g.pos hp)))
theorem UJ.done {ws:List A9} {ss:List Str} {S R:Str->Int × Str->Prop} (h:UJ ws ss S R) (hR:∀ y p,¬ R y p) {r:Str} (hss:ss ≠ []) {ps:List Str} (con:∀ T:Str->Prop,T r->(∀ x y,LF ws x y->T x->T y)->∀ x ∈ ps,T x)
  (eA:∀ T:Str->Prop,∀ x ∈ ps,T x->(∀ x y,LF ws x y->T x->T y)->T r) (sub:∀ s ∈ ss,s ∈ ps):∀ x ∈ ps,∃ q,S x q:=by
 have cl:∀ x y,LF ws x y->(∃ q,S x q)->∃ q,S y q:=fun x y ⟨u,hu,e⟩ ⟨q,hq⟩=>by
  rcases h.relax x q y u.2.2 hq ⟨u,hu,e,rfl⟩ with z | ⟨q',hq',_⟩
  ·exact z
  ·exact absurd hq' (hR _ _)
 obtain ⟨s,hs⟩:=List.exists_mem_of_ne_nil ss hss;have s0:∃ q,S s q:=by
  rcases h.start s hs with z | ⟨q,hq,_⟩
  ·exact z
  ·exact absurd hq (hR _ _)
 exact con (fun x=>∃ q,S x q) (eA (fun x=>∃ q,S x q) s (sub s hs) s0 cl) cl
theorem KR {a b:List (Str × V)} (h:sK a=sK b):a=b:=by
 unfold sK at h;exact kD (fun x y z=>by
  simp only [Prod.mk.injEq,Sum.inr.injEq] at z;exact Prod.ext z.1 z.2) |>.mp h
theorem Ic {nv Ef:List (Str × V)} {y:Str} {v:V} (e:BJ (sK nv) (Sum.inr y:Bh) v=sK Ef):∀ z x,(z,x) ∈ Ef ↔ (z=y/\x=v)\/(z ≠ y/\(z,x) ∈ nv):=by
 intro z x;by_cases h:y ∈ nv.map (·.1)
 ·have e2:BJ (sK nv) (Sum.inr y:Bh) v=sK (nv.map fun q=>if q.1=y then (q.1,v) else q):=by
   unfold BJ;have:((sK nv).any fun kv=>decide (kv.1=(Sum.inr y:Bh)))=true:=by rw [Cr,Hq,decide_eq_true h]
   rw [if_pos this];unfold sK;rw [gL,gL];refine iw fun q _=>?_
   by_cases e:q.1=y
   ·simp [e]
   ·have e':¬ (Sum.inr q.1:Bh)=Sum.inr y:=fun z=>e (Sum.inr.inj z)
    simp [e,e']
  rw [e2] at e;rw [<-KR e,fi];constructor
  ·rintro ⟨q,hq,e⟩;by_cases eq:q.1=y
   ·rw [if_pos eq] at e;have e1:q.1=z:=congrArg Prod.fst e;have e3:v=x:=congrArg Prod.snd e;exact .inl ⟨by rw [<-e1,eq],e3.symm⟩
   ·rw [if_neg eq] at e;refine .inr ⟨?_,by rw [<-e]; exact hq⟩;rw [show z=q.1 from (congrArg Prod.fst e).symm]; exact eq
  ·rintro (⟨rfl,rfl⟩ | ⟨h1,h2⟩)
   ·obtain ⟨q,hq,e1⟩:=fi.mp h;have Xl:q.1=z:=e1;exact ⟨q,hq,by rw [if_pos Xl,Xl]⟩
   ·exact ⟨(z,x),h2,by rw [if_neg h1]⟩
 ·rw [DN h] at e;rw [<-KR e,fq];constructor
  ·rintro (h1 | h1)
   ·refine .inr ⟨?_,h1⟩;rintro rfl;exact h (fi.mpr ⟨_,h1,rfl⟩)
   ·simp only [fo,Prod.mk.injEq] at h1;exact .inl h1
  ·rintro (⟨rfl,rfl⟩ | ⟨_,h2⟩)
   ·exact .inr (by simp)
   ·exact .inl h2
theorem TC (nv:List (Str × V)) (y:Str):Jk (sK nv) (Sum.inr y:Bh)=sK (nv.filter fun q=>decide (q.1 ≠ y)):=by
 unfold Jk sK;rw [List.filter_map];congr 1;refine List.filter_congr fun q _=>?_
 by_cases e:q.1=y
 ·simp [e]
 ·have e':¬ (Sum.inr q.1:Bh)=Sum.inr y:=fun z=>e (Sum.inr.inj z)
  simp [e,e']
def Te (H:Hp) (ps:List Str) (ds:List Addr) (Ed:Str->Str->Int->Prop):Prop:=∀ (i:Nat) (p:Str) (d:Addr) (nv:List (Str × V)),ps[i]? = some p->ds[i]? = some d->Rd H d (.dK (sK nv))->∀ y v,(y,v) ∈ nv->∃ l,v=.int l/\Ed p y l
theorem Rd.inj {H:Hp} {d:Addr} {a b:List (Str × V)} (h:Rd H d (.dK (sK a))) (g:Rd H d (.dK (sK b))):a=b:=by
 rcases h with h | ⟨o,h⟩ <;> rcases g with g | ⟨o',g⟩ <;> have e:=fV.inj (h.symm.trans g)
 ·injection e with e; exact KR e
 ·exact nomatch e
 ·exact nomatch e
 ·injection e with _ e;injection e with e; exact KR e
theorem Te.put {H:Hp} {ps:List Str} {ds:List Addr} {Ed Ed':Str->Str->Int->Prop} (h:Te H ps ds Ed) (hn:ps.Nodup) (dn:ds.Nodup) {i:Nat} {p y:Str} {d:Addr} {l:Int} (e1:ps[i]? = some p) (e2:ds[i]? = some d) {nv Ef:List (Str × V)} (hd:H d=some (.dK (sK nv)))
  (ep:BJ (sK nv) (Sum.inr y:Bh) (.int l)=sK Ef) (mono:∀ a b m,Ed a b m->Ed' a b m) (new:Ed' p y l):Te (upd H d (.dK (sK Ef))) ps ds Ed':=by
 intro j q c nw f1 f2 hr z v hz;by_cases hc:c=d
 ·subst hc;have ij:i=j:=Hu dn e2 f2;subst ij;rw [e1] at f1; cases f1;have:nw=Ef:=Rd.inj hr (.inl Ab);subst this;rcases (Ic ep z v).mp hz with ⟨rfl,rfl⟩ | ⟨_,SW⟩
  ·exact ⟨l,rfl,new⟩
  ·obtain ⟨l',e,ed⟩:=h i _ c nv e1 e2 (.inl hd) z v SW;exact ⟨l',e,mono _ _ _ ed⟩
 ·have hr':Rd H c (.dK (sK nw)):=by
   rcases hr with g | ⟨o,g⟩
   ·exact .inl (by rw [Ae hc] at g; exact g)
   ·exact .inr ⟨o,by rw [Ae hc] at g; exact g⟩
  obtain ⟨l',e,ed⟩:=h j q c nw f1 f2 hr' z v hz;exact ⟨l',e,mono _ _ _ ed⟩
def QV (K:eV):Sp:=fun vs H Q _=>∃ (q:Addr) (ps:List Str) (ws:List A9) (r:Str),vs=[.ref q]/\Ju H q ps ws r /\
 ∀ (H':Hp) (B:Addr) (ds:List Addr),Aq H H'->NB H' B ps ds (LF ws) 128->Te H' ps ds (BV ws)->H B=none->(∀ d ∈ ds,H d=none)->Q (.ref B) H'
theorem PI.or {X:Cx} {tg l:Expr} {w1 w2:TI} (h1:PI X tg l w1) (h2:PI X tg l w2):PI X tg l (fun σ H R=>w1 σ H R\/w2 σ H R):=by
 intro pins s σ H R I h;rcases h with h | h
 ·exact h1 (pins:=pins) s σ H R I h
 ·exact h2 (pins:=pins) s σ H R I h
def NQ (H:Hp) (nv:List (Str × V)) (S:Str->Int × Str->Prop):Prop:=(nv.map (·.1)).Nodup/\(∀ y v,(y,v) ∈ nv->∃ p,Jv H v p/\S y p)/\∀ y p,S y p->∃ v,(y,v) ∈ nv/\Jv H v p
def QU (K:eV):Sp:=fun vs H Q _=>∃ (q st:Addr) (ps ss:List Str) (ws:List A9) (r:Str),vs=[.ref q,.ref st]/\Ju H q ps ws r/\(∀ u ∈ ws,1<=u.2.2)/\(∀ x y l l',BV ws x y l->BV ws x y l'->l=l')/\(H st=some (.lst (ss.map V.str))\/H st=some (.tup (ss.map V.str)))/\ss ≠ []/\ss.Nodup/\(∀ s ∈ ss,s ∈ ps) /\
 ∀ (H':Hp) (B:Addr) (nv:List (Str × V)),Aq H H'->H B=none->H' B=some (.dK (sK nv))->(nv.map (·.1)).Nodup->(∀ x,x ∈ nv.map (·.1) ↔ x ∈ ps)->(∀ y v,(y,v) ∈ nv->∃ p,Jv H' v p/\NV ws ss y p)->Q (.ref B) H'
theorem Kf {nv:List (Str × V)} {y:Str} {v:V} (h:Bz (sK nv) (Sum.inr y:Bh)=some v):(y,v) ∈ nv:=by
 unfold Bz at h;cases e:(sK nv).find? (fun kv=>decide (kv.1=(Sum.inr y:Bh))) with
 | none=>rw [e] at h; cases h
 | some kv=>
  rw [e] at h;have h1:=List.find?_some e;have h2:=List.mem_of_find?_eq_some e;obtain ⟨q,hq,rfl⟩:=fi.mp h2;have e1:q.1=y:=by
   have:(Sum.inr q.1:Bh)=Sum.inr y:=by simpa using h1
   exact Sum.inr.inj this
  have e2:q.2=v:=fV.inj h;rw [<-e1,<-e2];exact hq
theorem Qo {ws:List A9} {i:Nat} {a b:Str} {m:Int} (h:BV (ws.take i) a b m):BV (ws.take (i + 1)) a b m:=by
 obtain ⟨u,hu,e⟩:=h;rw [fQ];exact ⟨u,gT _ hu,e⟩
theorem M8 {ws:List A9} {i:Nat} {u:A9} (h:ws[i]? = some u):BV (ws.take (i + 1)) u.1 u.2.1 u.2.2:=by
 rw [fQ,h];exact ⟨u,fm _ (by simp),.inl ⟨rfl,rfl⟩,rfl⟩
theorem Jv.fn {H:Hp} {v:V} {p q:Int × Str} (h:Jv H v p) (g:Jv H v q):p=q:=by
 obtain ⟨t,rfl,e⟩:=h;obtain ⟨t',e',g⟩:=g;have:t=t':=by injection e'
 subst this;have z:=fV.inj (e.symm.trans g);injection z with z;simp only [jm.injEq,V.int.injEq,V.str.injEq] at z;exact Prod.ext z.1 z.2.1
theorem NR.same {H H':Hp} {B:Addr} {ps:List Str} {ds:List Addr} {P:Str->Str->Prop} (h:NR H B ps ds P) (s:Aq H H'):NR H' B ps ds P:=
 ⟨s _ _ h.top,h.len,h.nd,h.nB,fun i p d e1 e2=>let ⟨nv,a1,a3⟩:=h.inner i p d e1 e2
  ⟨nv,(by rcases a1 with a | ⟨o,a⟩; exact .inl (s _ _ a); exact .inr ⟨o,s _ _ a⟩),a3⟩⟩
theorem Te.of {H H':Hp} {B:Addr} {ps:List Str} {ds:List Addr} {P:Str->Str->Prop} {Ed:Str->Str->Int->Prop} (h:Te H ps ds Ed) (nr:NR H B ps ds P) (k:∀ d ∈ ds,∀ nv:List (Str × V),Rd H d (.dK (sK nv))->Rd H' d (.dK (sK nv))):Te H' ps ds Ed:=by
 intro i p d nv e1 e2 hr y v hy;obtain ⟨nw,a1,_⟩:=nr.inner i p d e1 e2;have:=Rd.inj hr (k d (eW e2) nw a1);subst this;exact h i p d nv e1 e2 a1 y v hy
theorem NQ.same {H H':Hp} {nv:List (Str × V)} {S:Str->Int × Str->Prop} (h:NQ H nv S) (s:∀ b xs,H b=some (.tup xs)->H' b=some (.tup xs)):NQ H' nv S:=
 ⟨h.1,fun y v hv=>let ⟨p,a,b⟩:=h.2.1 y v hv; ⟨p,a.same s,b⟩,fun y p hp=>let ⟨v,a,b⟩:=h.2.2 y p hp; ⟨v,a,b.same s⟩⟩
theorem NQ.fn {H:Hp} {nv:List (Str × V)} {S:Str->Int × Str->Prop} (h:NQ H nv S) {y:Str} {p q:Int × Str} (hp:S y p) (hq:S y q):p=q:=by
 obtain ⟨v,a,b⟩:=h.2.2 y p hp;obtain ⟨w,c,d⟩:=h.2.2 y q hq;have:=QJ h.1 a c;subst this;exact b.fn d
theorem NQ.put {H:Hp} {nv Ef:List (Str × V)} {S:Str->Int × Str->Prop} {y:Str} {v:V} {p:Int × Str} (h:NQ H nv S) (e:BJ (sK nv) (Sum.inr y:Bh) v=sK Ef) (hv:Jv H v p):NQ H Ef (fun z q=>(z=y/\q=p)\/(z ≠ y/\S z q)):=by
 refine ⟨TB e h.1,fun z x hz=>?_,fun z q hq=>?_⟩
 ·rcases (Ic e z x).mp hz with ⟨rfl,rfl⟩ | ⟨n,SW⟩
  ·exact ⟨p,hv,.inl ⟨rfl,rfl⟩⟩
  ·obtain ⟨q,a,b⟩:=h.2.1 z x SW;exact ⟨q,a,.inr ⟨n,b⟩⟩
 ·rcases hq with ⟨rfl,rfl⟩ | ⟨n,hq⟩
  ·exact ⟨v,(Ic e _ _).mpr (.inl ⟨rfl,rfl⟩),hv⟩
  ·obtain ⟨x,a,b⟩:=h.2.2 z q hq;exact ⟨x,(Ic e _ _).mpr (.inr ⟨n,a⟩),b⟩
theorem NQ.drop {H:Hp} {nv:List (Str × V)} {S:Str->Int × Str->Prop} (h:NQ H nv S) (y:Str):NQ H (nv.filter fun q=>decide (q.1 ≠ y)) (fun z q=>z ≠ y/\S z q):=by
 refine ⟨G8 h.1 _,fun z x hz=>?_,fun z q hq=>?_⟩
 ·obtain ⟨a,b⟩:=ib.mp hz;obtain ⟨q,c,d⟩:=h.2.1 z x a;exact ⟨q,c,by simpa using b,d⟩
 ·obtain ⟨n,hq⟩:=hq;obtain ⟨x,a,b⟩:=h.2.2 z q hq;exact ⟨x,ib.mpr ⟨a,by simpa using n⟩,b⟩
structure NI (H H2:Hp) (ps:List Str) (ws:List A9) (B RA SA:Addr) (ds:List Addr) (nvR nvS:List (Str × V)) (S R:Str->Int × Str->Prop):Prop where
 same:Aq H H2
 nr:NR H2 B ps ds (LF ws)
 nbv:Te H2 ps ds (BV ws)
 dR:H2 RA=some (.dK (sK nvR))
 dS:H2 SA=some (.dK (sK nvS))
 pR:NQ H2 nvR R
 pS:NQ H2 nvS S
 subR:∀ y ∈ nvR.map (·.1),y ∈ ps
 subS:∀ y ∈ nvS.map (·.1),y ∈ ps
section
variable {H H2 H3:Hp} {ps:List Str} {ws:List A9} {B RA SA:Addr} {ds:List Addr} {nvR nvS:List (Str × V)} {S R:Str->Int × Str->Prop}
theorem NI.grow (h:NI H H2 ps ws B RA SA ds nvR nvS S R) (s:Aq H2 H3):NI H H3 ps ws B RA SA ds nvR nvS S R:=
 ⟨h.same.trans s,h.nr.same s,h.nbv.of h.nr fun d _ nv z=>by rcases z with a | ⟨o,a⟩; exact .inl (s _ _ a); exact .inr ⟨o,s _ _ a⟩,s _ _ h.dR,s _ _ h.dS,h.pR.same fun b xs z=>s _ _ z,h.pS.same fun b xs z=>s _ _ z,h.subR,h.subS⟩
theorem NI.lenS (h:NI H H2 ps ws B RA SA ds nvR nvS S R):nvS.length<=ps.length:=by
 have:=Cg h.pS.1 h.subS;rwa [eU] at this
theorem NI.lenR (h:NI H H2 ps ws B RA SA ds nvR nvS S R):nvR.length<=ps.length:=by
 have:=Cg h.pR.1 h.subR;rwa [eU] at this
theorem NI.inS (h:NI H H2 ps ws B RA SA ds nvR nvS S R) {y:Str}:y ∈ nvS.map (·.1) ↔ ∃ q,S y q:=by
 constructor
 ·intro hy;obtain ⟨⟨z,v⟩,a,b⟩:=fi.mp hy;have b':z=y:=b;subst b';obtain ⟨p,_,c⟩:=h.pS.2.1 z v a;exact ⟨p,c⟩
 ·rintro ⟨q,hq⟩;obtain ⟨v,a,_⟩:=h.pS.2.2 y q hq;exact fi.mpr ⟨_,a,rfl⟩
theorem NI.inR (h:NI H H2 ps ws B RA SA ds nvR nvS S R) {y:Str}:y ∈ nvR.map (·.1) ↔ ∃ q,R y q:=by
 constructor
 ·intro hy;obtain ⟨⟨z,v⟩,a,b⟩:=fi.mp hy;have b':z=y:=b;subst b';obtain ⟨p,_,c⟩:=h.pR.2.1 z v a;exact ⟨p,c⟩
 ·rintro ⟨q,hq⟩;obtain ⟨v,a,_⟩:=h.pR.2.2 y q hq;exact fi.mpr ⟨_,a,rfl⟩
theorem NI.setR (h:NI H H2 ps ws B RA SA ds nvR nvS S R) (aR:RA ∉ ds/\RA ≠ B/\RA ≠ SA/\H RA=none) {Ef:List (Str × V)} {R':Str->Int × Str->Prop} (p':NQ H2 Ef R') (sub:∀ y ∈ Ef.map (·.1),y ∈ ps):NI H (upd H2 RA (.dK (sK Ef))) ps ws B RA SA ds Ef nvS S R':=by
 have tu:∀ b xs,H2 b=some (.tup xs)->(upd H2 RA (.dK (sK Ef))) b=some (.tup xs):=fun b xs z=>by
  rw [Ae (C0 z h.dR (by intro z; cases z))]; exact z
 exact ⟨fun b o z=>by rw [Ae (Ah z aR.2.2.2)]; exact h.same _ _ z,h.nr.other aR.1 aR.2.1,h.nbv.of h.nr fun d hd nv z=>z.ne (fun e=>aR.1 (by rw [<-e]; exact hd)),Ab,by rw [Ae (Ne.symm aR.2.2.1)]; exact h.dS,p'.same tu,h.pS.same tu,sub,h.subS⟩
theorem NI.setS (h:NI H H2 ps ws B RA SA ds nvR nvS S R) (aS:SA ∉ ds/\SA ≠ B/\SA ≠ RA/\H SA=none) {Ef:List (Str × V)} {S':Str->Int × Str->Prop} (p':NQ H2 Ef S') (sub:∀ y ∈ Ef.map (·.1),y ∈ ps):NI H (upd H2 SA (.dK (sK Ef))) ps ws B RA SA ds nvR Ef S' R:=by
 have tu:∀ b xs,H2 b=some (.tup xs)->(upd H2 SA (.dK (sK Ef))) b=some (.tup xs):=fun b xs z=>by
  rw [Ae (C0 z h.dS (by intro z; cases z))]; exact z
 exact ⟨fun b o z=>by rw [Ae (Ah z aS.2.2.2)]; exact h.same _ _ z,h.nr.other aS.1 aS.2.1,h.nbv.of h.nr fun d hd nv z=>z.ne (fun e=>aS.1 (by rw [<-e]; exact hd)),by rw [Ae (Ne.symm aS.2.2.1)]; exact h.dR,Ab,h.pR.same tu,p'.same tu,h.subR,sub⟩
theorem NI.frz (h:NI H H2 ps ws B RA SA ds nvR nvS S R) (aR:RA ∉ ds) (aS:SA ∉ ds) (fr:∀ d ∈ ds,H d=none) {i:Nat} {p:Str} {d:Addr} (e1:ps[i]? = some p) (e2:ds[i]? = some d) {nv:List (Str × V)} {o:Obj} (f:E8 H2 d (sK nv) o H3) (hP:∀ y,y ∈ nv.map (·.1) ↔ LF ws p y):NI H H3 ps ws B RA SA ds nvR nvS S R:=by
 have dm:d ∈ ds:=eW e2;have tu:∀ b xs,H2 b=some (.tup xs)->H3 b=some (.tup xs):=fun b xs z=>by
  rw [f.ne (by
   rintro rfl;rcases f with ⟨g,_⟩ | ⟨g,_⟩ <;> (rw [z] at g; cases g))]
  exact z
 refine ⟨fun b u z=>by rw [f.ne (Ah z (fr d dm))]; exact h.same _ _ z,h.nr.freeze e1 e2 f hP,h.nbv.of h.nr fun c hc nw z=>?_,by rw [f.ne (fun z=>aR (by rw [z]; exact dm))]; exact h.dR,by rw [f.ne (fun z=>aS (by rw [z]; exact dm))]; exact h.dS,h.pR.same tu,h.pS.same tu,h.subR,h.subS⟩;by_cases hcd:c=d
 ·subst hcd;rcases f with ⟨g,e⟩ | ⟨g,e⟩
  ·have:=Rd.inj z (.inl g);subst this;exact .inr ⟨o,by rw [e]; exact Ab⟩
  ·rw [e]; exact z
 ·exact z.fz f hcd
end
theorem EW:entryFor table "dict.update.loop"=some Builtin.«dict.update.loop»:=entryFor_of_tree (by kernel_rfl)
theorem Ct:plainId "dict.update.loop"=true:=by decide +kernel
def VL (g0:Heap) (v:Value) (p:Str × V):Prop:=∃ a t u,v=.ref a/\IsTup g0 a #[.str p.1 t,u]/\AD p.2 u
section
variable {prog:Program} {w:World} {A:Around} {R:Result->Shared->Prop} {g0:Heap} {D it l:Addr} {vs:List Value} {ps:List (Str × V)}
end
section
variable {prog:Program} {w:World} {A:Around} {E:Value->Shared->Prop} {s:Shared}
end
theorem Mv:∀ (b a:List (Str × V)),((a ++ b).map (·.1)).Nodup->IW (sK a) (sK b)=sK (a ++ b)
 | [],a,_=>by rw [iG]; rfl
 | q :: b,a,hn=>by
  have nq:q.1 ∉ a.map (·.1):=by
   rw [fg,fU] at hn;intro hm;exact (iO.mp hn).2.2 q.1 hm q.1 fX rfl
  show IW (BJ (sK a) (Sum.inr q.1) q.2) (sK b)=_
  rw [DN nq];have:=Mv b (a ++ [(q.1,q.2)]) (by rw [h9]; exact hn);rw [this,h9];rfl
theorem Rk:∀ {ws:List A9},(ws.Pairwise fun u v=>¬ Jy u v)->∀ {u v:A9},u ∈ ws->v ∈ ws->Jy u v->u=v
 | [],_,u,v,hu,_,_=>nomatch hu
 | a :: ws,h,u,v,hu,hv,al=>by
  obtain ⟨h1,h2⟩:=gQ.mp h;rcases eX.mp hu with e1 | aU
  ·rcases eX.mp hv with e2 | Yg
   ·rw [e1,e2]
   ·exact absurd (by rw [<-e1]; exact al) (h1 v Yg)
  ·rcases eX.mp hv with e2 | Yg
   ·refine absurd ?_ (h1 u aU);rw [<-e2];rcases al with ⟨a1,a2⟩ | ⟨a1,a2⟩
    ·exact .inl ⟨a1.symm,a2.symm⟩
    ·exact .inr ⟨a2.symm,a1.symm⟩
   ·exact Rk h2 aU Yg al
theorem Qn {ws:List A9} (h:ws.Pairwise fun u v=>¬ Jy u v) {x y:Str} {l l':Int} (e:BV ws x y l) (e':BV ws x y l'):l=l':=by
 obtain ⟨u,hu,a,rfl⟩:=e;obtain ⟨v,hv,b,rfl⟩:=e';have:u=v:=Rk h hu hv (by
  rcases a with ⟨a1,a2⟩ | ⟨a1,a2⟩ <;> rcases b with ⟨b1,b2⟩ | ⟨b1,b2⟩
  ·exact .inl ⟨a1.trans b1.symm,a2.trans b2.symm⟩
  ·exact .inr ⟨a1.trans b2.symm,a2.trans b1.symm⟩
  ·exact .inr ⟨a1.trans b2.symm,a2.trans b1.symm⟩
  ·exact .inl ⟨a1.trans b1.symm,a2.trans b2.symm⟩)
 rw [this]
theorem Kw {ws Hf:List A9} (p:Hf.Perm (ws.map Ez)) (x y:Str) (l:Int):BV Hf x y l ↔ BV ws x y l:=by
 constructor
 ·rintro ⟨u,hu,h,e⟩;obtain ⟨v,hv,rfl⟩:=fi.mp (p.mem_iff.mp hu);refine ⟨v,hv,?_,e⟩;rcases C5 v with ⟨e1,e2⟩ | ⟨e1,e2⟩
  ·rw [e1,e2] at h; exact h
  ·rw [e1,e2] at h;rcases h with ⟨a,b⟩ | ⟨a,b⟩
   ·exact .inr ⟨b,a⟩
   ·exact .inl ⟨b,a⟩
 ·rintro ⟨v,hv,h,e⟩;refine ⟨Ez v,p.mem_iff.mpr (fi.mpr ⟨v,hv,rfl⟩),?_,e⟩;rcases C5 v with ⟨e1,e2⟩ | ⟨e1,e2⟩
  ·rw [e1,e2]; exact h
  ·rw [e1,e2];rcases h with ⟨a,b⟩ | ⟨a,b⟩
   ·exact .inr ⟨b,a⟩
   ·exact .inl ⟨b,a⟩
theorem QF {ws Hf:List A9} (h:∀ x y l,BV Hf x y l ↔ BV ws x y l) {x y:Str} {m:Int}:Bq Hf x y m ↔ Bq ws x y m:=by
 constructor
 ·intro g;induction g with
  | nil x=>exact .nil x
  | cons e _ ih=>exact .cons ((h _ _ _).mp e) ih
 ·intro g;induction g with
  | nil x=>exact .nil x
  | cons e _ ih=>exact .cons ((h _ _ _).mpr e) ih
def LD (ws:List A9) (x y:Str) (n:Int):Prop:=Bq ws x y n/\∀ m,Bq ws x y m->n<=m
theorem NV.dst {ws:List A9} {x y:Str} {p:Int × Str} (h:NV ws [x] y p):p.2=x/\LD ws x y p.1:=by
 have e:p.2=x:=by simpa using h.1.1
 refine ⟨e,by rw [<-e]; exact h.1.2,fun m g=>(h.2 x (by simp) m g).fst⟩
theorem LD.uniq {ws:List A9} {x y:Str} {n m:Int} (h:LD ws x y n) (g:LD ws x y m):n=m:=Int.le_antisymm (h.2 m g.1) (g.2 n h.1)
theorem LD.symm {ws:List A9} {x y:Str} {n:Int} (h:LD ws x y n):LD ws y x n:=⟨h.1.symm,fun m g=>h.2 m g.symm⟩
inductive WI (ws:List A9) (I:Str->Prop):Str->Str->Int->Prop
 | edge {x y:Str} {l:Int}:BV ws x y l->WI ws I x y l
 | cons {x y z:Str} {l m:Int}:BV ws x y l->I y->WI ws I y z m->WI ws I x z (l + m)
theorem WI.pos {ws:List A9} (hp:∀ u ∈ ws,1<=u.2.2) {I:Str->Prop} {x y:Str} {m:Int} (h:WI ws I x y m):0<=m:=by
 induction h with
 | edge e=>obtain ⟨u,hu,_,rfl⟩:=e; have:=hp u hu; lia
 | cons e _ _ ih=>obtain ⟨u,hu,_,rfl⟩:=e; have:=hp u hu; lia
theorem WI.ends {ws:List A9} {xs:List Str} (he:∀ u ∈ ws,u.1 ∈ xs/\u.2.1 ∈ xs) {x y:Str} {l:Int} (e:BV ws x y l):x ∈ xs/\y ∈ xs:=by
 obtain ⟨u,hu,h,_⟩:=e;obtain ⟨a,b⟩:=he u hu;rcases h with ⟨rfl,rfl⟩ | ⟨rfl,rfl⟩
 ·exact ⟨a,b⟩
 ·exact ⟨b,a⟩
theorem WI.split {ws:List A9} (hp:∀ u ∈ ws,1<=u.2.2) {I J:Str->Prop} {k:Str} (hJ:∀ z,J z->I z\/z=k) {x y:Str} {m:Int} (h:WI ws J x y m):WI ws I x y m\/∃ m1 m2,WI ws I x k m1/\WI ws I k y m2/\m1 + m2<=m:=by
 induction h with
 | edge e=>exact .inl (.edge e)
 | @cons x a y l m e ha g ih=>
  by_cases hk:a=k
  ·subst hk;rcases ih with h | ⟨m1,m2,h1,h2,h3⟩
   ·exact .inr ⟨l,m,.edge e,h,gJ _⟩
   ·have:=h1.pos hp;exact .inr ⟨l,m2,.edge e,h2,by lia⟩
  ·have hI:I a:=(hJ a ha).resolve_right hk;rcases ih with h | ⟨m1,m2,h1,h2,h3⟩
   ·exact .inl (.cons e hI h)
   ·exact .inr ⟨l + m1,m2,.cons e hI h1,h2,by lia⟩
theorem Bq.wi {ws:List A9} {xs:List Str} (he:∀ u ∈ ws,u.1 ∈ xs/\u.2.1 ∈ xs) {x y:Str} {m:Int} (h:Bq ws x y m):(x=y/\m=0)\/WI ws (· ∈ xs) x y m:=by
 induction h with
 | nil x=>exact .inl ⟨rfl,rfl⟩
 | @cons x a y l m e g ih=>
  rcases ih with ⟨rfl,rfl⟩ | h
  ·exact .inr (by rw [jU]; exact .edge e)
  ·exact .inr (.cons e (WI.ends he e).2 h)
structure FW (ws:List A9) (xs:List Str) (t:Nat) (M:Str->Str->Option Int):Prop where
 sound:∀ x y n,M x y=some n->Bq ws x y n
 comp:∀ x y m,WI ws (· ∈ xs.take t) x y m->∃ n,M x y=some n/\n<=m
 diag:∀ x ∈ xs,∃ n,M x x=some n/\n<=0
def Gp (M0 M:Str->Str->Option Int):Prop:=∀ x y n,M0 x y=some n->∃ n',M x y=some n'/\n'<=n
theorem Gp.refl (M:Str->Str->Option Int):Gp M M:=fun _ _ n h=>⟨n,h,gJ _⟩
theorem Gp.trans {M0 M1 M2:Str->Str->Option Int} (h:Gp M0 M1) (g:Gp M1 M2):Gp M0 M2:=fun x y n e=>by
 obtain ⟨n1,e1,l1⟩:=h x y n e;obtain ⟨n2,e2,l2⟩:=g x y n1 e1;exact ⟨n2,e2,by lia⟩
theorem FW.next {ws:List A9} (hp:∀ u ∈ ws,1<=u.2.2) {xs:List Str} (he:∀ u ∈ ws,u.1 ∈ xs/\u.2.1 ∈ xs) {t:Nat} {k:Str} (hk:xs[t]? = some k) {M0 M:Str->Str->Option Int} (h:FW ws xs t M0) (mo:Gp M0 M) (so:∀ x y n,M x y=some n->Bq ws x y n)
  (via:∀ x ∈ xs,∀ y ∈ xs,∀ n1 n2,M0 x k=some n1->M0 k y=some n2->∃ n,M x y=some n/\n<=n1 + n2):FW ws xs (t + 1) M:=by
 refine ⟨so,fun x y m g=>?_,fun x hx=>?_⟩
 ·have ex:x ∈ xs/\y ∈ xs:=by
   clear mo so via h;induction g with
   | edge e=>exact WI.ends he e
   | cons e _ _ ih=>exact ⟨(WI.ends he e).1,ih.2⟩
  rcases g.split hp (I:=(· ∈ xs.take t)) (k:=k) (fun z hz=>by
   rw [fQ,hk] at hz;rcases fq.mp hz with hz | hz
   ·exact .inl hz
   ·exact .inr (by simpa using hz)) with g | ⟨m1,m2,g1,g2,le⟩
  ·obtain ⟨n,e,l⟩:=h.comp x y m g;obtain ⟨n',e',l'⟩:=mo x y n e;exact ⟨n',e',by lia⟩
  ·obtain ⟨n1,e1,l1⟩:=h.comp x k m1 g1;obtain ⟨n2,e2,l2⟩:=h.comp k y m2 g2;obtain ⟨n,e,l⟩:=via x ex.1 y ex.2 n1 n2 e1 e2;exact ⟨n,e,by lia⟩
 ·obtain ⟨n,e,l⟩:=h.diag x hx;obtain ⟨n',e',l'⟩:=mo x x n e;exact ⟨n',e',by lia⟩
def MD (H:Hp) (A:Addr) (M:Str->Str->Option Int) (c:Nat):Prop:=∃ kvs:List (List Bh × V),H A=some (.dT kvs)/\kvs.length<=c/\∀ x y,Bz kvs [Sum.inr x,Sum.inr y]=(M x y).map V.int
theorem MD.same {H H':Hp} {A:Addr} {M:Str->Str->Option Int} {c:Nat} (h:MD H A M c) (s:Aq H H'):MD H' A M c:=let ⟨kvs,a,b,d⟩:=h; ⟨kvs,s _ _ a,b,d⟩
theorem MD.get {H:Hp} {A t:Addr} {M:Str->Str->Option Int} {c:Nat} (h:MD H A M c) {x y:Str} (ht:H t=some (.tup [.str x,.str y])):Cp H A (.ref t) ((M x y).map V.int):=by
 obtain ⟨kvs,a,_,d⟩:=h;rw [<-d x y];exact Cp.t (k:=[Sum.inr x,Sum.inr y]) a ht
def KN (M:Str->Str->Option Int) (x y:Str) (n:Int):Str->Str->Option Int:=fun a b=>if a=x/\b=y then some n else M a b
def QX (K:eV):Sp:=fun vs H Q _=>∃ (q:Addr) (ps:List Str) (ws:List A9) (r x:Str),vs=[.ref q,.str x]/\Ju H q ps ws r/\(∀ u ∈ ws,1<=u.2.2)/\(∀ x y l l',BV ws x y l->BV ws x y l'->l=l')/\x ∈ ps /\
 ∀ (H':Hp) (B:Addr) (nv:List (Str × V)),Aq H H'->H B=none->H' B=some (.dK (sK nv))->nv.map (·.1)=ps->(∀ y v,(y,v) ∈ nv->∃ n,v=.int n/\LD ws x y n)->Q (.ref B) H'
end L2
namespace L2
open PySem PySem.Spec PySem.W PyProof.Rows
def wk (u:A9):List J2:=[.s u.1,.s u.2.1,.i u.2.2]
theorem QH {H:Hp} {v:V} {u:A9} (h:F0 H v (Fj u)):NJ H (fun i=>decide (i < 2)) v/\JI H v=wk u:=by
 obtain ⟨w,t,e1,rfl,ht⟩:=Gg (i:=0) (ws:=[u]) (A2.cons h .nil) rfl;cases e1
 exists ⟨t,_,rfl,ht,by simp,fun i y e=>?_⟩
 ·unfold K7;match i,e with
  | 0,e=>cases e; simp
  | 1,e=>cases e; simp
  | 2,e=>cases e; simp
  | n + 3,e=>simp at e
 ·show (match H t with | some (.tup ys)=>ys.map LL | _=>[])=_
  rw [ht];rfl
theorem JU {H:Hp}:∀ {vs:List V} {ws:List A9},A2 H vs (ws.map Fj)->(∀ v ∈ vs,NJ H (fun i=>decide (i < 2)) v)/\vs.map (JI H)=ws.map wk
 | _,[],.nil=>⟨(fun v hv=>nomatch hv),rfl⟩
 | _,u :: ws,.cons h r=>by
  obtain ⟨a1,a2⟩:=QH h;obtain ⟨b1,b2⟩:=JU r;refine ⟨fun v hv=>?_,by rw [fU,fU,a2,b2]⟩;rcases eX.mp hv with rfl | hv
  ·exact a1
  ·exact b1 v hv
theorem Ih:∀ {ns:List Int} {us:List Value},AB (ns.map V.int) us->∀ (i:Nat) (v:Value),us[i]? = some v->∃ n t,ns[i]? = some n/\v=Value.int n t
 | [],_,.nil,i,v,e=>by simp at e
 | n :: ns,_,.cons r1 r2,0,v,e=>by
  obtain ⟨t,rfl⟩:=r1;simp only [gF,fV.injEq] at e;exact ⟨n,t,rfl,e.symm⟩
 | n :: ns,_,.cons r1 r2,i + 1,v,e=>by simpa using Ih r2 i v (by simpa using e)
end L2
namespace L2
open PySem PySem.Spec PyProof.Rows
def AK (a b c:Int):List V:=[.int a,.int b,.int c]
theorem KY (a b c:Int):Gu (AK a b c) 0=some (.int a):=rfl
theorem Wz (a b c:Int):Gu (AK a b c) 1=some (.int b):=rfl
theorem Nq (a b c:Int):Gu (AK a b c) 2=some (.int c):=rfl
def AG (H:Hp) (p:Addr):Prop:=∃ a b c:Int,H p=some (.lst (AK a b c))
theorem AG.set {H:Hp} {p:Addr} (a b c:Int):AG (upd H p (.lst (AK a b c))) p:=⟨a,b,c,Ab⟩
theorem AG.other {H:Hp} {p D:Addr} {o:HO} (h:AG H p) (ne:D ≠ p):AG (upd H D o) p:=by
 obtain ⟨a,b,c,e⟩:=h;exact ⟨a,b,c,by rw [Ae ne.symm]; exact e⟩
theorem AG.ne {H:Hp} {p q:Addr} (h:AG H p) (e:H q=none):q ≠ p:=by
 obtain ⟨a,b,c,h⟩:=h;intro z; subst z; rw [h] at e; cases e
theorem LN:∀ {ss:List Str} {us:List Value},AB (ss.map V.str) us->StrsAre us ss
 | [],_,.nil=>.nil
 | _ :: _,_,.cons r q=>by
  obtain ⟨t,rfl⟩:=r;exact .cons _ t (LN q)
theorem Ue {X:Cx}:MtM X "str.join" (fun x vs H Q=>∃ (z:Str) (a:Addr) (ss:List Str),x=.str z/\vs=[.ref a]/\H a=some (.lst (ss.map V.str))/\z.length<=16/\(ss.map (·.length)).sum + ss.length<=1048576/\Q (.str (Txt.join z ss)) H):=by
 intro pins s σ H x vs v us Q I rx rv h;obtain ⟨z,a,ss,rfl,rfl,hH,hz,hw,q⟩:=h;obtain ⟨t,rfl⟩:=rx;obtain ⟨u,rfl,ru⟩:=rv.one;cases ru
 obtain ⟨_,Ar,n,r,_,e⟩:=I.lstM hH;refine join_listW (ys:=ss) ⟨_,e,rfl,n,rfl⟩ (by rw [List.toList_toArray]; exact LN r) hz hw fun t' k=>?_
 exact ⟨.str (Txt.join z ss),H,I.tok k,⟨t',rfl⟩,q⟩
theorem Mw (ss:List Str):(Txt.join (Str.ofString "") ss).cps.toList=(ss.map fun s=>s.cps.toList).flatten:=by
 unfold Txt.join;rw [PySem.StrLaws.glued_eq_join];induction ss with
 | nil=>rfl
 | cons x r ih=>
  cases r with
  | nil=>
   show x.cps.toList=_
   simp
  | cons y r=>
   have e:Str.join (Str.ofString "") (x :: y :: r)=x ++ Str.ofString "" ++ Str.join (Str.ofString "") (y :: r):=rfl;rw [e,fU,kL,<-ih];show ((x.cps ++ #[]) ++ (Str.join (Str.ofString "") (y :: r)).cps).toList=_
   simp
theorem RY {ss:List Str} (h:∀ s ∈ ss,s.length=1/\UD s):UD (Txt.join (Str.ofString "") ss)/\(Txt.join (Str.ofString "") ss).length=ss.length/\(ss.map (·.length)).sum=ss.length:=by
 have e:∀ l:List Str,(∀ s ∈ l,s.length=1/\UD s)->((l.map fun s=>s.cps.toList).flatten).length=l.length/\(l.map (·.length)).sum=l.length:=by
  intro l;induction l with
  | nil=>intro _; exact ⟨rfl,rfl⟩
  | cons x r ih=>
   intro h;obtain ⟨i1,i2⟩:=ih fun s hs=>h s (fK _ hs)
   have hx:x.cps.size=1:=(h x (fX ..)).1;constructor
   ·rw [fU,kL,eY,i1,gg,hx,gH];lia
   ·rw [fU,jL,i2,gH];show x.cps.size + r.length=r.length + 1
    lia
 refine ⟨fun c hc=>?_,?_,(e ss h).2⟩
 ·rw [Mw] at hc;obtain ⟨l,hl,hcl⟩:=List.mem_flatten.mp hc;obtain ⟨s,hs,rfl⟩:=fi.mp hl;exact (h s hs).2 c hcl
 ·show (Txt.join (Str.ofString "") ss).cps.size=_
  rw [<-gg,Mw];exact (e ss h).1
theorem Ms {xs:List Str} {hd:List Nat} {f:Nat->List Nat} (h:∀ i x,xs[i]? = some x->∃ tl,x.cps.toList=hd ++ (f i ++ tl)) (hf:∀ i j,i < j->j < xs.length->∀ tl VU,f i ++ tl ≠ f j ++ VU):xs.Nodup:=by
 refine h8.mpr fun i j hi hj hij e=>?_
 obtain ⟨tl,h1⟩:=h i _ (eR hi);obtain ⟨VU,h2⟩:=h j _ (eR hj);rw [e,h2] at h1;exact hf i j hij hj tl VU (List.append_cancel_left h1).symm
def PQ (n:Nat) (st sp:Int) (k:Nat):List Nat:=if 26 < n then [97 + ((st + sp * k) % 26).toNat,97 + k / 26] else [97 + ((st + sp * k) % 26).toNat]
theorem WD {n:Nat} {st sp:Int} (hn:n<=52) (hs:sp ∈ ([1,3,5,7,9,11,15,17]:List Int)) {i j:Nat} (hij:i < j) (hj:j < n) (tl VU:List Nat):PQ n st sp i ++ tl ≠ PQ n st sp j ++ VU:=by
 have key:((st + sp * i) % 26).toNat=((st + sp * j) % 26).toNat->(j - i) % 26=0:=by
  intro e;have e2:(st + sp * i) % 26=(st + sp * j) % 26:=by
   have a1:=i4 (st + sp * i) (show (26:Int) ≠ 0 by decide);have a2:=i4 (st + sp * j) (show (26:Int) ≠ 0 by decide);lia
  have g:Int.gcd 26 sp=1:=by
   simp only [eX,ff,or_false] at hs;rcases hs with rfl | rfl | rfl | rfl | rfl | rfl | rfl | rfl <;> rfl
  have d:(26:Int) ∣ sp * ((j:Int) - i):=by
   refine Int.dvd_of_emod_eq_zero ?_;have e3:sp * ((j:Int) - i)=(st + sp * j) - (st + sp * i):=by rw [Int.mul_sub]; lia
   rw [e3,Int.sub_emod,e2,Int.sub_self];rfl
  have d2:(26:Int) ∣ (j:Int) - i:=by
   rw [Int.mul_comm] at d;have e4:Nat.gcd 26 sp.natAbs=1:=g;have e5:(26:Nat) ∣ ((j:Int) - i).natAbs * sp.natAbs:=by rw [<-Int.natAbs_mul]; exact kc.mpr d
   exact kc.mp (Nat.Coprime.dvd_of_dvd_mul_right e4 e5)
  lia
 intro e;unfold PQ at e;by_cases h:26 < n
 ·rw [if_pos h,if_pos h] at e;simp only [j9,kR,jm.injEq] at e;have:=key (by lia);lia
 ·rw [if_neg h,if_neg h] at e;simp only [j9,kR,jm.injEq] at e;have:=key (by lia);lia
theorem E3 {i:Int} (h0:0<=i) (h1:i < 26):Gu Ge.cps.toList i=some (97 + i.toNat):=by
 obtain ⟨n,rfl⟩:∃ n:Nat,i=(n:Int):=⟨i.toNat,by lia⟩
 have:∀ m:Fin 26,Gu Ge.cps.toList (m.val:Int)=some (97 + ((m.val:Int)).toNat):=by decide +kernel
 exact this ⟨n,by lia⟩
theorem len1 {α:Type} {l:List α} (h:l.length=1):∃ a,l=[a]:=List.length_eq_one_iff.mp h
theorem lenS {α:Type} {n:Nat} {l:List α} (h:l.length=n + 1):∃ a r,l=a :: r/\r.length=n:=by
 cases l with
 | nil=>cases h
 | cons a r=>exact ⟨a,r,rfl,Nat.succ.inj h⟩
theorem len2 {α:Type} {l:List α} (h:l.length=2):∃ a b,l=[a,b]:=by
 obtain ⟨a,r,rfl,hr⟩:=lenS h;obtain ⟨b,rfl⟩:=len1 hr;exact ⟨a,b,rfl⟩
theorem len3 {α:Type} {l:List α} (h:l.length=3):∃ a b c,l=[a,b,c]:=by
 obtain ⟨a,r,rfl,hr⟩:=lenS h;obtain ⟨b,c,rfl⟩:=len2 hr;exact ⟨a,b,c,rfl⟩
theorem len4 {α:Type} {l:List α} (h:l.length=4):∃ a b c d,l=[a,b,c,d]:=by
 obtain ⟨a,r,rfl,hr⟩:=lenS h;obtain ⟨b,c,d,rfl⟩:=len3 hr;exact ⟨a,b,c,d,rfl⟩
theorem len5 {α:Type} {l:List α} (h:l.length=5):∃ a b c d e,l=[a,b,c,d,e]:=by
 obtain ⟨a,r,rfl,hr⟩:=lenS h;obtain ⟨b,c,d,e,rfl⟩:=len4 hr;exact ⟨a,b,c,d,e,rfl⟩
section
variable {K:Type} [DecidableEq K] [BEq K] [LawfulBEq K]
def met (val:Nat->K) (i:Nat):List K:=((gR i).map val).foldl step_dedup []
theorem IV (val:Nat->K) (i:Nat):met val (i + 1)=step_dedup (met val i) (val i):=by
 unfold met; rw [List.range_succ,fg,List.foldl_append]; rfl
theorem Pl (σ:List K) (v k:K):(step_dedup σ v).any (· == k)=(σ.any (· == k) || decide (k=v)):=by
 unfold step_dedup;by_cases h:σ.any (· == v)=true
 ·rw [if_pos h];by_cases e:k=v
  ·subst e; rw [h]; simp
  ·simp [e]
 ·rw [if_neg h,List.any_append];by_cases e:k=v
  ·subst e; simp
  ·have hb:(v == k)=false:=by simpa [beq_iff_eq] using (fun h':v=k=>e h'.symm)
   simp [hb,e]
theorem FN (σ:List K) (v:K):(step_dedup σ v).length=if σ.any (· == v) then σ.length else σ.length + 1:=by
 unfold step_dedup; split <;> simp
theorem DO (val:Nat->K):∀ i,(met val i).length<=i
 | 0=>fc _
 | i + 1=>by
  rw [IV,FN];have ih:=DO val i;split <;> lia
end
section
variable {prog:Program} {w:World} {A:Around} {R:Result->Shared->Prop} {I:Addr} {fp wr:List Addr} {G:Array GenState->Array GenState->Prop} {n:Nat} {P:Nat->Value->Prop} {St:Nat->Shared->Prop}
variable {K:Type} [DecidableEq K] [BEq K] [LawfulBEq K] {knd:KeyKind prog w K}
end
section
variable {prog:Program} {w:World} {A:Around} {E:Value->Shared->Prop} {s:Shared}
variable {K:Type} [DecidableEq K] [BEq K] [LawfulBEq K] {knd:KeyKind prog w K}
open PySem.F in
end
theorem Mu (ss:List Str):met (fun i=>ss.getD i (Str.ofString "")) ss.length=ss.foldl step_dedup []:=by
 unfold met;congr 1;refine jA (by simp) fun i h1 h2=>?_
 simp [fS,eR h2]
theorem RX {mask finger moves:Nat} {led plain:Bool} {hs:Array Int} {t:SetTable} {o:Array Nat} (h:SetTable.laid mask finger moves led plain hs=some (t,o)):t.led=led/\t.plain=plain:=by
 unfold SetTable.laid at h;cases e:SetTable.layClean mask hs with
 | none=>rw [e] at h; cases h
 | some ow=>
  rw [e] at h;injection h with h;injection h with h1 h2;subst h1;exact ⟨rfl,rfl⟩
theorem Pz (t:SetTable) (es:Array (Int × Value)) (wanted:Nat):(relayAll t es wanted).2.1.led=t.led/\(t.plain=false->(relayAll t es wanted).2.1.plain=false):=by
 unfold relayAll;split
 ·rename_i t' order e
  have:=RX e;dsimp only;split
  ·exact ⟨this.1,fun z=>this.2.trans z⟩
  ·exact ⟨rfl,fun _=>rfl⟩
 ·exact ⟨rfl,fun _=>rfl⟩
theorem Ul (t:SetTable) (es:Array (Int × Value)) (h:Int) (x:Value):(layNew t es h x).2.1.led=t.led:=by
 unfold layNew;split
 ·dsimp only;unfold SetTable.orStandIn;split <;> rfl
 ·rfl
section
variable {prog:Program} {w:World} {A:Around} {E:Value->Shared->Prop} {s:Shared}
def Tab (w:World) (es:Array (Int × Value)) (t:SetTable):Prop:=t.led=(!w.params.followText "set-order")/\(0 < es.size->t.plain=false)
def D1 (prog:Program) (w:World) (h:Heap) (a:Addr) (S:Str->Bool) (n:Nat):Prop:=
 ∃ o es ep t,h.get? a=some o/\o.ExactSet/\o.data=.set es ep t/\ElemsOf (PySem.strKind prog w) es.toList/\(∀ k,S k=true ↔ ∃ e ∈ es.toList,(PySem.strKind prog w).is k e.2=true) /\
  es.size < scanBound/\t.fits es.size=true/\es.size=n/\Tab w es t
theorem Rj {a:Addr} {S:Str->Bool} {n:Nat} {k:Str} {tk:Tok} {Q:Bool->Shared->Prop} (hS:D1 prog w s.heap a S n) (room:n + 1 < scanBound)
  (h:∀ h',Heap.SameBut a s.heap h'->D1 prog w h' a (fun k'=>S k' || decide (k'=k)) (if S k then n else n + 1)->Q (!S k) { s with heap:=h' }) :
  wpAny (model prog w) A (setAddHashed a (.str k tk) ((PySem.strKind prog w).hash k)) Q E s:=by
 obtain ⟨o,es,ep,t,ho,ex,hd,el,mem,few,fit,hn,tab⟩:=hS;have is:(PySem.strKind prog w).is k (.str k tk)=true:=by simp [PySem.strKind,Value.isStrOf]
 have sc:(Value.str k tk).scannable=true:=rfl;have Xg:es.size + 1 < scanBound:=by lia
 unfold setAddHashed setAddHashedIn;refine wpAny_holding (wpAny_bind (wpAny_setState_of ho hd fit ?_));dsimp only;rw [if_pos (byScan_of sc few el)];unfold setAddByScan;refine wpAny_bind (wpAny_bind (wpAny_rule (wpAny_bind (wpAny_setScan_of is ho hd fit el ?_))));cases hr:List.findIdx? (fun e=>(PySem.strKind prog w).is k e.2) es.toList with
 | some j=>
  obtain ⟨hj,pj,_⟩:=List.findIdx?_eq_some_iff_getElem.mp hr;have there:S k=true:=(mem k).mpr ⟨es.toList[j],gI hj,pj⟩;refine wpAny_pure (wpAny_pure ?_);have q:=h s.heap (Heap.SameBut.refl a s.heap) ⟨o,es,ep,t,ho,ex,hd,el,fun k'=>?_,few,fit,by rw [there]; exact hn,tab⟩
  ·rw [there] at q; exact q
  ·rw [Bool.or_eq_true,decide_eq_true_eq,<-mem k'];exact ⟨fun z=>z.elim id fun e=>e ▸ there,.inl⟩
 | none=>
  have gone:S k=false:=by
   cases z:S k with
   | false=>rfl
   | true=>
    obtain ⟨e,he,hp⟩:=(mem k).mp z;have:=List.findIdx?_eq_none_iff.mp hr e he;rw [hp] at this;cases this
  dsimp only;have pm:=layNew_perm t es ((PySem.strKind prog w).hash k) (.str k tk);have ft:=layNew_fits t es ((PySem.strKind prog w).hash k) (.str k tk);have ld:=Ul t es ((PySem.strKind prog w).hash k) (.str k tk);generalize layNew t es ((PySem.strKind prog w).hash k) (.str k tk)=L at pm ft ld ⊢;obtain ⟨J0,t1,dum,gv⟩:=L;dsimp only at pm ft ld ⊢;rw [kF] at pm;have el1:=(el.push is sc).perm pm;have YT:=mem_push_iff is mem pm;have z1:J0.size=n + 1:=by rw [<-gg,pm.length_eq,eY,gg,hn]; rfl
  have Xf:J0.size < scanBound:=by lia
  have fin:∀ (QA:Array (Int × Value)) (t2:SetTable) (h':Heap) (o':Obj) (VD:Nat),Heap.SameBut a s.heap h'->h'.get? a=some o'->o'.ExactSet->o'.data=.set QA VD t2->QA.toList.Perm J0.toList->t2.fits QA.size=true->t2.led=t.led->t2.plain=false->Q true { s with heap:=h' }:=by
   intro QA t2 h' o' VD sb g x d p f l pl;have z2:QA.size=n + 1:=by rw [<-z1,<-gg,p.length_eq,gg]
   have q:=h h' sb ⟨o',QA,VD,t2,g,x,d,el1.perm p,fun k'=>(YT k').trans ⟨fun ⟨e,he,r⟩=>⟨e,p.mem_iff.mpr he,r⟩,fun ⟨e,he,r⟩=>⟨e,p.mem_iff.mp he,r⟩⟩,by lia,f,by rw [gone]; exact z2,l.trans tab.1,fun _=>pl⟩;rw [gone] at q;exact q
  have gw:∀ (b:Bool) {AV:Shared} {R:Unit->Shared->Prop},R () AV->wpAny (model prog w) A (match b with | true=>rule "set.scan.the-table-gave-way" | false=>pure ()) R E AV:=fun b AV R q=>by cases b <;> first | exact wpAny_pure q | exact wpAny_rule q
  refine wpAny_bind (gw gv ?_);have main:∀ t2:SetTable,t2.fits J0.size=true->t2.led=t.led->t2.plain=false->wpAny (model prog w) A (do
    storeSet a J0 t2
    if (!dum && t2.tooFull)=true then do
      (match (relayAll t2 J0 (SetTable.grown J0.size)).2.2 with | true=>rule "set.scan.the-table-gave-way" | false=>pure ())
      storeSet a (relayAll t2 J0 (SetTable.grown J0.size)).1 (relayAll t2 J0 (SetTable.grown J0.size)).2.1
      pure (some true)
     else pure (some true)) (fun r s'=>r=some true/\Q true s') E s:=by
   intro t2 f2 l2 p2;refine wpAny_bind (wpAny_storeSet_of ho hd ?_ (fits_of_scanBound Xf));obtain ⟨g1,_⟩:=SetOf_store (knd:=PySem.strKind prog w) ho ex hd el1 YT Xf f2;have sb1:=Heap.SameBut.update s.heap a (Obj.putSet J0 t2);split
   ·have pr:=relayAll_perm t2 J0 (SetTable.grown J0.size);have fr:=relayAll_fits t2 J0 (SetTable.grown J0.size);have lr:=Pz t2 J0 (SetTable.grown J0.size);generalize relayAll t2 J0 (SetTable.grown J0.size)=R at pr fr lr ⊢;obtain ⟨QA,t3,gv2⟩:=R;dsimp only at pr fr lr ⊢;have z2:QA.size=J0.size:=by rw [<-gg,pr.length_eq,gg]
    refine wpAny_bind (gw gv2 ?_);refine wpAny_bind (wpAny_storeSet_of g1 rfl ?_ (fits_of_scanBound (by rw [z2]; exact Xf)));have g2:=gA (Obj.putSet QA t3) g1 (by rw [putSet_of QA t3 rfl]; rfl);rw [putSet_of QA t3 rfl] at g2;exact wpAny_pure ⟨rfl,fin QA t3 _ _ _ (sb1.trans (Heap.SameBut.update _ a _)) g2 ex rfl pr fr (lr.1.trans l2) (lr.2 p2)⟩
   ·exact wpAny_pure ⟨rfl,fin J0 t2 _ _ _ sb1 g1 ex rfl (.refl _) f2 l2 p2⟩
  by_cases pl:t1.plain=true
  ·rw [if_pos pl];refine wpAny_bind ?_;rw [hashByValue_scannable 8 sc];refine wpAny_pure ?_;refine wpAny_mono (main { t1 with plain:=false } (SetTable.fits_plain_off ft) ld rfl) (fun r s' z=>?_) fun _ _ z=>z
   obtain ⟨rfl,z⟩:=z;exact wpAny_pure z
  ·rw [if_neg pl];refine wpAny_bind (wpAny_pure ?_);refine wpAny_mono (main t1 ft ld (by simpa using pl)) (fun r s' z=>?_) fun _ _ z=>z
   obtain ⟨rfl,z⟩:=z;exact wpAny_pure z
end
section
variable {prog:Program} {w:World} {A:Around} {R:Result->Shared->Prop} {I:Addr} {fp wr:List Addr} {G:Array GenState->Array GenState->Prop} {n:Nat} {P:Nat->Value->Prop} {St:Nat->Shared->Prop}
theorem D1.kept {h h':Heap} {a:Addr} {S:Str->Bool} {n:Nat} (hS:D1 prog w h a S n) (k:∀ o,h.get? a=some o->h'.get? a=some o):D1 prog w h' a S n:=by
 obtain ⟨o,es,ep,t,ho,r⟩:=hS;exact ⟨o,es,ep,t,k _ ho,r⟩
theorem D1.as {h:Heap} {a:Addr} {S S':Str->Bool} {n n':Nat} (hS:D1 prog w h a S n) (e:∀ k,S' k=S k) (en:n'=n):D1 prog w h a S' n':=by
 subst en;have:S'=S:=funext e;rw [this];exact hS
theorem Pt (W:WalksS prog w A.in1 I fp wr G n P St) (D:Addr) (hD:D ∉ fp) (val:Nat->Str) (hv:∀ i v,P i v->∃ tk,v=.str (val i) tk) (few:n + 1 < scanBound) :
  ∀ (k i:Nat) (s:Shared),n - i=k->i<=n->St i s->D1 prog w s.heap D (fun k'=>(met val i).any (· == k')) (met val i).length ->
   (∀ s',Moved (D :: wr) G s s'->D1 prog w s'.heap D (fun k'=>(met val n).any (· == k')) (met val n).length->R (.ok (.ret .none)) s') ->
   codeAny (model prog w) A (.builtin "set.update.loop" ⟨[.ref D,.ref I],[]⟩) R s:=by
 have hw:D ∉ wr:=fun z=>hD (W.sub _ z)
 have up:∀ b ∈ wr,b ∈ D :: wr:=fun b z=>fK _ z
 intro k;induction k with
 | zero=>
  intro i s hk hi st hS q;have e:i=n:=by lia
  subst e;refine codeAny_builtin F.entry_set_update_loop ?_;rw [Around.under_plainId F.plain_set_update_loop _];refine wpAny_bind (W.done s _ _ st fun s' m=>?_);exact wpAny_pure (q s' (m.mono up) (hS.kept fun o e=>m.heap D _ hw e))
 | succ k ih=>
  intro i s hk hi st hS q;have lt:i < n:=by lia
  refine codeAny_builtin F.entry_set_update_loop ?_;rw [Around.under_plainId F.plain_set_update_loop _];refine wpAny_bind (W.item i s _ _ lt st fun v s' pv AZ m=>?_);obtain ⟨tk,rfl⟩:=hv i v pv;have OG:=hS.kept (h':=s'.heap) fun o e=>m.heap D _ hw e
  refine wpAny_bind (wpAny_holding ?_);unfold setAdd;refine wpAny_holding ?_;refine wpAny_bind ((PySem.strKind prog w).pyHash (k:=val i) (by simp [PySem.strKind,Value.isStrOf]) ?_);refine Rj (s:={ s' with toks:=s'.toks + 1 }) OG (by have:=DO val i; lia) fun h' sb hS2=>?_
  have nx:D1 prog w h' D (fun k'=>(met val (i + 1)).any (· == k')) (met val (i + 1)).length:=
   hS2.as (fun k'=>by rw [IV,Pl]) (by rw [IV,FN])
  refine wpAny_pure ⟨plainId_quiet F.plain_set_update_loop _,ih (i + 1) _ (by lia) lt (W.frame _ s' _ _ AZ (gy _) fun b z o e=>?_) nx fun Wr m2 hS3=>?_⟩
  ·rw [sb.2 b fun y:b=D=>hD (y ▸ z)];exact e
  ·refine q Wr (Moved.trans W.gtrans ((m.mono up).then_heap (gy _) fun b o z e=>?_) m2) hS3;rw [sb.2 b fun y:b=D=>z (y ▸ fX)];exact e
end
section
variable {prog:Program} {w:World} {A:Around} {E:Value->Shared->Prop} {s:Shared}
theorem Ri (a:Value) {Q₁:Value->Shared->Prop}
  (h:Q₁ (.ref s.heap.objs.size) { s with heap:=s.heap.push { cls:=.type "set",dict:=none,data:=.set #[] 0 (.fresh 0 0 (!w.params.followText "set-order")) } }) :
  codeAny (model prog w) A (.call (.builtin "set.__new__") ⟨[.type "set",a],[]⟩) (wants Q₁ E) s:=by
 refine codeAny_of_tree ?_;show wpAny _ A.in1 (checkBuiltinCall "set.__new__" ⟨[.type "set",a],[]⟩ >>= fun _=>again (.builtin "set.__new__" ⟨[.type "set",a],[]⟩)) _ _ s
 refine wpAny_bind (wpAny_of_eq (F.newCall_set_1 a) (wpAny_pure ⟨plainId_quiet F.plain_set_new _,codeAny_builtin F.entry_set_new ?_⟩));rw [Around.under_plainId F.plain_set_new _];unfold Builtin.«set.__new__» Builtin.Frozenset.newClass;have hsub:=sub_set_self;obtain ⟨hp,g,d,tk,os⟩:=s;dsimp only;wp_walk;refine wpAny_askSetting (wpAny_pure ?_);dsimp only;simp only [newObj];refine wpAny_bind (wpAny_alloc (wpAny_pure ?_));exact wpAny_pure h
theorem Ox {a:Addr} {T:String} {o:Obj} {oI:Obj} {items:Array Value} {val:Nat->Str} {St:Addr->Nat->Heap->Prop} {Q:Value->Shared->Prop} (hh:A.handled=none)
  (ho:s.heap.get? a=some o) (hc:o.cls=.type T) (hnd:(Value.type T == Value.type "dict")=false) (hs1:isSubtype (.type T) (.type "set")=pure false) (Yh:isSubtype (.type T) (.type "frozenset")=pure false)
  (hit:∀ (B:Around) (E':Value->Shared->Prop) (s1:Shared) (Q':Value->Shared->Prop),(∀ b o,s.heap.get? b=some o->s1.heap.get? b=some o)->Q' (.ref s1.heap.objs.size) { s1 with heap:=s1.heap.push oI }->wpAny (model prog w) B (pyIter (.ref a)) Q' E' s1)
  (hW:∀ (B:Around) (I:Addr),B.handled=none->a ≠ I->Walks prog w B I [I,a] [I] items.size (fun i v=>items[i]? = some v) (St I))
  (hst:∀ h:Heap,(∀ b o,s.heap.get? b=some o->h.get? b=some o)->St h.objs.size 0 (h.push oI))
  (hi:∀ (i:Nat) v,items[i]? = some v->∃ tk,v=.str (val i) tk) (few:items.size + 1 < scanBound)
  (h:∀ (h':Heap) (tk:Nat),D1 prog w h' s.heap.objs.size (fun k'=>(met val items.size).any (· == k')) (met val items.size).length ->
   (∀ b o,s.heap.get? b=some o->h'.get? b=some o)->Q (.ref s.heap.objs.size) { s with heap:=h',toks:=tk }) :
  wpAny (model prog w) A (call (.type "set") [.ref a]) Q E s:=by
 obtain ⟨c,tl,hmro⟩:=F.called_set.mro;have hmade:=F.called_set.made;have hsub:=F.called_set.sub;refine wpAny_call (codeAny_of_tree ?_);show wpAny _ _ (callAny (.type "set") _) _ _ _
 refine wpAny_pure ⟨Code.quiet_builtin _ (by decide +kernel),codeAny_builtin F.entry_type_call ?_⟩;rw [Around.under_plain (weight_type_call_type "set" [.ref a] []) rfl];have h1:=F.called_set.notType;have h2:=F.called_set.canCreate;have hct:=F.typeCall_set_1 (.ref a);repeat (any_goals (first | assumption | wp_step))
 obtain ⟨fr,efr⟩:∃ fr:Obj,fr = { cls:=.type "set",dict:=none,data:=.set #[] 0 (.fresh 0 0 (!w.params.followText "set-order")) }:=⟨_,rfl⟩
 refine codeAny_mono (Ri (.ref a) (E:=E) (Q₁:=fun obj AV=>obj=.ref s.heap.objs.size/\AV = { s with heap:=s.heap.push fr }) ⟨rfl,by rw [efr]⟩) fun r AV hr=>?_
 have gS:(s.heap.push fr).get? s.heap.objs.size=some fr:=fe _ (by rw [efr]; rfl);have cf:fr.cls=.type "set":=by rw [efr]
 have new:∀ h5:Heap,h5.get? s.heap.objs.size=some fr->D1 prog w h5 s.heap.objs.size (fun k'=>(met val 0).any (· == k')) (met val 0).length:=fun h5 g=>
  ⟨fr,#[],0,.fresh 0 0 (!w.params.followText "set-order"),g,by rw [efr]; exact ⟨rfl,rfl,rfl⟩,by rw [efr],fun e he=>by simp at he,fun k=>by simp [met],by decide,rfl,rfl,rfl,fun z=>by simp at z⟩
 cases r with
 | error e=>exact hr
 | ok fl=>
  cases fl with
  | ret obj=>
   obtain ⟨rfl,rfl⟩:=hr;have hT:Shared.TypeIs { s with heap:=s.heap.push fr } (.ref s.heap.objs.size) "set":=⟨_,gS,cf⟩
   have hli:=F.called_set.init.lookup;have hbi:=F.called_set.init.bind (.ref s.heap.objs.size);repeat (any_goals (first | assumption | wp_step))
   refine codeAny_mono (codeAny_call_builtin (R:=wants (fun r EB=>r=.none/\∃ h' tk,EB = { s with heap:=h',toks:=tk } /\
     D1 prog w h' s.heap.objs.size (fun k'=>(met val items.size).any (· == k')) (met val items.size).length /\
     (∀ b o,s.heap.get? b=some o->h'.get? b=some o)) E) F.called_set.init.plain F.entry_set_init (check_set_init_1 hT ?_)) fun cg EB Si=>?_
   ·obtain ⟨ocls,odict,odata,oslots⟩:=o;simp only at hc;subst hc;have lt:a < s.heap.objs.size:=fb ho;have Ii:(s.heap.push fr).get? a=some { cls:=.type T,dict:=odict,data:=odata,slots:=oslots }:=eT _ ho;subst efr;unfold Builtin.«set.__init__» noKeywords Builtin.Frozenset.updateFrom;generalize hPI:pyIter=PI;wp_walk;subst hPI;refine hit _ _ _ _ (fun b o e=>eT _ e) ?_;refine wpAny_bind (wpAny_runValue ?_);have ne:a ≠ (s.heap.push { cls:=.type "set",dict:=none,data:=.set #[] 0 (.fresh 0 0 (!w.params.followText "set-order")) }).objs.size:=by
     rw [gh]; exact fj (gf lt)
    have nS:s.heap.objs.size ∉ [(s.heap.push { cls:=.type "set",dict:=none,data:=.set #[] 0 (.fresh 0 0 (!w.params.followText "set-order")) }).objs.size,a]:=by
     rw [gh]; simp only [eX,ff,or_false,not_or];exact ⟨fj (gi _),gB lt⟩
    refine Pt ((hW _ _ (by simp [hh]) ne).toS) s.heap.objs.size nS val hi few (items.size - 0) 0 _ (by lia) (gr _) (hst _ fun b o e=>eT _ e) (new _ (eT _ gS)) ?_;intro s' hm OG;obtain ⟨h',g',d',XJ,cB⟩:=s';have eg:g'=s.gens:=hm.gens;have ed:d'=s.drawn:=hm.drawn;have eo:cB=s.os:=hm.os;subst eg ed eo;refine wpAny_pure ?_;refine wpAny_pure ⟨rfl,h',XJ,rfl,OG,fun b o e=>?_⟩;have hb:=fb e;have Zz:b ≠ s.heap.objs.size:=fj hb;have hb2:b ≠ (s.heap.push { cls:=.type "set",dict:=none,data:=.set #[] 0 (.fresh 0 0 (!w.params.followText "set-order")) }).objs.size:=by
     rw [gh]; exact fj (gf hb)
    exact hm.heap b o (by simp only [eX,ff,or_false,not_or]; exact ⟨Zz,hb2⟩) (eT _ (eT _ e))
   ·cases cg with
    | error e=>exact Si
    | ok ZW=>
     cases ZW with
     | ret r=>
      obtain ⟨rfl,h',tk,rfl,OG,SY⟩:=Si;repeat (any_goals (first | assumption | wp_step))
      exact h _ _ OG SY
     | _=>exact Si.elim
  | _=>exact hr.elim
end
theorem Ji:entryFor table "set.__iter__"=some Builtin.«frozenset.__iter__»:=
 entryFor_alias (id':="frozenset.__iter__") (by kernel_rfl) rfl (by decide +kernel) (by kernel_rfl)
theorem Cj:entryFor table "set_iterator.__next__"=some Builtin.«set_iterator.__next__»:=entryFor_of_tree (by kernel_rfl)
theorem AJ:Slot "set_iterator" "__next__" "set_iterator.__next__":=
 .of (owner:="set_iterator") (n:="__next__") (by rw [typeLookup_type,builtinLookup_eq_fast]; kernel_rfl) (by decide +kernel) (by decide +kernel) (by decide +kernel)
  (by first | exact .inl (by decide +kernel) | exact .inr (by decide +kernel)) (by rw [isSubtype_type]; kernel_rfl)
theorem EI:Slot "set_iterator" "__iter__" "set_iterator.__iter__":=
 .of (owner:="set_iterator") (n:="__iter__") (by rw [typeLookup_type,builtinLookup_eq_fast]; kernel_rfl) (by decide +kernel) (by decide +kernel) (by decide +kernel)
  (by first | exact .inl (by decide +kernel) | exact .inr (by decide +kernel)) (by rw [isSubtype_type]; kernel_rfl)
theorem Cw (a:Value):argsOk "set_iterator.__next__" ⟨[a],[]⟩:=by unfold argsOk; kernel_rfl
theorem Js (a:Value):argsOk "set_iterator.__iter__" ⟨[a],[]⟩:=by unfold argsOk; kernel_rfl
theorem HS:entryFor table "set_iterator.__iter__"=some Builtin.«dict_keyiterator.__iter__»:=
 entryFor_alias (id':="dict_keyiterator.__iter__") (by kernel_rfl) (by first | rfl | decide +kernel | (unfold String.splitOn; simp +decide [String.splitOnAux])) (by decide +kernel) (by kernel_rfl)
section
variable {prog:Program} {w:World} {A:Around} {E:Value->Shared->Prop} {s:Shared}
def D9 (x:Value) (i:Int) (a:Addr) (n ep:Nat):Obj:={ cls:=.type "set_iterator",data:=.fields #[x,.int i 0,.ref a,.int n 0,.int ep 0] }
theorem Ke {r a:Addr} {x:Value} {i:Int} {n ep:Nat} {Q:Value->Shared->Prop} (hr:s.heap.get? r=some (D9 x i a n ep)) (h:Q (.ref r) s):wpAny (model prog w) A (pyIter (.ref r)) Q E s:=by
 have hT:s.TypeIs (.ref r) "set_iterator":=⟨_,hr,rfl⟩
 refine wpAny_pyIter_slot hT EI (wpAny_call_entry EI hT HS ?_ (Js _));show wpAny _ _ (ret (.ref r)) _ _ s
 exact wpAny_pure ⟨_,rfl,"set_iterator",_,hT,AJ.lookup,h⟩
def CG (w:World) (a:Addr) (es:Array (Int × Value)) (ep:Nat) (t:SetTable) (slot given:Nat):Option (Value × Nat):=
 if w.params.followText "set-order"=true then ((pickOrder (w.params.setOrder a ep) es)[given]?).map fun e=>(e.2,slot) else
 match es[SetTable.below t.place slot]?,t.place[SetTable.below t.place slot]? with
  | some (_,x),some j=>some (x,j + 1)
  | _,_=>none
theorem LX {a:Addr} {o:Obj} {es:Array (Int × Value)} {ep:Nat} {t:SetTable} {slot given:Nat} {Q:Option (Value × Nat)->Shared->Prop} (ho:s.heap.get? a=some o) (hd:o.data=.set es ep t) (fit:t.fits es.size=true) (tab:Tab w es t)
  (few:w.params.followText "set-order"=false->es.size<=1) (h:Q (CG w a es ep t slot given) s):wpAny (model prog w) A (setNext a slot given ep) Q E s:=by
 unfold setNext;refine wpAny_bind (wpAny_setState_of ho hd fit ?_);dsimp only;unfold setsByText;refine wpAny_bind (wpAny_bind (wpAny_askSetting (wpAny_pure ?_)));unfold CG at h;show wpAny _ _ (if w.params.followText "set-order"=true then _ else _) _ _ _
 by_cases z:w.params.followText "set-order"=true
 ·rw [if_pos z] at h;rw [if_pos z,if_neg (by simp)];unfold setWalk;refine wpAny_bind (wpAny_bind (wpAny_setState_of ho hd fit ?_));dsimp only;unfold setsByText;refine wpAny_bind (wpAny_bind (wpAny_askSetting (wpAny_pure ?_)));show wpAny _ _ (if w.params.followText "set-order"=true then _ else _) _ _ _
  rw [if_pos z];refine wpAny_bind (wpAny_askSetting (wpAny_pure ?_));exact wpAny_pure h
 ·rw [if_neg z] at h;rw [if_neg z];have z':w.params.followText "set-order"=false:=by simpa using z
  have sm:=few z';show wpAny _ _ (if (!t.plain && decide (es.size > 1))=true then _ else _) _ _ _
  rw [if_neg (by simp; lia)];refine wpAny_bind ?_;show wpAny _ _ (if (!t.led && !es.isEmpty)=true then _ else _) _ _ _
  rw [if_neg (by rw [tab.1,z']; simp)];exact wpAny_pure (wpAny_pure h)
theorem Po {r a:Addr} {slot i:Nat} {o:Obj} {es:Array (Int × Value)} {ep:Nat} {t:SetTable} {x:Value} {nx:Nat} {Q:Option Value->Shared->Prop}
  (hr:s.heap.get? r=some (D9 (.int slot 0) i a es.size ep)) (ho:s.heap.get? a=some o) (hd:o.data=.set es ep t) (fit:t.fits es.size=true) (tab:Tab w es t) (few:w.params.followText "set-order"=false->es.size<=1)
  (hx:CG w a es ep t slot i=some (x,nx))
  (hQ:∀ h',h'.get? r=some (D9 (.int nx 0) (i + 1) a es.size ep)->Heap.SameBut r s.heap h'->Q (some x) { s with heap:=h' }) :
  wpAny (model prog w) A (pyNext (.ref r)) Q E s:=by
 have hT:s.TypeIs (.ref r) "set_iterator":=⟨_,hr,rfl⟩
 obtain ⟨hp,g,d,tk,os⟩:=s;unfold pyNext;refine wpAny_bind (wpAny_attempt (wpAny_callSpecial?_slot (name:=Str.ofString "__next__") hT AJ
  (wpAny_call_entry AJ hT Cj ?_ (Cw _))))
 unfold Builtin.«set_iterator.__next__»;unfold D9 at hr;repeat (any_goals (first | assumption | (refine wpAny_setEntries_of ho hd fit ?_) | (refine LX (given:=i) (slot:=slot) ho hd fit tab few ?_) | wp_step))
 rw [show ((ep:Nat):Int).toNat=ep by simp,hx];repeat (any_goals (first | assumption | wp_step))
 refine ⟨_,rfl,wpAny_pure (hQ _ ?_ ((Heap.SameBut.update ..).trans (Heap.SameBut.update ..)))⟩;have e1:=gA (Obj.mapFields fun fs=>fs.setIfInBounds 0 (rawInt nx)) hr rfl;have e2:=gA (Obj.mapFields fun fs=>fs.setIfInBounds 1 (rawInt (i + 1))) e1 rfl;exact e2
theorem Rf {r a:Addr} {slot i:Nat} {o:Obj} {es:Array (Int × Value)} {ep:Nat} {t:SetTable} {Q:Option Value->Shared->Prop} (hh:A.handled=none)
  (hr:s.heap.get? r=some (D9 (.int slot 0) i a es.size ep)) (ho:s.heap.get? a=some o) (hd:o.data=.set es ep t) (fit:t.fits es.size=true) (tab:Tab w es t) (few:w.params.followText "set-order"=false->es.size<=1)
  (hx:CG w a es ep t slot i=none)
  (hQ:∀ h',Heap.ExtBut r s.heap h'->Q none { s with heap:=h' }) :
  wpAny (model prog w) A (pyNext (.ref r)) Q E s:=by
 have hT:s.TypeIs (.ref r) "set_iterator":=⟨_,hr,rfl⟩
 obtain ⟨hp,g,d,tk,os⟩:=s;unfold pyNext;refine wpAny_bind (wpAny_attempt (wpAny_callSpecial?_slot (name:=Str.ofString "__next__") hT AJ
  (wpAny_call_entry AJ hT Cj ?_ (Cw _))))
 unfold Builtin.«set_iterator.__next__»;unfold D9 at hr;repeat (any_goals (first | assumption | (refine wpAny_setEntries_of ho hd fit ?_) | (refine LX (given:=i) (slot:=slot) ho hd fit tab few ?_) | wp_step))
 rw [show ((ep:Nat):Int).toNat=ep by simp,hx];repeat (any_goals (first | assumption | wp_step))
 simp only [raiseNew];refine wpAny_bind (wpAny_handled ?_);rw [show A.in1.handled=none from hh];refine wpAny_bind (wpAny_pure (wpAny_throw ?_));refine wpAny_bind (wpAny_isInstance (T:="StopIteration") (b:=true) ⟨_,fe _ rfl,rfl⟩ isSubtype_stop ?_);exact wpAny_pure (hQ _ fun b o hb e=>eT _ (eT _ ((Heap.SameBut.update ..).extBut b o hb e)))
end
section
variable {prog:Program} {w:World} {A:Around} {E:Value->Shared->Prop} {s:Shared}
def PR (is:List Nat) (c:Nat):Obj:={ cls:=.type "tuple",data:=.seq (is.map fun (i:Nat)=>rawInt i).toArray c }
theorem Pp {a:Addr} {o:Obj} {es:Array (Int × Value)} {ep:Nat} {t:SetTable} {j:Nat} {h:Int} {x:Value} {Q:Value->Shared->Prop} (ho:s.heap.get? a=some o) (hd:o.data=.set es ep t) (fit:t.fits es.size=true)
  (hx:es[j]? = some (h,x)) (q:Q x s):wpAny (model prog w) A (setNextDrawn a j ep) Q E s:=by
 unfold setNextDrawn;refine wpAny_bind (wpAny_setState_of ho hd fit ?_);dsimp only;rw [if_neg (by simp),hx];exact wpAny_pure q
theorem Pq {r a p:Addr} {i c:Nat} {o:Obj} {es:Array (Int × Value)} {ep:Nat} {t:SetTable} {is:List Nat} {j:Nat} {h:Int} {x:Value} {Q:Option Value->Shared->Prop}
  (hr:s.heap.get? r=some (D9 (.ref p) i a es.size ep)) (hp:s.heap.get? p=some (PR is c)) (ho:s.heap.get? a=some o) (hd:o.data=.set es ep t) (fit:t.fits es.size=true)
  (hj:is[i]? = some j) (hx:es[j]? = some (h,x))
  (hQ:∀ h',h'.get? r=some (D9 (.ref p) (i + 1) a es.size ep)->Heap.SameBut r s.heap h'->Q (some x) { s with heap:=h' }) :
  wpAny (model prog w) A (pyNext (.ref r)) Q E s:=by
 have hT:s.TypeIs (.ref r) "set_iterator":=⟨_,hr,rfl⟩
 have Lq:((is.map fun (i:Nat)=>rawInt i).toArray)[i]? = some (.int j 0):=by simp [hj,rawInt]
 obtain ⟨hp,g,d,tk,os⟩:=s;unfold pyNext;refine wpAny_bind (wpAny_attempt (wpAny_callSpecial?_slot (name:=Str.ofString "__next__") hT AJ
  (wpAny_call_entry AJ hT Cj ?_ (Cw _))))
 unfold Builtin.«set_iterator.__next__»;unfold D9 at hr;unfold PR at hp;repeat (any_goals (first | assumption | (refine wpAny_setEntries_of ho hd fit ?_) | wp_step))
 rw [show ((i:Nat):Int).toNat=i by simp,Lq];dsimp only;refine wpAny_bind (Pp (h:=h) (x:=x) ho hd fit (by simpa using hx) ?_);repeat (any_goals (first | assumption | wp_step))
 refine ⟨_,rfl,wpAny_pure (hQ _ ?_ (Heap.SameBut.update ..))⟩;exact gA (Obj.mapFields fun fs=>fs.setIfInBounds 1 (rawInt (i + 1))) hr rfl
theorem Rg {r a p:Addr} {i c:Nat} {o:Obj} {es:Array (Int × Value)} {ep:Nat} {t:SetTable} {is:List Nat} {Q:Option Value->Shared->Prop} (hh:A.handled=none)
  (hr:s.heap.get? r=some (D9 (.ref p) i a es.size ep)) (hp:s.heap.get? p=some (PR is c)) (ho:s.heap.get? a=some o) (hd:o.data=.set es ep t) (fit:t.fits es.size=true)
  (hj:is[i]? = none) (hQ:∀ h',Heap.ExtBut r s.heap h'->Q none { s with heap:=h' }) :
  wpAny (model prog w) A (pyNext (.ref r)) Q E s:=by
 have hT:s.TypeIs (.ref r) "set_iterator":=⟨_,hr,rfl⟩
 have Lq:((is.map fun (i:Nat)=>rawInt i).toArray)[i]? = none:=by simpa using hj
 obtain ⟨hp,g,d,tk,os⟩:=s;unfold pyNext;refine wpAny_bind (wpAny_attempt (wpAny_callSpecial?_slot (name:=Str.ofString "__next__") hT AJ
  (wpAny_call_entry AJ hT Cj ?_ (Cw _))))
 unfold Builtin.«set_iterator.__next__»;unfold D9 at hr;unfold PR at hp;repeat (any_goals (first | assumption | (refine wpAny_setEntries_of ho hd fit ?_) | wp_step))
 rw [show ((i:Nat):Int).toNat=i by simp,Lq];repeat (any_goals (first | assumption | wp_step))
 simp only [raiseNew];refine wpAny_bind (wpAny_handled ?_);rw [show A.in1.handled=none from hh];refine wpAny_bind (wpAny_pure (wpAny_throw ?_));refine wpAny_bind (wpAny_isInstance (T:="StopIteration") (b:=true) ⟨_,fe _ rfl,rfl⟩ isSubtype_stop ?_);exact wpAny_pure (hQ _ fun b o hb e=>eT _ (eT _ ((Heap.SameBut.update ..).extBut b o hb ((Heap.SameBut.update ..).extBut b o hb e))))
theorem MT (hh:A.handled=none) (I a:Addr) (ne:a ≠ I) {o:Obj} {es:Array (Int × Value)} {ep:Nat} {t:SetTable} (hd:o.data=.set es ep t) (fit:t.fits es.size=true) (tab:Tab w es t) (few:w.params.followText "set-order"=false->es.size<=1)
  (vs:List Value) (sl:Nat->Nat) (hs:∀ (i:Nat) (v:Value),vs[i]? = some v->CG w a es ep t (sl i) i=some (v,sl (i + 1))) (he:CG w a es ep t (sl vs.length) vs.length=none) :
  Walks prog w A I [I,a] [I] vs.length (fun i v=>vs[i]? = some v) (fun i h=>h.get? I=some (D9 (.int (sl i:Nat) 0) i a es.size ep)/\h.get? a=some o) where
 sub:=fun b hb=>by simp at hb; simp [hb]
 frame:=fun i h h' st k=>⟨k I (by simp) _ st.1,k a (by simp) _ st.2⟩
 item:=fun i s Q E hi st q=>by
  have e:vs[i]? = some vs[i]:=by simp [hi]
  refine Po st.1 st.2 hd fit tab few (hs i _ e) fun h' hr sb=>q _ h' s.toks e ⟨hr,?_⟩ fun b o hb z=>?_
  ·rw [sb.2 a ne]; exact st.2
  ·rw [sb.2 b (by simpa using hb)]; exact z
 done:=fun s Q E st q=>Rf hh st.1 st.2 hd fit tab few he fun h' eb=>q h' s.toks fun b o hb z=>eb b o (by simpa using hb) z
 self:=fun i s Q E st q=>Ke st.1 q
theorem MU (hh:A.handled=none) (I a p:Addr) (ne:a ≠ I) (np:p ≠ I) {o:Obj} {es:Array (Int × Value)} {ep c:Nat} {t:SetTable} (hd:o.data=.set es ep t) (fit:t.fits es.size=true)
  (is:List Nat) (vs:List Value) (hl:is.length=vs.length) (hs:∀ (i:Nat) (v:Value),vs[i]? = some v->∃ j h,is[i]? = some j/\es[j]? = some (h,v)) :
  Walks prog w A I [I,a,p] [I] vs.length (fun i v=>vs[i]? = some v) (fun i h=>h.get? I=some (D9 (.ref p) i a es.size ep)/\h.get? a=some o/\h.get? p=some (PR is c)) where
 sub:=fun b hb=>by simp at hb; simp [hb]
 frame:=fun i h h' st k=>⟨k I (by simp) _ st.1,k a (by simp) _ st.2.1,k p (by simp) _ st.2.2⟩
 item:=fun i s Q E hi st q=>by
  have e:vs[i]? = some vs[i]:=by simp [hi]
  obtain ⟨j,h,e1,e2⟩:=hs i _ e;refine Pq st.1 st.2.2 st.2.1 hd fit e1 e2 fun h' hr sb=>q _ h' s.toks e ⟨hr,?_,?_⟩ fun b o hb z=>?_
  ·rw [sb.2 a ne]; exact st.2.1
  ·rw [sb.2 p np]; exact st.2.2
  ·rw [sb.2 b (by simpa using hb)]; exact z
 done:=fun s Q E st q=>Rg hh st.1 st.2.2 st.2.1 hd fit (by simp [hl]) fun h' eb=>q h' s.toks fun b o hb z=>eb b o (by simpa using hb) z
 self:=fun i s Q E st q=>Ke st.1 q
theorem Jh {α:Type} {xs:List α} {i:Nat} {x:α} (h:xs[i]? = some x):(x :: xs.eraseIdx i).Perm xs:=by
 induction xs generalizing i with
 | nil=>simp at h
 | cons y ys ih=>
  cases i with
  | zero=>simp at h; subst h; exact .refl _
  | succ i=>
   simp only [hX] at h;exact (List.Perm.swap _ _ _).trans ((ih h).cons _)
theorem ND {α:Type} (n:Nat):∀ (xs:List α) (s:Shared) (Q:List α->Shared->Prop),n=xs.length->(∀ ys dr,ys.Perm xs->Q ys { s with drawn:=dr })->wpAny (model prog w) A (drawOrder n xs) Q E s:=by
 induction n with
 | zero=>
  intro xs s Q hn h;cases xs with
  | nil=>exact wpAny_pure (h [] s.drawn (.refl _))
  | cons x xs=>simp at hn
 | succ n ih=>
  intro xs s Q hn h;cases xs with
  | nil=>simp at hn
  | cons x xs=>
   unfold drawOrder;refine wpAny_bind ?_;intro Γ p hΓ;exists by simp
   have lt:w.draws .order (s.drawn.get .order) % (x :: xs).length < (x :: xs).length:=lB _ (by simp);show wpAny (model prog w) A (match (x :: xs)[w.draws .order (s.drawn.get .order) % (x :: xs).length]? with
    | some y=>drawOrder n ((x :: xs).eraseIdx (w.draws .order (s.drawn.get .order) % (x :: xs).length)) >>= fun r=>pure (y :: r)
    | none=>unsupported "internal:drawOrder") Q E { s with drawn:=s.drawn.bump .order }
   generalize w.draws .order (s.drawn.get .order) % (x :: xs).length=i at lt;have e:(x :: xs)[i]? = some (x :: xs)[i]:=by simp
   rw [e];refine wpAny_bind (ih _ _ _ (by rw [ke]; simp only [lt,if_true]; lia) fun ys dr pm=>?_);exact wpAny_pure (h _ dr ((pm.cons _).trans (Jh e)))
theorem O3 {α:Type} (next:Nat->Nat):∀ (fuel k:Nat) (left:List α) (out:Array α),fuel=left.length->(pickOrder.go next fuel k left out).toList.Perm (out.toList ++ left)
 | 0,k,[],out,_=>by unfold pickOrder.go; simp
 | fuel + 1,k,x :: xs,out,h=>by
  unfold pickOrder.go;have lt:next k % (x :: xs).length < (x :: xs).length:=lB _ (by simp);generalize next k % (x :: xs).length=i at lt;have e:(x :: xs)[i]? = some (x :: xs)[i]:=by simp
  rw [e];refine (O3 next fuel (k + 1) _ _ (by rw [ke]; simp only [lt,if_true]; simp at h ⊢; lia)).trans ?_;rw [kF,h9];exact (Jh e).append_left _
theorem PJ {α:Type} (next:Nat->Nat) (xs:Array α):(pickOrder next xs).toList.Perm xs.toList:=by
 unfold pickOrder;simpa using O3 next xs.size 0 xs.toList #[] (by simp)
end
theorem LO:∀ {vs:List Value},(∀ v ∈ vs,∃ x t,v=Value.str x t)->∃ ks,StrsAre vs ks
 | [],_=>⟨[],.nil⟩
 | v :: vs,h=>by
  obtain ⟨x,t,rfl⟩:=h v (by simp);obtain ⟨ks,r⟩:=LO fun u hu=>h u (fK _ hu)
  exact ⟨x :: ks,.cons x t r⟩
theorem QQ {P:Program} {w:World} {vs:List Value} {ks:List Str} (h:StrsAre vs ks) (k:Str):k ∈ ks ↔ ∃ v ∈ vs,(PySem.strKind P w).is k v=true:=by
 induction h with
 | nil=>simp
 | cons x t r ih=>
  rw [eX,ih];constructor
  ·rintro (rfl | ⟨v,hv,e⟩)
   ·exact ⟨_,fX,by simp [PySem.strKind,Value.isStrOf]⟩
   ·exact ⟨v,fK _ hv,e⟩
  ·rintro ⟨v,hv,e⟩;rcases eX.mp hv with rfl | hv
   ·refine .inl ?_;have e':Value.isStrOf k (.str x t)=true:=e;first | exact (eq_of_beq e').symm | exact eq_of_beq e' | exact of_decide_eq_true e' | exact (of_decide_eq_true e').symm
   ·exact .inr ⟨v,hv,e⟩
section
variable {prog:Program} {w:World} {A:Around} {E:Value->Shared->Prop} {s:Shared}
theorem Pr {a:Addr} {o:Obj} {es:Array (Int × Value)} {ep:Nat} {t:SetTable} {Q:Bool->Shared->Prop} (ho:s.heap.get? a=some o) (hd:o.data=.set es ep t) (fit:t.fits es.size=true)
  (h:Q (!w.params.followText "set-order" && (!t.plain && decide (es.size > 1))) s):wpAny (model prog w) A (setDrawn a) Q E s:=by
 unfold setDrawn;refine wpAny_bind (wpAny_setState_of ho hd fit ?_);dsimp only;unfold setsByText;exact wpAny_bind (wpAny_bind (wpAny_askSetting (wpAny_pure (wpAny_pure h))))
theorem Pu {a:Addr} {S:Str->Bool} {n:Nat} {Q:Value->Shared->Prop} (hS:D1 prog w s.heap a S n)
  (h:∀ (h':Heap) (dr:Drawn) (I:Addr) (fp:List Addr) (vs:List Value) (ks:List Str) (St:Nat->Heap->Prop),(∀ b o,s.heap.get? b=some o->h'.get? b=some o)->s.heap.objs.size<=I->(∀ b ∈ fp,b=a\/s.heap.objs.size<=b) ->
   StrsAre vs ks->(∀ k,S k=true ↔ k ∈ ks)->ks.length=n->(∀ B:Around,B.handled=none->Walks prog w B I fp [I] vs.length (fun i v=>vs[i]? = some v) St)->St 0 h'->Q (.ref I) { s with heap:=h',drawn:=dr }) :
  wpAny (model prog w) A (pyIter (.ref a)) Q E s:=by
 obtain ⟨o,es,ep,t,ho,ex,hd,el,mem,few,fit,hn,tab⟩:=hS;have lt:a < s.heap.objs.size:=fb ho;have strE:∀ e ∈ es.toList,∃ x tk,e.2=Value.str x tk:=fun e he=>by
  obtain ⟨⟨k,hk,_⟩,_⟩:=el e he;have SY:Value.isStrOf k e.2=true:=hk;cases z:e.2 <;> rw [z] at SY <;> first | exact ⟨_,_,rfl⟩ | (simp [Value.isStrOf] at SY)
 have tx:∀ vs:List Value,vs.Perm (es.toList.map (·.2))->∃ ks,StrsAre vs ks/\(∀ k,S k=true ↔ k ∈ ks)/\ks.length=n:=fun vs pm=>by
  obtain ⟨ks,r⟩:=LO (vs:=vs) fun v hv=>by
   obtain ⟨e,he,rfl⟩:=fi.mp (pm.mem_iff.mp hv);exact strE e he
  refine ⟨ks,r,fun k=>?_,by rw [<-r.length,pm.length_eq,eU,gg]; exact hn⟩;rw [mem,QQ (P:=prog) (w:=w) r];constructor
  ·rintro ⟨e,he,z⟩;exact ⟨e.2,pm.mem_iff.mpr (fi.mpr ⟨e,he,rfl⟩),z⟩
  ·rintro ⟨v,hv,z⟩;obtain ⟨e,he,rfl⟩:=fi.mp (pm.mem_iff.mp hv);exact ⟨e,he,z⟩
 have hT:s.TypeIs (.ref a) "set":=⟨o,ho,ex.1⟩
 refine wpAny_pyIter_slot hT F.slot_set_iter (wpAny_call_entry F.slot_set_iter hT Ji ?_ (F.args_set_iter_1 _));unfold Builtin.«frozenset.__iter__» Builtin.Frozenset.slot0 slotArgs;simp only [List.isEmpty_nil,lj,gx,↓reduceIte,bind_assoc,jD,bne_self_eq_false];unfold Builtin.Frozenset.addrOf Builtin.Frozenset.sizeOf;refine wpAny_bind (wpAny_pure ?_);try dsimp only
 refine wpAny_bind (wpAny_pure ?_);refine wpAny_bind (wpAny_bind (wpAny_setEntries_of ho hd fit (wpAny_pure ?_)));refine wpAny_bind (Pr ho hd fit ?_);by_cases z:(!w.params.followText "set-order" && (!t.plain && decide (es.size > 1)))=true
 ·rw [if_pos z];refine wpAny_bind (ND es.size (gR es.size) _ _ (by rw [ig]) fun is dr pm=>?_);refine wpAny_bind (wpAny_newTuple ?_ (by rw [eU,pm.length_eq,ig]; exact fits_of_scanBound few));refine wpAny_bind (wpAny_setEpoch_of (eT _ ho) hd fit ?_);refine wpAny_bind (wpAny_newObj_type (wpAny_pure ⟨_,rfl,"set_iterator",_,⟨_,fe _ rfl,rfl⟩,AJ.lookup,?_⟩));have rng:∀ j ∈ is,j < es.size:=fun j hj=>i7.mp (pm.mem_iff.mp hj)
  have pv:(is.map fun j=>((es[j]?).map (·.2)).getD Value.none).Perm (es.toList.map (·.2)):=by
   refine (pm.map _).trans ?_;refine List.Perm.of_eq (jA (by simp) fun i h1 h2=>?_);have:i < es.size:=by simpa using h2
   simp [this]
  obtain ⟨ks,r1,r2,r3⟩:=tx _ pv;refine h _ dr _ [(s.heap.push (PR is 0)).objs.size,a,s.heap.objs.size] _ ks _ (fun b o e=>eT _ (eT _ e)) (by rw [size_push']; exact gy _) (fun b hb=>?_) r1 r2 r3
   (fun B hB=>MU hB _ a s.heap.objs.size (by rw [size_push']; exact fj (gf lt)) (by rw [size_push']; exact fj (gi _)) hd fit is _ (by simp) fun i v e=>?_)
   ⟨fe _ rfl,eT _ (eT _ ho),eT _ (fe _ rfl)⟩
  ·simp only [eX,ff,or_false] at hb;rcases hb with rfl | rfl | rfl
   ·exact .inr (by rw [size_push']; exact gy _)
   ·exact .inl rfl
   ·exact .inr (fc _)
  ·rw [eZ] at e;cases ej:is[i]? with
   | none=>rw [ej] at e; cases e
   | some j=>
    rw [ej] at e;have hj:=rng j (eW ej);have e5:es[j]? = some es[j]:=by simp [hj]
    simp only [iy,e5,Option.getD_some,fV.injEq] at e;exact ⟨j,es[j].1,rfl,by rw [e5,<-e]⟩
 ·rw [if_neg z];refine wpAny_bind (wpAny_pure ?_);refine wpAny_bind (wpAny_setEpoch_of ho hd fit ?_);refine wpAny_bind (wpAny_newObj_type (wpAny_pure ⟨_,rfl,"set_iterator",_,⟨_,fe _ rfl,rfl⟩,AJ.lookup,?_⟩));have Xg:w.params.followText "set-order"=false->es.size<=1:=fun q=>by
   rcases jS 1 es.size with y | y
   ·rw [q,tab.2 (by lia)] at z;simp [y] at z
   ·exact y
  have go:∀ (vs:List Value) (sl:Nat->Nat),sl 0=0->vs.Perm (es.toList.map (·.2))->(∀ (i:Nat) (v:Value),vs[i]? = some v->CG w a es ep t (sl i) i=some (v,sl (i + 1)))->CG w a es ep t (sl vs.length) vs.length=none ->
    Q (.ref s.heap.objs.size) { s with heap:=s.heap.push (D9 (rawInt 0) 0 a es.size ep) }:=fun vs sl s0 pm h1 h2=>by
   obtain ⟨ks,r1,r2,r3⟩:=tx _ pm;refine h _ s.drawn _ [s.heap.objs.size,a] vs ks _ (fun b o e=>eT _ e) (fc _) (fun b hb=>?_) r1 r2 r3 (fun B hB=>MT hB _ a (fj lt) hd fit tab Xg vs sl h1 h2) ⟨?_,eT _ ho⟩
   ·simp only [eX,ff,or_false] at hb;rcases hb with rfl | rfl
    ·exact .inr (fc _)
    ·exact .inl rfl
   ·rw [s0]; exact fe _ rfl
  by_cases ft:w.params.followText "set-order"=true
  ·refine go ((pickOrder (w.params.setOrder a ep) es).toList.map (·.2)) (fun _=>0) rfl ((PJ _ es).map _) (fun i v e=>?_) ?_
   ·unfold CG;rw [if_pos ft];rw [eZ,jc] at e;cases y:(pickOrder (w.params.setOrder a ep) es)[i]? with
    | none=>rw [y] at e; cases e
    | some x=>rw [y] at e; cases e; rfl
   ·unfold CG;rw [if_pos ft];simp
  ·have sm:=Xg (by simpa using ft);refine go (es.toList.map (·.2)) (fun i=>if i=0 then 0 else t.place.getD 0 0 + 1) rfl (.refl _) (fun i v e=>?_) ?_
   ·unfold CG;rw [if_neg ft];have i0:i < es.size:=by
     have:=(fh.mp e).1;simpa using this
    have z1:es.size=1:=by lia
    have i1:i=0:=by lia
    subst i1;obtain ⟨x,rfl⟩:∃ x,es=#[x]:=⟨es[0],jM (by simpa using z1) fun j a1 a2=>by
     have:j=0:=by lia
     subst this; rfl⟩
    have pz:t.place.size=1:=by
     simp only [SetTable.fits,gE,beq_iff_eq] at fit;exact fit.1
    obtain ⟨y,ey⟩:∃ y,t.place=#[y]:=⟨t.place[0],jM (by simpa using pz) fun j a1 a2=>by
     have:j=0:=by lia
     subst this; rfl⟩
    rw [ey];simp at e;subst e;rfl
   ·unfold CG;rw [if_neg ft];rcases Nat.eq_zero_or_pos es.size with z0 | z0
    ·have:es=#[]:=Array.eq_empty_of_size_eq_zero z0;subst this;rfl
    ·have z1:es.size=1:=by lia
     obtain ⟨x,rfl⟩:∃ x,es=#[x]:=⟨es[0],jM (by simpa using z1) fun j a1 a2=>by
      have:j=0:=by lia
      subst this; rfl⟩
     have pz:t.place.size=1:=by
      simp only [SetTable.fits,gE,beq_iff_eq] at fit;exact fit.1
     obtain ⟨y,ey⟩:∃ y,t.place=#[y]:=⟨t.place[0],jM (by simpa using pz) fun j a1 a2=>by
      have:j=0:=by lia
      subst this; rfl⟩
     rw [ey];simp [SetTable.below,SetTable.below.go]
end
section
variable {prog:Program} {w:World} {A:Around} {E:Value->Shared->Prop} {s:Shared}
theorem Rh {r:Addr} {Q:Bool->Shared->Prop} (hT:s.TypeIs (.ref r) "set") (h:∀ b,Q b s):wpAny (model prog w) A (Builtin.List.listLengthHint (.ref r)) Q E s:=by
 unfold Builtin.List.listLengthHint;refine wpAny_bind (wpAny_specialOf hT PySem.F.slot_set_len.lookup ?_);generalize hid:("set.__len__":String)=id0;wp_delta;rw [show splitId id0=some ("set","__len__") from by subst hid; decide +kernel];subst hid;refine wpAny_bind (wpAny_isInstance (T:="set") (b:=true) hT (by rw [isSubtype_type]; kernel_rfl) ?_);refine wpAny_ite_split (fun z=>absurd z (by decide)) (fun _=>?_);refine wpAny_ite_split (fun _=>?_) (fun z=>absurd (by decide +kernel) z);refine wpAny_bind (wpAny_typeOf hT ?_);exact wpAny_pure (h _)
theorem KL {a:Addr} {S:Str->Bool} {n:Nat} {R:List Value->Shared->Prop} (hh:A.handled=none) (hS:D1 prog w s.heap a S n)
  (h:∀ (h':Heap) (tk:Nat) (dr:Drawn) (vs:List Value) (ks:List Str),(∀ b o,s.heap.get? b=some o->h'.get? b=some o)->StrsAre vs ks->(∀ k,S k=true ↔ k ∈ ks)->ks.length=n->R vs { s with heap:=h',toks:=tk,drawn:=dr }) :
  wpAny (model prog w) A (collect (.ref a)) R E s:=by
 have hn:n < scanBound:=by obtain ⟨o,es,ep,t,ho,ex,hd,el,mem,few,fit,hn,tab⟩:=hS; lia
 have aX:n<=sizeLine:=fits_of_scanBound hn;have lt:a < s.heap.objs.size:=by obtain ⟨o,es,ep,t,ho,r⟩:=hS; exact fb ho
 unfold collect;refine wpAny_bind (wpAny_runValue (codeAny_builtin entry_proto_collect' ?_));rw [Around.under_plainId PySem.F.plain_proto_collect _];show wpAny _ A.in1 (newList [] >>= fun l=>again (.builtin "list.__iadd__" ⟨[l,.ref a],[]⟩)) _ _ s
 refine wpAny_bind (wpAny_newObj_type ?_);refine wpAny_pure ⟨plainId_quiet PySem.F.plain_list_iadd _,codeAny_builtin entry_list_iadd' ?_⟩;rw [Around.under_plainId PySem.F.plain_list_iadd _];have e1:(s.heap.push { cls:=.type "list",data:=.seq ([]:List Value).toArray }).get? s.heap.objs.size=some { cls:=.type "list",data:=.seq #[] }:=fe _ rfl;show wpAny _ A.in1 (Builtin.List.listExtendWith (.ref s.heap.objs.size) (.ref a) (.ref s.heap.objs.size)) _ _ _
 have ZD:D1 prog w (s.heap.push { cls:=.type "list",data:=.seq ([]:List Value).toArray }) a S n:=hS.kept fun o e=>eT _ e
 unfold Builtin.List.listExtendWith;have hT:Shared.TypeIs { s with heap:=s.heap.push { cls:=.type "list",data:=.seq ([]:List Value).toArray } } (.ref a) "set":=by
  obtain ⟨o,es,ep,t,ho,ex,r⟩:=ZD;exact ⟨o,ho,ex.1⟩
 refine wpAny_bind (wpAny_typeOf hT ?_);have e2:Builtin.List.listSameRef (.ref s.heap.objs.size) (.ref a)=false:=by simp [Builtin.List.listSameRef,gB lt]
 have e3:(Value.type "set" == Value.type "list")=false:=by decide
 have e4:(Value.type "set" == Value.type "tuple")=false:=by decide
 simp only [e2,e3,e4,kZ,gx,if_false];refine wpAny_bind (Pu ZD fun h1 dr I fp vs ks St kk hI hfp sv mem len hW st=>?_);have k1:∀ b o,s.heap.get? b=some o->h1.get? b=some o:=fun b o e=>kk b o (eT _ e)
 have eS:=kk _ _ e1;have WX:Shared.TypeIs { s with heap:=h1,drawn:=dr } (.ref a) "set":=by
  obtain ⟨o,es,ep,t,ho,ex,r⟩:=hS;exact ⟨o,k1 _ _ ho,ex.1⟩
 have szI:(s.heap.push { cls:=.type "list",data:=.seq ([]:List Value).toArray }).objs.size=s.heap.objs.size + 1:=size_push' ..;have nf:s.heap.objs.size ∉ fp:=fun z=>by
  rcases hfp _ z with e | e
  ·exact absurd e (gB lt)
  ·rw [szI] at e; exact absurd e (Nat.not_le_of_lt (gi _))
 have vl:vs.length=n:=by rw [sv.length]; exact len
 have key:∀ (h2:Heap) (c tk:Nat),St 0 h2->(∀ b o,b ≠ s.heap.objs.size->h1.get? b=some o->h2.get? b=some o)->h2.get? s.heap.objs.size=some { cls:=.type "list",data:=.seq #[] c } ->
   codeAny (model prog w) A (.builtin "list.extend.loop" ⟨[.ref s.heap.objs.size,.ref I,.ref s.heap.objs.size],[]⟩) (fun (q:Result) (s':Shared)=>∃ (h':Heap) (tk:Nat) (acc:Array Value) (c':Nat),q=.ok (.ret (.ref s.heap.objs.size))/\s' = { s with heap:=h',toks:=tk,drawn:=dr } /\
    (∀ b o,s.heap.get? b=some o->h'.get? b=some o)/\h'.get? s.heap.objs.size=some { cls:=.type "list",dict:=none,data:=.seq acc c',slots:=#[] }/\ItemsOf (fun i v=>vs[i]? = some v) acc vs.length) { s with heap:=h2,toks:=tk,drawn:=dr }:=by
  intro h2 c tk FO k2 g2;refine codeAny_extend_loopS (hW _ (by simp [hh])).toS (by rw [vl]; exact aX) s.heap.objs.size nf (.ref s.heap.objs.size) vs.length 0 _ #[] c rfl (gr _) FO g2 (ItemsOf.nil _) fun s' acc c' m g' ia=>?_
  refine ⟨s'.heap,s'.toks,acc,c',rfl,?_,fun b o e=>?_,g',ia⟩
  ·rw [Moved.eq_with m]
  ·have lb:=fb e;refine m.heap b o (fun z=>?_) (k2 b o (fj lb) (k1 b o e));rcases eX.mp z with y | y
   ·exact fj lb y
   ·rw [fo.mp y] at lb;rw [szI] at hI;exact absurd lb (Nat.not_lt_of_le (Nat.le_of_succ_le hI))
 refine wpAny_mono (Q:=fun fin s'=>match fin with | .done f=>False | .again c'=>c'.quiet=true/\codeAny (model prog w) A c' (fun (q:Result) (s':Shared)=>∃ (h':Heap) (tk:Nat) (acc:Array Value) (c':Nat),q=.ok (.ret (.ref s.heap.objs.size))/\s' = { s with heap:=h',toks:=tk,drawn:=dr } /\
    (∀ b o,s.heap.get? b=some o->h'.get? b=some o)/\h'.get? s.heap.objs.size=some { cls:=.type "list",dict:=none,data:=.seq acc c',slots:=#[] }/\ItemsOf (fun i v=>vs[i]? = some v) acc vs.length) s') (E:=fun _ _=>False) ?_ (fun fin s' x=>?_) fun e s' x=>x.elim
 ·refine wpAny_bind (wpAny_holding (Rh WX fun b=>?_));refine wpAny_ite_split (fun _=>?_) (fun _=>wpAny_pure ⟨plainId_quiet PySem.F.plain_extend_loop _,key _ _ _ st (fun b o _ e=>e) eS⟩);refine wpAny_bind (wpAny_rule ?_);refine wpAny_bind ?_;show wpAny _ _ (updateSeq s.heap.objs.size (·.push .none) >>= fun _=>updateSeq s.heap.objs.size (·.pop)) _ _ _
  refine wpAny_bind (wpAny_updateSeq eS rfl ?_);have eS2:=gA (Obj.mapSeq (·.push Value.none)) eS rfl;refine wpAny_updateSeq (hz:=by seq_fits) eS2 rfl ?_;have eS3:=gA (Obj.mapSeq (·.pop)) eS2 rfl;have oth:∀ b o,b ≠ s.heap.objs.size->h1.get? b=some o->((h1.update s.heap.objs.size (Obj.mapSeq (·.push Value.none))).update s.heap.objs.size (Obj.mapSeq (·.pop))).get? b=some o:=fun b o hb e=>
   (g8 _ _ (Ne.symm hb)).trans ((g8 _ _ (Ne.symm hb)).trans e)
  refine wpAny_pure ⟨plainId_quiet PySem.F.plain_extend_loop _,key _ _ _ ?_ oth eS3⟩;exact (hW A (by simp [hh])).frame 0 _ _ st fun b hb o e=>oth b o (fun z=>nf (z ▸ hb)) e
 ·cases fin with
  | done f=>exact x.elim
  | again c₁=>
   refine ⟨x.1,codeAny_mono x.2 fun q EB y=>?_⟩;obtain ⟨h',tk,acc,c',rfl,rfl,hk,OG,ia⟩:=y;show wpAny _ A (load s.heap.objs.size >>= _) _ _ _
   refine wpAny_bind (wpAny_load OG ?_);have:acc.toList=vs:=jA (by rw [gg]; exact ia.1) fun i h1 h2=>by
    have h3:i < acc.size:=by simpa using h1
    have this:vs[i]? = some acc[i]:=ia.2 i acc[i] (by simp [h3]);rw [eR h2] at this;simpa using (fV.inj this).symm
   refine wpAny_pure ?_;have q:=h h' tk dr vs ks hk sv mem len;rw [<-this] at q;exact q
theorem LV {a:Addr} {S:Str->Bool} {n:Nat} {Q:Value->Shared->Prop} (hh:A.handled=none) (hS:D1 prog w s.heap a S n) (Kr:n < 64)
  (h:∀ (h':Heap) (tk:Nat) (dr:Drawn) (l:Addr) (us:List Value) (e:Nat) (ss ks:List Str),(∀ b o,s.heap.get? b=some o->h'.get? b=some o)->s.heap.get? l=none->h'.get? l=some (seqObj "list" us.toArray e)->StrsAre us ss->ss.Perm ks->sortedS ss=true ->
   (∀ k,S k=true ↔ k ∈ ks)->ks.length=n->Q (.ref l) { s with heap:=h',toks:=tk,drawn:=dr }) :
  wpAny (model prog w) A (call (.builtin "sorted") [.ref a]) Q E s:=by
 refine Calls.call_function_entry kind_sorted plain_sorted entry_sorted (args_sorted1 _) ?_;unfold Builtin.«sorted»;refine wpAny_bind (m:=checkCount "sorted" 1 1 _) (wpAny_pure ?_);refine wpAny_bind (KL (A:=A.in1) hh hS fun h' tk dr vs ks hk sv mem len=>?_);have hl:vs.length=n:=by rw [sv.length]; exact len
 refine wpAny_bind (wpAny_newList ?_ (gc (show vs.length<=64 by lia) (by decide)));have g:(h'.push (seqObj "list" vs.toArray 0)).get? h'.objs.size=some (seqObj "list" vs.toArray 0):=fe _ rfl;show wpAny _ _ _ _ _ { s with heap:=h'.push (seqObj "list" vs.toArray 0),toks:=tk,drawn:=dr }
 refine wpAny_bind (wpAny_holding (wpAny_call_entry slot_list_sort ⟨_,g,rfl⟩ entry_list_sort (list_sort_treeK strKind_oneLt (s:={ s with heap:=h'.push (seqObj "list" vs.toArray 0),toks:=tk,drawn:=dr }) g sv.keysOf (fun bH bG rest e=>keyKind_strs (by rw [<-e]; exact sv)) (by rw [hl]; exact Kr) fun AZ a1 a2=>⟨_,rfl,?_⟩) (args_list_sort _)));refine wpAny_pure ⟨_,rfl,?_⟩;obtain ⟨ss,b1,b2,b3⟩:=sorted_out_str sv a1 a2;obtain ⟨e,he⟩:=sortedHeap_at (out:=(arrOf AZ).map (·.2)) g;refine h _ tk dr h'.objs.size ((arrOf AZ).map (·.2)).toList e ss ks (fun b o q=>?_) ?_ (by rw [Array.toArray_toList]; exact he) b1 b2 b3 mem len
 ·have q':=hk b o q;have lt:=fb q';rw [sortedHeap_old (fj lt) (by rw [size_push']; exact gf lt)];exact eT _ q'
 ·cases z:s.heap.get? h'.objs.size with
  | none=>rfl
  | some o=>exact absurd (fb (hk _ _ z)) (gC _)
end
def SetW (P:Program) (w:World) (a:Addr) (S:Str->Bool) (n:Nat):HO:=.ext fun h=>D1 P w h a S n
theorem J9:isSubtype (.type "tuple") (.type "set")=pure false:=by rw [isSubtype_type]; kernel_rfl
theorem Fm:isSubtype (.type "tuple") (.type "frozenset")=pure false:=by rw [isSubtype_type]; kernel_rfl
def setS (P:Program) (w:World) (a:Addr) (ss:List Str):HO:=SetW P w a (fun k=>(ss.foldl step_dedup []).any (· == k)) (ss.foldl step_dedup []).length
theorem T5 {X:Cx} {pins:List (Addr × Obj)} {σ:St} {H:Hp} {s:Shared} (I:As X pins σ H s) {h':Heap} {tk:Nat} {ss:List Str} (hS:D1 X.prog X.w h' s.heap.objs.size (fun k=>(ss.foldl step_dedup []).any (· == k)) (ss.foldl step_dedup []).length)
  (kk:∀ b o,s.heap.get? b=some o->h'.get? b=some o):As X pins σ (upd H s.heap.objs.size (setS X.prog X.w s.heap.objs.size ss)) { s with heap:=h',toks:=tk }:=by
 obtain ⟨oS,e1,e2,e3,hoS,rest⟩:=id hS;refine I.laid (a:=s.heap.objs.size) (o:=setS X.prog X.w s.heap.objs.size ss) (t':=tk) kk (fc _) ⟨hS,⟨_,hoS⟩,fun h1 h2 z st=>?_⟩;exact z.kept fun o e=>st _ e
theorem MF (K:eV) {X:Cx} (hK:X.K=K) (hc:X.calm=true):Bv X (.type "set") (fun xs H Q=>∃ (a:Addr) (ss:List Str),xs=[.ref a]/\(Ba K H a (ss.map V.str)\/Az K H a (ss.map V.str))/\ss.length<=1000 /\
  ∀ D,H D=none->Q (.ref D) (upd H D (setS X.prog X.w D ss))):=by
 subst hK;intro pins s σ H xs us Q I r h;obtain ⟨a,ss,rfl,ha,hl,q⟩:=h;obtain ⟨u,rfl,ru⟩:=Cq r;cases ru
 have txt:∀ Ar:List Value,AB (ss.map V.str) Ar->∀ (i:Nat) v,Ar.toArray[i]? = some v->∃ tk,v=.str (ss.getD i (Str.ofString "")) tk:=fun Ar rv i v e=>by
  have il:Ar.length=ss.length:=by rw [<-rv.length,eU]
  have e':Ar[i]? = some v:=by simpa using e
  have hi:i < Ar.length:=(fh.mp e').1;have e3:(ss.map V.str)[i]? = some (.str ss[i]):=by rw [eZ,eR (by lia)]; rfl
  obtain ⟨v',e4,r4⟩:=rv.get e3;rw [e'] at e4;cases e4
  obtain ⟨t,rfl⟩:=r4;exact ⟨t,by simp [fS,eR (show i < ss.length by lia)]⟩
 have fin:∀ Ar:List Value,AB (ss.map V.str) Ar->∀ (h':Heap) (tk:Nat),D1 X.prog X.w h' s.heap.objs.size (fun k'=>(met (fun i=>ss.getD i (Str.ofString "")) Ar.toArray.size).any (· == k')) (met (fun i=>ss.getD i (Str.ofString "")) Ar.toArray.size).length ->
   (∀ b o,s.heap.get? b=some o->h'.get? b=some o)->∃ v H',As X pins σ H' { s with heap:=h',toks:=tk }/\AD v (.ref s.heap.objs.size)/\Q v H':=fun Ar rv h' tk hS kk=>by
  have es:Ar.toArray.size=ss.length:=by rw [fu,<-rv.length,eU]
  rw [es,Mu] at hS;exact ⟨.ref s.heap.objs.size,_,T5 I hS kk,rfl,q _ (I.hok.fresh (fc _))⟩
 have bnd:∀ Ar:List Value,AB (ss.map V.str) Ar->Ar.toArray.size + 1 < scanBound:=fun Ar rv=>by
  rw [fu,<-rv.length,eU];unfold scanBound;lia
 rcases ha with ha | ha
 ·obtain ⟨Ar,rv,pl,hz⟩:=I.list ha;have il:=pl.isList;obtain ⟨o,ho,hcl,n,hdat⟩:=id il;refine Ox (items:=Ar.toArray) (val:=fun i=>ss.getD i (Str.ofString "")) (St:=fun I' i h=>h.IsListIter I' a i/\h.IsList a Ar.toArray) (I.ok.hd hc) ho hcl (by decide) F.sub_list_set F.sub_list_frozenset
   (fun B E' s1 Q' k q'=>wpAny_pyIter_list ⟨o,k _ _ ho,hcl,n,hdat⟩ q') (fun B I' hB ne=>Walks.list hB I' a ne Ar.toArray) (fun h k=>⟨⟨_,fe _ rfl,rfl,rfl⟩,⟨o,eT _ (k _ _ ho),hcl,n,hdat⟩⟩) (txt Ar rv) (bnd Ar rv) fun h' tk hS kk=>?_
  exact fin Ar rv h' tk hS kk
 ·obtain ⟨Ar,rv,pl,hz⟩:=I.tuple ha;obtain ⟨o,ho,hcl,n,hdat⟩:=id pl;refine Ox (items:=Ar.toArray) (val:=fun i=>ss.getD i (Str.ofString "")) (St:=fun I' i h=>h.IsTupleIter I' a i/\h.IsTuple a Ar.toArray) (I.ok.hd hc) ho hcl (by decide) J9 Fm
   (fun B E' s1 Q' k q'=>wpAny_pyIter_tuple ⟨o,k _ _ ho,hcl,n,hdat⟩ q') (fun B I' hB ne=>Walks.tuple hB I' a ne Ar.toArray) (fun h k=>⟨⟨_,fe _ rfl,rfl,rfl⟩,⟨o,eT _ (k _ _ ho),hcl,n,hdat⟩⟩) (txt Ar rv) (bnd Ar rv) fun h' tk hS kk=>?_
  exact fin Ar rv h' tk hS kk
theorem F9 (k:Str):∀ (ss σ:List Str),k ∈ ss.foldl step_dedup σ ↔ k ∈ σ\/k ∈ ss
 | [],σ=>by simp
 | x :: xs,σ=>by
  rw [kS,F9 k xs];have:k ∈ step_dedup σ x ↔ k ∈ σ\/k=x:=by
   unfold step_dedup;split
   ·rename_i h
    rw [iB] at h;obtain ⟨y,hy,e⟩:=h;have e:=eq_of_beq e;subst e;exact ⟨.inl,fun z=>z.elim id fun e=>e ▸ hy⟩
   ·simp
  rw [this,eX];exact or_assoc
theorem E5:∀ (ss σ:List Str),σ.Nodup->(ss.foldl step_dedup σ).Nodup
 | [],σ,h=>h
 | x :: xs,σ,h=>by
  rw [kS];refine E5 xs _ ?_;unfold step_dedup;split
  ·exact h
  ·rename_i hn
   refine iO.mpr ⟨h,by simp,fun a ha b hb e=>hn ?_⟩;rw [fo] at hb;subst hb e;exact iB.mpr ⟨_,ha,by simp⟩
theorem Me:∀ {l m:List Str},l.Nodup->(∀ x ∈ l,x ∈ m)->∃ r,m.Perm (l ++ r)
 | [],m,_,_=>⟨m,.refl _⟩
 | x :: l,m,nd,h=>by
  rw [gG] at nd;have p:=List.perm_cons_erase (h x (by simp));obtain ⟨r,pr⟩:=Me (m:=m.erase x) nd.2 fun y hy=>(ka (fun e:y=x=>nd.1 (e ▸ hy))).mpr (h y (fK _ hy))
  exact ⟨r,p.trans (pr.cons _)⟩
theorem R6 {l m:List Str} (nd:l.Nodup) (h:∀ x ∈ l,x ∈ m) (e:m.length=l.length):m.Perm l:=by
 obtain ⟨r,p⟩:=Me nd h;have:=p.length_eq;rw [eY] at this;have:r=[]:=iV.mp (by lia);subst this;simpa using p
theorem As.drew {X:Cx} {pins:List (Addr × Obj)} {σ:St} {H:Hp} {s:Shared} (I:As X pins σ H s) (dr:Drawn):As X pins σ H { s with drawn:=dr }:=
 ⟨I.ok,I.os,I.bare,I.base,I.loc,I.cell,I.free,I.freeC,I.pin,I.hok,I.len⟩
theorem HW {X:Cx} (hc:X.calm=true):Bv X (.builtin "sorted") (fun xs H Q=>∃ (a:Addr) (ss:List Str),xs=[.ref a]/\H a=some (setS X.prog X.w a ss)/\ss.length < 64 /\
  ∀ (l:Addr) (ss':List Str),H l=none->ss'.Nodup->(∀ k,k ∈ ss' ↔ k ∈ ss)->sortedS ss'=true->Q (.ref l) (upd H l (.lst (ss'.map V.str)))):=by
 intro pins s σ H xs us Q I r h;obtain ⟨a,ss,rfl,ha,Kr,q⟩:=h;obtain ⟨u,rfl,ru⟩:=Cq r;cases ru
 have hS:D1 X.prog X.w s.heap a (fun k=>(ss.foldl step_dedup []).any (· == k)) (ss.foldl step_dedup []).length:=(I.hok a _ ha).1;have few:(ss.foldl step_dedup []).length<=ss.length:=by rw [<-Mu]; exact DO _ _
 refine LV (I.ok.hd hc) hS (by lia) fun h' tk dr l us e ss' ks k1 k2 k3 k4 k5 k6 k7 k8=>?_
 obtain ⟨m,hlm⟩:=id I.loc;obtain ⟨oL,esL,epL,hoL,rL⟩:=id hlm.1;have fl:H l=none:=by
  cases z:H l with
  | none=>rfl
  | some u=>
   obtain ⟨ob,e⟩:=AL.there (I.hok l u z);rw [k2] at e;cases e
 have mk:∀ k,k ∈ ks ↔ k ∈ ss:=fun k=>by
  rw [<-k7,iB];have:=F9 k ss [];constructor
  ·rintro ⟨x,hx,e⟩;have e:=eq_of_beq e;subst e;exact (this.mp hx).resolve_left (by simp)
  ·intro z;exact ⟨k,this.mpr (.inr z),by simp⟩
 have pm:ks.Perm (ss.foldl step_dedup []):=R6 (E5 ss [] jF) (fun x hx=>(mk x).mpr (((F9 x ss []).mp hx).resolve_left (by simp))) k8;have I2:=I.laidF (h2:=h') (D:=l) (o:=.lst (ss'.map V.str)) hlm ⟨oL,esL,epL,k1 _ _ hoL,rL⟩ (fun b ob _ q=>k1 b ob q) k2 (fun z=>by rw [z,hoL] at k2; cases k2)
  ⟨by rw [eU,k5.length_eq,k8,sizeLine_eq]; lia,us,e,Ga k4,k3⟩
 exact ⟨.ref l,_,(I2.kept (t':=tk) fun b u q=>q).drew dr,rfl,q l ss' fl (k5.nodup_iff.mpr (pm.nodup_iff.mpr (E5 ss [] jF))) (fun k=>k5.mem_iff.trans (mk k)) k6⟩
end L2
namespace L2
open PySem PySem.W PyProof.Rows
section
variable {prog:Program} {w:World} {A:Around} {E:Value->Shared->Prop} {s:Shared} {κ:SortKind} {lt:Keyed->Keyed->Bool} {a0:Array Keyed}
end
end L2
namespace L2
open PySem PySem.Spec PyProof.Rows
section
variable {prog:Program} {w:World} {A:Around} {E:Value->Shared->Prop} {s:Shared}
end
structure Fn (K:eV) (mg:Str->Option Value) (nm:Str) (st:Stmt) (ps:List Str) (f:Addr) (fd:FuncData):Prop where
 F:DT K nm nm st f fd
 mg:mg nm=some (.ref f)
 b:HG K fd ps []
structure OV (H:Hp) (m:Addr) (n:Nat) (xs:List Str) (ws:List A9):Prop where
 ex:∃ t1 t2:Addr,∃ vs:List V,H m=some (.tup [.ref t1,.ref t2])/\H t1=some (.tup (xs.map V.str))/\H t2=some (.tup vs)/\A2 H vs (ws.map Fj)
 len:xs.length=n
 nd:xs.Nodup
 nm:∀ x ∈ xs,AA x=true
 wl:ws.length<=100
 wn:∀ u ∈ ws,AA u.1=true/\AA u.2.1=true/\1<=u.2.2/\u.2.2 < 10 ^ 30
def iSeq (K:eV) (tl:TE):TI:=fun σ H R=>tl σ H fun x H1=>∃ a,x=.ref a/\(((∃ xs,Ba K H1 a xs)/\R (Itl K a) H1)\/((∃ xs,Az K H1 a xs)/\R (Q5 K a) H1))
theorem Ww {X:Cx} {tg l:Expr} {tl:TE} (hl:PE X l tl):PI X tg l (iSeq X.K tl):=by
 intro pins s σ H R I h;refine Bt (hl (pins:=pins) s σ H _ I h) fun v s1 ⟨x,H1,I1,r1,q1⟩=>?_
 obtain ⟨a,e,q1⟩:=q1;subst e;cases r1
 have fp:∀ b ∈ [s1.heap.objs.size],Em X pins H1 b:=fun b hb=>by
  have e:b=s1.heap.objs.size:=by simpa using hb
  subst e;exact I1.fpOk (fc _) (I1.hok.fresh (fc _))
 rcases q1 with ⟨⟨xs,hq⟩,q⟩ | ⟨⟨xs,hq⟩,q⟩
 ·obtain ⟨Ar,rv,p,hz⟩:=I1.list hq;refine wpAny_pyIter_list p.isList ?_;exact ⟨s1.heap.objs.size,[s1.heap.objs.size],_,_,H1,rfl,I1.kept (t':=s1.toks) fun b o e=>eT _ e,JZ a _,⟨_,fe _ rfl,rfl,rfl⟩,fp,q⟩
 ·obtain ⟨Ar,rv,p,hz⟩:=I1.tuple hq;refine wpAny_pyIter_tuple (show s1.heap.IsTuple a Ar.toArray from p) ?_;exact ⟨s1.heap.objs.size,[s1.heap.objs.size],_,_,H1,rfl,I1.kept (t':=s1.toks) fun b o e=>eT _ e,Ir a _,⟨_,fe _ rfl,rfl,rfl⟩,fp,q⟩
structure SM (J:It) (xs:List V) (S:Hp->Prop):Prop where
 go:∀ i H,S H->i < xs.length->J.go i H
 yld:∀ i H x H',S H->J.yld i H x H'->H'=H/\xs[i]? = some x
 stop:∀ H,S H->J.stop xs.length H
theorem C4 {K:eV} {a:Addr} {xs:List V}:SM (Itl K a) xs (fun H=>Ba K H a xs):=
 ⟨fun i H q B6=>⟨xs,xs[i],q,by simp [B6]⟩,fun i H x H' q y=>⟨y.1,y.2 xs q⟩,fun H q=>⟨xs,q,fc _⟩⟩
theorem Bm {K:eV} {a:Addr} {xs:List V}:SM (Q5 K a) xs (fun H=>Az K H a xs):=
 ⟨fun i H q B6=>⟨xs,xs[i],q,by simp [B6]⟩,fun i H x H' q y=>⟨y.1,y.2 xs q⟩,fun H q=>⟨xs,q,fc _⟩⟩
theorem Bb {J:It} {xs:List V} {S:Hp->Prop} {g:TG} {te:TE} {H:Hp} {σ0:St} {R:Addr->Hp->Prop} (ov:SM J xs S) (I:Addr->Nat->St->Hp->List V->Prop) (big:xs.length < sizeLine)
  (h0:∀ D,H D=none->I D 0 σ0 (upd H D (.lst [])) [])
  (hs:∀ D i σ H' acc,H D=none->I D i σ H' acc->S H'/\H' D=some (.lst acc)/\acc.length=i)
  (turn:∀ D i σ H' acc x (B:St->V->Hp->Prop),H D=none->xs[i]? = some x->I D i σ H' acc->(∀ A6 v H5,H5 D=some (.lst acc)->I D (i + 1) A6 (upd H5 D (.lst (acc ++ [v]))) (acc ++ [v])->B A6 v H5)->g x σ H' fun A6 H3=>te A6 H3 (B A6))
  (fin:∀ D σ H' acc,H D=none->I D xs.length σ H' acc->R D H') :
  ∀ D,H D=none->∃ W:Nat->Nat->St->Hp->Prop,(∃ m,W 0 m σ0 (upd H D (.lst []))) /\
   ∀ i m Av H',W i m Av H'->(J.stop i H'/\R D H')\/(J.go i H'/\∀ x H2,J.yld i H' x H2->g x Av H2 fun A6 H3=>J8 A6 H3 fun b H4=>
    if b=true then te A6 H4 (fun v H5=>∃ acc,H5 D=some (.lst acc)/\acc.length < sizeLine/\∃ m',m' < m/\W (i + 1) m' A6 (upd H5 D (.lst (acc ++ [v])))) else ∃ m',m' < m/\W (i + 1) m' A6 H4):=by
 intro D hD;exists fun i m σ H'=>m=xs.length - i/\i<=xs.length/\∃ acc,I D i σ H' acc,⟨xs.length,rfl,gr _,[],h0 D hD⟩
 rintro i m σ H' ⟨rfl,hi,acc,p⟩;obtain ⟨s1,s2,s3⟩:=hs D i σ H' acc hD p;by_cases B6:i < xs.length
 ·refine .inr ⟨ov.go i H' s1 B6,fun x H2 y=>?_⟩;obtain ⟨rfl,ex⟩:=ov.yld i H' x H2 s1 y;have e:∀ (F:St->V->Hp->Prop) (G:St->Hp->Prop),(fun (A6:St) (H3:Hp)=>J8 A6 H3 fun b H4=>if b=true then te A6 H4 (F A6) else G A6 H4)=fun A6 H3=>te A6 H3 (F A6):=by
   intro F G;funext A6 H3;show (if true=true then te A6 H3 (F A6) else G A6 H3)=_
   rw [if_pos rfl]
  rw [e (fun A6 v H5=>∃ acc,H5 D=some (.lst acc)/\acc.length < sizeLine/\∃ m',m' < xs.length - i/\(m'=xs.length - (i + 1)/\i + 1<=xs.length/\∃ FD,I D (i + 1) A6 (upd H5 D (.lst (acc ++ [v]))) FD)) (fun A6 H4=>∃ m',m' < xs.length - i/\(m'=xs.length - (i + 1)/\i + 1<=xs.length/\∃ FD,I D (i + 1) A6 H4 FD))];refine turn D i σ H2 acc x _ hD ex p fun A6 v H5 d5 p5=>?_
  exact ⟨acc,d5,by lia,xs.length - (i + 1),by lia,rfl,B6,_,p5⟩
 ·have e:i=xs.length:=by lia
  subst e;exact .inl ⟨ov.stop H' s1,fin D σ H' acc hD p⟩
abbrev AI:=Str × Int
def Ce (u:AI):PyData:=.tuple [.str u.1,.int u.2]
structure DQ (xs:List Str) (lo:Int) (rs:List AI):Prop where
 sub:∀ r ∈ rs,r.1 ∈ xs
 nd:(rs.map (·.1)).Nodup
 lo:∀ r ∈ rs,lo<=r.2/\r.2 < 10 ^ 30
 one:1<=rs.length
def rk (u:AI):List J2:=[.s u.1,.i u.2]
def VM (rs:List AI):Prop:=rs.Pairwise (fun u v=>B7 (rk v) (rk u)=false)
theorem Nk {H:Hp} {v:V} {u:AI} (h:F0 H v (Ce u)):∃ t,v=.ref t/\H t=some (.tup [.str u.1,.int u.2]):=by
 unfold Ce at h;cases h with
 | tup ha hd=>
  cases hd with
  | cons h1 r1=>
   cases r1 with
   | cons h2 r2=>
    cases r2
    cases h1
    cases h2
    exact ⟨_,rfl,ha⟩
theorem DI {H:Hp} {t:Addr} {u:AI} (h:H t=some (.tup [.str u.1,.int u.2])):F0 H (.ref t) (Ce u):=.tup h (.cons (.str _) (.cons (.int _) .nil))
theorem AH {H2 H3:Hp} {vs:List V} {rs:List AI} (h:A2 H2 vs (rs.map Ce)) (ht:∀ b xs,H2 b=some (.tup xs)->H3 b=some (.tup xs)):A2 H3 vs (rs.map Ce):=by
 induction rs generalizing vs with
 | nil=>cases h; exact .nil
 | cons u rs ih=>
  cases h with
  | cons h1 r=>
   obtain ⟨t,rfl,e⟩:=Nk h1;exact .cons (DI (ht _ _ e)) (ih r)
theorem Bn {H:Hp}:∀ {vs:List V} {rs:List AI} {i:Nat} {x:V},A2 H vs (rs.map Ce)->vs[i]? = some x->∃ u t,rs[i]? = some u/\x=.ref t/\H t=some (.tup [.str u.1,.int u.2])
 | _,[],i,x,.nil,e=>by simp at e
 | _,u :: rs,0,x,.cons h r,e=>by
  simp only [gF,fV.injEq] at e;subst e;obtain ⟨t,rfl,q⟩:=Nk h;exact ⟨u,t,rfl,rfl,q⟩
 | _,u :: rs,i + 1,x,.cons h r,e=>by
  obtain ⟨u',t,a,b,c⟩:=Bn r (by simpa using e);exact ⟨u',t,by simpa using a,b,c⟩
theorem A5 {H:Hp}:∀ {vs:List V} {rs:List AI},A2 H vs (rs.map Ce)->vs.length=rs.length
 | _,[],.nil=>rfl
 | _,u :: rs,.cons h r=>by rw [gH,gH,A5 r]
theorem Px {H:Hp} {vs Fp:List V} (p:Fp.Perm vs):∀ {rs:List AI},A2 H vs (rs.map Ce)->∃ LB:List AI,A2 H Fp (LB.map Ce)/\LB.Perm rs:=by
 induction p with
 | nil=>intro rs h; exact ⟨rs,h,.refl _⟩
 | cons x p ih=>
  intro rs h;cases rs with
  | nil=>cases h
  | cons u rs=>
   cases h with
   | cons h1 h2=>
    obtain ⟨LB,a,b⟩:=ih h2;exact ⟨u :: LB,.cons h1 a,b.cons u⟩
 | swap x y l=>
  intro rs h;cases rs with
  | nil=>cases h
  | cons u rs=>
   cases h with
   | cons h1 h2=>
    cases rs with
    | nil=>cases h2
    | cons v rs=>
     cases h2 with
     | cons h3 h4=>exact ⟨v :: u :: rs,.cons h3 (.cons h1 h4),.swap u v rs⟩
 | trans p1 p2 YX YW=>
  intro rs h;obtain ⟨Am,a1,b1⟩:=YW h;obtain ⟨Al,a2,b2⟩:=YX a1;exact ⟨Al,a2,b2.trans b1⟩
theorem Ru {H:Hp} {v:V} {u:AI} (h:F0 H v (Ce u)):NJ H (fun i=>decide (i < 1)) v/\JI H v=rk u:=by
 obtain ⟨t,rfl,ht⟩:=Nk h;exists ⟨t,_,rfl,ht,by simp,fun i y e=>?_⟩
 ·unfold K7;match i,e with
  | 0,e=>cases e; simp
  | 1,e=>cases e; simp
  | n + 2,e=>simp at e
 ·show (match H t with | some (.tup ys)=>ys.map LL | _=>[])=_
  rw [ht];rfl
theorem G2 {H:Hp}:∀ {vs:List V} {rs:List AI},A2 H vs (rs.map Ce)->(∀ v ∈ vs,NJ H (fun i=>decide (i < 1)) v)/\vs.map (JI H)=rs.map rk
 | _,[],.nil=>⟨(fun v hv=>nomatch hv),rfl⟩
 | _,u :: rs,.cons h r=>by
  obtain ⟨a1,a2⟩:=Ru h;obtain ⟨b1,b2⟩:=G2 r;refine ⟨fun v hv=>?_,by rw [fU,fU,a2,b2]⟩;rcases eX.mp hv with rfl | hv
  ·exact a1
  ·exact b1 v hv
theorem DQ.perm {xs:List Str} {lo:Int} {rs LB:List AI} (h:DQ xs lo rs) (p:LB.Perm rs):DQ xs lo LB:=
 ⟨fun r hr=>h.sub r (p.mem_iff.mp hr),(p.map (·.1)).nodup_iff.mpr h.nd,fun r hr=>h.lo r (p.mem_iff.mp hr),by rw [p.length_eq]; exact h.one⟩
def Lim (x:V) (d:PyData):Prop:=(x=.non/\d=.none)\/∃ i:Int,x=.int i/\d=.int i/\1<=i/\i < 10 ^ 30
end L2
namespace L2
open PySem PySem.Spec PySem.W PyProof.Rows
end L2
namespace L2
open PySem PySem.Spec PyProof.Rows
theorem KA {H H':Hp} {p:Addr} (hP:AG H p) (k:AM p H H'):∀ b ys,H b=some (.tup ys)->H' b=some (.tup ys):=fun b ys z=>k b _ (by
 obtain ⟨_,_,_,q⟩:=hP;exact C0 z q (fun y=>by cases y)) z
theorem OV.keepT {H H':Hp} {m:Addr} {n:Nat} {xs:List Str} {ws:List A9} (h:OV H m n xs ws) (t:∀ b ys,H b=some (.tup ys)->H' b=some (.tup ys)):OV H' m n xs ws:=by
 obtain ⟨ta,tb,vs,a,b,c,e⟩:=h.ex;exact ⟨⟨ta,tb,vs,t _ _ a,t _ _ b,t _ _ c,CY e t⟩,h.len,h.nd,h.nm,h.wl,h.wn⟩
theorem MX {x y x' y':Str} (p:[x',y'].Perm [x,y]) (h:sortedS [x',y']=true):x'=BZ x y/\y'=Cc x y:=by
 have h1:=Fc h;have h2:[BZ x y,Cc x y].Pairwise fun a b=>¬ b.cps.toList < a.cps.toList:=by
  refine List.pairwise_pair.mpr ?_;unfold BZ Cc;by_cases a:y.cps.toList < x.cps.toList
  ·rw [if_pos a,if_neg (fun z=>ET _ (jv a z))];exact fun z=>ET _ (jv a z)
  ·rw [if_neg a];by_cases b:x.cps.toList < y.cps.toList
   ·rw [if_pos b];exact a
   ·rw [if_neg b];exact ET _
 have p2:[BZ x y,Cc x y].Perm [x,y]:=by
  unfold BZ Cc;by_cases a:y.cps.toList < x.cps.toList
  ·rw [if_pos a,if_neg (fun z=>ET _ (jv a z))];exact .swap _ _ _
  ·rw [if_neg a];by_cases b:x.cps.toList < y.cps.toList
   ·rw [if_pos b]
   ·rw [if_neg b];have e:x=y:=CZ a b;rw [e]
 have e:=Kc h1 h2 (p.trans p2.symm);simp only [jm.injEq,and_true] at e;exact e
structure Gq (H:Hp) (m:Addr) (n:Nat) (ps:List Str) (ws:List A9):Prop where
 at':OV H m n ps ws
 dr:∃ (xs:List Str) (Gv:List A9),ps.Perm xs/\ws.Perm (Gv.map Ez)/\Du xs Gv
 so:sortedS ps=true
 l64:ws.length < 64
theorem Gq.web {H:Hp} {m:Addr} {n:Nat} {ps:List Str} {ws:List A9} (h:Gq H m n ps ws) (n1:1<=n) (n30:n<=30) :
  ∃ r,Ju H m ps ws r/\(∀ u ∈ ws,1<=u.2.2)/\(∀ x y l l',BV ws x y l->BV ws x y l'->l=l'):=by
 obtain ⟨xs,Gv,pp,wp,wof,sep,jn⟩:=h.dr;have pl:0 < ps.length:=by rw [h.at'.len]; lia
 have hr0:ps[0] ∈ xs:=pp.mem_iff.mp (gI pl);have en:=fun x y l=>Kw wp x y l
 refine ⟨ps[0],⟨⟨h.at'.ex⟩,h.at'.nd,by rw [h.at'.len]; lia,h.l64,fun u hu=>?_,eR pl,fun Sp hs hcl z hz=>?_⟩,fun u hu=>(h.at'.wn u hu).2.2.1,fun x y l l' e1 e2=>Qn sep ((en x y l).mp e1) ((en x y l').mp e2)⟩
 ·obtain ⟨q1,q2⟩:=Qm wp (fun u hu=>⟨(wof u hu).1,(wof u hu).2.1⟩) u hu;exact ⟨pp.mem_iff.mpr q1,pp.mem_iff.mpr q2⟩
 ·exact L8.all jn Sp (fun b c hbc=>hcl b c ((SH wp b c).mpr hbc)) hr0 hs z (pp.mem_iff.mp hz)
theorem Jc:∀ {ns:List Int} {us:List Value},AB (ns.map V.int) us->∃ ts:List (Int × Tok),us=ts.map (fun p=>Value.int p.1 p.2)/\ts.map (·.1)=ns
 | [],_,.nil=>⟨[],rfl,rfl⟩
 | n :: ns,_,.cons r q=>by
  obtain ⟨t,rfl⟩:=r;obtain ⟨ts,rfl,e⟩:=Jc q;exact ⟨(n,t) :: ts,rfl,by rw [fU,e]⟩
theorem JM {X:Cx} (hc:X.calm=true):Bv X (.builtin "sum") (fun xs H Q=>∃ (a:Addr) (ns:List Int),xs=[.ref a]/\Ba X.K H a (ns.map V.int)/\Q (.int ns.sum) H):=by
 intro pins s σ H xs us Q I r h;obtain ⟨a,ns,rfl,ha,q⟩:=h;obtain ⟨u,rfl,ru⟩:=Cq r;cases ru
 obtain ⟨Ar,rv,pl,hz⟩:=I.list ha;obtain ⟨ts,rfl,e⟩:=Jc rv;have hl:s.heap.IsList a (intItems ts.toArray):=by
  have:=pl.isList;unfold intItems;simpa using this
 refine sum_intListG (I.ok.hd hc) hl fun h' tk t' kk=>?_
 refine ⟨.int ns.sum,H,I.kept (t':=tk) kk,⟨t',?_⟩,q⟩;have:preSum (numAt ts.toArray) ts.toArray.size=ns.sum:=by
  rw [preSum_eq,gZ (by simp),<-e]
 rw [this]
theorem JH:typeLookup (.type "tuple") "keys"=pure none:=by rw [typeLookup_type,builtinLookup_eq_fast]; kernel_rfl
theorem Pj {prog:Program} {w:World} {A:Around} {E:Value->Shared->Prop} {s:Shared} {a:Addr} {o:Obj} {xs:Array Value} {k:Nat} {Q:Option Value->Shared->Prop}
  (hx:s.heap.get? a=some o) (hc:o.cls=.type "tuple") (hdat:o.data=.seq xs k) (hd:o.dict=none) (hA:A.handled=none)
  (h:∀ h' tk,(∀ b ob,s.heap.get? b=some ob->h'.get? b=some ob)->Q none { s with heap:=h',toks:=tk }):wpAny (model prog w) A (getAttr? (.ref a) "keys") Q E s:=by
 obtain ⟨c,dct,dat,sl⟩:=o;simp only at hc hdat hd;subst hc hdat hd;obtain ⟨hp,g,d,tk,os⟩:=s;have hT:∀ XJ,(⟨hp,g,d,XJ,os⟩:Shared).TypeIs (.ref a) "tuple":=fun _=>⟨_,hx,rfl⟩
 have f1:=sub_AttributeError;have f3:=F.slot_tuple_getattribute.lookup;have f4:=F.slot_tuple_getattribute.bind (.ref a);have f5:=am_tuple_getattr_none;unfold getAttr? getAttrBy? getAttrBy;repeat (any_goals (first | assumption | exact hT _ | ((with_reducible show wpAny _ _ (call (Value.builtin "tuple.__getattribute__") _ _) _ _ _); refine call_meets F.slot_tuple_getattribute (hT _) am_entry_tuple_getattribute (F.args_tuple_getattribute_2 _ _) (meets_getattribute_miss_tuple a xs k sl "keys" _ JH (by decide +kernel) (by decide +kernel)) ⟨hx,hA,fun h' XJ e My=>?_⟩) | wp_step))
 obtain ⟨t',u',he⟩:=My.there;show wpAny _ _ (getattributeRaised _ _ _ _ _ _ _) _ _ _
 unfold getattributeRaised;have hE:∀ XJ,(⟨h',g,d,XJ,os⟩:Shared).TypeIs (.ref e) "AttributeError":=fun _=>⟨_,he,rfl⟩
 repeat (any_goals (first | assumption | exact hE _ | wp_step))
 exact h _ _ My.keeps
section
variable {prog:Program} {w:World} {A:Around} {R:Result->Shared->Prop} {g0:Heap} {D it l:Addr} {vs:List Value} {ps:List (Str × V)}
theorem OY (hh:A.handled=none) (nI:it ≠ D) (nl:l ≠ it/\l ≠ D) (g1:∀ b o,g0.get? b=some o->b ≠ it/\b ≠ D) (hl:vs.length=ps.length) (rows:∀ (i:Nat) v p,vs[i]? = some v->ps[i]? = some p->VL g0 v p) (hsz:ps.length < sizeLine) :
  ∀ (m i:Nat) (s:Shared) (kvs:List (Bh × V)) (us:List (Bh × Value)),ps.length - i=m->i<=ps.length->s.heap.IsTupleIter it l i->s.heap.IsTuple l vs.toArray->KV kvs us->kvs.length<=i->s.heap.DictOf (AY prog w) D us->(∀ b o,g0.get? b=some o->s.heap.get? b=some o) ->
   (∀ h' tk LA,KV (IW kvs (sK (ps.drop i))) LA->h'.DictOf (AY prog w) D LA->(∀ b o,b ≠ it->b ≠ D->s.heap.get? b=some o->h'.get? b=some o)->R (.ok (.ret .none)) { s with heap:=h',toks:=tk }) ->
   codeAny (model prog w) A (.builtin "dict.update.loop" ⟨[.ref D,.ref it,.int (i:Int) 0,.none],[]⟩) R s:=by
 intro m;induction m with
 | zero=>
  intro i s kvs us hm hi st hL kv kl dd gk r;have e:i=ps.length:=by lia
  refine codeAny_builtin EW ?_;rw [Around.under_plainId Ct _];unfold Builtin.«dict.update.loop»;refine wpAny_bind (wpAny_pyNext_tuple_end hh st hL (by simp; lia) fun h' eb=>?_);refine wpAny_bind (wpAny_pure (wpAny_pure ?_));have MQ:h'.DictOf (AY prog w) D us:=dd.at fun o q=>eb D o (Ne.symm nI) q
  refine r h' s.toks us ?_ MQ fun b o b1 b2 q=>eb b o b1 q
  rw [e,List.drop_length];exact kv
 | succ m ih=>
  intro i s kvs us hm hi st hL kv kl dd gk r;have B6:i < ps.length:=by lia
  have ev:vs[i]? = some (vs[i]'(by lia)):=eR (by lia);have ep:ps[i]? = some ps[i]:=eR B6;obtain ⟨a,t,u,e1,ht,ru⟩:=rows i _ _ ev ep;rw [e1] at ev;refine codeAny_builtin EW ?_;rw [Around.under_plainId Ct _];unfold Builtin.«dict.update.loop»;refine wpAny_bind (wpAny_pyNext_tuple_item st hL (x:=.ref a) (by simpa using ev) fun h' AZ sb=>?_);obtain ⟨o,ho,hc,n,hd⟩:=id ht;have ha:=(sb.2 a (g1 a o ho).1).trans (gk a o ho);have MQ:h'.DictOf (AY prog w) D us:=dd.at fun o q=>(sb.2 D (Ne.symm nI)).trans q
  have L':h'.IsTuple l vs.toArray:=by
   obtain ⟨ol,hol,rl⟩:=hL;exact ⟨ol,(sb.2 l nl.1).trans hol,rl⟩
  refine wpAny_bind (wpAny_holding ?_);refine wpAny_bind (wpAny_tryCatch ?_);unfold Builtin.Dict.pairItems;refine wpAny_bind (wpAny_typeOf (T:="tuple") ⟨o,ha,hc⟩ ?_);rw [if_pos (by decide)];refine wpAny_bind (wpAny_seqItems ha hd (wpAny_pure ?_));show wpAny _ A.in1 (holding [Value.str ps[i].1 t,u] (dictSet D (Value.str ps[i].1 t) u)) _ _ _
  have bI:us.length<=sizeLine:=by rw [<-kv.length]; lia
  refine wpAny_holding (wpAny_dictSet_pairs (k:=Sum.inr ps[i].1) (hsz:=bI) (Hw prog w _ t) MQ fun h2 Td aD=>?_);have ki:((i:Int) + 1)=((i + 1:Nat):Int):=by lia
  refine wpAny_pure ⟨plainId_quiet Ct _,?_⟩;show codeAny (model prog w) A (.builtin "dict.update.loop" ⟨[.ref D,.ref it,.int ((i:Int) + 1) 0,.none],[]⟩) R _
  rw [ki];have kl2:=CA kvs (Sum.inr ps[i].1:Bh) ps[i].2;have it2:h2.IsTupleIter it l (i + 1):=by
   obtain ⟨oi,hoi,ri⟩:=AZ;exact ⟨oi,(aD.2 it nI).trans hoi,ri⟩
  refine ih (i + 1) _ (BJ kvs (Sum.inr ps[i].1) ps[i].2) _ (by lia) B6 it2 ?_ (kv.put (Sum.inr ps[i].1) ru) (by lia) Td (fun b ob q=>(aD.2 b (g1 b ob q).2).trans ((sb.2 b (g1 b ob q).1).trans (gk b ob q))) fun h3 VV us3 kv3 dd3 k3=>?_
  ·obtain ⟨ol,hol,rl⟩:=L';exact ⟨ol,(aD.2 l nl.2).trans hol,rl⟩
  ·refine r h3 VV us3 ?_ dd3 fun b ob b1 b2 q=>k3 b ob b1 b2 ((aD.2 b b2).trans ((sb.2 b b1).trans q))
   have ed:ps.drop i=ps[i] :: ps.drop (i + 1):=(jJ B6)
   rw [ed];exact kv3
end
section
variable {prog:Program} {w:World} {A:Around} {E:Value->Shared->Prop} {s:Shared}
theorem HX {l:Addr} {vs:List Value} {ps:List (Str × V)} {Q:Value->Shared->Prop} (hh:A.handled=none) {ol:Obj} {nl:Nat} (hl:s.heap.get? l=some ol) (hc:ol.cls=.type "tuple") (hd:ol.data=.seq vs.toArray nl) (hdc:ol.dict=none)
  (hlen:vs.length=ps.length) (rows:∀ (i:Nat) v p,vs[i]? = some v->ps[i]? = some p->VL s.heap v p) (hsz:ps.length < sizeLine)
  (h:∀ h' tk us,KV (IW [] (sK ps)) us->h'.DictOf (AY prog w) s.heap.objs.size us->(∀ b o,s.heap.get? b=some o->h'.get? b=some o)->Q (.ref s.heap.objs.size) { s with heap:=h',toks:=tk }):wpAny (model prog w) A (call (.type "dict") [.ref l]) Q E s:=by
 refine callType_codes (Q₁:=fun obj AV=>obj=.ref s.heap.objs.size/\AV = { s with heap:=s.heap.push { cls:=.type "dict",data:=.dict #[] } }) F.kt_called_dict (F.kt_typeCall_dict_1 _) F.entry_dict_init (kt_code_dict_new _ ⟨rfl,rfl⟩) ?_;rintro obj AV ⟨rfl,rfl⟩;have hnew:(s.heap.push { cls:=.type "dict",data:=.dict #[] }).DictOf (AY prog w) s.heap.objs.size []:=Heap.DictOf.new s.heap;have JK:(s.heap.push { cls:=.type "dict",data:=.dict #[] }).get? l=some ol:=eT _ hl;exists hnew.typeIs,F.args_dict_init_2 _ _;unfold Builtin.«dict.__init__»;refine wpAny_bind ?_;unfold Builtin.Dict.selfAndRest;refine wpAny_bind (wpAny_notOrdered_dict hnew.typeIs ?_);show wpAny _ _ (pure (s.heap.objs.size,[Value.ref l])) _ _ _
 refine wpAny_pure ?_;show wpAny _ _ (Builtin.Dict.updateFrom "dict.__init__" s.heap.objs.size (.ref l) [] .none) _ _ _
 unfold Builtin.Dict.updateFrom;refine wpAny_bind (wpAny_typeOf (T:="tuple") ⟨ol,JK,hc⟩ ?_);rw [if_pos (by decide)];refine wpAny_bind (Pj JK hc hd hdc hh fun h1 Pk k1=>?_);simp only [Option.isNone_none,if_true];refine wpAny_bind (wpAny_rule ?_);have Jz:h1.IsTuple l vs.toArray:=⟨ol,k1 _ _ JK,hc,nl,hd⟩
 refine wpAny_bind (wpAny_pyIter_tuple Jz ?_);have old:∀ b o,s.heap.get? b=some o->h1.get? b=some o:=fun b o q=>k1 b o (eT _ q)
 obtain ⟨od,esd,epd,hod,rd⟩:=id hnew;have bo:=k1 _ _ hod;have ltD:=fb bo;have ltl:=fb (k1 _ _ JK);refine wpAny_pure ⟨plainId_quiet Ct _,?_⟩;refine OY (A:=A.in1) (g0:=s.heap) (D:=s.heap.objs.size) (it:=h1.objs.size) (l:=l) (vs:=vs) (ps:=ps) hh (gB ltD) ⟨fj ltl,fj (fb hl)⟩ (fun b o q=>⟨fj (fb (old b o q)),fj (fb q)⟩) hlen rows hsz _ 0 { s with heap:=h1.push { cls:=.type "tuple_iterator",data:=.fields #[.ref l,.int 0 0] },toks:=Pk } [] [] rfl (gr _)
  ⟨_,fe _ rfl,rfl,rfl⟩ (Jz.push _) .nil (fc _) ⟨od,esd,epd,eT _ bo,rd⟩ (fun b o q=>eT _ (old b o q)) fun h' tk us kv dd kk=>?_
 rw [jk] at kv;exact ⟨rfl,h h' tk us kv dd fun b o q=>kk b o (fj (fb (old b o q))) (fj (fb q)) (eT _ (old b o q))⟩
end
theorem BX {X:Cx} (hc:X.calm=true):Bv X (.type "dict") (fun xs H Q=>∃ (a:Addr) (vs:List V) (ps:List (Str × V)),xs=[.ref a]/\H a=some (.tup vs)/\vs.length=ps.length/\(∀ (i:Nat) v p,vs[i]? = some v->ps[i]? = some p->∃ t,v=.ref t/\H t=some (.tup [.str p.1,p.2]))/\(ps.map (·.1)).Nodup/\ps.length < 1000 /\
  ∀ D,H D=none->Q (.ref D) (upd H D (.dK (sK ps)))):=by
 intro pins s σ H xs us Q I r h;obtain ⟨a,vs,ps,rfl,ha,hl,hk,hn,h1000,q⟩:=h;obtain ⟨u,rfl,ru⟩:=Cq r;cases ru
 obtain ⟨hz,Ar,rv,⟨o,ho,LC,n,hdat⟩,dn⟩:=(show AL X.prog X.w H s.heap a (.tup vs) from I.hok a _ ha)
 have Lu:=dn o ho;have il:Ar.length=ps.length:=by rw [<-rv.length,hl]
 have big:1000 < sizeLine:=by decide
 refine HX (I.ok.hd hc) (ps:=ps) ho LC hdat Lu il (fun i v p e1 e2=>?_) (by lia) fun h' tk us kv dd kk=>?_
 ·have hi:i < Ar.length:=(fh.mp e1).1;have e3:vs[i]? = some vs[i]:=eR (by lia);obtain ⟨v',e4,r4⟩:=rv.get e3;rw [e1] at e4;cases e4
  obtain ⟨t,e5,ht⟩:=hk i _ p e3 e2;rw [e5] at r4;cases r4
  obtain ⟨JJ,XX,pl2,_⟩:=I.tuple (Az.of ht);cases XX with
  | cons x1 y1=>
   cases y1 with
   | cons x2 y2=>
    cases y2
    obtain ⟨t1,rfl⟩:=x1;exact ⟨t,t1,_,rfl,pl2,x2⟩
 ·have em:IW [] (sK ps)=sK ps:=Mv ps [] (by simpa using hn);rw [em] at kv;refine ⟨.ref s.heap.objs.size,_,I.laid (a:=s.heap.objs.size) (o:=.dK (sK ps)) (t':=tk) kk (fc _) (Ly (by rw [CH]; lia) (beq_eq_false_iff_ne.mpr (Ne.symm (fj I.big))) kv dd),rfl,q _ (I.hok.fresh (fc _))⟩
structure Cz (H:Hp) (c m:Addr) (n:Nat) (xs:List Str) (ws:List A9) (Am Al:List AI) (x:V) (d:PyData):Prop where
 ex:∃ (t1 t2:Addr) (Fl FK:List V),H c=some (.tup [.ref m,.ref t1,.ref t2,x])/\H t1=some (.tup Fl)/\A2 H Fl (Am.map Ce)/\H t2=some (.tup FK)/\A2 H FK (Al.map Ce)
 map:Gq H m n xs ws
 n1:1<=n
 n30:n<=30
 ok1:DQ xs 0 Am
 ok2:DQ xs 1 Al
 l1:Am.length<=10
 l2:Al.length<=30
 lim:Lim x d
theorem Gq.keepT {H H':Hp} {m:Addr} {n:Nat} {xs:List Str} {ws:List A9} (h:Gq H m n xs ws) (t:∀ b ys,H b=some (.tup ys)->H' b=some (.tup ys)):Gq H' m n xs ws:=⟨h.at'.keepT t,h.dr,h.so,h.l64⟩
theorem Cz.keepT {H H':Hp} {c m:Addr} {n:Nat} {xs:List Str} {ws:List A9} {Am Al:List AI} {x:V} {d:PyData} (h:Cz H c m n xs ws Am Al x d) (t:∀ b ys,H b=some (.tup ys)->H' b=some (.tup ys)):Cz H' c m n xs ws Am Al x d:=by
 obtain ⟨t1,t2,Fl,FK,a,b,e,f,g⟩:=h.ex;exact ⟨⟨t1,t2,Fl,FK,t _ _ a,t _ _ b,AH e t,t _ _ f,AH g t⟩,h.map.keepT t,h.n1,h.n30,h.ok1,h.ok2,h.l1,h.l2,h.lim⟩
theorem Cz.same {H H':Hp} {c m:Addr} {n:Nat} {xs:List Str} {ws:List A9} {Am Al:List AI} {x:V} {d:PyData} (h:Cz H c m n xs ws Am Al x d) (s:Aq H H'):Cz H' c m n xs ws Am Al x d:=h.keepT fun b ys z=>s _ _ z
def GU (rs:List AI) (h:Str):Int:=((rs.find? fun r=>decide (r.1=h)).map (·.2)).getD 0
theorem E6 {rs:List AI} (h:(rs.map (·.1)).Nodup) {r:AI} (hr:r ∈ rs):GU rs r.1=r.2:=by
 induction rs with
 | nil=>exact nomatch hr
 | cons q rs ih=>
  rw [fU,gG] at h;unfold GU;rw [ic];by_cases e:q.1=r.1
  ·rw [decide_eq_true e];rcases eX.mp hr with z | z
   ·rw [z]; rfl
   ·exact absurd (fi.mpr ⟨_,z,e.symm⟩) h.1
  ·rw [decide_eq_false e];rcases eX.mp hr with z | z
   ·rw [z] at e; exact absurd rfl e
   ·exact ih h.2 z
def BW (rs:List AI):List (Str × V):=rs.map fun r=>(r.1,.int r.2)
theorem CW (rs:List AI):(BW rs).map (·.1)=rs.map (·.1):=by unfold BW; rw [gL]; rfl
theorem Ie {H:Hp} {us:List V} {rs:List AI} (h:A2 H us (rs.map Ce)):∀ (i:Nat) v p,us[i]? = some v->(BW rs)[i]? = some p->∃ t,v=.ref t/\H t=some (.tup [.str p.1,p.2]):=fun i v p e1 e2=>by
 obtain ⟨u,t,eu,rfl,ht⟩:=Bn h e1;unfold BW at e2;rw [eZ,eu] at e2;cases e2
 exact ⟨t,rfl,ht⟩
theorem IC {H:Hp} {B:Addr} {rs:List AI} (h:H B=some (.dK (sK (BW rs)))) (nd:(rs.map (·.1)).Nodup) {y:Str} (hy:y ∈ rs.map (·.1)):Cp H B (.str y) (some (.int (GU rs y))):=by
 obtain ⟨r,hr,rfl⟩:=fi.mp hy;rw [E6 nd hr];exact .inl ⟨_,Sum.inr r.1,.inl h,rfl,(DH (nv:=BW rs) (by rw [CW]; exact nd) (fi.mpr ⟨r,hr,rfl⟩)).symm⟩
theorem Dw {h h':Heap} {a t:Addr} {i:Nat} (x:h.IsTupleIter a t i) (e:∀ o,h.get? a=some o->h'.get? a=some o):h'.IsTupleIter a t i:=let ⟨o,ho,r⟩:=x; ⟨o,e _ ho,r⟩
section
variable {prog:Program} {w:World} {A:Around} {E:Value->Shared->Prop} {s:Shared}
theorem Cu {it l:Addr} {i:Nat} {items} {x:Value} {Q:Value->Shared->Prop} (hit:s.heap.IsTupleIter it l i)
  (hl:s.heap.IsTuple l items) (hx:items[i]? = some x)
  (hQ:∀ h',h'.IsTupleIter it l (i + 1)->Heap.SameBut it s.heap h'->Q x { s with heap:=h' }) :
  wpAny (model prog w) A (Builtin.SmallTypes.nextOf (.ref it)) Q E s:=by
 obtain ⟨o,ho,hc,hd⟩:=id hit;obtain ⟨ol,hol,_,nl,hdl⟩:=hl;unfold Builtin.SmallTypes.nextOf;refine wpAny_bind (wpAny_callSpecial?_slot (name:=Str.ofString "__next__") hit.typeIs F.slot_tuple_iterator_next
  (wpAny_call_entry F.slot_tuple_iterator_next hit.typeIs F.entry_tuple_iterator_next ?_ (F.args_tuple_iterator_next_1 _)))
 show wpAny _ _ (field (.ref it) 0 >>= _) _ _ s
 refine wpAny_bind (wpAny_field ho hd (x:=.ref l) rfl ?_);show wpAny _ _ (if (Value.ref l == Value.none)=true then _ else _) _ _ s
 rw [if_neg (show ¬ ((Value.ref l == Value.none)=true) from fH)];show wpAny _ _ (field (.ref it) 1 >>= _) _ _ s
 refine wpAny_bind (wpAny_field ho hd (x:=.int i 0) rfl ?_);show wpAny _ _ (seqItems? (.ref l) >>= _) _ _ s
 refine wpAny_bind (wpAny_seqItems hol hdl ?_);simp only [j4,hx];refine wpAny_bind (wpAny_setField ho hd (by simp) (wpAny_pure ⟨x,rfl,wpAny_pure (hQ _ ?_ (Heap.SameBut.update ..))⟩));exact ⟨_,gA _ ho (Obj.isFreed_of_fields (Obj.data_mapFields hd _)),(Obj.cls_mapFields ..).trans hc,by
  rw [Obj.data_mapFields hd]; simp [rawInt]⟩
theorem Eg {it l:Addr} {i:Nat} {items} {Q:Value->Shared->Prop} (hh:A.handled=none)
  (hit:s.heap.IsTupleIter it l i) (hl:s.heap.IsTuple l items) (hx:items[i]? = none)
  (hE:∀ h' e,Heap.ExtBut it s.heap h'->(∃ o,h'.get? e=some o/\o.cls=.type "StopIteration")->E (.ref e) { s with heap:=h' }) :
  wpAny (model prog w) A (Builtin.SmallTypes.nextOf (.ref it)) Q E s:=by
 obtain ⟨o,ho,hc,hd⟩:=id hit;obtain ⟨ol,hol,_,nl,hdl⟩:=hl;unfold Builtin.SmallTypes.nextOf;refine wpAny_bind (wpAny_callSpecial?_slot (name:=Str.ofString "__next__") hit.typeIs F.slot_tuple_iterator_next
  (wpAny_call_entry F.slot_tuple_iterator_next hit.typeIs F.entry_tuple_iterator_next ?_ (F.args_tuple_iterator_next_1 _)))
 show wpAny _ _ (field (.ref it) 0 >>= _) _ _ s
 refine wpAny_bind (wpAny_field ho hd (x:=.ref l) rfl ?_);show wpAny _ _ (if (Value.ref l == Value.none)=true then _ else _) _ _ s
 rw [if_neg (show ¬ ((Value.ref l == Value.none)=true) from fH)];show wpAny _ _ (field (.ref it) 1 >>= _) _ _ s
 refine wpAny_bind (wpAny_field ho hd (x:=.int i 0) rfl ?_);show wpAny _ _ (seqItems? (.ref l) >>= _) _ _ s
 refine wpAny_bind (wpAny_seqItems hol hdl ?_);simp only [j4,hx];refine wpAny_bind (wpAny_rule (wpAny_bind (wpAny_setField ho hd (by simp) ?_)));show wpAny _ _ (newExc (.type "StopIteration") [] >>= _) _ _ _
 refine wpAny_bind ?_;simp only [newExc,newTuple];refine wpAny_bind (wpAny_newObj_type ?_ (by size_fits));refine wpAny_bind (m:=firstArgMember _ _) (wpAny_of_eq (a:=Value.none) (by first | rfl | (simp only [firstArgMember]; rfl)) ?_);refine wpAny_newObj_type ?_ (by size_fits);simp only [raiseNew];refine wpAny_bind (wpAny_handled ?_);first | rw [show A.in1.handled=none from hh] | rw [hh]
 refine wpAny_bind (wpAny_pure (wpAny_throw ?_));exact hE _ _ (((Heap.SameBut.update ..).extBut.push _).push _) ⟨_,fe _ rfl,rfl⟩
end
section
variable {prog:Program} {w:World} {A:Around} {E:Value->Shared->Prop} {s:Shared}
end
theorem As.turnedT {X:Cx} {pins:List (Addr × Obj)} {σ:St} {H:Hp} {s:Shared} {h':Heap} {t':Nat} {fp:List Addr} {xs:List V} (I:As X pins σ H s) (hf:∀ b ∈ fp,Em X pins H b)
  (k:∀ b o,b ∉ fp->s.heap.get? b=some o->h'.get? b=some o) (new:AL X.prog X.w (upd H s.heap.objs.size (.tup xs)) h' s.heap.objs.size (.tup xs)) :
  As X pins σ (upd H s.heap.objs.size (.tup xs)) { s with heap:=h',toks:=t' }:=by
 have hT:H s.heap.objs.size=none:=I.hok.fresh (fc _);have fT:=I.fpOk (fc _) hT;have nT:∀ b o,s.heap.get? b=some o->b ≠ s.heap.objs.size:=fun b o e z=>absurd (fb e) (by rw [z]; exact gC _)
 have nH:∀ b u,H b=some u->b ∉ fp:=fun b u e z=>by rw [(hf b z).1] at e; cases e
 refine I.step (g':=s.gens) (d':=s.drawn) (ch:=s.heap.objs.size :: fp) (fun b hb=>?_) (fun b o _ _ hc e _=>k b o (fun z=>hc (fK _ z)) e) (fun b o _ _ hc e _=>⟨o.slots,k b o (fun z=>hc (fK _ z)) e⟩)
  (fun b o hc e n=>by rw [Ae (nT b o e)]; exact n) (fun b o hc e=>⟨o,k b o (fun z=>hc (fK _ z)) e⟩)
  (fun b xs e=>by rw [Ae (Ah e hT)]; exact e) (fun b o u e=>by rw [Ae (Ah e hT)]; exact e) (fun b ps e=>⟨#[],by rw [Ae (Ah e hT),e]; simp⟩) (fun m hm=>?_) (fun b u e=>?_) I.bare
 ·rcases eX.mp hb with rfl | hb
  ·obtain ⟨_,f1,_,f3,f4,f5⟩:=fT;exact ⟨f3,f1,f4,f5⟩
  ·obtain ⟨_,f1,_,f3,f4,f5⟩:=hf b hb;exact ⟨f3,f1,f4,f5⟩
 ·obtain ⟨o,es,ep,ho,r⟩:=hm;exact ⟨o,es,ep,k _ o (fun z=>(hf _ z).2.1 rfl) ho,r⟩
 ·by_cases z:b=s.heap.objs.size
  ·subst z;rw [Ab] at e;cases e
   exact new
  ·rw [Ae z] at e;refine (I.hok b u e).stay (fun c v hc q=>k c v ?_ q) (fun c q=>by rw [Ae (Ah q hT)]; exact q) fun c xs q=>by rw [Ae (Ah q hT)]; exact q
   rcases hc with z | z
   ·rw [z]; exact nH b u e
   ·exact nH c _ z
theorem As.turnedL {X:Cx} {pins:List (Addr × Obj)} {σ:St} {H:Hp} {s:Shared} {h':Heap} {t':Nat} {fp:List Addr} (I:As X pins σ H s) (hf:∀ b ∈ fp,Em X pins H b)
  (k:∀ b o,b ∉ fp->s.heap.get? b=some o->h'.get? b=some o):As X pins σ H { s with heap:=h',toks:=t' }:=by
 have nH:∀ b u,H b=some u->b ∉ fp:=fun b u e z=>by rw [(hf b z).1] at e; cases e
 refine I.step (g':=s.gens) (d':=s.drawn) (ch:=fp) (fun b hb=>?_) (fun b o _ _ hc e _=>k b o hc e) (fun b o _ _ hc e _=>⟨o.slots,k b o hc e⟩) (fun _ _ _ _ n=>n)
  (fun b o hc e=>⟨o,k b o hc e⟩) (fun _ _ e=>e) (fun _ _ _ e=>e) (fun b ps e=>⟨#[],by rw [e]; simp⟩) (fun m hm=>?_) (fun b u e=>?_) I.bare
 ·obtain ⟨_,f1,_,f3,f4,f5⟩:=hf b hb;exact ⟨f3,f1,f4,f5⟩
 ·obtain ⟨o,es,ep,ho,r⟩:=hm;exact ⟨o,es,ep,k _ o (fun z=>(hf _ z).2.1 rfl) ho,r⟩
 ·refine (I.hok b u e).stay (fun c v hc q=>k c v ?_ q) (fun _ q=>q) fun _ _ q=>q
  rcases hc with z | z
  ·rw [z]; exact nH b u e
  ·exact nH c _ z
theorem JO {X:Cx} (hc:X.calm=true) (hu:X.A.units + 64 < cLine):Bv X (.builtin "min") (fun xs H Q=>∃ (a:Addr) (vs:List V) (ks:List (Int × Str)),xs=[.ref a]/\H a=some (.lst vs)/\vs.length=ks.length/\ks ≠ []/\(∀ (i:Nat) v k,vs[i]? = some v->ks[i]? = some k->Jv H v k) /\
  ∀ v k,k ∈ ks->Jv H v k->(∀ k' ∈ ks,Dx k k')->Q v H):=by
 intro pins s σ H xs us Q I r h;obtain ⟨a,vs,ks,rfl,ha,hl,hne,hk,q⟩:=h;obtain ⟨u,rfl,ru⟩:=Cq r;cases ru
 obtain ⟨Ar,rv,pl,hz⟩:=I.list (Ba.of ha);have il:Ar.length=ks.length:=by rw [<-rv.length,hl]
 have pos:0 < ks.length:=iI.mpr hne;have kat:∀ (i:Nat) (v:Value),Ar[i]? = some v->∃ k,ks[i]? = some k/\Dv s.heap v k/\∃ x,vs[i]? = some x/\AD x v:=fun i v e=>by
  have hi:i < Ar.length:=(fh.mp e).1;have e1:vs[i]? = some vs[i]:=eR (by lia);have e2:ks[i]? = some ks[i]:=eR (by lia);obtain ⟨v',e3,r3⟩:=rv.get e1;rw [e] at e3;cases e3
  exact ⟨_,e2,(hk i _ _ e1 e2).at I r3,_,e1,r3⟩
 refine GC (bt:=fun i j=>Qd (ks.getD i default) (ks.getD j default)) (I.ok.hd hc) pl.isList (by lia) (fun i j vi vj s' Q' E' g hi hj hQ=>?_) fun v h2 tk hv k2=>?_
 ·obtain ⟨ki,e1,a1,_⟩:=kat i vi hi;obtain ⟨kj,e2,a2,_⟩:=kat j vj hj;have d1:ks.getD i default=ki:=by rw [fS,e1]; rfl
  have d2:ks.getD j default=kj:=by rw [fS,e2]; rfl
  dsimp only at hQ;rw [d1,d2] at hQ;exact Ll (a1.keep g) (a2.keep g) (by rw [PySem.Around.in1_units]; lia) _ _ _ _ hQ
 ·obtain ⟨k,e1,a1,x,e3,r3⟩:=kat _ v hv;obtain ⟨b1,b2⟩:=EY (fun i j=>Qd (ks.getD i default) (ks.getD j default)) (fun i=>ks.getD i default) (fun _ _=>Lm) (fun _ _=>Ln) (Ar.length - 1);refine ⟨x,H,I.kept k2,r3,q x k (eW e1) (hk _ x k e3 e1) fun k' SY=>?_⟩;obtain ⟨j,hj,ej⟩:=fY SY;have:=b2 j (by lia);have d1:ks.getD (argBest (fun i j=>Qd (ks.getD i default) (ks.getD j default)) (Ar.length - 1)) default=k:=by rw [fS,e1]; rfl
  have d2:ks.getD j default=k':=by rw [fS,eR hj,ej]; rfl
  rw [d1,d2] at this;exact this
def DL (H:Hp) (A:Addr) (xs:List Str) (ws:List A9):Prop:=∃ (M:Str->Str->Option Int) (c:Nat),MD H A M c/\∀ x ∈ xs,∀ y ∈ xs,∃ n,M x y=some n/\LD ws x y n/\0<=n/\n < 2 ^ 300
theorem DL.same {H H':Hp} {A:Addr} {xs:List Str} {ws:List A9} (h:DL H A xs ws) (s:Aq H H'):DL H' A xs ws:=let ⟨M,c,a,b⟩:=h; ⟨M,c,a.same s,b⟩
theorem EM {J:It} {xs:List V} {S:Hp->Prop} {g:TG} {tt:TT} {te:TE} {H:Hp} {σ0:St} {R:Addr->Hp->Prop} (ov:SM J xs S) (I:Addr->Nat->St->Hp->List V->Prop) (big:xs.length < sizeLine)
  (h0:∀ D,H D=none->I D 0 σ0 (upd H D (.lst [])) [])
  (hs:∀ D i σ H' acc,H D=none->I D i σ H' acc->S H'/\H' D=some (.lst acc)/\acc.length<=i)
  (turn:∀ D i σ H' acc x (B:St->V->Hp->Prop) (N:St->Hp->Prop),H D=none->xs[i]? = some x->I D i σ H' acc->(∀ A6 v H5,H5 D=some (.lst acc)->I D (i + 1) A6 (upd H5 D (.lst (acc ++ [v]))) (acc ++ [v])->B A6 v H5) ->
   (∀ A6 H4,I D (i + 1) A6 H4 acc->N A6 H4)->g x σ H' fun A6 H3=>tt A6 H3 fun b H4=>if b=true then te A6 H4 (B A6) else N A6 H4)
  (fin:∀ D σ H' acc,H D=none->I D xs.length σ H' acc->R D H') :
  ∀ D,H D=none->∃ W:Nat->Nat->St->Hp->Prop,(∃ m,W 0 m σ0 (upd H D (.lst []))) /\
   ∀ i m Av H',W i m Av H'->(J.stop i H'/\R D H')\/(J.go i H'/\∀ x H2,J.yld i H' x H2->g x Av H2 fun A6 H3=>tt A6 H3 fun b H4=>
    if b=true then te A6 H4 (fun v H5=>∃ acc,H5 D=some (.lst acc)/\acc.length < sizeLine/\∃ m',m' < m/\W (i + 1) m' A6 (upd H5 D (.lst (acc ++ [v])))) else ∃ m',m' < m/\W (i + 1) m' A6 H4):=by
 intro D hD;exists fun i m σ H'=>m=xs.length - i/\i<=xs.length/\∃ acc,I D i σ H' acc,⟨xs.length,rfl,gr _,[],h0 D hD⟩
 rintro i m σ H' ⟨rfl,hi,acc,p⟩;obtain ⟨s1,s2,s3⟩:=hs D i σ H' acc hD p;by_cases B6:i < xs.length
 ·refine .inr ⟨ov.go i H' s1 B6,fun x H2 y=>?_⟩;obtain ⟨rfl,ex⟩:=ov.yld i H' x H2 s1 y;refine turn D i σ H2 acc x (fun A6 v H5=>∃ acc,H5 D=some (.lst acc)/\acc.length < sizeLine/\∃ m',m' < xs.length - i/\(m'=xs.length - (i + 1)/\i + 1<=xs.length/\∃ FD,I D (i + 1) A6 (upd H5 D (.lst (acc ++ [v]))) FD)) (fun A6 H4=>∃ m',m' < xs.length - i/\(m'=xs.length - (i + 1)/\i + 1<=xs.length/\∃ FD,I D (i + 1) A6 H4 FD)) hD ex p (fun A6 v H5 d5 p5=>?_) fun A6 H4 p4=>?_
  ·exact ⟨acc,d5,by lia,xs.length - (i + 1),by lia,rfl,B6,_,p5⟩
  ·exact ⟨xs.length - (i + 1),by lia,rfl,B6,_,p4⟩
 ·have e:i=xs.length:=by lia
  subst e;exact .inl ⟨ov.stop H' s1,fin D σ H' acc hD p⟩
theorem Bq.app' {ws:List A9} {x y z:Str} {m n:Int} (h:Bq ws x y m) (g:Bq ws y z n):Bq ws x z (m + n):=by
 induction h with
 | nil x=>rw [je]; exact g
 | cons e _ ih=>rw [jO]; exact .cons e (ih g)
theorem Ny {xs:List Str} {ws:List A9} (jn:L8 xs ws) {L:Int} (L0:0<=L) (hL:∀ u ∈ ws,u.2.2<=L) (hp:∀ u ∈ ws,1<=u.2.2) {r:Str} (hr:xs[0]? = some r):∀ (j:Nat) x,xs[j]? = some x->∃ m,Bq ws x r m/\0<=m/\m<=j * L:=by
 intro j;induction j using Nat.strongRecOn with
 | ind j ih=>
  intro x hx;by_cases z:j=0
  ·subst z;rw [hr] at hx;cases hx
   exact ⟨0,.nil _,gJ _,by simp⟩
  ·obtain ⟨u,hu,i,hij,e1,e2⟩:=jn j (by lia) (fh.mp hx).1;rw [hx] at e2;cases e2
   obtain ⟨m,w,m0,ml⟩:=ih i hij _ e1;have hl:=hL u hu;have hq:=hp u hu;exists u.2.2 + m,.cons ⟨u,hu,.inr ⟨rfl,rfl⟩,rfl⟩ w,by lia
   have:((i:Int) + 1) * L<=j * L:=iF (by lia) L0;rw [Int.add_mul,Int.one_mul] at this;lia
theorem Gq.sums {H:Hp} {m:Addr} {n:Nat} {ps:List Str} {ws:List A9} (h:Gq H m n ps ws) (n1:1<=n) (n30:n<=30):∀ x ∈ ps,∀ y ∈ ps,∃ k,Bq ws x y k/\0<=k/\k < 2 ^ 300:=by
 obtain ⟨xs,Gv,pp,wp,wof,sep,jn⟩:=h.dr;have en:=fun x y l=>Kw wp x y l
 have xl:xs.length=n:=by rw [<-pp.length_eq]; exact h.at'.len
 have hr:xs[0]? = some (xs[0]'(by lia)):=eR _;have hL:∀ u ∈ Gv,u.2.2<=10 ^ 30:=fun u hu=>by
  have:=(h.at'.wn (Ez u) (wp.mem_iff.mpr (fi.mpr ⟨u,hu,rfl⟩))).2.2.2;have e:(Ez u).2.2=u.2.2:=rfl;lia
 have one:∀ x ∈ ps,∃ k,Bq Gv x (xs[0]'(by lia)) k/\0<=k/\k<=30 * 10 ^ 30:=fun x hx=>by
  obtain ⟨j,hj,ej⟩:=fY (pp.mem_iff.mp hx);obtain ⟨k,a,b,c⟩:=Ny jn (by decide) hL (fun u hu=>(wof u hu).2.2.2) hr j x (by rw [eR hj,ej]);refine ⟨k,a,b,ly c (iF (by lia) (by decide))⟩
 intro x hx y hy;obtain ⟨k1,a1,b1,c1⟩:=one x hx;obtain ⟨k2,a2,b2,c2⟩:=one y hy;have a3:=(QF en).mpr (Bq.app' a1 a2.symm);exact ⟨k1 + k2,a3,by lia,by lia⟩
theorem Bq.pos' {ws:List A9} (hp:∀ u ∈ ws,1<=u.2.2) {x y:Str} {m:Int} (h:Bq ws x y m):0<=m:=by
 induction h with
 | nil=>exact gJ _
 | cons e _ ih=>obtain ⟨u,hu,_,rfl⟩:=e; have:=hp u hu; lia
theorem Gq.bound {H:Hp} {m:Addr} {n:Nat} {ps:List Str} {ws:List A9} (h:Gq H m n ps ws) (n1:1<=n) (n30:n<=30) {x y:Str} (hx:x ∈ ps) (hy:y ∈ ps) {k:Int} (d:LD ws x y k):0<=k/\k < 2 ^ 300:=by
 obtain ⟨k',a,_,c⟩:=h.sums n1 n30 x hx y hy;exact ⟨d.1.pos' fun u hu=>(h.at'.wn u hu).2.2.1,kM (d.2 k' a) c⟩
theorem FW.doneW {ws:List A9} {xs:List Str} (he:∀ u ∈ ws,u.1 ∈ xs/\u.2.1 ∈ xs) (ex:∀ x ∈ xs,∀ y ∈ xs,∃ m,Bq ws x y m) {M:Str->Str->Option Int} (h:FW ws xs xs.length M):∀ x ∈ xs,∀ y ∈ xs,∃ n,M x y=some n/\LD ws x y n:=by
 intro x hx y hy;obtain ⟨m,hm⟩:=ex x hx y hy;have low:∀ m,Bq ws x y m->∃ n,M x y=some n/\n<=m:=fun m g=>by
  rcases g.wi he with ⟨rfl,rfl⟩ | g
  ·exact h.diag x hx
  ·refine h.comp x y m ?_;rw [fZ];exact g
 obtain ⟨n,e,_⟩:=low m hm;refine ⟨n,e,h.sound x y n e,fun m' g=>?_⟩;obtain ⟨n',e',l⟩:=low m' g;rw [e] at e';cases e'
 exact l
theorem Gq.apart {H:Hp} {m:Addr} {n:Nat} {ps:List Str} {ws:List A9} (h:Gq H m n ps ws) {u:A9} (hu:u ∈ ws):u.1 ≠ u.2.1:=by
 obtain ⟨xs,Gv,pp,wp,wof,_⟩:=h.dr;obtain ⟨v,hv,rfl⟩:=fi.mp (wp.mem_iff.mp hu);have ne:=(wof v hv).2.2.1;show BZ v.1 v.2.1 ≠ Cc v.1 v.2.1
 unfold BZ Cc;by_cases a:v.2.1.cps.toList < v.1.cps.toList
 ·rw [if_pos a,if_neg (fun z=>ET _ (jv a z))];exact fun z=>ne z.symm
 ·rw [if_neg a];by_cases b:v.1.cps.toList < v.2.1.cps.toList
  ·rw [if_pos b]; exact ne
  ·exact absurd (CZ a b) ne
end L2
namespace L2
open PySem
theorem Sx {K:eV} {a:Addr} {xs:List V} {g:TG} {tb:TS} {D:Gr} {σ:St} {H:Hp} (Pv:Nat->St->Hp->Prop) (h0:Pv 0 σ H) (hl:∀ i σ H,i<=xs.length->Pv i σ H->Az K H a xs)
  (hs:∀ i x σ H,xs[i]? = some x->Pv i σ H->∀ (rt:VK) (bk:St->Hp->Prop),g x σ H fun A6 H2=>tb ⟨Pv (i + 1),rt,bk,Pv (i + 1)⟩ A6 H2) (hd:∀ σ H,Pv xs.length σ H->D.nx σ H) :
  ∃ W:Nat->Nat->St->Hp->Prop,(∃ m,W 0 m σ H)/\∀ i m σ H,W i m σ H ->
   ((Q5 K a).stop i H/\D.nx σ H)\/((Q5 K a).go i H/\∃ N:St->Hp->Prop,(∀ Av H',N Av H'->∃ m',m' < m/\W (i + 1) m' Av H')/\∀ x H',(Q5 K a).yld i H x H'->g x σ H' fun A6 H2=>tb { D with nx:=N,ct:=N,bk:=D.nx } A6 H2):=
 OL Pv h0 hl (fun i x σ H hx hp=>hs i x σ H hx hp D.rt D.nx) hd
theorem Ql {a:Addr} {kvs:List (Bh × V)} {o:Obj} {g:TG} {tb:TS} {D:Gr} {σ:St} {H:Hp} (Pv:Nat->St->Hp->Prop) (h0:Pv 0 σ H) (hl:∀ i σ H,i<=kvs.length->Pv i σ H->H a=some (.frz o (.dK kvs)))
  (hs:∀ i k v σ H,kvs[i]? = some (k,v)->Pv i σ H->∀ (rt:VK) (bk:St->Hp->Prop),g (kV k) σ H fun A6 H2=>tb ⟨Pv (i + 1),rt,bk,Pv (i + 1)⟩ A6 H2) (hd:∀ σ H,Pv kvs.length σ H->D.nx σ H) :
  ∃ W:Nat->Nat->St->Hp->Prop,(∃ m,W 0 m σ H)/\∀ i m σ H,W i m σ H ->
   ((VO a kvs o).stop i H/\D.nx σ H)\/((VO a kvs o).go i H/\∃ N:St->Hp->Prop,(∀ Av H',N Av H'->∃ m',m' < m/\W (i + 1) m' Av H')/\∀ x H',(VO a kvs o).yld i H x H'->g x σ H' fun A6 H2=>tb { D with nx:=N,ct:=N,bk:=D.nx } A6 H2):=
 Sy Pv h0 hl (fun i k v σ H hx hp=>hs i k v σ H hx hp D.rt D.nx) hd
theorem CD {K:eV} {a:Addr} {xs:List V} {g:TG} {tb:TS} {D:Gr} {σ:St} {H:Hp} (Pv:Nat->St->Hp->Prop) (h0:Pv 0 σ H) (hl:∀ i σ H,i<=xs.length->Pv i σ H->Az K H a xs)
  (hs:∀ i x σ H,xs[i]? = some x->Pv i σ H->∀ (rt:VK) (bk N:St->Hp->Prop),(∀ σ H,Pv (i + 1) σ H->N σ H)->g x σ H fun A6 H2=>tb ⟨N,rt,bk,N⟩ A6 H2) (hd:∀ σ H,Pv xs.length σ H->D.nx σ H) :
  ∃ W:Nat->Nat->St->Hp->Prop,(∃ m,W 0 m σ H)/\∀ i m σ H,W i m σ H ->
   ((Q5 K a).stop i H/\D.nx σ H)\/((Q5 K a).go i H/\∃ N:St->Hp->Prop,(∀ Av H',N Av H'->∃ m',m' < m/\W (i + 1) m' Av H')/\∀ x H',(Q5 K a).yld i H x H'->g x σ H' fun A6 H2=>tb { D with nx:=N,ct:=N,bk:=D.nx } A6 H2):=
 OL Pv h0 hl (fun i x σ H hx hp=>hs i x σ H hx hp D.rt D.nx _ fun _ _ z=>z) hd
end L2
namespace L2
open PySem PySem.Spec PyProof.Rows
theorem J5 {M:Model} {A:Around} {E:Value->Shared->Prop} {s:Shared} {scope:Scope} {globals:Addr} {closure:List (Str × Addr)} {qual:Str} {func:Option Addr} {code:Value} {outer:Env} {builtins:Addr} {Q:Env->Shared->Prop}
  (hQ:Q (newEnv scope s.heap.objs.size globals (cellsFrom (s.heap.objs.size + 1) scope.names closure) qual func code (some outer) builtins) { s with heap:=pushCells (s.heap.push { cls:=.type "dict",data:=.dict #[] }) scope.names }) :
  wpAny M A (newFunctionEnv scope globals closure [] qual func code (some outer) builtins) Q E s:=by
 simp only [newFunctionEnv,jZ,if_true];refine wpAny_bind (wpAny_alloc ?_);refine wpAny_bind (wpAny_layCells _ (fun name kind cells=>by cases hkc:kind == NameKind.cell <;> simp [hkc]) _ _ _ _ ?_);rw [show ({ s with heap:=s.heap.push { cls:=.type "dict",data:=.dict #[] } }:Shared).heap.objs.size=s.heap.objs.size + 1 from gh ..];refine wpAny_bind ?_;rw [jH];exact wpAny_pure (wpAny_pure hQ)
theorem GX:∀ (names:List (Str × NameKind)) (h:Heap) (acc:List (Str × Addr)) (lo:Nat),lo<=h.objs.size->(∀ x c,(x,c) ∈ acc->c < lo\/(lo<=c/\c < h.objs.size/\h.IsCell c none)) ->
  ∀ x c,(x,c) ∈ cellsFrom h.objs.size names acc->(x,c) ∈ acc\/(lo<=c/\(pushCells h names).IsCell c none)
 | [],h,acc,lo,_,_,x,c,hm=>.inl hm
 | (name,kind) :: r,h,acc,lo,hlo,ha,x,c,hm=>by
  unfold cellsFrom at hm;unfold pushCells;split at hm
  ·rename_i hk
   rw [if_pos hk];rw [show h.objs.size + 1=(h.push { cls:=.type "cell",data:=.cell none }).objs.size from (gh ..).symm] at hm;rcases GX r (h.push { cls:=.type "cell",data:=.cell none }) ((name,h.objs.size) :: acc) lo (by rw [gh]; lia) (fun y d hy=>by
    rcases eX.mp hy with e | hy
    ·cases e
     exact .inr ⟨hlo,by rw [gh]; exact gi _,_,fe _ rfl,rfl⟩
    ·rcases ha y d hy with z | ⟨z1,z2,z3⟩
     ·exact .inl z
     ·exact .inr ⟨z1,by rw [gh]; exact gf z2,z3.keeps fun b o e=>eT _ e⟩) x c hm with q | q
   ·rcases eX.mp q with e | q
    ·cases e
     exact .inr ⟨hlo,_,pushCells_keeps _ _ _ _ (fe _ rfl),rfl⟩
    ·exact .inl q
   ·exact .inr q
  ·rename_i hk
   rw [if_neg hk];exact GX r h acc lo hlo ha x c hm
theorem EX:∀ (names:List (Str × NameKind)) (n:Nat) (acc:List (Str × Addr)),(acc.Pairwise fun x y=>x.2 ≠ y.2)->(∀ x c,(x,c) ∈ acc->c < n)->(cellsFrom n names acc).Pairwise fun x y=>x.2 ≠ y.2
 | [],n,acc,h,_=>h
 | (name,kind) :: r,n,acc,h,ha=>by
  unfold cellsFrom;split
  ·refine EX r (n + 1) ((name,n) :: acc) (gQ.mpr ⟨fun y hy e=>?_,h⟩) fun x c hm=>?_
   ·have:=ha y.1 y.2 hy;have e':n=y.2:=e;exact absurd this (by rw [<-e']; exact gC _)
   ·rcases eX.mp hm with e | hm
    ·cases e; exact gi _
    ·exact gf (ha x c hm)
  ·exact EX r n acc h ha
theorem Dg {α:Type}:∀ {l:List (Str × α)} {x:Str} {c:α},(x,c) ∈ l->∃ d,l.lookup x=some d
 | (k,v) :: r,x,c,h=>by
  rw [iT];cases hb:x == k with
  | true=>exact ⟨v,rfl⟩
  | false=>
   rcases eX.mp h with e | h
   ·cases e; simp at hb
   ·exact Dg h
theorem GY:∀ (names:List (Str × NameKind)) (n:Nat) (acc:List (Str × Addr)) (x:Str),((x,NameKind.cell) ∈ names\/∃ c,(x,c) ∈ acc)->∃ c,(x,c) ∈ cellsFrom n names acc
 | [],n,acc,x,h=>by
  rcases h with h | h
  ·cases h
  ·exact h
 | (name,kind) :: r,n,acc,x,h=>by
  unfold cellsFrom;split
  ·rename_i hk
   refine GY r (n + 1) ((name,n) :: acc) x ?_;rcases h with h | ⟨c,h⟩
   ·rcases eX.mp h with e | h
    ·cases e; exact .inr ⟨n,fX⟩
    ·exact .inl h
   ·exact .inr ⟨c,fK _ h⟩
  ·rename_i hk
   refine GY r n acc x ?_;rcases h with h | h
   ·rcases eX.mp h with e | h
    ·cases e; exact absurd rfl hk
    ·exact .inl h
   ·exact .inr h
abbrev BN (X:Cx) (scope:Scope) (cl:List (Str × Addr)) (N:List Str) (s2:Shared) (H:Hp) (C:Addr) (fp:List Addr) (fn:Str->Bool):Cx:={ Ay X scope cl N s2 H C fp with fn:=fn }
theorem GV (n0:Nat):∀ (names:List (Str × NameKind)) (n:Nat) (acc:List (Str × Addr)) (x:Str) (c:Addr),n0<=n->((x,NameKind.cell) ∈ names\/∃ d,acc.lookup x=some d/\n0<=d)->(cellsFrom n names acc).lookup x=some c->n0<=c
 | [],n,acc,x,c,_,h,e=>by
  rcases h with h | ⟨d,h1,h2⟩
  ·cases h
  ·have e':acc.lookup x=some c:=e;rw [h1] at e';cases e'
   exact h2
 | (name,kind) :: r,n,acc,x,c,hn,h,e=>by
  unfold cellsFrom at e;split at e
  ·rename_i hk
   refine GV n0 r (n + 1) ((name,n) :: acc) x c (j8 hn) ?_ e;by_cases ex:x=name
   ·refine .inr ⟨n,?_,hn⟩;rw [ex,iT,beq_self_eq_true]
   ·have hb:(x == name)=false:=beq_eq_false_iff_ne.mpr ex;rcases h with h | ⟨d,h1,h2⟩
    ·rcases eX.mp h with z | z
     ·injection z with z1 z2;exact absurd z1 ex
     ·exact .inl z
    ·exact .inr ⟨d,by rw [iT,hb]; exact h1,h2⟩
  ·rename_i hk
   refine GV n0 r n acc x c hn ?_ e;rcases h with h | h
   ·rcases eX.mp h with z | z
    ·cases z; exact absurd rfl hk
    ·exact .inl z
   ·exact .inr h
structure Gs (X:Cx) (scope:Scope) (cl:List (Str × Addr)):Prop where
 clos:closureFor scope X.env=pure cl
 kind:scope.kind=.function
 names:∀ y ∈ scope.names,y.2=.local->scope.names.lookup y.1=some .local
 sub:∀ x c,(x,c) ∈ cl->X.env.cells.lookup x=some c
 apart:(cl.Pairwise fun x y=>x.2 ≠ y.2)
 has:∀ x,((relabel scope X.env).names.lookup x=some .cell\/(relabel scope X.env).names.lookup x=some .free)->(x,NameKind.cell) ∈ scope.names\/∃ c,(x,c) ∈ cl
theorem F4:∀ (names:List (Str × NameKind)) (n:Nat) (acc:List (Str × Addr)) (x:Str) (c:Addr),(x,c) ∈ cellsFrom n names acc->(x,NameKind.cell) ∉ names->(x,c) ∈ acc
 | [],n,acc,x,c,h,_=>h
 | (name,kind) :: r,n,acc,x,c,h,hn=>by
  unfold cellsFrom at h;split at h
  ·rename_i hk
   have SY:kind=.cell:=by cases kind <;> first | rfl | cases hk
   rcases eX.mp (F4 r (n + 1) ((name,n) :: acc) x c h fun z=>hn (fK _ z)) with e | e
   ·cases e
    exact absurd (by rw [SY]; exact fX) hn
   ·exact e
  ·exact F4 r n acc x c h fun z=>hn (fK _ z)
section
variable {X:Cx} {pins:List (Addr × Obj)} {σ Av:St} {H H':Hp} {s2 s':Shared} {scope:Scope} {cl:List (Str × Addr)} {N:List Str} {fp:List Addr} {C D:Addr} {Bd h':Heap} {t':Nat}
theorem MC {fn:Str->Bool} {cl0:List (Str × Addr)} (I:As X pins σ H s2) (hf:∀ b ∈ fp,Em X pins H b) (hfo:∀ b ∈ fp,∃ o,s2.heap.get? b=some o) (co:Gs X scope cl0) (sub:∀ x c,cl.lookup x=some c->X.env.cells.lookup x=some c\/(s2.heap.objs.size<=c/\c ≠ D/\c ≠ C/\Bd.IsCell c none)) (inj:∀ x y c,cl.lookup x=some c->cl.lookup y=some c->x=y) (own:∀ x c,fn x=true->cl.lookup x=some c->s2.heap.objs.size<=c)
  (has:∀ x,((relabel scope X.env).names.lookup x=some .cell\/(relabel scope X.env).names.lookup x=some .free)->∃ c,cl.lookup x=some c) (keepS:∀ (i:Nat) (x:Str) (v:V),N[i]? = some x->Av[i]? = some (some v)->∀ c,cl.lookup x=some c->X.env.cells.lookup x=some c) (hσ:AU X cl scope N σ Av)
  (k:∀ b o,s2.heap.get? b=some o->Bd.get? b=some o) (hD:s2.heap.objs.size<=D) (hC:s2.heap.objs.size<=C) (hDC:C ≠ D)
  (new:Bd.get? D=some { cls:=.type "list",data:=.seq ([]:List Value).toArray 0 }\/∃ n,Bd.get? D=some { cls:=.type "list",data:=.seq ([]:List Value).toArray n }) {m:Str->Option Value} (hn:Bd.Ns C m) :
  As (BN X scope cl N s2 H C fp fn) [] Av (upd H D (.lst [])) { s2 with heap:=Bd,toks:=t' }:=by
 have fD:H D=none:=I.hok.fresh hD;have fC:H C=none:=I.hok.fresh hC;have newO:AL X.prog X.w (upd H D (.lst [])) Bd D (.lst []):=by
  exists gr _,[]
  rcases new with e | ⟨n,e⟩
  ·exact ⟨0,.nil,e⟩
  ·exact ⟨n,.nil,e⟩
 have lts:∀ b ∈ fp,b < s2.heap.objs.size:=fun b hb=>let ⟨_,e⟩:=hfo b hb; fb e
 have ok:Cx.Ok (BN X scope cl N s2 H C fp fn):=by
  refine ⟨I.ok.mod,?_,I.ok.glob,I.ok.blt,hC,?_,?_,?_,I.ok.hd,I.ok.frames,.inl rfl,?_,I.bs,gc I.ok.bsz I.sz,?_,?_,I.stack,I.stkFree⟩
  ·exact co.kind
  ·exact inj
  ·exact has
  ·exact own
  ·intro b hb;refine ⟨fun e=>?_,fun x c e=>by
    rcases sub x c e with z | ⟨z,_⟩
    ·exact (hf b hb).2.2.2.2.1 x c z
    ·exact gB (fk (lts b hb) z)⟩
   have z:=lts b hb;exact absurd (fk z hC) (by rw [show b=C from e]; exact gC _)
  ·intro b o e hb;have HR:b ∈ fp:=hb;rcases (hf b HR).2.2.2.1 with z | z
   ·exact I.ok.noex b o e z
   ·exact absurd (fk (fb e) (gc I.ok.bsz z)) (gC _)
  ·intro b hb hz;have HR:b ∈ fp:=hb;obtain ⟨_,f1,f2,_⟩:=hf b HR;rcases eX.mp (I.stkSub b hz) with e | e
   ·exact f1 e
   ·exact f2 e
 refine ⟨ok,rfl,I.bare,Un.laid k hD fD,?_,?_,?_,?_,?_,I.hok.laid k hD newO,hσ.1⟩
 ·refine ⟨m,hn,fun i x v e1 e2 _=>?_⟩;obtain ⟨⟨j,j1,j2⟩,kk,kr⟩:=hσ.2 i x v e1 e2;obtain ⟨mo,_,hl⟩:=I.loc;obtain ⟨u,r,l⟩:=hl j x v j1 j2 (by
   rcases kk with z | z
   ·exact .inr (.inl z)
   ·exact .inr (.inr z))
  refine ⟨u,r,.inr ⟨kr,?_⟩⟩;obtain ⟨c,hc⟩:=has x kr;rcases l with ⟨z,_⟩ | ⟨_,c',LC,hcell⟩
  ·rcases kk with q | q
   ·rw [z] at q; cases q
   ·rw [z] at q; cases q
  ·have e3:=keepS i x v e1 e2 c hc;rw [LC] at e3;have e4:c'=c:=fV.inj e3;subst e4;obtain ⟨o,ho,hd⟩:=hcell;exact ⟨c',hc,o,k _ o ho,hd⟩
 ·intro x c e;rcases sub x c e with z | ⟨_,_,_,z⟩
  ·obtain ⟨v,o,ho,hd⟩:=I.cell x c z;exact ⟨v,o,k _ o ho,hd⟩
  ·exact ⟨iA,z⟩
 ·show upd H D (.lst []) C=none
  rw [Ae hDC];exact fC
 ·intro x c e;rcases sub x c e with z | ⟨z1,z2,_,_⟩
  ·obtain ⟨v,q⟩:=I.cell x c z;rw [Ae (fj (fk q.lt hD))];exact I.freeC x c z
  ·rw [Ae z2];exact I.hok.fresh z1
 ·intro p hp;cases hp
theorem Qt {fn:Str->Bool} {pl:List (Addr × Obj)} (I:As X pins σ H s2) (hf:∀ b ∈ fp,Em X pins H b) (hC:s2.heap.objs.size<=C) (I2:As (BN X scope cl N s2 H C fp fn) pl Av H' s')
  (hs:Heap.SameBut C s'.heap h'):As X pins σ H' { s' with heap:=h' }:=by
 have nC:∀ b o,s2.heap.get? b=some o->b ≠ C:=fun b o e=>fj (fk (fb e) hC)
 have u:=I2.base;refine I.call' (s':={ s' with heap:=h' }) (ch:=fp) I2.os ⟨?_,?_,u.free,?_,u.tups,u.frzs,u.tbls⟩ ?_ I2.bare fun b hb=>?_
 ·exact fun b o e n h1 h2=>(hs.2 b (nC b o e)).trans (u.keep b o e n h1 h2)
 ·intro b o e n h1 h2;obtain ⟨sl,q⟩:=u.slot b o e n h1 h2;exact ⟨sl,(hs.2 b (nC b o e)).trans q⟩
 ·intro b o e h2;obtain ⟨o',q⟩:=u.there b o e h2;exact ⟨o',(hs.2 b (nC b o e)).trans q⟩
 ·intro b ob e;have hfree:H' C=none:=I2.free;refine (I2.hok b ob e).stay (fun c w' hc q=>(hs.2 c ?_).trans q) (fun _ q=>q) fun _ _ q=>q
  rintro rfl;rcases hc with rfl | hc
  ·rw [hfree] at e; cases e
  ·rw [hfree] at hc; cases hc
 ·obtain ⟨_,f1,_,f3,f4,f5⟩:=hf b hb;exact ⟨f3,f1,f4,f5⟩
end
theorem RD {X:Cx} (fn:Str->Bool) {tg iter elt:Expr} {ifs:List Expr} {scope:Scope} {cl:List (Str × Addr)} {N:List Str} {pos:Pos} {wi:TI} {g:TG} {tt:TT} {te:TE} {σ0:St->St} (hc:X.calm=true) (co:Gs X scope cl) (hfn:∀ x,fn x=true->(x,NameKind.cell) ∈ scope.names)
  (hσ:∀ σ,σ.length=X.N.length->AU X cl scope N σ (σ0 σ)) (hK:∀ (σ:St) (i:Nat) (x:Str) (v:V),N[i]? = some x->(σ0 σ)[i]? = some (some v)->(x,NameKind.cell) ∉ scope.names) (hi:PI X tg iter wi)
  (hb:∀ s2 H C fp,PG (BN X scope (cellsFrom (C + 1) scope.names cl) N s2 H C fp fn) tg g/\Xz (BN X scope (cellsFrom (C + 1) scope.names cl) N s2 H C fp fn) ifs tt/\PE (BN X scope (cellsFrom (C + 1) scope.names cl) N s2 H C fp fn) elt te)
  (hs:∀ x,foldedSetIterable iter X.env x=pure x:=by intro _; rfl):PE X (.ListComp elt [⟨tg,iter,ifs,0⟩] scope pos) (Od wi g tt te σ0):=by
 intro pins s σ H Q I h;rw [eval_ListComp];refine wpAny_comprehension_free (use:=none) rfl hs co.clos co.kind co.names (wpAny_mono (hi (pins:=pins) s σ H _ I h) (fun xv s1 h1=>wpAny_mono h1 (fun itv s2 h2=>?_) fun _ _ e=>e) fun _ _ e=>e);obtain ⟨it,fp,tn,J,H2,rfl,I2,T,FO,f2,hW⟩:=h2;refine wpAny_newObj_type (J5 ?_);dsimp only;generalize Lx:s2.heap.push { cls:=.type "list",dict:=none,data:=.seq ([]:List Value).toArray } = HH;have BM:HH.objs.size=s2.heap.objs.size + 1:=by rw [<-Lx,gh]
 obtain ⟨Bd,M7⟩:∃ Bd,Bd=pushCells (HH.push { cls:=.type "dict",data:=.dict #[] }) scope.names:=⟨_,rfl⟩
 rw [<-M7];have BQ:Bd.Ns HH.objs.size (fun _=>iA):=by
  rw [M7];exact (Heap.Ns.new HH (.type "dict")).keeps (pushCells_keeps _ _)
 have old:∀ b o,s2.heap.get? b=some o->Bd.get? b=some o:=fun b o e=>by
  rw [M7];exact pushCells_keeps _ _ _ _ (eT _ (Lx ▸ eT _ e))
 have newD:∃ n,Bd.get? s2.heap.objs.size=some { cls:=.type "list",data:=.seq ([]:List Value).toArray n }:=by
  exists 0;rw [M7];exact pushCells_keeps _ _ _ _ (eT _ (Lx ▸ fe _ rfl))
 obtain ⟨Ky,ecl⟩:∃ Ky,Ky=cellsFrom (HH.objs.size + 1) scope.names cl:=⟨_,rfl⟩
 have clt:∀ x c,(x,c) ∈ cl->c < s2.heap.objs.size:=fun x c e=>by
  obtain ⟨v,q⟩:=I2.cell x c (co.sub x c e);exact q.lt
 have Lk:∀ x c,(x,c) ∈ Ky->(x,c) ∈ cl\/(HH.objs.size + 1<=c/\Bd.IsCell c iA):=fun x c hm=>by
  have hsz:(HH.push { cls:=.type "dict",data:=.dict #[] }).objs.size=HH.objs.size + 1:=gh ..;rw [ecl,<-hsz] at hm;have q:=GX scope.names (HH.push { cls:=.type "dict",data:=.dict #[] }) cl (HH.objs.size + 1) (by rw [hsz]; exact fc _) (fun y d hy=>.inl (fk (clt y d hy) (by rw [BM]; lia))) x c hm;rw [M7];exact q
 have ap':Ky.Pairwise fun x y=>x.2 ≠ y.2:=by
  rw [ecl];exact EX _ _ _ co.apart fun x c hm=>fk (clt x c hm) (by rw [BM]; lia)
 have Y2:∀ x c,Ky.lookup x=some c->X.env.cells.lookup x=some c\/(s2.heap.objs.size<=c/\c ≠ s2.heap.objs.size/\c ≠ HH.objs.size/\Bd.IsCell c iA):=fun x c e=>by
  rcases Lk x c (PySem.mem_of_lookup e) with q | ⟨q1,q2⟩
  ·exact .inl (co.sub x c q)
  ·exact .inr ⟨by rw [BM] at q1; exact iY (fk (gf (gi _)) q1),gB (by rw [BM] at q1; exact fk (gf (gi _)) q1),gB (fk (gi _) q1),q2⟩
 have cJ:∀ x y c,Ky.lookup x=some c->Ky.lookup y=some c->x=y:=fun x y c e1 e2=>name_of_addr ap' (PySem.mem_of_lookup e1) (PySem.mem_of_lookup e2)
 have cA:∀ x c,fn x=true->Ky.lookup x=some c->s2.heap.objs.size<=c:=fun x c h e=>by
  rw [ecl] at e;exact GV s2.heap.objs.size scope.names (HH.objs.size + 1) cl x c (by rw [BM]; lia) (.inl (hfn x h)) e
 have dc:∀ x,((relabel scope X.env).names.lookup x=some .cell\/(relabel scope X.env).names.lookup x=some .free)->∃ c,Ky.lookup x=some c:=fun x h=>by
  obtain ⟨c,hc⟩:=GY scope.names (HH.objs.size + 1) cl x (co.has x h);rw [ecl];exact Dg hc
 have keepS:∀ (i:Nat) (x:Str) (v:V),N[i]? = some x->(σ0 σ)[i]? = some (some v)->∀ c,Ky.lookup x=some c->X.env.cells.lookup x=some c:=fun i x v e1 e2 c e=>by
  rw [ecl] at e;have m2:=F4 scope.names (HH.objs.size + 1) cl x c (PySem.mem_of_lookup e) (hK σ i x v e1 e2);exact co.sub x c m2
 obtain ⟨W,⟨m0,w0⟩,turn⟩:=hW s2.heap.objs.size I2.fresh;have hfo:∀ b ∈ fp,∃ o,s2.heap.get? b=some o:=fun b hb=>let ⟨o,e,_⟩:=T.obj _ _ FO b hb; ⟨o,e⟩
 have cM:∀ σ,σ.length=X.N.length->AU X Ky scope N σ (σ0 σ):=fun σ h=>hσ σ h
 have I3:As (BN X scope Ky N s2 H2 HH.objs.size fp fn) [] (σ0 σ) (upd H2 s2.heap.objs.size (.lst [])) { s2 with heap:=Bd,toks:=s2.toks }:=
  MC I2 f2 hfo co Y2 cJ cA dc keepS (cM σ I.len) old (fc _) (by rw [BM]; exact gy _) (gB (by rw [BM]; exact gi _)) (.inr newD) BQ
 have fC:s2.heap.objs.size<=HH.objs.size:=by rw [BM]; exact gy _
 obtain ⟨hg,ht,he⟩:=hb s2 H2 HH.objs.size fp;rw [<-ecl] at hg ht he;have loop:∀ Co:Shared,Co = { s2 with heap:=Bd,toks:=s2.toks } ->
   codeAny (model X.prog X.w) X.A (.compLoop (.ListComp elt [⟨tg,iter,ifs,0⟩] scope pos) 0 (.ref it) (.ref s2.heap.objs.size) (compEnvC scope Ky HH.objs.size X.env))
    (compPost (model X.prog X.w) X.A X.xe none (EP X pins σ Q) (.ref s2.heap.objs.size) HH.objs.size) Co:=by
  rintro Co rfl;have stat:∀ {H':Hp} ,(∀ b ∈ fp,H' b=none)->∀ b ∈ fp,Em (BN X scope Ky N s2 H2 HH.objs.size fp fn) [] H' b:=fun hn b hb=>by
   refine ⟨hn b hb,?_,?_,.inl hb,?_,fun p hp=>by cases hp⟩
   ·obtain ⟨o,e⟩:=hfo b hb;exact fj (show b < HH.objs.size by rw [BM]; exact gf (fb e))
   ·intro hz;obtain ⟨_,q1,q2,_⟩:=f2 b hb;rcases eX.mp (I2.stkSub b hz) with e | e
    ·exact q1 e
    ·exact q2 e
   ·intro x c e;rcases Y2 x c e with z | ⟨z,_⟩
    ·exact (f2 b hb).2.2.2.2.1 x c z
    ·obtain ⟨o,eo⟩:=hfo b hb;exact gB (fk (fb eo) z)
  refine BR (fun n s'=>∃ i Av H',As (BN X scope Ky N s2 H2 HH.objs.size fp fn) [] Av H' s'/\tn i s'.heap/\(∀ b ∈ fp,H' b=none)/\W i n Av H') ?_ m0
   ⟨0,σ0 σ,_,I3,T.keep _ _ _ FO fun b hb o e=>old b o e,fun b hb=>?_,w0⟩
  ·rintro n s4 ⟨i,Ia,H4,I4,MN,OK,w4⟩;rcases turn i n Ia H4 w4 with ⟨stop,qn⟩ | ⟨go,step⟩
   ·refine wpAny_mono (T.done (BN X scope Ky N s2 H2 HH.objs.size fp fn) rfl rfl rfl hc i [] s4 Ia H4 (fun _ _=>False) I4 (stat OK) MN stop) (fun r s5 ⟨hr,I5⟩=>?_) fun _ _ z=>z.elim
    subst hr;obtain ⟨m5,Uq,_⟩:=id I5.loc;exact ⟨m5,Uq,fun h' Up=>⟨.ref _,H4,Qt I2 f2 fC I5 Up,rfl,qn⟩⟩
   ·refine wpAny_mono (T.item (BN X scope Ky N s2 H2 HH.objs.size fp fn) rfl rfl rfl hc i [] s4 Ia H4 (fun _ _=>False) I4 (stat OK) MN go) (fun r s5 ⟨u,hr,h5⟩=>?_) fun _ _ z=>z.elim
    subst hr;refine wpAny_mono h5 (fun _ s6 ⟨x,H6,I6,r6,y6,KD,Uv⟩=>?_) fun _ _ z=>z.elim
    have UE:=I6.pinned (stat Uv) (T.obj _ _ KD);refine wpAny_mono (hg s6 Ia H6 x u _ UE r6 (step x H6 y6)) (fun _ s7 ⟨EZ,H7,I7,q7⟩=>?_) fun _ _ z=>z.elim
    refine wpAny_mono (ht s7 EZ H7 _ I7 q7) (fun ok s8 ⟨H8,I8,q8⟩=>?_) fun _ _ z=>z.elim
    have again:∀ {s9:Shared} {HZ:St} {H9:Hp} ,As (BN X scope Ky N s2 H2 HH.objs.size fp fn) ([] ++ Ex fp s6.heap) HZ H9 s9->(∃ m',m' < n/\W (i + 1) m' HZ H9)->∃ m,m < n/\∃ i Av H',As (BN X scope Ky N s2 H2 HH.objs.size fp fn) [] Av H' s9/\tn i s9.heap/\(∀ b ∈ fp,H' b=none)/\W i m Av H':=fun {s9 HZ H9} I9 n9=>by
     obtain ⟨m',hm,w9⟩:=n9;refine ⟨m',hm,i + 1,HZ,H9,I9.unpinned,T.keep _ _ _ KD fun b hb o e=>(I9.pin (b,o) (fm _ (fm _ (Bo hb e)))).1,fun b hb=>?_,w9⟩;obtain ⟨o,e,d⟩:=T.obj _ _ KD b hb;exact (I9.pin (b,o) (fm _ (fm _ (Bo hb e)))).2.1
    cases ok with
    | false=>
     rw [if_neg fH] at q8 ⊢;exact again I8 q8
    | true=>
     rw [if_pos rfl] at q8 ⊢;refine wpAny_mono (he s8 EZ H8 _ I8 q8) (fun y s9 ⟨v,H9,I9,r9,acc,hacc,hsz,q9⟩=>?_) fun _ _ z=>z.elim
     refine wpAny_mono (Bj (X:=BN X scope Ky N s2 H2 HH.objs.size fp fn) s9 EZ H9 (.ref s2.heap.objs.size) [v] (.ref s2.heap.objs.size) [y] (fun _ MR=>∃ m',m' < n/\W (i + 1) m' EZ MR) I9 rfl (.cons r9 .nil) ⟨_,acc,v,rfl,rfl,hacc,hsz,q9⟩) (fun _ XU ⟨_,MR,UG,_,TJ⟩=>?_) fun _ _ z=>z.elim
     exact again UG TJ
  ·have z:=(f2 b hb).1;obtain ⟨o,e⟩:=hfo b hb;rw [Ae (fj (fb e))];exact z
 subst ecl;exact codeAny_compStart_list (loop _ rfl) (T.self _ 0 _ _ _ (T.keep _ _ _ FO fun b hb o e=>old b o e) (loop _ rfl))
end L2
namespace L2
open PySem PySem.Spec PySem.W PyProof.Rows
end L2
namespace L2
open PySem PySem.Spec PyProof.Rows
theorem Gs.caught {X:Cx} {scope:Scope} {cl:List (Str × Addr)} (clos:closureFor scope X.env=pure cl) (hkind:scope.kind=.function)
  (hnames:∀ y ∈ scope.names,y.2=.local->scope.names.lookup y.1=some .local) (hcl:∀ y ∈ cl,X.env.cells.lookup y.1=some y.2) (hap:cl.Pairwise fun x y=>x.2 ≠ y.2)
  (hfr:∀ y ∈ scope.names,y.2=.free->∃ c,(y.1,c) ∈ cl):Gs X scope cl:=by
 refine ⟨clos,hkind,hnames,fun x c h=>hcl _ h,hap,fun x h=>?_⟩;have key:∀ k,(relabel scope X.env).names.lookup x=some k->k=.cell\/k=.free->(x,NameKind.cell) ∈ scope.names\/∃ c,(x,c) ∈ cl:=by
  intro k e hk;have m:=Dh e;obtain ⟨⟨n,k'⟩,hm,e'⟩:=fi.mp m;dsimp only at e';by_cases hf:k'=.free
  ·subst hf;have en:n=x:=by
    by_cases hc:(NameKind.free == NameKind.free && X.env.scope.kind == .function && X.env.kindOf n == some .cell)=true
    ·rw [if_pos hc] at e';injection e'
    ·rw [if_neg hc] at e';injection e'
   subst en;exact .inr (hfr _ hm rfl)
  ·have:(k' == NameKind.free)=false:=by
    cases k' <;> first | rfl | exact absurd rfl hf
   rw [this] at e';simp at e';obtain ⟨rfl,rfl⟩:=e';rcases hk with rfl | rfl
   ·exact .inl hm
   ·exact absurd rfl hf
 rcases h with h | h
 ·exact key _ h (.inl rfl)
 ·exact key _ h (.inr rfl)
theorem Bx (K:eV) {X:Cx} (h:X.K=K):Bv X (.builtin "len") (fun xs H Q=>∃ p vs,xs=[V.ref p]/\(Ba K H p vs\/Az K H p vs)/\Q (.int vs.length) H):=by subst h; exact Bp
theorem DZ (K:eV) {X:Cx} {tg l:Expr} {tl:TE} (h:X.K=K) (hl:PE X l tl):PI X tg l (Vj K tl):=by subst h; exact O4 hl
theorem Bc (K:eV) {X:Cx} {tg l:Expr} {tl:TE} (h:X.K=K) (hl:PE X l tl):PI X tg l (iTup K tl):=by subst h; exact IF hl
def JQ (h:Heap) (v:Value) (ss:List Str):Prop:=∃ a us,v=.ref a/\IsTup h a us.toArray/\AB (ss.map V.str) us
theorem JW {us vs:List Value} {xs:List Str} (r1:AB (xs.map V.str) us) (j:Nat) (hj:j < us.length):∃ t x,xs[j]? = some x/\us[j]=.str x t:=by
 have l1:=r1.length;rw [eU] at l1;have e:(xs.map V.str)[j]? = some (V.str (xs[j]'(by lia))):=by rw [eZ,eR (by lia)]; rfl
 obtain ⟨u,e1,r⟩:=r1.get e;obtain ⟨t,rfl⟩:=r;rw [eR hj] at e1;exact ⟨t,_,eR (by lia),fV.inj e1⟩
theorem JV {us:List Value}:∀ {xs ys:List Str},AB (xs.map V.str) us->AB (ys.map V.str) us->xs=ys:=by
 induction us with
 | nil=>
  intro xs ys r1 r2;cases xs with
  | nil=>cases ys with | nil=>rfl | cons _ _=>cases r2
  | cons _ _=>cases r1
 | cons u us ih=>
  intro xs ys r1 r2;cases xs with
  | nil=>cases r1
  | cons x xs=>
   cases ys with
   | nil=>cases r2
   | cons y ys=>
    cases r1 with
    | cons a1 b1=>
     cases r2 with
     | cons a2 b2=>
      obtain ⟨t,e⟩:=a1;obtain ⟨t',e'⟩:=a2;rw [e] at e';cases e'
      rw [ih b1 b2]
theorem Uw {A:Around} {s:Shared} {v w:Value} {xs ys:List Str} (hv:JQ s.heap v xs) (hw:JQ s.heap w ys) (hu:A.units < cLine):SeqAt.EqAt A s v w (decide (xs=ys)):=by
 obtain ⟨a,us,rfl,ha,r1⟩:=hv;obtain ⟨b,vs,rfl,hb,r2⟩:=hw;by_cases hab:a=b
 ·subst hab;have e:xs=ys:=by
   obtain ⟨o,ho,hc,n,hd⟩:=ha;obtain ⟨o',Ii,LC,n',Lu⟩:=hb;rw [ho] at Ii;cases Ii
   rw [hd] at Lu;injection Lu with e1 e2;have e3:=congrArg iX e1;simp only at e3;subst e3;exact JV r1 r2
  rw [decide_eq_true e];intro prog w E Q h;unfold eqBool;refine wpAny_holding ?_;exact wpAny_ite_split (fun _=>wpAny_bind (wpAny_rule (wpAny_pure h))) (fun hn=>absurd (by simp) hn)
 ·have l1:=r1.length;have l2:=r2.length;rw [eU] at l1 l2;have key:=SeqAt.RcAt.tuples (A:=A) (s:=s) (e:=fun j=>xs[j]? == ys[j]?) (show s.heap.IsTuple a us.toArray from ha) (show s.heap.IsTuple b vs.toArray from hb) hu (fun j h1 h2=>by
   obtain ⟨t,x,e1,e2⟩:=JW (vs:=us) r1 j (by simpa using h1);obtain ⟨t',y,e3,e4⟩:=JW (vs:=vs) r2 j (by simpa using h2);rw [kf,kf,e2,e4,e1,e3];have:=SeqAt.EqAt.str_str x t y t' (A:=A.in1) (s:=s);exact this)
  have e:((gR (min us.toArray.size vs.toArray.size)).all (fun j=>xs[j]? == ys[j]?) && us.toArray.size == vs.toArray.size)=decide (xs=ys):=by
   rw [gP,gE,gz,decide_eq_true_iff];simp only [i7,fu,beq_iff_eq];constructor
   ·rintro ⟨h1,h2⟩;refine i9 fun j=>?_
    by_cases hj:j < us.length
    ·exact h1 j (by lia)
    ·rw [gO (by lia),gO (by lia)]
   ·rintro rfl;exact ⟨fun j _=>rfl,by lia⟩
  rw [e] at key;exact SeqAt.EqAt.of_refs hab key
section
open PySem.SeqAt
open PySem.AutoSeq1 (wpAny_loadPart')
open PySem.MeetsSeq PySem.MeetsSeq2 PySem.MeetsSeq3
end
section
open PySem.SeqAt
open PySem.AutoSeq1 (wpAny_loadPart')
open PySem.MeetsSeq PySem.MeetsSeq2 PySem.MeetsSeq3
end
section
variable {prog:Program} {w:World} {A:Around} {R:Result->Shared->Prop} {I:Addr} {fp wr:List Addr} {n:Nat} {P:Nat->Value->Prop} {St:Nat->Heap->Prop} {g0:Heap}
end
section
variable {prog:Program} {w:World} {A:Around} {E:Value->Shared->Prop} {s:Shared}
end
theorem UM {X:Cx} {pins:List (Addr × Obj)} {σ:St} {H:Hp} {s:Shared} {l:Addr} {ss:List Str} (I:As X pins σ H s) (h:H l=some (.tup (ss.map V.str))):JQ s.heap (.ref l) ss:=by
 obtain ⟨Ar,rv,pl,hz⟩:=I.tuple (Az.of h);exact ⟨l,Ar,rfl,pl,rv⟩
section
variable {X:Cx} {pins:List (Addr × Obj)} {σ:St} {H:Hp} {s:Shared}
end
theorem RN (K:eV) {X:Cx} (h:X.K=K):EC X (binaryOp .Add) (UZ K):=by subst h; exact TV
inductive Dz (H:Hp):List V->List (List Str)->Prop
 | nil:Dz H [] []
 | cons {t:Addr} {us:List V} {f:List Str} {fs:List (List Str)}:H t=some (.tup (f.map V.str))->Dz H us fs->Dz H (.ref t :: us) (f :: fs)
theorem Dz.len {H:Hp} {us:List V} {fs:List (List Str)} (h:Dz H us fs):us.length=fs.length:=by
 induction h with
 | nil=>rfl
 | cons _ _ ih=>rw [gH,gH,ih]
theorem Dz.keep {H H':Hp} {us:List V} {fs:List (List Str)} (h:Dz H us fs) (s:∀ b xs,H b=some (.tup xs)->H' b=some (.tup xs)):Dz H' us fs:=by
 induction h with
 | nil=>exact .nil
 | cons a _ ih=>exact .cons (s _ _ a) ih
theorem Dz.app {H:Hp} {us vs:List V} {fs gs:List (List Str)} (h:Dz H us fs) (h':Dz H vs gs):Dz H (us ++ vs) (fs ++ gs):=by
 induction h with
 | nil=>exact h'
 | cons a _ ih=>exact .cons a ih
theorem Dz.get {H:Hp} {us:List V} {fs:List (List Str)} (h:Dz H us fs):∀ {i:Nat} {u:V},us[i]? = some u->∃ t f,u=.ref t/\fs[i]? = some f/\H t=some (.tup (f.map V.str)):=by
 induction h with
 | nil=>intro i u e; simp at e
 | cons a _ ih=>
  intro i u e;cases i with
  | zero=>simp at e; subst e; exact ⟨_,_,rfl,rfl,a⟩
  | succ i=>exact ih (by simpa using e)
def RU:V->Nat->Bool
 | .int i,k=>decide ((k:Int)<=i)
 | _,_=>true
def SQ (H:Hp) (c:Addr) (sites:List Str) (x:V) (d:PyData):Prop:=
 ∃ (m t2:V) (t1:Addr) (Fl:List V) (Am:List AI),H c=some (.tup [m,.ref t1,t2,x])/\H t1=some (.tup Fl)/\A2 H Fl (Am.map Ce)/\Am.map (·.1)=sites/\sites.Nodup/\sites.length<=10/\Lim x d
theorem Cz.sites {H:Hp} {c m:Addr} {n:Nat} {xs:List Str} {ws:List A9} {Am Al:List AI} {x:V} {d:PyData} (h:Cz H c m n xs ws Am Al x d):SQ H c (Am.map (·.1)) x d:=by
 obtain ⟨t1,t2,Fl,FK,a,b,e,f,g⟩:=h.ex;exact ⟨_,_,t1,Fl,Am,a,b,e,rfl,h.ok1.nd,by rw [eU]; exact h.l1,h.lim⟩
def Rx (K:eV):R2:=fun x y H Q=>∃ a b xs ys,x=.ref a/\y=.ref b/\Az K H a xs/\Az K H b ys/\xs.length + ys.length<=sizeLine /\
 (xs=[]->Q (.ref b) H)/\(xs ≠ []->ys=[]->Q (.ref a) H)/\(xs ≠ []->ys ≠ []->∀ p,H p=none->Q (.ref p) (upd H p (.tup (xs ++ ys))))
theorem BP (K:eV) {X:Cx} (hK:X.K=K):EC X (binaryOp .Add) (Rx K):=by
 subst hK;intro pins s σ H x y v u Q I rx ry h;obtain ⟨a,b,xs,ys,rfl,rfl,ha,hb,hz,q0,q1,q2⟩:=h;cases rx
 cases ry
 obtain ⟨Ar,r1,p1,_⟩:=I.tuple ha;obtain ⟨JJ,r2,p2,_⟩:=I.tuple hb;by_cases hx:xs=[]
 ·obtain ⟨⟨cls,dd,data,sl⟩,ho,hc,n,hd⟩:=id p1;obtain ⟨⟨ab,Td,data2,Ow⟩,SX,Ta,n2,hd2⟩:=id p2;simp only at hc hd Ta hd2;subst hc hd Ta hd2;exact concat_meets ⟨_,ho,rfl⟩ ⟨_,SX,rfl⟩ noFill_tuple_add seq_tuple_add PySem.F.slot_tuple_add PySem.F.entry_tuple_add (PySem.F.args_tuple_add_2 _ _)
   (tuple_addW0 a b Ar.toArray JJ.toArray n n2 dd Td sl Ow (by simp [r1.nil_iff.mpr hx])) ⟨ho,SX,⟨.ref b,H,I,rfl,q0 hx⟩⟩
 ·refine HT.cat_tup p1 p2 (fun z=>hx (r1.nil_iff.mp z)) (fun z=>⟨.ref a,H,I,rfl,q1 hx (r2.nil_iff.mp z)⟩) (fun z=>?_) (by rw [<-r1.length,<-r2.length]; exact hz);refine ⟨.ref s.heap.objs.size,_,I.laid (t':=s.toks) (o:=.tup (xs ++ ys)) (fun b ob q=>eT _ q) (fc _) ?_,rfl,q2 hx (fun w=>z (r2.nil_iff.mpr w)) _ (I.hok.fresh (fc _))⟩;exact ⟨by rw [eY]; exact hz,_,r1.append r2,IsTup.new _ _,L6.new rfl rfl⟩
theorem JP {X:Cx} (hc:X.calm=true):Bv X (.builtin "min") (fun xs H Q=>∃ (a:Addr) (ns:List Int),xs=[.ref a]/\H a=some (.lst (ns.map V.int))/\ns ≠ [] /\
  ∀ m,m ∈ ns->(∀ x ∈ ns,m<=x)->Q (.int m) H):=by
 intro pins s σ H xs us Q I r h;obtain ⟨a,ns,rfl,ha,hne,q⟩:=h;obtain ⟨u,rfl,ru⟩:=Cq r;cases ru
 obtain ⟨Ar,rv,pl,hz⟩:=I.list (Ba.of ha);have il:Ar.length=ns.length:=by rw [<-rv.length,eU]
 have pos:0 < ns.length:=iI.mpr hne;refine GC (bt:=fun i j=>decide (ns.getD i 0 < ns.getD j 0)) (I.ok.hd hc) pl.isList (by lia) (fun i j vi vj s' Q' E' g hi hj hQ=>?_) fun v h2 tk hv k2=>?_
 ·obtain ⟨x,t,e1,rfl⟩:=Ih rv i vi hi;obtain ⟨y,u,e2,rfl⟩:=Ih rv j vj hj;dsimp only at hQ;rw [fS,fS,e1,e2] at hQ;exact ED.int _ _ _ _ _ _ _ _ _ _ hQ
 ·obtain ⟨x,t,e1,rfl⟩:=Ih rv _ v hv;obtain ⟨b1,b2⟩:=Jt (fun i j=>decide (ns.getD i 0 < ns.getD j 0)) (fun i=>ns.getD i 0) (fun i j h=>by have:=of_decide_eq_true h; lia) (fun i j h=>by have:=of_decide_eq_false h; lia) (Ar.length - 1);refine ⟨.int x,H,I.kept k2,⟨t,rfl⟩,q x (eW e1) fun y hy=>?_⟩;obtain ⟨j,hj,rfl⟩:=fY hy;have:=b2 j (by lia);have e2:ns.getD j 0=ns[j]:=by simp [hj]
  have e3:ns.getD (argBest (fun i j=>decide (ns.getD i 0 < ns.getD j 0)) (Ar.length - 1)) 0=x:=by
   rw [fS,e1]; rfl
  rw [e2,e3] at this;exact this
def DS (H:Hp) (v:V) (xs:List Str) (ws:List A9) (s:Str):Prop:=∃ (B:Addr) (nb:List (Str × V)),v=.ref B/\H B=some (.dK (sK nb))/\nb.map (·.1)=xs/\∀ y u,(y,u) ∈ nb->∃ n,u=.int n/\LD ws s y n
theorem DS.same {H H':Hp} {v:V} {xs:List Str} {ws:List A9} {s:Str} (h:DS H v xs ws s) (sm:Aq H H'):DS H' v xs ws s:=let ⟨B,nb,a,b,c⟩:=h; ⟨B,nb,a,sm _ _ b,c⟩
def Iu:Sp:=fun vs H Q _=>∃ (c m:Addr) (n:Nat) (xs:List Str) (ws:List A9) (Am Al:List AI) (x:V) (d:PyData),vs=[.ref c]/\Cz H c m n xs ws Am Al x d /\
 ∀ (H':Hp) (D:Addr) (nv:List (Str × V)),Aq H H'->H D=none->H' D=some (.dK (sK nv))->nv.map (·.1)=Am.map (·.1)->(∀ s v,(s,v) ∈ nv->DS H' v xs ws s)->Q (.ref D) H'
def QW:Sp:=fun vs H Q _=>∃ (c:Addr) (sites:List Str) (x:V) (d:PyData),vs=[.ref c]/\SQ H c sites x d /\
 ∀ mo:Int,0<=mo->(∀ k:Nat,k<=sites.length->((k:Int)<=mo ↔ RU x k=true))->Q (.int mo) H
theorem PD {J:It} {xs:List V} {S:Hp->Prop} {g:TG} {tk tv:TE} {H:Hp} {σ0:St} {R:Addr->Hp->Prop} (ov:SM J xs S) (ks:List Str) (hk:ks.length=xs.length) (nd:ks.Nodup) (I:Addr->Nat->St->Hp->List (Str × V)->Prop) (big:xs.length < sizeLine)
  (h0:∀ D,H D=none->I D 0 σ0 (upd H D (.dK (sK []))) [])
  (hs:∀ D i σ H' nv,H D=none->I D i σ H' nv->S H'/\H' D=some (.dK (sK nv))/\nv.map (·.1)=ks.take i)
  (turn:∀ D i σ H' nv x k (B:St->V->V->Hp->Prop),H D=none->xs[i]? = some x->ks[i]? = some k->I D i σ H' nv->(∀ A6 v H6,H6 D=some (.dK (sK nv))->I D (i + 1) A6 (upd H6 D (.dK (sK (nv ++ [(k,v)])))) (nv ++ [(k,v)])->B A6 (.str k) v H6) ->
   g x σ H' fun A6 H3=>tk A6 H3 fun y H5=>tv A6 H5 fun v H6=>B A6 y v H6)
  (fin:∀ D σ H' nv,H D=none->I D xs.length σ H' nv->R D H') :
  ∀ D,H D=none->∃ W:Nat->Nat->St->Hp->Prop,(∃ m,W 0 m σ0 (upd H D (.dK []))) /\
   ∀ i m Av H',W i m Av H'->(J.stop i H'/\R D H')\/(J.go i H'/\∀ x H2,J.yld i H' x H2->g x Av H2 fun A6 H3=>J8 A6 H3 fun b H4=>
    if b=true then tk A6 H4 (fun y H5=>tv A6 H5 fun v H6=>∃ kvs k,y=kV k/\H6 D=some (.dK kvs)/\kvs.length < sizeLine/\∃ m',m' < m/\W (i + 1) m' A6 (upd H6 D (.dK (BJ kvs k v)))) else ∃ m',m' < m/\W (i + 1) m' A6 H4):=by
 intro D hD;exists fun i m σ H'=>m=xs.length - i/\i<=xs.length/\∃ nv,I D i σ H' nv,⟨xs.length,rfl,gr _,[],h0 D hD⟩
 rintro i m σ H' ⟨rfl,hi,nv,p⟩;obtain ⟨s1,s2,s3⟩:=hs D i σ H' nv hD p;by_cases B6:i < xs.length
 ·refine .inr ⟨ov.go i H' s1 B6,fun x H2 y=>?_⟩;obtain ⟨rfl,ex⟩:=ov.yld i H' x H2 s1 y;have hki:i < ks.length:=by lia
  have ek:ks[i]? = some ks[i]:=eR hki;have nin:ks[i] ∉ nv.map (·.1):=by
   rw [s3];intro WT;obtain ⟨j,hj,e⟩:=fY WT;rw [fJ] at hj;rw [iP] at e;have:=Hu nd (eR (show j < ks.length by lia)) (by rw [ek,e]);lia
  have nl:nv.length=i:=by
   have:=congrArg gK s3;rw [eU,fJ] at this;lia
  have e:∀ (F:St->V->V->Hp->Prop) (G:St->Hp->Prop),(fun (A6:St) (H3:Hp)=>J8 A6 H3 fun b H4=>if b=true then tk A6 H4 (fun y H5=>tv A6 H5 fun v H6=>F A6 y v H6) else G A6 H4)=fun A6 H3=>tk A6 H3 (fun y H5=>tv A6 H5 fun v H6=>F A6 y v H6):=by
   intro F G;funext A6 H3;show (if true=true then tk A6 H3 (fun y H5=>tv A6 H5 fun v H6=>F A6 y v H6) else G A6 H3)=_
   rw [if_pos rfl]
  rw [e (fun A6 y v H6=>∃ kvs k,y=kV k/\H6 D=some (.dK kvs)/\kvs.length < sizeLine/\∃ m',m' < xs.length - i/\(m'=xs.length - (i + 1)/\i + 1<=xs.length/\∃ Ef,I D (i + 1) A6 (upd H6 D (.dK (BJ kvs k v))) Ef)) (fun A6 H4=>∃ m',m' < xs.length - i/\(m'=xs.length - (i + 1)/\i + 1<=xs.length/\∃ Ef,I D (i + 1) A6 H4 Ef))];refine turn D i σ H2 nv x ks[i] _ hD ex ek p fun A6 v H6 d6 p6=>?_
  exact ⟨_,Sum.inr ks[i],rfl,d6,by rw [CH]; lia,xs.length - (i + 1),by lia,rfl,B6,nv ++ [(ks[i],v)],by rw [DN nin]; exact p6⟩
 ·have e:i=xs.length:=by lia
  subst e;exact .inl ⟨ov.stop H' s1,fin D σ H' nv hD p⟩
theorem LG {α β:Type} {b:β}:∀ {as:List α} {bs:List β} {a:α},as[bs.length]? = some a->as.zip (bs ++ [b])=as.zip bs ++ [(a,b)]
 | [],bs,a,h=>by simp at h
 | x :: as,[],a,h=>by simp at h; subst h; simp
 | x :: as,y :: bs,a,h=>by
  have:=LG (as:=as) (bs:=bs) (b:=b) (a:=a) (by simpa using h);simp [this]
theorem Rv {n:Nat} {g:TG} {te:TE} {H:Hp} {σ0:St} {R:Addr->Hp->Prop} (I:Addr->Nat->St->Hp->List V->Prop) (big:n < sizeLine)
  (h0:∀ D,H D=none->I D 0 σ0 (upd H D (.lst [])) [])
  (hs:∀ D i σ H' acc,H D=none->I D i σ H' acc->H' D=some (.lst acc)/\acc.length=i)
  (turn:∀ D i σ H' acc (B:St->V->Hp->Prop),H D=none->i < n->I D i σ H' acc->(∀ A6 v H5,H5 D=some (.lst acc)->I D (i + 1) A6 (upd H5 D (.lst (acc ++ [v]))) (acc ++ [v])->B A6 v H5)->g (.int (0 + (i:Int))) σ H' fun A6 H3=>te A6 H3 (B A6))
  (fin:∀ D σ H' acc,H D=none->I D n σ H' acc->R D H') :
  ∀ D,H D=none->∃ W:Nat->Nat->St->Hp->Prop,(∃ m,W 0 m σ0 (upd H D (.lst []))) /\
   ∀ i m Av H',W i m Av H'->((Tg 0 n).stop i H'/\R D H')\/((Tg 0 n).go i H'/\∀ x H2,(Tg 0 n).yld i H' x H2->g x Av H2 fun A6 H3=>J8 A6 H3 fun b H4=>
    if b=true then te A6 H4 (fun v H5=>∃ acc,H5 D=some (.lst acc)/\acc.length < sizeLine/\∃ m',m' < m/\W (i + 1) m' A6 (upd H5 D (.lst (acc ++ [v])))) else ∃ m',m' < m/\W (i + 1) m' A6 H4):=by
 intro D hD;exists fun i m σ H'=>m=n - i/\i<=n/\∃ acc,I D i σ H' acc,⟨n,rfl,gr _,[],h0 D hD⟩
 rintro i m σ H' ⟨rfl,hi,acc,p⟩;obtain ⟨s2,s3⟩:=hs D i σ H' acc hD p;by_cases B6:i < n
 ·refine .inr ⟨B6,fun x H2 ⟨e1,e2⟩=>?_⟩;subst e1 e2;have e:∀ (F:St->V->Hp->Prop) (G:St->Hp->Prop),(fun (A6:St) (H3:Hp)=>J8 A6 H3 fun b H4=>if b=true then te A6 H4 (F A6) else G A6 H4)=fun A6 H3=>te A6 H3 (F A6):=by
   intro F G;funext A6 H3;show (if true=true then te A6 H3 (F A6) else G A6 H3)=_
   rw [if_pos rfl]
  rw [e (fun A6 v H5=>∃ acc,H5 D=some (.lst acc)/\acc.length < sizeLine/\∃ m',m' < n - i/\(m'=n - (i + 1)/\i + 1<=n/\∃ FD,I D (i + 1) A6 (upd H5 D (.lst (acc ++ [v]))) FD)) (fun A6 H4=>∃ m',m' < n - i/\(m'=n - (i + 1)/\i + 1<=n/\∃ FD,I D (i + 1) A6 H4 FD))];refine turn D i σ H2 acc _ hD B6 p fun A6 v H5 d5 p5=>?_
  exact ⟨acc,d5,by lia,n - (i + 1),by lia,rfl,B6,_,p5⟩
 ·have e:i=n:=by lia
  subst e;exact .inl ⟨fc _,fin D σ H' acc hD p⟩
theorem Kd {z:Str} (l u:Option Int) (h:UD z):UD (Txt.slice z l u):=by
 unfold Txt.slice;split
 ·exact h
 ·intro c hc;have LC:c ∈ (Builtin.Str.strSliceIndices l u 1 z.length).filterMap (z.cps[·]?):=by simpa using hc
  obtain ⟨i,_,e⟩:=jw.mp LC;exact h c (by rw [jT]; exact jP e)
theorem Rb {z:Str} {a:Int} (h0:0<=a) (h1:a<=z.length):(Txt.slice z none (some a)).length<=a.toNat:=by
 have e:(Builtin.Str.strSliceIndices none (some a) 1 z.length).length=a.toNat:=by
  unfold Builtin.Str.strSliceIndices sliceRange;simp only [show (1:Int) > 0 by decide,if_true,eU,ig];(split <;> (try split) <;> (try split) <;> (try simp only [j5]) <;> lia)
 unfold Txt.slice;split
 ·rename_i q
  rw [e] at q;have:a.toNat=z.length:=by simpa using q
  lia
 ·show (kX _ (Builtin.Str.strSliceIndices none (some a) 1 z.length)).toArray.size<=_
  rw [fu,<-e];exact jN _ _
theorem Nf {z:Str} {a:Int} (h0:0<=a) (h1:a<=z.length):(Txt.slice z (some a) none).length<=z.length - a.toNat:=by
 have e:(Builtin.Str.strSliceIndices (some a) none 1 z.length).length=z.length - a.toNat:=by
  unfold Builtin.Str.strSliceIndices sliceRange;simp only [show (1:Int) > 0 by decide,if_true,eU,ig];(split <;> (try split) <;> (try split) <;> (try simp only [j5]) <;> lia)
 unfold Txt.slice;split
 ·rename_i q
  rw [e] at q;have:z.length - a.toNat=z.length:=by simpa using q
  lia
 ·show (kX _ (Builtin.Str.strSliceIndices (some a) none 1 z.length)).toArray.size<=_
  rw [fu,<-e];exact jN _ _
theorem Mk {X:Cx}:EC X (binaryOp .FloorDiv) (rI (fun _ j=>0 < j/\j < 2 ^ 600) fun i j=>.int (i / j)):=opI fun i j _ _ _ _ _ hc q=>by
 have h1:(0:Int) < j:=hc.1;have h2:j < 2 ^ 600:=hc.2;refine floordiv_int (by lia) (by rw [Int.fdiv_eq_ediv_of_nonneg i (by lia)]; exact q) (.inl (PyProof.noPylong_of_log2 ?_));have hn:j.natAbs < 2 ^ 600:=by lia
 have:j.natAbs.log2 < 600:=(Nat.log2_lt (by lia)).mpr hn;lia
theorem RL {X:Cx}:EC X (binaryOp .Mult) (fun x y H Q=>∃ z n,x=.str z/\y=.int n/\(n=0\/n=1)/\Q (.str (if n=1 then z else Str.empty)) H):=by
 intro pins s σ H x y v u Q I rx ry h;obtain ⟨z,n,rfl,rfl,hn,q⟩:=h;obtain ⟨t,rfl⟩:=rx;obtain ⟨t',rfl⟩:=ry;rcases hn with rfl | rfl
 ·exact PySem.P.mul_str_none (by decide) (by decide) ⟨.str Str.empty,H,I.tok _,⟨_,rfl⟩,q⟩
 ·refine PySem.P.mul_str (by decide) (fun _ z=>by simp at z) (fun _ z=>by simp at z) ?_;rw [if_neg (by decide),if_pos (by simp)];exact ⟨.str z,H,I,⟨_,rfl⟩,q⟩
theorem Cs (K:eV) {X:Cx} (h:X.K=K):SlR X (TF K):=by subst h; exact We
theorem Fy {X:Cx} (hu:X.A.units + 64 < cLine):EC X (compareOp .NotIn) (fun x y H Q=>∃ (t p:Addr) (ss:List Str) (us:List V) (fs:List (List Str)),x=.ref t/\y=.ref p/\H t=some (.tup (ss.map V.str))/\H p=some (.lst us)/\Dz H us fs/\Q (.bl (!(decide (ss ∈ fs)))) H):=by
 intro pins s σ H x y v u Q I rx ry h;obtain ⟨t,p,ss,us,fs,rfl,rfl,ht,hp,tU,q⟩:=h;cases rx
 cases ry
 obtain ⟨Ar,r,pl,hz⟩:=I.list (Ba.of hp);have tx:=UM I ht;have ats:∀ {us:List V} {Ar:List Value} {fs:List (List Str)},AB us Ar->Dz H us fs->(∀ w ∈ Ar,∃ f,f ∈ fs/\JQ s.heap w f)/\∀ f ∈ fs,∃ w ∈ Ar,JQ s.heap w f:=by
  intro us;induction us with
  | nil=>intro Ar fs r tU; cases r; cases tU; exact ⟨(fun w hw=>nomatch hw),fun f hf=>nomatch hf⟩
  | cons v us ih=>
   intro Ar fs r tU;cases r with
   | cons r1 r2=>
    cases tU with
    | cons a b=>
     cases r1
     obtain ⟨i1,i2⟩:=ih r2 b;have t1:=UM I a;refine ⟨fun w hw=>?_,fun f hf=>?_⟩
     ·rcases eX.mp hw with rfl | hw
      ·exact ⟨_,fX,t1⟩
      ·obtain ⟨f,h1,h2⟩:=i1 w hw;exact ⟨f,fK _ h1,h2⟩
     ·rcases eX.mp hf with rfl | hf
      ·exact ⟨_,fX,t1⟩
      ·obtain ⟨w,h1,h2⟩:=i2 f hf;exact ⟨w,fK _ h1,h2⟩
 have one:∀ {w:Value} {f g:List Str},JQ s.heap w f->JQ s.heap w g->f=g:=fun {w f g} h1 h2=>by
  obtain ⟨a,Fl,e1,⟨o,ho,hc,n,hd⟩,r1⟩:=h1;obtain ⟨b,FK,e2,⟨o',Ii,LC,n',Lu⟩,r2⟩:=h2;rw [e1] at e2;cases e2
  rw [ho] at Ii;cases Ii
  rw [hd] at Lu;injection Lu with e3 e4;have e5:=congrArg iX e3;simp only at e5;subst e5;exact JV r1 r2
 classical
 obtain ⟨a1,a2⟩:=ats r tU;refine SeqAt.notIn_listAt (fun w=>decide (JQ s.heap w ss)) pl.isList (fun w hw=>?_) ⟨.bl _,H,I,rfl,?_⟩
 ·obtain ⟨f,hf,tf⟩:=a1 w (by simpa using hw);have:=Uw (A:=X.A.in1) (s:=s) tf tx (by rw [PySem.Around.in1_units]; lia);have e:decide (f=ss)=decide (JQ s.heap w ss):=by
   rw [gP];simp only [decide_eq_true_eq];exact ⟨fun e=>e ▸ tf,fun h=>one tf h⟩
  rw [<-e];exact this
 ·have e:Ar.toArray.any (fun w=>decide (JQ s.heap w ss))=decide (ss ∈ fs):=by
   rw [gP];simp only [List.any_toArray,iB,decide_eq_true_eq];constructor
   ·rintro ⟨w,hw,h⟩;obtain ⟨f,hf,tf⟩:=a1 w hw;rw [one h tf];exact hf
   ·exact fun h=>a2 ss h
  rw [e];exact q
section
variable {prog:Program} {w:World} {A:Around} {E:Value->Shared->Prop} {s:Shared}
theorem N4 {l:Addr} {vs:List Value} {Q:List Value->Shared->Prop} (hl:s.heap.IsTuple l vs.toArray) (few:vs.toArray.size<=sizeLine)
  (h:∀ h1:Heap,s.heap.objs.size<=h1.objs.size->(∀ b o,s.heap.get? b=some o->h1.get? b=some o)->Q vs { s with heap:=h1 }):wpAny (model prog w) A (collect (.ref l)) Q E s:=by
 obtain ⟨o,ho,hc,n,hd⟩:=hl;obtain ⟨g,eg⟩:∃ g,g=(s.heap.push { cls:=.type "list",data:=.seq ([]:List Value).toArray }).update s.heap.objs.size (Obj.mapSeq (· ++ vs.toArray)):=⟨_,rfl⟩
 have gS:=gA (Obj.mapSeq (· ++ vs.toArray)) (fe s.heap (o:={ cls:=.type "list",data:=.seq ([]:List Value).toArray }) rfl) rfl;rw [<-eg] at gS;have last:=h g (by rw [eg,kP,gh]; exact gy _) fun b o' hb=>by
  rw [eg];exact (g8 _ _ (gB (fb hb))).trans (eT _ hb)
 unfold collect;refine wpAny_bind (wpAny_runValue (codeAny_builtin PySem.F.entry_proto_collect ?_));rw [Around.under_plainId PySem.F.plain_proto_collect _];refine wpAny_bind (wpAny_newObj_type (wpAny_pure ⟨plainId_quiet PySem.F.plain_list_iadd _,codeAny_builtin PySem.F.entry_list_iadd ?_⟩));rw [Around.under_plainId PySem.F.plain_list_iadd _];have fin:∀ s':Shared,s' = { s with heap:=g }->wpAny (model prog w) A (match Value.ref s.heap.objs.size with
   | Value.ref a=>do
    match (<- load a).data with
     | Data.seq xs _=>pure xs.toList
     | _=>unsupported "internal:collect"
   | _=>unsupported "internal:collect") Q E s':=by
  rintro s' rfl;refine wpAny_bind (wpAny_load gS (wpAny_pure ?_));simpa using last
 refine wpAny_mono (wpAny_extend_seq (hsz:=few) (A:=A) (R:=fun r s'=>r=.ok (.ret (.ref s.heap.objs.size))/\s' = { s with heap:=g }) (s:={ s with heap:=s.heap.push { cls:=.type "list",data:=.seq ([]:List Value).toArray } }) _ l _ 0 (.inr rfl) (fe _ rfl) (eT _ ho) hc hd ⟨rfl,by rw [eg]⟩) (fun r s' q=>?_) (fun e s' q=>absurd q.1 (by simp));cases r with
 | done f=>
  obtain ⟨e,q⟩:=q;cases e
  exact fin s' q
 | again c=>exact ⟨q.1,codeAny_mono q.2 fun r Wr z=>by obtain ⟨rfl,z⟩:=z; exact fin Wr z⟩
theorem Hg {l:Addr} {vs:List Value} {ss:List Str} {Q:Value->Shared->Prop} (hl:s.heap.IsTuple l vs.toArray) (hS:StrsAre vs ss) (Kr:vs.length < 64)
  (h:∀ (h':Heap) (a:Addr) (out:Array Value) (ss':List Str) (e:Nat),s.heap.objs.size<=a->(∀ b o,s.heap.get? b=some o->h'.get? b=some o)->h'.get? a=some (seqObj "list" out e)->StrsAre out.toList ss'->ss'.Perm ss->sortedS ss'=true->Q (.ref a) { s with heap:=h' }) :
  wpAny (model prog w) A (call (.builtin "sorted") [.ref l]) Q E s:=by
 have few:vs.toArray.size<=sizeLine:=by rw [fu,sizeLine_eq]; lia
 refine Calls.call_function_entry kind_sorted plain_sorted entry_sorted (args_sorted1 _) ?_;unfold Builtin.«sorted»;refine wpAny_bind (m:=checkCount "sorted" 1 1 _) (wpAny_pure (wpAny_bind (N4 hl few fun h1 sz k1=>?_)));refine wpAny_bind (wpAny_newList ?_ (by simpa using few));have lies:(h1.push (seqObj "list" vs.toArray 0)).get? h1.objs.size=some (seqObj "list" vs.toArray 0):=fe _ rfl;refine wpAny_bind (wpAny_holding (wpAny_call_entry slot_list_sort ⟨_,lies,rfl⟩ entry_list_sort (list_sort_treeK (s:={ s with heap:=h1.push (seqObj "list" vs.toArray 0) }) strKind_oneLt lies hS.keysOf (fun bH bG rest e=>keyKind_strs (by rw [<-e]; exact hS)) Kr fun AZ hp hs=>⟨_,rfl,wpAny_pure ⟨_,rfl,?_⟩⟩) (args_list_sort _)));obtain ⟨ss',q1,q2,q3⟩:=sorted_out_str hS hp hs;obtain ⟨e,he⟩:=sortedHeap_at (out:=(arrOf AZ).map (·.2)) lies;refine h _ h1.objs.size _ ss' e sz (fun b o z=>?_) he q1 q2 q3;have hb:=k1 b o z;rw [sortedHeap_old (fj (fb hb)) (by rw [gh]; exact gf (fb hb))];exact eT _ hb
end
theorem HV {X:Cx}:Bv X (.builtin "sorted") (fun xs H Q=>∃ (t:Addr) (x y:Str),xs=[.ref t]/\H t=some (.tup [.str x,.str y])/\∀ l,H l=none->Q (.ref l) (upd H l (.lst [.str (BZ x y),.str (Cc x y)]))):=by
 intro pins s σ H xs us Q I r h;obtain ⟨t,x,y,rfl,ht,q⟩:=h;obtain ⟨u,rfl,ru⟩:=Cq r;cases ru
 obtain ⟨Ar,rv,pl,hz⟩:=I.tuple (Az.of (show H t=some (.tup ([x,y].map V.str)) from ht));have hl:Ar.length=2:=by rw [<-rv.length]; rfl
 refine Hg pl (KC rv) (by lia) fun h' a out ss' e ha kp he h1 h2 h3=>?_
 have e2:ss'=[BZ x y,Cc x y]:=by
  obtain ⟨x',y',rfl⟩:∃ x' y',ss'=[x',y']:=by
   have:=h2.length_eq;match ss',this with
   | [a,b],_=>exact ⟨a,b,rfl⟩
  obtain ⟨e1,e2⟩:=MX h2 h3;rw [e1,e2]
 subst e2;refine ⟨.ref a,_,I.laid (o:=.lst [.str (BZ x y),.str (Cc x y)]) (t':=s.toks) kp ha ⟨by show 2<=sizeLine; decide,out.toList,e,Ga h1,by simpa using he⟩,rfl,q a (I.hok.fresh ha)⟩
def QT (K:eV):Sp:=fun vs H Q _=>∃ (a:Addr) (ns:List Int) (k:Int),vs=[.ref a,.int k]/\U6 K H a (ns.map V.int)/\0<=k/\∀ (p:Addr) (x y z:Int),H p=none->Q (.ref p) (upd H p (.lst (AK x y z)))
def D5:Sp:=fun vs H Q _=>∃ (p:Addr) (m:Int),vs=[.ref p,.int m]/\AG H p/\0 < m/\m < 2 ^ 600/\∀ (d a b c:Int),0<=d->d < m->Q (.int d) (upd H p (.lst (AK a b c)))
theorem Du.lens {xs:List Str} {ws Hf:List A9} (h:Du xs ws) (hl:Hf.length=ws.length) (he:∀ (i:Nat) u u',ws[i]? = some u->Hf[i]? = some u'->u'.1=u.1/\u'.2.1=u.2.1/\1<=u'.2.2):Du xs Hf:=by
 have at':∀ u' ∈ Hf,∃ (i:Nat) (u:A9),ws[i]? = some u/\Hf[i]? = some u'/\u'.1=u.1/\u'.2.1=u.2.1/\1<=u'.2.2:=fun u' hu=>by
  obtain ⟨i,hi⟩:=kg hu;have Sk:=(fh.mp hi).1;have e:ws[i]? = some (ws[i]'(by lia)):=eR _;exact ⟨i,_,e,hi,he i _ _ e hi⟩
 refine ⟨fun u' hu=>?_,?_,fun j h1 h2=>?_⟩
 ·obtain ⟨i,u,e1,e2,a,b,c⟩:=at' u' hu;obtain ⟨z1,z2,z3,_⟩:=h.1 u (eW e1);rw [a,b];exact ⟨z1,z2,z3,c⟩
 ·refine h8.mpr fun i j hi hj hij al=>?_
  have e1:ws[i]? = some (ws[i]'(by lia)):=eR _;have e2:ws[j]? = some (ws[j]'(by lia)):=eR _;obtain ⟨a1,b1,_⟩:=he i _ _ e1 (eR hi);obtain ⟨a2,b2,_⟩:=he j _ _ e2 (eR hj);refine h8.mp h.2.1 i j (by lia) (by lia) hij ?_;unfold Jy at al ⊢;rw [a1,b1,a2,b2] at al;exact al
 ·obtain ⟨u,hu,i,hij,e1,e2⟩:=h.2.2 j h1 h2;obtain ⟨q,hq⟩:=kg hu;have hq':=(fh.mp hq).1;have e:Hf[q]? = some (Hf[q]'(by lia)):=eR _;obtain ⟨a,b,_⟩:=he q _ _ hq e;exact ⟨_,eW e,i,hij,by rw [a]; exact e1,by rw [b]; exact e2⟩
theorem PZ (a b:Str):BZ a b=BZ b a:=by
 unfold BZ;split
 ·rename_i h
  rw [if_neg (fun z=>iE h z)]
 ·rename_i h
  split
  ·rfl
  ·rename_i h'
   exact CZ h h'
theorem Qb (a b:Str):Cc a b=Cc b a:=by
 unfold Cc;split
 ·rename_i h
  rw [if_neg (fun z=>iE h z)]
 ·rename_i h
  split
  ·rfl
  ·rename_i h'
   exact (CZ h h').symm
def Mh (q:Str × Str):A9:=(q.2,q.1,1)
def Eb (q:Str × Str):List Str:=[q.1,q.2]
def Of:Sp:=fun vs H Q _=>∃ (p e:Addr) (xs:List Str) (kd:Int),vs=[.ref p,.ref e,.int kd]/\AG H p/\H e=some (.lst (xs.map V.str))/\e ≠ p/\xs.Nodup/\(∀ x ∈ xs,AA x=true)/\1<=xs.length/\xs.length<=26 /\
 ∀ (H':Hp) (T:Addr) (us:List V) (ws Gv:List A9),AG H' p->AM p H H'->H' T=some (.tup us)->A2 H' us (ws.map Fj)->ws.Perm (Gv.map Ez)->Du xs Gv->(∀ u ∈ Gv,u.2.2<=9)->Gv.length<=30->Q (.ref T) H'
theorem AS (K:eV) {X:Cx} (h:X.K=K):Bv X (.type "tuple") (fun xs H Q=>∃ p ys,xs=[.ref p]/\((Ba K H p ys/\∀ l,H l=none->Q (.ref l) (upd H l (.tup ys)))\/(Az K H p ys/\Q (.ref p) H))):=by subst h; exact Fz
end L2
namespace L2
open PySem PySem.Spec PySem.W PyProof.Rows
end L2
namespace L2
open PySem PySem.Spec PyProof.Rows
def Cy (l:List Str):Prop:=l.Pairwise fun a b=>a.cps.toList < b.cps.toList
theorem Cy.nodup {l:List Str} (h:Cy l):l.Nodup:=List.Pairwise.imp (fun {a b} z e=>by subst e; exact ET _ z) h
theorem Cy.pw {l:List Str} (h:Cy l):l.Pairwise fun a b=>¬ b.cps.toList < a.cps.toList:=List.Pairwise.imp (fun {a b} z=>iE z) h
theorem G3 {l:List Str} (h:l.Pairwise fun a b=>¬ b.cps.toList < a.cps.toList) (nd:l.Nodup):Cy l:=by
 induction l with
 | nil=>exact .nil
 | cons x l ih=>
  rw [gQ] at h;rw [gG] at nd;refine gQ.mpr ⟨fun y hy=>?_,ih h.2 nd.2⟩;by_cases z:x.cps.toList < y.cps.toList
  ·exact z
  ·exact absurd (CZ (h.1 y hy) z) (fun e=>nd.1 (e ▸ hy))
theorem Ew {ss ss':List Str} (nd:ss'.Nodup) (mem:∀ k,k ∈ ss' ↔ k ∈ ss) (srt:sortedS ss'=true):ss'=ss ↔ Cy ss:=
 ⟨fun e=>e ▸ G3 (Fc srt) nd,fun h=>Kc (Fc srt) h.pw (Mf nd h.nodup mem)⟩
def tyD:PyData->String
 | .none=>"NoneType"
 | .bool _=>"bool"
 | .int _=>"int"
 | .str _=>"str"
 | .list _=>"list"
 | .tuple _=>"tuple"
 | .dict _=>"dict"
theorem F0.ty {K:eV} {H:Hp} {v:V} {d:PyData} (h:F0 H v d):Dy K H v (.type (tyD d)):=by
 cases h with
 | non=>exact .non
 | bl b=>exact .bl b
 | int i=>exact .int i
 | str x=>exact .str x
 | tup e _=>exact .tup e
 | lst e _=>exact .lst e
theorem F0.notStr {K:eV} {H:Hp} {v:V} {d:PyData} (h:F0 H v d) (n:∀ s,d ≠ .str s):FE K H v:=by
 exists _,h.ty;cases d with
 | str s=>exact absurd rfl (n s)
 | _=>rfl
theorem Dy.same {K:eV} {H H':Hp} {x:V} {t:Value} (h:Dy K H x t) (s:Aq H H'):Dy K H' x t:=by
 cases h with
 | non=>exact .non
 | bl x=>exact .bl x
 | int i=>exact .int i
 | str x=>exact .str x
 | flt x=>exact .flt x
 | lst e=>exact .lst (s _ _ e)
 | frz e=>exact .frz (s _ _ e)
 | tup e=>exact .tup (s _ _ e)
 | dK e=>exact .dK (s _ _ e)
 | dT e=>exact .dT (s _ _ e)
 | ins e c h1 h2 h3 h4=>exact .ins (s _ _ e) c h1 h2 h3 h4
def K6 (K:eV) (H:Hp) (v:V):Prop:=∃ ty,Dy K H v ty/\i5 K ty (.type "tuple")=some false
theorem M5:∀ (ss:List Str) (ds:List PyData),PyData.eqvAll (ss.map PyData.str) ds=true ↔ ds=ss.map PyData.str
 | [],[]=>by simp [PyData.eqvAll]
 | [],d :: ds=>by simp [PyData.eqvAll]
 | x :: ss,[]=>by simp [PyData.eqvAll]
 | x :: ss,d :: ds=>by
  rw [fU,PyData.eqvAll,gE,M5 ss ds];constructor
  ·rintro ⟨h,rfl⟩;cases d with
   | str y=>
    rw [PyData.eqv] at h;rw [eq_of_beq h]
   | _=>rw [PyData.eqv] at h; cases h
  ·intro e;injection e with e1 e2;subst e1;refine ⟨?_,e2⟩;rw [PyData.eqv];simp
theorem M6 (ss:List Str) (ds:List PyData):PyData.eqv (.list (ss.map PyData.str)) (.list ds)=true ↔ ds=ss.map PyData.str:=by
 rw [PyData.eqv]; exact M5 ss ds
theorem A2.len {H:Hp}:∀ {xs:List V} {ds:List PyData},A2 H xs ds->xs.length=ds.length
 | _,_,.nil=>rfl
 | _,_,.cons _ r=>congrArg (· + 1) r.len
theorem A2.at {H:Hp}:∀ {xs:List V} {ds:List PyData},A2 H xs ds->∀ {i:Nat} {v:V},xs[i]? = some v->∃ d,ds[i]? = some d/\F0 H v d
 | _,_,.nil,i,v,e=>by simp at e
 | _,_,.cons h r,0,v,e=>by
  simp only [gF,fV.injEq] at e;subst e;exact ⟨_,rfl,h⟩
 | _,_,.cons h r,i + 1,v,e=>by
  simp only [hX] at e;obtain ⟨d,e1,e2⟩:=r.at e;exact ⟨d,by simpa using e1,e2⟩
theorem A2.txt {H:Hp}:∀ {xs:List V} {ss:List Str},A2 H xs (ss.map PyData.str)->xs=ss.map V.str
 | xs,[],h=>by cases h; rfl
 | xs,x :: ss,h=>by
  cases h with
  | cons h1 h2=>
   cases h1
   rw [h2.txt];rfl
def Hv:PyData->Bool
 | .str s=>AA s
 | _=>false
theorem G9:∀ {ds:List PyData},(ds.map Hv).all id=true->∃ ss:List Str,ds=ss.map PyData.str/\∀ s ∈ ss,AA s=true
 | [],_=>⟨[],rfl,fun s hs=>nomatch hs⟩
 | d :: ds,h=>by
  rw [fU,iS,gE] at h;obtain ⟨ss,rfl,hn⟩:=G9 h.2;cases d with
  | str x=>exact ⟨x :: ss,rfl,fun s hs=>(eX.mp hs).elim (fun e=>e ▸ h.1) (hn s)⟩
  | _=>exact absurd (show false=true from h.1) (by decide)
theorem K4 {ss:List Str} (h:∀ s ∈ ss,AA s=true):((ss.map PyData.str).map Hv).all id=true:=by
 rw [gL,gY,gz];exact fun s hs=>h s hs
theorem D4 {ss ss':List Str} (h:ss.map PyData.str=ss'.map PyData.str):ss=ss':=by
 induction ss generalizing ss' with
 | nil=>cases ss' with
  | nil=>rfl
  | cons _ _=>cases h
 | cons x ss ih=>cases ss' with
  | nil=>cases h
  | cons y ss'=>
   injection h with h1 h2;injection h1 with h1;rw [h1,ih h2]
def LS (K:eV):Sp:=fun vs H Q _=>∃ (t:Addr) (xs:List V) (ds:List PyData),vs=[.ref t]/\(H t=some (.lst xs)\/H t=some (.tup xs))/\A2 H xs ds/\(∀ s,PyData.str s ∈ ds->s.length<=1000)/\xs.length<=60 /\
 ∀ (b:Bool) (H':Hp),Aq H H'->(b=true ↔ ∃ ss:List Str,ds=ss.map PyData.str/\(∀ s ∈ ss,AA s=true)/\Cy ss)->Q (.bl b) H'
def OS (H:Hp) (v:V) (ds:List PyData):Prop:=∃ (t:Addr) (xs:List V),v=.ref t/\H t=some (.tup xs)/\A2 H xs ds/\(∀ s,PyData.str s ∈ ds->s.length<=1000)/\xs.length<=60
end L2
namespace HT
open PySem PySem.Spec PyProof.Rows
section
variable {prog:Program} {w:World} {A:Around} {E:Value->Shared->Prop} {s:Shared}
end
end HT
namespace L2
open PySem PySem.Spec PyProof.Rows
section
variable {X:Cx} {Φ:St->Hp->Prop} {a b:Expr} {pos:Pos} {n m:Nat}
end
theorem Ej {X:Cx}:Bv X (.builtin "sorted") (fun xs H Q=>∃ (t:Addr) (ss:List Str),xs=[.ref t]/\H t=some (.tup (ss.map V.str))/\ss.length < 64/\∀ (l:Addr) (ss':List Str),H l=none->ss'.Perm ss->Q (.ref l) (upd H l (.lst (ss'.map V.str)))):=by
 intro pins s σ H xs us Q I r h;obtain ⟨t,ss,rfl,ht,Kr,q⟩:=h;obtain ⟨u,rfl,ru⟩:=Cq r;cases ru
 obtain ⟨Ar,rv,pl,hz⟩:=I.tuple (Az.of ht);have hl:Ar.length=ss.length:=by rw [<-rv.length,eU]
 refine Hg pl (KC rv) (by lia) fun h' a out ss' e ha kp he h1 h2 h3=>?_
 exact ⟨.ref a,_,I.laid (o:=.lst (ss'.map V.str)) (t':=s.toks) kp ha ⟨by rw [eU,h2.length_eq,sizeLine_eq]; lia,out.toList,e,Ga h1,by simpa using he⟩,rfl,q a ss' (I.hok.fresh ha) h2⟩
section
variable {Φ:St->Hp->Prop} {n:Nat}
end
theorem Mj {X:Cx}:EC X (compareOp .IsNot) (fun x y H Q=>∃ b c,x=.bl b/\y=.bl c/\Q (.bl (!(b == c))) H):=by
 intro pins s σ H x y v u Q I rx ry h;obtain ⟨b,c,rfl,rfl,q⟩:=h;cases rx
 cases ry
 have e:EP X pins σ Q (.bool (!(b == c))) s:=⟨.bl _,H,I,rfl,q⟩
 cases b <;> cases c <;> exact wpAny_pure e
def Gw (m:Int) (u:A9):A9:=(u.1,u.2.1,u.2.2 * m)
theorem AG.same {H H':Hp} {p:Addr} (h:AG H p) (s:Aq H H'):AG H' p:=by obtain ⟨_,_,_,z⟩:=h; exact ⟨_,_,_,s _ _ z⟩
theorem Qc {H:Hp} {m:Addr} {t1 t2:Addr} {vs:List V} {xs ps:List Str} {ws Gv:List A9} {mu:Int} (mu1:1<=mu) (mu2:mu<=10 ^ 20)
  (h1:H m=some (.tup [.ref t1,.ref t2])) (h2:H t1=some (.tup (ps.map V.str))) (h3:H t2=some (.tup vs)) (h4:A2 H vs ((ws.map (Gw mu)).map Fj)) (pp:ps.Perm xs) (so:sortedS ps=true) (xnd:xs.Nodup) (xnm:∀ x ∈ xs,AA x=true)
  (wp:ws.Perm (Gv.map Ez)) (wc:Du xs Gv) (w9:∀ u ∈ Gv,u.2.2<=9) (wl:Gv.length<=30):Gq H m ps.length ps (ws.map (Gw mu)):=by
 have l:ws.length=Gv.length:=by rw [wp.length_eq,eU]
 refine ⟨⟨⟨t1,t2,vs,h1,h2,h3,h4⟩,rfl,pp.nodup_iff.mpr xnd,fun x hx=>xnm x (pp.mem_iff.mp hx),by rw [eU]; lia,fun u hu=>?_⟩,⟨xs,Gv.map (Gw mu),pp,?_,?_⟩,so,by rw [eU]; lia⟩
 ·obtain ⟨v,hv,rfl⟩:=fi.mp hu;obtain ⟨u,hu0,rfl⟩:=fi.mp (wp.mem_iff.mp hv);obtain ⟨a,b,c,d⟩:=wc.1 u hu0;have e9:=w9 u hu0;have n1:=xnm _ a;have n2:=xnm _ b;have g1:1<=u.2.2 * mu:=by
   have:=jK d mu1 (by decide) (by lia);lia
  have g2:u.2.2 * mu<=9 * 10 ^ 20:=jK e9 mu2 (by lia) (by decide);exists ?_,?_,g1
  ·show AA (Ez u).1=true
   rcases C5 u with ⟨z,_⟩ | ⟨z,_⟩ <;> rw [z] <;> assumption
  ·show AA (Ez u).2.1=true
   rcases C5 u with ⟨_,z⟩ | ⟨_,z⟩ <;> rw [z] <;> assumption
  ·have:(9:Int) * 10 ^ 20 < 10 ^ 30:=by decide
   show u.2.2 * mu < 10 ^ 30
   lia
 ·have:=wp.map (Gw mu);rw [gL] at this ⊢;exact this
 ·refine wc.lens (by rw [eU]) fun i u u' e1 e2=>?_
  rw [eZ,e1] at e2;cases e2
  exists rfl,rfl;obtain ⟨_,_,_,d⟩:=wc.1 u (eW e1);show 1<=u.2.2 * mu
  have:=jK d mu1 (by decide) (by lia);lia
theorem Gd {m:Int} (h:m<=1000):m < 2 ^ 600:=kM h (by decide +kernel)
theorem DQ.names {xs ps:List Str} {lo:Int} {rs:List AI} (h:DQ xs lo rs) (p:ps.Perm xs):DQ ps lo rs:=⟨fun r hr=>p.mem_iff.mpr (h.sub r hr),h.nd,h.lo,h.one⟩
def oI:Option Int->V
 | none=>.non
 | some n=>.int n
def MV (H:Hp) (A:Addr) (G:Str->Str->Option V) (c:Nat):Prop:=∃ kvs:List (List Bh × V),H A=some (.dT kvs)/\kvs.length<=c/\∀ x y,Bz kvs [Sum.inr x,Sum.inr y]=G x y
theorem MV.same {H H':Hp} {A:Addr} {G:Str->Str->Option V} {c:Nat} (h:MV H A G c) (s:Aq H H'):MV H' A G c:=let ⟨kvs,a,b,d⟩:=h; ⟨kvs,s _ _ a,b,d⟩
theorem MV.up {H:Hp} {A:Addr} {G:Str->Str->Option V} {c c':Nat} (h:MV H A G c) (l:c<=c'):MV H A G c':=let ⟨kvs,a,b,d⟩:=h; ⟨kvs,a,gc b l,d⟩
def Ng (G:Str->Str->Option V) (x y:Str) (v:V):Str->Str->Option V:=fun a b=>if a=x/\b=y then some v else G a b
theorem MV.get {H:Hp} {A t:Addr} {G:Str->Str->Option V} {c:Nat} (h:MV H A G c) {x y:Str} (ht:H t=some (.tup [.str x,.str y])):Cp H A (.ref t) (G x y):=by
 obtain ⟨kvs,a,_,d⟩:=h;rw [<-d x y];exact Cp.t (k:=[Sum.inr x,Sum.inr y]) a ht
theorem MV.put {H:Hp} {A t:Addr} {G:Str->Str->Option V} {c:Nat} (h:MV H A G c) (hc:c < sizeLine) {x y:Str} {v:V} (ht:H t=some (.tup [.str x,.str y])):∃ H',FF H A (.ref t) v H'/\MV H' A (Ng G x y v) (c + 1)/\∃ kvs,H'=upd H A (.dT kvs):=by
 obtain ⟨kvs,a,b,d⟩:=h;refine ⟨_,FF.t (k:=[Sum.inr x,Sum.inr y]) a ht (by lia),⟨_,Ab,?_,fun p q=>?_⟩,_,rfl⟩
 ·have:=CA kvs [Sum.inr x,Sum.inr y] v;lia
 ·rw [QK];unfold Ng;by_cases e:p=x/\q=y
  ·obtain ⟨rfl,rfl⟩:=e;simp
  ·have e':¬ ([Sum.inr p,Sum.inr q]:List Bh)=[Sum.inr x,Sum.inr y]:=fun z=>by
    simp only [jm.injEq,Sum.inr.injEq,and_true] at z;exact e z
   rw [if_neg e',if_neg e,d]
def MO (H:Hp) (A:Addr) (xs:List Str) (M:Str->Str->Option Int) (c:Nat):Prop:=∃ G,MV H A G c/\(∀ x ∈ xs,∀ y ∈ xs,G x y=some (oI (M x y)))/\∀ x y,¬ (x ∈ xs/\y ∈ xs)->G x y=none
theorem MO.same {H H':Hp} {A:Addr} {xs:List Str} {M:Str->Str->Option Int} {c:Nat} (h:MO H A xs M c) (s:Aq H H'):MO H' A xs M c:=let ⟨G,a,b⟩:=h; ⟨G,a.same s,b⟩
theorem MO.up {H:Hp} {A:Addr} {xs:List Str} {M:Str->Str->Option Int} {c c':Nat} (h:MO H A xs M c) (l:c<=c'):MO H A xs M c':=let ⟨G,a,b⟩:=h; ⟨G,a.up l,b⟩
theorem MO.get {H:Hp} {A t:Addr} {xs:List Str} {M:Str->Str->Option Int} {c:Nat} (h:MO H A xs M c) {x y:Str} (hx:x ∈ xs) (hy:y ∈ xs) (ht:H t=some (.tup [.str x,.str y])):Cp H A (.ref t) (some (oI (M x y))):=by
 obtain ⟨G,a,b,_⟩:=h;rw [<-b x hx y hy];exact a.get ht
theorem MO.put {H:Hp} {A t:Addr} {xs:List Str} {M:Str->Str->Option Int} {c:Nat} (h:MO H A xs M c) (hc:c < sizeLine) {x y:Str} (hx:x ∈ xs) (hy:y ∈ xs) {n:Int} (ht:H t=some (.tup [.str x,.str y])):∃ H',FF H A (.ref t) (.int n) H'/\MO H' A xs (KN M x y n) (c + 1)/\∃ kvs,H'=upd H A (.dT kvs):=by
 obtain ⟨G,a,b,d⟩:=h;obtain ⟨H',dp,mv,e⟩:=a.put hc (v:=.int n) ht;refine ⟨H',dp,⟨_,mv,fun p hp q hq=>?_,fun p q hn=>?_⟩,e⟩
 ·unfold Ng KN;split
  ·rfl
  ·exact b p hp q hq
 ·unfold Ng;rw [if_neg (fun z=>hn ⟨by rw [z.1]; exact hx,by rw [z.2]; exact hy⟩)];exact d p q hn
theorem MO.md {H:Hp} {A:Addr} {xs:List Str} {M:Str->Str->Option Int} {c:Nat} (h:MO H A xs M c) (full:∀ x ∈ xs,∀ y ∈ xs,∃ n,M x y=some n):MD H A (fun x y=>if x ∈ xs/\y ∈ xs then M x y else none) c:=by
 obtain ⟨G,⟨kvs,a,b,d⟩,e,f⟩:=h;refine ⟨kvs,a,b,fun x y=>?_⟩;rw [d x y];dsimp only;by_cases hxy:x ∈ xs/\y ∈ xs
 ·obtain ⟨n,hn⟩:=full x hxy.1 y hxy.2;rw [e x hxy.1 y hxy.2,if_pos hxy,hn];rfl
 ·rw [f x y hxy,if_neg hxy];rfl
def Oq:Sp:=fun vs H Q _=>∃ (c m:Addr) (n:Nat) (xs:List Str) (ws:List A9) (Am Al:List AI) (x:V) (d:PyData),vs=[.ref c]/\Cz H c m n xs ws Am Al x d/\∀ (H':Hp) (A:Addr),Aq H H'->H A=none->DL H' A xs ws->Q (.ref A) H'
open Classical in
noncomputable def dst (ws:List A9) (x y:Str):Int:=if h:∃ n,LD ws x y n then h.choose else 0
theorem LD.dst {ws:List A9} {x y:Str} {n:Int} (h:LD ws x y n):dst ws x y=n:=by
 unfold L2.dst;rw [dif_pos ⟨n,h⟩];exact LD.uniq (Exists.choose_spec (⟨n,h⟩:∃ n,LD ws x y n)) h
noncomputable def CI (ws:List A9) (x:Str) (r:AI) (p:Int):Int:=max (p - r.2 * dst ws x r.1) 0
noncomputable def By (ws:List A9) (x:Str) (rs qs:List AI):Int:=((rs.zip qs).map fun z=>CI ws x z.1 z.2.2).sum
structure JS (rs qs:List AI):Prop where
 nm:qs.map (·.1)=rs.map (·.1)
 lo:∀ q ∈ qs,0<=q.2
theorem JS.len {rs qs:List AI} (h:JS rs qs):qs.length=rs.length:=by
 have:=congrArg gK h.nm;rwa [eU,eU] at this
theorem JS.at {rs qs:List AI} (h:JS rs qs) {i:Nat} {q:AI} (e:qs[i]? = some q):∃ r,rs[i]? = some r/\r.1=q.1:=by
 have:=congrArg (fun l=>l[i]?) h.nm;rw [eZ,eZ,e] at this;cases z:rs[i]? with
 | none=>rw [z] at this; cases this
 | some r=>rw [z] at this; exact ⟨r,rfl,(fV.inj this).symm⟩
structure CP (H:Hp) (c m t:Addr) (n:Nat) (xs:List Str) (ws:List A9) (Am Al qs:List AI) (x:V) (d:PyData):Prop where
 cw:Cz H c m n xs ws Am Al x d
 few:∀ r ∈ Al,r.2<=4
 ex:∃ us,H t=some (.tup us)/\A2 H us (qs.map Ce)
 ok:JS Al qs
theorem CP.same {H H':Hp} {c m t:Addr} {n:Nat} {xs:List Str} {ws:List A9} {Am Al qs:List AI} {x:V} {d:PyData} (h:CP H c m t n xs ws Am Al qs x d) (s:Aq H H'):CP H' c m t n xs ws Am Al qs x d:=by
 obtain ⟨us,a,b⟩:=h.ex;exact ⟨h.cw.same s,h.few,⟨us,s _ _ a,AH b fun b ys z=>s _ _ z⟩,h.ok⟩
theorem CP.names {H:Hp} {c m t:Addr} {n:Nat} {xs:List Str} {ws:List A9} {Am Al qs:List AI} {x:V} {d:PyData} (h:CP H c m t n xs ws Am Al qs x d):∀ q ∈ qs,q.1 ∈ xs/\AA q.1=true:=fun q hq=>by
 have h1:q.1 ∈ Al.map (·.1):=by rw [<-h.ok.nm]; exact fi.mpr ⟨q,hq,rfl⟩
 obtain ⟨r,hr,e⟩:=fi.mp h1;have h2:=h.cw.ok2.sub r hr;have e':r.1=q.1:=e;rw [e'] at h2;exact ⟨h2,h.cw.map.at'.nm _ h2⟩
def Iv:Sp:=fun vs H Q _=>∃ (c m t:Addr) (n:Nat) (xs:List Str) (ws:List A9) (Am Al qs:List AI) (x:V) (d:PyData) (v:V) (y:Str),vs=[.ref c,.ref t,v]/\CP H c m t n xs ws Am Al qs x d/\DS H v xs ws y/\∀ H',Aq H H'->Q (.int (By ws y Al qs)) H'
theorem DS.get {H:Hp} {v:V} {xs:List Str} {ws:List A9} {s y:Str} (h:DS H v xs ws s) (nd:xs.Nodup) (hy:y ∈ xs):∃ B,v=.ref B/\Cp H B (.str y) (some (.int (dst ws s y))):=by
 obtain ⟨B,nb,rfl,hB,ks,hd⟩:=h;rw [<-ks] at hy;obtain ⟨⟨z,u⟩,hm,e⟩:=fi.mp hy;have e':z=y:=e;subst e';obtain ⟨n,rfl,d⟩:=hd z u hm;rw [d.dst];exact ⟨B,rfl,.inl ⟨_,Sum.inr z,.inl hB,rfl,(DH (nv:=nb) (by rw [ks]; exact nd) hm).symm⟩⟩
theorem WK (i:Int):(if (0:Int) > i then 0 else i)=max i 0:=by
 rw [lA];split <;> split <;> lia
theorem Ug (i:Int):(if i > (0:Int) then i else 0)=max i 0:=by
 rw [lA];split <;> split <;> lia
theorem Ku {ws:List A9} {y:Str} {rs qs:List AI} {i:Nat} {r q:AI} (hr:rs[i]? = some r) (hq:qs[i]? = some q):((rs.zip qs).take (i + 1)).map (fun z=>CI ws y z.1 z.2.2)=((rs.zip qs).take i).map (fun z=>CI ws y z.1 z.2.2) ++ [CI ws y r q.2]:=by
 have e:(rs.zip qs)[i]? = some (r,q):=by
  rw [gM];exact ⟨hr,hq⟩
 rw [fQ,e,fg];rfl
theorem NW {rs qs:List AI} (h:qs.length=rs.length):(rs.zip qs).length=rs.length:=by rw [i3]; lia
noncomputable def AN (ws:List A9) (Am Al qs:List AI) (lv:Int):Bool:=Am.all fun r=>decide (By ws r.1 Al qs<=r.2 + lv)
def Uc (qs:List AI) (i:Nat):AI:=qs.getD i (Str.empty,0)
def Bi (qs:List AI) (i:Nat) (n:Int):List AI:=qs.take i ++ (((Uc qs i).1,n) :: qs.drop (i + 1))
noncomputable def fullB (ws:List A9) (Am Al qs:List AI) (lv:Int):Bool:=!((gR qs.length).any fun i=>AN ws Am Al (Bi qs i ((Uc qs i).2 + 1)) lv)
theorem Li {qs:List AI} {i:Nat} {q:AI} (h:qs[i]? = some q):Uc qs i=q:=by unfold Uc; rw [fS,h]; rfl
theorem Rz {qs:List AI} {i:Nat} {n:Int} (h:i < qs.length):(Bi qs i n).map (·.1)=qs.map (·.1):=by
 have e:qs[i]? = some qs[i]:=eR h;unfold Bi;rw [Li e,fg,fU];have:qs=qs.take i ++ (qs[i] :: qs.drop (i + 1)):=by rw [<-jJ h,List.take_append_drop]
 conv=>rhs; rw [this,fg,fU]
theorem TL {rs qs:List AI} {i:Nat} {n:Int} (h:JS rs qs) (hi:i < qs.length) (n0:0<=n):JS rs (Bi qs i n):=by
 refine ⟨by rw [Rz hi]; exact h.nm,fun q hq=>?_⟩;unfold Bi at hq;rcases fq.mp hq with z | z
 ·exact h.lo q (gU z)
 ·rcases eX.mp z with z | z
  ·rw [z]; exact n0
  ·exact h.lo q (ip z)
theorem S9 (us:List V) (i:Nat) (h:i < us.length):HU us none (some (i:Int))=us.take i:=by
 unfold HU;have e1:HT.sIx us.length 0 none=0:=rfl;have e2:HT.sIx us.length us.length (some (i:Int))=i:=by
  unfold HT.sIx;simp only [];split <;> lia
 rw [e1,e2,jk,Nat.sub_zero]
theorem SD (us:List V) (i:Nat) (h:i < us.length):HU us (some ((i:Int) + 1)) none=us.drop (i + 1):=by
 unfold HU;have e1:HT.sIx us.length us.length none=us.length:=rfl;have e2:HT.sIx us.length 0 (some ((i:Int) + 1))=i + 1:=by
  unfold HT.sIx;simp only [];split <;> lia
 rw [e1,e2];exact gZ (by rw [gD]; lia)
theorem Jq {K:eV} {H:Hp} {a b:Addr} {xs ys:List V} {Q:VK} (ha:H a=some (.tup xs)) (hb:H b=some (.tup ys)) (l:xs.length + ys.length<=sizeLine) (q:∀ T H',Aq H H'->H' T=some (.tup (xs ++ ys))->Q (.ref T) H'):Rx K (.ref a) (.ref b) H Q:=by
 refine ⟨a,b,xs,ys,rfl,rfl,Az.of ha,Az.of hb,l,fun e=>?_,fun _ e=>?_,fun _ _ T hT=>?_⟩
 ·refine q b H (Aq.refl _) ?_;rw [hb,e];rfl
 ·refine q a H (Aq.refl _) ?_;rw [ha,e,iG]
 ·exact q T _ (Ac hT) Ab
theorem Pn {K:eV} {H:Hp} {t:Addr} {us:List V} {i:Nat} {Q:VK} (ht:H t=some (.tup us)) (hi:i < us.length) (q:∀ Z H',Aq H H'->H' Z=some (.tup (us.take i))->Q (.ref Z) H'):TF K (.ref t) none (some (i:Int)) H Q:=by
 refine ⟨t,us,rfl,Az.of ht,fun z=>?_,fun p hp=>q p _ (Ac hp) (by rw [Ab,S9 us i hi])⟩;have:=z.2;rw [HT.sIx_nat] at this;lia
theorem Rc {K:eV} {H:Hp} {t:Addr} {us:List V} {i:Nat} {Q:VK} (ht:H t=some (.tup us)) (hi:i < us.length) (q:∀ Z H',Aq H H'->H' Z=some (.tup (us.drop (i + 1)))->Q (.ref Z) H'):TF K (.ref t) (some ((i:Int) + 1)) none H Q:=by
 refine ⟨t,us,rfl,Az.of ht,fun z=>?_,fun p hp=>q p _ (Ac hp) (by rw [Ab,SD us i hi])⟩;have:=z.1;rw [show ((i:Int) + 1)=((i + 1:Nat):Int) by lia,HT.sIx_nat] at this;lia
theorem Dq {H:Hp}:∀ {us:List V} {ds:List PyData} (i:Nat),A2 H us ds->A2 H (us.take i) (ds.take i)
 | _,_,0,_=>by rw [kY,kY]; exact .nil
 | _,_,i + 1,.nil=>by rw [lp,lp]; exact .nil
 | _,_,i + 1,.cons h r=>by rw [kq,kq]; exact .cons h (Dq i r)
theorem Dr {H:Hp}:∀ {us:List V} {ds:List PyData} (i:Nat),A2 H us ds->A2 H (us.drop i) (ds.drop i)
 | _,_,0,h=>by rw [jk,jk]; exact h
 | _,_,i + 1,.nil=>by rw [lq,lq]; exact .nil
 | _,_,i + 1,.cons h r=>by rw [ku,ku]; exact Dr i r
theorem putD {H:Hp} {us:List V} {qs:List AI} {i:Nat} {n:Int} {T:Addr} (h:A2 H us (qs.map Ce)) (hT:H T=some (.tup [.str (Uc qs i).1,.int n])):A2 H ((us.take i ++ [.ref T]) ++ us.drop (i + 1)) ((Bi qs i n).map Ce):=by
 unfold Bi;rw [fg,fU,ie,iz,h9];exact BK (Dq i h) (.cons (DI (u:=((Uc qs i).1,n)) hT) (Dr (i + 1) h))
theorem CP.put {H:Hp} {c m t T T2:Addr} {n:Nat} {xs:List Str} {ws:List A9} {Am Al qs:List AI} {x:V} {d:PyData} {us:List V} {i:Nat} {p:Int} (h:CP H c m t n xs ws Am Al qs x d) (du:A2 H us (qs.map Ce)) (hi:i < qs.length) (p0:0<=p)
  (hT:H T=some (.tup [.str (Uc qs i).1,.int p])) (h2:H T2=some (.tup ((us.take i ++ [.ref T]) ++ us.drop (i + 1)))):CP H c m T2 n xs ws Am Al (Bi qs i p) x d:=
 ⟨h.cw,h.few,⟨_,h2,putD du hT⟩,TL h.ok hi p0⟩
theorem Su (ws:List A9) (x:Str) (r:AI) (p:Int):0<=CI ws x r p:=by unfold CI; exact Int.le_max_right _ _
theorem Oe:∀ {l:List Int},(∀ x ∈ l,0<=x)->0<=l.sum
 | [],_=>by simp
 | a :: l,h=>by
  rw [jL];have:=h a fX;have:=Oe (l:=l) fun x hx=>h x (fK _ hx)
  lia
theorem Qk (ws:List A9) (x:Str) (rs qs:List AI):0<=By ws x rs qs:=Oe fun y hy=>by
 obtain ⟨z,_,rfl⟩:=fi.mp hy;exact Su _ _ _ _
theorem DL.get {H:Hp} {A t:Addr} {xs:List Str} {ws:List A9} {y z:Str} (h:DL H A xs ws) (hy:y ∈ xs) (hz:z ∈ xs) (ht:H t=some (.tup [.str y,.str z])):Cp H A (.ref t) (some (.int (dst ws z y)))/\0<=dst ws z y/\dst ws z y < 2 ^ 300:=by
 obtain ⟨M,c,md,hm⟩:=h;obtain ⟨n,e,d,n0,n1⟩:=hm y hy z hz;have:=md.get ht;rw [e] at this;rw [d.symm.dst];exact ⟨this,n0,n1⟩
def Fi (H:Hp) (D:Addr) (xs:List Str) (ws:List A9) (Am:List AI):Prop:=∃ nv:List (Str × V),H D=some (.dK (sK nv))/\nv.map (·.1)=Am.map (·.1)/\∀ s v,(s,v) ∈ nv->DS H v xs ws s
theorem Fi.same {H H':Hp} {D:Addr} {xs:List Str} {ws:List A9} {Am:List AI} (h:Fi H D xs ws Am) (s:Aq H H'):Fi H' D xs ws Am:=let ⟨nv,a,b,c⟩:=h; ⟨nv,s _ _ a,b,fun z v hz=>(c z v hz).same s⟩
theorem Fi.get {H:Hp} {D:Addr} {xs:List Str} {ws:List A9} {Am:List AI} (h:Fi H D xs ws Am) (nd:(Am.map (·.1)).Nodup) {r:AI} (hr:r ∈ Am):∃ v,Cp H D (.str r.1) (some v)/\DS H v xs ws r.1:=by
 obtain ⟨nv,a,b,c⟩:=h;have hy:r.1 ∈ nv.map (·.1):=by rw [b]; exact fi.mpr ⟨r,hr,rfl⟩
 obtain ⟨⟨z,v⟩,hm,e⟩:=fi.mp hy;have e':z=r.1:=e;subst e';exact ⟨v,.inl ⟨_,Sum.inr r.1,.inl a,rfl,(DH (nv:=nv) (by rw [b]; exact nd) hm).symm⟩,c _ _ hm⟩
def Ka:Sp:=fun vs H Q _=>∃ (c m t D:Addr) (n:Nat) (xs:List Str) (ws:List A9) (Am Al qs:List AI) (x:V) (d:PyData) (lv:Int),vs=[.ref c,.ref D,.ref t,.int lv]/\CP H c m t n xs ws Am Al qs x d/\Fi H D xs ws Am/\∀ H',Aq H H'->Q (.bl (AN ws Am Al qs lv)) H'
def Om:Sp:=fun vs H Q _=>∃ (c m t A:Addr) (n:Nat) (xs:List Str) (ws:List A9) (Am Al qs:List AI) (x:V) (d:PyData) (y:Str),vs=[.ref c,.ref A,.ref t,.str y]/\CP H c m t n xs ws Am Al qs x d/\DL H A xs ws/\y ∈ xs/\∀ H',Aq H H'->Q (.int (By ws y Al qs)) H'
theorem Rw {du lv g r d:Int} (h1:du < 10 ^ 30) (h2:lv<=1000) (h3:0<=g) (h4:1<=r) (h5:r<=4) (h6:0<=d) (h7:d < 2 ^ 300):du + lv - g + r * d < 2 ^ 400:=by
 have a:r * d<=4 * d:=iF h5 h6;have b:(4:Int) * 2 ^ 300 + 10 ^ 30 + 2000<=2 ^ 400:=by decide +kernel
 have c:(10:Int) ^ 30=1000000000000000000000000000000:=by decide
 generalize (2:Int) ^ 300=X at *;generalize (2:Int) ^ 400=Y at *;generalize r * d=Z at *;rw [c] at *;lia
theorem DL.keep {H H':Hp} {A p:Addr} {xs:List Str} {ws:List A9} (h:DL H A xs ws) (hp:AG H p) (k:AM p H H'):DL H' A xs ws:=by
 obtain ⟨M,c,⟨kvs,a,b,e⟩,r⟩:=h;refine ⟨M,c,⟨kvs,k _ _ (fun z=>?_) a,b,e⟩,r⟩;subst z;obtain ⟨_,_,_,z⟩:=hp;rw [z] at a;cases a
def EE (rs:List AI):List AI:=rs.map fun r=>(r.1,0)
theorem QD (rs:List AI):JS rs (EE rs):=by
 refine ⟨by unfold EE; rw [gL]; rfl,fun q hq=>?_⟩;obtain ⟨r,_,rfl⟩:=fi.mp hq;exact gJ _
theorem Dp (ws:List A9) (x:Str) (r q:AI) (rs qs:List AI):By ws x (r :: rs) (q :: qs)=CI ws x r q.2 + By ws x rs qs:=by
 unfold By;rw [kC,fU,jL]
theorem CC {ws:List A9} {x:Str}:∀ {rs qs:List AI} {i:Nat} {r q:AI},rs[i]? = some r->qs[i]? = some q->∀ p:Int,By ws x rs (Bi qs i p) + CI ws x r q.2=By ws x rs qs + CI ws x r p
 | [],_,_,_,_,h,_,_=>by simp at h
 | _ :: _,[],_,_,_,_,h,_=>by simp at h
 | r0 :: rs,q0 :: qs,0,r,q,h1,h2,p=>by
  simp only [gF,fV.injEq] at h1 h2;subst h1 h2;show By ws x (r0 :: rs) ((q0.1,p) :: qs) + _=_
  rw [Dp,Dp];show CI ws x r0 p + _ + _=_
  lia
 | r0 :: rs,q0 :: qs,i + 1,r,q,h1,h2,p=>by
  simp only [hX] at h1 h2;have ih:=CC (ws:=ws) (x:=x) h1 h2 p;show By ws x (r0 :: rs) (q0 :: Bi qs i p) + _=_
  rw [Dp,Dp];lia
theorem Mb:∀ {qs:List AI} {i:Nat} {p p':Int},i < qs.length->Bi (Bi qs i p) i p'=Bi qs i p'
 | [],_,_,_,h=>by simp at h
 | q :: qs,0,p,p',_=>rfl
 | q :: qs,i + 1,p,p',h=>by
  show q :: Bi (Bi qs i p) i p'=q :: Bi qs i p'
  rw [Mb (by simpa using h)]
theorem Pm {ws:List A9} {Am Al qs:List AI} {lv:Int} {i:Nat} {r q:AI} {mn p:Int} (h:AN ws Am Al qs lv=true) (hr:Al[i]? = some r) (hq:qs[i]? = some q) (rq:r.1=q.1) (q0:0<=q.2) (hd:∀ s ∈ Am,0<=r.2 * dst ws s.1 q.1)
  (hm:∀ s ∈ Am,mn<=s.2 + lv - By ws s.1 Al (Bi qs i 0) + r.2 * dst ws s.1 q.1) (hp:p<=if mn > 0 then mn else 0):AN ws Am Al (Bi qs i p) lv=true:=by
 unfold AN at h ⊢;rw [gz] at h ⊢;intro s hs;have g:=of_decide_eq_true (h s hs);refine decide_eq_true ?_;have a:=CC (ws:=ws) (x:=s.1) hr hq p;have b:=CC (ws:=ws) (x:=s.1) hr hq 0;have d:=hd s hs;have m:=hm s hs;have e:∀ z,CI ws s.1 r z=max (z - r.2 * dst ws s.1 q.1) 0:=fun z=>by unfold CI; rw [rq]
 rw [e,e] at a b;generalize r.2 * dst ws s.1 q.1=D at *;generalize By ws s.1 Al (Bi qs i p)=X at *;generalize By ws s.1 Al (Bi qs i 0)=Y at *;generalize By ws s.1 Al qs=Z at *;split at hp <;> lia
theorem Kt {ws:List A9} {x:Str}:∀ {rs:List AI},(∀ r ∈ rs,0<=r.2 * dst ws x r.1)->By ws x rs (EE rs)=0
 | [],_=>rfl
 | r :: rs,h=>by
  have ih:=Kt (ws:=ws) (x:=x) (rs:=rs) fun r' hr=>h r' (fK _ hr)
  have d:=h r fX;show By ws x (r :: rs) ((r.1,0) :: EE rs)=0
  rw [Dp,ih];unfold CI;show max (0 - _) 0 + 0=(0:Int)
  lia
theorem MS {ws:List A9} {Am Al:List AI} {lv:Int} (hd:∀ s ∈ Am,∀ r ∈ Al,0<=r.2 * dst ws s.1 r.1) (h0:∀ s ∈ Am,0<=s.2) (l0:0<=lv):AN ws Am Al (EE Al) lv=true:=by
 unfold AN;rw [gz];intro s hs;rw [Kt (hd s hs)];exact decide_eq_true (by have:=h0 s hs; lia)
theorem DL.lo {H:Hp} {A:Addr} {xs:List Str} {ws:List A9} {y z:Str} (h:DL H A xs ws) (hy:y ∈ xs) (hz:z ∈ xs):0<=L2.dst ws z y:=by
 obtain ⟨M,c,md,hm⟩:=h;obtain ⟨n,e,d,n0,n1⟩:=hm y hy z hz;rw [d.symm.dst];exact n0
end L2
namespace L2
open PySem PySem.Builtin.Str PySem.StrLaws
end L2
namespace L2
open PySem PySem.Spec PyProof.Rows PySem.NumText
end L2
namespace L2
open PySem PySem.Spec PyProof.Rows
theorem Cv {s:Str} (h:AA s=true):s.length<=10:=by
 obtain ⟨_,l,_⟩:=RT h;lia
def MM (K:eV) (H:Hp) (v:V):Prop:=∃ ty,Dy K H v ty/\i5 K ty (.type "int")=some false
def U5 (K:eV) (H:Hp) (v:V) (b:Bool):Prop:=(∃ n:Int,v=.int n/\b=true)\/(b=false/\((∃ c,v=.bl c)\/MM K H v))
def K5 (K:eV) (H:Hp) (v:V) (l:Int) (b:Bool):Prop:=(∃ n:Int,v=.int n/\b=decide (l<=n))\/(b=false/\((∃ c,v=.bl c)\/MM K H v))
def Gm (K:eV) (H:Hp) (v:V) (y:Str) (b:Bool):Prop:=(b=false/\K6 K H v)\/∃ (t:Addr) (us:List V),v=.ref t/\H t=some (.tup us)/\((us.length ≠ 2/\b=false)\/∃ a p,us=[a,p]/\((FE K H a/\b=false)\/∃ s:Str,a=.str s/\s.length<=1000/\b=(AA s && decide (s=y))))
def DR (K:eV) (H:Hp) (v:V) (ys:List Str) (b:Bool):Prop:=(b=false/\K6 K H v)\/∃ (t:Addr) (us:List V),v=.ref t/\H t=some (.tup us)/\((us.length ≠ ys.length/\b=false)\/(us.length=ys.length/\∃ bs:List Bool,bs.length=us.length/\b=bs.all id/\∀ (i:Nat) u y c,us[i]? = some u->ys[i]? = some y->bs[i]? = some c->Gm K H u y c))
def Gn (K:eV) (H:Hp) (v:V) (ys:List Str) (b:Bool):Prop:=(b=false/\DR K H v ys false)\/∃ (t:Addr) (us:List V),v=.ref t/\H t=some (.tup us)/\us.length=ys.length/\∃ bs:List Bool,bs.length=us.length/\b=bs.all id /\
 ∀ (i:Nat) u y c,us[i]? = some u->ys[i]? = some y->bs[i]? = some c->∃ (tt:Addr) (p:V),u=.ref tt/\H tt=some (.tup [.str y,p])/\K5 K H p 0 c
def Hd (K:eV) (H:Hp) (x:V) (v:V) (b:Bool):Prop:=(b=false/\K5 K H v 0 false)\/∃ lv:Int,v=.int lv/\0<=lv/\b=(!decide (x=.non) || decide (lv=0))
theorem MM.same {K:eV} {H H':Hp} {v:V} (h:MM K H v) (s:Aq H H'):MM K H' v:=let ⟨ty,a,b⟩:=h; ⟨ty,a.same s,b⟩
theorem K6.same {K:eV} {H H':Hp} {v:V} (h:K6 K H v) (s:Aq H H'):K6 K H' v:=let ⟨ty,a,b⟩:=h; ⟨ty,a.same s,b⟩
theorem FE.same {K:eV} {H H':Hp} {v:V} (h:FE K H v) (s:Aq H H'):FE K H' v:=let ⟨ty,a,b⟩:=h; ⟨ty,a.same s,b⟩
theorem K5.same {K:eV} {H H':Hp} {v:V} {l:Int} {b:Bool} (h:K5 K H v l b) (s:Aq H H'):K5 K H' v l b:=by
 rcases h with h | ⟨h,h2 | h2⟩
 ·exact .inl h
 ·exact .inr ⟨h,.inl h2⟩
 ·exact .inr ⟨h,.inr (h2.same s)⟩
theorem Gm.same {K:eV} {H H':Hp} {v:V} {y:Str} {b:Bool} (h:Gm K H v y b) (s:Aq H H'):Gm K H' v y b:=by
 rcases h with ⟨h,h2⟩ | ⟨t,us,e,ht,h | ⟨a,p,e2,⟨h,h2⟩ | h⟩⟩
 ·exact .inl ⟨h,h2.same s⟩
 ·exact .inr ⟨t,us,e,s _ _ ht,.inl h⟩
 ·exact .inr ⟨t,us,e,s _ _ ht,.inr ⟨a,p,e2,.inl ⟨h.same s,h2⟩⟩⟩
 ·exact .inr ⟨t,us,e,s _ _ ht,.inr ⟨a,p,e2,.inr h⟩⟩
theorem DR.same {K:eV} {H H':Hp} {v:V} {ys:List Str} {b:Bool} (h:DR K H v ys b) (s:Aq H H'):DR K H' v ys b:=by
 rcases h with ⟨h,h2⟩ | ⟨t,us,e,ht,h | ⟨h,bs,bl,e2,r⟩⟩
 ·exact .inl ⟨h,h2.same s⟩
 ·exact .inr ⟨t,us,e,s _ _ ht,.inl h⟩
 ·exact .inr ⟨t,us,e,s _ _ ht,.inr ⟨h,bs,bl,e2,fun i u y c a1 a2 a3=>(r i u y c a1 a2 a3).same s⟩⟩
theorem Hd.same {K:eV} {H H':Hp} {x v:V} {b:Bool} (h:Hd K H x v b) (s:Aq H H'):Hd K H' x v b:=by
 rcases h with ⟨h,h2⟩ | h
 ·exact .inl ⟨h,h2.same s⟩
 ·exact .inr h
theorem Gm.right {K:eV} {H:Hp} {tt:Addr} {y:Str} {p:V} (n:AA y=true) (h:H tt=some (.tup [.str y,p])):Gm K H (.ref tt) y true:=
 .inr ⟨tt,_,rfl,h,.inr ⟨_,_,rfl,.inr ⟨y,rfl,gc (Cv n) (by decide),by rw [n,decide_eq_true rfl]; rfl⟩⟩⟩
def LU:Sp:=fun vs H Q _=>∃ (p:Addr) (n:Nat),vs=[.ref p,.int n]/\AG H p/\n<=26 /\
 ∀ (H':Hp) (D:Addr) (xs:List Str),AG H' p->AM p H H'->H D=none->H' D=some (.lst (xs.map V.str))->xs.length=n->xs.Nodup->(∀ x ∈ xs,AA x=true)->(∀ x ∈ xs,x ≠ Str.ofString "zzzzzz")->Q (.ref D) H'
def LQ (K:eV):Sp:=fun vs H Q _=>∃ (v:V) (b:Bool),vs=[v]/\U5 K H v b/\Q (.bl b) H
def Gy (K:eV):Sp:=fun vs H Q _=>∃ (v:V) (l:Int) (b:Bool),vs=[v,.int l]/\K5 K H v l b/\Q (.bl b) H
def QS (K:eV):Sp:=fun vs H Q _=>∃ (v:V) (y:Str) (b:Bool),vs=[v,.str y]/\Gm K H v y b/\∀ H',Aq H H'->Q (.bl b) H'
def Og (K:eV):Sp:=fun vs H Q _=>∃ (v:V) (L:Addr) (ys:List Str) (b:Bool),vs=[v,.ref L]/\H L=some (.lst (ys.map V.str))/\ys.length<=100/\DR K H v ys b/\∀ H',Aq H H'->Q (.bl b) H'
def KI (K:eV):Sp:=fun vs H Q _=>∃ (c m:Addr) (n:Nat) (xs:List Str) (ws:List A9) (Am Al:List AI) (x:V) (d:PyData) (v:V) (b:Bool),vs=[.ref c,v]/\Cz H c m n xs ws Am Al x d/\DR K H v (Al.map (·.1)) b/\∀ H',Aq H H'->Q (.bl b) H'
def UQ (K:eV):Sp:=fun vs H Q _=>∃ (c m:Addr) (n:Nat) (xs:List Str) (ws:List A9) (Am Al:List AI) (x:V) (d:PyData) (v:V) (b:Bool),vs=[.ref c,v]/\Cz H c m n xs ws Am Al x d/\Gn K H v (Al.map (·.1)) b/\∀ H',Aq H H'->Q (.bl b) H'
def Oh (K:eV):Sp:=fun vs H Q _=>∃ (c m:Addr) (n:Nat) (xs:List Str) (ws:List A9) (Am Al:List AI) (x:V) (d:PyData) (v:V) (b:Bool),vs=[.ref c,v]/\Cz H c m n xs ws Am Al x d/\Hd K H x v b/\Q (.bl b) H
def LR (K:eV):Sp:=fun vs H Q _=>∃ (c m:Addr) (n:Nat) (xs:List Str) (ws:List A9) (Am Al:List AI) (x:V) (d:PyData) (v l:V),vs=[.ref c,v,l]/\Cz H c m n xs ws Am Al x d/\((Gn K H v (Al.map (·.1)) false/\∀ H',Aq H H'->Q (.bl false) H') \/
 ∃ (t:Addr) (qs:List AI),v=.ref t/\CP H c m t n xs ws Am Al qs x d/\((Hd K H x l false/\∀ H',Aq H H'->Q (.bl false) H')\/∃ lv:Int,l=.int lv/\Hd K H x l true/\∀ H',Aq H H'->Q (.bl (AN ws Am Al qs lv)) H'))
theorem CP.prices {K:eV} {H:Hp} {c m t:Addr} {n:Nat} {xs:List Str} {ws:List A9} {Am Al qs:List AI} {x:V} {d:PyData} (h:CP H c m t n xs ws Am Al qs x d):Gn K H (.ref t) (Al.map (·.1)) true:=by
 obtain ⟨us,ht,du⟩:=h.ex;have ul:=A5 du;have ql:=h.ok.len;refine .inr ⟨t,us,rfl,ht,by rw [eU]; lia,us.map fun _=>true,by rw [eU],by rw [gY]; exact (gz.mpr fun _ _=>rfl).symm,fun i u y c a1 a2 a3=>?_⟩;obtain ⟨q,tt,eq,rfl,htt⟩:=Bn du a1;rw [<-h.ok.nm,eZ,eq] at a2;cases a2
 rw [eZ,a1] at a3;cases a3
 exact ⟨tt,_,rfl,htt,.inl ⟨q.2,rfl,(decide_eq_true (h.ok.lo q (eW eq))).symm⟩⟩
section
variable {prog:Program} {w:World} {A:Around} {E:Value->Shared->Prop} {s:Shared}
end
section
variable {prog:Program} {w:World} {A:Around} {E:Value->Shared->Prop} {s:Shared}
end
theorem L1 (K:eV) {X:Cx} (h:X.K=K):Bv X (.builtin "isinstance") (fun xs H Q=>∃ x c t b,xs=[x,.ty c]/\Dy K H x t/\i5 K t (.type c)=some b/\Q (.bl b) H):=by subst h; exact BS
def EG (z:Str × Str):PyData:=.tuple [.str z.1,.str z.2]
theorem Ei {H:Hp} {us:List V} {zs:List (Str × Str)} {i:Nat} {u:V} (h:A2 H us (zs.map EG)) (e:us[i]? = some u):∃ z t,zs[i]? = some z/\u=.ref t/\H t=some (.tup [.str z.1,.str z.2]):=by
 obtain ⟨d,ed,dd⟩:=h.at e;rw [eZ] at ed;cases q:zs[i]? with
 | none=>rw [q] at ed; cases ed
 | some z=>
  rw [q] at ed;cases ed
  cases dd with
  | tup ht dx=>
   have:=A2.txt (ss:=[z.1,z.2]) dx;subst this;exact ⟨z,_,rfl,rfl,ht⟩
theorem DU {H:Hp} {t:Addr} {z:Str × Str} (h:H t=some (.tup [.str z.1,.str z.2])):F0 H (.ref t) (EG z):=.tup h (C6 H [z.1,z.2])
theorem Fb {H H':Hp} (ht:∀ b xs,H b=some (.tup xs)->H' b=some (.tup xs)):∀ {zs:List (Str × Str)} {us:List V},A2 H us (zs.map EG)->A2 H' us (zs.map EG)
 | [],_,h=>by cases h; exact .nil
 | z :: zs,_,h=>by
  rw [fU] at h;cases h with
  | cons a b=>
   cases a with
   | tup e dx=>
    have:=A2.txt (ss:=[z.1,z.2]) dx;subst this;exact .cons (DU (ht _ _ e)) (Fb ht b)
theorem EF {H:Hp} {us:List V} {zs:List (Str × Str)} (h:A2 H us (zs.map EG)):us.length=zs.length:=by rw [h.len,eU]
theorem HD {H H':Hp} {us:List V} {ds:List PyData} (h:A2 H us ds) (s:Aq H H'):A2 H' us ds:=h.mono fun a o e _=>s a o e
theorem UL {zs:List (Str × Str)} {rs:List AI} (h:zs.map (·.1)=rs.map (·.1)) {i:Nat} {z:Str × Str} (e:zs[i]? = some z):∃ r,rs[i]? = some r/\r.1=z.1:=by
 have:=congrArg (fun l=>l[i]?) h;rw [eZ,eZ,e] at this;cases q:rs[i]? with
 | none=>rw [q] at this; cases this
 | some r=>rw [q] at this; exact ⟨r,rfl,(fV.inj this).symm⟩
end L2
namespace HT
open PySem PySem.Spec PyProof.Rows
section
variable {prog:Program} {w:World} {A:Around} {E:Value->Shared->Prop} {s:Shared}
theorem L3 (n:Nat):Builtin.Slice.slicePlaces ((n:Int) - 1) (-1) (-1)=n:=by
 unfold Builtin.Slice.slicePlaces;have h0:¬ ((-1:Int) > 0):=by decide
 rw [if_neg h0,show (- (-1:Int))=1 by decide,j5];split <;> lia
theorem OM {α β:Type} {f:α->Option β} {g:α->β}:∀ {l:List α},(∀ a ∈ l,f a=some (g a))->l.filterMap f=l.map g
 | [],_=>rfl
 | a :: l,h=>by
  rw [iH,h a (by simp)];show g a :: _=_
  rw [OM fun b hb=>h b (fK _ hb)];rfl
theorem Qw (items:Array Value):((gR items.size).filterMap fun (m:Nat)=>items[(((items.size:Int) - 1) + (m:Int) * -1).toNat]?)=items.toList.reverse:=by
 rw [OM (g:=fun m=>items.toList.reverse.getD m .none) fun m hm=>?_]
 ·refine i9 fun i=>?_
  rw [eZ];by_cases hi:i < items.size
  ·rw [List.getElem?_range hi];show some (items.toList.reverse.getD i .none)=_
   rw [fS,eR (l:=items.toList.reverse) (by rw [gW,gg]; exact hi)];rfl
  ·rw [gO (by rw [ig]; lia),gO (by rw [gW,gg]; lia)];rfl
 ·have cX:=i7.mp hm;have e1:(((items.size:Int) - 1) + (m:Int) * -1).toNat=items.size - 1 - m:=by lia
  rw [e1,fS,jV (by rw [gg]; exact cX),gg,jc,jG (by lia)];rfl
theorem getItem_tuple_backX {t sl:Addr} {items:Array Value} {tk:Tok} {Q:Value->Shared->Prop} (ht:IsTup s.heap t items) (hs:s.heap.IsSliceOf sl .none .none (.int (-1) tk)) (hsz:items.size<=sizeLine)
  (h:Q (.ref s.heap.objs.size) { s with heap:=s.heap.push { cls:=.type "tuple",data:=.seq items.toList.reverse.toArray } }) :
  wpAny (model prog w) A (getItem (.ref t) (.ref sl)) Q E s:=by
 obtain ⟨os,hos,hcs,hds⟩:=id hs;have hTs:s.TypeIs (.ref sl) "slice":=⟨os,hos,hcs⟩
 have app:∀ {R:Int × Int × Nat->Shared->Prop},R ((items.size:Int) - 1,-1,items.size) s->wpAny (model prog w) A.in1 (Builtin.Slice.sliceApplied (.ref sl) (pure (items.size:Int))) R E s:=by
  intro R q;unfold Builtin.Slice.sliceApplied Builtin.Slice.sliceFields;refine wpAny_bind (wpAny_bind (wpAny_field hos hds (x:=.none) rfl (wpAny_bind (wpAny_field hos hds (x:=.none) rfl (wpAny_bind (wpAny_field hos hds (x:=.int (-1) tk) rfl (wpAny_pure ?_)))))));refine wpAny_bind (slicePart_int ?_);show wpAny _ _ (if ((-1:Int) == 0)=true then _ else _) _ _ s
  rw [if_neg (by decide)];refine wpAny_bind (slicePart_none (wpAny_bind (slicePart_none (wpAny_bind (wpAny_pure ?_)))));have q':R ((items.size:Int) - 1,-1,Builtin.Slice.slicePlaces ((items.size:Int) - 1) (-1) (-1)) s:=by rw [L3]; exact q
  exact wpAny_pure q'
 unfold getItem;try with_reducible refine wpAny_holding ?_
 first | refine wpAny_bind (wpAny_pure ?_) | skip
 refine wpAny_bind (wpAny_sequenceKey ht.typeIs (by decide) ?_);refine wpAny_bind (wpAny_callSpecial?_slot (name:=Str.ofString "__getitem__") ht.typeIs PyProof.Rows.slot_tuple_getitem
  (wpAny_call_entry PyProof.Rows.slot_tuple_getitem ht.typeIs entry_tuple_getitem ?_ (args_tuple_getitem _ _)))
 show wpAny _ _ (Builtin.Tuple.tupleItemsOf (.ref t) >>= _) _ _ s
 refine wpAny_bind (tupleItemsOf_ ht ?_);refine wpAny_bind (wpAny_typeOf hTs ?_);rw [if_pos (by decide)];refine wpAny_bind (app ?_);show wpAny _ _ (if (((items.size:Int) - 1) == 0 && (-1:Int) == 1 && items.size == items.size)=true then _ else _) _ _ s
 rw [if_neg (by simp)];have er:((gR items.size).filterMap fun (m:Nat)=>items[(((items.size:Int) - 1) + (m:Int) * -1).toNat]?)=items.toList.reverse:=Qw items;have q:=h;rw [<-er] at q;have sz:sizeOk (.seq ((gR items.size).filterMap fun (m:Nat)=>items[(((items.size:Int) - 1) + (m:Int) * -1).toNat]?).toArray):=by
  show ((gR items.size).filterMap fun (m:Nat)=>items[(((items.size:Int) - 1) + (m:Int) * -1).toNat]?).toArray.size<=sizeLine
  rw [fu,er,gW,gg];exact hsz
 first
  | exact wpAny_bind (m:=Builtin.Tuple.tupleExact _) (wpAny_newObj_type (wpAny_pure ⟨_,rfl,wpAny_pure q⟩) sz)
  | exact wpAny_bind (m:=Builtin.Tuple.tupleExact _) (wpAny_newObj_type (wpAny_bind (wpAny_pure (wpAny_pure ⟨_,rfl,wpAny_pure q⟩))) sz)
  | exact wpAny_bind (wpAny_bind (m:=Builtin.Tuple.tupleExact _) (wpAny_newObj_type (wpAny_pure (wpAny_pure ⟨_,rfl,wpAny_pure q⟩)) sz))
  | exact wpAny_bind (wpAny_bind (m:=Builtin.Tuple.tupleExact _) (wpAny_newObj_type (wpAny_pure ⟨_,rfl,wpAny_pure q⟩) sz))
end
end HT
namespace L2
open PySem PySem.Spec PyProof.Rows
theorem LJ:∀ {xs:List V} {Ar:List Value},AB xs Ar->AB xs.reverse Ar.reverse
 | _,_,.nil=>.nil
 | _,_,.cons a b=>by
  rw [iQ,iQ];exact (LJ b).append (.cons a .nil)
def Wa (K:eV) (te:TE):TE:=fun σ H Q=>te σ H fun x H1=>∃ (a:Addr) (xs:List V),x=.ref a/\Az K H1 a xs/\∀ p:Addr,H1 p=none->Q (.ref p) (upd H1 p (.tup xs.reverse))
theorem IH {X:Cx} {e st:Expr} {te:TE} {pos p2:Pos} (he:PE X e te) (hst:PE X st (tUn (rU fun i=>.int (-i)) (tC (.int 1)))):PE X (.Subscript e (.Slice none none (some st) p2) pos) (Wa X.K te):=by
 intro pins s σ H Q I h;refine Subscript_ (Bt (he (pins:=pins) s σ H _ I h) fun v s1 ⟨x,H1,I1,r1,q1⟩=>?_);obtain ⟨a,xs,rfl,ht,q⟩:=q1;cases r1
 refine wpAny_Slice ?_;rw [evalPart_none];refine wpAny_pure ?_;refine wpAny_pure ?_;rw [evalPart_some];refine Bt (hst (pins:=pins) s1 σ H1 (fun y H2=>y=.int (-1)/\H2=H1) I1 ⟨_,rfl,rfl,rfl⟩) fun u s2 ⟨y,H2,I2,r2,e2,e3⟩=>?_
 subst e2 e3;obtain ⟨tk,rfl⟩:=r2;have I3:As X pins σ H2 { s2 with heap:=s2.heap.push { cls:=.type "slice",data:=.fields #[.none,.none,.int (-1) tk] } }:=I2.kept (t':=s2.toks) fun b ob q=>eT _ q
 obtain ⟨Ar,r,p,hz⟩:=I3.tuple ht;have hl:Ar.toArray.size=xs.length:=by rw [fu]; exact r.length.symm
 refine tail_any (ops:=[.ref a,.ref s2.heap.objs.size]) p.typeIs PyProof.Rows.slot_tuple_getitem.lookup ?_ (by with_unfolding_all rfl);refine HT.getItem_tuple_backX (tk:=tk) p (Heap.IsSliceOf.new ..) (by rw [hl]; exact hz) ?_;refine ⟨.ref _,_,I3.laid (t':=s2.toks) (o:=.tup xs.reverse) (fun b ob q=>eT _ q) (fc _) ?_,rfl,q _ (I3.hok.fresh (fc _))⟩;exact ⟨by rw [gW]; lia,Ar.reverse,LJ r,IsTup.new _ _,L6.new rfl rfl⟩
theorem Nj {K:eV} {H:Hp} {t:Addr} {us:List V} {qs:List AI} {ys:List Str} (ht:H t=some (.tup us)) (du:A2 H us (qs.map Ce)) (nm:∀ q ∈ qs,AA q.1=true) (ne:qs.map (·.1) ≠ ys):Gn K H (.ref t) ys false:=by
 have ul:=A5 du;refine .inl ⟨rfl,.inr ⟨t,us,rfl,ht,?_⟩⟩;by_cases hl:us.length=ys.length
 ·refine .inr ⟨hl,(qs.zip ys).map (fun z=>AA z.1.1 && decide (z.1.1=z.2)),by rw [eU,i3]; lia,?_,fun i u y c a1 a2 a3=>?_⟩
  ·cases hb:((qs.zip ys).map (fun z=>AA z.1.1 && decide (z.1.1=z.2))).all id with
   | false=>rfl
   | true=>
    refine absurd (i9 fun i=>?_) ne;rw [gY,gz] at hb;rw [eZ];by_cases hi:i < qs.length
    ·rw [eR hi,eR (show i < ys.length by lia)];have:=hb (qs[i],ys[i]'(by lia)) (eW (i:=i) (by rw [gM]; exact ⟨eR hi,eR (by lia)⟩));have e2:decide ((qs[i]).1=ys[i]'(by lia))=true:=(kh.mp this).2;show some (qs[i]).1=_
     rw [of_decide_eq_true e2]
    ·rw [gO (by lia),gO (show ys.length<=i by lia)];rfl
  ·obtain ⟨q,tt,eq,rfl,htt⟩:=Bn du a1;have ez:(qs.zip ys)[i]? = some (q,y):=by rw [gM]; exact ⟨eq,a2⟩
   rw [eZ,ez] at a3;cases a3
   exact .inr ⟨tt,_,rfl,htt,.inr ⟨_,_,rfl,.inr ⟨q.1,rfl,gc (Cv (nm q (eW eq))) (by decide),rfl⟩⟩⟩
 ·exact .inl ⟨hl,rfl⟩
theorem TK {α:Type} {us:List α} {v:α} {i:Nat} (hi:i < us.length) (j:Nat):((us.take i ++ [v]) ++ us.drop (i + 1))[j]? = if j=i then some v else us[j]?:=by
 have lt:(us.take i).length=i:=by rw [fJ]; lia
 by_cases h:j=i
 ·subst h;rw [if_pos rfl,gq (by rw [eY,lt]; simp),gj (by lia),lt,jf];rfl
 ·rw [if_neg h];by_cases hj:j < i
  ·rw [gq (by rw [eY,lt]; lia),gq (by lia),iR hj]
  ·rw [gj (by rw [eY,lt]; simp; lia),eY,lt,kG];congr 1;simp;lia
theorem Ry {α:Type} {us:List α} {v:α} {i:Nat} (hi:i < us.length):((us.take i ++ [v]) ++ us.drop (i + 1)).length=us.length:=by
 rw [eY,eY,fJ,gD];simp;lia
theorem Jn {H:Hp}:∀ {us:List V} {ds:List PyData},A2 H us ds->A2 H us.reverse ds.reverse
 | _,_,.nil=>.nil
 | _,_,.cons a b=>by
  rw [iQ,iQ];exact BK (Jn b) (.cons a .nil)
def Jw (sites:List Str) (x:V) (ds:List PyData):Prop:=∃ ss:List Str,ds=ss.map PyData.str/\ss ≠ []/\Cy ss/\(∀ s ∈ ss,AA s=true/\s ∈ sites)/\RU x ss.length=true
def Ol (K:eV):Sp:=fun vs H Q _=>∃ (c:Addr) (sites:List Str) (x:V) (d:PyData) (v:V),vs=[.ref c,v]/\SQ H c sites x d /\
 ((∃ ds,OS H v ds/\∀ (b:Bool) (H':Hp),Aq H H'->(b=true ↔ Jw sites x ds)->Q (.bl b) H')\/(K6 K H v/\∀ H',Aq H H'->Q (.bl false) H'))
def Il (K:eV) (H:Hp) (p:V) (ss:List Str) (c:Bool):Prop:=(FE K H p/\c=false)\/∃ s:Str,p=.str s/\s.length<=1000/\c=(AA s && decide (s ∈ ss))
def Q6 (K:eV) (H:Hp) (v:V) (ys ss:List Str) (b:Bool):Prop:=(b=false/\DR K H v ys false)\/∃ (t:Addr) (us:List V),v=.ref t/\H t=some (.tup us)/\us.length=ys.length/\∃ bs:List Bool,bs.length=us.length/\b=bs.all id /\
 ∀ (i:Nat) u y c,us[i]? = some u->ys[i]? = some y->bs[i]? = some c->∃ (tt:Addr) (p:V),u=.ref tt/\H tt=some (.tup [.str y,p])/\Il K H p ss c
theorem Il.same {K:eV} {H H':Hp} {p:V} {ss:List Str} {c:Bool} (h:Il K H p ss c) (s:Aq H H'):Il K H' p ss c:=by
 rcases h with ⟨h,e⟩ | h
 ·exact .inl ⟨h.same s,e⟩
 ·exact .inr h
theorem Q6.same {K:eV} {H H':Hp} {v:V} {ys ss:List Str} {b:Bool} (h:Q6 K H v ys ss b) (s:Aq H H'):Q6 K H' v ys ss b:=by
 rcases h with ⟨h,h2⟩ | ⟨t,us,e,ht,h,bs,bl,e2,r⟩
 ·exact .inl ⟨h,h2.same s⟩
 ·refine .inr ⟨t,us,e,s _ _ ht,h,bs,bl,e2,fun i u y c a1 a2 a3=>?_⟩;obtain ⟨tt,p,e3,h3,n3⟩:=r i u y c a1 a2 a3;exact ⟨tt,p,e3,s _ _ h3,n3.same s⟩
def UR (K:eV):Sp:=fun vs H Q _=>∃ (c m o:Addr) (n:Nat) (xs:List Str) (ws:List A9) (Am Al:List AI) (x:V) (d:PyData) (ss:List Str) (v:V) (b:Bool),vs=[.ref c,.ref o,v]/\Cz H c m n xs ws Am Al x d/\H o=some (.tup (ss.map V.str))/\Q6 K H v (Al.map (·.1)) ss b/\∀ H',Aq H H'->Q (.bl b) H'
theorem OS.strs {H:Hp} {o:Addr} {ss:List Str} (ho:H o=some (.tup (ss.map V.str))) (l:ss.length<=60) (sh:∀ s ∈ ss,s.length<=1000):OS H (.ref o) (ss.map PyData.str):=by
 refine ⟨o,_,rfl,ho,C6 H ss,fun s hs=>?_,by rw [eU]; exact l⟩;obtain ⟨y,hy,e⟩:=fi.mp hs;cases e
 exact sh _ hy
end L2
namespace L2
open PySem PySem.Spec PySem.W PyProof.Rows
section
variable {prog:Program} {w:World} {A:Around} {E:Value->Shared->Prop} {s:Shared} {κ:SortKind} {lt:Keyed->Keyed->Bool} {a0:Array Keyed}
theorem Gb {n:Nat} (h1:1<=n) (Kr:n < 64):(sortPriv% PySem.Builtin.minRun) n n 0=n:=by
 obtain ⟨f,hf⟩:∃ f,n=f + 1:=⟨n - 1,by lia⟩
 have:minRun' (f + 1) n 0=n:=by rw [minRun'_succ,if_pos Kr]; rfl
 rw [<-hf] at this;exact this
theorem Ip {st:SortSt} {Q:Unit->SortSt->Prop} (sw:Qy lt) (an:X8 prog w A s κ lt a0) (hk:kindOf st=κ) (ha:arrOf st=a0) (hf:failedOf st=none) (hpe:pendingOf st=#[]) (h2:1<=a0.size) (Kr:a0.size < 64)
  (h:∀ AZ,(arrOf AZ).Perm a0->failedOf AZ=none->(arrOf AZ).toList.Pairwise (Nl lt)->Q () AZ):wpS (model prog w) A E s sortRuns' Q st:=by
 have hp:(arrOf st).Perm a0:=by rw [ha]
 refine wpS_bind (wpS_get ?_);dsimp only;have ez:((sortPriv% PySem.Builtin.SortState.a) st).size=a0.size:=by rw [show (sortPriv% PySem.Builtin.SortState.a) st=a0 from ha]
 rw [ez];refine wpS_bind (wpS_mono (wpS_forRange (I:=fun x c AZ=>(x=0/\c=(none,0)/\AZ=st)\/(1<=x/\c=(none,a0.size)/\(arrOf AZ).Perm a0/\failedOf AZ=none/\(pendingOf AZ).size<=1/\SS lt (arrOf AZ) 0 a0.size))
  (Q:=fun c AZ=>c=(none,a0.size)/\(arrOf AZ).Perm a0/\failedOf AZ=none/\(pendingOf AZ).size<=1/\SS lt (arrOf AZ) 0 a0.size) ?step ?fin (.inl ⟨rfl,rfl,rfl⟩)) ?post)
 case fin=>
  rintro c AZ (⟨hx,_,_⟩ | ⟨_,r⟩)
  ·lia
  ·exact r
 case step=>
  rintro x c AZ _ hx (⟨rfl,rfl,rfl⟩ | ⟨_,rfl,r⟩)
  ·dsimp only;rw [if_neg (by lia)];refine wpS_bind (J4 sw an hk hp (by lia) (by lia) fun m ys k1 m1 m2 s1=>?_);dsimp only;have hpd:∀ zs,(pendingOf (setArr AZ zs)).back? = none:=fun zs=>by
    show (pendingOf AZ).back? = none
    rw [hpe];rfl
   by_cases hm:m < (sortPriv% PySem.Builtin.minRun) a0.size a0.size 0
   ·rw [if_pos hm];refine wpS_bind (wpS_lift (wpAny_rule ⟨rfl,?_⟩));refine wpS_bind (HI (st:=setArr AZ ys) sw an hk (k1.1.trans hp) (by lia) m1 (by lia) s1 fun zs k2 s2=>?_);simp only [lj,gx,if_false];refine wpS_bind (wpS_get ?_);rw [hpd];dsimp only;have emin:min (a0.size - 0) ((sortPriv% PySem.Builtin.minRun) a0.size a0.size 0)=a0.size:=by rw [Gb h2 Kr]; lia
    rw [emin];exact wpS_bind (wpS_modify (wpS_pure (.inr ⟨by lia,by rw [iu],k2.1.trans (k1.1.trans hp),hf,by show ((pendingOf AZ).push _).size<=1; rw [hpe]; exact fc 1 ,by rw [emin,iu] at s2; exact s2⟩)))
   ·rw [if_neg hm];rw [Gb h2 Kr] at hm;have em:m=a0.size:=by lia
    refine wpS_bind (wpS_get ?_);rw [hpd];dsimp only;rw [em];exact wpS_bind (wpS_modify (wpS_pure (.inr ⟨by lia,by rw [iu],k1.1.trans hp,hf,by show ((pendingOf AZ).push _).size<=1; rw [hpe]; exact fc 1 ,by rw [em,iu] at s1; exact s1⟩)))
  ·dsimp only;rw [if_pos (fc _)];exact wpS_pure ⟨rfl,r⟩
 case post=>
  rintro c AZ ⟨rfl,r1,r2,r3 ,r4⟩;dsimp only;refine wpS_bind (wpS_mono (wpS_forRange (I:=fun _ c HL=>HL=AZ/\c=(none,())) (Q:=fun c HL=>HL=AZ/\c=(none,())) ?_ (fun _ _ hh=>hh) ⟨rfl,rfl⟩) ?_)
  ·rintro x c HL _ _ ⟨rfl,rfl⟩;refine wpS_bind (wpS_get ?_);rw [if_pos r3];exact wpS_pure ⟨rfl,rfl⟩
  ·rintro c HL ⟨rfl,rfl⟩;exact wpS_pure (h _ r1 r2 (VE fun i j hij hj=>r4 i j (gr _) (iY hij) (by have:=r1.size_eq; lia)))
theorem Nx {a:Addr} {vs:List Value} {n:Nat} {P:Fin->Shared->Prop} (sw:Qy lt) (lies:s.heap.get? a=some (seqObj "list" vs.toArray n)) (few:vs.length<=sizeLine) (Kr:vs.length < 64)
  (cm:2<=vs.length->∀ h',(∀ b o,b ≠ a->s.heap.get? b=some o->h'.get? b=some o) ->
   ∃ κ,(∀ (Q:SortKind->Shared->Prop) (E:Value->Shared->Prop),Q κ { s with heap:=h' }->wpAny (model prog w) A (keyKind' vs.toArray) Q E { s with heap:=h' })/\X8 prog w A { s with heap:=h' } κ lt (pairsOf vs))
  (k:∀ out:List Value,out.Perm vs->out.Pairwise (fun u v=>lt (v,v) (u,u)=false)->P (.done (.ret .none)) { s with heap:=sortedHeap s.heap a vs out.toArray }) :
  wpAny (model prog w) A (Builtin.«list.sort» ⟨[.ref a],[]⟩) P E s:=by
 have alt:=fb lies;rw [list_sort_plain];refine wpAny_bind (listItems_at lies rfl (wpAny_bind (listUpdate_at lies rfl ?_ (by simpa using few) (gr _))));obtain ⟨c,Vf⟩:∃ c,(s.heap.update a (Obj.mapSeq fun _=>#[])).get? a=some (seqObj "list" #[] c):=⟨_,get?_update_seq lies (fun _=>#[])⟩
 refine wpAny_bind (seqEpoch_at Vf rfl (wpAny_bind (wpAny_newTuple (wpAny_bind (wpAny_newList (wpAny_holding ?_) (gr _))) (by simpa using few))));obtain ⟨h3,bq⟩:∃ h3,h3=((s.heap.update a (Obj.mapSeq fun _=>(#[]:Array Value))).push (seqObj "tuple" vs.toArray 0)).push (seqObj "list" #[] 0):=⟨_,rfl⟩
 have O8:h3.get? a=some (seqObj "list" #[] c):=by
  rw [bq];exact eT _ (eT _ Vf)
 have YV:∀ b o,b ≠ a->s.heap.get? b=some o->h3.get? b=some o:=fun b o hb e=>by
  rw [bq];exact eT _ (eT _ ((kA _ _ _ _ hb).trans e))
 show wpAny (model prog w) A _ P E { s with heap:=((s.heap.update a (Obj.mapSeq fun _=>(#[]:Array Value))).push (seqObj "tuple" vs.toArray 0)).push (seqObj "list" #[] 0) }
 rw [<-bq];have last:∀ AZ:SortSt,(arrOf AZ).Perm (pairsOf vs)->(arrOf AZ).toList.Pairwise (Nl lt)->P (.done (.ret .none)) { s with heap:=h3.update a (Obj.mapSeq fun _=>(arrOf AZ).map (·.2)) }:=fun AZ hp hs=>by
  have e:(arrOf AZ).map (·.2)=((arrOf AZ).toList.map (·.2)).toArray:=by apply j7.mp; simp
  have q:=k _ (RK hp) (RJ hp hs);rw [<-e] at q;rw [bq];exact q
 have zl:∀ AZ:SortSt,(arrOf AZ).Perm (pairsOf vs)->((arrOf AZ).map (·.2)).size<=sizeLine + 1:=fun AZ hp=>by
  rw [Array.size_map,hp.size_eq,pairsOf_size];lia
 have zv:vs.toArray.size=vs.length:=rfl;dsimp only;rcases jS vs.toArray.size 2 with lo | hi
 ·rw [if_pos lo,if_pos lo];refine wpAny_bind (wpAny_pure ?_);rw [StateT.run_pure];refine wpAny_bind (wpAny_pure (wpAny_bind (seqEpoch_at O8 rfl ?_)));have p0:(arrOf (SortSt.mk' general' (vs.toArray.zip vs.toArray) #[] 7 none)).Perm (pairsOf vs):=Array.Perm.refl _;refine wpAny_bind (listUpdate_at O8 rfl ?_ (gr _) (zl _ p0));rw [bne_self_eq_false];refine wpAny_pure (last _ p0 (VE fun i j hij hj=>?_));have:=p0.size_eq;rw [pairsOf_size] at this;have Lq:j < (arrOf (SortSt.mk' general' (vs.toArray.zip vs.toArray) #[] 7 none)).size:=hj;lia
 ·rw [if_neg (by lia),if_neg (by lia)];obtain ⟨κ,k1,k2⟩:=cm (by lia) h3 YV;refine wpAny_bind (k1 _ _ ?_);refine wpAny_bind (wpAny_mono (Ip (a0:=pairsOf vs) (st:=SortSt.mk' κ (vs.toArray.zip vs.toArray) #[] 7 none)
   (Q:=fun _ AZ=>(arrOf AZ).Perm (pairsOf vs)/\failedOf AZ=none/\(arrOf AZ).toList.Pairwise (Nl lt)) sw k2 rfl rfl rfl rfl (by rw [pairsOf_size]; lia) (by rw [pairsOf_size]; lia) fun AZ a1 a2 a3=>⟨a1,a2,a3⟩) ?_ fun _ _ e=>e)
  rintro ⟨u,AZ⟩ s' ⟨rfl,hp,hf,hs⟩;refine wpAny_bind (seqEpoch_at O8 rfl (wpAny_bind (listUpdate_at O8 rfl ?_ (gr _) (zl _ hp))));dsimp only;rw [hf,bne_self_eq_false];exact wpAny_pure (last AZ hp hs)
theorem Ra {l:Addr} {vs:List Value} {Q:Value->Shared->Prop} (sw:Qy lt) (hl:s.heap.IsList l vs.toArray) (few:vs.length<=sizeLine) (Kr:vs.length < 64) (cm:Cmpd prog w s lt vs)
  (k:∀ out:List Value,out.Perm vs->out.Pairwise (fun u v=>lt (v,v) (u,u)=false)->Q (.ref (s.heap.objs.size + 1)) { s with heap:=sortedAll s.heap vs out.toArray }) :
  wpAny (model prog w) A (call (.builtin "sorted") [.ref l]) Q E s:=by
 refine Calls.call_function_entry kind_sorted plain_sorted entry_sorted (args_sorted1 _) ?_;unfold Builtin.«sorted»;refine wpAny_bind (m:=checkCount "sorted" 1 1 _) (wpAny_pure (wpAny_bind (collect_list hl ?_ few)));refine wpAny_bind (wpAny_newList ?_ (by simpa using few));obtain ⟨h1,br⟩:∃ h1,h1=(s.heap.push (seqObj "list" #[] 0)).update s.heap.objs.size (Obj.mapSeq (· ++ vs.toArray)):=⟨_,rfl⟩
 have z1:h1.objs.size=s.heap.objs.size + 1:=by rw [br,kP,size_push']
 have lies:(h1.push (seqObj "list" vs.toArray 0)).get? (s.heap.objs.size + 1)=some (seqObj "list" vs.toArray 0):=by
  rw [<-z1];exact fe _ rfl
 have keep:∀ b o,s.heap.get? b=some o->(h1.push (seqObj "list" vs.toArray 0)).get? b=some o:=fun b o q=>by
  have hb:=fb q;refine eT _ ?_;rw [br,kA _ _ _ _ (fj hb)];exact eT _ q
 show wpAny _ _ _ _ _ { s with heap:=((s.heap.push (seqObj "list" #[] 0)).update s.heap.objs.size (Obj.mapSeq (· ++ vs.toArray))).push (seqObj "list" vs.toArray 0) }
 rw [<-br,z1];refine wpAny_bind (wpAny_holding (wpAny_call_entry slot_list_sort ⟨_,lies,rfl⟩ entry_list_sort (Nx (s:={ s with heap:=h1.push (seqObj "list" vs.toArray 0) }) sw lies few Kr ?_ fun out o1 o2=>⟨_,rfl,wpAny_pure ⟨_,rfl,?_⟩⟩) (args_list_sort _)))
 ·intro h2 h' kp;exact cm h2 _ h' fun b o e=>kp b o (fj (gf (fb e))) (keep b o e)
 ·have q:=k out o1 o2;unfold sortedAll at q;rw [<-br] at q;exact q
end
theorem Ds {X:Cx}:Bv X (.builtin "sorted") (fun xs H Q=>∃ (a:Addr) (vs:List V) (kd:Nat->Bool),xs=[.ref a]/\Ba X.K H a vs/\(∀ v ∈ vs,NJ H kd v)/\vs.length < 64 /\
  ∀ (l:Addr) (Fp:List V),H l=none->Fp.Perm vs->Fp.Pairwise (fun u v=>B7 (JI H v) (JI H u)=false)->Q (.ref l) (upd H l (.lst Fp))):=by
 intro pins s σ H xs us Q I r h;obtain ⟨a,vs,kd,rfl,ha,hk,Kr,q⟩:=h;obtain ⟨u,rfl,ru⟩:=Cq r;cases ru
 obtain ⟨Ar,rv,pl,hz⟩:=I.list ha;have all:∀ {vs:List V} {Ar:List Value},AB vs Ar->(∀ v ∈ vs,NJ H kd v)->(∀ u ∈ Ar,NH s.heap kd u)/\Ar.map (Di s.heap)=vs.map (JI H):=by
  intro vs;induction vs with
  | nil=>intro Ar rv _; cases rv; exact ⟨(fun u hu=>nomatch hu),rfl⟩
  | cons v vs ih=>
   intro Ar rv hk;cases rv with
   | cons r1 r2=>
    obtain ⟨a1,a2⟩:=VR I r1 (hk v fX);obtain ⟨b1,b2⟩:=ih r2 fun v hv=>hk v (fK _ hv)
    refine ⟨fun u hu=>?_,by rw [fU,fU,a2,b2]⟩;rcases eX.mp hu with rfl | hu
    ·exact a1
    ·exact b1 u hu
 refine Ra (Uj (Di s.heap)) pl.isList (by rw [<-rv.length]; exact hz) (by rw [<-rv.length]; exact Kr) (Pg (all rv hk).1) fun out o1 o2=>?_
 obtain ⟨Fp,rv',pv⟩:=OW o1 rv;have keys:=(all rv' fun v hv=>hk v (pv.mem_iff.mp hv)).2;obtain ⟨e,he⟩:=sortedAll_at s.heap Ar out.toArray;refine ⟨.ref (s.heap.objs.size + 1),_,I.laid (o:=.lst Fp) (t':=s.toks) (fun b o z=>sortedAll_old z) (gy _) ⟨by rw [pv.length_eq]; exact hz,out,e,rv',he⟩,rfl,q _ Fp (I.hok.fresh (gy _)) pv ?_⟩;have p1:(out.map (Di s.heap)).Pairwise (fun a b=>B7 b a=false):=ik.mpr o2;rw [keys] at p1;exact ik.mp p1
theorem Dt (K:eV) {X:Cx} (h:X.K=K):Bv X (.builtin "sorted") (fun xs H Q=>∃ (a:Addr) (vs:List V) (rs:List AI),xs=[.ref a]/\Ba K H a vs/\A2 H vs (rs.map Ce)/\vs.length < 64 /\
  ∀ (l:Addr) (Fp:List V) (LB:List AI),H l=none->A2 H Fp (LB.map Ce)->LB.Perm rs->VM LB->Q (.ref l) (upd H l (.lst Fp))):=by
 subst h;intro pins s σ H xs us Q I r h;obtain ⟨a,vs,rs,rfl,ha,hd,Kr,q⟩:=h;refine Ds (pins:=pins) s σ H _ us Q I r ⟨a,vs,_,rfl,ha,(G2 hd).1,Kr,fun l Fp hl pv rise=>?_⟩;obtain ⟨LB,d1,p1⟩:=Px pv hd;refine q l Fp LB hl d1 p1 ?_;have e:=(G2 d1).2;have p2:(Fp.map (JI H)).Pairwise (fun a b=>B7 b a=false):=ik.mpr rise;rw [e] at p2;exact ik.mp p2
theorem FC (K:eV) {X:Cx} (h:X.K=K):Bv X (.builtin "sorted") (fun xs H Q=>∃ (a:Addr) (vs:List V) (rs:List A9),xs=[.ref a]/\Ba K H a vs/\A2 H vs (rs.map Fj)/\vs.length < 64 /\
  ∀ (l:Addr) (Fp:List V) (LB:List A9),H l=none->A2 H Fp (LB.map Fj)->LB.Perm rs->Q (.ref l) (upd H l (.lst Fp))):=by
 subst h;intro pins s σ H xs us Q I r h;obtain ⟨a,vs,rs,rfl,ha,hd,Kr,q⟩:=h;refine Ds (pins:=pins) s σ H _ us Q I r ⟨a,vs,_,rfl,ha,(JU hd).1,Kr,fun l Fp hl pv rise=>?_⟩;obtain ⟨LB,d1,p1⟩:=Qp pv hd;exact q l Fp LB hl d1 p1
end L2
namespace L2
open PySem PySem.Spec PyProof.Rows
theorem Kk (K:eV) {X:Cx} (h:X.K=K):EC X (compareOp .NotIn) (fun x y H Q=>∃ p xs,y=.ref p/\(Ba K H p xs\/Az K H p xs)/\E9 x=true/\xs.all E9=true/\Q (.bl (!Vi x xs)) H):=by subst h; exact Lc
theorem PU {X:Cx} (hu:X.A.units < cLine):EC X (compareOp .NotEq) (fun x y H Q=>∃ a b xs,x=.ref a/\y=.ref b/\Ba X.K H a xs/\Ba X.K H b []/\Q (.bl (!xs.isEmpty)) H):=by
 intro pins s σ H x y v u Q I rx ry h;obtain ⟨a,b,xs,rfl,rfl,ha,hb,q⟩:=h;cases rx
 cases ry
 obtain ⟨Ar,r,p,hz⟩:=I.list ha;obtain ⟨JJ,r2,p2,cN⟩:=I.list hb;cases r2
 cases xs with
 | nil=>
  cases r
  exact PySem.SeqAt.RcNeAt.lists (e:=fun _=>true) p.isList p2.isList rfl hu (fun j h1 h2=>absurd h1 (hV _)) _ _ _ _ ⟨.bl false,H,I,rfl,q⟩
 | cons x xs=>
  cases r with
  | cons r1 r2=>exact PySem.SeqAt.RcNeAt.lists_lengths p.isList p2.isList (by simp) hu _ _ _ _ ⟨.bl true,H,I,rfl,q⟩
theorem Py {rs:List AI} (h:VM rs) (nd:(rs.map (·.1)).Nodup):Cy (rs.map (·.1)):=by
 refine G3 (ik.mpr (List.Pairwise.imp (fun {u v} z lt=>?_) h)) nd;have ne:¬ v.1=u.1:=fun e=>by rw [e] at lt; exact ET _ lt
 unfold rk B7 at z;rw [if_neg (by intro e; injection e with e; exact ne e)] at z;have:decide (v.1.cps.toList < u.1.cps.toList)=false:=z;rw [decide_eq_true lt] at this;cases this
def OkP (ws:List A9) (Am Al:List AI) (x:V) (ss:List Str) (zs:List (Str × Str)) (qs:List AI) (lv:Int):Prop:=
 Jw (Am.map (·.1)) x (ss.map PyData.str)/\(∀ z ∈ zs,z.2 ∈ ss)/\(x=.non->lv=0)/\AN ws Am Al qs lv=true
theorem Kv {ws:List A9} {x:Str} {r:AI} {p p':Int} (h:p<=p'):CI ws x r p<=CI ws x r p':=by unfold CI; lia
theorem EH {ws:List A9} {Am Al qs:List AI} {lv:Int}:AN ws Am Al qs lv=false ↔ ∃ s ∈ Am,s.2 + lv < By ws s.1 Al qs:=by
 unfold AN;rw [List.all_eq_false];constructor
 ·rintro ⟨s,hs,h⟩;exact ⟨s,hs,by simpa using h⟩
 ·rintro ⟨s,hs,h⟩;exact ⟨s,hs,by simpa using h⟩
theorem DV {ws:List A9} {Am Al qs:List AI} {lv:Int}:AN ws Am Al qs lv=true ↔ ∀ s ∈ Am,By ws s.1 Al qs<=s.2 + lv:=by
 unfold AN;rw [gz];exact ⟨fun h s hs=>of_decide_eq_true (h s hs),fun h s hs=>decide_eq_true (h s hs)⟩
theorem Nc {ws:List A9} {Am Al qs:List AI} {lv:Int} {i:Nat} {r q:AI} {mn:Int} (h:AN ws Am Al qs lv=true) (hr:Al[i]? = some r) (hq:qs[i]? = some q) (rq:r.1=q.1) (q0:0<=q.2) (hd:∀ s ∈ Am,0<=r.2 * dst ws s.1 q.1)
  (hm:∃ s ∈ Am,mn=s.2 + lv - By ws s.1 Al (Bi qs i 0) + r.2 * dst ws s.1 q.1):AN ws Am Al (Bi qs i ((if mn > 0 then mn else 0) + 1)) lv=false:=by
 obtain ⟨s,hs,m⟩:=hm;refine EH.mpr ⟨s,hs,?_⟩;have g:=DV.mp h s hs;have a:=CC (ws:=ws) (x:=s.1) hr hq ((if mn > 0 then mn else 0) + 1);have b:=CC (ws:=ws) (x:=s.1) hr hq 0;have d:=hd s hs;have e:∀ z,CI ws s.1 r z=max (z - r.2 * dst ws s.1 q.1) 0:=fun z=>by unfold CI; rw [rq]
 rw [e,e] at a b;generalize r.2 * dst ws s.1 q.1=D at *;generalize By ws s.1 Al (Bi qs i ((if mn > 0 then mn else 0) + 1))=X at *;generalize By ws s.1 Al (Bi qs i 0)=Y at *;generalize By ws s.1 Al qs=Z at *;split at a <;> lia
theorem QR {ws:List A9} {Am Al qs:List AI} {lv p:Int} {j:Nat} {r q:AI} (h:AN ws Am Al qs lv=false) (hr:Al[j]? = some r) (hq:qs[j]? = some q) (hp:q.2<=p):AN ws Am Al (Bi qs j p) lv=false:=by
 obtain ⟨s,hs,g⟩:=EH.mp h;refine EH.mpr ⟨s,hs,?_⟩;have a:=CC (ws:=ws) (x:=s.1) hr hq p;have b:=Kv (ws:=ws) (x:=s.1) (r:=r) hp;lia
theorem Nd {ws:List A9} {Am Al qs:List AI} {lv p:Int} {j:Nat} {r q:AI} (h:AN ws Am Al qs lv=true) (hr:Al[j]? = some r) (hq:qs[j]? = some q) (hp:p<=q.2):AN ws Am Al (Bi qs j p) lv=true:=by
 refine DV.mpr fun s hs=>?_
 have g:=DV.mp h s hs;have a:=CC (ws:=ws) (x:=s.1) hr hq p;have b:=Kv (ws:=ws) (x:=s.1) (r:=r) hp;lia
theorem Na {ws:List A9} {Am Al qs:List AI} {lv lv':Int} (h:AN ws Am Al qs lv=true) (hl:lv<=lv'):AN ws Am Al qs lv'=true:=DV.mpr fun s hs=>by have:=DV.mp h s hs; lia
theorem Nb {ws:List A9} {Am Al qs:List AI} {lv:Int} {j:Nat} {r q:AI} (hr:Al[j]? = some r) (hq:qs[j]? = some q) (h:AN ws Am Al (Bi qs j (q.2 + 1)) lv=false):AN ws Am Al qs (lv - 1)=false:=by
 obtain ⟨s,hs,g⟩:=EH.mp h;refine EH.mpr ⟨s,hs,?_⟩;have a:=CC (ws:=ws) (x:=s.1) hr hq (q.2 + 1);have b:CI ws s.1 r (q.2 + 1)<=CI ws s.1 r q.2 + 1:=by unfold CI; lia
 lia
theorem O1:∀ {qs:List AI} {i j:Nat} {p v:Int},i ≠ j->i < qs.length->j < qs.length->Bi (Bi qs j p) i v=Bi (Bi qs i v) j p
 | [],_,_,_,_,_,h,_=>by simp at h
 | q :: qs,0,0,_,_,h,_,_=>absurd rfl h
 | q :: qs,0,j + 1,p,v,_,_,_=>rfl
 | q :: qs,i + 1,0,p,v,_,_,_=>rfl
 | q :: qs,i + 1,j + 1,p,v,h,hi,hj=>by
  show q :: Bi (Bi qs j p) i v=q :: Bi (Bi qs i v) j p
  rw [O1 (by lia) (by simpa using hi) (by simpa using hj)]
theorem ID {qs:List AI} {i j:Nat} {p:Int} (h:i ≠ j) (hi:i < qs.length):(Bi qs i p)[j]? = qs[j]?:=by
 unfold Bi;by_cases hj:j < i
 ·rw [gq (by rw [fJ]; lia),iR hj]
 ·rw [gj (by rw [fJ]; lia),fJ,jE (by lia)];obtain ⟨k,rfl⟩:∃ k,j=i + 1 + k:=⟨j - i - 1,by lia⟩
  rw [show i + 1 + k - i=k + 1 by lia,hX,kG]
theorem TM {qs:List AI} {i:Nat} {p:Int} (hi:i < qs.length):(Bi qs i p)[i]? = some ((Uc qs i).1,p):=by
 unfold Bi;rw [gj (by rw [fJ]; lia),fJ,jE (by lia),jf];rfl
def He (ws:List A9) (Am Al qs:List AI) (lv:Int) (j:Nat):Prop:=∀ i q,i < j->qs[i]? = some q->AN ws Am Al (Bi qs i (q.2 + 1)) lv=false
theorem He.step {ws:List A9} {Am Al qs:List AI} {lv p:Int} {j:Nat} {r q:AI} (h:He ws Am Al qs lv j) (hr:Al[j]? = some r) (hq:qs[j]? = some q) (hp:q.2<=p) (no:AN ws Am Al (Bi qs j (p + 1)) lv=false):He ws Am Al (Bi qs j p) lv (j + 1):=fun i q' hi e=>by
 have jl:=(fh.mp hq).1;by_cases hij:i=j
 ·subst hij;rw [TM jl] at e;cases e
  rw [Mb jl];exact no
 ·have il:i < qs.length:=by lia
  rw [ID (Ne.symm hij) jl] at e;rw [O1 hij il jl];refine QR (h i q' (by lia) e) hr ?_ hp;rw [ID hij il];exact hq
def Kb:Sp:=fun vs H Q _=>∃ (c m t A:Addr) (n:Nat) (xs:List Str) (ws:List A9) (Am Al qs:List AI) (x:V) (d:PyData) (lv:Int) (i:Nat),vs=[.ref c,.ref A,.ref t,.int lv,.int i]/\CP H c m t n xs ws Am Al qs x d/\DL H A xs ws/\0<=lv/\lv<=1000/\i < qs.length /\
 ∀ (H':Hp) (T:Addr) (p:Int),Aq H H'->0<=p->p < 2 ^ 400->(AN ws Am Al qs lv=true->∀ p':Int,p'<=p->AN ws Am Al (Bi qs i p') lv=true)->(AN ws Am Al qs lv=true->AN ws Am Al (Bi qs i (p + 1)) lv=false)->CP H' c m T n xs ws Am Al (Bi qs i p) x d->Q (.ref T) H'
def Oo:Sp:=fun vs H Q _=>∃ (c m A:Addr) (n:Nat) (xs:List Str) (ws:List A9) (Am Al:List AI) (x:V) (d:PyData) (lv:Int),vs=[.ref c,.ref A,.int lv]/\Cz H c m n xs ws Am Al x d/\(∀ r ∈ Al,r.2<=4)/\DL H A xs ws/\0<=lv/\lv<=1000 /\
 ∀ (H':Hp) (T:Addr) (qs:List AI),Aq H H'->CP H' c m T n xs ws Am Al qs x d->AN ws Am Al qs lv=true->He ws Am Al qs lv qs.length->Q (.ref T) H'
def KG:Sp:=fun vs H Q _=>∃ (t:Addr) (i:Nat) (v:V) (us:List V),vs=[.ref t,.int i,v]/\H t=some (.tup us)/\i < us.length/\us.length<=1000/\∀ (H':Hp) (T:Addr),Aq H H'->H' T=some (.tup ((us.take i ++ [v]) ++ us.drop (i + 1)))->Q (.ref T) H'
structure FH (H:Hp) (c m o t T:Addr) (n:Nat) (xs:List Str) (ws:List A9) (Am Al:List AI) (x:V) (d:PyData) (ss:List Str) (zs:List (Str × Str)) (qs:List AI) (lv:Int):Prop where
 cw:Cz H c m n xs ws Am Al x d
 few:∀ r ∈ Al,r.2<=4
 op:H o=some (.tup (ss.map V.str))
 sl:ss.length<=60
 sh:∀ s ∈ ss,s.length<=1000
 wk:∃ us,H t=some (.tup us)/\A2 H us (zs.map EG)
 wl:zs.length<=60
 wn:∀ z ∈ zs,z.1.length<=1000/\AA z.2=true
 pr:∃ us,H T=some (.tup us)/\A2 H us (qs.map Ce)
 pl:qs.length<=60
 pn:∀ q ∈ qs,AA q.1=true
 lo:∀ q ∈ qs,0<=q.2
 lv0:0<=lv
theorem FH.keepT {H H':Hp} {c m o t T:Addr} {n:Nat} {xs:List Str} {ws:List A9} {Am Al:List AI} {x:V} {d:PyData} {ss:List Str} {zs:List (Str × Str)} {qs:List AI} {lv:Int} (h:FH H c m o t T n xs ws Am Al x d ss zs qs lv) (s:∀ b ys,H b=some (.tup ys)->H' b=some (.tup ys)):FH H' c m o t T n xs ws Am Al x d ss zs qs lv:=by
 obtain ⟨us,a,b⟩:=h.wk;obtain ⟨FK,a2,b2⟩:=h.pr;exact ⟨h.cw.keepT s,h.few,s _ _ h.op,h.sl,h.sh,⟨us,s _ _ a,Fb s b⟩,h.wl,h.wn,⟨FK,s _ _ a2,AH b2 s⟩,h.pl,h.pn,h.lo,h.lv0⟩
theorem FH.same {H H':Hp} {c m o t T:Addr} {n:Nat} {xs:List Str} {ws:List A9} {Am Al:List AI} {x:V} {d:PyData} {ss:List Str} {zs:List (Str × Str)} {qs:List AI} {lv:Int} (h:FH H c m o t T n xs ws Am Al x d ss zs qs lv) (s:Aq H H'):FH H' c m o t T n xs ws Am Al x d ss zs qs lv:=h.keepT fun b ys z=>s _ _ z
def OkF (ws:List A9) (Am Al:List AI) (x:V) (ss:List Str) (zs:List (Str × Str)) (qs:List AI) (lv:Int):Prop:=
 zs.map (·.1)=Al.map (·.1)/\qs.map (·.1)=Al.map (·.1)/\OkP ws Am Al x ss zs qs lv
def HY (c m:Addr) (n:Nat) (xs:List Str) (ws:List A9) (Am Al:List AI) (x:V) (d:PyData) (G:Prop->Prop) (H:Hp) (v:V):Prop:=
 ∃ (pp o t T:Addr) (ss:List Str) (zs:List (Str × Str)) (qs:List AI) (lv:Int),v=.ref pp/\H pp=some (.tup [.ref o,.ref t,.ref T,.int lv])/\FH H c m o t T n xs ws Am Al x d ss zs qs lv/\G (OkF ws Am Al x ss zs qs lv)
theorem HY.keepT {c m:Addr} {n:Nat} {xs:List Str} {ws:List A9} {Am Al:List AI} {x:V} {d:PyData} {G:Prop->Prop} {H H':Hp} {v:V} (h:HY c m n xs ws Am Al x d G H v) (s:∀ b ys,H b=some (.tup ys)->H' b=some (.tup ys)):HY c m n xs ws Am Al x d G H' v:=by
 obtain ⟨pp,o,t,T,ss,zs,qs,lv,e,a,b,g⟩:=h;exact ⟨pp,o,t,T,ss,zs,qs,lv,e,s _ _ a,b.keepT s,g⟩
theorem FH.pap {c m o t T pp:Addr} {n:Nat} {xs:List Str} {ws:List A9} {Am Al:List AI} {x:V} {d:PyData} {G:Prop->Prop} {H:Hp} {ss:List Str} {zs:List (Str × Str)} {qs:List AI} {lv:Int} (h:FH H c m o t T n xs ws Am Al x d ss zs qs lv) (g:G (OkF ws Am Al x ss zs qs lv)) (hp:H pp=none):HY c m n xs ws Am Al x d G (upd H pp (.tup [.ref o,.ref t,.ref T,.int lv])) (.ref pp):=
 ⟨pp,o,t,T,ss,zs,qs,lv,rfl,Ab,h.same (Ac hp),g⟩
def Oi:Sp:=fun vs H Q _=>∃ (c m:Addr) (n:Nat) (xs:List Str) (ws:List A9) (Am Al:List AI) (x:V) (d:PyData) (v:V) (G:Prop->Prop),vs=[.ref c,v]/\HY c m n xs ws Am Al x d G H v /\
 ∀ (b:Bool) (H':Hp),Aq H H'->(∃ p:Prop,G p/\(b=true ↔ p))->Q (.bl b) H'
theorem LI {K:eV} {H:Hp} {t:Addr} {us:List V} {zs:List (Str × Str)} {ys:List Str} (ht:H t=some (.tup us)) (du:A2 H us (zs.map EG)) (sh:∀ z ∈ zs,z.1.length<=1000) (ne:zs.map (·.1) ≠ ys):DR K H (.ref t) ys false:=by
 have ul:=EF du;refine .inr ⟨t,us,rfl,ht,?_⟩;by_cases hl:us.length=ys.length
 ·refine .inr ⟨hl,(zs.zip ys).map (fun z=>AA z.1.1 && decide (z.1.1=z.2)),by rw [eU,i3]; lia,?_,fun i u y c a1 a2 a3=>?_⟩
  ·cases hb:((zs.zip ys).map (fun z=>AA z.1.1 && decide (z.1.1=z.2))).all id with
   | false=>rfl
   | true=>
    refine absurd (i9 fun i=>?_) ne;rw [gY,gz] at hb;rw [eZ];by_cases hi:i < zs.length
    ·rw [eR hi,eR (show i < ys.length by lia)];have:=hb (zs[i],ys[i]'(by lia)) (eW (i:=i) (by rw [gM]; exact ⟨eR hi,eR (by lia)⟩));have e2:decide ((zs[i]).1=ys[i]'(by lia))=true:=(kh.mp this).2;show some (zs[i]).1=_
     rw [of_decide_eq_true e2]
    ·rw [gO (by lia),gO (show ys.length<=i by lia)];rfl
  ·obtain ⟨q,tt,eq,rfl,htt⟩:=Ei du a1;have ez:(zs.zip ys)[i]? = some (q,y):=by rw [gM]; exact ⟨eq,a2⟩
   rw [eZ,ez] at a3;cases a3
   exact .inr ⟨tt,_,rfl,htt,.inr ⟨_,_,rfl,.inr ⟨q.1,rfl,sh q (eW eq),rfl⟩⟩⟩
 ·exact .inl ⟨hl,rfl⟩
theorem FH.goes {K:eV} {H:Hp} {c m o t T:Addr} {n:Nat} {xs:List Str} {ws:List A9} {Am Al:List AI} {x:V} {d:PyData} {ss:List Str} {zs:List (Str × Str)} {qs:List AI} {lv:Int} (h:FH H c m o t T n xs ws Am Al x d ss zs qs lv) (hz:zs.map (·.1)=Al.map (·.1)):Q6 K H (.ref t) (Al.map (·.1)) ss (zs.all fun z=>decide (z.2 ∈ ss)):=by
 obtain ⟨us,ht,du⟩:=h.wk;have ul:=EF du;have zl:=congrArg gK hz;rw [eU,eU] at zl;refine .inr ⟨t,us,rfl,ht,by rw [eU]; lia,zs.map fun z=>decide (z.2 ∈ ss),by rw [eU]; lia,by rw [gY]; rfl,fun i u y c' a1 a2 a3=>?_⟩;obtain ⟨z,tt,ez,rfl,htt⟩:=Ei du a1;obtain ⟨r,er,rz⟩:=UL hz ez;rw [eZ,er] at a2;cases a2
 rw [eZ,ez] at a3;cases a3
 have zn:=(h.wn z (eW ez)).2;refine ⟨tt,.str z.2,rfl,?_,.inr ⟨z.2,rfl,gc (Cv zn) (by decide),by rw [zn]; rfl⟩⟩;show H tt=some (.tup [.str r.1,.str z.2])
 rw [rz];exact htt
theorem Oz {A:List Str} (nd:A.Nodup) (h:2<=A.length):A.reverse ≠ A:=fun e=>by
 have h1:A.reverse[0]? = A[0]?:=by rw [e]
 rw [jV (by lia)] at h1;have:=(iN (by lia) nd).mp h1;lia
theorem S8 {A:List Str} {i:Nat} (hi:i < A.length):A.take i ++ A.drop (i + 1) ≠ A:=fun e=>by
 have:=congrArg gK e;rw [eY,fJ,gD] at this;lia
theorem Wu {A:List Str} {i:Nat} {y:Str} (hi:i < A.length) (hy:A[i]? ≠ some y):(A.take i ++ [y]) ++ A.drop (i + 1) ≠ A:=fun e=>by
 apply hy;rw [<-e,gq (by rw [eY,fJ]; simp; lia),gj (by rw [fJ]; lia),fJ,jE (by lia),jf];rfl
def Fo {α:Type} (l:List α) (i:Nat) (z:α):List α:=(l.take i ++ [z]) ++ l.drop (i + 1)
theorem Dc {α β:Type} (f:α->β) (l:List α) (i:Nat) (z:α):(Fo l i z).map f=Fo (l.map f) i (f z):=by
 unfold Fo;rw [fg,fg,ie,iz];rfl
theorem Mc {α:Type} {l:List α} {i:Nat} {z:α} (h:i < l.length):(Fo l i z).length=l.length:=Ry h
theorem IE {α:Type} {l:List α} {i:Nat} {z y:α} (h:y ∈ Fo l i z):y=z\/y ∈ l:=by
 unfold Fo at h;rcases fq.mp h with h | h
 ·rcases fq.mp h with h | h
  ·exact .inr (gU h)
  ·exact .inl (fo.mp h)
 ·exact .inr (ip h)
theorem KU {α:Type} {l:List α} {i:Nat} {z:α}:z ∈ Fo l i z:=gT _ (fm _ (fo.mpr rfl))
theorem Kj {α:Type} {l:List α} {i:Nat} {z:α} (h:l[i]? = some z):Fo l i z=l:=by
 have hi:=(fh.mp h).1;refine i9 fun j=>?_
 rw [show Fo l i z=(l.take i ++ [z]) ++ l.drop (i + 1) from rfl,TK hi];split
 ·rename_i e
  rw [e,h]
 ·rfl
theorem MA {H:Hp} {us:List V} {ds:List PyData} {i:Nat} {v:V} {d:PyData} (h:A2 H us ds) (hv:F0 H v d):A2 H ((us.take i ++ [v]) ++ us.drop (i + 1)) (Fo ds i d):=
 BK (BK (Dq i h) (.cons hv .nil)) (Dr (i + 1) h)
theorem Ki {qs:List AI} {i:Nat} {p:Int}:Bi qs i p=Fo qs i ((Uc qs i).1,p):=by
 unfold Bi Fo;rw [h9];rfl
theorem QM {ss:List Str} (h:ss.length=2):∃ a b,ss=[a,b]:=by
 match ss,h with
 | [a,b],_=>exact ⟨a,b,rfl⟩
theorem Jw.rise {sites ss:List Str} {x:V} (h:Jw sites x (ss.map PyData.str)):Cy ss:=by
 obtain ⟨s2,e,_,ri,_⟩:=h;rw [D4 e];exact ri
theorem Jw.mem {sites ss:List Str} {x:V} (h:Jw sites x (ss.map PyData.str)):∀ s ∈ ss,s ∈ sites:=by
 obtain ⟨s2,e,_,_,m,_⟩:=h;rw [D4 e];exact fun s hs=>(m s hs).2
theorem Jw.lim {sites ss:List Str} {x:V} (h:Jw sites x (ss.map PyData.str)):RU x ss.length=true:=by
 obtain ⟨s2,e,_,_,_,l⟩:=h;rw [D4 e];exact l
theorem Wt {sites ss:List Str} {x:V} (h:Jw sites x (ss.map PyData.str)) (h2:ss.length=2):¬ Jw sites x (ss.reverse.map PyData.str):=fun h'=>by
 obtain ⟨a,b,rfl⟩:=QM h2;have r1:=(gQ.mp h.rise).1 b (by simp);have r2:=(gQ.mp h'.rise).1 a (by simp);exact iE r1 r2
theorem Xm {sites ss:List Str} {x:V} (h2:ss.length=2):¬ Jw sites x ((ss.take 1 ++ ss).map PyData.str):=fun h'=>by
 obtain ⟨a,b,rfl⟩:=QM h2;exact ET _ ((gQ.mp h'.rise).1 a (by simp))
section
variable {H:Hp} {c m o t T:Addr} {n:Nat} {xs:List Str} {ws:List A9} {Am Al:List AI} {x:V} {d:PyData} {ss:List Str} {zs:List (Str × Str)} {qs:List AI} {lv:Int}
theorem FH.open' (h:FH H c m o t T n xs ws Am Al x d ss zs qs lv) {o':Addr} {ss':List Str} (ho:H o'=some (.tup (ss'.map V.str))) (sl:ss'.length<=60) (sh:∀ s ∈ ss',s.length<=1000):FH H c m o' t T n xs ws Am Al x d ss' zs qs lv:=
 ⟨h.cw,h.few,ho,sl,sh,h.wk,h.wl,h.wn,h.pr,h.pl,h.pn,h.lo,h.lv0⟩
theorem FH.walks' (h:FH H c m o t T n xs ws Am Al x d ss zs qs lv) {t':Addr} {us:List V} {zs':List (Str × Str)} (ht:H t'=some (.tup us)) (du:A2 H us (zs'.map EG)) (wl:zs'.length<=60) (wn:∀ z ∈ zs',z.1.length<=1000/\AA z.2=true):FH H c m o t' T n xs ws Am Al x d ss zs' qs lv:=
 ⟨h.cw,h.few,h.op,h.sl,h.sh,⟨us,ht,du⟩,wl,wn,h.pr,h.pl,h.pn,h.lo,h.lv0⟩
theorem FH.prices' (h:FH H c m o t T n xs ws Am Al x d ss zs qs lv) {T':Addr} {us:List V} {qs':List AI} (hT:H T'=some (.tup us)) (du:A2 H us (qs'.map Ce)) (pl:qs'.length<=60) (pn:∀ q ∈ qs',AA q.1=true/\0<=q.2):FH H c m o t T' n xs ws Am Al x d ss zs qs' lv:=
 ⟨h.cw,h.few,h.op,h.sl,h.sh,h.wk,h.wl,h.wn,⟨us,hT,du⟩,pl,(fun q hq=>(pn q hq).1),(fun q hq=>(pn q hq).2),h.lv0⟩
theorem FH.levy' (h:FH H c m o t T n xs ws Am Al x d ss zs qs lv) {lv':Int} (l0:0<=lv'):FH H c m o t T n xs ws Am Al x d ss zs qs lv':=
 ⟨h.cw,h.few,h.op,h.sl,h.sh,h.wk,h.wl,h.wn,h.pr,h.pl,h.pn,h.lo,l0⟩
theorem FH.putW (h:FH H c m o t T n xs ws Am Al x d ss zs qs lv) {t':Addr} {us:List V} {i:Nat} {v:V} {z:Str × Str} (ht:H t=some (.tup us)) (du:A2 H us (zs.map EG)) (hi:i < zs.length) (ht':H t'=some (.tup ((us.take i ++ [v]) ++ us.drop (i + 1)))) (hv:F0 H v (EG z)) (hz:z.1.length<=1000/\AA z.2=true):FH H c m o t' T n xs ws Am Al x d ss (Fo zs i z) qs lv:=
 h.walks' ht' (by rw [Dc]; exact MA du hv) (by rw [Mc hi]; exact h.wl) fun y hy=>(IE hy).elim (fun e=>e ▸ hz) (h.wn y)
theorem FH.putP (h:FH H c m o t T n xs ws Am Al x d ss zs qs lv) {T':Addr} {us:List V} {i:Nat} {v:V} {q:AI} (du:A2 H us (qs.map Ce)) (hi:i < qs.length) (dB:H T'=some (.tup ((us.take i ++ [v]) ++ us.drop (i + 1)))) (hv:F0 H v (Ce q)) (hq:AA q.1=true/\0<=q.2):FH H c m o t T' n xs ws Am Al x d ss zs (Fo qs i q) lv:=
 h.prices' dB (by rw [Dc]; exact MA du hv) (by rw [Mc hi]; exact h.pl) fun y hy=>(IE hy).elim (fun e=>e ▸ hq) fun hy=>⟨h.pn y hy,h.lo y hy⟩
end
theorem Cf {c m:Addr} {n:Nat} {xs:List Str} {ws:List A9} {Am Al:List AI} {x:V} {d:PyData} {G:Prop->Prop} {H H7:Hp} {D:Addr} {us ys zs:List V} {v:V} (h:∀ u ∈ us,HY c m n xs ws Am Al x d G H u) (s:Aq H H7) (hD:H7 D=some (.lst zs)) (hv:HY c m n xs ws Am Al x d G H7 v):∀ u ∈ us ++ [v],HY c m n xs ws Am Al x d G (upd H7 D (.lst ys)) u:=fun u hu=>by
 have tp:∀ b XC,H7 b=some (.tup XC)->(upd H7 D (.lst ys)) b=some (.tup XC):=fun b XC z=>by
  rw [Ae (C0 z hD (fun q=>by cases q))];exact z
 rcases fq.mp hu with hu | hu
 ·exact (h u hu).keepT fun b XC z=>tp b XC (s _ _ z)
 ·rw [fo.mp hu];exact hv.keepT tp
theorem Bs {c m:Addr} {n:Nat} {xs:List Str} {ws:List A9} {Am Al:List AI} {x:V} {d:PyData} {G:Prop->Prop} {H H7:Hp} {us:List V} (h:∀ u ∈ us,HY c m n xs ws Am Al x d G H u) (s:Aq H H7):∀ u ∈ us,HY c m n xs ws Am Al x d G H7 u:=fun u hu=>(h u hu).keepT fun b ys z=>s _ _ z
structure PF (H:Hp) (c m pp o t T:Addr) (n:Nat) (xs:List Str) (ws:List A9) (Am Al:List AI) (x:V) (d:PyData) (ss:List Str) (zs:List (Str × Str)) (qs:List AI) (lv:Int):Prop where
 pg:FH H c m o t T n xs ws Am Al x d ss zs qs lv
 pap:H pp=some (.tup [.ref o,.ref t,.ref T,.int lv])
 ok:OkF ws Am Al x ss zs qs lv
 full:He ws Am Al qs lv qs.length
 two:ss.length=2
 ri:Cy (Am.map (·.1))
 l3:3<=Am.length
 l4:Am.length<=4
 m3:3<=Al.length
 x6:xs.length=6
 lim:x=.non\/x=.int 2
 pos:x=.int 2->1<=lv
 up:lv<=100
 nz:∀ y ∈ xs,y ≠ Str.ofString "zzzzzz"
theorem PF.keepT {H H':Hp} {c m pp o t T:Addr} {n:Nat} {xs:List Str} {ws:List A9} {Am Al:List AI} {x:V} {d:PyData} {ss:List Str} {zs:List (Str × Str)} {qs:List AI} {lv:Int} (h:PF H c m pp o t T n xs ws Am Al x d ss zs qs lv) (s:∀ b ys,H b=some (.tup ys)->H' b=some (.tup ys)):PF H' c m pp o t T n xs ws Am Al x d ss zs qs lv:=
 ⟨h.pg.keepT s,s _ _ h.pap,h.ok,h.full,h.two,h.ri,h.l3,h.l4,h.m3,h.x6,h.lim,h.pos,h.up,h.nz⟩
def FP (G:Prop->Prop):Sp:=fun vs H Q _=>∃ (p c m pp o t T:Addr) (n:Nat) (xs:List Str) (ws:List A9) (Am Al:List AI) (x:V) (d:PyData) (ss:List Str) (zs:List (Str × Str)) (qs:List AI) (lv:Int),vs=[.ref p,.ref c,.ref pp]/\AG H p/\PF H c m pp o t T n xs ws Am Al x d ss zs qs lv /\
 ∀ (H':Hp) (L:Addr) (us:List V),AG H' p->AM p H H'->L ≠ p->H' L=some (.lst us)->(∀ u ∈ us,HY c m n xs ws Am Al x d G H' u)->us.length<=100->Q (.ref L) H'
def Ot:Sp:=fun vs H Q _=>∃ (p:Addr) (x:V),vs=[.ref p,x]/\AG H p/\(x=.non\/x=.int 2) /\
 ∀ (H':Hp) (c m:Addr) (n:Nat) (xs:List Str) (ws:List A9) (Am Al:List AI) (d:PyData),AG H' p->AM p H H'->Cz H' c m n xs ws Am Al x d->(∀ r ∈ Al,r.2<=4)->Cy (Am.map (·.1))->3<=Am.length->Am.length<=4->3<=Al.length->xs.length=6->(∀ y ∈ xs,y ≠ Str.ofString "zzzzzz")->Q (.ref c) H'
def Gk (bb:Bool) (h:Heap) (l:Addr) (ys:Array Value):Prop:=match bb with | true=>h.IsTuple l ys | false=>h.IsList l ys
def J1 (bb:Bool) (h:Heap) (i l:Addr) (k:Nat):Prop:=match bb with | true=>h.IsTupleIter i l k | false=>h.IsListIter i l k
def itN:Bool->String | true=>"tuple_iterator" | false=>"list_iterator"
def VH (K:eV) (bb:Bool) (H:Hp) (a:Addr) (xs:List V):Prop:=match bb with | true=>Az K H a xs | false=>Ba K H a xs
section
variable {bb:Bool} {h h':Heap} {a b i l:Addr} {k:Nat} {items:Array Value}
theorem Gk.extBut (x:Gk bb h a items) (hs:Heap.ExtBut b h h') (hab:a ≠ b):Gk bb h' a items:=by
 cases bb
 ·exact Heap.IsList.extBut x hs hab
 ·exact Heap.IsTuple.extBut x hs hab
theorem J1.extBut (x:J1 bb h i l k) (hs:Heap.ExtBut b h h') (hab:i ≠ b):J1 bb h' i l k:=by
 cases bb
 ·exact Heap.IsListIter.extBut x hs hab
 ·exact Heap.IsTupleIter.extBut x hs hab
theorem J1.at (x:J1 bb h i l k) (e:∀ o,h.get? i=some o->h'.get? i=some o):J1 bb h' i l k:=by
 cases bb
 ·exact Heap.IsListIter.at x e
 ·exact Dw x e
theorem J1.ex (x:J1 bb h i l k):∃ o,h.get? i=some o/\o.data=.fields #[.ref l,rawInt k]:=by
 cases bb
 ·obtain ⟨o,e,_,d⟩:=x; exact ⟨o,e,d⟩
 ·obtain ⟨o,e,_,d⟩:=x; exact ⟨o,e,d⟩
theorem J1.lt (x:J1 bb h i l k):i < h.objs.size:=let ⟨_,e,_⟩:=x.ex; fb e
theorem Gk.lt (x:Gk bb h a items):a < h.objs.size:=by
 cases bb
 ·obtain ⟨_,e,_⟩:=x; exact fb e
 ·obtain ⟨_,e,_⟩:=x; exact fb e
end
theorem As.seqB {X:Cx} {pins:List (Addr × Obj)} {σ:St} {H:Hp} {s:Shared} {bb:Bool} {a:Addr} {xs:List V} (I:As X pins σ H s) (h:VH X.K bb H a xs):∃ Ar:List Value,AB xs Ar/\Gk bb s.heap a Ar.toArray/\xs.length<=sizeLine:=by
 cases bb
 ·obtain ⟨Ar,r,p,z⟩:=I.list h; exact ⟨Ar,r,p.isList,z⟩
 ·obtain ⟨Ar,r,p,z⟩:=I.tuple h; exact ⟨Ar,r,p,z⟩
theorem As.seqB_inj {X:Cx} {pins:List (Addr × Obj)} {σ:St} {H:Hp} {s:Shared} {bb:Bool} {a:Addr} {xs ys:List V} (I:As X pins σ H s) (h:VH X.K bb H a xs) (h':VH X.K bb H a ys):xs=ys:=by
 cases bb
 ·exact I.list_inj h h'
 ·exact I.tuple_inj h h'
section
variable {prog:Program} {w:World} {A:Around} {E:Value->Shared->Prop} {s:Shared}
theorem Lj {bb:Bool} {it l:Addr} {i:Nat} {items} {x:Value} {Q:Value->Shared->Prop} (hit:J1 bb s.heap it l i) (hl:Gk bb s.heap l items) (hx:items[i]? = some x)
  (hQ:∀ h',J1 bb h' it l (i + 1)->Heap.SameBut it s.heap h'->Q x { s with heap:=h' }):wpAny (model prog w) A (Builtin.SmallTypes.nextOf (.ref it)) Q E s:=by
 cases bb
 ·exact wpAny_nextOf_list_item hit hl hx hQ
 ·exact Cu hit hl hx hQ
theorem Mr {bb:Bool} {it l:Addr} {i:Nat} {items} {Q:Value->Shared->Prop} (hh:A.handled=none) (hit:J1 bb s.heap it l i) (hl:Gk bb s.heap l items) (hx:items[i]? = none)
  (hE:∀ h' e,Heap.ExtBut it s.heap h'->(∃ o,h'.get? e=some o/\o.cls=.type "StopIteration")->E (.ref e) { s with heap:=h' }):wpAny (model prog w) A (Builtin.SmallTypes.nextOf (.ref it)) Q E s:=by
 cases bb
 ·exact wpAny_nextOf_list_end hh hit hl hx hE
 ·exact Eg hh hit hl hx hE
theorem Io {bb:Bool} {z TI TO i1 i2 l1 l2:Addr} {k1 k2:Nat} {xs ys:Array Value} {x y a b:Value} {Q:Value->Shared->Prop} (D:ZipApart z TI TO i1 i2 l1 l2)
  (hz:IsZip s.heap z TI TO .none) (hTI:IsPair s.heap TI (.ref i1) (.ref i2)) (hTO:IsPair s.heap TO a b)
  (h1:s.heap.IsTupleIter i1 l1 k1) (h2:J1 bb s.heap i2 l2 k2) (JK:s.heap.IsTuple l1 xs) (Jz:Gk bb s.heap l2 ys) (hx:xs[k1]? = some x) (hy:ys[k2]? = some y)
  (hQ:∀ h',IsZip h' z TI TO (rawInt s.heap.objs.size)->IsPair h' TO x y->h'.IsTupleIter i1 l1 (k1 + 1)->J1 bb h' i2 l2 (k2 + 1)->IsPair h' s.heap.objs.size x y->h'.objs.size=s.heap.objs.size + 1 ->
   (∀ c o,c ≠ z->c ≠ TO->c ≠ i1->c ≠ i2->s.heap.get? c=some o->h'.get? c=some o)->Q (.ref s.heap.objs.size) { s with heap:=h' }) :
  wpAny (model prog w) A (Builtin.«zip.__next__» ⟨[.ref z],[]⟩) (fun fin s'=>∃ v,fin=.done (.ret v)/\Q v s') E s:=by
 show wpAny _ _ (field (.ref z) 2 >>= _) _ _ _
 refine wpAny_bind (wpAny_field hz rfl (x:=.bool false) rfl ?_);show wpAny _ _ (field (.ref z) 3 >>= _) _ _ _
 refine wpAny_bind (wpAny_field hz rfl (x:=.ref TI) rfl ?_);refine wpAny_bind (wpAny_seqItems hTI rfl ?_);show wpAny _ _ (Builtin.SmallTypes.ownedTupleIsFree (.ref z) >>= _) _ _ _
 refine wpAny_bind ?_;unfold Builtin.SmallTypes.ownedTupleIsFree;refine wpAny_bind (wpAny_field hz rfl (x:=.none) rfl (wpAny_pure ?_));simp only [if_true];refine wpAny_bind (wpAny_rule ?_);refine wpAny_bind (wpAny_field hz rfl (x:=.ref TO) rfl ?_);refine wpAny_bind (wpAny_setField_rec hz (by simp) fun Bd Hz CB=>?_);replace Hz:IsZip Bd z TI TO .ellipsis:=Hz;refine wpAny_bind ?_;simp only [kQ,kU,kW,jH];refine wpAny_bind (wpAny_bind (wpAny_onRaise ?_));show wpAny _ _ (Builtin.SmallTypes.nextOf (.ref i1) >>= _) _ _ _
 refine wpAny_bind (Cu (h1.extBut CB.extBut D.i1z) (JK.extBut CB.extBut D.l1z) hx fun GQ V8 Dn=>wpAny_pure ?_);have Jf:IsPair GQ TO a b:=Dn.extBut _ _ D.TOi1 (CB.extBut _ _ D.TOz hTO);refine wpAny_bind (wpAny_seqItems Jf rfl ?_);refine wpAny_bind (wpAny_updateSeq_pair Jf fun HQ Lw DK=>?_);replace Lw:IsPair HQ TO x b:=Lw;refine wpAny_bind (wpAny_letGo (wpAny_pure ?_));refine wpAny_bind (wpAny_bind (wpAny_onRaise ?_));show wpAny _ _ (Builtin.SmallTypes.nextOf (.ref i2) >>= _) _ _ _
 refine wpAny_bind (Lj (((h2.extBut CB.extBut D.i2z).extBut Dn.extBut D.i12.symm).extBut DK.extBut D.TOi2.symm)
  (((Jz.extBut CB.extBut D.l2z).extBut Dn.extBut D.l2i1).extBut DK.extBut D.l2TO) hy fun N1 ZR HC=>wpAny_pure ?_)
 have Sm:IsPair N1 TO x b:=HC.extBut _ _ D.TOi2 Lw;refine wpAny_bind (wpAny_seqItems Sm rfl ?_);refine wpAny_bind (wpAny_updateSeq_pair Sm fun CT Je HA=>?_);replace Je:IsPair CT TO x y:=Je;refine wpAny_bind (wpAny_letGo (wpAny_pure (wpAny_pure ?_)));refine wpAny_bind (wpAny_seqItems Je rfl ?_);refine wpAny_bind (wpAny_newTuple ?_);have hsz:CT.objs.size=s.heap.objs.size:=by rw [HA.1,HC.1,DK.1,Dn.1,CB.1]
 have Vk:IsZip CT z TI TO .ellipsis:=HA.extBut _ _ D.TOz.symm (HC.extBut _ _ D.i2z.symm (DK.extBut _ _ D.TOz.symm (Dn.extBut _ _ D.i1z.symm Hz)));have Zw:∀ c o,c ≠ z->c ≠ TO->c ≠ i1->c ≠ i2->s.heap.get? c=some o->CT.get? c=some o:=fun c o c1 c2 c3 c4 e=>
  HA.extBut _ _ c2 (HC.extBut _ _ c4 (DK.extBut _ _ c2 (Dn.extBut _ _ c3 (CB.extBut _ _ c1 e))))
 have V7:CT.IsTupleIter i1 l1 (k1 + 1):=((V8.extBut DK.extBut D.TOi1.symm).extBut HC.extBut D.i12).extBut HA.extBut D.TOi1.symm;have V6:J1 bb CT i2 l2 (k2 + 1):=ZR.extBut HA.extBut D.TOi2.symm;have hzlt:z < CT.objs.size:=fb Vk;have hTOlt:TO < CT.objs.size:=fb Je;have hi1lt:i1 < CT.objs.size:=by obtain ⟨_,e,_⟩:=V7; exact fb e
 have hi2lt:i2 < CT.objs.size:=V6.lt;show wpAny _ _ (Builtin.SmallTypes.ownedTupleHandOut (.ref z) (.ref CT.objs.size) >>= _) _ _ _
 refine wpAny_bind ?_;unfold Builtin.SmallTypes.ownedTupleHandOut;have YY:IsZip (CT.push { cls:=.type "tuple",data:=.seq #[x,y] }) z TI TO .ellipsis:=eT _ Vk;refine wpAny_bind (wpAny_setField_rec YY (by simp) fun cK Sf Sh=>?_);replace Sf:IsZip cK z TI TO (rawInt CT.objs.size):=Sf;refine wpAny_setField_rec Sf (by simp) fun Sd OF Sg=>?_
 replace OF:IsZip Sd z TI TO (rawInt CT.objs.size):=OF;have up:∀ c o,c ≠ z->CT.get? c=some o->Sd.get? c=some o:=fun c o c1 e=>Sg.extBut _ _ c1 (Sh.extBut _ _ c1 (eT _ e))
 have Vw:IsPair Sd CT.objs.size x y:=Sg.extBut _ _ (gB hzlt) (Sh.extBut _ _ (gB hzlt) (fe _ rfl));have hz8:Sd.objs.size=CT.objs.size + 1:=by rw [Sg.1,Sh.1,gh]
 rw [hsz] at OF Vw hz8;refine wpAny_pure ⟨_,rfl,?_⟩;show Q (.ref CT.objs.size) _
 rw [hsz];exact hQ Sd OF (up _ _ D.TOz Je) (V7.at fun o e=>up _ o D.i1z e) (V6.at fun o e=>up _ o D.i2z e) Vw hz8 fun c o c1 c2 c3 c4 e=>up c o c1 (Zw c o c1 c2 c3 c4 e)
theorem J3 {bb:Bool} {z TI TO i1 i2 l1 l2:Addr} {k1 k2:Nat} {xs ys:Array Value} {a b:Value} {Q:Fin->Shared->Prop} (hh:A.handled=none) (D:ZipApart z TI TO i1 i2 l1 l2)
  (hz:IsZip s.heap z TI TO .none) (hTI:IsPair s.heap TI (.ref i1) (.ref i2)) (hTO:IsPair s.heap TO a b)
  (h1:s.heap.IsTupleIter i1 l1 k1) (h2:J1 bb s.heap i2 l2 k2) (JK:s.heap.IsTuple l1 xs) (Jz:Gk bb s.heap l2 ys) (hend:xs[k1]? = none\/ys[k2]? = none)
  (hE:∀ h' e,(∀ c o,c ≠ z->c ≠ TO->c ≠ i1->c ≠ i2->s.heap.get? c=some o->h'.get? c=some o)->(∃ o,h'.get? e=some o/\o.cls=.type "StopIteration")->E (.ref e) { s with heap:=h' }) :
  wpAny (model prog w) A (Builtin.«zip.__next__» ⟨[.ref z],[]⟩) Q E s:=by
 show wpAny _ _ (field (.ref z) 2 >>= _) _ _ _
 refine wpAny_bind (wpAny_field hz rfl (x:=.bool false) rfl ?_);show wpAny _ _ (field (.ref z) 3 >>= _) _ _ _
 refine wpAny_bind (wpAny_field hz rfl (x:=.ref TI) rfl ?_);refine wpAny_bind (wpAny_seqItems hTI rfl ?_);show wpAny _ _ (Builtin.SmallTypes.ownedTupleIsFree (.ref z) >>= _) _ _ _
 refine wpAny_bind ?_;unfold Builtin.SmallTypes.ownedTupleIsFree;refine wpAny_bind (wpAny_field hz rfl (x:=.none) rfl (wpAny_pure ?_));simp only [if_true];refine wpAny_bind (wpAny_rule ?_);refine wpAny_bind (wpAny_field hz rfl (x:=.ref TO) rfl ?_);refine wpAny_bind (wpAny_setField_rec hz (by simp) fun Bd Hz CB=>?_);replace Hz:IsZip Bd z TI TO .ellipsis:=Hz;refine wpAny_bind ?_;simp only [kQ,kU,kW,jH];refine wpAny_bind (wpAny_bind (wpAny_onRaise ?_));show wpAny _ _ (Builtin.SmallTypes.nextOf (.ref i1) >>= _) _ _ _
 cases hx:xs[k1]? with
 | none=>
  refine wpAny_bind (Eg hh (h1.extBut CB.extBut D.i1z) (JK.extBut CB.extBut D.l1z) hx fun GQ e Dn he=>?_);obtain ⟨oe,hoe,hce⟩:=he;have Vm:IsZip GQ z TI TO .ellipsis:=Dn _ _ D.i1z.symm Hz;have hez:e ≠ z:=fun x=>by subst x; rw [Vm] at hoe; cases hoe; simp at hce
  refine wpAny_setField_rec Vm (by simp) fun HQ _ DK=>hE HQ e (fun c o c1 _ c3 _ x=>DK.extBut _ _ c1 (Dn _ _ c3 (CB.extBut _ _ c1 x))) ⟨oe,DK.extBut _ _ hez hoe,hce⟩
 | some x=>
  have hy:ys[k2]? = none:=by rcases hend with h | h; rw [hx] at h; cases h; exact h
  refine wpAny_bind (Cu (h1.extBut CB.extBut D.i1z) (JK.extBut CB.extBut D.l1z) hx fun GQ V8 Dn=>wpAny_pure ?_);have Jf:IsPair GQ TO a b:=Dn.extBut _ _ D.TOi1 (CB.extBut _ _ D.TOz hTO);refine wpAny_bind (wpAny_seqItems Jf rfl ?_);refine wpAny_bind (wpAny_updateSeq_pair Jf fun HQ Lw DK=>?_);refine wpAny_bind (wpAny_letGo (wpAny_pure ?_));refine wpAny_bind (wpAny_bind (wpAny_onRaise ?_));show wpAny _ _ (Builtin.SmallTypes.nextOf (.ref i2) >>= _) _ _ _
  refine wpAny_bind (Mr hh (((h2.extBut CB.extBut D.i2z).extBut Dn.extBut D.i12.symm).extBut DK.extBut D.TOi2.symm)
   (((Jz.extBut CB.extBut D.l2z).extBut Dn.extBut D.l2i1).extBut DK.extBut D.l2TO) hy fun N1 e HC he=>?_)
  obtain ⟨oe,hoe,hce⟩:=he;have Vl:IsZip N1 z TI TO .ellipsis:=HC _ _ D.i2z.symm (DK.extBut _ _ D.TOz.symm (Dn.extBut _ _ D.i1z.symm Hz));have hez:e ≠ z:=fun x=>by subst x; rw [Vl] at hoe; cases hoe; simp at hce
  refine wpAny_setField_rec Vl (by simp) fun CT _ HA=>hE CT e (fun c o c1 c2 c3 c4 x=>HA.extBut _ _ c1 (HC _ _ c4 (DK.extBut _ _ c2 (Dn.extBut _ _ c3 (CB.extBut _ _ c1 x))))) ⟨oe,HA.extBut _ _ hez hoe,hce⟩
theorem G4 {bb:Bool} {z TI TO i1 i2 l1 l2:Addr} {k1 k2:Nat} {xs ys:Array Value} {x y a b:Value} {Q:Option Value->Shared->Prop} (D:ZipApart z TI TO i1 i2 l1 l2)
  (hz:IsZip s.heap z TI TO .none) (hTI:IsPair s.heap TI (.ref i1) (.ref i2)) (hTO:IsPair s.heap TO a b)
  (h1:s.heap.IsTupleIter i1 l1 k1) (h2:J1 bb s.heap i2 l2 k2) (JK:s.heap.IsTuple l1 xs) (Jz:Gk bb s.heap l2 ys) (hx:xs[k1]? = some x) (hy:ys[k2]? = some y)
  (hQ:∀ h',IsZip h' z TI TO (rawInt s.heap.objs.size)->IsPair h' TO x y->h'.IsTupleIter i1 l1 (k1 + 1)->J1 bb h' i2 l2 (k2 + 1)->IsPair h' s.heap.objs.size x y->h'.objs.size=s.heap.objs.size + 1 ->
   (∀ c o,c ≠ z->c ≠ TO->c ≠ i1->c ≠ i2->s.heap.get? c=some o->h'.get? c=some o)->Q (some (.ref s.heap.objs.size)) { s with heap:=h' }) :
  wpAny (model prog w) A (pyNext (.ref z)) Q E s:=by
 have hT:s.TypeIs (.ref z) "zip":=⟨_,hz,rfl⟩
 unfold pyNext;exact wpAny_bind (wpAny_attempt (wpAny_callSpecial?_slot (name:=Str.ofString "__next__") hT F.slot_zip_next
  (wpAny_call_entry F.slot_zip_next hT F.entry_zip_next
   (Io D hz hTI hTO h1 h2 JK Jz hx hy fun h' a1 a2 a3 a4 a5 a6 a7=>wpAny_pure (hQ h' a1 a2 a3 a4 a5 a6 a7)) (F.args_zip_next_1 _))))
theorem HM {bb:Bool} {z TI TO i1 i2 l1 l2:Addr} {k1 k2:Nat} {xs ys:Array Value} {a b:Value} {Q:Option Value->Shared->Prop} (hh:A.handled=none) (D:ZipApart z TI TO i1 i2 l1 l2)
  (hz:IsZip s.heap z TI TO .none) (hTI:IsPair s.heap TI (.ref i1) (.ref i2)) (hTO:IsPair s.heap TO a b)
  (h1:s.heap.IsTupleIter i1 l1 k1) (h2:J1 bb s.heap i2 l2 k2) (JK:s.heap.IsTuple l1 xs) (Jz:Gk bb s.heap l2 ys) (hend:xs[k1]? = none\/ys[k2]? = none)
  (hQ:∀ h',(∀ c o,c ≠ z->c ≠ TO->c ≠ i1->c ≠ i2->s.heap.get? c=some o->h'.get? c=some o)->Q none { s with heap:=h' }):wpAny (model prog w) A (pyNext (.ref z)) Q E s:=by
 have hT:s.TypeIs (.ref z) "zip":=⟨_,hz,rfl⟩
 unfold pyNext;refine wpAny_bind (wpAny_attempt (wpAny_callSpecial?_slot (name:=Str.ofString "__next__") hT F.slot_zip_next
  (wpAny_call_entry F.slot_zip_next hT F.entry_zip_next (J3 hh D hz hTI hTO h1 h2 JK Jz hend fun h' e hk he=>?_) (F.args_zip_next_1 _))))
 obtain ⟨o,ho,hc⟩:=he;refine wpAny_bind (wpAny_isInstance (T:="StopIteration") (b:=true) ⟨o,ho,hc⟩ isSubtype_stop ?_);exact wpAny_pure (hQ _ hk)
end
abbrev Oa (h:Heap) (l1:Addr):Heap:=h.push { cls:=.type "tuple_iterator",data:=.fields #[.ref l1,.int 0 0] }
abbrev NZ (bb:Bool) (h:Heap) (l1 l2:Addr):Heap:=(Oa h l1).push { cls:=.type (itN bb),data:=.fields #[.ref l2,.int 0 0] }
abbrev NY (bb:Bool) (h:Heap) (l1 l2:Addr):Heap:=(NZ bb h l1 l2).push { cls:=.type "tuple",data:=.seq #[.ref h.objs.size,.ref (Oa h l1).objs.size] }
abbrev NX (bb:Bool) (h:Heap) (l1 l2:Addr):Heap:=(NY bb h l1 l2).push { cls:=.type "tuple",data:=.seq #[.none,.none] }
abbrev Im (bb:Bool) (h:Heap) (l1 l2:Addr):Heap:=(NX bb h l1 l2).push { cls:=.type "zip",data:=.fields #[.none,.bool false,.bool false,.ref (NZ bb h l1 l2).objs.size,.ref (NY bb h l1 l2).objs.size] }
theorem IX (bb:Bool) (l1 l2:Addr) (xs ys:Array Value) :
  Meets (Builtin.«zip.__new__» ⟨[.type "zip",.ref l1,.ref l2],[]⟩) (fun _ R s=>s.heap.IsTuple l1 xs/\Gk bb s.heap l2 ys /\
   R (.ok (.ret (.ref (NX bb s.heap l1 l2).objs.size))) { s with heap:=Im bb s.heap l1 l2 }):=
 .of_wp fun prog w A R s h=>by
  obtain ⟨hp,g,d,tk,os⟩:=s; obtain ⟨JK,Jz,h⟩:=h;have hsub:=sub_zip;have hL1:Heap.IsTuple (Shared.heap ⟨hp,g,d,tk,os⟩) l1 xs:=JK;cases bb
  ·have Sq:Heap.IsList (Shared.heap ⟨hp.push { cls:=.type "tuple_iterator",data:=.fields #[.ref l1,.int 0 0] },g,d,tk,os⟩) l2 ys:=Heap.IsList.push Jz _;wp_walk using wpAny_pyIter_tuple hL1,wpAny_pyIter_list Sq;exact ⟨_,rfl,h⟩
  ·have Sq:Heap.IsTuple (Shared.heap ⟨hp.push { cls:=.type "tuple_iterator",data:=.fields #[.ref l1,.int 0 0] },g,d,tk,os⟩) l2 ys:=Heap.IsTuple.push Jz _;wp_walk using wpAny_pyIter_tuple hL1,wpAny_pyIter_tuple Sq;exact ⟨_,rfl,h⟩
section
variable {prog:Program} {w:World} {A:Around} {E:Value->Shared->Prop} {s:Shared}
theorem Qu {bb:Bool} {l1 l2:Addr} {xs ys:Array Value} {Q:Value->Shared->Prop} (JK:s.heap.IsTuple l1 xs) (Jz:Gk bb s.heap l2 ys)
  (h:∀ h',IsZip h' (s.heap.objs.size + 4) (s.heap.objs.size + 2) (s.heap.objs.size + 3) .none->IsPair h' (s.heap.objs.size + 2) (.ref s.heap.objs.size) (.ref (s.heap.objs.size + 1)) ->
   IsPair h' (s.heap.objs.size + 3) .none .none->h'.IsTupleIter s.heap.objs.size l1 0->J1 bb h' (s.heap.objs.size + 1) l2 0->h'.objs.size=s.heap.objs.size + 5 ->
   (∀ c o,s.heap.get? c=some o->h'.get? c=some o)->Q (.ref (s.heap.objs.size + 4)) { s with heap:=h' }) :
  wpAny (model prog w) A (call (.type "zip") [.ref l1,.ref l2]) Q E s:=by
 refine callType_new F.called_zip (by decide) (F.typeCall_zip_2 _ _) (F.newCall_zip_2 _ _) (fun obj=>F.args_object_init_3 obj _ _) F.entry_zip_new
  (IX bb l1 l2 xs ys) ⟨JK,Jz,?_⟩
 have z1:(Oa s.heap l1).objs.size=s.heap.objs.size + 1:=gh ..;have z2:(NZ bb s.heap l1 l2).objs.size=s.heap.objs.size + 2:=by rw [gh,z1]
 have z3:(NY bb s.heap l1 l2).objs.size=s.heap.objs.size + 3:=by rw [gh,z2]
 have z4:(NX bb s.heap l1 l2).objs.size=s.heap.objs.size + 4:=by rw [gh,z3]
 have z5:(Im bb s.heap l1 l2).objs.size=s.heap.objs.size + 5:=by rw [gh,z4]
 have g5:(Im bb s.heap l1 l2).get? (NX bb s.heap l1 l2).objs.size=some _:=fe _ rfl;have g4:(Im bb s.heap l1 l2).get? (NY bb s.heap l1 l2).objs.size=some _:=eT _ (fe _ rfl);have g3:(Im bb s.heap l1 l2).get? (NZ bb s.heap l1 l2).objs.size=some _:=eT _ (eT _ (fe _ rfl));have g2:(Im bb s.heap l1 l2).get? (Oa s.heap l1).objs.size=some _:=eT _ (eT _ (eT _ (fe _ rfl)));have g1:(Im bb s.heap l1 l2).get? s.heap.objs.size=some _:=eT _ (eT _ (eT _ (eT _ (fe _ rfl))));show _/\_
 rw [z2,z3,z4] at g5;rw [z1,z2] at g3;rw [z3] at g4;rw [z1] at g2;rw [z4];exact ⟨⟨_,g5,rfl⟩,h _ g5 g3 g4 ⟨_,g1,rfl,rfl⟩ (by cases bb <;> exact ⟨_,g2,rfl,rfl⟩) z5 fun c o x=>
  eT _ (eT _ (eT _ (eT _ (eT _ x))))⟩
end
def SO (K:eV) (bb:Bool) (a b:Addr):It:=
 ⟨fun i H=>∃ xs ys x y,Az K H a xs/\VH K bb H b ys/\xs[i]? = some x/\ys[i]? = some y,
   fun i H v H'=>∃ T x y,H T=none/\v=.ref T/\H'=upd H T (.tup [x,y])/\(∀ xs,Az K H a xs->xs[i]? = some x)/\(∀ ys,VH K bb H b ys->ys[i]? = some y),
   fun i H=>∃ xs ys,Az K H a xs/\VH K bb H b ys/\(xs.length<=i\/ys.length<=i)⟩
theorem Pc {bb:Bool} {P:Program} {w:World} {K:eV} {es:List Expr} {x1} {pos:Pos} (a b z TI TO i1 i2:Addr) (D:ZipApart z TI TO i1 i2 a b) :
  MI P w K (.Tuple es x1 pos) (SO K bb a b) [z,TI,TO,i1,i2] z (fun i h=>IsZip h z TI TO .none/\IsPair h TI (.ref i1) (.ref i2)/\(∃ c d,IsPair h TO c d)/\h.IsTupleIter i1 a i/\J1 bb h i2 b i) where
 mem:=by simp
 obj:=fun i h st c hc=>by
  obtain ⟨h1,h2,⟨_,_,h3⟩,⟨o4,e4,c4,d4⟩,h5⟩:=st;obtain ⟨o5,e5,d5⟩:=h5.ex;simp only [eX,ff,or_false] at hc;rcases hc with rfl | rfl | rfl | rfl | rfl
  ·exact ⟨_,h1,fun v q=>by cases q⟩
  ·exact ⟨_,h2,fun v q=>by cases q⟩
  ·exact ⟨_,h3,fun v q=>by cases q⟩
  ·exact ⟨_,e4,fun v q=>by rw [d4] at q; cases q⟩
  ·exact ⟨_,e5,fun v q=>by rw [d5] at q; cases q⟩
 keep:=fun i h h' st k=>by
  obtain ⟨h1,h2,⟨c,d,h3⟩,h4,h5⟩:=st;exact ⟨k _ (by simp) _ h1,k _ (by simp) _ h2,⟨c,d,k _ (by simp) _ h3⟩,Dw h4 fun o e=>k _ (by simp) _ e,h5.at fun o e=>k _ (by simp) o e⟩
 item:=by
  intro X hP hw hK hc i pins s σ H E I hf st hg;subst hP hw hK;obtain ⟨xs,ys,x,y,hq,Yi,hx,hy⟩:=hg;obtain ⟨Ar,rv,p,hz⟩:=I.tuple hq;obtain ⟨JJ,XX,p2,cN⟩:=I.seqB Yi;obtain ⟨u,hu,ru⟩:=rv.get hx;obtain ⟨u2,aT,ru2⟩:=XX.get hy;obtain ⟨h1,h2,⟨c,d,h3⟩,h4,h5⟩:=st;refine G4 D h1 h2 h3 h4 h5 (show s.heap.IsTuple a Ar.toArray from p) p2 (x:=u) (y:=u2) (by simpa using hu) (by simpa using aT) fun h' g1 g2 g3 g4 g5 g6 g7=>?_
  have kk:∀ b' o,b' ∉ [z,TI,TO,i1,i2]->s.heap.get? b'=some o->h'.get? b'=some o:=fun b' o hb e=>by
   simp only [eX,ff,or_false,not_or] at hb;exact g7 b' o hb.1 hb.2.2.1 hb.2.2.2.1 hb.2.2.2.2 e
  have I1:=I.turnedT (t':=s.toks) (xs:=[x,y]) hf kk ⟨by show 2<=sizeLine; decide,[u,u2],.cons ru (.cons ru2 .nil),⟨_,g5,rfl,0,rfl⟩,fun o e=>by rw [g5] at e; cases e; rfl⟩;have hT:H s.heap.objs.size=none:=I.hok.fresh (fc _);have ltz:=fb h1;have hf1:∀ b' ∈ [z,TI,TO,i1,i2],(upd H s.heap.objs.size (.tup [x,y])) b'=none:=fun b' hb=>by
   have lt:b' < s.heap.objs.size:=by
    simp only [eX,ff,or_false] at hb;rcases hb with rfl | rfl | rfl | rfl | rfl
    ·exact fb h1
    ·exact fb h2
    ·exact fb h3
    ·obtain ⟨_,e,_⟩:=h4; exact fb e
    ·exact h5.lt
   rw [Ae (fj lt)];exact (hf b' hb).1
  refine ⟨.ref s.heap.objs.size,rfl,wpAny_letOwnedTupleGo_zip g1 fun dQ z1 sb=>?_⟩;obtain ⟨_,f1,_,f3,f4,f5⟩:=hf z (by simp);have I2:=I1.turned (t':=s.toks) (h':=dQ) (it:=z) (fun b' o hb e=>(sb.2 b' hb).trans e) (hf1 z (by simp)) f1 f3 f4 f5;have h2s:IsPair h' TI (.ref i1) (.ref i2):=g7 TI _ D.TIz D.TITO D.TIi1 D.TIi2 h2;exact ⟨.ref s.heap.objs.size,_,I2,rfl,⟨_,x,y,hT,rfl,rfl,fun av My=>by rw [I.tuple_inj My hq]; exact hx,fun XC hy'=>by rw [I.seqB_inj hy' Yi]; exact hy⟩,
   ⟨z1,(sb.2 _ D.TIz).trans h2s,⟨_,_,(sb.2 _ D.TOz).trans g2⟩,Dw g3 fun o e=>(sb.2 _ D.i1z).trans e,g4.at fun o e=>(sb.2 _ D.i2z).trans e⟩,hf1⟩
 done:=by
  intro X hP hw hK hc i pins s σ H E I hf st hg;subst hP hw hK;obtain ⟨xs,ys,hq,Yi,hx⟩:=hg;obtain ⟨Ar,rv,p,hz⟩:=I.tuple hq;obtain ⟨JJ,XX,p2,cN⟩:=I.seqB Yi;obtain ⟨h1,h2,⟨c,d,h3⟩,h4,h5⟩:=st;have e1:=rv.length;have e2:=XX.length;refine HM (I.ok.hd hc) D h1 h2 h3 h4 h5 (show s.heap.IsTuple a Ar.toArray from p) p2 ?_ fun h' g7=>⟨rfl,I.turnedL (t':=s.toks) hf fun b' o hb e=>?_⟩
  ·rcases hx with hx | hx
   ·exact .inl (by simp; lia)
   ·exact .inr (by simp; lia)
  ·simp only [eX,ff,or_false,not_or] at hb;exact g7 b' o hb.1 hb.2.2.1 hb.2.2.2.1 hb.2.2.2.2 e
 self:=fun _ _ _ _ _ st h=>wpAny_pyIter_zip st.1 h
def iZipB (K:eV) (bb:Bool) (ta:TA):TI:=fun σ H R=>ta σ H fun vs H1=>∃ a b,vs=[.ref a,.ref b]/\(∃ xs,Az K H1 a xs)/\(∃ ys,VH K bb H1 b ys)/\R (SO K bb a b) H1
theorem TQ (bb:Bool) {X:Cx} {es:List Expr} {x1} {tp:Pos} {a b:Expr} {ta:TA} {p pos:Pos} (hg:Gl X "zip") (hm:X.mg "zip"=none) (ha:PA X [a,b] ta) (hs:starEach [a,b] X.env=[(false,eval a X.env),(false,eval b X.env)]:=by rfl) (Yh:starEach [b] X.env=[(false,eval b X.env)]:=by rfl) :
  PI X (.Tuple es x1 tp) (.Call (.Name "zip" p) [a,b] [] pos) (iZipB X.K bb ta):=by
 intro pins s σ H R I h;refine Call_ (GJ I hg hm boot_zip (PyProof.Rows.callWith_type1 (Bt (ha (pos:=pos) (pins:=pins) s σ H _ I h) fun us s1 ⟨vs,H1,I1,r1,q1⟩=>?_) (by rw [hs,Yh]) (by rw [Yh]; rfl)));obtain ⟨a',b',e,⟨xs,hx⟩,⟨ys,hy⟩,q⟩:=q1;subst e;obtain ⟨Ar,rv,pt,hz⟩:=I1.tuple hx;obtain ⟨JJ,XX,pl,cN⟩:=I1.seqB hy;cases r1 with
 | cons r rr=>
  cases rr with
  | cons r' rr=>
   cases rr
   cases r
   cases r'
   have lta:a' < s1.heap.objs.size:=by obtain ⟨o,e,_⟩:=pt; exact fb e
   have ltb:b' < s1.heap.objs.size:=by exact pl.lt
   refine Qu (show s1.heap.IsTuple a' Ar.toArray from pt) pl fun h' g1 g2 g3 g4 g5 g6 g7=>?_
   have I2:As X pins σ H1 { s1 with heap:=h' }:=I1.kept (t':=s1.toks) g7;have D:ZipApart (s1.heap.objs.size + 4) (s1.heap.objs.size + 2) (s1.heap.objs.size + 3) s1.heap.objs.size (s1.heap.objs.size + 1) a' b':=by
    have la:@LT.lt Nat _ a' s1.heap.objs.size:=lta;have lb:@LT.lt Nat _ b' s1.heap.objs.size:=ltb;constructor <;> (intro z0; have z1:@Eq Nat _ _:=z0; lia)
   refine wpAny_pyIter_zip g1 ?_;refine ⟨_,_,_,_,H1,rfl,I2,Pc a' b' _ _ _ _ _ D,⟨g1,g2,⟨_,_,g3⟩,g4,g5⟩,fun c hc=>?_,q⟩;have le:s1.heap.objs.size<=c:=by
    simp only [eX,ff,or_false] at hc;rcases hc with rfl | rfl | rfl | rfl | rfl <;> first | exact Nat.le_add_right _ _ | exact fc _
   exact I1.fpOk le (I1.hok.fresh le)
theorem PB {bb:Bool} {K:eV} {a b:Addr} {xs ys:List V} {g:TG} {te:TE} {H:Hp} {σ0:St} {R:Addr->Hp->Prop} (ll:xs.length=ys.length) (I:Addr->Nat->St->Hp->List V->Prop) (big:xs.length < sizeLine)
  (h0:∀ D,H D=none->I D 0 σ0 (upd H D (.lst [])) [])
  (hs:∀ D i σ H' acc,H D=none->I D i σ H' acc->Az K H' a xs/\VH K bb H' b ys/\H' D=some (.lst acc)/\acc.length=i)
  (turn:∀ D i σ H' acc x y T (B:St->V->Hp->Prop),H D=none->xs[i]? = some x->ys[i]? = some y->H' T=none->I D i σ H' acc->(∀ A6 v H5,H5 D=some (.lst acc)->I D (i + 1) A6 (upd H5 D (.lst (acc ++ [v]))) (acc ++ [v])->B A6 v H5)->g (.ref T) σ (upd H' T (.tup [x,y])) fun A6 H3=>te A6 H3 (B A6))
  (fin:∀ D σ H' acc,H D=none->I D xs.length σ H' acc->R D H') :
  ∀ D,H D=none->∃ W:Nat->Nat->St->Hp->Prop,(∃ m,W 0 m σ0 (upd H D (.lst []))) /\
   ∀ i m Av H',W i m Av H'->((SO K bb a b).stop i H'/\R D H')\/((SO K bb a b).go i H'/\∀ x H2,(SO K bb a b).yld i H' x H2->g x Av H2 fun A6 H3=>J8 A6 H3 fun b H4=>
    if b=true then te A6 H4 (fun v H5=>∃ acc,H5 D=some (.lst acc)/\acc.length < sizeLine/\∃ m',m' < m/\W (i + 1) m' A6 (upd H5 D (.lst (acc ++ [v])))) else ∃ m',m' < m/\W (i + 1) m' A6 H4):=by
 intro D hD;exists fun i m σ H'=>m=xs.length - i/\i<=xs.length/\∃ acc,I D i σ H' acc,⟨xs.length,rfl,gr _,[],h0 D hD⟩
 rintro i m σ H' ⟨rfl,hi,acc,p⟩;obtain ⟨s1,XS,s2,s3⟩:=hs D i σ H' acc hD p;by_cases B6:i < xs.length
 ·refine .inr ⟨⟨xs,ys,xs[i],ys[i]'(by lia),s1,XS,eR B6,eR (by lia)⟩,fun x H2 y=>?_⟩;obtain ⟨T,x',y',hT,rfl,rfl,ex,ey⟩:=y;have e:∀ (F:St->V->Hp->Prop) (G:St->Hp->Prop),(fun (A6:St) (H3:Hp)=>J8 A6 H3 fun b H4=>if b=true then te A6 H4 (F A6) else G A6 H4)=fun A6 H3=>te A6 H3 (F A6):=by
   intro F G;funext A6 H3;show (if true=true then te A6 H3 (F A6) else G A6 H3)=_
   rw [if_pos rfl]
  rw [e (fun A6 v H5=>∃ acc,H5 D=some (.lst acc)/\acc.length < sizeLine/\∃ m',m' < xs.length - i/\(m'=xs.length - (i + 1)/\i + 1<=xs.length/\∃ FD,I D (i + 1) A6 (upd H5 D (.lst (acc ++ [v]))) FD)) (fun A6 H4=>∃ m',m' < xs.length - i/\(m'=xs.length - (i + 1)/\i + 1<=xs.length/\∃ FD,I D (i + 1) A6 H4 FD))];refine turn D i σ H' acc x' y' T _ hD (ex xs s1) (ey ys XS) hT p fun A6 v H5 d5 p5=>?_
  exact ⟨acc,d5,by lia,xs.length - (i + 1),by lia,rfl,B6,_,p5⟩
 ·have e:i=xs.length:=by lia
  subst e;exact .inl ⟨⟨xs,ys,s1,XS,.inl (fc _)⟩,fin D σ H' acc hD p⟩
end L2
namespace K22
open PySem L2
def top (i:Nat):Stmt:=PySem.Challenge.pw_openhouses_k22_each_condition_of_a_paper.main.body.getD i (.Pass ⟨0,0,0,0⟩)
abbrev CV:Stmt:=top 2
theorem Nh:A4 ["thing"] ["thing"] (Ap CV):=⟨rfl,rfl,rfl,by decide +kernel,rfl,by decide +kernel,by decide +kernel⟩
abbrev CM:Stmt:=top 3
theorem Fu:A4 ["things"] ["things"] (Ap CM):=⟨rfl,rfl,rfl,by decide +kernel,rfl,by decide +kernel,by decide +kernel⟩
abbrev Et:Stmt:=top 5
theorem Hn:A4 ["thing"] ["thing"] (Ap Et):=⟨rfl,rfl,rfl,by decide +kernel,rfl,by decide +kernel,by decide +kernel⟩
abbrev BH:Stmt:=top 6
theorem DW:A4 ["thing","least"] ["thing","least"] (Ap BH):=⟨rfl,rfl,rfl,by decide +kernel,rfl,by decide +kernel,by decide +kernel⟩
abbrev CJ:Stmt:=top 8
theorem Fq:A4 ["web","places","ways","beside","one","other","length"] ["web"] (Ap CJ):=⟨rfl,rfl,rfl,by decide +kernel,rfl,by decide +kernel,by decide +kernel⟩
abbrev KO:Stmt:=top 10
theorem Oy:A4 ["web","place","told"] ["web","place"] (Ap KO):=⟨rfl,rfl,rfl,by decide +kernel,rfl,by decide +kernel,by decide +kernel⟩
abbrev DA:Stmt:=top 11
theorem FQ:A4 ["case"] ["case"] (Ap DA):=⟨rfl,rfl,rfl,by decide +kernel,rfl,by decide +kernel,by decide +kernel⟩
abbrev Fd:Stmt:=top 12
theorem Iz:A4 ["web","starts","beside","reached","settled","so_far","start","here","name","by_here"] ["web","starts"] (Ap Fd):=⟨rfl,rfl,rfl,by decide +kernel,rfl,by decide +kernel,by decide +kernel⟩
abbrev CL:Stmt:=top 14
theorem Ft:A4 ["case","thing","sites"] ["case","thing"] (Ap CL):=⟨rfl,rfl,rfl,by decide +kernel,rfl,by decide +kernel,by decide +kernel⟩
abbrev C7:Stmt:=top 15
theorem EJ:A4 ["case","web","sites","folk","limit"] ["case"] (Ap C7):=⟨rfl,rfl,rfl,by decide +kernel,rfl,by decide +kernel,by decide +kernel⟩
abbrev BI:Stmt:=top 17
theorem DX:A4 ["case","thing"] ["case","thing"] (Ap BI):=⟨rfl,rfl,rfl,by decide +kernel,rfl,by decide +kernel,by decide +kernel⟩
abbrev Eu:Stmt:=top 18
theorem Ho:A4 ["thing","places"] ["thing","places"] (Ap Eu):=⟨rfl,rfl,rfl,by decide +kernel,rfl,by decide +kernel,by decide +kernel⟩
abbrev DF:Stmt:=top 19
theorem FV:A4 ["row","place"] ["row","place"] (Ap DF):=⟨rfl,rfl,rfl,by decide +kernel,rfl,by decide +kernel,by decide +kernel⟩
abbrev DG:Stmt:=top 21
theorem FX:A4 ["case","prices","away","manys"] ["case","prices","away"] (Ap DG):=⟨rfl,rfl,rfl,by decide +kernel,rfl,by decide +kernel,by decide +kernel⟩
abbrev Ib:Stmt:=top 22
theorem LY:A4 ["case","prices","levy"] ["case","prices","levy"] (Ap Ib):=⟨rfl,rfl,rfl,by decide +kernel,rfl,by decide +kernel,by decide +kernel⟩
abbrev Eo:Stmt:=top 23
theorem Hh:A4 ["case","aways","prices","levy"] ["case","aways","prices","levy"] (Ap Eo):=⟨rfl,rfl,rfl,by decide +kernel,rfl,by decide +kernel,by decide +kernel⟩
abbrev CN:Stmt:=top 24
theorem Fv:A4 ["case","thing"] ["case","thing"] (Ap CN):=⟨rfl,rfl,rfl,by decide +kernel,rfl,by decide +kernel,by decide +kernel⟩
abbrev Fg:Stmt:=top 25
theorem IB:A4 ["case","thing"] ["case","thing"] (Ap Fg):=⟨rfl,rfl,rfl,by decide +kernel,rfl,by decide +kernel,by decide +kernel⟩
abbrev Fe:Stmt:=top 27
theorem I0:A4 ["case","paper","opening","ways","prices","levy"] ["case","paper"] (Ap Fe):=⟨rfl,rfl,rfl,by decide +kernel,rfl,by decide +kernel,by decide +kernel⟩
abbrev CO:Stmt:=top 28
theorem Fw:A4 ["case","opening","thing"] ["case","opening","thing"] (Ap CO):=⟨rfl,rfl,rfl,by decide +kernel,rfl,by decide +kernel,by decide +kernel⟩
abbrev Ff:Stmt:=top 30
theorem IA:A4 ["_law_script","_law_k","_law_cell"] ["_law_script","_law_k"] (Ap Ff):=⟨rfl,rfl,rfl,by decide +kernel,rfl,by decide +kernel,by decide +kernel⟩
abbrev Bw:Stmt:=top 31
theorem Hj:A4 ["_law_pen_here","_law_many","_law_digit","_law_number"] ["_law_pen_here","_law_many"] (Ap Bw):=⟨rfl,rfl,rfl,by decide +kernel,rfl,by decide +kernel,by decide +kernel⟩
abbrev DC:Stmt:=top 32
theorem FT:A4 ["_law_pen_here","_law_many","_law_letters","_law_base","_law_at","_law_first","_law_step","_law_more","_law_found","_law_k","_law_sign"] ["_law_pen_here","_law_many"] (Ap DC):=⟨rfl,rfl,rfl,by decide +kernel,rfl,by decide +kernel,by decide +kernel⟩
abbrev Ck:Stmt:=top 33
theorem EL:A4 ["_law_pen_here","_law_names_here","_law_kind","_law_size","_law_pairs","_law_k","_law_other","_law_one"] ["_law_pen_here","_law_names_here","_law_kind"] (Ap Ck):=⟨rfl,rfl,rfl,by decide +kernel,rfl,by decide +kernel,by decide +kernel⟩
abbrev Es:Stmt:=top 36
theorem Hm:A4 ["_law_case_here","_law_places","_law_ways_here","_law_away","_law_one","_law_other","_law_length","_law_by","_law_both"] ["_law_case_here"] (Ap Es):=⟨rfl,rfl,rfl,by decide +kernel,rfl,by decide +kernel,by decide +kernel⟩
abbrev Ep:Stmt:=top 40
theorem Hk:A4 ["_law_case_here","_law_away","_law_prices_here","_law_site","_law_found","_law_place","_law_many"] ["_law_case_here","_law_away","_law_prices_here","_law_site"] (Ap Ep):=⟨rfl,rfl,rfl,by decide +kernel,rfl,by decide +kernel,by decide +kernel⟩
abbrev CK:Stmt:=top 43
theorem Fs:A4 ["_law_case_here","_law_away","_law_prices_here","_law_levy","_law_at","_law_place","_law_price","_law_many","_law_others","_law_some_here","_law_site","_law_dues"] ["_law_case_here","_law_away","_law_prices_here","_law_levy","_law_at"] (Ap CK):=⟨rfl,rfl,rfl,by decide +kernel,rfl,by decide +kernel,by decide +kernel⟩
abbrev DE:Stmt:=top 45
theorem FU:A4 ["_law_pen_here","_law_limit","_law_names_here","_law_ways_here","_law_many","_law_sites","_law_folk"] ["_law_pen_here","_law_limit"] (Ap DE):=⟨rfl,rfl,rfl,by decide +kernel,rfl,by decide +kernel,by decide +kernel⟩
abbrev Er:Stmt:=top 46
theorem Hl:A4 ["_law_case_here","_law_away","_law_levy","_law_prices_here","_law_at"] ["_law_case_here","_law_away","_law_levy"] (Ap Er):=⟨rfl,rfl,rfl,by decide +kernel,rfl,by decide +kernel,by decide +kernel⟩
abbrev C2:Stmt:=top 47
theorem Hi:A4 ["_law_rows","_law_at","_law_row"] ["_law_rows","_law_at","_law_row"] (Ap C2):=⟨rfl,rfl,rfl,by decide +kernel,rfl,by decide +kernel,by decide +kernel⟩
abbrev B8:Stmt:=top 48
theorem DM:A4 ["_law_pen_here","_law_case_here","_law_paper","_law_opening","_law_walks","_law_prices_here","_law_levy","_law_sites","_law_shut","_law_bare","_law_at","_law_found","_law_place"] ["_law_pen_here","_law_case_here","_law_paper"] (Ap B8):=⟨rfl,rfl,rfl,by decide +kernel,rfl,by decide +kernel,by decide +kernel⟩
abbrev DB:Stmt:=top 49
theorem FR:A4 ["_law_pen_here","_law_case_here","_law_paper","_law_opening","_law_walks","_law_prices_here","_law_levy","_law_at","_law_place","_law_found"] ["_law_pen_here","_law_case_here","_law_paper"] (Ap DB):=⟨rfl,rfl,rfl,by decide +kernel,rfl,by decide +kernel,by decide +kernel⟩
abbrev Rm:Stmt:=top 50
theorem Rl:A4 ["_law_script","_law_k","_law_pen_here","_law_case_here","_law_away","_law_levy","_law_sites","_law_one","_law_opening","_law_walks","_law_paper"] ["_law_script"] (Ap Rm):=⟨rfl,rfl,rfl,by decide +kernel,rfl,by decide +kernel,by decide +kernel⟩
section
variable {P:Program} {w:World} {K:eV} {mg:Str->Option Value} {base:Heap}
theorem Mp (h_int:mg "int"=none) {f:Addr} {fd:FuncData} (F:DT K "_law_fars" "_law_fars" Es f fd):A8 P w K mg base B0 1 f fd ["_law_case_here"] Oq:=by
 refine F.ok Hm (fun vs H Q E h=>?_) (fun cdv A outer s H vs Q E hr h=>?_)
 ·obtain ⟨cc,q,n,xs,ws,Am,Al,x,d,rfl,_⟩:=h;rfl
 ·obtain ⟨cc,q,n,xs,ws,Am,Al,x,d,rfl,cw,k⟩:=h;have hu:=Dm hr;have nd:=Hm.nd;have big:16000000 < sizeLine:=by decide
  have two:2<=sizeLine:=by decide
  have mw:=cw.map;have aL:=cw.n1;have Ub:=cw.n30;obtain ⟨c1,c2,Fl,FK,hcc,_⟩:=cw.ex;obtain ⟨r0,okw,pos,uni⟩:=mw.web aL Ub;obtain ⟨D,e,us,hq,hD,hE,hW⟩:=mw.at'.ex;have ends:=okw.ends;have x30:xs.length<=30:=okw.l30;have w64:=okw.l64;have wof:∀ u ∈ ws,u.1 ∈ xs/\u.2.1 ∈ xs/\u.1 ≠ u.2.1/\1<=u.2.2:=fun u hu=>⟨(ends u hu).1,(ends u hu).2,mw.apart hu,pos u hu⟩
  have hwl:us.length=ws.length:=by rw [Jo hW,eU]
  refine ⟨_,(Af (Dd (A3 (AE K rfl) (pv 0) Ag (fun _ _=>rfl)) (AX K rfl rfl (Aj (Ai (i:=1) nd rfl (Or.inl rfl)) (Aj (Ai (i:=2) nd rfl (Or.inl rfl)) AW))))
  (Af (Ax (i:=3) nd rfl (Or.inl rfl) RB)
  (Af (Cm PassesOwn.never rfl (Bc K rfl (pv 1)) (Ai (i:=4) nd rfl (Or.inl rfl))
  (Ak (Cm PassesOwn.never rfl (Bc K rfl (pv 1)) (Ai (i:=5) nd rfl (Or.inl rfl))
  (Ak (DJ hu (pv 3) (Au (Aa (pv 4) (Aa (pv 5) Ad))) (A3 (Dk K rfl) (B5 (Aa R8 (Aa Ag Ad))) (AQ Kz (by rfl) h_int PyProof.Rows.boot_int (Aa (CQ Kn (pv 4) (pv 5) (BL _)) Ad)) (fun _ _=>rfl)) rfl)))))
  (Af (Cm PassesOwn.never rfl (Bc K rfl (pv 2)) (AX K rfl rfl (Aj (Ai (i:=4) nd rfl (Or.inl rfl)) (Aj (Ai (i:=5) nd rfl (Or.inl rfl)) (Aj (Ai (i:=6) nd rfl (Or.inl rfl)) AW))))
  (Af (DJ hu (pv 3) (Au (Aa (pv 4) (Aa (pv 5) Ad))) (pv 6) rfl)
  (Ak (DJ hu (pv 3) (Au (Aa (pv 5) (Aa (pv 4) Ad))) (pv 6) rfl))))
  (Af (Cm PassesOwn.never rfl (Bc K rfl (pv 1)) (Ai (i:=7) nd rfl (Or.inl rfl))
  (Ak (Cm PassesOwn.never rfl (Bc K rfl (pv 1)) (Ai (i:=4) nd rfl (Or.inl rfl))
  (Ak (Cm PassesOwn.never rfl (Bc K rfl (pv 1)) (Ai (i:=5) nd rfl (Or.inl rfl))
  (Ak (C9 (Nm (F1 (KZ (Bl hu (pv 3) (Au (Aa (pv 4) (Aa (pv 7) Ad))) (fun _ _=>rfl)))) (O0 (F1 (KZ (Bl hu (pv 3) (Au (Aa (pv 7) (Aa (pv 5) Ad))) (fun _ _=>rfl)))))).pt
  (Af (Ax (i:=8) nd rfl (Or.inl rfl) (Aw Bg (Bl hu (pv 3) (Au (Aa (pv 4) (Aa (pv 7) Ad))) (fun _ _=>rfl)) (Bl hu (pv 3) (Au (Aa (pv 7) (Aa (pv 5) Ad))) (fun _ _=>rfl))))
  (Ak (C9 (Kh (F1 (La (Bl hu (pv 3) (Au (Aa (pv 4) (Aa (pv 5) Ad))) (fun _ _=>rfl)))) (G5 (B9 Vb (pv 8) (Bl hu (pv 3) (Au (Aa (pv 4) (Aa (pv 5) Ad))) (fun _ _=>rfl)) (BL _)))).pt
  (Ak (DJ hu (pv 3) (Au (Aa (pv 4) (Aa (pv 5) Ad))) (pv 8) rfl))
  BB)))
  BB)))))))
  (Ak (A7 (pv 3)))))))),?_⟩
  exists _,rfl,cc,_,_,_,rfl,rfl,Az.of hcc,rfl,q,_,rfl,Az.of hq,rfl,_,_,rfl,_,_,rfl,rfl;intro A hA;have V0:MV (upd H A (.dT [])) A (fun _ _=>none) 0:=⟨[],Ab,fc _,fun x y=>rfl⟩
  have nAD:∀ {b:Addr} {u:HO},H b=some u->b ≠ A:=fun z=>Ah z hA
  have strAt:∀ {i:Nat} {v:V},(xs.map V.str)[i]? = some v->∃ x,xs[i]? = some x/\v=.str x/\i < xs.length:=fun {i v} h=>by
   rw [eZ] at h;cases ex:xs[i]? with
   | none=>rw [ex] at h; cases h
   | some x=>rw [ex] at h; exact ⟨x,rfl,(fV.inj h).symm,(fh.mp ex).1⟩
  refine ⟨_,rfl,D,rfl,⟨_,Az.of (Ac hA _ _ hD)⟩,CD (xs:=xs.map V.str) (fun i σ H2=>(∃ v4 v5 v6 v7 v8,σ=[some (.ref cc),some (.ref D),some (.ref e),some (.ref A),v4,v5,v6,v7,v8])/\Aq H H2/\∃ G,MV H2 A G (i * 30)/\(∀ x y v,G x y=some v->x ∈ xs/\y ∈ xs/\v=oI (if x=y then some 0 else none))/\∀ (a:Nat) x,a < i->xs[a]? = some x->∀ y ∈ xs,∃ v,G x y=some v)
   ⟨⟨_,_,_,_,_,rfl⟩,Ac hA,_,V0.up (gr _),fun x y v h=>(by cases h),fun j x hj=>absurd hj (hV _)⟩ (fun i σ H2 _ hP=>Az.of (hP.2.1 _ _ hD)) (fun i v σ H2 hv hP rt bk N hNi=>?_) (fun σ H2 hP=>?_)⟩
  ·obtain ⟨⟨v4,v5,v6,v7,v8,rfl⟩,s2,G0,hG0,m1,m2⟩:=hP;obtain ⟨one,eone,rfl,ilt⟩:=strAt hv;refine ⟨_,rfl,D,rfl,⟨_,Az.of (s2 _ _ hD)⟩,CD (xs:=xs.map V.str) (fun j σ H3=>(∃ v5 v6 v7 v8,σ=[some (.ref cc),some (.ref D),some (.ref e),some (.ref A),some (.str one),v5,v6,v7,v8])/\Aq H H3/\∃ G,MV H3 A G (i * 30 + j)/\(∀ x y v,G x y=some v->x ∈ xs/\y ∈ xs/\v=oI (if x=y then some 0 else none))/\(∀ (a:Nat) x,a < i->xs[a]? = some x->∀ y ∈ xs,∃ v,G x y=some v)/\∀ (b:Nat) y,b < j->xs[b]? = some y->∃ v,G one y=some v)
    ⟨⟨_,_,_,_,rfl⟩,s2,G0,hG0.up (by lia),m1,m2,fun b y hb=>absurd hb (hV _)⟩ (fun i σ H3 _ hP=>Az.of (hP.2.1 _ _ hD)) (fun j v σ H3 hv hP rt bk N hNj=>?_) (fun σ H3 hP=>?_)⟩
   ·obtain ⟨⟨v5,v6,v7,v8,rfl⟩,s3,G1,bj,m3,m4,m5⟩:=hP;obtain ⟨oth,eoth,rfl,jlt⟩:=strAt hv;have cb:i * 30 + j < 16000000:=by
     have:i * 30<=30 * 30:=jo _ (by lia);lia
    refine ⟨(by show 2<=sizeLine; lia),fun L hL=>?_⟩;have q1:=Ac (o:=.lst [.non,.int 0]) hL;have Yn:(upd H3 L (.lst [.non,.int 0])) L=some (.lst [.non,.int 0]):=Ab;generalize upd H3 L (.lst [.non,.int 0])=H4 at q1 Yn ⊢;have ix:Gu [V.non,.int 0] (if decide (V.str one=V.str oth)=true then 1 else 0)=some (oI (if one=oth then some 0 else none)):=by
     by_cases z:one=oth
     ·subst z;rw [if_pos (decide_eq_true rfl),if_pos rfl];rfl
     ·rw [if_neg (fun h=>z (by have:=of_decide_eq_true h; injection this)),if_neg z];rfl
    refine ⟨_,rfl,_,rfl,rfl,.inr ⟨_,rfl,L,_,_,_,rfl,rfl,Ba.of Yn,ix,?_⟩⟩;refine ⟨_,rfl,_,rfl,_,rfl,two,fun t ht=>?_⟩;have q2:=q1.trans (Ac (o:=.tup [.str one,.str oth]) ht);obtain ⟨H5,dp,hG5,kvs,e5⟩:=(bj.same q2).put (by lia) (v:=oI (if one=oth then some 0 else none)) (t:=t) (x:=one) (y:=oth) Ab;refine ⟨A,H5,rfl,dp,hNj _ _ ⟨⟨_,_,_,_,rfl⟩,fun b u z=>?_,_,hG5.up (by lia),fun x y v h=>?_,fun a x ha ex y hy=>?_,fun b y hb ey=>?_⟩⟩
    ·rw [e5,Ae (nAD z)];exact q2 _ _ (s3 _ _ z)
    ·unfold Ng at h;split at h
     ·rename_i hc
      obtain ⟨rfl,rfl⟩:=hc;cases h
      exact ⟨eW eone,eW eoth,rfl⟩
     ·exact m3 x y v h
    ·unfold Ng;split
     ·exact ⟨_,rfl⟩
     ·exact m4 a x ha ex y hy
    ·unfold Ng;split
     ·exact ⟨_,rfl⟩
     ·rename_i hc
      refine m5 b y ?_ ey;have:b ≠ j:=by
       rintro rfl;rw [eoth] at ey;exact hc ⟨rfl,(fV.inj ey).symm⟩
      lia
   ·obtain ⟨⟨v5,v6,v7,v8,rfl⟩,s3,G1,bj,m3,m4,m5⟩:=hP;rw [eU] at bj m5;refine hNi _ _ ⟨⟨_,_,_,_,_,rfl⟩,s3,G1,bj.up (by lia),m3,fun a x ha ex y hy=>?_⟩;by_cases ea:a=i
    ·subst ea;rw [eone] at ex;cases ex
     obtain ⟨b,hb,eb⟩:=fY hy;exact m5 b y hb (by rw [eR hb,eb])
    ·exact m4 a x (by lia) ex y hy
  obtain ⟨⟨v4,v5,v6,v7,v8,rfl⟩,s2,G,hG,m1,m2⟩:=hP;rw [eU] at hG m2;obtain ⟨M,hMe⟩:∃ M:Str->Str->Option Int,M=fun x y=>if x=y/\x ∈ xs then some 0 else none:=⟨_,rfl⟩
  have hM:MO H2 A xs M 1000:=by
   refine ⟨G,hG.up (by lia),fun x hx y hy=>?_,fun x y hn=>?_⟩
   ·obtain ⟨a,ha,ea⟩:=fY hx;obtain ⟨v,hv⟩:=m2 a x ha (by rw [eR ha,ea]) y hy;rw [hv,(m1 x y v hv).2.2,hMe];by_cases z:x=y
    ·rw [if_pos z];show _=some (oI (if x=y/\x ∈ xs then some 0 else none))
     rw [if_pos ⟨z,hx⟩]
    ·rw [if_neg z];show _=some (oI (if x=y/\x ∈ xs then some 0 else none))
     rw [if_neg (fun h=>z h.1)]
   ·cases hg:G x y with
    | none=>rfl
    | some v=>exact absurd ⟨(m1 x y v hg).1,(m1 x y v hg).2.1⟩ hn
  have m1:∀ x y n,M x y=some n->x=y/\n=0:=fun x y n h=>by
   rw [hMe] at h;dsimp only at h;split at h
   ·rename_i hc
    cases h
    exact ⟨hc.1,rfl⟩
   ·cases h
  have aa:∀ x ∈ xs,M x x=some 0:=fun x hx=>by
   rw [hMe];exact if_pos ⟨rfl,hx⟩
  refine ⟨_,rfl,e,rfl,⟨_,Az.of (s2 _ _ hE)⟩,CD (xs:=us) (fun i σ H3=>(∃ v4 v5 v6 v7 v8,σ=[some (.ref cc),some (.ref D),some (.ref e),some (.ref A),v4,v5,v6,v7,v8])/\Aq H H3/\∃ M,MO H3 A xs M (1000 + 2 * i)/\(∀ x y n,M x y=some n->(x=y/\n=0)\/BV ws x y n)/\(∀ x ∈ xs,M x x=some 0)/\∀ x y n,BV (ws.take i) x y n->M x y=some n)
   ⟨⟨_,_,_,_,_,rfl⟩,s2,M,(hM.up (by lia)),fun x y n h=>.inl (m1 x y n h),aa,fun x y n h=>(by obtain ⟨u,hu,_⟩:=h; exact absurd hu ff)⟩ (fun i σ H3 _ hP=>Az.of (hP.2.1 _ _ hE)) (fun i v σ H3 hv hP rt bk N hN=>?_) (fun σ H3 hP=>?_)⟩
  ·obtain ⟨⟨v4,v5,v6,v7,v8,rfl⟩,s3,M,hM,n1,n2,n3⟩:=hP;obtain ⟨u,tt,gu,rfl,htt⟩:=Gg hW hv;have um:=eW gu;have une:u.1 ≠ u.2.1:=(wof u um).2.2.1;have hi:i < ws.length:=(fh.mp gu).1;exists tt,_,rfl,Az.of (s3 _ _ htt),rfl,_,_,rfl,_,_,rfl,_,_,rfl,rfl;refine ⟨_,rfl,_,rfl,_,rfl,_,rfl,two,fun t ht=>?_⟩;obtain ⟨H4,dp,bh,kvs,e4⟩:=(hM.same (Ac (o:=.tup [.str u.1,.str u.2.1]) ht)).put (by lia) (wof u um).1 (wof u um).2.1 (n:=u.2.2) (t:=t) (x:=u.1) (y:=u.2.1) Ab;have s4:Aq H H4:=fun b o z=>by
    rw [e4,Ae (nAD z)];exact Ac ht _ _ (s3 _ _ z)
   exists A,H4,rfl,dp;refine ⟨_,rfl,_,rfl,_,rfl,_,rfl,two,fun t2 EV=>?_⟩;obtain ⟨H5,dp2,hM5,kvs2,e5⟩:=(bh.same (Ac (o:=.tup [.str u.2.1,.str u.1]) EV)).put (by lia) (wof u um).2.1 (wof u um).1 (n:=u.2.2) (t:=t2) (x:=u.2.1) (y:=u.1) Ab;refine ⟨A,H5,rfl,dp2,hN _ _ ⟨⟨_,_,_,_,_,rfl⟩,fun b o z=>?_,_,(hM5.up (by lia)),fun a b n h=>?_,fun x hx=>?_,fun a b n h=>?_⟩⟩
   ·rw [e5,Ae (nAD z)];exact Ac EV _ _ (s4 _ _ z)
   ·unfold KN at h;split at h
    ·rename_i hc
     cases h
     exact .inr ⟨u,um,.inr ⟨hc.2.symm,hc.1.symm⟩,rfl⟩
    ·split at h
     ·rename_i hc
      cases h
      exact .inr ⟨u,um,.inl ⟨hc.1.symm,hc.2.symm⟩,rfl⟩
     ·exact n1 a b n h
   ·unfold KN;rw [if_neg (fun z=>une (z.2.symm.trans z.1)),if_neg (fun z=>une (z.1.symm.trans z.2))];exact n2 x hx
   ·have hE':BV ws a b n:=by
     obtain ⟨v,hv,r⟩:=h;exact ⟨v,gU hv,r⟩
    unfold KN;split
    ·rename_i hc
     have:=uni _ _ _ _ hE' ⟨u,um,.inr ⟨hc.2.symm,hc.1.symm⟩,rfl⟩;rw [this]
    ·rename_i hc1
     split
     ·rename_i hc
      have:=uni _ _ _ _ hE' ⟨u,um,.inl ⟨hc.1.symm,hc.2.symm⟩,rfl⟩;rw [this]
     ·rename_i Ta
      refine n3 a b n ?_;obtain ⟨v,hv,ev,el⟩:=h;rw [fQ,gu] at hv;rcases fq.mp hv with hv | hv
      ·exact ⟨v,hv,ev,el⟩
      ·have:v=u:=by simpa using hv
       subst this;rcases ev with ⟨x1,x2⟩ | ⟨x1,x2⟩
       ·exact absurd ⟨x1.symm,x2.symm⟩ Ta
       ·exact absurd ⟨x2.symm,x1.symm⟩ hc1
  obtain ⟨⟨v4,v5,v6,v7,v8,rfl⟩,s3,M,hM,n1,n2,n3⟩:=hP;rw [hwl,fZ] at n3;have FW0:FW ws xs 0 M:=by
   refine ⟨fun x y n h=>?_,fun x y m g=>?_,fun x hx=>⟨0,n2 x hx,gJ _⟩⟩
   ·rcases n1 x y n h with ⟨rfl,rfl⟩ | h
    ·exact .nil x
    ·have:=Bq.cons h (.nil y);rwa [jU] at this
   ·cases g with
    | edge e=>exact ⟨m,n3 x y m e,gJ _⟩
    | cons _ h _=>exact absurd h ff
  refine ⟨_,rfl,D,rfl,⟨_,Az.of (s3 _ _ hD)⟩,CD (xs:=xs.map V.str) (fun t σ H4=>(∃ v4 v5 v6 v7 v8,σ=[some (.ref cc),some (.ref D),some (.ref e),some (.ref A),v4,v5,v6,v7,v8])/\Aq H H4/\∃ M,MO H4 A xs M (2000 + t * 1000)/\FW ws xs t M)
   ⟨⟨_,_,_,_,_,rfl⟩,s3,M,(hM.up (by lia)),FW0⟩ (fun i σ H4 _ hP=>Az.of (hP.2.1 _ _ hD)) (fun t v σ H4 hv hP rt bk N hNt=>?_) (fun σ H4 hP=>?_)⟩
  ·obtain ⟨⟨v4,v5,v6,v7,v8,rfl⟩,s4,M0,hM0,fw⟩:=hP;have strAt:∀ {i:Nat} {v:V},(xs.map V.str)[i]? = some v->∃ x,xs[i]? = some x/\v=.str x/\i < xs.length:=fun {i v} h=>by
    rw [eZ] at h;cases ex:xs[i]? with
    | none=>rw [ex] at h; cases h
    | some x=>rw [ex] at h; exact ⟨x,rfl,(fV.inj h).symm,(fh.mp ex).1⟩
   obtain ⟨mid,emid,rfl,tlt⟩:=strAt hv;refine ⟨_,rfl,D,rfl,⟨_,Az.of (s4 _ _ hD)⟩,CD (xs:=xs.map V.str) (fun i σ H5=>(∃ v4 v5 v6 v8,σ=[some (.ref cc),some (.ref D),some (.ref e),some (.ref A),v4,v5,v6,some (.str mid),v8])/\Aq H H5/\∃ M,MO H5 A xs M (2000 + t * 1000 + i * 30)/\Gp M0 M/\(∀ x y n,M x y=some n->Bq ws x y n)/\∀ (a:Nat) x,a < i->xs[a]? = some x->∀ y ∈ xs,∀ p1 p2,M0 x mid=some p1->M0 mid y=some p2->∃ n,M x y=some n/\n<=p1 + p2)
    ⟨⟨_,_,_,_,rfl⟩,s4,M0,(hM0.up (by lia)),Gp.refl _,fw.sound,fun a x ha=>absurd ha (hV _)⟩ (fun i σ H5 _ hP=>Az.of (hP.2.1 _ _ hD)) (fun i v σ H5 hv hP rt bk N hNi=>?_) (fun σ H5 hP=>?_)⟩
   ·obtain ⟨⟨v4,v5,v6,v8,rfl⟩,s5,M1,WY,YS,bQ,Tj⟩:=hP;obtain ⟨one,eone,rfl,ilt⟩:=strAt hv;refine ⟨_,rfl,D,rfl,⟨_,Az.of (s5 _ _ hD)⟩,CD (xs:=xs.map V.str) (fun j σ H6=>(∃ v5 v6 v8,σ=[some (.ref cc),some (.ref D),some (.ref e),some (.ref A),some (.str one),v5,v6,some (.str mid),v8])/\Aq H H6/\∃ M,MO H6 A xs M (2000 + t * 1000 + i * 30 + j)/\Gp M1 M/\(∀ x y n,M x y=some n->Bq ws x y n)/\∀ (b:Nat) y,b < j->xs[b]? = some y->∀ p1 p2,M0 one mid=some p1->M0 mid y=some p2->∃ n,M one y=some n/\n<=p1 + p2)
     ⟨⟨_,_,_,rfl⟩,s5,M1,(WY.up (by lia)),Gp.refl _,bQ,fun b y hb=>absurd hb (hV _)⟩ (fun i σ H6 _ hP=>Az.of (hP.2.1 _ _ hD)) (fun j v σ H6 hv hP rt bk N hNj=>?_) (fun σ H6 hP=>?_)⟩
    ·obtain ⟨⟨v5,v6,v8,rfl⟩,s6,M2,OH,Ye,XQ,QI⟩:=hP;obtain ⟨oth,eoth,rfl,jlt⟩:=strAt hv;have cb:2000 + t * 1000 + i * 30 + j < 16000000:=by
      have:t * 1000<=30 * 1000:=jo _ (by lia);have:i * 30<=30 * 30:=jo _ (by lia);lia
     have moAll:=YS.trans Ye;have keepM:∀ {H7:Hp} {v8':Option V},Aq H6 H7->(∀ p1 p2,M0 one mid=some p1->M0 mid oth=some p2->∃ n,M2 one oth=some n/\n<=p1 + p2) ->
       (∃ w5 w6 w8,([some (.ref cc),some (.ref D),some (.ref e),some (.ref A),some (.str one),some (.str oth),v6,some (.str mid),v8']:St)=[some (.ref cc),some (.ref D),some (.ref e),some (.ref A),some (.str one),w5,w6,some (.str mid),w8])/\Aq H H7/\∃ M,MO H7 A xs M (2000 + t * 1000 + i * 30 + (j + 1))/\Gp M1 M/\(∀ x y n,M x y=some n->Bq ws x y n)/\∀ (b:Nat) y,b < j + 1->xs[b]? = some y->∀ p1 p2,M0 one mid=some p1->M0 mid y=some p2->∃ n,M one y=some n/\n<=p1 + p2:=by
      intro H7 v8' s7 aQ;refine ⟨⟨_,_,_,rfl⟩,s6.trans s7,M2,((OH.same s7).up (by lia)),Ye,XQ,fun b y hb ey p1 p2 q1 q2=>?_⟩;by_cases eb:b=j
      ·subst eb;rw [eoth] at ey;cases ey
       exact aQ p1 p2 q1 q2
      ·exact QI b y (by lia) ey p1 p2 q1 q2
     have hone:one ∈ xs:=eW eone;have hoth:oth ∈ xs:=eW eoth;have hmid:mid ∈ xs:=eW emid;refine ⟨_,rfl,_,rfl,_,rfl,two,fun t1 Gf=>?_⟩;have z1:=Ac (o:=.tup [.str one,.str mid]) Gf;exists A,_,rfl,(OH.same z1).get hone hmid Ab,_,rfl;cases eo:M2 one mid with
     | none=>
      refine BO ?_;refine BO ?_;refine hNj _ _ (keepM z1 fun p1 p2 q1 _=>?_);obtain ⟨n',e',_⟩:=moAll one mid p1 q1;rw [eo] at e';cases e'
     | some a1=>
      refine CS ?_;refine ⟨_,rfl,_,rfl,_,rfl,two,fun t2 EV=>?_⟩;have z2:=z1.trans (Ac (o:=.tup [.str mid,.str oth]) EV);exists A,_,rfl,(OH.same z2).get hmid hoth Ab,_,rfl;cases em:M2 mid oth with
      | none=>
       refine BO ?_;refine hNj _ _ (keepM z2 fun p1 p2 _ q2=>?_);obtain ⟨n',e',_⟩:=moAll mid oth p2 q2;rw [em] at e';cases e'
      | some a2=>
       refine CS ?_;refine ⟨_,rfl,_,rfl,_,rfl,two,fun t3 cQ=>?_⟩;have z3:=z2.trans (Ac (o:=.tup [.str one,.str mid]) cQ);have g3:=(OH.same z3).get (x:=one) (y:=mid) (t:=t3) hone hmid Ab;rw [eo] at g3;refine ⟨A,.int a1,rfl,g3,_,rfl,_,rfl,_,rfl,two,fun t4 cP=>?_⟩;have z4:=z3.trans (Ac (o:=.tup [.str mid,.str oth]) cP);have g4:=(OH.same z4).get (x:=mid) (y:=oth) (t:=t4) hmid hoth Ab;rw [em] at g4;exists A,.int a2,rfl,g4,_,_,rfl,rfl;have low:∀ p1 p2,M0 one mid=some p1->M0 mid oth=some p2->a1 + a2<=p1 + p2:=fun p1 p2 q1 q2=>by
        obtain ⟨n1',Xl,l1'⟩:=moAll one mid p1 q1;obtain ⟨n2',bu,l2'⟩:=moAll mid oth p2 q2;rw [eo] at Xl;rw [em] at bu;cases Xl
        cases bu
        lia
       have putM:∀ {H7:Hp} (nn:Int),Aq H6 H7->nn<=a1 + a2->(∀ n,M2 one oth=some n->nn<=n)->Bq ws one oth nn->∀ t6,H7 t6=none->∃ a H8,V.ref A=.ref a/\FF (upd H7 t6 (.tup [.str one,.str oth])) a (.ref t6) (.int nn) H8 /\
         ((∃ w5 w6 w8,([some (.ref cc),some (.ref D),some (.ref e),some (.ref A),some (.str one),some (.str oth),v6,some (.str mid),some (.int (a1 + a2))]:St)=[some (.ref cc),some (.ref D),some (.ref e),some (.ref A),some (.str one),w5,w6,some (.str mid),w8])/\Aq H H8/\∃ M,MO H8 A xs M (2000 + t * 1000 + i * 30 + (j + 1))/\Gp M1 M/\(∀ x y n,M x y=some n->Bq ws x y n)/\∀ (b:Nat) y,b < j + 1->xs[b]? = some y->∀ p1 p2,M0 one mid=some p1->M0 mid y=some p2->∃ n,M one y=some n/\n<=p1 + p2):=by
        intro H7 nn s7 cY hle hws t6 Zf;have z6:=s7.trans (Ac (o:=.tup [.str one,.str oth]) Zf);obtain ⟨H8,dp,hM8,kvs,e8⟩:=(OH.same z6).put (by lia) hone hoth (n:=nn) (t:=t6) (x:=one) (y:=oth) Ab;have mo8:Gp M2 (KN M2 one oth nn):=fun x y n h=>by
         unfold KN;split
         ·rename_i hc
          obtain ⟨rfl,rfl⟩:=hc;exact ⟨_,rfl,hle n h⟩
         ·exact ⟨n,h,gJ _⟩
        refine ⟨A,H8,rfl,dp,⟨_,_,_,rfl⟩,fun b o z=>?_,_,hM8,Ye.trans mo8,fun x y n h=>?_,fun b y hb ey p1 p2 q1 q2=>?_⟩
        ·rw [e8,Ae (nAD z)];exact z6 _ _ (s6 _ _ z)
        ·unfold KN at h;split at h
         ·rename_i hc
          obtain ⟨rfl,rfl⟩:=hc;cases h
          exact hws
         ·exact XQ x y n h
        ·by_cases eb:b=j
         ·subst eb;rw [eoth] at ey;cases ey
          refine ⟨nn,?_,ly cY (low p1 p2 q1 q2)⟩;unfold KN;rw [if_pos ⟨rfl,rfl⟩]
         ·obtain ⟨n,en,ln⟩:=QI b y (by lia) ey p1 p2 q1 q2;obtain ⟨n',dZ,ln'⟩:=mo8 one y n en;exact ⟨n',dZ,by lia⟩
       have w12:=(XQ _ _ _ eo).app (XQ _ _ _ em);refine ⟨_,rfl,_,rfl,_,rfl,two,fun t5 aV=>?_⟩;have z5:=z4.trans (Ac (o:=.tup [.str one,.str oth]) aV);exists A,_,rfl,(OH.same z5).get (x:=one) (y:=oth) (t:=t5) hone hoth Ab,_,rfl;cases ez:M2 one oth with
       | none=>
        refine CS ?_;refine CS ?_;refine ⟨_,rfl,_,rfl,_,rfl,_,rfl,two,fun t6 Zf=>?_⟩;exact (putM (a1 + a2) z5 (gJ _) (fun n h=>by rw [ez] at h; cases h) w12 t6 Zf).imp fun _ h=>h.imp fun _ h=>⟨h.1,h.2.1,hNj _ _ h.2.2⟩
       | some a3=>
        refine BO ?_;refine ⟨_,rfl,_,rfl,_,rfl,_,rfl,two,fun t6 Zf=>?_⟩;have z6:=z5.trans (Ac (o:=.tup [.str one,.str oth]) Zf);have g6:=(OH.same z6).get (x:=one) (y:=oth) (t:=t6) hone hoth Ab;rw [ez] at g6;exists A,.int a3,rfl,g6,_,_,rfl,rfl,_,rfl;refine DP (fun B6=>?_) (fun B6=>?_)
        ·have B6:=of_decide_eq_true B6;refine ⟨_,rfl,_,rfl,_,rfl,_,rfl,two,fun t7 ht7=>?_⟩;exact (putM (a1 + a2) z6 (gJ _) (fun n h=>by rw [ez] at h; cases h; lia) w12 t7 ht7).imp fun _ h=>h.imp fun _ h=>⟨h.1,h.2.1,hNj _ _ h.2.2⟩
        ·have B6:¬ a1 + a2 < a3:=fun z=>B6 (decide_eq_true z)
         refine hNj _ _ (keepM z6 fun p1 p2 q1 q2=>⟨a3,ez,?_⟩);have:=low p1 p2 q1 q2;lia
    ·obtain ⟨⟨v5,v6,v8,rfl⟩,s6,M2,OH,Ye,XQ,QI⟩:=hP;rw [eU] at OH QI;refine hNi _ _ ⟨⟨_,_,_,_,rfl⟩,s6,M2,(OH.up (by lia)),YS.trans Ye,XQ,fun a x ha ex y hy p1 p2 q1 q2=>?_⟩;by_cases ea:a=i
     ·subst ea;rw [eone] at ex;cases ex
      obtain ⟨b,hb,eb⟩:=fY hy;exact QI b y hb (by rw [eR hb,eb]) p1 p2 q1 q2
     ·obtain ⟨n,en,ln⟩:=Tj a x (by lia) ex y hy p1 p2 q1 q2;obtain ⟨n',dZ,ln'⟩:=Ye x y n en;exact ⟨n',dZ,by lia⟩
   ·obtain ⟨⟨v4,v5,v6,v8,rfl⟩,s5,M1,WY,YS,bQ,Tj⟩:=hP;rw [eU] at WY Tj;refine hNt _ _ ⟨⟨_,_,_,_,_,rfl⟩,s5,M1,(WY.up (by lia)),fw.next pos ends emid YS bQ fun x hx y hy p1 p2 q1 q2=>?_⟩;obtain ⟨a,ha,ea⟩:=fY hx;exact Tj a x ha (by rw [eR ha,ea]) y hy p1 p2 q1 q2
  ·obtain ⟨⟨v4,v5,v6,v7,v8,rfl⟩,s4,M1,WY,fw⟩:=hP;rw [eU] at WY fw;exact ⟨_,rfl,k H4 A s4 hA ⟨_,_,WY.md (fun x hx y hy=>let ⟨nn,e,_⟩:=fw.doneW ends (fun x hx y hy=>let ⟨kk,a,_⟩:=mw.sums aL Ub x hx y hy; ⟨kk,a⟩) x hx y hy; ⟨nn,e⟩),fun x hx y hy=>(fw.doneW ends (fun x hx y hy=>let ⟨kk,a,_⟩:=mw.sums aL Ub x hx y hy; ⟨kk,a⟩) x hx y hy).imp fun nn h=>⟨by rw [if_pos ⟨hx,hy⟩]; exact h.1,h.2,mw.bound aL Ub hx hy h.2⟩⟩⟩
end
section
variable {P:Program} {w:World} {K:eV} {mg:Str->Option Value} {base:Heap}
theorem Nu (h_abs:mg "abs"=none) (h_len:mg "len"=none) {f:Addr} {fd:FuncData} (F:DT K "_law_pen" "_law_pen" Ff f fd):A8 P w K mg base B0 1 f fd ["_law_script","_law_k"] (QT K):=by
 refine F.ok IA (fun vs H Q E h=>?_) (fun cdv A outer s H vs Q E hr h=>?_)
 ·obtain ⟨a,ns,k,rfl,_⟩:=h;rfl
 ·obtain ⟨a,ns,k,rfl,hS,k0,q⟩:=h;have nd:=IA.nd;have big:100000 < sizeLine:=by decide
  refine ⟨_,(Af (Ax (i:=2) nd rfl (Or.inl rfl) (Aw Bg (Aw Df Ag (pv 1)) Ag))
  (Af (C9 (B9 Vb (pv 1) (Ao Bp (by rfl) h_len PySem.boot_len (Aa (pv 0) Ad)) (BL _))
  (Ak (Ax (i:=2) nd rfl (Or.inl rfl) (A3 Bu (pv 0) (pv 1) (fun _ _=>rfl))))
  BB)
  (Af (C9 (B9 Vc (Ao MG (by rfl) h_abs PyProof.Rows.boot_abs (Aa (pv 2) Ad)) (Aw WE Ag Ag) (BL _))
  (Ak (A7 (B5 (Aa (Ao MG (by rfl) h_abs PyProof.Rows.boot_abs (Aa (pv 2) Ad)) (Aa Ag (Aa (pv 1) Ad))))))
  BB)
  (Ak (A7 (B5 (Aa (Aw Bg (Aw ER (pv 2) Ag) (Aw Df Ag (pv 1))) (Aa Ag (Aa (pv 1) Ad))))))))),?_⟩
  have ZD:=hS.sq;exists _,rfl,_,_,rfl,rfl,.inl ⟨by decide,by decide⟩,_,_,rfl,rfl;exists _,rfl,_,rfl,a,_,rfl,.inl ZD,_,_,rfl,rfl,_,rfl;refine DP (fun B6=>?_) (fun _=>?_)
  ·rw [decide_eq_true_eq,eU] at B6;obtain ⟨c,hc⟩:=SF (ns:=ns) (i:=k) k0 B6;exists _,rfl,_,rfl,a,_,_,_,rfl,rfl,ZD,hc;exists _,rfl,_,rfl,_,_,rfl,rfl,⟨by decide,by decide,by decide⟩,_,_,rfl,rfl,_,rfl;refine DP (fun _=>?_) (fun _=>?_)
   ·exact ⟨_,rfl,_,rfl,_,rfl,(by show 3<=sizeLine; decide),fun p hp=>q p _ _ _ hp⟩
   ·exact ⟨_,rfl,_,_,rfl,rfl,(by show (0:Int) < 2147483629; decide),_,rfl,_,_,rfl,rfl,.inl ⟨by decide,by decide⟩,_,_,rfl,rfl,_,rfl,(by show 3<=sizeLine; decide),fun p hp=>q p _ _ _ hp⟩
  ·exists _,rfl,_,rfl,_,_,rfl,rfl,⟨by decide,by decide,by decide⟩,_,_,rfl,rfl,_,rfl;refine DP (fun _=>?_) (fun _=>?_)
   ·exact ⟨_,rfl,_,rfl,_,rfl,(by show 3<=sizeLine; decide),fun p hp=>q p _ _ _ hp⟩
   ·exact ⟨_,rfl,_,_,rfl,rfl,(by show (0:Int) < 2147483629; decide),_,rfl,_,_,rfl,rfl,.inl ⟨by decide,by decide⟩,_,_,rfl,rfl,_,rfl,(by show 3<=sizeLine; decide),fun p hp=>q p _ _ _ hp⟩
theorem Cn  {f:Addr} {fd:FuncData} (F:DT K "_law_take" "_law_take" Bw f fd):A8 P w K mg base B0 1 f fd ["_law_pen_here","_law_many"] D5:=by
 refine F.ok Hj (fun vs H Q E h=>?_) (fun cdv A outer s H vs Q E hr h=>?_)
 ·obtain ⟨p,m,rfl,_⟩:=h;rfl
 ·obtain ⟨p,m,rfl,⟨a,b,c,hp⟩,hm,WT,k⟩:=h;have nd:=Hj.nd;have big:100000 < sizeLine:=by decide
  refine ⟨_,(Af (C9 (B9 Kn (A3 Bu (pv 0) Ag (fun _ _=>rfl)) Ag (BL _))
  (Af (Ax (i:=2) nd rfl (Or.inl rfl) (Aw ER (A3 Bu (pv 0) Ag (fun _ _=>rfl)) (pv 1)))
  (Af (Dd (Aw Mk (A3 Bu (pv 0) Ag (fun _ _=>rfl)) (pv 1)) (Np (pv 0) Ag Iy))
  (Ak (A7 (pv 2)))))
  BB)
  (Af (Dd (Aw Bg (A3 Bu (pv 0) Ag (fun _ _=>rfl)) Ag) (Np (pv 0) Ag Iy))
  (Af (Ax (i:=3) nd rfl (Or.inl rfl) (Aw ER (Aw Bg (Aw Bg (Aw Df (A3 Bu (pv 0) Ag (fun _ _=>rfl)) Ag) (Aw Df Ag (A3 Bu (pv 0) Ag (fun _ _=>rfl)))) Ag) Ag))
  (Af (Dd (Aw ER (Aw Bg (Aw Bg (Aw Df (pv 3) (Aw Bg (Aw ER (pv 3) Ag) Ag)) (Aw Df Ag (A3 Bu (pv 0) Ag (fun _ _=>rfl)))) Ag) Ag) (Np (pv 0) Ag Iy))
  (Ak (A7 (Aw ER (Aw Mk (A3 Bu (pv 0) Ag (fun _ _=>rfl)) Ag) (pv 1)))))))),?_⟩
  have sq:∀ {H':Hp} {a b c:Int},H' p=some (.lst (AK a b c))->Ba K H' p (AK a b c):=fun h=>.inl (.inl h)
  exists _,rfl,p,_,_,_,rfl,rfl,sq hp,Wz _ _ _,rfl,_,rfl;refine DP (fun _=>?_) (fun _=>?_)
  ·exists _,rfl,p,_,_,_,rfl,rfl,sq hp,KY _ _ _,_,rfl,_,_,rfl,rfl,hm;exists _,rfl,p,_,_,_,rfl,rfl,sq hp,KY _ _ _,_,rfl,_,_,rfl,rfl,⟨hm,WT⟩,_,rfl,p,_,_,0,rfl,rfl,hp,rfl,_,rfl;exact k _ _ _ _ (i4 _ (by lia)) (iL _ hm)
  ·exists _,rfl,p,_,_,_,rfl,rfl,sq hp,Nq _ _ _,_,_,rfl,rfl,_,rfl,p,_,_,2,rfl,rfl,hp,rfl;have WS:(upd H p (.lst (AK a b (c + 1)))) p=some (.lst (AK a b (c + 1))):=Ab;exists _,rfl,p,_,_,_,rfl,rfl,sq WS,KY _ _ _,_,_,rfl,rfl,.inr ⟨by decide,by decide⟩,_,rfl,p,_,_,_,rfl,rfl,sq WS,Nq _ _ _,_,_,rfl,rfl,.inl ⟨by decide,by decide⟩,_,_,rfl,rfl,_,_,rfl,rfl,_,_,rfl,rfl,(by show (0:Int) < 2147483647; decide)
   have h0:0<=(a * 48271 + 30011 * (c + 1) + 977) % 2147483647:=i4 _ (by decide);have h1:(a * 48271 + 30011 * (c + 1) + 977) % 2147483647 < 2147483647:=iL _ (by decide);exists _,rfl,_,rfl,_,_,rfl,rfl,(by show (0:Int) < 65521; decide),_,_,rfl,rfl,_,_,rfl,rfl,.inl ⟨Int.lt_of_lt_of_le (b:=0) (by decide) h0,Int.lt_trans h1 (by decide)⟩,_,rfl,p,_,_,_,rfl,rfl,sq WS,Nq _ _ _,_,_,rfl,rfl,.inl ⟨by decide,by decide⟩,_,_,rfl,rfl,_,_,rfl,rfl,_,_,rfl,rfl,(by show (0:Int) < 2147483587; decide),_,rfl,p,_,_,0,rfl,rfl,WS,rfl;exists _,rfl,p,_,_,_,rfl,rfl,sq Ab,KY _ _ _,_,_,rfl,rfl,⟨by decide,by decide⟩,_,rfl,_,_,rfl,rfl,hm;rw [FL];exact k _ _ _ _ (i4 _ (by lia)) (iL _ hm)
end
section
variable {P:Program} {w:World} {K:eV} {mg:Str->Option Value} {base:Heap}
end
section
variable {P:Program} {w:World} {K:eV} {mg:Str->Option Value} {base:Heap}
theorem Lf (h_len:mg "len"=none) (h_range:mg "range"=none) {fT:Addr} {fdT:FuncData} (XT:Fn K mg "_law_take" Bw ["_law_pen_here","_law_many"] fT fdT) (GT:A8 P w K mg base B0 1 fT fdT ["_law_pen_here","_law_many"] D5) {f:Addr} {fd:FuncData} (F:DT K "_law_names" "_law_names" DC f fd):A8 P w K mg base B0 2 f fd ["_law_pen_here","_law_many"] LU:=by
 refine F.ok FT (fun vs H Q E h=>?_) (fun cdv A outer s H vs Q E hr h=>?_)
 ·obtain ⟨p,n,rfl,_⟩:=h;rfl
 ·obtain ⟨p,n,rfl,hP,hn,k⟩:=h;have nd:=FT.nd;have big:100000 < sizeLine:=by decide
  refine ⟨_,(Af (Ax (i:=2) nd rfl (Or.inr rfl) F2)
  (Af (Ax (i:=3) nd rfl (Or.inl rfl) (Ea PySem.F.plainAttrs_str PySem.F.slot_str_join PySem.F.type_str_join Ue F2 (Aa (Bf (N:=["_law_k","_law_pen_here","_law_letters"]) (σ0:=fun σ=>[none,some 0,some 2].map fun j=>j.bind fun j=>(σ[j]?).join) rfl (AF.caught (by rfl) (by decide +kernel) rfl (by decide +kernel) (by intro y hy; simp only [eX,ff,or_false] at hy; rcases hy with rfl | rfl <;> rfl)
   (by intro y hy e; simp only [eX,ff,or_false] at hy; rcases hy with rfl | rfl | rfl | rfl | rfl <;> first | exact ⟨_,rfl⟩ | cases e)) (fun σ _=>AU.of [none,some 0,some 2] rfl (by
   intro i j x h1 h2;match i,h1,h2 with
   | 0,_,h2=>cases h2
   | 1,h1,h2=>cases h1; cases h2; exact ⟨rfl,.inl rfl,.inl rfl⟩
   | 2,h1,h2=>cases h1; cases h2; exact ⟨rfl,.inl rfl,.inl rfl⟩
   | n + 3,h1,_=>cases h1)) (DY (by rfl) h_range (Aa (An GT (hr.mono (by decide)) (by rfl) XT.mg XT.F.kp XT.b .nil A1 (Aa (pv 0) (Aa Ag Ad))) Ad))
   (fun s2 H C fp=>⟨(Ai (i:=0) (show (["_law_k","_law_pen_here","_law_letters"]:List Str).Nodup by decide +kernel) rfl (Or.inl rfl)),AO,(A3 RZ (pv 2) (An GT (hr.mono (by decide)) (by rfl) XT.mg XT.F.kp XT.b .nil A1 (Aa (pv 1) (Aa Ag Ad))) (fun _ _=>rfl))⟩)) Ad)))
  (Af (Ax (i:=4) nd rfl (Or.inl rfl) (An GT (hr.mono (by decide)) (by rfl) XT.mg XT.F.kp XT.b .nil A1 (Aa (pv 0) (Aa (Aw Bg (Ao Gi (by rfl) h_len PySem.boot_len (Aa (pv 3) Ad)) Ag) Ad))))
  (Af (Ax (i:=5) nd rfl (Or.inl rfl) (An GT (hr.mono (by decide)) (by rfl) XT.mg XT.F.kp XT.b .nil A1 (Aa (pv 0) (Aa Ag Ad))))
  (Af (Ax (i:=6) nd rfl (Or.inl rfl) (A3 Bu (B5 (Aa Ag (Aa Ag (Aa Ag (Aa Ag Ad))))) (An GT (hr.mono (by decide)) (by rfl) XT.mg XT.F.kp XT.b .nil A1 (Aa (pv 0) (Aa Ag Ad))) (fun _ _=>rfl)))
  (Af (Ax (i:=7) nd rfl (Or.inl rfl) (An GT (hr.mono (by decide)) (by rfl) XT.mg XT.F.kp XT.b .nil A1 (Aa (pv 0) (Aa Ag Ad))))
  (Af (Ax (i:=8) nd rfl (Or.inl rfl) (B5 Ad))
  (Af (Cm PassesOwn.never rfl (DY (by rfl) h_range (Aa (pv 1) Ad)) (Ai (i:=9) nd rfl (Or.inl rfl))
  (Af (Ax (i:=10) nd rfl (Or.inl rfl) (A3 RZ (pv 2) (Aw ER (Aw Bg (pv 5) (Aw Df (pv 6) (pv 9))) Ag) (fun _ _=>rfl)))
  (Ak (Ci (Ea PySem.F.plainAttrs_list PySem.F.slot_list_append PySem.F.type_list_append Bj (pv 8) (Aa (Aw F3 (Aw F3 (Aw F3 (FY (pv 3) BD (BC (pv 4))) (pv 10)) (FY (pv 3) (BC (pv 4)) BD)) (Aw RL F2 (Aw Df (pv 7) (Aw ER (pv 9) Ag)))) Ad))))))
  (Ak (A7 (pv 8))))))))))),?_⟩
  refine ⟨rfl,_,rfl,p,5,rfl,hP,by decide,by decide,fun d a b c da db=>⟨_,rfl,by lia,by lia,?_⟩⟩;show ∀ D,(upd H p (.lst (AK a b c))) D=none->_
  have P1:AG (upd H p (.lst (AK a b c))) p:=AG.set a b c;have q1:AM p H (upd H p (.lst (AK a b c))):=AM.upd;generalize upd H p (.lst (AK a b c))=H1 at P1 q1;refine Rv (n:=d.toNat) (fun D i σ H' acc=>∃ (v0:Option V) (ss:List Str),σ=[v0,some (.ref p),some (.str Ge)]/\AG H' p/\AM p H1 H'/\H' D=some (.lst acc)/\acc=ss.map V.str/\acc.length=i/\∀ s ∈ ss,s.length=1/\UD s)
   (by lia) (fun D hD=>⟨_,[],rfl,P1.other (P1.ne hD),AM.of_same (Ac hD),Ab,rfl,rfl,fun s hs=>nomatch hs⟩) (fun D i σ H' acc hD ⟨v0,ss,_,_,_,AR,_,al,_⟩=>⟨AR,al⟩) ?_ ?_
  ·rintro D i σ H' acc B hD hi ⟨v0,ss,rfl,P2,q2,AR,ea,al,lo⟩ hB;have nD:=P1.ne hD;refine ⟨_,rfl,_,rfl,p,26,rfl,P2,by decide,by decide,fun e a1 b1 c1 ea1 eb1=>?_⟩;have lc:=Hx _ (L4 (E3 ea1 eb1));exists _,_,_,rfl,rfl,by decide,E3 ea1 eb1
   refine hB _ _ _ (by rw [Ae nD]; exact AR) ⟨_,ss ++ [⟨#[97 + e.toNat]⟩],rfl,(AG.set a1 b1 c1).other nD,fun b' o hb z=>?_,Ab,by rw [ea,fg]; rfl,by rw [eY,al]; rfl,fun s hs=>?_⟩
   ·rw [Ae (Ah z hD),Ae hb];exact q2 b' o hb z
   ·rcases fq.mp hs with hs | hs
    ·exact lo s hs
    ·rw [fo] at hs;subst hs;refine ⟨rfl,fun c hc=>?_⟩;have:c=97 + e.toNat:=by simpa using hc
     subst this;exact lc
  rintro D0 σ0 H2 acc hD0 ⟨v0,ss,rfl,P2,q2,AR,ea,al,lo⟩;obtain ⟨j1,j2,j3⟩:=RY lo;have sl:ss.length=d.toNat:=by rw [<-al,ea,eU]
  exists _,D0,ss,rfl,rfl,by rw [AR,ea],by decide,by lia
  generalize Txt.join (Str.ofString "") ss=bs at j1 j2;have bl:bs.length<=4:=by lia
  refine ⟨_,rfl,_,rfl,bs,rfl,by lia,_,_,rfl,rfl,p,_,rfl,P2,by lia,by lia,fun at' a2 b2 c2 at0 U4=>?_⟩;refine ⟨_,rfl,p,26,rfl,AG.set a2 b2 c2,by decide,by decide,fun st a3 b3 c3 HK st1=>?_⟩;rw [FL];refine ⟨(by show 4<=sizeLine; lia),fun T8 hT8=>?_⟩;have n8:T8 ≠ p:=(AG.set (H:=H2) (p:=p) a3 b3 c3).ne hT8;refine ⟨_,rfl,p,4,rfl,(AG.set a3 b3 c3).other n8,by decide,by decide,fun e8 a4 b4 c4 e8a e8b=>?_⟩;obtain ⟨sp,hsp⟩:=SF (ns:=[1,5,7,11]) e8a e8b;exists T8,_,_,.int sp,rfl,rfl,Ba.of (by rw [Ae n8]; exact Ab),hsp;have spm:sp ∈ ([1,3,5,7,9,11,15,17]:List Int):=by
   have:=L4 hsp;simp only [fU,ir,eX,V.int.injEq,ff,or_false] at this;rcases this with rfl | rfl | rfl | rfl <;> simp
  have spb:0<=sp/\sp<=17:=by
   simp only [eX,ff,or_false] at spm;rcases spm with rfl | rfl | rfl | rfl | rfl | rfl | rfl | rfl <;> lia
  have P4:AG (upd (upd (upd H2 p (.lst (AK a3 b3 c3))) T8 (.lst [.int 1,.int 5,.int 7,.int 11])) p (.lst (AK a4 b4 c4))) p:=AG.set _ _ _;have q4:AM p H2 (upd (upd (upd H2 p (.lst (AK a3 b3 c3))) T8 (.lst [.int 1,.int 5,.int 7,.int 11])) p (.lst (AK a4 b4 c4))):=(AM.upd.trans (AM.of_same (Ac hT8))).trans AM.upd;generalize upd (upd (upd H2 p (.lst (AK a3 b3 c3))) T8 (.lst [.int 1,.int 5,.int 7,.int 11])) p (.lst (AK a4 b4 c4))=H4 at P4 q4;refine ⟨_,rfl,p,2,rfl,P4,by decide,by decide,fun mo a5 b5 c5 mo0 YS=>?_⟩;have P5:AG (upd H4 p (.lst (AK a5 b5 c5))) p:=AG.set _ _ _;have q5:AM p H (upd H4 p (.lst (AK a5 b5 c5))):=((q1.trans q2).trans q4).trans AM.upd;generalize upd H4 p (.lst (AK a5 b5 c5))=H5 at P5 q5;refine ⟨(by show 0<=sizeLine; lia),fun D hD=>?_⟩;have nD:D ≠ p:=P5.ne hD;have fD:H D=none:=by
   cases z:H D with
   | none=>rfl
   | some o=>rw [q5 _ _ nD z] at hD; cases hD
  exists _,rfl,n,rfl,by lia,by lia
  refine Eh (n:=n) (lo:=0) (fun j σ H'=>∃ (xs:List Str) (v9 v10:Option V),σ=[some (.ref p),some (.int n),some (.str Ge),some (.str bs),some (.int at'),some (.int st),some (.int sp),some (.int mo),some (.ref D),v9,v10]/\H'=upd H5 D (.lst (xs.map V.str))/\xs.length=j/\(∀ x ∈ xs,AA x=true)/\(∀ x ∈ xs,x ≠ Str.ofString "zzzzzz")/\∀ (i:Nat) x,xs[i]? = some x->∃ tl,x.cps.toList=(Txt.slice bs none (some at')).cps.toList ++ (PQ n st sp i ++ tl))
   ⟨[],_,_,rfl,rfl,rfl,(fun x hx=>nomatch hx),(fun x hx=>nomatch hx),(fun i x e=>by simp at e)⟩ ?_ ?_
  ·rintro j σ H' hj ⟨xs,v9,v10,rfl,rfl,xl,nm,nz,sh⟩;have r0:0<=(st + sp * (0 + (j:Int))) % 26:=i4 _ (by decide);have r1:(st + sp * (0 + (j:Int))) % 26 < 26:=iL _ (by decide);exists _,rfl,_,rfl,_,rfl,_,rfl,_,_,rfl,rfl,.inl ⟨by lia,by lia⟩,_,_,rfl,rfl,_,_,rfl,rfl,(by show (0:Int) < 26; decide),_,_,_,rfl,rfl,by decide,E3 r0 r1
   have lc:=Hx _ (L4 (E3 r0 r1));have s1:=Rb (z:=bs) at0 (by lia);have s2:=Nf (z:=bs) at0 (by lia);have w1:=Kd (z:=bs) none (some at') j1;have w2:=Kd (z:=bs) (some at') none j1;have dD:(upd H5 D (.lst (xs.map V.str))) D=some (.lst (xs.map V.str)):=Ab;have m01:mo * ((0 + (j:Int)) % 2)=0\/mo * ((0 + (j:Int)) % 2)=1:=by
    have e1:mo=0\/mo=1:=by lia
    have e2:(0 + (j:Int)) % 2=0\/(0 + (j:Int)) % 2=1:=by lia
    rcases e1 with rfl | rfl <;> rcases e2 with e2 | e2 <;> rw [e2] <;> simp
   have hz:∀ z:Str,z=(if mo * ((0 + (j:Int)) % 2)=1 then Str.ofString "n" else Str.empty)->z.length<=1/\UD z:=fun z e=>by
    subst e;split
    ·refine ⟨by decide,fun c hc=>?_⟩;have e:(Str.ofString "n").cps.toList=[110]:=by decide +kernel
     rw [e,fo] at hc;subst hc;decide
    ·exact ⟨by decide,fun c hc=>by cases hc⟩
   obtain ⟨zz,ezz⟩:∃ zz,zz=(if mo * ((0 + (j:Int)) % 2)=1 then Str.ofString "n" else Str.empty):=⟨_,rfl⟩
   obtain ⟨z1,z2⟩:=hz zz ezz;have fin:∀ (x:Str),x=Txt.slice bs none (some at') ++ ⟨#[97 + ((st + sp * (0 + (j:Int))) % 26).toNat]⟩ ++ Txt.slice bs (some at') none ++ zz->AA x=true/\x ≠ Str.ofString "zzzzzz"/\∃ tl,x.cps.toList=(Txt.slice bs none (some at')).cps.toList ++ (PQ n st sp j ++ tl):=fun x e=>by
    have ec:x.cps.toList=(Txt.slice bs none (some at')).cps.toList ++ ([97 + ((st + sp * (0 + (j:Int))) % 26).toNat] ++ ((Txt.slice bs (some at') none).cps.toList ++ zz.cps.toList)):=by
     rw [e,Str.cps_append,Str.cps_append,Str.cps_append,jq,jq,jq,h9,h9]
    have el:x.length=(Txt.slice bs none (some at')).length + 1 + (Txt.slice bs (some at') none).length + zz.length:=by
     rw [e,Str.length_append,Str.length_append,Str.length_append];rfl
    exists RQ (by lia) (by lia) fun c hc=>?_,fun hx=>?_
    ·rw [ec,fq,fq,fq,fo] at hc;rcases hc with hc | hc | hc | hc
     ·exact w1 c hc
     ·rw [hc]; exact lc
     ·exact w2 c hc
     ·exact z2 c hc
    ·have l6:(Str.ofString "zzzzzz").length=6:=by decide +kernel
     have l0:Str.empty.length=0:=rfl;by_cases hm:mo * ((0 + (j:Int)) % 2)=1
     ·have h1:110 ∈ x.cps.toList:=by
       rw [ec,ezz,if_pos hm,show (Str.ofString "n").cps.toList=[110] by decide +kernel];simp
      rw [hx,show (Str.ofString "zzzzzz").cps.toList=[122,122,122,122,122,122] by decide +kernel] at h1;simp at h1
     ·rw [ezz,if_neg hm,hx,l6,l0] at el;lia
    ·exists (Txt.slice bs (some at') none).cps.toList ++ zz.cps.toList;rw [ec];unfold PQ;rw [if_neg (by lia),je]
   exists _,rfl,.inl ⟨rfl,_,Ba.of dD⟩,_,rfl,_,rfl,_,rfl,bs,rfl,by lia,_,rfl,_,_,rfl,rfl,?_,_,rfl,_,rfl,_,rfl,bs,rfl,by lia,_,_,rfl,rfl,?_,_,rfl,_,rfl,_,_,rfl,rfl,(by show (0:Int) < 2; decide),_,_,rfl,rfl,.inl ⟨by lia,by lia⟩,_,_,rfl,rfl,m01,_,_,rfl,rfl,?_,D,_,_,rfl,rfl,dD,(by rw [eU]; lia)
   ·show (Txt.slice bs none (some at')).length + 1<=sizeLine
    lia
   ·rw [Str.length_append];show (Txt.slice bs none (some at')).length + 1 + _<=sizeLine
    lia
   ·rw [<-ezz,Str.length_append,Str.length_append];show (Txt.slice bs none (some at')).length + 1 + _ + _<=sizeLine
    lia
   rw [<-ezz];obtain ⟨f1,f3,f2⟩:=fin _ rfl;refine ⟨xs ++ [_],_,_,rfl,by rw [FL,fg]; rfl,by rw [eY,xl]; rfl,fun x hx=>?_,fun x hx=>?_,fun i x e=>?_⟩
   ·rcases fq.mp hx with hx | hx
    ·exact nm x hx
    ·rw [fo.mp hx];exact f1
   ·rcases fq.mp hx with hx | hx
    ·exact nz x hx
    ·rw [fo.mp hx];exact f3
   ·by_cases hi:i < xs.length
    ·rw [gq hi] at e;exact sh i x e
    ·have Zx:i=j:=by
      have:=(fh.mp e).1;rw [eY,jh] at this;lia
     subst Zx;rw [gj (by lia),xl,jf,gF] at e;rw [<-fV.inj e];exact f2
  ·rintro σ H' ⟨xs,v9,v10,rfl,rfl,xl,nm,nz,sh⟩;exact ⟨_,rfl,k _ D xs (P5.other nD) (fun b' o hb z=>by rw [Ae (Ah z fD)]; exact q5 _ _ hb z) fD Ab xl (Ms sh fun i j hij hj tl VU=>WD (by lia) spm hij (by lia) tl VU) nm nz⟩
end
section
variable {P:Program} {w:World} {K:eV} {mg:Str->Option Value} {base:Heap}
theorem QG (h_sorted:mg "sorted"=none) (h_tuple:mg "tuple"=none) {fT:Addr} {fdT:FuncData} (XT:Fn K mg "_law_take" Bw ["_law_pen_here","_law_many"] fT fdT) (GT:A8 P w K mg base B0 1 fT fdT ["_law_pen_here","_law_many"] D5)
  {f:Addr} {cdv:Value} {A:Around} {outer:List Env} {s:Shared} {H:Hp} {E:XK} (hr:El 1 (A.deeper (PyProof.Rows.envOfC "_law_ways" (Ap Ck) s.heap.objs.size f cdv))) :
  ∃ t,NU (MB B0 P w K mg base ["_law_pen_here","_law_names_here","_law_kind","_law_size","_law_pairs","_law_k","_law_other","_law_one"] "_law_ways" (Ap Ck) f cdv A outer s H E).nox ((C8 Ck).drop 4) t /\
   ∀ (W:Gr) (H1:Hp) (p e L:Addr) (kd sz:Int) (v5 v6 v7:Option V) (us:List V) (qs:List (Str × Str)) (xs:List Str),AG H1 p->H1 L=some (.lst us)->L ≠ p->Dz H1 us (qs.map Eb)->Du xs (qs.map Mh)->us.length<=30->1<=sz->sz<=9 ->
    (∀ (H':Hp) (T:Addr) (LA:List V) (ws Gv:List A9),AG H' p->AM p H1 H'->H' T=some (.tup LA)->A2 H' LA (ws.map Fj)->ws.Perm (Gv.map Ez)->Du xs Gv->(∀ u ∈ Gv,u.2.2<=9)->Gv.length<=30->W.rt (.ref T) H') ->
    t W [some (.ref p),some (.ref e),some (.int kd),some (.int sz),some (.ref L),v5,v6,v7] H1:=by
 have nd:=EL.nd;have hu:=Dm hr;have big:100000 < sizeLine:=by decide
 refine ⟨_,(Ak (A7 (AQ Fz (by rfl) h_tuple PyProof.Rows.boot_tuple (Aa (Ao (FC K rfl) (by rfl) h_sorted PyProof.Rows.boot_sorted (Aa (Bf (N:=["_law_pair","_law_pen_here","_law_size"]) (σ0:=fun σ=>[none,some 0,some 3].map fun j=>j.bind fun j=>(σ[j]?).join) rfl (AF.caught (by rfl) (by decide +kernel) rfl (by decide +kernel) (by intro y hy; simp only [eX,ff,or_false] at hy; rcases hy with rfl | rfl <;> rfl)
   (by intro y hy e; simp only [eX,ff,or_false] at hy; rcases hy with rfl | rfl | rfl | rfl | rfl | rfl | rfl <;> first | exact ⟨_,rfl⟩ | cases e)) (fun σ _=>AU.of [none,some 0,some 3] rfl (by
   intro i j x h1 h2;match i,h1,h2 with
   | 0,_,h2=>cases h2
   | 1,h1,h2=>cases h1; cases h2; exact ⟨rfl,.inl rfl,.inl rfl⟩
   | 2,h1,h2=>cases h1; cases h2; exact ⟨rfl,.inl rfl,.inl rfl⟩
   | n + 3,h1,_=>cases h1)) (O4 (pv 4))
   (fun s2 H C fp=>⟨(Ai (i:=0) (show (["_law_pair","_law_pen_here","_law_size"]:List Str).Nodup by decide +kernel) rfl (Or.inl rfl)),AO,(Aw (RN K rfl) (AQ (AS K rfl) (by rfl) h_tuple PyProof.Rows.boot_tuple (Aa (Ao HV (by rfl) h_sorted PyProof.Rows.boot_sorted (Aa (pv 0) Ad)) Ad)) (Au (Aa (Aw Bg Ag (An GT (hr.mono (by decide)) (by rfl) XT.mg XT.F.kp XT.b .nil A1 (Aa (pv 1) (Aa (pv 2) Ad)))) Ad)))⟩)) Ad)) Ad)))),?_⟩
 intro W H1 p e L kd sz v5 v6 v7 us qs xs P1 hL nL tU wc ul z1 z9 k;have ql:us.length=qs.length:=by rw [tU.len,eU]
 exists _,rfl,L,rfl,⟨_,Ba.of hL⟩
 refine Bb C4 (xs:=us) (fun D j σ H' acc=>∃ (v0:Option V) (ls:List Int),σ=[v0,some (.ref p),some (.int sz)]/\AG H' p/\AM p H1 H'/\H' D=some (.lst acc)/\acc.length=j/\ls.length=j/\(∀ l ∈ ls,1<=l/\l<=9)/\A2 H' acc (((qs.zip ls).map fun c=>Ez (c.1.2,c.1.1,c.2)).map Fj))
  (by lia) (fun D hD=>⟨_,[],rfl,P1.other (P1.ne hD),AM.of_same (Ac hD),Ab,rfl,rfl,(fun l hl=>nomatch hl),by rw [List.zip_nil_right]; exact .nil⟩)
  (fun D j σ H' acc hD ⟨v0,ls,_,_,kp,AR,al,_⟩=>⟨Ba.of (kp _ _ nL hL),AR,al⟩) ?_ ?_
 ·rintro D j σ H' acc x' B hD ex ⟨v0,ls,rfl,P2,kp,AR,al,ll,lb,dd⟩ hB;obtain ⟨t,g,rfl,eg,ht⟩:=tU.get ex;obtain ⟨q,eq,rfl⟩:∃ q,qs[j]? = some q/\g=Eb q:=by
   rw [eZ] at eg;cases z:qs[j]? with
   | none=>rw [z] at eg; cases eg
   | some q=>rw [z] at eg; exact ⟨q,rfl,(fV.inj eg).symm⟩
  have nD:=P1.ne hD;have tp:t ≠ p:=by intro y; subst y; obtain ⟨_,_,_,y⟩:=P1; rw [y] at ht; cases ht
  have EV:=kp _ _ tp ht;refine ⟨_,rfl,t,q.1,q.2,rfl,EV,fun l hl=>⟨l,_,rfl,.inl ⟨Ba.of Ab,fun T1 WX=>?_⟩⟩⟩;have s1:=(Ac (o:=.lst [.str (BZ q.1 q.2),.str (Cc q.1 q.2)]) hl).trans (Ac (o:=.tup [.str (BZ q.1 q.2),.str (Cc q.1 q.2)]) WX);have Ur:(upd (upd H' l (.lst [.str (BZ q.1 q.2),.str (Cc q.1 q.2)])) T1 (.tup [.str (BZ q.1 q.2),.str (Cc q.1 q.2)])) T1=some (.tup [.str (BZ q.1 q.2),.str (Cc q.1 q.2)]):=Ab;have P3:AG (upd (upd H' l (.lst [.str (BZ q.1 q.2),.str (Cc q.1 q.2)])) T1 (.tup [.str (BZ q.1 q.2),.str (Cc q.1 q.2)])) p:=by obtain ⟨_,_,_,z⟩:=P2; exact ⟨_,_,_,s1 _ _ z⟩
  generalize upd (upd H' l (.lst [.str (BZ q.1 q.2),.str (Cc q.1 q.2)])) T1 (.tup [.str (BZ q.1 q.2),.str (Cc q.1 q.2)])=H3 at s1 Ur P3;have n1:T1 ≠ p:=by intro y; subst y; obtain ⟨_,_,_,y⟩:=P3; rw [y] at Ur; cases Ur
  refine ⟨_,rfl,_,rfl,p,sz,rfl,P3,by lia,by lia,fun d a b c d0 d1=>⟨_,_,rfl,rfl,(by show 1<=sizeLine; lia),fun T2 Tb=>?_⟩⟩;have dz:(upd (upd H3 p (.lst (AK a b c))) T2 (.tup [.int (1 + d)])) T1=some (.tup [.str (BZ q.1 q.2),.str (Cc q.1 q.2)]):=Ac Tb _ _ (by rw [Ae n1]; exact Ur);refine ⟨T1,T2,_,_,rfl,rfl,Az.of dz,Az.of Ab,by simp,by show 2 + 1<=sizeLine; lia,(fun z=>by cases z),fun _ T hT=>?_⟩;have P4:AG (upd (upd (upd H3 p (.lst (AK a b c))) T2 (.tup [.int (1 + d)])) T (.tup [.str (BZ q.1 q.2),.str (Cc q.1 q.2),.int (1 + d)])) p:=by
   have z:AG (upd (upd H3 p (.lst (AK a b c))) T2 (.tup [.int (1 + d)])) p:=(AG.set a b c).other ((AG.set (H:=H3) a b c).ne Tb);exact z.other (z.ne hT)
  have k4:∀ b' o,b' ≠ p->H' b'=some o->(upd (upd (upd H3 p (.lst (AK a b c))) T2 (.tup [.int (1 + d)])) T (.tup [.str (BZ q.1 q.2),.str (Cc q.1 q.2),.int (1 + d)])) b'=some o:=fun b' o hb z=>Ac hT _ _ (Ac Tb _ _ (by rw [Ae hb]; exact s1 _ _ z))
  have Lv:(upd (upd (upd H3 p (.lst (AK a b c))) T2 (.tup [.int (1 + d)])) T (.tup [.str (BZ q.1 q.2),.str (Cc q.1 q.2),.int (1 + d)])) T=some (.tup [.str (BZ q.1 q.2),.str (Cc q.1 q.2),.int (1 + d)]):=Ab;show B _ _ (upd (upd (upd H3 p (.lst (AK a b c))) T2 (.tup [.int (1 + d)])) T (.tup [.str (BZ q.1 q.2),.str (Cc q.1 q.2),.int (1 + d)]))
  generalize upd (upd (upd H3 p (.lst (AK a b c))) T2 (.tup [.int (1 + d)])) T (.tup [.str (BZ q.1 q.2),.str (Cc q.1 q.2),.int (1 + d)])=H5 at P4 k4 Lv;have ZQ:=k4 _ _ nD AR;have nT:T ≠ D:=C0 Lv ZQ (fun z=>by cases z);refine hB _ _ _ ZQ ⟨_,ls ++ [1 + d],rfl,P4.other nD,fun b' o hb z=>by rw [Ae (Ah z hD)]; exact k4 _ _ hb (kp _ _ hb z),Ab,by rw [eY,al]; rfl,by rw [eY,ll]; rfl,fun l hl=>?_,?_⟩
  ·rcases fq.mp hl with hl | hl
   ·exact lb l hl
   ·rw [fo.mp hl]; lia
  ·rw [LG (a:=q) (by rw [ll]; exact eq),fg,fg];refine BK (CY dd fun b' ys z=>?_) (.cons (.tup (vs:=[.str (BZ q.1 q.2),.str (Cc q.1 q.2),.int (1 + d)]) (by rw [Ae nT]; exact Lv) ?_) .nil)
   ·rw [Ae (C0 z AR (fun y=>by cases y))];exact k4 _ _ (by intro y; subst y; obtain ⟨_,_,_,y⟩:=P2; rw [y] at z; cases z) z
   ·show A2 _ _ [.str (BZ q.2 q.1),.str (Cc q.2 q.1),.int (1 + d)]
    rw [PZ q.2 q.1,Qb q.2 q.1];exact .cons (.str _) (.cons (.str _) (.cons (.int _) .nil))
 ·rintro D σ H' acc hD ⟨v0,ls,rfl,P2,kp,AR,al,ll,lb,dd⟩;have nD:=P1.ne hD;refine ⟨D,acc,_,rfl,Ba.of AR,dd,(by lia),fun l Fp Hf hl MQ pm=>⟨l,_,rfl,.inl ⟨Ba.of Ab,fun T hT=>?_⟩⟩⟩;have s1:=(Ac (o:=.lst Fp) hl).trans (Ac (o:=.tup Fp) hT);refine k _ T Fp Hf ((qs.zip ls).map fun c=>(c.1.2,c.1.1,c.2)) (by obtain ⟨_,_,_,z⟩:=P2; exact ⟨_,_,_,s1 _ _ z⟩) (kp.trans (AM.of_same s1)) Ab (CY MQ fun b ys z=>s1 _ _ z) (by rw [gL]; exact pm) (wc.lens ?_ ?_) ?_ ?_
  ·rw [eU,i3,eU];lia
  ·intro i u u' e1 e2;rw [eZ] at e1 e2;cases z:qs[i]? with
   | none=>rw [z] at e1; cases e1
   | some q=>
    rw [z] at e1;cases e1
    have hi:=(fh.mp z).1;have el:ls[i]? = some (ls[i]'(by lia)):=eR _;have ez:(qs.zip ls)[i]? = some (q,ls[i]'(by lia)):=gM.mpr ⟨z,el⟩;rw [ez] at e2;cases e2
    exact ⟨rfl,rfl,(lb _ (eW el)).1⟩
  ·intro u hu;obtain ⟨⟨q,l⟩,hc,rfl⟩:=fi.mp hu;exact (lb l (ja hc).2).2
  ·rw [eU,i3];lia
theorem Mm (h_int:mg "int"=none) (h_len:mg "len"=none) (h_range:mg "range"=none) (h_sorted:mg "sorted"=none) (h_tuple:mg "tuple"=none) {fT:Addr} {fdT:FuncData} (XT:Fn K mg "_law_take" Bw ["_law_pen_here","_law_many"] fT fdT) (GT:A8 P w K mg base B0 1 fT fdT ["_law_pen_here","_law_many"] D5) {f:Addr} {fd:FuncData} (F:DT K "_law_ways" "_law_ways" Ck f fd):A8 P w K mg base B0 2 f fd ["_law_pen_here","_law_names_here","_law_kind"] Of:=by
 refine F.ok EL (fun vs H Q E h=>?_) (fun cdv A outer s H vs Q E hr h=>?_)
 ·obtain ⟨p,e,xs,kd,rfl,_⟩:=h;rfl
 ·obtain ⟨p,e,xs,kd,rfl,P0,he,nep,xnd,xnm,x1,x26,k⟩:=h;have nd:=EL.nd;have hu:=Dm hr;have Lp:=hr.units;obtain ⟨tE,hE,kE⟩:=QG (P:=P) (w:=w) (K:=K) (mg:=mg) (base:=base) h_sorted h_tuple XT GT (f:=f) (cdv:=cdv) (A:=A) (outer:=outer) (s:=s) (H:=H) (E:=E) hr;have big:100000 < sizeLine:=by decide
  refine ⟨_,(Af (Ax (i:=3) nd rfl (Or.inr rfl) (A3 Bu (B5 (Aa Ag (Aa Ag (Aa Ag (Aa Ag Ad))))) (An GT (hr.mono (by decide)) (by rfl) XT.mg XT.F.kp XT.b .nil A1 (Aa (pv 0) (Aa Ag Ad))) (fun _ _=>rfl)))
  (Af (Ax (i:=4) nd rfl (Or.inl rfl) (B5 Ad))
  (Af (Cm PassesOwn.never rfl (PK (by rfl) h_range (Aa Ag (Aa (Ao Bp (by rfl) h_len PySem.boot_len (Aa (pv 1) Ad)) Ad))) (Ai (i:=5) nd rfl (Or.inl rfl))
  (Af (Ax (i:=6) nd rfl (Or.inl rfl) (A3 Bu (B5 (Aa (Aw EO (pv 5) Ag) (Aa (An GT (hr.mono (by decide)) (by rfl) XT.mg XT.F.kp XT.b .nil A1 (Aa (pv 0) (Aa (pv 5) Ad))) Ad))) (AQ Kz (by rfl) h_int PyProof.Rows.boot_int (Aa (CQ op_gt (pv 2) Ag (BL _)) Ad)) (fun _ _=>rfl)))
  (Ak (Ci (Ea PySem.F.plainAttrs_list PySem.F.slot_list_append PySem.F.type_list_append Bj (pv 4) (Aa (Au (Aa (A3 Bu (pv 1) (pv 5) (fun _ _=>rfl)) (Aa (A3 Bu (pv 1) (pv 6) (fun _ _=>rfl)) Ad))) Ad))))))
  (Af (C9 (B9 Kn (pv 2) Ag (BL _))
  (Ak (Cm PassesOwn.never rfl (DY (by rfl) h_range (Aa (An GT (hr.mono (by decide)) (by rfl) XT.mg XT.F.kp XT.b .nil A1 (Aa (pv 0) (Aa Ag Ad))) Ad)) (Ai (i:=5) nd rfl (Or.inl rfl))
  (Af (Ax (i:=7) nd rfl (Or.inl rfl) (A3 Bu (pv 1) (An GT (hr.mono (by decide)) (by rfl) XT.mg XT.F.kp XT.b .nil A1 (Aa (pv 0) (Aa (Ao Bp (by rfl) h_len PySem.boot_len (Aa (pv 1) Ad)) Ad))) (fun _ _=>rfl)))
  (Af (Ax (i:=6) nd rfl (Or.inl rfl) (A3 Bu (pv 1) (An GT (hr.mono (by decide)) (by rfl) XT.mg XT.F.kp XT.b .nil A1 (Aa (pv 0) (Aa (Ao Bp (by rfl) h_len PySem.boot_len (Aa (pv 1) Ad)) Ad))) (fun _ _=>rfl)))
  (Ak (C9 (Nm (B9 RM (pv 7) (pv 6) (BL _)) (Nm (B9 (Fy Lp) (Au (Aa (pv 7) (Aa (pv 6) Ad))) (pv 4) (by rfl)) (O0 (B9 (Fy Lp) (Au (Aa (pv 6) (Aa (pv 7) Ad))) (pv 4) (by rfl))))).pt
  (Ak (Ci (Ea PySem.F.plainAttrs_list PySem.F.slot_list_append PySem.F.type_list_append Bj (pv 4) (Aa (Au (Aa (pv 7) (Aa (pv 6) Ad))) Ad))))
  BB))))))
  BB)
  hE)))),?_⟩
  refine ⟨(by show 4<=sizeLine; lia),fun T4 bg=>?_⟩;have n4:T4 ≠ p:=P0.ne bg;refine ⟨_,rfl,p,4,rfl,P0.other n4,by decide,by decide,fun e4 a1 b1 c1 e4a e4b=>?_⟩;obtain ⟨sz,hsz⟩:=SF (ns:=[1,2,4,9]) e4a e4b;have szb:1<=sz/\sz<=9:=by
   have:=L4 hsz;simp only [fU,ir,eX,V.int.injEq,ff,or_false] at this;rcases this with rfl | rfl | rfl | rfl <;> lia
  exists T4,_,_,.int sz,rfl,rfl,Ba.of (by rw [Ae n4]; exact Ab),hsz;have P1:AG (upd (upd H T4 (.lst [.int 1,.int 2,.int 4,.int 9])) p (.lst (AK a1 b1 c1))) p:=AG.set _ _ _;have q1:AM p H (upd (upd H T4 (.lst [.int 1,.int 2,.int 4,.int 9])) p (.lst (AK a1 b1 c1))):=(AM.of_same (Ac bg)).trans AM.upd;generalize upd (upd H T4 (.lst [.int 1,.int 2,.int 4,.int 9])) p (.lst (AK a1 b1 c1))=H1 at P1 q1;refine ⟨(by show 0<=sizeLine; lia),fun L hL=>?_⟩;have nL:L ≠ p:=P1.ne hL;have Yk:=q1 _ _ nep he;have neL:e ≠ L:=Ah Yk hL;have s2:=Ac (o:=.lst []) hL;exists _,rfl,e,_,rfl,.inl (Ba.of (s2 _ _ Yk)),_,_,rfl,⟨by lia,by lia,by rw [eU]; lia,by rw [eU]; lia⟩
  refine Eh (lo:=1) (fun j σ H'=>∃ (v5 v6 v7:Option V) (us:List V) (qs:List (Str × Str)),σ=[some (.ref p),some (.ref e),some (.int kd),some (.int sz),some (.ref L),v5,v6,v7]/\AG H' p/\(∀ b o,b ≠ p->b ≠ L->H1 b=some o->H' b=some o)/\H' L=some (.lst us)/\Dz H' us (qs.map Eb)/\us.length=j/\L7 xs (j + 1) (qs.map Mh))
   ⟨_,_,_,[],[],rfl,P1.other nL,fun b o _ hb z=>s2 _ _ z,Ab,.nil,rfl,L7.nil xs⟩ ?_ ?_
  ·rintro j σ H' hj ⟨v5,v6,v7,us,qs,rfl,P2,k2,Sq,tU,ul,tr⟩;rw [eU] at hj;have Lq:j + 1 < xs.length:=by lia
   have cZ:=k2 _ _ nep neL Yk;have ql:qs.length=j:=by rw [<-ul,tU.len,eU]
   refine ⟨_,rfl,_,_,rfl,rfl,_,rfl,_,rfl,p,_,rfl,P2,by lia,by lia,fun d a2 b2 c2 d0 d1=>⟨(by show 2<=sizeLine; lia),fun T2 Tb=>?_⟩⟩;have P3:AG (upd (upd H' p (.lst (AK a2 b2 c2))) T2 (.lst [.int (1 + (j:Int) - 1),.int d])) p:=(AG.set a2 b2 c2).other ((AG.set (H:=H') a2 b2 c2).ne Tb);have k3:∀ b o,b ≠ p->H' b=some o->(upd (upd H' p (.lst (AK a2 b2 c2))) T2 (.lst [.int (1 + (j:Int) - 1),.int d])) b=some o:=fun b o hb z=>Ac Tb _ _ (by rw [Ae hb]; exact z)
   have ZA:(upd (upd H' p (.lst (AK a2 b2 c2))) T2 (.lst [.int (1 + (j:Int) - 1),.int d])) T2=some (.lst [.int (1 + (j:Int) - 1),.int d]):=Ab;generalize upd (upd H' p (.lst (AK a2 b2 c2))) T2 (.lst [.int (1 + (j:Int) - 1),.int d])=H3 at P3 k3 ZA;obtain ⟨o,hv,o0⟩:∃ o:Nat,Gu [V.int (1 + (j:Int) - 1),V.int d] (if decide ((0:Int) < kd)=true then 1 else 0)=some (.int (o:Int))/\o < j + 1:=by
    by_cases z:decide ((0:Int) < kd)=true
    ·rw [if_pos z];obtain ⟨o,rfl⟩:∃ o:Nat,d=(o:Int):=⟨d.toNat,by lia⟩
     exact ⟨o,rfl,by lia⟩
    ·rw [if_neg z,show 1 + (j:Int) - 1=((j:Nat):Int) by lia];exact ⟨j,rfl,by lia⟩
   refine ⟨_,rfl,_,_,rfl,rfl,.inr ⟨_,rfl,T2,_,_,_,rfl,rfl,Ba.of ZA,hv,?_⟩⟩;have Yj:=k3 _ _ nep cZ;have Ut:=k3 _ _ nL Sq;have ea:(xs.map V.str)[j + 1]? = some (.str xs[j + 1]):=by rw [eZ,eR Lq]; rfl
   have eo:(xs.map V.str)[o]? = some (.str (xs[o]'(by lia))):=by rw [eZ,eR (by lia)]; rfl
   have e1j:(1 + (j:Int))=((j + 1:Nat):Int):=by lia
   refine ⟨_,rfl,.inl ⟨rfl,_,Ba.of Ut⟩,_,rfl,_,rfl,e,_,_,_,rfl,rfl,Ba.of Yj,(by rw [e1j]; exact BF ea),_,rfl,_,rfl,e,_,_,_,rfl,rfl,Ba.of Yj,BF eo,(by show 2<=sizeLine; lia),fun T hT=>⟨L,_,_,rfl,rfl,Ac hT _ _ Ut,by lia,?_⟩⟩;have sT:=Ac (o:=.tup [.str xs[j + 1],.str (xs[o]'(by lia))]) hT;have nT:T ≠ L:=C0 Ab (sT _ _ Ut) (fun z=>by cases z);have kT:∀ b ys,H' b=some (.tup ys)->(upd (upd H3 T (.tup [.str xs[j + 1],.str (xs[o]'(by lia))])) L (.lst (us ++ [.ref T]))) b=some (.tup ys):=fun b ys z=>by
    rw [Ae (C0 z Sq (fun y=>by cases y))];exact sT _ _ (k3 _ _ (by intro y; subst y; obtain ⟨_,_,_,y⟩:=P2; rw [y] at z; cases z) z)
   exists _,_,_,us ++ [.ref T],qs ++ [(xs[j + 1],xs[o]'(by lia))],rfl,(P3.other (P3.ne hT)).other nL,fun b o' hb HR z=>by rw [Ae HR]; exact sT _ _ (k3 _ _ hb (k2 _ _ hb HR z)),Ab,?_,by rw [eY,ul]; rfl
   ·rw [fg];exact (tU.keep kT).app (.cons (by rw [Ae nT]; exact Ab) .nil)
   ·rw [fg];exact tr.more xnd Lq [o] (by simp) (by intro y hy; rw [fo.mp hy]; exact o0) (by simp) rfl (fun q u y e1 e2=>by
     cases q with
     | zero=>
      simp at e1 e2;subst e1 e2;exact ⟨eR _,eR _,gJ _⟩
     | succ q=>simp at e2)
  ·rintro σ H' ⟨v5,v6,v7,us,qs,rfl,P2,k2,Sq,tU,ul,tr⟩;have jx:(((xs.map V.str).length:Int) - 1).toNat + 1=xs.length:=by rw [eU]; lia
   rw [jx] at tr;have wc:=(tr.ways xnd).c;have ul':us.length<=25:=by rw [ul,eU]; lia
   have last:∀ (H':Hp) (v5 v6 v7:Option V) (us:List V) (qs:List (Str × Str)) (D:Gr),(∀ v H',D.rt v H' ↔ Q v H')->AG H' p->(∀ b o,b ≠ p->b ≠ L->H1 b=some o->H' b=some o)->H' L=some (.lst us)->Dz H' us (qs.map Eb)->Du xs (qs.map Mh)->us.length<=30->tE D [some (.ref p),some (.ref e),some (.int kd),some (.int sz),some (.ref L),v5,v6,v7] H':=fun H' v5 v6 v7 us qs D hD P3 k3 Ut Yz XH bJ=>by
    refine kE D H' p e L kd sz v5 v6 v7 us qs xs P3 Ut nL Yz XH bJ szb.1 szb.2 fun H2 T LA ws Gv P4 k4 hT dd pm w0 l9 l30=>(hD _ _).mpr ?_
    exact k H2 T LA ws Gv P4 (fun b o hb z=>k4 b o hb (k3 b o hb (Ah (q1 _ _ hb z) hL) (q1 _ _ hb z))) hT dd pm w0 l9 l30
   exists _,rfl,rfl,_,rfl;refine DP (fun _=>?_) (fun _=>last _ _ _ _ us qs _ (fun _ _=>Iff.rfl) P2 k2 Sq tU wc (by lia));refine ⟨_,rfl,p,5,rfl,P2,by decide,by decide,fun d a2 b2 c2 d0 d1=>⟨_,rfl,by lia,by lia,?_⟩⟩;refine Eh (lo:=0) (fun j σ H'=>∃ (v5 v6 v7:Option V) (us:List V) (qs:List (Str × Str)),σ=[some (.ref p),some (.ref e),some (.int kd),some (.int sz),some (.ref L),v5,v6,v7]/\AG H' p/\(∀ b o,b ≠ p->b ≠ L->H1 b=some o->H' b=some o)/\H' L=some (.lst us)/\Dz H' us (qs.map Eb)/\us.length<=25 + j/\Du xs (qs.map Mh))
    ⟨_,_,_,us,qs,rfl,AG.set _ _ _,fun b o hb HR z=>by rw [Ae hb]; exact k2 b o hb HR z,by rw [Ae nL]; exact Sq,tU.keep fun b ys z=>by rw [Ae (by intro y; subst y; obtain ⟨_,_,_,y⟩:=P2; rw [y] at z; cases z)]; exact z,by lia,wc⟩ ?_ ?_
   ·rintro j σ H3 hj ⟨v5,v6,v7,us,qs,rfl,P3,k3,Ut,Yz,bJ,XH⟩;have Yj:=k3 _ _ nep neL Yk;have xl0:(0:Int) < ((xs.map V.str).length:Int):=by rw [eU]; lia
    have xlB:((xs.map V.str).length:Int) < 2 ^ 600:=by rw [eU]; lia
    refine ⟨_,rfl,_,rfl,_,rfl,e,_,rfl,.inl (Ba.of Yj),p,_,rfl,P3,xl0,xlB,fun g a3 b3 c3 g0 g1=>?_⟩;rw [eU] at g1;obtain ⟨gn,rfl⟩:∃ n:Nat,g=n:=⟨g.toNat,by lia⟩
    have hgn:gn < xs.length:=by lia
    have eg:(xs.map V.str)[gn]? = some (.str xs[gn]):=by rw [eZ,eR hgn]; rfl
    have P4:AG (upd H3 p (.lst (AK a3 b3 c3))) p:=AG.set _ _ _;have k4:∀ b o,b ≠ p->H3 b=some o->(upd H3 p (.lst (AK a3 b3 c3))) b=some o:=fun b o hb z=>by rw [Ae hb]; exact z
    generalize upd H3 p (.lst (AK a3 b3 c3))=H4 at P4 k4;have he4:=k4 _ _ nep Yj;exists e,_,_,_,rfl,rfl,Ba.of he4,BF eg;refine ⟨_,rfl,_,rfl,_,rfl,e,_,rfl,.inl (Ba.of he4),p,_,rfl,P4,xl0,xlB,fun h a4 b4 c4 h0 h1=>?_⟩;rw [eU] at h1;obtain ⟨hn,rfl⟩:∃ n:Nat,h=n:=⟨h.toNat,by lia⟩
    have hhn:hn < xs.length:=by lia
    have eh:(xs.map V.str)[hn]? = some (.str xs[hn]):=by rw [eZ,eR hhn]; rfl
    have P5:AG (upd H4 p (.lst (AK a4 b4 c4))) p:=AG.set _ _ _;have k5:∀ b o,b ≠ p->H3 b=some o->(upd H4 p (.lst (AK a4 b4 c4))) b=some o:=fun b o hb z=>by rw [Ae hb]; exact k4 _ _ hb z
    generalize upd H4 p (.lst (AK a4 b4 c4))=H5 at P5 k5;have he5:=k5 _ _ nep Yj;exists e,_,_,_,rfl,rfl,Ba.of he5,BF eh;have m1:xs[gn] ∈ xs:=gI hgn;have m2:xs[hn] ∈ xs:=gI hhn;generalize xs[gn]=o1 at m1;generalize xs[hn]=o2 at m2;have So:=k5 _ _ nL Ut;have np:∀ {HH:Hp} {b:Addr} {ys:List V},AG HH p->HH b=some (.tup ys)->b ≠ p:=fun P z y=>by subst y; obtain ⟨_,_,_,y⟩:=P; rw [y] at z; cases z
    have ax:Dz H5 us (qs.map Eb):=Yz.keep fun b ys z=>k5 _ _ (np P3 z) z
    exists _,rfl,_,rfl,rfl,_,rfl;have inv:∀ {H6:Hp} (v5 v6 v7:Option V),Aq H5 H6->∃ (v5' v6' v7':Option V) (us:List V) (qs:List (Str × Str)),[some (.ref p),some (.ref e),some (.int kd),some (.int sz),some (.ref L),v5,v6,v7]=[some (.ref p),some (.ref e),some (.int kd),some (.int sz),some (.ref L),v5',v6',v7']/\AG H6 p/\(∀ b o,b ≠ p->b ≠ L->H1 b=some o->H6 b=some o)/\H6 L=some (.lst us)/\Dz H6 us (qs.map Eb)/\us.length<=25 + (j + 1)/\Du xs (qs.map Mh):=fun v5 v6 v7 s6=>
     ⟨_,_,_,us,qs,rfl,by obtain ⟨_,_,_,z⟩:=P5; exact ⟨_,_,_,s6 _ _ z⟩,fun b o hb HR z=>s6 _ _ (k5 _ _ hb (k3 b o hb HR z)),s6 _ _ So,ax.keep (fun b ys z=>s6 _ _ z),by lia,XH⟩
    refine DP (fun z1=>?_) (fun _=>BO (inv _ _ _ fun b o z=>z));have RP:o1 ≠ o2:=by
     intro y;subst y;simp at z1
    refine ⟨_,rfl,_,rfl,(by show 2<=sizeLine; lia),fun T1 WX=>?_⟩;have t1:=Ac (o:=.tup [.str o1,.str o2]) WX;exists _,rfl,T1,L,[o1,o2],us,qs.map Eb,rfl,rfl,Ab,t1 _ _ So,ax.keep (fun b ys z=>t1 _ _ z),_,rfl;refine DP (fun z2=>?_) (fun _=>BO (inv _ _ _ t1));refine ⟨_,rfl,_,rfl,(by show 2<=sizeLine; lia),fun T2 Tb=>?_⟩;have t2:=t1.trans (Ac (o:=.tup [.str o2,.str o1]) Tb);exists _,rfl,T2,L,[o2,o1],us,qs.map Eb,rfl,rfl,Ab,t2 _ _ So,ax.keep (fun b ys z=>t2 _ _ z),_,rfl;refine DP (fun z3=>?_) (fun _=>inv _ _ _ t2);have y2:[o1,o2] ∉ qs.map Eb:=by simpa using z2
    have y3:[o2,o1] ∉ qs.map Eb:=by simpa using z3
    generalize upd (upd H5 T1 (.tup [.str o1,.str o2])) T2 (.tup [.str o2,.str o1])=H6 at t2;have V2:=t2 _ _ So;refine ⟨_,rfl,.inl ⟨rfl,_,Ba.of V2⟩,_,rfl,_,rfl,(by show 2<=sizeLine; lia),fun T hT=>⟨L,_,_,rfl,rfl,Ac hT _ _ V2,by lia,?_⟩⟩;have sT:=t2.trans (Ac (o:=.tup [.str o1,.str o2]) hT);have nT:T ≠ L:=C0 Ab (sT _ _ So) (fun z=>by cases z);exists _,_,_,us ++ [.ref T],qs ++ [(o1,o2)],rfl,(by obtain ⟨_,_,_,z⟩:=P5; exact ⟨_,_,_,by rw [Ae nL.symm]; exact sT _ _ z⟩),fun b o hb HR z=>by rw [Ae HR]; exact sT _ _ (k5 _ _ hb (k3 b o hb HR z)),Ab,?_,by rw [eY]; simp; lia
    ·rw [fg];refine (ax.keep fun b ys z=>?_).app (.cons (by rw [Ae nT]; exact Ab) .nil);rw [Ae (C0 z So (fun y=>by cases y))];exact sT _ _ z
    ·rw [fg];refine XH.snoc (x:=o2) (y:=o1) m2 m1 (fun y=>RP y.symm) (gJ _) fun u hu=>?_
     obtain ⟨q,hq,rfl⟩:=fi.mp hu;have w1:Eb q ∈ qs.map Eb:=fi.mpr ⟨q,hq,rfl⟩;rintro ⟨f1 | f1,f2 | f2⟩
     ·exact RP (f2.trans f1.symm)
     ·refine y2 ?_;rw [f1,f2];exact w1
     ·refine y3 ?_;rw [f1,f2];exact w1
     ·exact RP (f2.trans f1.symm)
   ·rintro σ H3 ⟨v5,v6,v7,us,qs,rfl,P3,k3,Ut,Yz,bJ,XH⟩;exact last _ _ _ _ us qs _ (fun _ _=>Iff.rfl) P3 k3 Ut Yz XH (by lia)
end
section
variable {P:Program} {w:World} {K:eV} {mg:Str->Option Value} {base:Heap}
theorem IM {f:Addr} {fd:FuncData} (F:DT K "neighbours" "neighbours" CJ f fd):A8 P w K mg base B0 1 f fd ["web"] (QV K):=by
 refine F.ok Fq (fun vs H Q E h=>?_) (fun cdv A outer s H vs Q E hr h=>?_)
 ·obtain ⟨q,ps,ws,r,rfl,_⟩:=h;rfl
 ·obtain ⟨q,ps,ws,r,rfl,ok,k⟩:=h;obtain ⟨tp,tw,us,hq,htp,htw,hD⟩:=ok.web.ex;have nd:=Fq.nd;have hu:=Dm hr;have big:1000 < sizeLine:=by decide
  have l30:=ok.l30;have l64:=ok.l64;refine ⟨_,Af (Dd (pv 0) (AX K rfl rfl (Aj (Ai (i:=1) nd rfl (Or.inl rfl)) (Aj (Ai (i:=2) nd rfl (Or.inl rfl)) AW))))
   (Af (R4 (ix:=3) (N:=["place"]) (σ0:=fun _=>[none]) nd rfl (Or.inl rfl) rfl (AF.plain (by decide +kernel) (by decide +kernel) rfl (by decide +kernel)) (fun σ _=>AU.none _ _ _ ["place"] σ) (Bc K rfl (pv 1))
    (fun s2 H C fp=>⟨Ai (i:=0) (show (["place"]:List Str).Nodup by decide +kernel) rfl (Or.inl rfl),AO,pv 0,Mg⟩))
   (Af (Cm PassesOwn.never rfl (Bc K rfl (pv 2)) (AX K rfl rfl (Aj (Ai (i:=4) nd rfl (Or.inl rfl)) (Aj (Ai (i:=5) nd rfl (Or.inl rfl)) (Aj (Ai (i:=6) nd rfl (Or.inl rfl)) AW))))
    (Af (DJ hu (Bl hu (pv 3) (pv 4) (fun _ _=>rfl)) (pv 5) (pv 6) rfl) (Ak (DJ hu (Bl hu (pv 3) (pv 5) (fun _ _=>rfl)) (pv 4) (pv 6) rfl))))
   (Ak (A7 (pv 3))))),?_⟩
  exists _,rfl,q,_,rfl,Az.of hq,rfl,_,_,rfl,_,_,rfl,rfl;refine ⟨_,rfl,tp,rfl,⟨_,Az.of htp⟩,fun C hC=>⟨fun i m Av H'=>m=ps.length - i/\i<=ps.length/\(∃ v,Av=[v])/\∃ ds:List Addr,Aq H H'/\ds.length=i/\ds.Nodup/\C ∉ ds/\(∀ d ∈ ds,H d=none/\H' d=some (.dK []))/\H' C=some (.dK (sK (O7 (ps.take i) ds))),
   ⟨_,rfl,gr _,⟨_,rfl⟩,[],Ac hC,rfl,.nil,by simp,by simp,Ab⟩,?_⟩⟩
  rintro i m Av H' ⟨rfl,hi,⟨v,rfl⟩,ds,s1,dl,dn,dC,dH,MP⟩;have N2:=s1 _ _ htp;by_cases B6:i < ps.length
  ·refine .inr ⟨⟨_,V.str ps[i],Az.of N2,by rw [eZ,eR B6]; rfl⟩,?_⟩;rintro x H6 ⟨rfl,hx⟩;have My:=hx _ (Az.of N2);rw [eZ,eR B6] at My;cases My
   have tl:(ps.take i).length=i:=by rw [fJ]; lia
   have np:ps[i] ∉ (O7 (ps.take i) ds).map (·.1):=by
    rw [IT (by lia)];intro hm;obtain ⟨j,hj,e⟩:=fY hm;rw [iP] at e;have:=Hu ok.nd (eR (show j < ps.length by lia)) (by rw [eR B6,e]);lia
   refine ⟨_,rfl,fun d hd=>⟨_,Sum.inr ps[i],rfl,Ac hd _ _ MP,?_,_,by lia,rfl,B6,⟨_,rfl⟩,ds ++ [d],fun b o z=>?_,by simp [dl],?_,?_,fun c hc=>?_,?_⟩⟩
   ·rw [CH];unfold O7;rw [eU,i3];lia
   ·rw [Ae (Ah z hC)];exact Ac hd _ _ (s1 _ _ z)
   ·refine iO.mpr ⟨dn,gG.mpr ⟨by simp,.nil⟩,fun a ha b hb=>?_⟩;have e:b=d:=by simpa using hb
    subst e;rintro rfl;rw [(dH _ ha).2] at hd;cases hd
   ·rw [fq,not_or];refine ⟨dC,fun hm=>?_⟩;have e:C=d:=by simpa using hm
    rw [<-e,MP] at hd;cases hd
   ·rcases fq.mp hc with hc | hc
    ·exists (dH c hc).1;rw [Ae (fun z=>dC (by rw [<-z]; exact hc))];exact Ac hd _ _ (dH c hc).2
    ·have e:c=d:=by simpa using hc
     subst e;exists s1.free hd;rw [Ae (fun z=>by rw [z,MP] at hd; cases hd)];exact Ab
   ·rw [Ab,DN np];have e1:ps.take (i + 1)=ps.take i ++ [ps[i]]:=by rw [fQ,eR B6]; rfl
    have e2:O7 (ps.take (i + 1)) (ds ++ [d])=O7 (ps.take i) ds ++ [(ps[i],.ref d)]:=by
     unfold O7;rw [e1,List.zip_append (by lia),fg];rfl
    rw [e2]
  ·have e0:i=ps.length:=by lia
   subst e0;rw [fZ] at MP;refine .inl ⟨⟨_,Az.of N2,by rw [eU]; exact fc _⟩,?_⟩;have NB0:NB H' C ps ds (LF (ws.take 0)) 0:=⟨MP,dl,dn,dC,fun j p d e1 e2=>⟨[],(dH d (eW e2)).2,fc _,fun y=>⟨fun z=>absurd z ff,fun ⟨u,hu,_⟩=>absurd hu ff⟩⟩⟩
   have eF:Te H' ps ds (BV (ws.take 0)):=fun j p d nv e1 e2 hr y v hy=>by
    have:nv=[]:=Rd.inj hr (.inl (dH d (eW e2)).2);subst this;cases hy
   have hwl:us.length=ws.length:=by rw [Jo hD,eU]
   refine ⟨_,rfl,tw,rfl,⟨_,Az.of (s1 _ _ htw)⟩,Sx (xs:=us) (fun i σ H2=>(∃ v4 v5 v6,σ=[some (.ref q),some (.ref tp),some (.ref tw),some (.ref C),v4,v5,v6])/\Aq H H2/\NB H2 C ps ds (LF (ws.take i)) (2 * i)/\Te H2 ps ds (BV (ws.take i))) ⟨⟨_,_,_,rfl⟩,s1,NB0,eF⟩ (fun i σ H2 _ hP=>Az.of (hP.2.1 _ _ htw)) (fun i x σ H2 hx hP rt bk=>?_) (fun σ H2 hP=>?_)⟩
   ·obtain ⟨⟨v4,v5,v6,rfl⟩,s2,nb,nbv⟩:=hP;obtain ⟨u,t,gu,rfl,ht⟩:=Gg hD hx;have Zx:i < ws.length:=(fh.mp gu).1;have aT:=ok.ends u (eW gu);exists t,_,rfl,Az.of (s2 _ _ ht),rfl,_,_,rfl,_,_,rfl,_,_,rfl,rfl;obtain ⟨j,d,nv,a1,a2,a3,a4,a5,a6⟩:=nb.get ok.nd aT.1;obtain ⟨Ef,b1,b2,b3⟩:=Ni nv u.2.1 (.int u.2.2);have dH1:∀ c ∈ ds,H c=none:=fun c hc=>(dH c hc).1
    exists _,rfl,_,rfl,_,rfl,C,_,rfl,?_,_,rfl,d,_,rfl,FF.k (k:=Sum.inr u.2.1) a4 (by rw [CH]; lia)
    ·have:=Cp.k (k:=Sum.inr u.1) nb.top;rw [a3] at this;exact this
    rw [b1];have Vd:=nb.put ok.nd a1 a2 a4 b2 b3 a6 a5;have YR:=nbv.put ok.nd nb.nd a1 a2 a4 b1 (fun _ _ _=>Qo) (M8 gu);have s3:Aq H (upd H2 d (.dK (sK Ef))):=fun b o z=>by
     rw [Ae (Ah z (dH1 d (eW a2)))];exact s2 _ _ z
    generalize upd H2 d (.dK (sK Ef))=H3 at Vd YR s3 ⊢;obtain ⟨j',d',mv,c1,c2,c3,c4,c5,c6⟩:=Vd.get ok.nd aT.2;obtain ⟨mv',e1,e2,e3⟩:=Ni mv u.1 (.int u.2.2);exists _,rfl,_,rfl,_,rfl,C,_,rfl,?_,_,rfl,d',_,rfl,FF.k (k:=Sum.inr u.1) c4 (by rw [CH]; lia)
    ·have:=Cp.k (k:=Sum.inr u.2.1) Vd.top;rw [c3] at this;exact this
    rw [e1];have nb3:=Vd.put ok.nd c1 c2 c4 e2 e3 c6 c5;have cE:=YR.put (Ed':=BV (ws.take (i + 1))) ok.nd Vd.nd c1 c2 c4 e1 (fun _ _ _ h=>h) (M8 gu).symm;refine ⟨⟨_,_,_,rfl⟩,fun b o z=>?_,nb3.mono (fun a b=>(SG gu a b).symm) (by lia),cE⟩;rw [Ae (Ah z (dH1 d' (eW c2)))];exact s3 _ _ z
   ·obtain ⟨⟨v4,v5,v6,rfl⟩,s2,nb,nbv⟩:=hP;rw [hwl,fZ] at nb nbv;exact ⟨_,rfl,k H2 C ds s2 (nb.mono (fun _ _=>Iff.rfl) (by lia)) nbv hC fun d hd=>(dH d hd).1⟩
end
section
variable {P:Program} {w:World} {K:eV} {mg:Str->Option Value} {base:Heap}
structure NbF (K:eV) (mg:Str->Option Value) (f:Addr) (fd:FuncData):Prop where
 F:DT K "neighbours" "neighbours" CJ f fd
 mg:mg "neighbours"=some (.ref f)
 b:HG K fd ["web"] []
theorem Nr {f fN:Addr} {fd fdN:FuncData} (NK:NbF K mg fN fdN) (hmi:mg "min"=none) (F:DT K "nearest" "nearest" Fd f fd):A8 P w K mg base B0 2 f fd ["web","starts"] (QU K):=by
 have GN:A8 P w K mg base B0 1 fN fdN ["web"] (QV K):=IM NK.F;refine F.ok Iz (fun vs H Q E h=>?_) (fun cdv A outer s H vs Q E hr h=>?_)
 ·obtain ⟨q,st,ps,ss,ws,r,rfl,_⟩:=h;rfl
 ·obtain ⟨q,st,ps,ss,ws,r,rfl,ok,pos,uniq,hst,ssne,ssn,sssub,k⟩:=h;have nd:=Iz.nd;have hu:=Dm hr;have Lp:=hr.units;have big:1000 < sizeLine:=by decide
  have l30:=ok.l30;have ssl:ss.length<=30:=by
   have:=Cg ssn sssub;lia
  refine ⟨_,Af (Ax (i:=2) nd rfl (Or.inl rfl) (An GN hr (by rfl) NK.mg NK.F.kp NK.b .nil A1 (Aa (pv 0) Ad)))
   (Af (Ax (i:=3) nd rfl (Or.inr rfl) (IG (N:=["start"]) (σ0:=fun _=>[none]) rfl (AF.plain (by decide +kernel) (by decide +kernel) rfl (by decide +kernel)) (fun σ _=>AU.none _ _ _ ["start"] σ) (PI.or (DZ K rfl (pv 1)) (Bc K rfl (pv 1)))
    (fun s2 H C fp=>⟨Ai (i:=0) (show (["start"]:List Str).Nodup by decide +kernel) rfl (Or.inl rfl),AO,pv 0,Au (Aa Ag (Aa (pv 0) Ad))⟩)))
   (Af (Ax (i:=4) nd rfl (Or.inl rfl) Mg)
   (Af (R3 PassesOwn.never (R1 (pv 3) (fun _=>rfl))
    (Af (Dd (TR (Ao (Jr rfl Lp) (by rfl) hmi PyProof.Rows.boot_min (Aa
      (Bf (N:=["name","reached"]) (σ0:=fun σ=>[none,some 3].map fun j=>j.bind fun j=>(σ[j]?).join) rfl
       (AF.caught (by rfl) (by decide +kernel) rfl (by decide +kernel) (by intro y hy; simp only [eX,ff,or_false] at hy; rcases hy with rfl <;> rfl)
        (by intro y hy e; simp only [eX,ff,or_false] at hy; rcases hy with rfl | rfl | rfl <;> first | exact ⟨_,rfl⟩ | cases e))
       (fun σ _=>AU.of [none,some 3] rfl (by
        intro i j x h1 h2;match i,h1,h2 with
        | 0,_,h2=>cases h2
        | 1,h1,h2=>cases h1; cases h2; exact ⟨rfl,.inl rfl,.inl rfl⟩
        | n + 2,h1,_=>cases h1)) (O5 (pv 3))
       (fun s2 H C fp=>⟨Ai (i:=0) (show (["name","reached"]:List Str).Nodup by decide +kernel) rfl (Or.inl rfl),AO,Au (Aa (Bl hu (pv 1) (pv 0) (fun _ _=>rfl)) (Aa (pv 0) Ad))⟩)) Ad)))
      (AX K rfl rfl (Aj (AX K rfl rfl (Aj (Ai (i:=5) nd rfl (Or.inl rfl)) (Aj (Ai (i:=6) nd rfl (Or.inl rfl)) AW))) (Aj (Ai (i:=7) nd rfl (Or.inl rfl)) AW))))
    (Af (TN (pv 3) (pv 7))
    (Af (DJ hu (pv 4) (pv 7) (Au (Aa (pv 5) (Aa (pv 6) Ad))) rfl)
    (Ak (Cm PassesOwn.never rfl (O5 (Bl hu (pv 2) (pv 7) (fun _ _=>rfl))) (Ai (i:=8) nd rfl (Or.inl rfl))
     (Ak (C9 (F1 (PM hu (pv 8) (pv 4)))
      (Af (Ax (i:=9) nd rfl (Or.inl rfl) (Au (Aa (Aw Bg (pv 5) (Bl hu (Bl hu (pv 2) (pv 7) (fun _ _=>rfl)) (pv 8) (fun _ _=>rfl))) (Aa (pv 6) Ad))))
      (Ak (DJ hu (pv 3) (pv 8) (Ao (JN rfl Lp) (by rfl) hmi PyProof.Rows.boot_min (Aa (pv 9) (Aa (RC hu (pv 3) (pv 8) (pv 9) ⟨rfl,rfl,rfl,rfl⟩) Ad))) rfl))) BB))))))))
   (Ak (A7 (pv 4)))))),?_⟩
  refine ⟨_,rfl,q,ps,ws,r,rfl,ok,fun H1 B ds s1 nb nbv hB hds=>?_⟩;have nbAt:∀ a,a ∈ ds->∃ u,H1 a=some u:=fun a hm=>by
   obtain ⟨i,hi,e⟩:=fY hm;have Zx:i < ps.length:=by rw [<-nb.len]; exact hi
   obtain ⟨nv,a1,_⟩:=nb.inner i ps[i] a (eR Zx) (by rw [eR hi,e]);exact ⟨_,a1⟩
  have V5:=nb.top;rcases hst with hst | hst
  case' inl=>
   refine .inl ⟨_,rfl,st,rfl,⟨_,Ba.of (s1 _ _ hst)⟩,fun RA hRA=>?_⟩
  case' inr=>
   refine .inr ⟨_,rfl,st,rfl,⟨_,Az.of (s1 _ _ hst)⟩,fun RA hRA=>?_⟩
  all_goals
   refine ⟨fun i m Av H'=>m=ss.length - i/\i<=ss.length/\(∃ v,Av=[v])/\∃ nv:List (Str × V),Aq H1 H'/\H' RA=some (.dK (sK nv))/\nv.map (·.1)=ss.take i/\∀ y v,(y,v) ∈ nv->Jv H' v (0,y),
    ⟨_,rfl,gr _,⟨_,rfl⟩,[],Ac hRA,Ab,rfl,fun y v hy=>absurd hy ff⟩,?_⟩
   rintro i m Av H' ⟨rfl,hi,⟨v,rfl⟩,nv,s2,MP,nk,np⟩;have N3:=s2 _ _ (s1 _ _ hst);by_cases B6:i < ss.length
   ·refine .inr ⟨⟨_,V.str ss[i],by first | exact Ba.of N3 | exact Az.of N3,by rw [eZ,eR B6]; rfl⟩,?_⟩;rintro x H6 ⟨rfl,hx⟩;have My:=hx _ (by first | exact Ba.of N3 | exact Az.of N3);rw [eZ,eR B6] at My;cases My
    have nn:ss[i] ∉ nv.map (·.1):=by
     rw [nk];intro hm;obtain ⟨j,hj,e⟩:=fY hm;rw [fJ] at hj;rw [iP] at e;have:=Hu ssn (eR (show j < ss.length by lia)) (by rw [eR B6,e]);lia
    have nl:nv.length=i:=by
     have:=congrArg gK nk;rw [eU,fJ] at this;lia
    refine ⟨_,rfl,_,rfl,(by show 2<=sizeLine; lia),fun t ht=>⟨_,Sum.inr ss[i],rfl,Ac ht _ _ MP,by rw [CH]; lia,_,by lia,rfl,B6,⟨_,rfl⟩,nv ++ [(ss[i],.ref t)],fun b o z=>?_,by rw [Ab,DN nn],?_,fun y v hy=>?_⟩⟩
    ·rw [Ae (Ah z hRA)];exact Ac ht _ _ (s2 _ _ z)
    ·rw [fg,nk,fQ,eR B6]; rfl
    ·have tk:∀ b xs,(upd H6 t (.tup [.int 0,.str ss[i]])) b=some (.tup xs)->(upd (upd H6 t (.tup [.int 0,.str ss[i]])) RA (.dK (BJ (sK nv) (Sum.inr ss[i]:Bh) (.ref t)))) b=some (.tup xs):=fun b xs z=>by
      rw [Ae (C0 z (Ac ht _ _ MP) (by intro z; cases z))]; exact z
     rcases fq.mp hy with hy | hy
     ·exact (np y v hy).same fun b xs z=>tk b xs (Ac ht _ _ z)
     ·simp only [fo,Prod.mk.injEq] at hy;obtain ⟨rfl,rfl⟩:=hy;exact ⟨t,rfl,tk _ _ Ab⟩
   ·have e0:i=ss.length:=by lia
    subst e0;rw [fZ] at nk;refine .inl ⟨⟨_,by first | exact Ba.of N3 | exact Az.of N3,by rw [eU]; exact fc _⟩,fun SA hSA=>?_⟩;have sS:=Ac (o:=.dK []) hSA;have aR:RA ∉ ds/\RA ≠ B/\RA ≠ SA/\H RA=none:=⟨(fun hm=>by obtain ⟨u,e⟩:=nbAt RA hm; rw [hRA] at e; cases e),(fun z=>by rw [z,V5] at hRA; cases hRA),(fun z=>by rw [<-z,MP] at hSA; cases hSA),s1.free hRA⟩
    have aS:SA ∉ ds/\SA ≠ B/\SA ≠ RA/\H SA=none:=⟨(fun hm=>by obtain ⟨u,e⟩:=nbAt SA hm; rw [s2 _ _ e] at hSA; cases hSA),(fun z=>by rw [z,s2 _ _ V5] at hSA; cases hSA),(fun z=>aR.2.2.1 z.symm),(s1.trans s2).free hSA⟩
    have s3:Aq H1 (upd H' SA (.dK [])):=s2.trans sS;have N0:NI H (upd H' SA (.dK [])) ps ws B RA SA ds nv [] (fun _ _=>False) (fun y p=>y ∈ ss/\p=(0,y)):=by
     refine ⟨s1.trans s3,nb.r.same s3,nbv.of nb.r (fun d _ nv z=>by rcases z with a | ⟨o,a⟩; exact .inl (s3 _ _ a); exact .inr ⟨o,s3 _ _ a⟩),sS _ _ MP,Ab,⟨by rw [nk]; exact ssn,fun y v hy=>⟨(0,y),(np y v hy).same fun b xs z=>sS _ _ z,by rw [<-nk]; exact fi.mpr ⟨_,hy,rfl⟩,rfl⟩,fun y p hp=>?_⟩,⟨.nil,fun y v hy=>absurd hy ff,fun y p hp=>hp.elim⟩,fun y hy=>sssub y (by rw [<-nk]; exact hy),fun y hy=>absurd hy ff⟩;obtain ⟨hy,rfl⟩:=hp;rw [<-nk] at hy;obtain ⟨⟨z,v⟩,a,b⟩:=fi.mp hy;have b':z=y:=b;subst b';exact ⟨v,a,(np z v a).same fun b xs z=>sS _ _ z⟩
    have D0:UJ ws ss (fun _ _=>False) (fun y p=>y ∈ ss/\p=(0,y)):=⟨fun _ _ h=>h.elim,fun y p ⟨h1,h2⟩=>by subst h2; exact ⟨h1,.nil y⟩,fun _ _ _ _ h=>h.elim,fun s hs=>.inr ⟨(0,s),⟨hs,rfl⟩,Dx.refl _⟩⟩
    clear MP N3 np;generalize upd H' SA (.dK [])=H5 at N0 ⊢;refine ⟨fun m σ H2=>∃ nvR nvS S R v5 v6 v7 v8 v9,m=ps.length - nvS.length/\σ=[some (.ref q),some (.ref st),some (.ref B),some (.ref RA),some (.ref SA),v5,v6,v7,v8,v9]/\NI H H2 ps ws B RA SA ds nvR nvS S R/\UJ ws ss S R/\∀ y p,R y p->∀ q,¬ S y q,
     ⟨_,nv,[],_,_,_,_,_,_,_,rfl,rfl,N0,D0,fun _ _ _ _ h=>h⟩,?_⟩
    clear N0 D0 hSA sS s3 s2 nk;rintro m σ H2 ⟨nvR,nvS,S,R,v5,v6,v7,v8,v9,rfl,rfl,N,Dj,dis⟩;exists _,rfl,_,.inr (.inr ⟨_,N.dR,rfl⟩);by_cases hne:nvR=[]
    ·subst hne;refine BO ?_;have all:∀ x ∈ ps,∃ q,S x q:=Dj.done (fun y p h=>by obtain ⟨v,a,_⟩:=N.pR.2.2 y p h; cases a) ssne ok.con (fun T x hx tx cl=>ok.con (fun z=>T z->T r) (fun h=>h) (fun a b hab h tb=>h (cl b a hab.symm tb)) x hx tx) sssub;refine ⟨_,rfl,k H2 SA nvS N.same aS.2.2.2 N.dS N.pS.1 (fun x=>⟨N.subS x,fun hx=>N.inS.mpr (all x hx)⟩) fun y v hy=>?_⟩;obtain ⟨p,h1,h2⟩:=N.pS.2.1 y v hy;exact ⟨p,h1,Dj.near y p h2⟩
    ·have cW:(!(sK nvR).isEmpty)=true:=by cases nvR with
      | nil=>exact absurd rfl hne
      | cons=>rfl
     rw [cW];refine CS ?_;obtain ⟨NN,hNN⟩:∃ NN:St->Hp->Prop,NN=fun Av H'=>∃ m',m' < ps.length - nvS.length/\∃ nvR nvS S R v5 v6 v7 v8 v9,m'=ps.length - nvS.length/\Av=[some (.ref q),some (.ref st),some (.ref B),some (.ref RA),some (.ref SA),v5,v6,v7,v8,v9]/\NI H H' ps ws B RA SA ds nvR nvS S R/\UJ ws ss S R/\∀ y p,R y p->∀ q,¬ S y q:=⟨_,rfl⟩
     exists NN,fun Av H' z=>by rw [hNN] at z; exact z
     have lR:=N.lenR;have lS:=N.lenS;refine ⟨_,rfl,RA,_,rfl,.inl N.dR,fun o H3 fz C hC=>?_⟩;have fz':H3=upd H2 RA (.frz o (.dK (sK nvR))):=by
      rcases fz with ⟨_,e⟩ | ⟨e,_⟩
      ·exact e
      ·rw [N.dR] at e; cases e
     have hR3:=fz.at;have bK:∀ b xs,H2 b=some (.tup xs)->H3 b=some (.tup xs):=fun b xs z=>by
      rw [fz.ne (C0 z N.dR (by intro z; cases z))]; exact z
     refine ⟨fun i m Av H'=>m=nvR.length - i/\i<=nvR.length/\(∃ v,Av=[v,some (.ref RA)])/\∃ (acc:List V) (ks:List ((Int × Str) × Str)),Aq H3 H'/\H' C=some (.lst acc)/\acc.length=i/\ks.length=i/\(∀ (j:Nat) v k,acc[j]? = some v->ks[j]? = some k->VN H' v k)/\(∀ (j:Nat) y v,j < i->nvR[j]? = some (y,v)->∃ p,Jv H3 v p/\ks[j]? = some (p,y)),
      ⟨_,rfl,gr _,⟨_,rfl⟩,[],[],Ac hC,Ab,rfl,rfl,fun j v k h=>(by simp at h),fun j y v hj=>absurd hj (hV _)⟩,?_⟩
     rintro i m Av H' ⟨rfl,hi,⟨v,rfl⟩,acc,ks,s4,MP,al,kl,hky,hks⟩;have ZE:=s4 _ _ hR3;have nCR:RA ≠ C:=Ah hR3 hC;by_cases B6:i < nvR.length
     ·refine .inr ⟨⟨ZE,by rw [CH]; exact B6⟩,?_⟩;rintro z H6 ⟨rfl,key,v2,ek,rfl⟩;obtain ⟨y,ey,rfl⟩:=UU ek;have hm:=eW ey;obtain ⟨p,hp,hRp⟩:=N.pR.2.1 y v2 hm;have Zo:=hp.same bK;refine ⟨_,rfl,_,rfl,RA,v2,rfl,.inl ⟨_,Sum.inr y,.inr ⟨o,ZE⟩,rfl,(DH N.pR.1 hm).symm⟩,_,rfl,(by show 2<=sizeLine; lia),fun t ht=>?_⟩;have st:=Ac (o:=.tup [v2,.str y]) ht;have hC2:=st _ _ MP;have tC:∀ b xs,(upd H6 t (.tup [v2,.str y])) b=some (.tup xs)->(upd (upd H6 t (.tup [v2,.str y])) C (.lst (acc ++ [.ref t]))) b=some (.tup xs):=fun b xs z=>by
       rw [Ae (C0 z hC2 (by intro z; cases z))]; exact z
      refine ⟨acc,hC2,by lia,_,by lia,rfl,B6,⟨_,rfl⟩,acc ++ [.ref t],ks ++ [(p,y)],fun b u z=>?_,Ab,by simp [al],by simp [kl],fun j v k h1 h2=>?_,fun j y' v' hj h=>?_⟩
      ·rw [Ae (Ah z hC)];exact st _ _ (s4 _ _ z)
      ·by_cases hj:j < acc.length
       ·rw [gq hj] at h1;rw [gq (by lia)] at h2;exact (hky j v k h1 h2).same fun b xs z=>tC b xs (st _ _ z)
       ·rw [gj (by lia)] at h1;rw [gj (by lia)] at h2;have j0:j - acc.length=0:=by
         have:=(fh.mp h1).1;simp at this;lia
        have j1:j - ks.length=0:=by lia
        rw [j0] at h1;rw [j1] at h2;cases h1
        cases h2
        obtain ⟨t2,e2,g2⟩:=Zo;subst e2;exact ⟨t,t2,rfl,tC _ _ Ab,t2,rfl,tC _ _ (st _ _ (s4 _ _ g2))⟩
      ·by_cases ej:j=i
       ·subst ej;rw [ey] at h;cases h
        exact ⟨p,Zo,by rw [gj (by lia),kl,jf]; rfl⟩
       ·obtain ⟨p',a1,a2⟩:=hks j y' v' (by lia) h;exact ⟨p',a1,by rw [gq (by lia)]; exact a2⟩
     ·have e0:i=nvR.length:=by lia
      subst e0;have ksne:ks ≠ []:=by
       intro z;rw [z] at kl;exact hne (iV.mp kl.symm)
      refine .inl ⟨⟨ZE,by rw [CH]; exact fc _⟩,C,acc,ks,rfl,MP,by lia,ksne,hky,fun v kk hk hKy hmin=>?_⟩;exists RA,o,sK nvR,ZE,fun ob w z=>?_
      ·have z':H RA=some (.frz ob w):=z;rw [aR.2.2.2] at z';cases z'
      obtain ⟨⟨d0,HK⟩,here⟩:=kk;obtain ⟨t,t2,rfl,ht,t2',e2,EV⟩:=hKy;cases e2
      have t45:∀ b xs,H' b=some (.tup xs)->(upd H' RA (.dK (sK nvR))) b=some (.tup xs):=fun b xs z=>by
       rw [Ae (C0 z ZE (by intro z; cases z))]; exact z
      have s25:Aq H2 (upd H' RA (.dK (sK nvR))):=fun b u z=>by
       by_cases eb:b=RA
       ·subst eb;rw [N.dR] at z;cases z
        exact Ab
       ·rw [Ae eb];refine s4 _ _ ?_;rw [fz.ne eb]; exact z
      have N5:=N.grow s25;have aV:=t45 _ _ ht;have Zi:=t45 _ _ EV;have inR:∀ j y p,ks[j]? = some (p,y)->R y p:=fun j y p h=>by
       have hj:j < nvR.length:=by
        have:=(fh.mp h).1;lia
       obtain ⟨p',a1,a2⟩:=hks j nvR[j].1 nvR[j].2 hj (eR hj);rw [h] at a2;cases a2
       obtain ⟨p'',b1,b2⟩:=N.pR.2.1 _ _ (gI hj);rw [a1.fn (b1.same bK)];exact b2
      have hRh:R here (d0,HK):=by
       obtain ⟨j,hj,ej⟩:=fY hk;exact inR j here (d0,HK) (by rw [eR hj,ej])
      have least:∀ z p,R z p->Dx (d0,HK) p:=fun z p hz=>by
       obtain ⟨v,a,b⟩:=N.pR.2.2 z p hz;obtain ⟨j,hj,ej⟩:=fY a;obtain ⟨p',a1,a2⟩:=hks j z v hj (by rw [eR hj,ej]);have:=a1.fn (b.same bK);subst this;exact hmin _ (eW a2)
      have nSh:∀ q,¬ S here q:=dis here _ hRh;have nearH:NV ws ss here (d0,HK):=Dj.pick pos hRh nSh least;exists t,_,rfl,Az.of aV,rfl,_,_,rfl,t2,_,rfl,Az.of Zi,rfl,_,_,rfl,_,_,rfl,rfl,_,_,rfl,rfl;generalize upd H' RA (.dK (sK nvR))=H5 at N5 aV Zi s25 ⊢;have hin:here ∈ nvR.map (·.1):=N5.inR.mpr ⟨_,hRh⟩;have hps:here ∈ ps:=N5.subR here hin;exists _,rfl,_,rfl,RA,_,Sum.inr here,rfl,N5.dR,rfl,by rw [Hq,decide_eq_true hin]
      rw [TC];have N6:=N5.setR aR (N5.pR.drop here) (fun y hy=>by
       obtain ⟨e,he,ee⟩:=fi.mp hy;exact N5.subR y (fi.mpr ⟨e,(ib.mp he).1,ee⟩))
      generalize upd H5 RA (.dK (sK (nvR.filter fun q=>decide (q.1 ≠ here))))=H6 at N6 ⊢;have nhS:here ∉ nvS.map (·.1):=fun h=>by
       obtain ⟨q,hq⟩:=N6.inS.mp h;exact nSh q hq
      refine ⟨_,rfl,_,rfl,(by show 2<=sizeLine; lia),fun t3 cQ=>?_⟩;have N7:=N6.grow (Ac (o:=.tup [.int d0,.str HK]) cQ);have Zh:(upd H6 t3 (.tup [.int d0,.str HK])) t3=some (.tup [.int d0,.str HK]):=Ab;generalize upd H6 t3 (.tup [.int d0,.str HK])=H7 at N7 Zh ⊢;exists _,rfl,_,rfl,SA,_,rfl,FF.k (k:=Sum.inr here) N7.dS (by rw [CH]; have:=N7.lenS; lia);rw [DN nhS];have N8:=N7.setS aS (N7.pS.put (DN nhS) (p:=(d0,HK)) ⟨t3,rfl,Zh⟩) (fun y hy=>by
       rw [fg] at hy;rcases fq.mp hy with hy | hy
       ·exact N7.subS y hy
       ·have:y=here:=by simpa using hy
        rw [this]; exact hps)
      generalize upd H7 SA (.dK (sK (nvS ++ [(here,.ref t3)])))=H8 at N8 ⊢;obtain ⟨S',OG⟩:∃ S':Str->Int × Str->Prop,S'=fun z q=>(z=here/\q=(d0,HK))\/(z ≠ here/\S z q):=⟨_,rfl⟩
      obtain ⟨PY,hnvS⟩:∃ PY:List (Str × V),PY=nvS ++ [(here,.ref t3)]:=⟨_,rfl⟩
      rw [<-OG,<-hnvS] at N8;have nSl:PY.length=nvS.length + 1:=by rw [hnvS]; simp
      have nearS:∀ y q,S' y q->NV ws ss y q:=fun y q h=>by
       rw [OG] at h;rcases h with ⟨rfl,rfl⟩ | ⟨_,h⟩
       ·exact nearH
       ·exact Dj.near y q h
      have hSh:S' here (d0,HK):=by rw [OG]; exact .inl ⟨rfl,rfl⟩
      have toS:∀ y q,S y q->∃ q',S' y q':=fun y q h=>by
       by_cases e:y=here
       ·rw [e]; exact ⟨_,hSh⟩
       ·exact ⟨q,by rw [OG]; exact .inr ⟨e,h⟩⟩
      obtain ⟨i0,d,Ud,a1,a2,a3,a4,a5⟩:=N8.nr.get ok.nd hps;have dm:=eW a2;refine ⟨_,rfl,_,rfl,B,.ref d,rfl,?_,d,sK Ud,rfl,a4,fun o9 H9 fz9=>?_⟩
      ·have:=Cp.k (k:=Sum.inr here) N8.nr.top;rw [a3] at this;exact this
      have N9:=N8.frz aR.1 aS.1 hds a1 a2 fz9 a5;obtain ⟨Pv,hPv⟩:∃ Pv:Nat->St->Hp->Prop,Pv=fun i σ H'=>∃ HN R' v8 v9,σ=[some (.ref q),some (.ref st),some (.ref B),some (.ref RA),some (.ref SA),some (.int d0),some (.str HK),some (.str here),v8,v9]/\NI H H' ps ws B RA SA ds HN PY S' R'/\H' d=some (.frz o9 (.dK (sK Ud))) /\
        (∀ y p,R' y p->p.2 ∈ ss/\Bq ws p.2 y p.1)/\(∀ s ∈ ss,(∃ q,S' s q)\/∃ q,R' s q/\Dx q (0,s)) /\
        (∀ x q y l,S' x q->BV ws x y l->(∃ q',S' y q')\/(∃ q',R' y q'/\Dx q' (q.1 + l,q.2))\/(x=here/\∀ (j:Nat) (v:V),j < i->Ud[j]? ≠ some (y,v)))/\(∀ y p,R' y p->∀ q,¬ S' y q):=⟨_,rfl⟩
      refine Ql (a:=d) (o:=o9) (kvs:=sK Ud) Pv ?_ (fun i σ H' _ hP=>by rw [hPv] at hP; obtain ⟨_,_,_,_,_,_,z,_⟩:=hP; exact z) (fun i key v σ H' hx hP rt bk=>?_) (fun σ H' hP=>?_)
      ·rw [hPv];refine ⟨_,_,_,_,rfl,N9,fz9.at,fun y p h=>Dj.reach y p h.2,fun s hs=>?_,fun x qq y l hx he=>?_,fun y p h qq hq=>?_⟩
       ·rcases Dj.start s hs with ⟨qq,h⟩ | ⟨qq,h,le⟩
        ·exact .inl (toS s qq h)
        ·by_cases e:s=here
         ·rw [e]; exact .inl ⟨_,hSh⟩
         ·exact .inr ⟨qq,⟨e,h⟩,le⟩
       ·by_cases ex:x=here
        ·exact .inr (.inr ⟨ex,fun j v hj=>absurd hj (hV _)⟩)
        ·rw [OG] at hx;rcases hx with ⟨h,_⟩ | ⟨_,hx⟩
         ·exact absurd h ex
         ·rcases Dj.relax x qq y l hx he with ⟨q',h⟩ | ⟨q',h,le⟩
          ·exact .inl (toS y q' h)
          ·by_cases e:y=here
           ·rw [e]; exact .inl ⟨_,hSh⟩
           ·exact .inr (.inl ⟨q',⟨e,h⟩,le⟩)
       ·rw [OG] at hq;rcases hq with ⟨h2,_⟩ | ⟨_,h2⟩
        ·exact h.1 h2
        ·exact dis y p h.2 qq h2
      ·rw [hPv] at hP;obtain ⟨HN,R',v8,v9,rfl,Tf,hf,rch,sta,rel,Uy⟩:=hP;obtain ⟨y,e1,rfl⟩:=UU hx;have hym:=eW e1;obtain ⟨w0,hw0⟩:∃ w0,Bz (sK Ud) (Sum.inr y:Bh)=some w0:=by
        have:(Bz (sK Ud) (Sum.inr y:Bh)).isSome=true:=by rw [Hq,decide_eq_true (fi.mpr ⟨_,hym,rfl⟩)]
        exact iM.mp this
       obtain ⟨l,rfl,ed⟩:=Tf.nbv i0 here d Ud a1 a2 (.inr ⟨o9,hf⟩) y w0 (Kf hw0);have hyp:y ∈ ps:=by
        obtain ⟨u,hu,e⟩:=ed.adj;obtain ⟨q1,q2⟩:=ok.ends u hu;rcases e with ⟨_,e⟩ | ⟨e,_⟩
        ·rw [<-e]; exact q2
        ·rw [<-e]; exact q1
       exists _,rfl,_,rfl,SA,_,rfl,Cp.k (k:=Sum.inr y) Tf.dS,_,rfl;rw [Hq];have step:∀ {z:Str},(∀ (j:Nat) (v:V),j < i->Ud[j]? ≠ some (z,v))->z ≠ y->∀ (j:Nat) (v:V),j < i + 1->Ud[j]? ≠ some (z,v):=fun h2 hz j v hj e=>by
        by_cases ej:j=i
        ·subst ej;rw [e1] at e;cases e
         exact hz rfl
        ·exact h2 j v (by lia) e
       by_cases hy:y ∈ PY.map (·.1)
       ·rw [decide_eq_true hy];refine BO ?_;show Pv (i + 1) _ _
        rw [hPv];refine ⟨HN,R',_,_,rfl,Tf,hf,rch,sta,fun x qq z l' My he=>?_,Uy⟩;rcases rel x qq z l' My he with h | h | ⟨h1,h2⟩
        ·exact .inl h
        ·exact .inr (.inl h)
        ·by_cases ez:z=y
         ·rw [ez]; exact .inl (Tf.inS.mp hy)
         ·exact .inr (.inr ⟨h1,step h2 ez⟩)
       ·rw [decide_eq_false hy];refine CS ?_;have nSy:∀ qq,¬ S' y qq:=fun qq h=>hy (Tf.inS.mpr ⟨qq,h⟩)
        have dgT:Cp H' B (.str here) (some (.ref d)):=by
         have:=Cp.k (k:=Sum.inr here) Tf.nr.top;rw [a3] at this;exact this
        refine ⟨_,rfl,_,rfl,_,rfl,B,.ref d,rfl,dgT,_,rfl,d,.int l,rfl,.inl ⟨_,Sum.inr y,.inr ⟨o9,hf⟩,rfl,hw0.symm⟩,_,_,rfl,rfl,_,rfl,(by show 2<=sizeLine; lia),fun t4 cP=>?_⟩;have s4':=Ac (o:=.tup [.int (d0 + l),.str HK]) cP;have QB:=Tf.grow s4';have Zy:=s4' _ _ hf;have Zg:(upd H' t4 (.tup [.int (d0 + l),.str HK])) t4=some (.tup [.int (d0 + l),.str HK]):=Ab;generalize upd H' t4 (.tup [.int (d0 + l),.str HK])=UH at QB Zy Zg ⊢;have cand:Jv UH (.ref t4) (d0 + l,HK):=⟨t4,rfl,Zg⟩
        have candW:HK ∈ ss/\Bq ws HK y (d0 + l):=⟨nearH.1.1,nearH.1.2.snoc ed⟩
        have lR':=QB.lenR;have fin:∀ (x:V) (pn:Int × Str),Jv UH x pn->Dx pn (d0 + l,HK)->(∀ old,R' y old->Dx pn old)->(pn.2 ∈ ss/\Bq ws pn.2 y pn.1) ->
          Pv (i + 1) [some (.ref q),some (.ref st),some (.ref B),some (.ref RA),some (.ref SA),some (.int d0),some (.str HK),some (.str here),some (.str y),some (.ref t4)] (upd UH RA (.dK (BJ (sK HN) (Sum.inr y:Bh) x))):=by
         intro x pn hx1 hle hold hW;obtain ⟨nv2,p1,p2,p3⟩:=Ni HN y x;rw [p1,hPv];have N12:=QB.setR aR (QB.pR.put p1 hx1) (fun z hz=>by
          rcases (p3 z).mp hz with hz | rfl
          ·exact QB.subR z hz
          ·exact hyp)
         refine ⟨nv2,_,_,_,rfl,N12,?_,fun z p hz=>?_,fun s hs=>?_,fun x' qq z l' My he=>?_,fun z p hz qq hq=>?_⟩
         ·rw [Ae (fun z=>aR.1 (by rw [<-z]; exact dm))]; exact Zy
         ·rcases hz with ⟨rfl,rfl⟩ | ⟨_,hz⟩
          ·exact hW
          ·exact rch z p hz
         ·rcases sta s hs with h | ⟨qq,h,le⟩
          ·exact .inl h
          ·by_cases e:s=y
           ·subst e;exact .inr ⟨pn,.inl ⟨rfl,rfl⟩,(hold qq h).trans le⟩
           ·exact .inr ⟨qq,.inr ⟨e,h⟩,le⟩
         ·rcases rel x' qq z l' My he with h | ⟨q',h,le⟩ | ⟨h1,h2⟩
          ·exact .inl h
          ·by_cases e:z=y
           ·subst e;exact .inr (.inl ⟨pn,.inl ⟨rfl,rfl⟩,(hold q' h).trans le⟩)
           ·exact .inr (.inl ⟨q',.inr ⟨e,h⟩,le⟩)
          ·by_cases e:z=y
           ·subst e;subst h1;have e2:=uniq _ _ _ _ he ed;subst e2;have e3:=QB.pS.fn My hSh;subst e3;exact .inr (.inl ⟨pn,.inl ⟨rfl,rfl⟩,hle⟩)
           ·exact .inr (.inr ⟨h1,step h2 e⟩)
         ·rcases hz with ⟨rfl,rfl⟩ | ⟨_,hz⟩
          ·exact nSy qq hq
          ·exact Uy z p hz qq hq
        have put:∀ {x:V},FF UH RA (.str y) x (upd UH RA (.dK (BJ (sK HN) (Sum.inr y:Bh) x))):=fun {x}=>FF.k (k:=Sum.inr y) QB.dR (by rw [CH]; lia)
        obtain ⟨w1,pq,ew,hw1,hold,hWq⟩:∃ w1 pq,(Bz (sK HN) (Sum.inr y:Bh)).getD (.ref t4)=w1/\Jv UH w1 pq/\(∀ old,R' y old->Dx pq old)/\(pq.2 ∈ ss/\Bq ws pq.2 y pq.1):=by
         cases hv:Bz (sK HN) (Sum.inr y:Bh) with
         | none=>
          refine ⟨_,_,rfl,cand,fun old h=>?_,candW⟩;have h1:y ∈ HN.map (·.1):=QB.inR.mpr ⟨old,h⟩;have h2:(Bz (sK HN) (Sum.inr y:Bh)).isSome=true:=by rw [Hq,decide_eq_true h1]
          rw [hv] at h2;cases h2
         | some w1=>
          obtain ⟨pq,h1,h2⟩:=QB.pR.2.1 y w1 (Kf hv);exact ⟨w1,pq,rfl,h1,fun old h=>by rw [QB.pR.fn h2 h]; exact Dx.refl _,rch y pq h2⟩
        refine ⟨_,rfl,_,rfl,RA,rfl,.inl ⟨_,.inl QB.dR⟩,_,rfl,_,rfl,_,Cp.k (k:=Sum.inr y) QB.dR,_,_,(d0 + l,HK),pq,rfl,cand,(by rw [ew]; exact hw1),fun le=>⟨_,rfl,_,rfl,RA,_,rfl,put,?_⟩,fun le=>⟨_,rfl,_,rfl,RA,_,rfl,put,?_⟩⟩
        ·rw [ew];exact fin w1 pq hw1 le hold hWq
        ·exact fin (.ref t4) _ cand (Dx.refl _) (fun old h=>le.trans (hold old h)) candW
      ·rw [hPv] at hP;obtain ⟨HN,R',v8,v9,rfl,Tf,hf,rch,sta,rel,Uy⟩:=hP;show NN _ _
       rw [hNN];refine ⟨_,?_,HN,PY,S',R',_,_,_,_,_,rfl,rfl,Tf,⟨nearS,rch,fun x qq y l hx he=>?_,sta⟩,Uy⟩
       ·have:=Tf.lenS;lia
       ·rcases rel x qq y l hx he with h | h | ⟨rfl,h2⟩
        ·exact .inl h
        ·exact .inr h
        ·exfalso
         obtain ⟨⟨z,v⟩,WT,e⟩:=fi.mp ((a5 y).mpr he.adj);have e':z=y:=e;subst e';obtain ⟨j,hj,e2⟩:=fY WT;exact h2 j v (by rw [CH]; exact hj) (by rw [eR hj,e2])
end
section
variable {P:Program} {w:World} {K:eV} {mg:Str->Option Value} {base:Heap}
structure NeF (K:eV) (mg:Str->Option Value) (fN:Addr) (fdN:FuncData) (f:Addr) (fd:FuncData):Prop where
 N:NbF K mg fN fdN
 mi:mg "min"=none
 F:DT K "nearest" "nearest" Fd f fd
 mg:mg "nearest"=some (.ref f)
 b:HG K fd ["web","starts"] []
theorem TZ {f fN fE:Addr} {fd fdN fdE:FuncData} (EK:NeF K mg fN fdN fE fdE) (F:DT K "fars" "fars" KO f fd):A8 P w K mg base B0 3 f fd ["web","place"] (QX K):=by
 have GE:A8 P w K mg base B0 2 fE fdE ["web","starts"] (QU K):=Nr EK.N EK.mi EK.F;refine F.ok Oy (fun vs H Q E h=>?_) (fun cdv A outer s H vs Q E hr h=>?_)
 ·obtain ⟨q,ps,ws,r,x,rfl,_⟩:=h;rfl
 ·obtain ⟨q,ps,ws,r,x,rfl,ok,pos,uniq,hx,k⟩:=h;have hu:=Dm hr;have nd:=Oy.nd;have big:1000 < sizeLine:=by decide
  have l30:=ok.l30;refine ⟨_,Af (Ax (i:=2) nd rfl (Or.inr rfl) (An GE hr (by rfl) EK.mg EK.F.kp EK.b .nil A1 (Aa (pv 0) (Aa (B5 (Aa (pv 1) Ad)) Ad))))
   (Ak (A7 (IG (N:=["name","told"]) (σ0:=fun σ=>[none,some 2].map fun j=>j.bind fun j=>(σ[j]?).join) rfl
      (AF.caught (by rfl) (by decide +kernel) rfl (by decide +kernel) (by intro y hy; simp only [eX,ff,or_false] at hy; rcases hy with rfl <;> rfl)
       (by intro y hy e; simp only [eX,ff,or_false] at hy; rcases hy with rfl | rfl | rfl <;> first | exact ⟨_,rfl⟩ | cases e))
      (fun σ _=>AU.of [none,some 2] rfl (by
       intro i j x h1 h2;match i,h1,h2 with
       | 0,_,h2=>cases h2
       | 1,h1,h2=>cases h1; cases h2; exact ⟨rfl,.inl rfl,.inl rfl⟩
       | n + 2,h1,_=>cases h1)) (Bc K rfl (A3 (AE K rfl) (pv 0) Ag (fun _ _=>rfl)))
      (fun s2 H C fp=>⟨Ai (i:=0) (show (["name","told"]:List Str).Nodup by decide +kernel) rfl (Or.inl rfl),AO,pv 0,A3 (AE K rfl) (Bl hu (pv 1) (pv 0) (fun _ _=>rfl)) Ag (fun _ _=>rfl)⟩)))),?_⟩
  refine ⟨_,rfl,_,rfl,(by show 1<=sizeLine; lia),fun st hst=>?_⟩;have s0:=Ac (o:=.lst [.str x]) hst;refine ⟨q,st,ps,[x],ws,r,rfl,ok.same s0,pos,uniq,.inl Ab,by simp,gG.mpr ⟨by simp,.nil⟩,by simpa using hx,fun H1 B nv s1 hB V5 nn nk nr=>?_⟩;have YA:=s0.trans s1;obtain ⟨tp,tw,us,hq,htp,htw,hD⟩:=ok.web.ex;refine ⟨_,rfl,q,_,0,.ref tp,rfl,rfl,Az.of (YA _ _ hq),BF (j:=0) rfl,tp,rfl,⟨_,Az.of (YA _ _ htp)⟩,fun C hC=>?_⟩;exists fun i m Av H2=>m=ps.length - i/\i<=ps.length/\(∃ v,Av=[v,some (.ref B)])/\∃ nc:List (Str × V),H2=upd H1 C (.dK (sK nc))/\nc.map (·.1)=ps.take i/\∀ y v,(y,v) ∈ nc->∃ n,v=.int n/\LD ws x y n,⟨_,rfl,gr _,⟨_,rfl⟩,[],rfl,rfl,fun y v hy=>absurd hy ff⟩
  rintro i m Av H2 ⟨rfl,hi,⟨v,rfl⟩,nc,rfl,ncK,ncV⟩;have sC:=Ac (o:=.dK (sK nc)) hC;have N2:=sC _ _ (YA _ _ htp);by_cases B6:i < ps.length
  ·refine .inr ⟨⟨_,V.str ps[i],Az.of N2,by rw [eZ,eR B6]; rfl⟩,?_⟩;rintro z H6 ⟨rfl,hz⟩;have SW:=hz _ (Az.of N2);rw [eZ,eR B6] at SW;cases SW
   obtain ⟨⟨y,v2⟩,hm,e⟩:=fi.mp ((nk ps[i]).mpr (gI B6));have e':y=ps[i]:=e;subst e';obtain ⟨p,⟨t,e2,ht⟩,hnr⟩:=nr ps[i] v2 hm;subst e2;have dP:=sC _ _ V5;have EV:=sC _ _ ht;have nn':ps[i] ∉ nc.map (·.1):=by
    rw [ncK];intro WT;obtain ⟨j,hj,e⟩:=fY WT;rw [fJ] at hj;rw [iP] at e;have:=Hu ok.nd (eR (show j < ps.length by lia)) (by rw [eR B6,e]);lia
   have ncl:nc.length=i:=by
    have:=congrArg gK ncK;rw [eU,fJ] at this;lia
   refine ⟨_,rfl,_,rfl,_,rfl,B,.ref t,rfl,.inl ⟨_,Sum.inr ps[i],.inl dP,rfl,(DH nn hm).symm⟩,t,_,0,.int p.1,rfl,rfl,Az.of EV,BF (j:=0) rfl,_,Sum.inr ps[i],rfl,Ab,by rw [CH]; lia,_,by lia,rfl,B6,⟨_,rfl⟩,nc ++ [(ps[i],.int p.1)],by rw [FL,DN nn'],?_,fun y v hy=>?_⟩
   ·rw [fg,ncK,fQ,eR B6]; rfl
   ·rcases fq.mp hy with hy | hy
    ·exact ncV y v hy
    ·simp only [fo,Prod.mk.injEq] at hy;obtain ⟨rfl,rfl⟩:=hy;exact ⟨p.1,rfl,hnr.dst.2⟩
  ·have e0:i=ps.length:=by lia
   subst e0;rw [fZ] at ncK;exact .inl ⟨⟨_,Az.of N2,by rw [eU]; exact fc _⟩,k _ C nc (YA.trans sC) (YA.free hC) Ab ncK ncV⟩
end
structure TxtN (K:eV) (mg:Str->Option Value):Prop where
 len:mg "len"=none
 isin:mg "isinstance"=none
 str:mg "str"=none
 all:mg "all"=none
 most:∃ t,mg "MOST_LETTERS"=some (.int 6 t)
section
variable {P:Program} {w:World} {K:eV} {mg:Str->Option Value} {base:Heap}
theorem Ig {f:Addr} {fd:FuncData} (T:TxtN K mg) (F:DT K "is_name" "is_name" CV f fd):A8 P w K mg base B0 1 f fd ["thing"] (KH K):=by
 refine F.ok Nh (fun vs H Q E h=>?_) (fun cdv A outer s H vs Q E hr h=>?_)
 ·obtain ⟨x,rfl,_⟩:=h;rfl
 ·obtain ⟨x,rfl,h⟩:=h;obtain ⟨tk,hmost⟩:=T.most;refine ⟨_,Af (C9 (Kh (EN (G6 (Ao BS (by rfl) T.isin PyProof.Rows.boot_isinstance (Aa (pv 0) (Aa (Ey (v:=.ty "str") (by rfl) T.str PyProof.Rows.boot_str rfl) Ad)))))
    (G5 (EN (Md Mi Mi Ag (Ao Gi (by rfl) T.len PySem.boot_len (Aa (pv 0) Ad)) (TU (v:=.int 6) (by rfl) hmost ⟨_,rfl⟩))))).pt
    (Ak (A7 Fx)) BB)
   (Ak (A7 (Ao (BU rfl) (by rfl) T.all PyProof.Rows.boot_all (Aa
    (Bf (N:=["letter"]) (σ0:=fun _=>[none]) rfl (AF.plain (by decide +kernel) (by decide +kernel) rfl (by decide +kernel)) (fun σ _=>AU.none _ _ _ ["letter"] σ) (Wv (pv 0))
     (fun s2 H C fp=>⟨Ai (i:=0) (show (["letter"]:List Str).Nodup by decide +kernel) rfl (Or.inl rfl),AO,RF Kl Kl F2 (pv 0) F2⟩)) Ad)))),?_⟩
  rcases h with ⟨t,rfl,ht,k⟩ | ⟨⟨ty,h1,h2⟩,k⟩
  ·exists _,rfl,_,"str",_,_,rfl,Dy.str t,rfl,_,rfl;refine BO ?_;exists _,rfl,t,rfl,gc ht (by decide),_,_,rfl,rfl,_,rfl;have last:∀ (h1:1<=t.length) (h2:t.length<=6),Od (iStr (To 0)) (Mz 0) J8 (MZ (fun x y H Q=>∃ i j,x=.str i/\y=.str j/\Q (.bl (!(decide (j.cps.toList < i.cps.toList)))) H) (fun x y H Q=>∃ i j,x=.str i/\y=.str j/\Q (.bl (!(decide (j.cps.toList < i.cps.toList)))) H) (tC (.str "a")) (To 0) (tC (.str "z"))) (fun _=>[none]) [some (V.str t)] H
     (fun x H1=>∃ (p:Addr) (bs:List Bool),[x]=[V.ref p]/\Ba K H1 p (bs.map V.bl)/\Q (.bl (bs.all id)) H1):=by
    intro h1 h2;refine ⟨_,rfl,t,rfl,fun D hD=>⟨fun i m Av H'=>m=t.cps.size - i/\i<=t.cps.size/\(∃ v,Av=[v])/\H'=upd H D (.lst ((t.cps.toList.take i).map fun c=>V.bl (GH c))),⟨_,rfl,gr _,⟨_,rfl⟩,rfl⟩,?_⟩⟩;rintro i m Av H' ⟨rfl,hi,⟨v,rfl⟩,rfl⟩;by_cases B6:i < t.cps.size
    ·refine .inr ⟨B6,?_⟩;rintro x H2 ⟨rfl,c,hc,rfl⟩;have LC:t.cps.toList[i]? = some c:=by simpa using hc
     have step:∀ b,b=GH c->∃ acc,(upd H D (.lst ((t.cps.toList.take i).map fun c=>V.bl (GH c)))) D=some (.lst acc)/\acc.length < sizeLine/\∃ m',m' < t.cps.size - i/\(m'=t.cps.size - (i + 1)/\i + 1<=t.cps.size/\(∃ v,[some (V.str ⟨#[c]⟩)]=[v]) /\
       upd (upd H D (.lst ((t.cps.toList.take i).map fun c=>V.bl (GH c)))) D (.lst (acc ++ [V.bl b]))=upd H D (.lst ((t.cps.toList.take (i + 1)).map fun c=>V.bl (GH c)))):=by
      rintro b rfl;exists _,Ab,?_,_,?_,rfl,B6,⟨_,rfl⟩
      ·rw [eU,fJ];have:t.length=t.cps.size:=rfl;have:1000 < sizeLine:=by decide
       lia
      ·lia
      ·rw [FL,J7 _ _ _ _ LC]
     exists _,rfl,_,_,rfl,rfl,_,rfl;rw [leA];refine DP (fun ha=>?_) (fun ha=>?_)
     ·exists _,_,rfl,rfl;rw [leZ];exact step _ (by unfold GH; rw [ha]; rfl)
     ·exact step _ (by unfold GH; rw [Bool.not_eq_true] at ha; rw [ha]; rfl)
    ·have e:i=t.cps.size:=by lia
     subst e;refine .inl ⟨fc _,D,t.cps.toList.map GH,rfl,.inl (.inl ?_),?_⟩
     ·rw [Ab,gZ (by simp),gL];rfl
     ·have e2:(t.cps.toList.map GH).all id=AA t:=by
       unfold AA;rw [gY,decide_eq_true h1,decide_eq_true h2];rfl
      rw [e2];exact k _ (Ac hD)
   refine DP (fun h1=>?_) (fun h1=>?_)
   ·exists _,_,rfl,rfl,_,rfl;rw [decide_eq_true_eq] at h1;refine DP (fun h2=>?_) (fun h2=>?_)
    ·have e:AA t=false:=by
      unfold AA;have:¬ t.length<=6:=by
       intro z;rw [decide_eq_true (show ((t.length:Nat):Int)<=6 by lia)] at h2;cases h2
      rw [decide_eq_false this,Bool.and_false,ji]
     rw [<-e];exact k _ (Aq.refl _)
    ·refine last (by lia) ?_;by_cases z:t.length<=6
     ·exact z
     ·rw [decide_eq_false (show ¬ ((t.length:Nat):Int)<=6 by lia)] at h2;exact absurd rfl h2
   ·exists _,rfl;refine CS ?_;have e:AA t=false:=by
     unfold AA;rw [decide_eq_true_eq] at h1;rw [decide_eq_false (show ¬ 1<=t.length by lia),ji,ji]
    show Q (.bl false) H
    rw [<-e];exact k _ (Aq.refl _)
  ·exists _,rfl,_,"str",_,_,rfl,h1,h2,_,rfl;exact k
end
section
variable {P:Program} {w:World} {K:eV} {mg:Str->Option Value} {base:Heap}
theorem Lh (h_dict:mg "dict"=none) (h_max:mg "max"=none) (h_sum:mg "sum"=none) {f:Addr} {fd:FuncData} (F:DT K "gets_from" "gets_from" DG f fd):A8 P w K mg base B0 1 f fd ["case","prices","away"] Iv:=by
 refine F.ok FX (fun vs H Q E h=>?_) (fun cdv A outer s H vs Q E hr h=>?_)
 ·obtain ⟨c,m,t,n,xs,ws,Am,Al,qs,x,d,v,y,rfl,_⟩:=h;rfl
 ·obtain ⟨c,m,t,n,xs,ws,Am,Al,qs,x,d,v,y,rfl,cp,fa,k⟩:=h;have nd:=FX.nd;have hu:=Dm hr;have big:100000 < sizeLine:=by decide
  refine ⟨_,(Af (Ax (i:=3) nd rfl (Or.inr rfl) (AQ (BX rfl) (by rfl) h_dict PyProof.Rows.boot_dict (Aa (A3 F6 (pv 0) Ag (fun _ _=>rfl)) Ad)))
  (Ak (A7 (Ao (JM rfl) (by rfl) h_sum PyProof.Rows.boot_sum (Aa (Bf (N:=["place","price","away","manys"]) (σ0:=fun σ=>[none,none,some 2,some 3].map fun j=>j.bind fun j=>(σ[j]?).join) rfl (AF.caught (by rfl) (by decide +kernel) rfl (by decide +kernel) (by intro y hy; simp only [eX,ff,or_false] at hy; rcases hy with rfl | rfl <;> rfl)
   (by intro y hy e; simp only [eX,ff,or_false] at hy; rcases hy with rfl | rfl | rfl | rfl | rfl | rfl <;> first | exact ⟨_,rfl⟩ | cases e)) (fun σ _=>AU.of [none,none,some 2,some 3] rfl (by
   intro i j x h1 h2;match i,h1,h2 with
   | 0,_,h2=>cases h2
   | 1,_,h2=>cases h2
   | 2,h1,h2=>cases h1; cases h2; exact ⟨rfl,.inl rfl,.inl rfl⟩
   | 3,h1,h2=>cases h1; cases h2; exact ⟨rfl,.inl rfl,.inl rfl⟩
   | n + 4,h1,_=>cases h1)) (IF (pv 1))
   (fun s2 H C fp=>⟨(AX K rfl (n:=2) rfl (Aj (Ai (i:=0) (show (["place","price","away","manys"]:List Str).Nodup by decide +kernel) rfl (Or.inl rfl)) (Aj (Ai (i:=1) (show (["place","price","away","manys"]:List Str).Nodup by decide +kernel) rfl (Or.inl rfl)) AW))),AO,(Ao (GZ rfl) (by rfl) h_max PyProof.Rows.boot_max (Aa (Aw EO (pv 1) (Aw Df (Bl hu (pv 3) (pv 0) (fun _ _=>rfl)) (Bl hu (pv 2) (pv 0) (fun _ _=>rfl)))) (Aa Ag Ad)))⟩)) Ad))))),?_⟩
  obtain ⟨us,ht,du⟩:=cp.ex;obtain ⟨t1,t2,Fl,FK,hc,Gf,FG,EV,hd2⟩:=cp.cw.ex;have ul:=A5 du;have Tn:=A5 hd2;have l2:=cp.cw.l2;have ql:=cp.ok.len;have xnd:=cp.cw.map.at'.nd;refine ⟨_,rfl,c,_,_,_,rfl,rfl,Az.of hc,rfl,t2,FK,BW Al,rfl,EV,by unfold BW; rw [eU]; exact Tn,Ie hd2,by rw [CW]; exact cp.cw.ok2.nd,by unfold BW; rw [eU]; lia,fun B hB=>?_⟩;have s1:=Ac (o:=.dK (sK (BW Al))) hB;have Ss:(upd H B (.dK (sK (BW Al)))) B=some (.dK (sK (BW Al))):=Ab;generalize upd H B (.dK (sK (BW Al)))=H1 at s1 Ss;exists _,rfl,t,rfl,⟨_,Az.of (s1 _ _ ht)⟩
  refine Bb Bm (xs:=us) (fun D i Av H' acc=>∃ v0 v1:Option V,Av=[v0,v1,some v,some (.ref B)]/\Aq H1 H'/\H' D=some (.lst acc)/\acc=(((Al.zip qs).take i).map fun z=>CI ws y z.1 z.2.2).map V.int/\acc.length=i)
   (by lia) (fun D hD=>⟨_,_,rfl,Ac hD,Ab,rfl,rfl⟩) (fun D i Av H' acc hD ⟨v0,v1,_,sa,AR,_,al⟩=>⟨Az.of (sa _ _ (s1 _ _ ht)),AR,al⟩) ?_ ?_
  ·rintro D i Av H' acc x' Bk hD ex ⟨v0,v1,rfl,sa,AR,ea,al⟩ hBk;obtain ⟨q,tt,eq,rfl,htt⟩:=Bn du ex;obtain ⟨r,er,rq⟩:=cp.ok.at eq;have rm:=eW er;have hq1:q.1 ∈ Al.map (·.1):=fi.mpr ⟨r,rm,rq⟩;have ec:GU Al q.1=r.2:=by rw [<-rq]; exact E6 cp.cw.ok2.nd rm
   have r4:=cp.few r rm;have r1:=(cp.cw.ok2.lo r rm).1;obtain ⟨B2,rfl,g2⟩:=((fa.same s1).same sa).get xnd (cp.names q (eW eq)).1;have g1:=IC (sa _ _ Ss) cp.cw.ok2.nd hq1;rw [ec] at g1;exists tt,_,rfl,Az.of (sa _ _ (s1 _ _ htt)),rfl,_,_,rfl,_,_,rfl,rfl;exists _,rfl,_,rfl,_,rfl,B,_,rfl,g1,_,rfl,_,rfl,B2,_,rfl,g2,_,_,rfl,rfl,.inl ⟨by lia,by lia⟩,_,_,rfl,rfl,_,_,rfl;refine hBk _ _ _ AR ⟨_,_,rfl,fun b o e=>by rw [Ae (Ah e hD)]; exact sa _ _ e,Ab,?_,by rw [eY,al]; rfl⟩;rw [ea,Ku er eq,fg,WK];unfold CI;rw [rq];rfl
  ·rintro D Av H' acc hD ⟨v0,v1,rfl,sa,AR,ea,al⟩;exists D,_,rfl,Ba.of (by rw [AR,ea]);have e:us.length=(Al.zip qs).length:=by rw [NW ql]; lia
   rw [e,fZ];exact k _ (s1.trans sa)
end
section
variable {P:Program} {w:World} {K:eV} {mg:Str->Option Value} {base:Heap}
theorem Ld {fF:Addr} {fdF:FuncData} (XF:Fn K mg "fars" KO ["web","place"] fF fdF) (GF:A8 P w K mg base B0 3 fF fdF ["web","place"] (QX K)) {f:Addr} {fd:FuncData} (F:DT K "site_fars" "site_fars" DA f fd):A8 P w K mg base B0 4 f fd ["case"] Iu:=by
 refine F.ok FQ (fun vs H Q E h=>?_) (fun cdv A outer s H vs Q E hr h=>?_)
 ·obtain ⟨c,m,n,xs,ws,Am,Al,x,d,rfl,_⟩:=h;rfl
 ·obtain ⟨c,m,n,xs,ws,Am,Al,x,d,rfl,cw,k⟩:=h;have nd:=FQ.nd;have big:100000 < sizeLine:=by decide
  refine ⟨_,(Ak (A7 (IG (N:=["place","price","case"]) (σ0:=fun σ=>[none,none,some 0].map fun j=>j.bind fun j=>(σ[j]?).join) rfl (AF.caught (by rfl) (by decide +kernel) rfl (by decide +kernel) (by intro y hy; simp only [eX,ff,or_false] at hy; rcases hy with rfl <;> rfl)
   (by intro y hy e; simp only [eX,ff,or_false] at hy; rcases hy with rfl | rfl | rfl | rfl | rfl <;> first | exact ⟨_,rfl⟩ | cases e)) (fun σ _=>AU.of [none,none,some 0] rfl (by
   intro i j x h1 h2;match i,h1,h2 with
   | 0,_,h2=>cases h2
   | 1,_,h2=>cases h2
   | 2,h1,h2=>cases h1; cases h2; exact ⟨rfl,.inl rfl,.inl rfl⟩
   | n + 3,h1,_=>cases h1)) (Bc K rfl (A3 (AE K rfl) (pv 0) Ag (fun _ _=>rfl)))
   (fun s2 H C fp=>⟨(AX K rfl (n:=2) rfl (Aj (Ai (i:=0) (show (["place","price","case"]:List Str).Nodup by decide +kernel) rfl (Or.inl rfl)) (Aj (Ai (i:=1) (show (["place","price","case"]:List Str).Nodup by decide +kernel) rfl (Or.inl rfl)) AW))),AO,(pv 0),(An GF (hr.mono (by decide)) (by rfl) XF.mg XF.F.kp XF.b .nil A1 (Aa (A3 (AE K rfl) (pv 2) Ag (fun _ _=>rfl)) (Aa (pv 0) Ad)))⟩)))),?_⟩
  obtain ⟨t1,t2,Fl,FK,hc,Gf,FG,EV,hd2⟩:=cw.ex;obtain ⟨r,okw,pos,uni⟩:=cw.map.web cw.n1 cw.n30;have ul:=A5 FG;have l1:=cw.l1;exists _,rfl,c,_,_,_,rfl,rfl,Az.of hc,rfl,t1,rfl,⟨_,Az.of Gf⟩
  refine PD Bm (xs:=Fl) (Am.map (·.1)) (by rw [eU,ul]) cw.ok1.nd (fun D i σ H' nv=>∃ (v0 v1:Option V),σ=[v0,v1,some (.ref c)]/\Aq H H'/\H' D=some (.dK (sK nv))/\nv.map (·.1)=(Am.map (·.1)).take i/\∀ s v,(s,v) ∈ nv->DS H' v xs ws s)
   (by lia) (fun D hD=>⟨_,_,rfl,Ac hD,Ab,rfl,fun s v hm=>nomatch hm⟩) (fun D i σ H' nv hD ⟨v0,v1,_,sa,AR,nk,_⟩=>⟨Az.of (sa _ _ Gf),AR,nk⟩) ?_ ?_
  ·rintro D i σ H' nv x' kk B hD ex ek ⟨v0,v1,rfl,sa,AR,nk,nf⟩ hB;obtain ⟨u,t,eu,rfl,ht⟩:=Bn FG ex;have e:kk=u.1:=by
    rw [eZ,eu] at ek;exact (fV.inj ek).symm
   subst e;exists t,_,rfl,Az.of (sa _ _ ht),rfl,_,_,rfl,_,_,rfl,rfl;refine ⟨_,rfl,_,rfl,c,_,_,_,rfl,rfl,Az.of (sa _ _ hc),rfl,_,rfl,m,xs,ws,r,u.1,rfl,okw.same sa,pos,uni,cw.ok1.sub u (eW eu),fun H1 B1 nb s1 fB V5 nbK nbV=>?_⟩;have bo:=s1 _ _ AR;refine hB _ _ _ bo ⟨_,_,rfl,fun b o' z=>by rw [Ae (Ah z hD)]; exact s1 _ _ (sa _ _ z),Ab,?_,fun s v hm=>?_⟩
   ·rw [fg,nk,fQ,ek];rfl
   ·have nB:∀ {b:Addr} {kv:List (Bh × V)},b ≠ D->H1 b=some (.dK kv)->(upd H1 D (.dK (sK (nv ++ [(u.1,.ref B1)])))) b=some (.dK kv):=fun nb z=>by rw [Ae nb]; exact z
    rcases fq.mp hm with hm | hm
    ·obtain ⟨B2,Vd,rfl,z1,z2,z3⟩:=nf s v hm;by_cases e:B2=D
     ·subst e;rw [AR] at z1;have e:=HO.dK.inj (fV.inj z1);have cX:((Sum.inr s:Bh),V.ref B2) ∈ sK Vd:=by rw [<-e]; exact fi.mpr ⟨_,hm,rfl⟩
      obtain ⟨⟨y,u'⟩,h1,h2⟩:=fi.mp cX;cases h2
      obtain ⟨n',e',_⟩:=z3 _ _ h1;cases e'
     ·exact ⟨B2,Vd,rfl,nB e (s1 _ _ z1),z2,z3⟩
    ·simp only [fo,Prod.mk.injEq] at hm;obtain ⟨rfl,rfl⟩:=hm;exact ⟨B1,nb,rfl,nB (fun z=>by rw [z,AR] at fB; cases fB) V5,nbK,nbV⟩
  ·rintro D σ H' nv hD ⟨v0,v1,rfl,sa,AR,nk,nf⟩;rw [ul,show Am.length=(Am.map (·.1)).length by rw [eU],fZ] at nk;exact k H' D nv sa hD AR nk nf
end
section
variable {P:Program} {w:World} {K:eV} {mg:Str->Option Value} {base:Heap}
theorem Ml (h_all:mg "all"=none) {fG:Addr} {fdG:FuncData} (XG:Fn K mg "gets_from" DG ["case","prices","away"] fG fdG) (GG:A8 P w K mg base B0 1 fG fdG ["case","prices","away"] Iv) {f:Addr} {fd:FuncData} (F:DT K "stand_by" "stand_by" Eo f fd):A8 P w K mg base B0 2 f fd ["case","aways","prices","levy"] Ka:=by
 refine F.ok Hh (fun vs H Q E h=>?_) (fun cdv A outer s H vs Q E hr h=>?_)
 ·obtain ⟨c,m,t,D0,n,xs,ws,Am,Al,qs,x,d,lv,rfl,_⟩:=h;rfl
 ·obtain ⟨c,m,t,D0,n,xs,ws,Am,Al,qs,x,d,lv,rfl,cp,aw,k⟩:=h;have nd:=Hh.nd;have hu:=Dm hr;have big:100000 < sizeLine:=by decide
  refine ⟨_,(Ak (A7 (Ao (BU rfl) (by rfl) h_all PyProof.Rows.boot_all (Aa (Bf (N:=["place","charge","case","aways","prices","levy"]) (σ0:=fun σ=>[none,none,some 0,some 1,some 2,some 3].map fun j=>j.bind fun j=>(σ[j]?).join) rfl (AF.caught (by rfl) (by decide +kernel) rfl (by decide +kernel) (by intro y hy; simp only [eX,ff,or_false] at hy; rcases hy with rfl | rfl | rfl | rfl <;> rfl)
   (by intro y hy e; simp only [eX,ff,or_false] at hy; rcases hy with rfl | rfl | rfl | rfl | rfl | rfl | rfl | rfl <;> first | exact ⟨_,rfl⟩ | cases e)) (fun σ _=>AU.of [none,none,some 0,some 1,some 2,some 3] rfl (by
   intro i j x h1 h2;match i,h1,h2 with
   | 0,_,h2=>cases h2
   | 1,_,h2=>cases h2
   | 2,h1,h2=>cases h1; cases h2; exact ⟨rfl,.inl rfl,.inl rfl⟩
   | 3,h1,h2=>cases h1; cases h2; exact ⟨rfl,.inl rfl,.inl rfl⟩
   | 4,h1,h2=>cases h1; cases h2; exact ⟨rfl,.inl rfl,.inl rfl⟩
   | 5,h1,h2=>cases h1; cases h2; exact ⟨rfl,.inl rfl,.inl rfl⟩
   | n + 6,h1,_=>cases h1)) (Bc K rfl (A3 (AE K rfl) (pv 0) Ag (fun _ _=>rfl)))
   (fun s2 H C fp=>⟨(AX K rfl (n:=2) rfl (Aj (Ai (i:=0) (show (["place","charge","case","aways","prices","levy"]:List Str).Nodup by decide +kernel) rfl (Or.inl rfl)) (Aj (Ai (i:=1) (show (["place","charge","case","aways","prices","levy"]:List Str).Nodup by decide +kernel) rfl (Or.inl rfl)) AW))),AO,(CQ Mi (An GG (hr.mono (by decide)) (by rfl) XG.mg XG.F.kp XG.b .nil A1 (Aa (pv 2) (Aa (pv 4) (Aa (Bl hu (pv 3) (pv 0) (fun _ _=>rfl)) Ad)))) (Aw Bg (pv 1) (pv 5)) (BL _))⟩)) Ad)))),?_⟩
  obtain ⟨us,ht,du⟩:=cp.ex;obtain ⟨t1,t2,Fl,FK,hc,Gf,FG,EV,hd2⟩:=cp.cw.ex;have ul:=A5 du;have OZ:=A5 FG;have Tn:=A5 hd2;have l1:=cp.cw.l1;have l2:=cp.cw.l2;have ql:=cp.ok.len;exists _,rfl,c,_,_,_,rfl,rfl,Az.of hc,rfl,t1,rfl,⟨_,Az.of Gf⟩
  refine Bb Bm (xs:=Fl) (fun D i Av H' acc=>∃ v0 v1:Option V,Av=[v0,v1,some (.ref c),some (.ref D0),some (.ref t),some (.int lv)]/\Aq H H'/\H' D=some (.lst acc)/\acc=((Am.take i).map fun r=>decide (By ws r.1 Al qs<=r.2 + lv)).map V.bl/\acc.length=i)
   (by lia) (fun D hD=>⟨_,_,rfl,Ac hD,Ab,rfl,rfl⟩) (fun D i Av H' acc hD ⟨v0,v1,_,sa,AR,_,al⟩=>⟨Az.of (sa _ _ Gf),AR,al⟩) ?_ ?_
  ·rintro D i Av H' acc x' B hD ex' ⟨v0,v1,rfl,sa,AR,ea,al⟩ hB;obtain ⟨r,tt,er,rfl,htt⟩:=Bn FG ex';obtain ⟨v,dg,fa⟩:=(aw.same sa).get cp.cw.ok1.nd (eW er);exists tt,_,rfl,Az.of (sa _ _ htt),rfl,_,_,rfl,_,_,rfl,rfl;refine ⟨_,rfl,_,rfl,_,rfl,_,rfl,D0,_,rfl,dg,c,m,t,n,xs,ws,Am,Al,qs,x,d,v,r.1,rfl,cp.same sa,fa,fun H5 s5=>?_⟩;exists _,rfl,_,rfl,_,_,rfl,rfl,_,_,rfl,rfl;refine hB _ _ _ (s5 _ _ AR) ⟨_,_,rfl,fun b o e=>by rw [Ae (Ah e hD)]; exact s5 _ _ (sa _ _ e),Ab,?_,by rw [eY,al]; rfl⟩;rw [ea,fQ,er,fg,fg];rfl
  ·rintro D Av H' acc hD ⟨v0,v1,rfl,sa,AR,ea,al⟩;exists D,_,rfl,Ba.of (by rw [AR,ea]);have e:(((Am.take Fl.length).map fun r=>decide (By ws r.1 Al qs<=r.2 + lv)).all id)=AN ws Am Al qs lv:=by
    rw [OZ,fZ,gY];rfl
   rw [e];exact k _ sa
theorem Mn (h_dict:mg "dict"=none) (h_max:mg "max"=none) {f:Addr} {fd:FuncData} (F:DT K "_law_gets" "_law_gets" Ep f fd):A8 P w K mg base B0 1 f fd ["_law_case_here","_law_away","_law_prices_here","_law_site"] Om:=by
 refine F.ok Hk (fun vs H Q E h=>?_) (fun cdv A outer s H vs Q E hr h=>?_)
 ·obtain ⟨c,m,t,A0,n,xs,ws,Am,Al,qs,x,d,y,rfl,_⟩:=h;rfl
 ·obtain ⟨c,m,t,A0,n,xs,ws,Am,Al,qs,x,d,y,rfl,cp,kn,hy,k⟩:=h;have nd:=Hk.nd;have hu:=Dm hr;have big:100000 < sizeLine:=by decide
  refine ⟨_,(Af (Ax (i:=4) nd rfl (Or.inl rfl) Ag)
  (Af (Cm PassesOwn.never rfl (Bc K rfl (A3 (AE K rfl) (pv 0) Ag (fun _ _=>rfl))) (AX K rfl rfl (Aj (Ai (i:=5) nd rfl (Or.inl rfl)) (Aj (Ai (i:=6) nd rfl (Or.inl rfl)) AW)))
  (Ak (Ax (i:=4) nd rfl (Or.inl rfl) (Aw Bg (pv 4) (Ao (GZ rfl) (by rfl) h_max PyProof.Rows.boot_max (Aa Ag (Aa (Aw EO (Bl hu (AQ (BX rfl) (by rfl) h_dict PyProof.Rows.boot_dict (Aa (pv 2) Ad)) (pv 5) (fun _ _=>rfl)) (Aw Df (pv 6) (Bl hu (pv 1) (Au (Aa (pv 5) (Aa (pv 3) Ad))) (fun _ _=>rfl)))) Ad)))))))
  (Ak (A7 (pv 4))))),?_⟩
  obtain ⟨us,ht,du⟩:=cp.ex;obtain ⟨t1,t2,Fl,FK,hc,Gf,FG,EV,hd2⟩:=cp.cw.ex;have ul:=A5 du;have OZ:=A5 FG;have Tn:=A5 hd2;have l1:=cp.cw.l1;have l2:=cp.cw.l2;have ql:=cp.ok.len;refine ⟨_,rfl,c,_,_,_,rfl,rfl,Az.of hc,rfl,t2,rfl,⟨_,Az.of EV⟩,CD (xs:=FK) (fun i σ H'=>(∃ v5 v6,σ=[some (.ref c),some (.ref A0),some (.ref t),some (.str y),some (.int (((Al.zip qs).take i).map fun z=>CI ws y z.1 z.2.2).sum),v5,v6])/\Aq H H') ⟨⟨_,_,rfl⟩,Aq.refl _⟩ (fun i σ H' _ hP=>Az.of (hP.2 _ _ EV)) (fun i v σ H' hv hP rt bk N hN=>?_) (fun σ H' hP=>?_)⟩
  ·obtain ⟨⟨v5,v6,rfl⟩,sa⟩:=hP;obtain ⟨r,tt,er,rfl,htt⟩:=Bn hd2 hv;have rm:=eW er;have hi:i < qs.length:=by have:=(fh.mp er).1; lia
   have eq:qs[i]? = some qs[i]:=eR hi;obtain ⟨r',er',rq⟩:=cp.ok.at eq;rw [er] at er';cases er'
   have qnd:(qs.map (·.1)).Nodup:=by rw [cp.ok.nm]; exact cp.cw.ok2.nd
   exists tt,_,rfl,Az.of (sa _ _ htt),rfl,_,_,rfl,_,_,rfl,rfl;refine ⟨_,rfl,_,rfl,t,us,BW qs,rfl,sa _ _ ht,by unfold BW; rw [eU]; exact ul,Ie (AH du fun b ys z=>sa _ _ z),by rw [CW]; exact qnd,by unfold BW; rw [eU]; lia,fun B hB=>?_⟩;have q1:=Ac (o:=.dK (sK (BW qs))) hB;have Ss:(upd H' B (.dK (sK (BW qs)))) B=some (.dK (sK (BW qs))):=Ab;generalize upd H' B (.dK (sK (BW qs)))=H1 at q1 Ss;have g1:=IC Ss qnd (y:=r.1) (by rw [cp.ok.nm]; exact fi.mpr ⟨r,rm,rfl⟩);have ec:GU qs r.1=qs[i].2:=by rw [rq]; exact E6 qnd (eW eq)
   rw [ec] at g1;refine ⟨_,rfl,B,_,rfl,g1,_,rfl,_,rfl,_,rfl,_,rfl,(by show 2<=sizeLine; lia),fun T hT=>?_⟩;have q2:=Ac (o:=.tup [.str r.1,.str y]) hT;have Lv:(upd H1 T (.tup [.str r.1,.str y])) T=some (.tup [.str r.1,.str y]):=Ab;generalize upd H1 T (.tup [.str r.1,.str y])=H2 at q2 Lv;obtain ⟨g2,_,_⟩:=(((kn.same sa).same q1).same q2).get (cp.cw.ok2.sub r rm) hy Lv;have r4:=cp.few r rm;have r1:=(cp.cw.ok2.lo r rm).1;exists A0,_,rfl,g2,_,_,rfl,rfl,.inl ⟨by lia,by lia⟩,_,_,rfl,rfl,_,_,rfl,_,_,rfl,rfl;refine hN _ _ ⟨⟨some (.str r.1),some (.int r.2),?_⟩,sa.trans (q1.trans q2)⟩;rw [Ku er eq,List.sum_append,List.sum_singleton,Ug];unfold CI;rfl
  ·obtain ⟨⟨v5,v6,rfl⟩,sa⟩:=hP;exists _,rfl;have e:FK.length=(Al.zip qs).length:=by rw [NW ql]; lia
   rw [e,fZ];exact k _ sa
end
section
variable {P:Program} {w:World} {K:eV} {mg:Str->Option Value} {base:Heap}
theorem Hs (h_bool:mg "bool"=none) (h_int:mg "int"=none) (h_isinstance:mg "isinstance"=none) {f:Addr} {fd:FuncData} (F:DT K "is_whole" "is_whole" Et f fd):A8 P w K mg base B0 1 f fd ["thing"] (LQ K):=by
 refine F.ok Hn (fun vs H Q E h=>?_) (fun cdv A outer s H vs Q E hr h=>?_)
 ·obtain ⟨v,b,rfl,_⟩:=h;rfl
 ·obtain ⟨v,b,rfl,hb,k⟩:=h;have nd:=Hn.nd;have big:100000 < sizeLine:=by decide
  exists _,(Ak (A7 (C3 (Ao BS (by rfl) h_isinstance PyProof.Rows.boot_isinstance (Aa (pv 0) (Aa (Ey (v:=.ty "int") (by rfl) h_int PyProof.Rows.boot_int rfl) Ad))) (De (W2 (Ao BS (by rfl) h_isinstance PyProof.Rows.boot_isinstance (Aa (pv 0) (Aa (Ey (v:=.ty "bool") (by rfl) h_bool PyProof.Rows.boot_bool rfl) Ad))))))))
  rcases hb with ⟨n,rfl,rfl⟩ | ⟨rfl,⟨c,rfl⟩ | ⟨ty,t1,t2⟩⟩
  ·exists _,rfl,_,"int",_,_,rfl,.int _,rfl,_,rfl;refine CS ?_;exact ⟨_,rfl,_,"bool",_,_,rfl,.int _,rfl,_,rfl,k⟩
  ·exists _,rfl,_,"int",_,_,rfl,.bl _,rfl,_,rfl;refine CS ?_;exact ⟨_,rfl,_,"bool",_,_,rfl,.bl _,rfl,_,rfl,k⟩
  ·exists _,rfl,_,"int",_,_,rfl,t1,t2,_,rfl;refine BO ?_;exact k
theorem Ec  {fW:Addr} {fdW:FuncData} (XW:Fn K mg "is_whole" Et ["thing"] fW fdW) (GW:A8 P w K mg base B0 1 fW fdW ["thing"] (LQ K)) {f:Addr} {fd:FuncData} (F:DT K "is_whole_from" "is_whole_from" BH f fd):A8 P w K mg base B0 2 f fd ["thing","least"] (Gy K):=by
 refine F.ok DW (fun vs H Q E h=>?_) (fun cdv A outer s H vs Q E hr h=>?_)
 ·obtain ⟨v,l,b,rfl,_⟩:=h;rfl
 ·obtain ⟨v,l,b,rfl,hb,k⟩:=h;have nd:=DW.nd;have big:100000 < sizeLine:=by decide
  exists _,(Ak (A7 (C3 (An GW (hr.mono (by decide)) (by rfl) XW.mg XW.F.kp XW.b .nil A1 (Aa (pv 0) Ad)) (De (CQ Vc (pv 0) (pv 1) (BL _))))))
  rcases hb with ⟨n,rfl,rfl⟩ | ⟨rfl,hb⟩
  ·exists _,rfl,.int n,true,rfl,.inl ⟨n,rfl,rfl⟩,_,rfl;refine CS ?_;exact ⟨_,rfl,_,rfl,_,_,rfl,rfl,k⟩
  ·exists _,rfl,v,false,rfl,.inr ⟨rfl,hb⟩,_,rfl;refine BO ?_;exact k
theorem FZ (h_isinstance:mg "isinstance"=none) (h_len:mg "len"=none) (h_tuple:mg "tuple"=none) {fI:Addr} {fdI:FuncData} (XI:Fn K mg "is_name" CV ["thing"] fI fdI) (GI:A8 P w K mg base B0 1 fI fdI ["thing"] (KH K)) {f:Addr} {fd:FuncData} (F:DT K "is_row_of" "is_row_of" DF f fd):A8 P w K mg base B0 2 f fd ["row","place"] (QS K):=by
 refine F.ok FV (fun vs H Q E h=>?_) (fun cdv A outer s H vs Q E hr h=>?_)
 ·obtain ⟨v,y,b,rfl,_⟩:=h;rfl
 ·obtain ⟨v,y,b,rfl,hb,k⟩:=h;have nd:=FV.nd;have big:100000 < sizeLine:=by decide
  exists _,(Ak (A7 (C3 (Ao BS (by rfl) h_isinstance PyProof.Rows.boot_isinstance (Aa (pv 0) (Aa (Ey (v:=.ty "tuple") (by rfl) h_tuple PyProof.Rows.boot_tuple rfl) Ad))) (C3 (CQ Kn (Ao Bp (by rfl) h_len PySem.boot_len (Aa (pv 0) Ad)) Ag (BL _)) (C3 (An GI (hr.mono (by decide)) (by rfl) XI.mg XI.F.kp XI.b .nil A1 (Aa (A3 F6 (pv 0) Ag (fun _ _=>rfl)) Ad)) (De (CQ Kn (A3 F6 (pv 0) Ag (fun _ _=>rfl)) (pv 1) (BL _))))))))
  rcases hb with ⟨rfl,ty,t1,t2⟩ | ⟨t,us,rfl,ht,hb⟩
  ·exists _,rfl,_,"tuple",_,_,rfl,t1,t2,_,rfl;refine BO ?_;exact k _ (Aq.refl _)
  ·exists _,rfl,_,"tuple",_,_,rfl,.tup ht,rfl,_,rfl;refine CS ?_;exists _,rfl,t,_,rfl,.inr (Az.of ht),rfl,_,rfl;rcases hb with ⟨hl,rfl⟩ | ⟨a,p,rfl,hb⟩
   ·have e:decide (V.int (us.length:Int)=V.int 2)=false:=decide_eq_false fun z=>hl (by injection z with z; lia)
    rw [e];refine BO ?_;exact k _ (Aq.refl _)
   ·refine CS ?_;rcases hb with ⟨nS,rfl⟩ | ⟨s1,rfl,l1,rfl⟩
    ·refine ⟨_,rfl,t,_,_,_,rfl,rfl,Az.of ht,rfl,_,rfl,.inr ⟨nS,⟨_,rfl,?_⟩⟩⟩;refine BO ?_;exact k _ (Aq.refl _)
    ·refine ⟨_,rfl,t,_,_,_,rfl,rfl,Az.of ht,rfl,_,rfl,.inl ⟨s1,rfl,l1,fun H1 q1=>⟨_,rfl,?_⟩⟩⟩;cases hn:AA s1 with
     | false=>
      rw [hn] at k;refine BO ?_;exact k _ q1
     | true=>
      rw [hn] at k;refine CS ?_;exists _,rfl,t,_,_,_,rfl,rfl,Az.of (q1 _ _ ht),rfl,_,rfl,rfl;have e:decide (V.str s1=V.str y)=(true && decide (s1=y)):=by
       by_cases z:s1=y
       ·subst z; simp
       ·rw [decide_eq_false z,decide_eq_false fun e=>z (by injection e)]; rfl
      rw [e];exact k _ q1
theorem Ht (h_all:mg "all"=none) (h_isinstance:mg "isinstance"=none) (h_len:mg "len"=none) (h_tuple:mg "tuple"=none) (h_zip:mg "zip"=none) {fR:Addr} {fdR:FuncData} (XR:Fn K mg "is_row_of" DF ["row","place"] fR fdR) (GR:A8 P w K mg base B0 2 fR fdR ["row","place"] (QS K)) {f:Addr} {fd:FuncData} (F:DT K "are_rows" "are_rows" Eu f fd):A8 P w K mg base B0 3 f fd ["thing","places"] (Og K):=by
 refine F.ok Ho (fun vs H Q E h=>?_) (fun cdv A outer s H vs Q E hr h=>?_)
 ·obtain ⟨v,L,ys,b,rfl,_⟩:=h;rfl
 ·obtain ⟨v,L,ys,b,rfl,hL,l100,hb,k⟩:=h;have nd:=Ho.nd;have big:100000 < sizeLine:=by decide
  refine ⟨_,(Af (C9 (Kh (EN (G6 (Ao BS (by rfl) h_isinstance PyProof.Rows.boot_isinstance (Aa (pv 0) (Aa (Ey (v:=.ty "tuple") (by rfl) h_tuple PyProof.Rows.boot_tuple rfl) Ad))))) (G5 (B9 RM (Ao Bp (by rfl) h_len PySem.boot_len (Aa (pv 0) Ad)) (Ao Bp (by rfl) h_len PySem.boot_len (Aa (pv 1) Ad)) (BL _)))).pt
  (Ak (A7 Fx))
  BB)
  (Ak (A7 (Ao (BU rfl) (by rfl) h_all PyProof.Rows.boot_all (Aa (Bf (N:=["row","place"]) (σ0:=fun _=>[none,none]) rfl (AF.plain (by decide +kernel) (by decide +kernel) rfl (by decide +kernel)) (fun σ _=>AU.none _ _ _ ["row","place"] σ) (TQ false (by rfl) h_zip (Aa (pv 0) (Aa (pv 1) Ad)))
   (fun s2 H C fp=>⟨(AX K rfl (n:=2) rfl (Aj (Ai (i:=0) (show (["row","place"]:List Str).Nodup by decide +kernel) rfl (Or.inl rfl)) (Aj (Ai (i:=1) (show (["row","place"]:List Str).Nodup by decide +kernel) rfl (Or.inl rfl)) AW))),AO,(An GR (hr.mono (by decide)) (by rfl) XR.mg XR.F.kp XR.b .nil A1 (Aa (pv 0) (Aa (pv 1) Ad)))⟩)) Ad))))),?_⟩
  rcases hb with ⟨rfl,ty,t1,t2⟩ | ⟨t,us,rfl,ht,hb⟩
  ·exists _,rfl,_,"tuple",_,_,rfl,t1,t2,_,rfl;exact k _ (Aq.refl _)
  ·exists _,rfl,_,"tuple",_,_,rfl,.tup ht,rfl,_,rfl;refine BO ?_;exists _,rfl,t,_,rfl,.inr (Az.of ht),_,rfl,L,_,rfl,.inl (Ba.of hL),rfl,_,rfl;rcases hb with ⟨hl,rfl⟩ | ⟨hl,bs,bl,rfl,hrw⟩
   ·have el:(!decide (V.int (us.length:Int)=V.int ((ys.map V.str).length:Int)))=true:=by
     rw [eU,decide_eq_false fun z=>hl (by injection z with z; lia)];rfl
    rw [el];refine CS ?_;exact k _ (Aq.refl _)
   ·have el:(!decide (V.int (us.length:Int)=V.int ((ys.map V.str).length:Int)))=false:=by rw [eU,hl]; simp
    rw [el];refine BO ?_;exists _,rfl,_,rfl,t,L,rfl,⟨_,Az.of ht⟩,⟨_,Ba.of hL⟩
    refine PB (bb:=false) (xs:=us) (ys:=ys.map V.str) (by rw [eU]; exact hl) (fun D i Av H' acc=>∃ v0 v1:Option V,Av=[v0,v1]/\Aq H H'/\H' D=some (.lst acc)/\acc=(bs.take i).map V.bl/\acc.length=i)
     (by lia) (fun D hD=>⟨_,_,rfl,Ac hD,Ab,rfl,rfl⟩) (fun D i Av H' acc hD ⟨v0,v1,_,sa,AR,_,al⟩=>⟨Az.of (sa _ _ ht),Ba.of (sa _ _ hL),AR,al⟩) ?_ ?_
    ·rintro D i Av H' acc x' y' T B hD ex ey hT ⟨v0,v1,rfl,sa,AR,ea,al⟩ hB;have il:i < us.length:=(fh.mp ex).1;have ec:bs[i]? = some (bs[i]'(by lia)):=eR (by lia);have ey':ys[i]? = some (ys[i]'(by lia)):=eR (by lia);rw [eZ,ey'] at ey;cases ey
     have q1:=Ac (o:=.tup [x',.str (ys[i]'(by lia))]) hT;have dB:(upd H' T (.tup [x',.str (ys[i]'(by lia))])) T=some (.tup [x',.str (ys[i]'(by lia))]):=Ab;exists T,_,rfl,Az.of dB,rfl,_,_,rfl,_,_,rfl,rfl;refine ⟨_,rfl,_,rfl,x',ys[i]'(by lia),bs[i]'(by lia),rfl,((hrw i _ _ _ ex ey' ec).same sa).same q1,fun H5 s5=>?_⟩;have q5:=q1.trans s5;refine hB _ _ _ (q5 _ _ AR) ⟨_,_,rfl,fun b o e=>by rw [Ae (Ah e hD)]; exact q5 _ _ (sa _ _ e),Ab,?_,by rw [eY,al]; rfl⟩;rw [ea,fQ,ec,fg];rfl
    ·rintro D Av H' acc hD ⟨v0,v1,rfl,sa,AR,ea,al⟩;rw [<-bl,fZ] at ea;exact ⟨D,_,rfl,Ba.of (by rw [AR,ea]),k _ sa⟩
theorem Ee  {fA:Addr} {fdA:FuncData} (XA:Fn K mg "are_rows" Eu ["thing","places"] fA fdA) (GA:A8 P w K mg base B0 3 fA fdA ["thing","places"] (Og K)) {f:Addr} {fd:FuncData} (F:DT K "are_folk_rows" "are_folk_rows" BI f fd):A8 P w K mg base B0 4 f fd ["case","thing"] (KI K):=by
 refine F.ok DX (fun vs H Q E h=>?_) (fun cdv A outer s H vs Q E hr h=>?_)
 ·obtain ⟨c,m,n,xs,ws,Am,Al,x,d,v,b,rfl,_⟩:=h;rfl
 ·obtain ⟨c,m,n,xs,ws,Am,Al,x,d,v,b,rfl,cw,hb,k⟩:=h;have nd:=DX.nd;have big:100000 < sizeLine:=by decide
  refine ⟨_,(Ak (A7 (An GA (hr.mono (by decide)) (by rfl) XA.mg XA.F.kp XA.b .nil A1 (Aa (pv 1) (Aa (Bf (N:=["place","many"]) (σ0:=fun _=>[none,none]) rfl (AF.plain (by decide +kernel) (by decide +kernel) rfl (by decide +kernel)) (fun σ _=>AU.none _ _ _ ["place","many"] σ) (IF (A3 F6 (pv 0) Ag (fun _ _=>rfl)))
   (fun s2 H C fp=>⟨(AX K rfl (n:=2) rfl (Aj (Ai (i:=0) (show (["place","many"]:List Str).Nodup by decide +kernel) rfl (Or.inl rfl)) (Aj (Ai (i:=1) (show (["place","many"]:List Str).Nodup by decide +kernel) rfl (Or.inl rfl)) AW))),AO,(pv 0)⟩)) Ad))))),?_⟩
  obtain ⟨t1,t2,Fl,FK,hc,Gf,FG,EV,hd2⟩:=cw.ex;have ul:=A5 hd2;have l2:=cw.l2;exists _,rfl,_,rfl,c,_,_,_,rfl,rfl,Az.of hc,rfl,t2,rfl,⟨_,Az.of EV⟩
  refine Bb Bm (xs:=FK) (fun D i Av H' acc=>∃ v0 v1:Option V,Av=[v0,v1]/\Aq H H'/\H' D=some (.lst acc)/\acc=((Al.map (·.1)).take i).map V.str/\acc.length=i)
   (by lia) (fun D hD=>⟨_,_,rfl,Ac hD,Ab,rfl,rfl⟩) (fun D i Av H' acc hD ⟨v0,v1,_,sa,AR,_,al⟩=>⟨Az.of (sa _ _ EV),AR,al⟩) ?_ ?_
  ·rintro D i Av H' acc x' B hD ex ⟨v0,v1,rfl,sa,AR,ea,al⟩ hB;obtain ⟨q,tt,eq,rfl,htt⟩:=Bn hd2 ex;exists tt,_,rfl,Az.of (sa _ _ htt),rfl,_,_,rfl,_,_,rfl,rfl;refine ⟨_,rfl,hB _ _ _ AR ⟨_,_,rfl,fun b o e=>by rw [Ae (Ah e hD)]; exact sa _ _ e,Ab,?_,by rw [eY,al]; rfl⟩⟩;rw [ea,fQ,eZ,eq,fg];rfl
  ·rintro D Av H' acc hD ⟨v0,v1,rfl,sa,AR,ea,al⟩;refine ⟨v,D,Al.map (·.1),b,rfl,?_,by rw [eU]; lia,hb.same sa,fun H2 s2=>k _ (sa.trans s2)⟩;have e:FK.length=(Al.map (·.1)).length:=by rw [eU]; exact ul
   rw [AR,ea,e,fZ]
theorem JF (h_all:mg "all"=none) {fO:Addr} {fdO:FuncData} (XO:Fn K mg "are_folk_rows" BI ["case","thing"] fO fdO) (GO:A8 P w K mg base B0 4 fO fdO ["case","thing"] (KI K)) {fF:Addr} {fdF:FuncData} (XF:Fn K mg "is_whole_from" BH ["thing","least"] fF fdF) (GF:A8 P w K mg base B0 2 fF fdF ["thing","least"] (Gy K)) {f:Addr} {fd:FuncData} (F:DT K "are_prices" "are_prices" CN f fd):A8 P w K mg base B0 5 f fd ["case","thing"] (UQ K):=by
 refine F.ok Fv (fun vs H Q E h=>?_) (fun cdv A outer s H vs Q E hr h=>?_)
 ·obtain ⟨c,m,n,xs,ws,Am,Al,x,d,v,b,rfl,_⟩:=h;rfl
 ·obtain ⟨c,m,n,xs,ws,Am,Al,x,d,v,b,rfl,cw,hb,k⟩:=h;have nd:=Fv.nd;have big:100000 < sizeLine:=by decide
  refine ⟨_,(Ak (A7 (C3 (An GO (hr.mono (by decide)) (by rfl) XO.mg XO.F.kp XO.b .nil A1 (Aa (pv 0) (Aa (pv 1) Ad))) (De (Ao (BU rfl) (by rfl) h_all PyProof.Rows.boot_all (Aa (Bf (N:=["place","price"]) (σ0:=fun _=>[none,none]) rfl (AF.plain (by decide +kernel) (by decide +kernel) rfl (by decide +kernel)) (fun σ _=>AU.none _ _ _ ["place","price"] σ) (IF (pv 1))
   (fun s2 H C fp=>⟨(AX K rfl (n:=2) rfl (Aj (Ai (i:=0) (show (["place","price"]:List Str).Nodup by decide +kernel) rfl (Or.inl rfl)) (Aj (Ai (i:=1) (show (["place","price"]:List Str).Nodup by decide +kernel) rfl (Or.inl rfl)) AW))),AO,(An GF (hr.mono (by decide)) (by rfl) XF.mg XF.F.kp XF.b .nil A1 (Aa (pv 1) (Aa Ag Ad)))⟩)) Ad)))))),?_⟩
  rcases hb with ⟨rfl,hb⟩ | ⟨t,us,rfl,ht,hl,bs,bl,rfl,hrw⟩
  ·refine ⟨_,rfl,_,rfl,c,m,n,xs,ws,Am,Al,x,d,v,false,rfl,cw,hb,fun H1 s1=>⟨_,rfl,?_⟩⟩;refine BO ?_;exact k _ s1
  ·have l2:=cw.l2;rw [eU] at hl;have rows:DR K H (.ref t) (Al.map (·.1)) true:=.inr ⟨t,us,rfl,ht,.inr ⟨by rw [eU]; exact hl,us.map fun _=>true,by rw [eU],by rw [gY]; exact (gz.mpr fun _ _=>rfl).symm,fun i u y c' a1 a2 a3=>by
    have il:i < us.length:=(fh.mp a1).1;obtain ⟨tt,p,rfl,htt,_⟩:=hrw i u y (bs[i]'(by lia)) a1 a2 (eR (by lia));rw [eZ,a1] at a3;cases a3
    rw [eZ] at a2;cases er:Al[i]? with
    | none=>rw [er] at a2; cases a2
    | some r=>
     rw [er] at a2;cases a2
     exact Gm.right (cw.map.at'.nm _ (cw.ok2.sub r (eW er))) htt⟩⟩
   refine ⟨_,rfl,_,rfl,c,m,n,xs,ws,Am,Al,x,d,.ref t,true,rfl,cw,rows,fun H1 s1=>⟨_,rfl,?_⟩⟩;refine CS ?_;exists _,rfl,t,rfl,⟨_,Az.of (s1 _ _ ht)⟩
   refine Bb Bm (xs:=us) (fun D i Av H' acc=>∃ v0 v1:Option V,Av=[v0,v1]/\Aq H1 H'/\H' D=some (.lst acc)/\acc=(bs.take i).map V.bl/\acc.length=i)
    (by lia) (fun D hD=>⟨_,_,rfl,Ac hD,Ab,rfl,rfl⟩) (fun D i Av H' acc hD ⟨v0,v1,_,sa,AR,_,al⟩=>⟨Az.of (sa _ _ (s1 _ _ ht)),AR,al⟩) ?_ ?_
   ·rintro D i Av H' acc x' B hD ex ⟨v0,v1,rfl,sa,AR,ea,al⟩ hB;have il:i < us.length:=(fh.mp ex).1;have ec:bs[i]? = some (bs[i]'(by lia)):=eR (by lia);obtain ⟨tt,p,rfl,htt,np⟩:=hrw i x' ((Al[i]'(by lia)).1) (bs[i]'(by lia)) ex (by rw [eZ,eR (by lia)]; rfl) ec;exists tt,_,rfl,Az.of (sa _ _ (s1 _ _ htt)),rfl,_,_,rfl,_,_,rfl,rfl;refine ⟨_,rfl,p,0,bs[i]'(by lia),rfl,(np.same s1).same sa,hB _ _ _ AR ⟨_,_,rfl,fun b o e=>by rw [Ae (Ah e hD)]; exact sa _ _ e,Ab,?_,by rw [eY,al]; rfl⟩⟩;rw [ea,fQ,ec,fg];rfl
   ·rintro D Av H' acc hD ⟨v0,v1,rfl,sa,AR,ea,al⟩;rw [<-bl,fZ] at ea;exact ⟨D,_,rfl,Ba.of (by rw [AR,ea]),k _ (s1.trans sa)⟩
theorem Nv  {fF:Addr} {fdF:FuncData} (XF:Fn K mg "is_whole_from" BH ["thing","least"] fF fdF) (GF:A8 P w K mg base B0 2 fF fdF ["thing","least"] (Gy K)) {f:Addr} {fd:FuncData} (F:DT K "is_levy" "is_levy" Fg f fd):A8 P w K mg base B0 3 f fd ["case","thing"] (Oh K):=by
 refine F.ok IB (fun vs H Q E h=>?_) (fun cdv A outer s H vs Q E hr h=>?_)
 ·obtain ⟨c,m,n,xs,ws,Am,Al,x,d,v,b,rfl,_⟩:=h;rfl
 ·obtain ⟨c,m,n,xs,ws,Am,Al,x,d,v,b,rfl,cw,hb,k⟩:=h;have nd:=IB.nd;have big:100000 < sizeLine:=by decide
  exists _,(Ak (A7 (C3 (An GF (hr.mono (by decide)) (by rfl) XF.mg XF.F.kp XF.b .nil A1 (Aa (pv 1) (Aa Ag Ad))) (De (pe_or (RE (KZ (A3 F6 (pv 0) Ag (fun _ _=>rfl)))) (De (CQ Kn (pv 1) Ag (BL _))))))))
  obtain ⟨t1,t2,Fl,FK,hc,Gf,FG,EV,hd2⟩:=cw.ex;rcases hb with ⟨rfl,hb⟩ | ⟨lv,rfl,l0,rfl⟩
  ·exists _,rfl,v,0,false,rfl,hb,_,rfl;refine BO ?_;exact k
  ·exists _,rfl,.int lv,0,true,rfl,.inl ⟨lv,rfl,(decide_eq_true l0).symm⟩,_,rfl;refine CS ?_;exists _,rfl,c,_,_,_,rfl,rfl,Az.of hc,rfl,_,rfl;rcases cw.lim with ⟨rfl,_⟩ | ⟨j,rfl,_⟩
   ·refine BO ?_;exists _,rfl,rfl;have e:decide (V.int lv=V.int 0)=(!decide (V.non=V.non) || decide (lv=0)):=by
     rw [decide_eq_true (rfl:V.non=V.non)];by_cases z:lv=0
     ·subst z; simp
     ·rw [decide_eq_false z,decide_eq_false fun e=>z (by injection e)]; rfl
    rw [e];exact k
   ·refine CS ?_;have e:(!decide (V.int j=V.non) || decide (lv=0))=true:=by
     have ne:¬ V.int j=V.non:=by intro e; cases e
     rw [decide_eq_false ne];rfl
    rw [e] at k;exact k
theorem RO  {fP:Addr} {fdP:FuncData} (XP:Fn K mg "are_prices" CN ["case","thing"] fP fdP) (GP:A8 P w K mg base B0 5 fP fdP ["case","thing"] (UQ K)) {fL:Addr} {fdL:FuncData} (XL:Fn K mg "is_levy" Fg ["case","thing"] fL fdL) (GL:A8 P w K mg base B0 3 fL fdL ["case","thing"] (Oh K)) {fSF:Addr} {fdSF:FuncData} (XSF:Fn K mg "site_fars" DA ["case"] fSF fdSF) (GSF:A8 P w K mg base B0 4 fSF fdSF ["case"] Iu) {fB:Addr} {fdB:FuncData} (XB:Fn K mg "stand_by" Eo ["case","aways","prices","levy"] fB fdB) (GB:A8 P w K mg base B0 2 fB fdB ["case","aways","prices","levy"] Ka) {f:Addr} {fd:FuncData} (F:DT K "stand" "stand" Ib f fd):A8 P w K mg base B0 6 f fd ["case","prices","levy"] (LR K):=by
 refine F.ok LY (fun vs H Q E h=>?_) (fun cdv A outer s H vs Q E hr h=>?_)
 ·obtain ⟨c,m,n,xs,ws,Am,Al,x,d,v,l,rfl,_⟩:=h;rfl
 ·obtain ⟨c,m,n,xs,ws,Am,Al,x,d,v,l,rfl,cw,k⟩:=h;have nd:=LY.nd;have big:100000 < sizeLine:=by decide
  refine ⟨_,(Af (C9 (Kh (EN (G6 (An GP (hr.mono (by decide)) (by rfl) XP.mg XP.F.kp XP.b .nil A1 (Aa (pv 0) (Aa (pv 1) Ad))))) (G5 (EN (G6 (An GL (hr.mono (by decide)) (by rfl) XL.mg XL.F.kp XL.b .nil A1 (Aa (pv 0) (Aa (pv 2) Ad))))))).pt
  (Ak (A7 Fx))
  BB)
  (Ak (A7 (An GB (hr.mono (by decide)) (by rfl) XB.mg XB.F.kp XB.b .nil A1 (Aa (pv 0) (Aa (An GSF (hr.mono (by decide)) (by rfl) XSF.mg XSF.F.kp XSF.b .nil A1 (Aa (pv 0) Ad)) (Aa (pv 1) (Aa (pv 2) Ad)))))))),?_⟩
  rcases k with ⟨hb,k⟩ | ⟨t,qs,rfl,cp,k⟩
  ·refine ⟨_,rfl,_,rfl,c,m,n,xs,ws,Am,Al,x,d,v,false,rfl,cw,hb,fun H1 s1=>⟨_,rfl,?_⟩⟩;exact k _ s1
  ·refine ⟨_,rfl,_,rfl,c,m,n,xs,ws,Am,Al,x,d,.ref t,true,rfl,cw,cp.prices,fun H1 s1=>⟨_,rfl,?_⟩⟩;refine BO ?_;rcases k with ⟨hb,k⟩ | ⟨lv,rfl,hb,k⟩
   ·exists _,rfl,_,rfl,c,m,n,xs,ws,Am,Al,x,d,l,false,rfl,cw.same s1,hb.same s1,_,rfl;exact k _ s1
   ·exists _,rfl,_,rfl,c,m,n,xs,ws,Am,Al,x,d,.int lv,true,rfl,cw.same s1,hb.same s1,_,rfl;refine BO ?_;refine ⟨_,rfl,_,rfl,c,m,n,xs,ws,Am,Al,x,d,rfl,cw.same s1,fun H2 D nv s2 hD AR ks fs=>?_⟩;have SV:=s1.trans s2;exact ⟨_,rfl,_,rfl,c,m,t,D,n,xs,ws,Am,Al,qs,x,d,lv,rfl,cp.same SV,⟨nv,AR,ks,fs⟩,fun H3 s3=>k _ (SV.trans s3)⟩
end
section
variable {P:Program} {w:World} {K:eV} {mg:Str->Option Value} {base:Heap}
theorem JE (h_all:mg "all"=none) (h_list:mg "list"=none) (h_sorted:mg "sorted"=none) (h_set:mg "set"=none) {fN:Addr} {fdN:FuncData} (XN:Fn K mg "is_name" CV ["thing"] fN fdN) (GN:A8 P w K mg base B0 1 fN fdN ["thing"] (KH K)) {f:Addr} {fd:FuncData} (F:DT K "are_rising" "are_rising" CM f fd):A8 P w K mg base B0 2 f fd ["things"] (LS K):=by
 refine F.ok Fu (fun vs H Q E h=>?_) (fun cdv A outer s H vs Q E hr h=>?_)
 ·obtain ⟨t,xs,ds,rfl,_⟩:=h;rfl
 ·obtain ⟨t,xs,ds,rfl,ht,dx,short,few,k⟩:=h;have nd:=Fu.nd;have Lp:=hr.units;have big:100000 < sizeLine:=by decide
  refine ⟨_,(Ak (A7 (C3 (Ao (BU rfl) (by rfl) h_all PyProof.Rows.boot_all (Aa (Bf (N:=["thing"]) (σ0:=fun _=>[none]) rfl (AF.plain (by decide +kernel) (by decide +kernel) rfl (by decide +kernel)) (fun σ _=>AU.none _ _ _ ["thing"] σ) (Ww (pv 0))
   (fun s2 H C fp=>⟨Ai (i:=0) (show (["thing"]:List Str).Nodup by decide +kernel) rfl (Or.inl rfl),AO,(An GN (hr.mono (by decide)) (by rfl) XN.mg XN.F.kp XN.b .nil A1 (Aa (pv 0) Ad))⟩)) Ad))
   (De (CQ (PV Lp) (AQ Lz (by rfl) h_list PyProof.Rows.boot_list (Aa (pv 0) Ad)) (Ao (HW rfl) (by rfl) h_sorted PyProof.Rows.boot_sorted (Aa (AQ (MF K rfl rfl) (by rfl) h_set PyProof.Rows.boot_set (Aa (pv 0) Ad)) Ad)) (BL _)))))),?_⟩
  have seq:∀ H',Aq H H'->Ba K H' t xs\/Az K H' t xs:=fun H' sa=>ht.imp (fun z=>Ba.of (sa _ _ z)) (fun z=>Az.of (sa _ _ z))
  have dl:=dx.len;exists _,rfl,t,rfl;rcases ht with ht | ht
  ·refine .inl ⟨⟨_,Ba.of ht⟩,Bb C4 (xs:=xs) (fun D i σ H' acc=>∃ v0:Option V,σ=[v0]/\Aq H H'/\H' D=some (.lst acc)/\acc=((ds.take i).map Hv).map V.bl/\acc.length=i)
    (by lia) (fun D hD=>⟨_,rfl,Ac hD,Ab,rfl,rfl⟩) (fun D i σ H' acc hD ⟨v0,_,sa,AR,_,al⟩=>⟨Ba.of (sa _ _ ht),AR,al⟩) ?_ ?_⟩
   ·rintro D i σ H' acc x B hD ex ⟨v0,rfl,sa,AR,rfl,al⟩ hB;obtain ⟨d,ed,hd⟩:=dx.at ex;have Lu:=hd.same sa;have step:∀ H5,Aq H' H5->B [some x] (.bl (Hv d)) H5:=fun H5 s5=>by
     refine hB _ _ _ (s5 _ _ AR) ⟨_,rfl,fun b o e=>?_,Ab,?_,by rw [eY,al]; rfl⟩
     ·rw [Ae (Ah e hD)];exact s5 _ _ (sa _ _ e)
     ·rw [fQ,ed,fg,fg];rfl
    exists _,rfl,x,rfl;cases d with
    | str y=>
     cases hd
     exact .inl ⟨y,rfl,short y (eW ed),step⟩
    | _=>exact .inr ⟨Lu.notStr (fun s=>by intro z; cases z),step _ (Aq.refl _)⟩
   ·rintro D σ H' acc hD ⟨v0,rfl,sa,AR,rfl,al⟩;rw [dl,fZ] at AR;exists D,ds.map Hv,rfl,Ba.of AR,_,rfl;refine DP (fun z=>?_) (fun z=>?_)
    ·obtain ⟨ss,rfl,hn⟩:=G9 z;obtain rfl:=dx.txt;rw [eU] at few;refine ⟨_,rfl,t,_,rfl,seq _ sa,fun l hl=>?_⟩;have s1:=Ac (o:=.lst (ss.map V.str)) hl;refine ⟨_,rfl,t,ss,rfl,seq _ (sa.trans s1),by lia,fun D2 Q9=>⟨D2,ss,rfl,Ab,by lia,fun l2 ss' Jz YQ Lk srt=>?_⟩⟩;have s2:=Ac (o:=setS P w D2 ss) Q9;have s3:=Ac (o:=.lst (ss'.map V.str)) Jz;exists _,_,.lst (s3 _ _ (s2 _ _ Ab)) (C6 _ ss),.lst Ab (C6 _ ss'),by simp only [PyData.canLay0]; exact EU hn,by simp only [PyData.canLay0]; exact EU (fun s hs=>hn s ((Lk s).mp hs)),?_
     ·simp only [PyData.depth,F8];decide
     ·refine k _ _ (sa.trans (s1.trans (s2.trans s3))) ?_;rw [M6];exists fun e=>⟨ss,rfl,hn,(Ew YQ Lk srt).mp (D4 e)⟩
      rintro ⟨s5,e5,_,r5⟩;obtain rfl:=D4 e5;rw [(Ew YQ Lk srt).mpr r5]
    ·refine k _ _ sa ⟨fun q=>absurd q (by decide),fun ⟨ss,e,hn,_⟩=>?_⟩;rw [e] at z;exact absurd (K4 hn) z
  ·refine .inr ⟨⟨_,Az.of ht⟩,Bb Bm (xs:=xs) (fun D i σ H' acc=>∃ v0:Option V,σ=[v0]/\Aq H H'/\H' D=some (.lst acc)/\acc=((ds.take i).map Hv).map V.bl/\acc.length=i)
    (by lia) (fun D hD=>⟨_,rfl,Ac hD,Ab,rfl,rfl⟩) (fun D i σ H' acc hD ⟨v0,_,sa,AR,_,al⟩=>⟨Az.of (sa _ _ ht),AR,al⟩) ?_ ?_⟩
   ·rintro D i σ H' acc x B hD ex ⟨v0,rfl,sa,AR,rfl,al⟩ hB;obtain ⟨d,ed,hd⟩:=dx.at ex;have Lu:=hd.same sa;have step:∀ H5,Aq H' H5->B [some x] (.bl (Hv d)) H5:=fun H5 s5=>by
     refine hB _ _ _ (s5 _ _ AR) ⟨_,rfl,fun b o e=>?_,Ab,?_,by rw [eY,al]; rfl⟩
     ·rw [Ae (Ah e hD)];exact s5 _ _ (sa _ _ e)
     ·rw [fQ,ed,fg,fg];rfl
    exists _,rfl,x,rfl;cases d with
    | str y=>
     cases hd
     exact .inl ⟨y,rfl,short y (eW ed),step⟩
    | _=>exact .inr ⟨Lu.notStr (fun s=>by intro z; cases z),step _ (Aq.refl _)⟩
   ·rintro D σ H' acc hD ⟨v0,rfl,sa,AR,rfl,al⟩;rw [dl,fZ] at AR;exists D,ds.map Hv,rfl,Ba.of AR,_,rfl;refine DP (fun z=>?_) (fun z=>?_)
    ·obtain ⟨ss,rfl,hn⟩:=G9 z;obtain rfl:=dx.txt;rw [eU] at few;refine ⟨_,rfl,t,_,rfl,seq _ sa,fun l hl=>?_⟩;have s1:=Ac (o:=.lst (ss.map V.str)) hl;refine ⟨_,rfl,t,ss,rfl,seq _ (sa.trans s1),by lia,fun D2 Q9=>⟨D2,ss,rfl,Ab,by lia,fun l2 ss' Jz YQ Lk srt=>?_⟩⟩;have s2:=Ac (o:=setS P w D2 ss) Q9;have s3:=Ac (o:=.lst (ss'.map V.str)) Jz;exists _,_,.lst (s3 _ _ (s2 _ _ Ab)) (C6 _ ss),.lst Ab (C6 _ ss'),by simp only [PyData.canLay0]; exact EU hn,by simp only [PyData.canLay0]; exact EU (fun s hs=>hn s ((Lk s).mp hs)),?_
     ·simp only [PyData.depth,F8];decide
     ·refine k _ _ (sa.trans (s1.trans (s2.trans s3))) ?_;rw [M6];exists fun e=>⟨ss,rfl,hn,(Ew YQ Lk srt).mp (D4 e)⟩
      rintro ⟨s5,e5,_,r5⟩;obtain rfl:=D4 e5;rw [(Ew YQ Lk srt).mpr r5]
    ·refine k _ _ sa ⟨fun q=>absurd q (by decide),fun ⟨ss,e,hn,_⟩=>?_⟩;rw [e] at z;exact absurd (K4 hn) z
end
section
variable {P:Program} {w:World} {K:eV} {mg:Str->Option Value} {base:Heap}
theorem IP (h_len:mg "len"=none) (h_min:mg "min"=none) {f:Addr} {fd:FuncData} (F:DT K "most_houses" "most_houses" C7 f fd):A8 P w K mg base B0 1 f fd ["case"] QW:=by
 refine F.ok EJ (fun vs H Q E h=>?_) (fun cdv A outer s H vs Q E hr h=>?_)
 ·obtain ⟨c,sites,x,d,rfl,_⟩:=h;rfl
 ·obtain ⟨c,sites,x,d,rfl,cs,k⟩:=h;have nd:=EJ.nd;have big:100000 < sizeLine:=by decide
  refine ⟨_,(Af (Dd (pv 0) (AX K rfl rfl (Aj (Ai (i:=1) nd rfl (Or.inl rfl)) (Aj (Ai (i:=2) nd rfl (Or.inl rfl)) (Aj (Ai (i:=3) nd rfl (Or.inl rfl)) (Aj (Ai (i:=4) nd rfl (Or.inl rfl)) AW))))))
  (Ak (A7 (R9 (F1 (La (pv 4))) (Ao (Bx K rfl) (by rfl) h_len PySem.boot_len (Aa (pv 2) Ad)) (Ao (Qv rfl) (by rfl) h_min PyProof.Rows.boot_min (Aa (pv 4) (Aa (Ao (Bx K rfl) (by rfl) h_len PySem.boot_len (Aa (pv 2) Ad)) Ad))))))),?_⟩
  obtain ⟨mV,t2V,t1,Fl,Am,hc,Gf,FG,rfl,snd,sl,lim⟩:=cs;have ul:=A5 FG;exists _,rfl,c,_,rfl,Az.of hc,rfl,_,_,rfl,_,_,rfl,_,_,rfl,_,_,rfl,rfl;exists _,rfl,_,rfl;rcases lim with ⟨rfl,_⟩ | ⟨lm,rfl,_,lm1,lm2⟩
  ·refine DP (fun _=>?_) (fun z=>by simp at z);exists _,rfl,t1,_,rfl,.inr (Az.of Gf);refine k _ (by lia) fun j hj=>?_
   rw [eU] at hj;simp only [RU,iff_true];lia
  ·refine DP (fun z=>by simp at z) (fun _=>?_);exists _,rfl,_,rfl,t1,_,rfl,.inr (Az.of Gf),_,_,rfl;refine k _ (by split <;> lia) fun j hj=>?_
   rw [eU] at hj;simp only [RU,decide_eq_true_eq];split <;> lia
end
section
variable {P:Program} {w:World} {K:eV} {mg:Str->Option Value} {base:Heap}
theorem JD (h_all:mg "all"=none) (h_dict:mg "dict"=none) (h_isinstance:mg "isinstance"=none) (h_len:mg "len"=none) (h_tuple:mg "tuple"=none) {fM fR:Addr} {fdM fdR:FuncData} (XM:Fn K mg "most_houses" C7 ["case"] fM fdM) (GM:A8 P w K mg base B0 1 fM fdM ["case"] QW) (XR:Fn K mg "are_rising" CM ["things"] fR fdR) (GR:A8 P w K mg base B0 2 fR fdR ["things"] (LS K)) {f:Addr} {fd:FuncData} (F:DT K "is_opening" "is_opening" CL f fd):A8 P w K mg base B0 3 f fd ["case","thing"] (Ol K):=by
 refine F.ok Ft (fun vs H Q E h=>?_) (fun cdv A outer s H vs Q E hr h=>?_)
 ·obtain ⟨c,sites,x,d,v,rfl,_⟩:=h;rfl
 ·obtain ⟨c,sites,x,d,v,rfl,cs,k⟩:=h;have nd:=Ft.nd;have hu:=Dm hr;have big:1000 < sizeLine:=by decide
  refine ⟨_,(Af (C9 (Kh (EN (G6 (Ao BS (by rfl) h_isinstance PyProof.Rows.boot_isinstance (Aa (pv 1) (Aa (Ey (v:=.ty "tuple") (by rfl) h_tuple PyProof.Rows.boot_tuple rfl) Ad))))) (G5 (EN (Md Mi Mi Ag (Ao Bp (by rfl) h_len PySem.boot_len (Aa (pv 1) Ad)) (An GM (hr.mono (by decide)) (by rfl) XM.mg XM.F.kp XM.b .nil A1 (Aa (pv 0) Ad)))))).pt
  (Ak (A7 Fx))
  BB)
  (Af (Ax (i:=2) nd rfl (Or.inr rfl) (AQ (BX rfl) (by rfl) h_dict PyProof.Rows.boot_dict (Aa (A3 F6 (pv 0) Ag (fun _ _=>rfl)) Ad)))
  (Ak (A7 (C3 (An GR (hr.mono (by decide)) (by rfl) XR.mg XR.F.kp XR.b .nil A1 (Aa (pv 1) Ad)) (De (Ao (BU rfl) (by rfl) h_all PyProof.Rows.boot_all (Aa (Bf (N:=["place","sites"]) (σ0:=fun σ=>[none,some 2].map fun j=>j.bind fun j=>(σ[j]?).join) rfl (AF.caught (by rfl) (by decide +kernel) rfl (by decide +kernel) (by intro y hy; simp only [eX,ff,or_false] at hy; rcases hy with rfl <;> rfl)
   (by intro y hy e; simp only [eX,ff,or_false] at hy; rcases hy with rfl | rfl | rfl <;> first | exact ⟨_,rfl⟩ | cases e)) (fun σ _=>AU.of [none,some 2] rfl (by
   intro i j x h1 h2;match i,h1,h2 with
   | 0,_,h2=>cases h2
   | 1,h1,h2=>cases h1; cases h2; exact ⟨rfl,.inl rfl,.inl rfl⟩
   | n + 2,h1,_=>cases h1)) (IF (pv 1))
   (fun s2 H C fp=>⟨(Ai (i:=0) (show (["place","sites"]:List Str).Nodup by decide +kernel) rfl (Or.inl rfl)),AO,(RE (W3 hu (pv 0) (pv 1)))⟩)) Ad)))))))),?_⟩
  rcases k with ⟨ds,⟨t,xs,rfl,ht,dx,short,few⟩,k⟩ | ⟨⟨ty,t1,t2⟩,k⟩
  ·exists _,rfl,_,"tuple",_,_,rfl,.tup ht,rfl,_,rfl;refine BO ?_;exists _,rfl,t,_,rfl,.inr (Az.of ht),_,_,rfl,rfl,_,rfl;have dl:=dx.len;refine DP (fun z1=>?_) (fun z1=>?_)
   ·refine ⟨_,rfl,c,sites,x,d,rfl,cs,fun mo mo0 mok=>?_⟩;obtain ⟨mV,t2V,t1,Fl,Am,hc,Gf,FG,rfl,snd,sl,lim⟩:=cs;have ul:=A5 FG;have lens:∀ ss:List Str,Cy ss->(∀ s ∈ ss,AA s=true/\s ∈ Am.map (·.1))->ss.length<=(Am.map (·.1)).length:=fun ss ri h=>List.Nodup.length_le_of_subset ri.nodup fun s hs=>(h s hs).2
    rw [eU] at sl;exists _,_,rfl,rfl,_,rfl;refine DP (fun z2=>?_) (fun z2=>?_)
    ·refine k _ _ (Aq.refl _) ⟨fun q=>absurd q (by decide),fun ⟨ss,e,_,ri,mem,lb⟩=>?_⟩;have:=(mok _ (lens ss ri mem)).mpr lb;rw [dl,e,eU] at z2;simp [this] at z2
    ·have z3:(xs.length:Int)<=mo:=by simpa using z2
     refine ⟨_,rfl,c,_,_,_,rfl,rfl,Az.of hc,rfl,t1,Fl,BW Am,rfl,Gf,by unfold BW; rw [eU]; exact ul,Ie FG,by rw [CW]; exact snd,by unfold BW; rw [eU]; lia,fun B hB=>?_⟩;have s1:=Ac (o:=.dK (sK (BW Am))) hB;have Ss:(upd H B (.dK (sK (BW Am)))) B=some (.dK (sK (BW Am))):=Ab;generalize upd H B (.dK (sK (BW Am)))=H1 at s1 Ss;refine ⟨_,rfl,t,xs,ds,rfl,.inr (s1 _ _ ht),dx.mono (fun a o e _=>s1 a o e),short,few,fun b H2 s2 hb=>⟨_,rfl,?_⟩⟩;refine DP (fun z=>?_) (fun z=>?_)
     ·obtain ⟨ss,rfl,hn,ri⟩:=hb.mp z;obtain rfl:=dx.txt;rw [eU] at few z1 z3;have ne:ss ≠ []:=fun e=>by subst e; simp at z1
      have dP:=s2 _ _ Ss;have EV:=s2 _ _ (s1 _ _ ht);exists _,rfl,t,rfl,⟨_,Az.of EV⟩
      refine Bb Bm (xs:=ss.map V.str) (fun D i σ H' acc=>∃ v0:Option V,σ=[v0,some (.ref B)]/\Aq H2 H'/\H' D=some (.lst acc)/\acc=((ss.take i).map fun y=>decide (y ∈ Am.map (·.1))).map V.bl/\acc.length=i)
       (by rw [eU]; lia) (fun D hD=>⟨_,rfl,Ac hD,Ab,rfl,rfl⟩) (fun D i σ H' acc hD ⟨v0,_,sa,AR,_,al⟩=>⟨Az.of (sa _ _ EV),AR,al⟩) ?_ ?_
      ·rintro D i σ H' acc x' Bk hD ex ⟨v0,rfl,sa,AR,rfl,al⟩ hBk;obtain ⟨y,ey,rfl⟩:∃ y,ss[i]? = some y/\x'=.str y:=by
        rw [eZ] at ex;cases q:ss[i]? with
        | none=>rw [q] at ex; cases ex
        | some y=>rw [q] at ex; exact ⟨y,rfl,(fV.inj ex).symm⟩
       exists _,rfl,_,rfl,B,_,rfl,Cp.k (k:=Sum.inr y) (sa _ _ dP);rw [Hq,CW];refine hBk _ _ _ AR ⟨_,rfl,fun b o e=>?_,Ab,?_,by rw [eY,al]; rfl⟩
       ·rw [Ae (Ah e hD)];exact sa _ _ e
       ·rw [fQ,ey,fg,fg];rfl
      ·rintro D σ H' acc hD ⟨v0,rfl,sa,AR,rfl,al⟩;rw [eU,fZ] at AR;exists D,_,rfl,Ba.of AR;refine k _ _ (s1.trans (s2.trans sa)) ?_;rw [gY,gz];constructor
       ·intro h;have mem:∀ s ∈ ss,AA s=true/\s ∈ Am.map (·.1):=fun y hy=>⟨hn y hy,by simpa using h y hy⟩
        exact ⟨ss,rfl,ne,ri,mem,(mok _ (lens ss ri mem)).mp z3⟩
       ·rintro ⟨s5,e5,_,_,mem,_⟩ y hy;rw [D4 e5] at hy;simpa using (mem y hy).2
     ·refine k _ _ (s1.trans s2) ⟨fun q=>absurd q (by decide),fun ⟨ss,e,_,ri,mem,_⟩=>absurd (hb.mpr ⟨ss,e,fun y hy=>(mem y hy).1,ri⟩) z⟩
   ·exists _,rfl;refine CS ?_;refine k _ _ (Aq.refl _) ⟨fun q=>absurd q (by decide),fun ⟨ss,e,ne,_⟩=>?_⟩;rw [dl,e,eU,decide_eq_true_eq] at z1;exact absurd (iV.mp (by lia)) ne
  ·exists _,rfl,_,"tuple",_,_,rfl,t1,t2,_,rfl;exact k _ (Aq.refl _)
theorem JG (h_all:mg "all"=none) {fO:Addr} {fdO:FuncData} (XO:Fn K mg "are_folk_rows" BI ["case","thing"] fO fdO) (GO:A8 P w K mg base B0 4 fO fdO ["case","thing"] (KI K)) {fI:Addr} {fdI:FuncData} (XI:Fn K mg "is_name" CV ["thing"] fI fdI) (GI:A8 P w K mg base B0 1 fI fdI ["thing"] (KH K)) {f:Addr} {fd:FuncData} (F:DT K "are_goings" "are_goings" CO f fd):A8 P w K mg base B0 5 f fd ["case","opening","thing"] (UR K):=by
 refine F.ok Fw (fun vs H Q E h=>?_) (fun cdv A outer s H vs Q E hr h=>?_)
 ·obtain ⟨c,m,o,n,xs,ws,Am,Al,x,d,ss,v,b,rfl,_⟩:=h;rfl
 ·obtain ⟨c,m,o,n,xs,ws,Am,Al,x,d,ss,v,b,rfl,cw,ho,hb,k⟩:=h;have nd:=Fw.nd;have big:100000 < sizeLine:=by decide
  refine ⟨_,(Ak (A7 (C3 (An GO (hr.mono (by decide)) (by rfl) XO.mg XO.F.kp XO.b .nil A1 (Aa (pv 0) (Aa (pv 2) Ad))) (De (Ao (BU rfl) (by rfl) h_all PyProof.Rows.boot_all (Aa (Bf (N:=["place","house","opening"]) (σ0:=fun σ=>[none,none,some 1].map fun j=>j.bind fun j=>(σ[j]?).join) rfl (AF.caught (by rfl) (by decide +kernel) rfl (by decide +kernel) (by intro y hy; simp only [eX,ff,or_false] at hy; rcases hy with rfl <;> rfl)
   (by intro y hy e; simp only [eX,ff,or_false] at hy; rcases hy with rfl | rfl | rfl | rfl | rfl <;> first | exact ⟨_,rfl⟩ | cases e)) (fun σ _=>AU.of [none,none,some 1] rfl (by
   intro i j x h1 h2;match i,h1,h2 with
   | 0,_,h2=>cases h2
   | 1,_,h2=>cases h2
   | 2,h1,h2=>cases h1; cases h2; exact ⟨rfl,.inl rfl,.inl rfl⟩
   | n + 3,h1,_=>cases h1)) (Bc K rfl (pv 2))
   (fun s2 H C fp=>⟨(AX K rfl (n:=2) rfl (Aj (Ai (i:=0) (show (["place","house","opening"]:List Str).Nodup by decide +kernel) rfl (Or.inl rfl)) (Aj (Ai (i:=1) (show (["place","house","opening"]:List Str).Nodup by decide +kernel) rfl (Or.inl rfl)) AW))),AO,(C3 (An GI (hr.mono (by decide)) (by rfl) XI.mg XI.F.kp XI.b .nil A1 (Aa (pv 1) Ad)) (De (CQ (WG K rfl) (pv 1) (pv 2) (by rfl))))⟩)) Ad)))))),?_⟩
  rcases hb with ⟨rfl,hb⟩ | ⟨t,us,rfl,ht,hl,bs,bl,rfl,hrw⟩
  ·refine ⟨_,rfl,_,rfl,c,m,n,xs,ws,Am,Al,x,d,v,false,rfl,cw,hb,fun H1 s1=>⟨_,rfl,?_⟩⟩;refine BO ?_;exact k _ s1
  ·have l2:=cw.l2;rw [eU] at hl;have rows:DR K H (.ref t) (Al.map (·.1)) true:=.inr ⟨t,us,rfl,ht,.inr ⟨by rw [eU]; exact hl,us.map fun _=>true,by rw [eU],by rw [gY]; exact (gz.mpr fun _ _=>rfl).symm,fun i u y c' a1 a2 a3=>by
    have il:i < us.length:=(fh.mp a1).1;obtain ⟨tt,p,rfl,htt,_⟩:=hrw i u y (bs[i]'(by lia)) a1 a2 (eR (by lia));rw [eZ,a1] at a3;cases a3
    rw [eZ] at a2;cases er:Al[i]? with
    | none=>rw [er] at a2; cases a2
    | some r=>
     rw [er] at a2;cases a2
     exact Gm.right (cw.map.at'.nm _ (cw.ok2.sub r (eW er))) htt⟩⟩
   refine ⟨_,rfl,_,rfl,c,m,n,xs,ws,Am,Al,x,d,.ref t,true,rfl,cw,rows,fun H1 s1=>⟨_,rfl,?_⟩⟩;refine CS ?_;exists _,rfl,t,rfl,⟨_,Az.of (s1 _ _ ht)⟩
   refine Bb Bm (xs:=us) (fun D i Av H' acc=>∃ v0 v1:Option V,Av=[v0,v1,some (.ref o)]/\Aq H1 H'/\H' D=some (.lst acc)/\acc=(bs.take i).map V.bl/\acc.length=i)
    (by lia) (fun D hD=>⟨_,_,rfl,Ac hD,Ab,rfl,rfl⟩) (fun D i Av H' acc hD ⟨v0,v1,_,sa,AR,_,al⟩=>⟨Az.of (sa _ _ (s1 _ _ ht)),AR,al⟩) ?_ ?_
   ·rintro D i Av H' acc x' B hD ex ⟨v0,v1,rfl,sa,AR,ea,al⟩ hB;have il:i < us.length:=(fh.mp ex).1;obtain ⟨bc,ec⟩:∃ bc,bs[i]? = some bc:=⟨_,eR (by lia)⟩
    obtain ⟨tt,p,rfl,htt,np⟩:=hrw i x' ((Al[i]'(by lia)).1) bc ex (by rw [eZ,eR (by lia)]; rfl) ec;exists tt,_,rfl,Az.of (sa _ _ (s1 _ _ htt)),rfl,_,_,rfl,_,_,rfl,rfl;have fin:∀ H5,Aq H' H5->B [some (.str (Al[i]'(by lia)).1),some p,some (.ref o)] (.bl bc) H5:=fun H5 s5=>hB _ _ _ (s5 _ _ AR) ⟨_,_,rfl,fun b o' q=>by rw [Ae (Ah q hD)]; exact s5 _ _ (sa _ _ q),Ab,by rw [ea,fQ,ec,fg]; rfl,by rw [eY,al]; rfl⟩
    rcases np with ⟨nS,rfl⟩ | ⟨s2,rfl,l2',rfl⟩
    ·refine ⟨_,rfl,_,rfl,.inr ⟨(nS.same s1).same sa,⟨_,rfl,?_⟩⟩⟩;refine BO ?_;exact fin _ (Aq.refl _)
    ·refine ⟨_,rfl,_,rfl,.inl ⟨s2,rfl,l2',fun H5 s5=>⟨_,rfl,?_⟩⟩⟩;cases hn:AA s2 with
     | false=>
      rw [hn] at fin;refine BO ?_;exact fin _ s5
     | true=>
      rw [hn] at fin;refine CS ?_;exists _,rfl,_,rfl,o,_,rfl,.inr (Az.of (s5 _ _ (sa _ _ (s1 _ _ ho)))),rfl,GS ss;rw [Jd];exact fin _ s5
   ·rintro D Av H' acc hD ⟨v0,v1,rfl,sa,AR,ea,al⟩;rw [<-bl,fZ] at ea;exact ⟨D,_,rfl,Ba.of (by rw [AR,ea]),k _ (s1.trans sa)⟩
end
section
variable {P:Program} {w:World} {K:eV} {mg:Str->Option Value} {base:Heap}
theorem Nt (h_isinstance:mg "isinstance"=none) (h_len:mg "len"=none) (h_tuple:mg "tuple"=none) {fIO:Addr} {fdIO:FuncData} (XIO:Fn K mg "is_opening" CL ["case","thing"] fIO fdIO) (GIO:A8 P w K mg base B0 3 fIO fdIO ["case","thing"] (Ol K)) {fAG:Addr} {fdAG:FuncData} (XAG:Fn K mg "are_goings" CO ["case","opening","thing"] fAG fdAG) (GAG:A8 P w K mg base B0 5 fAG fdAG ["case","opening","thing"] (UR K)) {fD:Addr} {fdD:FuncData} (XD:Fn K mg "stand" Ib ["case","prices","levy"] fD fdD) (GD:A8 P w K mg base B0 6 fD fdD ["case","prices","levy"] (LR K)) {f:Addr} {fd:FuncData} (F:DT K "lets_by" "lets_by" Fe f fd):A8 P w K mg base B0 7 f fd ["case","paper"] Oi:=by
 refine F.ok I0 (fun vs H Q E h=>?_) (fun cdv A outer s H vs Q E hr h=>?_)
 ·obtain ⟨c,m,n,xs,ws,Am,Al,x,d,v,G,rfl,_⟩:=h;rfl
 ·obtain ⟨c,m,n,xs,ws,Am,Al,x,d,v,G,rfl,pa,k⟩:=h;have nd:=I0.nd;have big:100000 < sizeLine:=by decide
  refine ⟨_,(Af (C9 (Kh (EN (G6 (Ao (L1 K rfl) (by rfl) h_isinstance PyProof.Rows.boot_isinstance (Aa (pv 1) (Aa (Ey (v:=.ty "tuple") (by rfl) h_tuple PyProof.Rows.boot_tuple rfl) Ad))))) (G5 (B9 RM (Ao (Bx K rfl) (by rfl) h_len PySem.boot_len (Aa (pv 1) Ad)) Ag (BL _)))).pt
  (Ak (A7 Fx))
  BB)
  (Af (Dd (pv 1) (AX K rfl rfl (Aj (Ai (i:=2) nd rfl (Or.inl rfl)) (Aj (Ai (i:=3) nd rfl (Or.inl rfl)) (Aj (Ai (i:=4) nd rfl (Or.inl rfl)) (Aj (Ai (i:=5) nd rfl (Or.inl rfl)) AW))))))
  (Ak (A7 (C3 (An GIO (hr.mono (by decide)) (by rfl) XIO.mg XIO.F.kp XIO.b .nil A1 (Aa (pv 0) (Aa (pv 2) Ad))) (C3 (An GAG (hr.mono (by decide)) (by rfl) XAG.mg XAG.F.kp XAG.b .nil A1 (Aa (pv 0) (Aa (pv 2) (Aa (pv 3) Ad)))) (De (An GD (hr.mono (by decide)) (by rfl) XD.mg XD.F.kp XD.b .nil A1 (Aa (pv 0) (Aa (pv 4) (Aa (pv 5) Ad))))))))))),?_⟩
  obtain ⟨pp,o,t,T,ss,zs,qs,lv,rfl,hpp,pg,g⟩:=pa;have cw:=pg.cw;exists _,rfl,_,"tuple",_,_,rfl,.tup hpp,rfl,_,rfl;refine BO ?_;exists _,rfl,pp,_,rfl,.inr (Az.of hpp),rfl,_,rfl;refine BO ?_;exists _,rfl,pp,_,rfl,Az.of hpp,rfl,_,_,rfl,_,_,rfl,_,_,rfl,_,_,rfl,rfl;refine ⟨_,rfl,_,rfl,c,Am.map (·.1),x,d,.ref o,rfl,cw.sites,.inl ⟨_,OS.strs pg.op pg.sl pg.sh,fun b H1 s1 hb=>⟨_,rfl,?_⟩⟩⟩;cases b with
  | false=>
   refine BO ?_;exact k false _ s1 ⟨_,g,(fun z=>by cases z),fun ok=>hb.mpr ok.2.2.1⟩
  | true=>
   refine CS ?_;have isop:=hb.mp rfl;obtain ⟨us,ht,du⟩:=pg.wk;by_cases hz:zs.map (·.1)=Al.map (·.1)
   case neg=>
    refine ⟨_,rfl,_,rfl,_,rfl,c,m,o,n,xs,ws,Am,Al,x,d,ss,.ref t,false,rfl,cw.same s1,s1 _ _ pg.op,(show Q6 K H (.ref t) (Al.map (·.1)) ss false from .inl ⟨rfl,LI ht du (fun z h=>(pg.wn z h).1) hz⟩).same s1,fun H2 s2=>⟨_,rfl,?_⟩⟩;refine BO ?_;exact k false _ (s1.trans s2) ⟨_,g,(fun z=>by cases z),fun ok=>absurd ok.1 hz⟩
   have go:=pg.goes (K:=K) hz;obtain ⟨gb,eg⟩:∃ g,g=zs.all fun z=>decide (z.2 ∈ ss):=⟨_,rfl⟩
   rw [<-eg] at go;refine ⟨_,rfl,_,rfl,_,rfl,c,m,o,n,xs,ws,Am,Al,x,d,ss,.ref t,gb,rfl,cw.same s1,s1 _ _ pg.op,go.same s1,fun H2 s2=>⟨_,rfl,?_⟩⟩;have SV:=s1.trans s2;have p2:=pg.same SV;cases gb with
   | false=>
    refine BO ?_;exact k false _ SV ⟨_,g,(fun z=>by cases z),fun ok=>by rw [eg]; exact gz.mpr fun z hz=>decide_eq_true (ok.2.2.2.1 z hz)⟩
   | true=>
    refine CS ?_;have zal:∀ z ∈ zs,z.2 ∈ ss:=fun z hz=>of_decide_eq_true (gz.mp eg.symm z hz)
    obtain ⟨pus,hT,dp⟩:=p2.pr;by_cases hq:qs.map (·.1)=Al.map (·.1)
    case neg=>
     exact ⟨_,rfl,_,rfl,_,rfl,c,m,n,xs,ws,Am,Al,x,d,.ref T,.int lv,rfl,p2.cw,.inl ⟨Nj hT dp pg.pn hq,fun H3 s3=>k false _ (SV.trans s3) ⟨_,g,(fun z=>by cases z),fun ok=>absurd ok.2.1 hq⟩⟩⟩
    have bx:CP H2 c m T n xs ws Am Al qs x d:=⟨p2.cw,pg.few,⟨pus,hT,dp⟩,⟨hq,pg.lo⟩⟩
    by_cases hlv:x=.non->lv=0
    ·refine ⟨_,rfl,_,rfl,_,rfl,c,m,n,xs,ws,Am,Al,x,d,.ref T,.int lv,rfl,p2.cw,.inr ⟨T,qs,rfl,bx,.inr ⟨lv,rfl,.inr ⟨lv,rfl,pg.lv0,?_⟩,fun H3 s3=>k _ _ (SV.trans s3) ⟨_,g,fun z=>⟨hz,hq,isop,zal,hlv,z⟩,fun ok=>ok.2.2.2.2.2⟩⟩⟩⟩;by_cases z:x=.non
     ·rw [hlv z,decide_eq_true (rfl:(0:Int)=0),Bool.or_true]
     ·rw [decide_eq_false z]; rfl
    ·refine ⟨_,rfl,_,rfl,_,rfl,c,m,n,xs,ws,Am,Al,x,d,.ref T,.int lv,rfl,p2.cw,.inr ⟨T,qs,rfl,bx,.inl ⟨.inr ⟨lv,rfl,pg.lv0,?_⟩,fun H3 s3=>k false _ (SV.trans s3) ⟨_,g,(fun z=>by cases z),fun ok=>absurd ok.2.2.2.2.1 hlv⟩⟩⟩⟩;by_cases z:x=.non
     ·rw [decide_eq_true z,decide_eq_false fun e=>hlv fun _=>e]; rfl
     ·exact absurd (fun h=>absurd h z) hlv
theorem JB (h_dict:mg "dict"=none) (h_max:mg "max"=none) (h_min:mg "min"=none) {fG:Addr} {fdG:FuncData} (XG:Fn K mg "_law_gets" Ep ["_law_case_here","_law_away","_law_prices_here","_law_site"] fG fdG) (GG:A8 P w K mg base B0 1 fG fdG ["_law_case_here","_law_away","_law_prices_here","_law_site"] Om) {f:Addr} {fd:FuncData} (F:DT K "_law_raised" "_law_raised" CK f fd):A8 P w K mg base B0 2 f fd ["_law_case_here","_law_away","_law_prices_here","_law_levy","_law_at"] Kb:=by
 refine F.ok Fs (fun vs H Q E h=>?_) (fun cdv A outer s H vs Q E hr h=>?_)
 ·obtain ⟨c,m,t,A0,n,xs,ws,Am,Al,qs,x,d,lv,i,rfl,_⟩:=h;rfl
 ·obtain ⟨c,m,t,A0,n,xs,ws,Am,Al,qs,x,d,lv,i,rfl,cp,kn,lv0,YU,hi,k⟩:=h;have nd:=Fs.nd;have hu:=Dm hr;have big:100000 < sizeLine:=by decide
  refine ⟨_,(Af (Dd (A3 (AE K rfl) (pv 2) (pv 4) (fun _ _=>rfl)) (AX K rfl rfl (Aj (Ai (i:=5) nd rfl (Or.inl rfl)) (Aj (Ai (i:=6) nd rfl (Or.inl rfl)) AW))))
  (Af (Ax (i:=7) nd rfl (Or.inl rfl) (Bl hu (AQ (BX rfl) (by rfl) h_dict PyProof.Rows.boot_dict (Aa (A3 (AE K rfl) (pv 0) Ag (fun _ _=>rfl)) Ad)) (pv 5) (fun _ _=>rfl)))
  (Af (Ax (i:=8) nd rfl (Or.inl rfl) (Aw (BP K rfl) (Aw (BP K rfl) (B4 (Cs K rfl) (pv 2) BD (BC (pv 4))) (Au (Aa (Au (Aa (pv 5) (Aa Ag Ad))) Ad))) (B4 (Cs K rfl) (pv 2) (BC (Aw Bg (pv 4) Ag)) BD)))
  (Af (Ax (i:=9) nd rfl (Or.inl rfl) (B5 Ad))
  (Af (Cm PassesOwn.never rfl (Bc K rfl (A3 (AE K rfl) (pv 0) Ag (fun _ _=>rfl))) (AX K rfl rfl (Aj (Ai (i:=10) nd rfl (Or.inl rfl)) (Aj (Ai (i:=11) nd rfl (Or.inl rfl)) AW)))
  (Ak (Ci (Ea PySem.F.plainAttrs_list PySem.F.slot_list_append PySem.F.type_list_append Bj (pv 9) (Aa (Aw Bg (Aw EO (Aw Bg (pv 11) (pv 3)) (An GG (hr.mono (by decide)) (by rfl) XG.mg XG.F.kp XG.b .nil A1 (Aa (pv 0) (Aa (pv 1) (Aa (pv 8) (Aa (pv 10) Ad)))))) (Aw Df (pv 7) (Bl hu (pv 1) (Au (Aa (pv 5) (Aa (pv 10) Ad))) (fun _ _=>rfl)))) Ad)))))
  (Ak (A7 (Aw (BP K rfl) (Aw (BP K rfl) (B4 (Cs K rfl) (pv 2) BD (BC (pv 4))) (Au (Aa (Au (Aa (pv 5) (Aa (Ao (GZ rfl) (by rfl) h_max PyProof.Rows.boot_max (Aa Ag (Aa (Ao (JP rfl) (by rfl) h_min PyProof.Rows.boot_min (Aa (pv 9) Ad)) Ad))) Ad))) Ad))) (B4 (Cs K rfl) (pv 2) (BC (Aw Bg (pv 4) Ag)) BD))))))))),?_⟩
  obtain ⟨us,ht,du⟩:=cp.ex;obtain ⟨t1,t2,Fl,FK,hc,Gf,FG,EV,hd2⟩:=cp.cw.ex;have ul:=A5 du;have OZ:=A5 FG;have Tn:=A5 hd2;have l1:=cp.cw.l1;have l2:=cp.cw.l2;have ql:=cp.ok.len;have Sk:i < us.length:=by lia
  obtain ⟨q,tt,eq,e2,htt⟩:=Bn du (eR Sk);have en:=Li eq;have qm:=eW eq;have U4:Gu us (i:Int)=some (.ref tt):=by rw [BF (eR Sk),e2]
  obtain ⟨r,er,rq⟩:=cp.ok.at eq;have rm:=eW er;exists _,rfl,_,rfl,t,_,_,_,rfl,rfl,Az.of ht,U4,tt,_,rfl,Az.of htt,rfl,_,_,rfl,_,_,rfl,rfl;refine ⟨_,rfl,c,_,_,_,rfl,rfl,Az.of hc,rfl,t2,FK,BW Al,rfl,EV,by unfold BW; rw [eU]; exact Tn,Ie hd2,by rw [CW]; exact cp.cw.ok2.nd,by unfold BW; rw [eU]; lia,fun B hB=>?_⟩;have b1:=Ac (o:=.dK (sK (BW Al))) hB;have Ss:(upd H B (.dK (sK (BW Al)))) B=some (.dK (sK (BW Al))):=Ab;generalize upd H B (.dK (sK (BW Al)))=HB at b1 Ss ⊢;have g1:=IC Ss cp.cw.ok2.nd (y:=q.1) (by rw [<-rq]; exact fi.mpr ⟨r,rm,rfl⟩);have ec:GU Al q.1=r.2:=by rw [<-rq]; exact E6 cp.cw.ok2.nd rm
  rw [ec] at g1;exists _,rfl,B,_,rfl,g1;have htB:=b1 _ _ ht;refine ⟨_,rfl,_,rfl,_,rfl,Pn htB Sk fun Z1a H1a s1a h1a=>?_⟩;refine ⟨_,rfl,(by show 2<=sizeLine; lia),fun T hTa=>⟨(by show 1<=sizeLine; lia),fun Ya hYa=>?_⟩⟩;have cu:=Ac (o:=.tup [.str q.1,.int 0]) hTa;have hTTa:(upd H1a T (.tup [.str q.1,.int 0])) T=some (.tup [.str q.1,.int 0]):=Ab;generalize upd H1a T (.tup [.str q.1,.int 0])=H2a at cu hTTa hYa ⊢;have aI:=Ac (o:=.tup [.ref T]) hYa;have hYYa:(upd H2a Ya (.tup [.ref T])) Ya=some (.tup [.ref T]):=Ab;generalize upd H2a Ya (.tup [.ref T])=H3a at aI hYYa ⊢;refine Jq (K:=K) (aI _ _ (cu _ _ h1a)) hYYa (by rw [fJ]; show _ + 1<=sizeLine; lia) fun Z2a H4a s4a h4a=>?_
  have sAa:=s1a.trans (cu.trans (aI.trans s4a));exists _,rfl,_,rfl,_,_,rfl,rfl,_,rfl;dsimp only [En];refine Rc (K:=K) (sAa _ _ htB) Sk fun Z3a H5a s5a h5a=>?_
  refine Jq (K:=K) (s5a _ _ h4a) h5a (by rw [eY,fJ,gD]; show _ + 1 + _<=sizeLine; lia) fun Za eK s6a h6a=>?_
  have sBa:=s5a.trans s6a;have salla:=sAa.trans sBa;have dt:=sBa _ _ (s4a _ _ (aI _ _ hTTa));have cpO:CP eK c m Za n xs ws Am Al (Bi qs i 0) x d:=((cp.same b1).same salla).put (AH du fun b ys z=>salla _ _ (b1 _ _ z)) hi (gJ _) (by rw [en]; exact dt) h6a;have sO:=b1.trans salla;refine ⟨(by show 0<=sizeLine; lia),fun L0 Ym=>?_⟩;have hyx:q.1 ∈ xs:=(cp.names q qm).1;have r4:=cp.few r rm;have r1:=(cp.cw.ok2.lo r rm).1;refine ⟨_,rfl,c,_,_,_,rfl,rfl,Az.of (Ac Ym _ _ (sO _ _ hc)),rfl,t1,rfl,⟨_,Az.of (Ac Ym _ _ (sO _ _ Gf))⟩,CD (xs:=Fl) (fun j σ H'=>(∃ v10 v11,σ=[some (.ref c),some (.ref A0),some (.ref t),some (.int lv),some (.int i),some (.str q.1),some (.int q.2),some (.int r.2),some (.ref Za),some (.ref L0),v10,v11])/\Aq eK H'/\∃ ns:List Int,H' L0=some (.lst (ns.map V.int))/\ns.length=j/\(∀ n ∈ ns,n < 2 ^ 400)/\ns=(Am.take j).map fun s=>s.2 + lv - By ws s.1 Al (Bi qs i 0) + r.2 * dst ws s.1 q.1)
   ⟨⟨_,_,rfl⟩,Ac Ym,[],Ab,rfl,(fun n hn=>nomatch hn),rfl⟩ (fun j σ H' _ hP=>Az.of (hP.2.1 _ _ (sO _ _ Gf))) (fun j v σ H' hv hP rt bk N hN=>?_) (fun σ H' hP=>?_)⟩
  ·obtain ⟨⟨v10,v11,rfl⟩,sa,ns,hL,nl,nb,nv⟩:=hP;obtain ⟨s1,tt1,es,rfl,hts⟩:=Bn FG hv;have sm:=eW es;have jl:j < Am.length:=(fh.mp es).1;exists tt1,_,rfl,Az.of (sa _ _ (sO _ _ hts)),rfl,_,_,rfl,_,_,rfl,rfl;refine ⟨_,rfl,.inl ⟨rfl,_,Ba.of hL⟩,_,rfl,_,rfl,_,_,rfl,rfl,_,rfl,_,rfl,_,rfl,_,rfl,c,m,Za,A0,n,xs,ws,Am,Al,Bi qs i 0,x,d,s1.1,rfl,cpO.same sa,(kn.same sO).same sa,cp.cw.ok1.sub s1 sm,fun H7 s7=>?_⟩;refine ⟨_,_,rfl,rfl,_,rfl,_,rfl,_,rfl,_,rfl,(by show 2<=sizeLine; lia),fun T hT=>?_⟩;have q7:=s7.trans (Ac (o:=.tup [.str q.1,.str s1.1]) hT);have Lv:(upd H7 T (.tup [.str q.1,.str s1.1])) T=some (.tup [.str q.1,.str s1.1]):=Ab;generalize upd H7 T (.tup [.str q.1,.str s1.1])=H8 at q7 Lv ⊢;obtain ⟨g2,d0,d1⟩:=(((kn.same sO).same sa).same q7).get hyx (cp.cw.ok1.sub s1 sm) Lv;exists A0,_,rfl,g2,_,_,rfl,rfl,.inl ⟨by lia,by lia⟩,_,_,rfl,rfl,L0,_,_,rfl,rfl,q7 _ _ hL,by rw [eU]; lia
   refine hN _ _ ⟨⟨_,_,rfl⟩,fun b o z=>by rw [Ae (Ah z Ym)]; exact q7 _ _ (sa _ _ z),ns ++ [s1.2 + lv - By ws s1.1 Al (Bi qs i 0) + r.2 * dst ws s1.1 q.1],by rw [Ab,fg]; rfl,by rw [eY,nl]; rfl,fun z hz=>?_,by rw [fQ,es,fg,<-nv]; rfl⟩;rcases fq.mp hz with hz | hz
   ·exact nb z hz
   ·rw [fo] at hz;subst hz;exact Rw (cp.cw.ok1.lo s1 sm).2 YU (Qk _ _ _ _) r1 r4 d0 d1
  obtain ⟨⟨v10,v11,rfl⟩,sa,ns,hL,nl,nb,nv⟩:=hP;have one:=cp.cw.ok1.one;have nne:ns ≠ []:=fun z=>by rw [z] at nl; rw [<-OZ] at one; simp at nl; lia
  have htE:=sa _ _ (salla _ _ htB);refine ⟨_,rfl,_,rfl,_,rfl,Pn htE Sk fun Z1b H1b XS h1b=>?_⟩;refine ⟨_,rfl,_,rfl,L0,ns,rfl,XS _ _ hL,nne,fun mn hm hle=>⟨_,_,rfl,(by show 2<=sizeLine; lia),fun T hTb=>⟨(by show 1<=sizeLine; lia),fun Yb hYb=>?_⟩⟩⟩;have cq:=Ac (o:=.tup [.str q.1,.int (if mn > 0 then mn else 0)]) hTb;have hTTb:(upd H1b T (.tup [.str q.1,.int (if mn > 0 then mn else 0)])) T=some (.tup [.str q.1,.int (if mn > 0 then mn else 0)]):=Ab;generalize upd H1b T (.tup [.str q.1,.int (if mn > 0 then mn else 0)])=H2b at cq hTTb hYb ⊢;have aH:=Ac (o:=.tup [.ref T]) hYb;have hYYb:(upd H2b Yb (.tup [.ref T])) Yb=some (.tup [.ref T]):=Ab;generalize upd H2b Yb (.tup [.ref T])=H3b at aH hYYb ⊢;refine Jq (K:=K) (aH _ _ (cq _ _ h1b)) hYYb (by rw [fJ]; show _ + 1<=sizeLine; lia) fun Z2b H4b s4b h4b=>?_
  have sAb:=XS.trans (cq.trans (aH.trans s4b));exists _,rfl,_,rfl,_,_,rfl,rfl,_,rfl;dsimp only [En];refine Rc (K:=K) (sAb _ _ htE) Sk fun Z3b H5b s5b h5b=>?_
  refine Jq (K:=K) (s5b _ _ h4b) h5b (by rw [eY,fJ,gD]; show _ + 1 + _<=sizeLine; lia) fun Zb H6b s6b h6b=>?_
  have sBb:=s5b.trans s6b;have sallb:=sAb.trans sBb;have dq:=sBb _ _ (s4b _ _ (aH _ _ hTTb));have sF:=b1.trans (salla.trans (sa.trans sallb));have p0:(0:Int)<=(if mn > 0 then mn else 0):=by split <;> lia
  have p1:(if mn > 0 then mn else 0) < (2:Int) ^ 400:=by
   split
   ·exact nb mn hm
   ·exact (by decide +kernel)
  have lo:∀ s ∈ Am,0<=r.2 * dst ws s.1 q.1:=fun s hs=>lu (by lia) (kn.lo hyx (cp.cw.ok1.sub s hs))
  have room:∀ s ∈ Am,mn<=s.2 + lv - By ws s.1 Al (Bi qs i 0) + r.2 * dst ws s.1 q.1:=fun s hs=>hle _ (by rw [nv,OZ,fZ]; exact fi.mpr ⟨s,hs,rfl⟩)
  exact k H6b Zb _ sF p0 p1 (fun hst p' cT=>Pm hst er eq rq (cp.ok.lo q qm) lo room cT) (fun hst=>Nc hst er eq rq (cp.ok.lo q qm) lo (by rw [nv,OZ,fZ] at hm; obtain ⟨s,hs,e⟩:=fi.mp hm; exact ⟨s,hs,e.symm⟩)) ((cp.same sF).put (AH du fun b ys z=>sF _ _ z) hi p0 (by rw [en]; exact dq) h6b)
theorem Mo (h_len:mg "len"=none) (h_range:mg "range"=none) (h_tuple:mg "tuple"=none) {fRA:Addr} {fdRA:FuncData} (XRA:Fn K mg "_law_raised" CK ["_law_case_here","_law_away","_law_prices_here","_law_levy","_law_at"] fRA fdRA) (GRA:A8 P w K mg base B0 2 fRA fdRA ["_law_case_here","_law_away","_law_prices_here","_law_levy","_law_at"] Kb) {f:Addr} {fd:FuncData} (F:DT K "_law_full" "_law_full" Er f fd):A8 P w K mg base B0 3 f fd ["_law_case_here","_law_away","_law_levy"] Oo:=by
 refine F.ok Hl (fun vs H Q E h=>?_) (fun cdv A outer s H vs Q E hr h=>?_)
 ·obtain ⟨c,m,A0,n,xs,ws,Am,Al,x,d,lv,rfl,_⟩:=h;rfl
 ·obtain ⟨c,m,A0,n,xs,ws,Am,Al,x,d,lv,rfl,cw,few,kn,lv0,YU,k⟩:=h;have nd:=Hl.nd;have big:100000 < sizeLine:=by decide
  refine ⟨_,(Af (Ax (i:=3) nd rfl (Or.inl rfl) (AQ (AS K rfl) (by rfl) h_tuple PyProof.Rows.boot_tuple (Aa (Bf (N:=["_law_place","_law_many"]) (σ0:=fun _=>[none,none]) rfl (AF.plain (by decide +kernel) (by decide +kernel) rfl (by decide +kernel)) (fun σ _=>AU.none _ _ _ ["_law_place","_law_many"] σ) (Bc K rfl (A3 (AE K rfl) (pv 0) Ag (fun _ _=>rfl)))
   (fun s2 H C fp=>⟨(AX K rfl (n:=2) rfl (Aj (Ai (i:=0) (show (["_law_place","_law_many"]:List Str).Nodup by decide +kernel) rfl (Or.inl rfl)) (Aj (Ai (i:=1) (show (["_law_place","_law_many"]:List Str).Nodup by decide +kernel) rfl (Or.inl rfl)) AW))),AO,(Au (Aa (pv 0) (Aa Ag Ad)))⟩)) Ad)))
  (Af (Cm PassesOwn.never rfl (DY (by rfl) h_range (Aa (Ao (Bx K rfl) (by rfl) h_len PySem.boot_len (Aa (pv 3) Ad)) Ad)) (Ai (i:=4) nd rfl (Or.inl rfl))
  (Ak (Ax (i:=3) nd rfl (Or.inl rfl) (An GRA (hr.mono (by decide)) (by rfl) XRA.mg XRA.F.kp XRA.b .nil A1 (Aa (pv 0) (Aa (pv 1) (Aa (pv 3) (Aa (pv 2) (Aa (pv 4) Ad)))))))))
  (Ak (A7 (pv 3))))),?_⟩
  obtain ⟨t1,t2,Fl,FK,hc,Gf,FG,EV,hd2⟩:=cw.ex;have Tn:=A5 hd2;have l2:=cw.l2;exists _,rfl,c,_,_,_,rfl,rfl,Az.of hc,rfl,t2,rfl,⟨_,Az.of EV⟩
  refine Bb Bm (xs:=FK) (fun D i Av H' acc=>∃ v0 v1:Option V,Av=[v0,v1]/\Aq H H'/\H' D=some (.lst acc)/\A2 H' acc ((EE (Al.take i)).map Ce)/\acc.length=i)
   (by lia) (fun D hD=>⟨_,_,rfl,Ac hD,Ab,.nil,rfl⟩) (fun D i Av H' acc hD ⟨v0,v1,_,sa,AR,_,al⟩=>⟨Az.of (sa _ _ EV),AR,al⟩) ?_ ?_
  ·rintro D i Av H' acc x' B hD ex ⟨v0,v1,rfl,sa,AR,dd,al⟩ hB;obtain ⟨r,tt,er,rfl,htt⟩:=Bn hd2 ex;exists tt,_,rfl,Az.of (sa _ _ htt),rfl,_,_,rfl,_,_,rfl,rfl;refine ⟨_,rfl,(by show 2<=sizeLine; lia),fun T3 Sn=>?_⟩;have sT:=Ac (o:=.tup [.str r.1,.int 0]) Sn;have Lv:(upd H' T3 (.tup [.str r.1,.int 0])) T3=some (.tup [.str r.1,.int 0]):=Ab;generalize upd H' T3 (.tup [.str r.1,.int 0])=H5 at sT Lv ⊢;have ZQ:=sT _ _ AR;have tp:∀ b ys,H5 b=some (.tup ys)->(upd H5 D (.lst (acc ++ [.ref T3]))) b=some (.tup ys):=fun b ys z=>by
    rw [Ae (C0 z ZQ (fun q=>by cases q))];exact z
   refine hB _ _ _ ZQ ⟨_,_,rfl,fun b o e=>by rw [Ae (Ah e hD)]; exact sT _ _ (sa _ _ e),Ab,?_,by rw [eY,al]; rfl⟩;unfold EE at dd ⊢;rw [fQ,er,fg,fg];exact BK (AH dd fun b ys z=>tp b ys (sT _ _ z)) (.cons (DI (u:=(r.1,0)) (tp _ _ Lv)) .nil)
  rintro D Av H1 acc hD ⟨v0,v1,rfl,s1,AR,dd,al⟩;rw [Tn,fZ] at dd;refine ⟨D,_,rfl,.inl ⟨Ba.of AR,fun T0 hT0=>?_⟩⟩;have sT:=Ac (o:=.tup acc) hT0;have Lv:(upd H1 T0 (.tup acc)) T0=some (.tup acc):=Ab;generalize upd H1 T0 (.tup acc)=H2 at sT Lv ⊢;have s2:=s1.trans sT;have bx:CP H2 c m T0 n xs ws Am Al (EE Al) x d:=⟨cw.same s2,few,⟨acc,Lv,AH dd fun b ys z=>sT _ _ z⟩,QD Al⟩
  have HK:AN ws Am Al (EE Al) lv=true:=MS (fun s hs r hr=>lu (by have:=(cw.ok2.lo r hr).1; lia) (kn.lo (cw.ok2.sub r hr) (cw.ok1.sub s hs))) (fun s hs=>(cw.ok1.lo s hs).1) lv0;have Yp:acc.length=Al.length:=by lia
  refine ⟨_,rfl,T0,_,rfl,.inr (Az.of Lv),acc.length,rfl,by lia,by lia,Eh (n:=acc.length) (fun j σ H'=>∃ (v4:Option V) (T:Addr) (qs:List AI),σ=[some (.ref c),some (.ref A0),some (.int lv),some (.ref T),v4]/\Aq H2 H'/\CP H' c m T n xs ws Am Al qs x d/\AN ws Am Al qs lv=true/\He ws Am Al qs lv j/\∀ i q,j<=i->qs[i]? = some q->q.2=0)
   ⟨_,T0,EE Al,rfl,Aq.refl _,bx,HK,fun i q hi=>absurd hi (hV _),fun i q _ e=>?_⟩ ?_ (fun σ H' hP=>?_)⟩
  ·unfold EE at e;rw [eZ] at e;cases z:Al[i]? with
   | none=>rw [z] at e; cases e
   | some r=>rw [z] at e; cases e; rfl
  ·rintro j σ H3 hj ⟨v4,T,qs,rfl,s3,Yo,UO,dU,z3⟩;have ql:=Yo.ok.len;have Lq:j < qs.length:=by lia
   refine ⟨_,rfl,_,rfl,_,rfl,_,rfl,_,rfl,c,m,T,A0,n,xs,ws,Am,Al,qs,x,d,lv,j,by rw [je]; rfl,Yo,(kn.same s2).same s3,lv0,YU,Lq,fun H4 T4 p s4 p0 p1 MN no4 cp4=>?_⟩;have eq:=eR Lq;obtain ⟨r,er,_⟩:=Yo.ok.at eq;refine ⟨_,T4,Bi qs j p,rfl,s3.trans s4,cp4,MN UO p (gJ _),dU.step er eq (by rw [z3 j _ (fc _) eq]; exact p0) (no4 UO),fun i q hi e=>?_⟩;rw [ID (by lia) Lq] at e;exact z3 i q (by lia) e
  ·obtain ⟨v4,T,qs,rfl,s3,Yo,UO,dU,z3⟩:=hP;have ql:=Yo.ok.len;exact ⟨_,rfl,k H' T qs (s2.trans s3) Yo UO (by rw [show qs.length=acc.length by lia]; exact dU)⟩
theorem Hr   {f:Addr} {fd:FuncData} (F:DT K "_law_with" "_law_with" C2 f fd):A8 P w K mg base B0 1 f fd ["_law_rows","_law_at","_law_row"] KG:=by
 refine F.ok Hi (fun vs H Q E h=>?_) (fun cdv A outer s H vs Q E hr h=>?_)
 ·obtain ⟨t,i,v,us,rfl,_⟩:=h;rfl
 ·obtain ⟨t,i,v,us,rfl,ht,hi,ul,k⟩:=h;have nd:=Hi.nd;have big:100000 < sizeLine:=by decide
  exists _,(Ak (A7 (Aw (BP K rfl) (Aw (BP K rfl) (B4 (Cs K rfl) (pv 0) BD (BC (pv 1))) (Au (Aa (pv 2) Ad))) (B4 (Cs K rfl) (pv 0) (BC (Aw Bg (pv 1) Ag)) BD))))
  refine ⟨_,rfl,_,rfl,_,rfl,Pn ht hi fun Z1 H1 s1 h1=>?_⟩;refine ⟨_,rfl,(by show 1<=sizeLine; lia),fun Y hY=>?_⟩;have sY:=Ac (o:=.tup [v]) hY;have Yl:(upd H1 Y (.tup [v])) Y=some (.tup [v]):=Ab;generalize upd H1 Y (.tup [v])=H2 at sY Yl ⊢;refine Jq (K:=K) (sY _ _ h1) Yl (by rw [fJ]; show _ + 1<=sizeLine; lia) fun Z2 H3 s3 h3=>?_
  have sA:=s1.trans (sY.trans s3);exists _,rfl,_,rfl,_,_,rfl,rfl,_,rfl;dsimp only [En];refine Rc (K:=K) (sA _ _ ht) hi fun Z3 H4 s4 h4=>?_
  exact Jq (K:=K) (s4 _ _ h3) h4 (by rw [eY,fJ,gD]; show _ + 1 + _<=sizeLine; lia) fun Z H5 s5 h5=>k H5 Z (sA.trans (s4.trans s5)) h5
end
section
variable {P:Program} {w:World} {K:eV} {mg:Str->Option Value} {base:Heap}
theorem Le (h_len:mg "len"=none) (h_tuple:mg "tuple"=none) {fT:Addr} {fdT:FuncData} (XT:Fn K mg "_law_take" Bw ["_law_pen_here","_law_many"] fT fdT) (GT:A8 P w K mg base B0 1 fT fdT ["_law_pen_here","_law_many"] D5) {fWI:Addr} {fdWI:FuncData} (XWI:Fn K mg "_law_with" C2 ["_law_rows","_law_at","_law_row"] fWI fdWI) (GWI:A8 P w K mg base B0 1 fWI fdWI ["_law_rows","_law_at","_law_row"] KG) {f:Addr} {fd:FuncData} (F:DT K "_law_still" "_law_still" DB f fd):A8 P w K mg base B0 2 f fd ["_law_pen_here","_law_case_here","_law_paper"] (FP fun p=>p):=by
 refine F.ok FR (fun vs H Q E h=>?_) (fun cdv A outer s H vs Q E hr h=>?_)
 ·obtain ⟨p,c,m,pp,o,t,T,n,xs,ws,Am,Al,x,d,ss,zs,qs,lv,rfl,_⟩:=h;rfl
 ·obtain ⟨p,c,m,pp,o,t,T,n,xs,ws,Am,Al,x,d,ss,zs,qs,lv,rfl,hP,pf,k⟩:=h;have nd:=FR.nd;have hu:=Dm hr;have big:100000 < sizeLine:=by decide
  refine ⟨_,(Af (Dd (pv 2) (AX K rfl rfl (Aj (Ai (i:=3) nd rfl (Or.inr rfl)) (Aj (Ai (i:=4) nd rfl (Or.inr rfl)) (Aj (Ai (i:=5) nd rfl (Or.inr rfl)) (Aj (Ai (i:=6) nd rfl (Or.inr rfl)) AW))))))
  (Af (Ax (i:=7) nd rfl (Or.inr rfl) (An GT (hr.mono (by decide)) (by rfl) XT.mg XT.F.kp XT.b .nil A1 (Aa (pv 0) (Aa (Ao (Bx K rfl) (by rfl) h_len PySem.boot_len (Aa (pv 4) Ad)) Ad))))
  (Af (Ax (i:=8) nd rfl (Or.inr rfl) (A3 (AE K rfl) (A3 (AE K rfl) (pv 4) (pv 7) (fun _ _=>rfl)) Ag (fun _ _=>rfl)))
  (Af (O2 (ix:=9) (N:=["_law_house","_law_opening","_law_walks","_law_prices_here","_law_levy","_law_at","_law_place"]) (σ0:=fun σ=>[none,some 3,some 4,some 5,some 6,some 7,some 8].map fun j=>j.bind fun j=>(σ[j]?).join) nd rfl (Or.inl rfl) rfl (AF.caught (by rfl) (by decide +kernel) rfl (by decide +kernel) (by intro y hy; simp only [eX,ff,or_false] at hy; rcases hy with rfl | rfl | rfl | rfl | rfl | rfl <;> rfl)
   (by intro y hy e; simp only [eX,ff,or_false] at hy; rcases hy with rfl | rfl | rfl | rfl | rfl | rfl | rfl | rfl | rfl <;> first | exact ⟨_,rfl⟩ | cases e)) (fun σ _=>AU.of [none,some 3,some 4,some 5,some 6,some 7,some 8] rfl (by
   intro i j x h1 h2;match i,h1,h2 with
   | 0,_,h2=>cases h2
   | 1,h1,h2=>cases h1; cases h2; exact ⟨rfl,.inl rfl,.inl rfl⟩
   | 2,h1,h2=>cases h1; cases h2; exact ⟨rfl,.inl rfl,.inl rfl⟩
   | 3,h1,h2=>cases h1; cases h2; exact ⟨rfl,.inl rfl,.inl rfl⟩
   | 4,h1,h2=>cases h1; cases h2; exact ⟨rfl,.inl rfl,.inl rfl⟩
   | 5,h1,h2=>cases h1; cases h2; exact ⟨rfl,.inl rfl,.inl rfl⟩
   | 6,h1,h2=>cases h1; cases h2; exact ⟨rfl,.inl rfl,.inl rfl⟩
   | n + 7,h1,_=>cases h1)) (Bc K rfl (pv 3))
   (fun s2 H C fp=>⟨(Ai (i:=0) (show (["_law_house","_law_opening","_law_walks","_law_prices_here","_law_levy","_law_at","_law_place"]:List Str).Nodup by decide +kernel) rfl (Or.inl rfl)),AO,(Au (Aa (pv 1) (Aa (An GWI (hr.mono (by decide)) (by rfl) XWI.mg XWI.F.kp XWI.b .nil A1 (Aa (pv 2) (Aa (pv 5) (Aa (Au (Aa (pv 6) (Aa (pv 0) Ad))) Ad)))) (Aa (pv 3) (Aa (pv 4) Ad)))))⟩))
  (Af (Ci (Ea PySem.F.plainAttrs_list PySem.F.slot_list_append PySem.F.type_list_append Bj (pv 9) (Aa (Au (Aa (pv 3) (Aa (pv 4) (Aa (An GWI (hr.mono (by decide)) (by rfl) XWI.mg XWI.F.kp XWI.b .nil A1 (Aa (pv 5) (Aa (pv 7) (Aa (Au (Aa (pv 8) (Aa Ag Ad))) Ad)))) (Aa (pv 6) Ad))))) Ad)))
  (Af (C9 (F1 (La (A3 (AE K rfl) (pv 1) Ag (fun _ _=>rfl))))
  (Ak (Ci (Ea PySem.F.plainAttrs_list PySem.F.slot_list_append PySem.F.type_list_append Bj (pv 9) (Aa (Au (Aa (AQ (AS K rfl) (by rfl) h_tuple PyProof.Rows.boot_tuple (Aa (Bf (N:=["_law_place","_law_dues"]) (σ0:=fun _=>[none,none]) rfl (AF.plain (by decide +kernel) (by decide +kernel) rfl (by decide +kernel)) (fun σ _=>AU.none _ _ _ ["_law_place","_law_dues"] σ) (Bc K rfl (A3 (AE K rfl) (pv 1) Ag (fun _ _=>rfl)))
   (fun s2 H C fp=>⟨(AX K rfl (n:=2) rfl (Aj (Ai (i:=0) (show (["_law_place","_law_dues"]:List Str).Nodup by decide +kernel) rfl (Or.inl rfl)) (Aj (Ai (i:=1) (show (["_law_place","_law_dues"]:List Str).Nodup by decide +kernel) rfl (Or.inl rfl)) AW))),AO,(pv 0)⟩)) Ad)) (Aa (pv 4) (Aa (pv 5) (Aa (pv 6) Ad))))) Ad))))
  (Ak (Ci (Ea PySem.F.plainAttrs_list PySem.F.slot_list_append PySem.F.type_list_append Bj (pv 9) (Aa (Au (Aa (pv 3) (Aa (pv 4) (Aa (pv 5) (Aa (Aw Bg (Aw Bg (pv 6) Ag) (An GT (hr.mono (by decide)) (by rfl) XT.mg XT.F.kp XT.b .nil A1 (Aa (pv 0) (Aa Ag Ad)))) Ad))))) Ad)))))
  (Ak (A7 (pv 9))))))))),?_⟩
  have pg:=pf.pg;obtain ⟨us,ht,du⟩:=pg.wk;obtain ⟨pus,hTp,dp⟩:=pg.pr;obtain ⟨hz,hq,isop,zal,hlv,st⟩:=pf.ok;obtain ⟨t1,t2,Fl,FK,hc,Gf,FG,EV,hd2⟩:=pg.cw.ex;have ul:=EF du;have pl:=A5 dp;have OZ:=A5 FG;have zl:zs.length=Al.length:=by have:=congrArg gK hz; rwa [eU,eU] at this
  have ql:qs.length=Al.length:=by have:=congrArg gK hq; rwa [eU,eU] at this
  have m3:=pf.m3;have l2:=pg.cw.l2;have l1:=pg.cw.l1;have two:=pf.two;have snm:∀ s ∈ Am.map (·.1),s ∈ xs/\AA s=true:=fun s hs=>by
   obtain ⟨r,hr,e⟩:=fi.mp hs;have e':r.1=s:=e;rw [<-e'];exact ⟨pg.cw.ok1.sub r hr,pg.cw.map.at'.nm _ (pg.cw.ok1.sub r hr)⟩
  exists _,rfl,pp,_,rfl,Az.of pf.pap,rfl,_,_,rfl,_,_,rfl,_,_,rfl,_,_,rfl,rfl;refine ⟨_,rfl,_,rfl,t,_,rfl,.inr (Az.of ht),p,_,rfl,hP,by lia,Gd (by lia),fun e a1 b1 c1 e0 e1=>?_⟩;obtain ⟨i,rfl⟩:∃ i:Nat,e=(i:Int):=⟨e.toNat,by lia⟩
  have hi:i < us.length:=by lia
  have hiq:i < qs.length:=by lia
  have P1:AG (upd H p (.lst (AK a1 b1 c1))) p:=AG.set _ _ _;have aO:AM p H (upd H p (.lst (AK a1 b1 c1))):=AM.upd;generalize upd H p (.lst (AK a1 b1 c1))=H1 at P1 aO ⊢;have Pk:=KA hP aO;have YF:=pg.keepT Pk;have du1:=Fb Pk du;have dp1:=AH dp Pk;obtain ⟨z,tz,ez,eu,htz⟩:=Ei du (eR hi);have zm:=eW ez;have U4:Gu us (i:Int)=some (.ref tz):=by rw [BF (eR hi),eu]
  have enz:(zs.map (·.1))[i]? = some z.1:=by rw [eZ,ez]; rfl
  have enq:(qs.map (·.1))[i]? = some z.1:=by rw [hq,<-hz]; exact enz
  have eqi:=eR hiq;have qz:(qs[i]).1=z.1:=by rw [eZ,eqi] at enq; exact fV.inj enq
  exists _,rfl,_,rfl,t,_,_,_,rfl,rfl,Az.of (Pk _ _ ht),U4,tz,_,_,_,rfl,rfl,Az.of (Pk _ _ htz),rfl;exists _,rfl,o,rfl,⟨_,Az.of YF.op⟩
  refine Bb Bm (xs:=ss.map V.str) (fun D j Av H' acc=>∃ v0:Option V,Av=[v0,some (.ref o),some (.ref t),some (.ref T),some (.int lv),some (.int (i:Int)),some (.str z.1)]/\Aq H1 H'/\H' D=some (.lst acc)/\(∀ u ∈ acc,HY c m n xs ws Am Al x d (fun p=>p) H' u)/\acc.length=j)
   (by rw [eU]; lia) (fun D hD=>⟨_,rfl,Ac hD,Ab,(fun u hu=>nomatch hu),rfl⟩) (fun D j Av H' acc hD ⟨v0,_,sa,AR,_,al⟩=>⟨Az.of (sa _ _ YF.op),AR,al⟩) ?_ ?_
  ·rintro D j Av H' acc x' B hD ex ⟨v0,rfl,sa,AR,pa,al⟩ hB;obtain ⟨y,ey,rfl⟩:∃ y,ss[j]? = some y/\x'=.str y:=by
    rw [eZ] at ex;cases z:ss[j]? with
    | none=>rw [z] at ex; cases ex
    | some y=>rw [z] at ex; exact ⟨y,rfl,(fV.inj ex).symm⟩
   have ym:=eW ey;refine ⟨_,rfl,_,rfl,_,rfl,_,rfl,_,rfl,(by show 2<=sizeLine; lia),fun T3 Sn=>?_⟩;have sT:=Ac (o:=.tup [.str z.1,.str y]) Sn;have hT:(upd H' T3 (.tup [.str z.1,.str y])) T3=some (.tup [.str z.1,.str y]):=Ab;generalize upd H' T3 (.tup [.str z.1,.str y])=H5 at sT hT ⊢;have s5:=sa.trans sT;refine ⟨t,i,.ref T3,us,rfl,s5 _ _ (Pk _ _ ht),hi,by lia,fun H6 t6 s6 h6=>?_⟩;have LZ:=s5.trans s6;have XZ:=(YF.same LZ).putW (LZ _ _ (Pk _ _ ht)) (HD du1 LZ) (by lia) h6 (DU (z:=(z.1,y)) (s6 _ _ hT)) ⟨(pg.wn z zm).1,(snm y (isop.mem y ym)).2⟩;refine ⟨_,rfl,_,rfl,(by show 4<=sizeLine; lia),fun p6 Vr=>?_⟩;have s7:=Ac (o:=.tup [.ref o,.ref t6,.ref T,.int lv]) Vr;have hv:=XZ.pap (G:=fun p=>p) ⟨by rw [Dc,Kj enz]; exact hz,hq,isop,fun w hw=>(IE hw).elim (fun e=>e ▸ ym) (zal w),hlv,st⟩ Vr;have Uu:=s7 _ _ (s6 _ _ (sT _ _ AR));exact hB _ _ _ Uu ⟨_,rfl,fun b o' e=>by rw [Ae (Ah e hD)]; exact s7 _ _ (LZ _ _ e),Ab,Cf pa (sT.trans (s6.trans s7)) Uu hv,by rw [eY,al]; rfl⟩
  rintro L Av H2 acc hL ⟨v0,rfl,s2,hLL,pa,al⟩;have nLp:L ≠ p:=P1.ne hL;rw [eU] at al;refine ⟨_,rfl,.inl ⟨rfl,_,Ba.of hLL⟩,_,rfl,_,rfl,_,rfl,_,rfl,_,rfl,(by show 2<=sizeLine; lia),fun T3 Sn=>?_⟩;have sT:=Ac (o:=.tup [.str z.1,.int 0]) Sn;have hT:(upd H2 T3 (.tup [.str z.1,.int 0])) T3=some (.tup [.str z.1,.int 0]):=Ab;generalize upd H2 T3 (.tup [.str z.1,.int 0])=H3 at sT hT ⊢;have s13:=s2.trans sT;refine ⟨T,i,.ref T3,pus,rfl,s13 _ _ (Pk _ _ hTp),by lia,by lia,fun H4 T4 s4 h4=>?_⟩;have bY:=s13.trans s4;have pg4:=(YF.same bY).putP (AH dp1 fun b ys z=>bY _ _ z) hiq h4 (DI (u:=(z.1,0)) (s4 _ _ hT)) ⟨by rw [<-qz]; exact pg.pn _ (gI hiq),gJ _⟩;refine ⟨_,rfl,(by show 4<=sizeLine; lia),fun p4 Zn=>?_⟩;have s5:=Ac (o:=.tup [.ref o,.ref t,.ref T4,.int lv]) Zn;have e0q:Fo qs i (z.1,0)=Bi qs i 0:=by rw [Ki,Li eqi,qz]
  obtain ⟨r,er,_⟩:=JS.at ⟨hq,pg.lo⟩ eqi;have hv:=pg4.pap (G:=fun p=>p) ⟨hz,by rw [Dc,Kj enq]; exact hq,isop,zal,hlv,by rw [e0q]; exact Nd st er eqi (pg.lo _ (gI hiq))⟩ Zn;have So:=s5 _ _ (s4 _ _ (sT _ _ hLL));exists L,_,_,rfl,rfl,So,by lia
  have Yc:=Cf (ys:=acc ++ [.ref p4]) pa (sT.trans (s4.trans s5)) So hv;have LZ:Aq H1 (upd (upd H4 p4 (.tup [.ref o,.ref t,.ref T4,.int lv])) L (.lst (acc ++ [.ref p4]))):=fun b o' e=>by rw [Ae (Ah e hL)]; exact s5 _ _ (bY _ _ e)
  have V2:(upd (upd H4 p4 (.tup [.ref o,.ref t,.ref T4,.int lv])) L (.lst (acc ++ [.ref p4]))) L=some (.lst (acc ++ [.ref p4])):=Ab;generalize upd (upd H4 p4 (.tup [.ref o,.ref t,.ref T4,.int lv])) L (.lst (acc ++ [.ref p4]))=H6 at Yc LZ V2 ⊢;have P6:=P1.same LZ;have hc6:=LZ _ _ (Pk _ _ hc);have XZ:=YF.same LZ;have al6:(acc ++ [V.ref p4]).length<=50:=by rw [eY,al]; show _ + 1<=50; lia
  exists _,rfl,c,_,_,_,rfl,rfl,Az.of hc6,rfl,_,rfl;by_cases z0:x=.non
  ·rw [decide_eq_true z0];refine CS ?_;have Zj:=LZ _ _ (Pk _ _ Gf);exists _,rfl,.inl ⟨rfl,_,Ba.of V2⟩,_,rfl,c,_,_,_,rfl,rfl,Az.of hc6,rfl,t1,rfl,⟨_,Az.of Zj⟩
   refine Bb Bm (xs:=Fl) (fun D i Av H' acc=>∃ v0 v1:Option V,Av=[v0,v1]/\Aq H6 H'/\H' D=some (.lst acc)/\acc=((Am.map (·.1)).take i).map V.str/\acc.length=i)
    (by lia) (fun D hD=>⟨_,_,rfl,Ac hD,Ab,rfl,rfl⟩) (fun D i Av H' acc hD ⟨v0,v1,_,sa,AR,_,al⟩=>⟨Az.of (sa _ _ Zj),AR,al⟩) ?_ ?_
   ·rintro D i Av H' acc x' B hD ex ⟨v0,v1,rfl,sa,AR,ea,al⟩ hB;obtain ⟨q,tt,eq,rfl,htt⟩:=Bn (AH FG fun b ys z=>LZ _ _ (Pk _ _ z)) ex;exists tt,_,rfl,Az.of (sa _ _ htt),rfl,_,_,rfl,_,_,rfl,rfl;refine ⟨_,rfl,hB _ _ _ AR ⟨_,_,rfl,fun b o e=>by rw [Ae (Ah e hD)]; exact sa _ _ e,Ab,?_,by rw [eY,al]; rfl⟩⟩;rw [ea,fQ,eZ,eq,fg];rfl
   rintro D Av H7 Xq hD ⟨v0,v1,rfl,s7,AR,ea,_⟩;rw [ea,OZ,gZ (by rw [eU]; exact fc _)] at AR;refine ⟨D,_,rfl,.inl ⟨Ba.of AR,fun o8 ho8=>?_⟩⟩;have sO:=Ac (o:=.tup ((Am.map (·.1)).map V.str)) ho8;have hO:(upd H7 o8 (.tup ((Am.map (·.1)).map V.str))) o8=some (.tup ((Am.map (·.1)).map V.str)):=Ab;generalize upd H7 o8 (.tup ((Am.map (·.1)).map V.str))=H8 at sO hO ⊢;have Y8:=s7.trans sO;have pg8:=(XZ.same Y8).open' hO (by rw [eU]; lia) fun s hs=>gc (Cv (snm s hs).2) (by decide)
   refine ⟨_,rfl,_,rfl,_,rfl,(by show 4<=sizeLine; lia),fun p8 Zk=>?_⟩;have s9:=Ac (o:=.tup [.ref o8,.ref t,.ref T,.int lv]) Zk;have cO:=pg8.pap (G:=fun p=>p) ⟨hz,hq,⟨_,rfl,fun e=>by have h:=congrArg gK e; have l3:=pf.l3; rw [eU,jD] at h; lia,pf.ri,fun s hs=>⟨(snm s hs).2,hs⟩,by rw [z0]; rfl⟩,fun w hw=>isop.mem _ (zal w hw),hlv,st⟩ Zk;have V1:=s9 _ _ (Y8 _ _ V2);exists L,_,_,rfl,rfl,V1,by lia
   exact ⟨_,rfl,k _ L _ ((P6.same (Y8.trans s9)).other nLp) (aO.trans (AM.of_same fun b o' e=>by rw [Ae (Ah e hL)]; exact s9 _ _ (Y8 _ _ (LZ _ _ e)))) nLp Ab (Cf Yc (Y8.trans s9) V1 cO) (by rw [eY]; show _ + 1<=100; lia)⟩
  ·rw [decide_eq_false z0];refine BO ?_;refine ⟨_,rfl,.inl ⟨rfl,_,Ba.of V2⟩,_,rfl,_,rfl,_,rfl,_,rfl,_,_,rfl,rfl,_,rfl,p,9,rfl,P6,by decide,Gd (by decide),fun e2 a7 b7 c7 e20 e21=>?_⟩;have P7:AG (upd H6 p (.lst (AK a7 b7 c7))) p:=AG.set _ _ _;have Vg:AM p H6 (upd H6 p (.lst (AK a7 b7 c7))):=AM.upd;generalize upd H6 p (.lst (AK a7 b7 c7))=H7 at P7 Vg ⊢;have tk7:=KA P6 Vg;have hL7:=Vg _ _ nLp V2;refine ⟨_,_,rfl,rfl,(by show 4<=sizeLine; lia),fun p8 Zk=>?_⟩;have lv0:=pg.lv0;have s9:=Ac (o:=.tup [.ref o,.ref t,.ref T,.int (lv + 1 + e2)]) Zk;have cO:=((XZ.keepT tk7).levy' (lv':=lv + 1 + e2) (by lia)).pap (G:=fun p=>p) ⟨hz,hq,isop,zal,fun h=>absurd h z0,Na st (by lia)⟩ Zk;have V1:=s9 _ _ hL7;exists L,_,_,rfl,rfl,V1,by lia
   exact ⟨_,rfl,k _ L _ ((P7.same s9).other nLp) (aO.trans fun b o' hb e=>by rw [Ae (Ah e hL)]; exact s9 _ _ (Vg _ _ hb (LZ _ _ e))) nLp Ab (Cf (H:=H7) (fun u hu=>(Yc u hu).keepT tk7) s9 V1 cO) (by rw [eY]; show _ + 1<=100; lia)⟩
end
section
variable {P:Program} {w:World} {K:eV} {mg:Str->Option Value} {base:Heap}
theorem MH {us:List V} {i:Nat} (hi:i < us.length) (h2:2<=us.length):∃ j,j ≠ i/\j < us.length/\Gu us ((i:Int) - 1)=us[j]?:=by
 cases i with
 | zero=>
  exists us.length - 1,by lia,by lia
  unfold Gu Vh;rw [if_neg (by lia),if_pos (by lia)];show us[((us.length:Int) + ((0:Nat) - 1)).toNat]? = _
  congr 1;lia
 | succ i=>
  exists i,by lia,by lia
  rw [show ((i + 1:Nat):Int) - 1=(i:Int) by lia,BF (eR (show i < us.length by lia)),eR (show i < us.length by lia)]
theorem U0  {fWI:Addr} {fdWI:FuncData} (XWI:Fn K mg "_law_with" C2 ["_law_rows","_law_at","_law_row"] fWI fdWI) (GWI:A8 P w K mg base B0 1 fWI fdWI ["_law_rows","_law_at","_law_row"] KG)
  {f:Addr} {cdv:Value} {A:Around} {outer:List Env} {s:Shared} {H:Hp} {E:XK} (hr:El 1 (A.deeper (PyProof.Rows.envOfC "_law_broken" (Ap B8) s.heap.objs.size f cdv))) :
  ∃ tl,NU (MB B0 P w K mg base ["_law_pen_here","_law_case_here","_law_paper","_law_opening","_law_walks","_law_prices_here","_law_levy","_law_sites","_law_shut","_law_bare","_law_at","_law_found","_law_place"] "_law_broken" (Ap B8) f cdv A outer s H E).nox ((C8 B8).drop 7) tl /\
   ∀ (W:Gr) (H6:Hp) (c m pp o t T L:Addr) (n:Nat) (xs:List Str) (ws:List A9) (Am Al:List AI) (x:V) (d:PyData) (ss:List Str) (zs:List (Str × Str)) (qs:List AI) (lv:Int) (sh ba:Str) (i:Nat) (SU:List V) (v0 v1 v2 v7 v12:Option V),PF H6 c m pp o t T n xs ws Am Al x d ss zs qs lv->sh ∉ ss->AA sh=true->ba ∉ ss->AA ba=true->i < zs.length->H6 L=some (.lst SU)->(∀ u ∈ SU,HY c m n xs ws Am Al x d (fun p=>¬ p) H6 u)->SU.length<=10->(∀ (H':Hp) (L':Addr) (LA:List V),Aq H6 H'->H6 L'=none->H' L'=some (.lst LA)->(∀ u ∈ LA,HY c m n xs ws Am Al x d (fun p=>¬ p) H' u)->LA.length<=100->W.rt (.ref L') H')->tl W [v0,v1,v2,some (.ref o),some (.ref t),some (.ref T),some (.int lv),v7,some (.str sh),some (.str ba),some (.int (i:Int)),some (.ref L),v12] H6:=by
 have nd:=DM.nd;have hu:=Dm hr;have big:100000 < sizeLine:=by decide
 refine ⟨_,(Af (Ax (i:=12) nd rfl (Or.inr rfl) (A3 (AE K rfl) (A3 (AE K rfl) (pv 4) (pv 10) (fun _ _=>rfl)) Ag (fun _ _=>rfl)))
  (Af (Ax (i:=11) nd rfl (Or.inl rfl) (Aw G7 (pv 11) (Bf (N:=["_law_house","_law_opening","_law_walks","_law_prices_here","_law_levy","_law_at","_law_place"]) (σ0:=fun σ=>[none,some 3,some 4,some 5,some 6,some 10,some 12].map fun j=>j.bind fun j=>(σ[j]?).join) rfl (AF.caught (by rfl) (by decide +kernel) rfl (by decide +kernel) (by intro y hy; simp only [eX,ff,or_false] at hy; rcases hy with rfl | rfl | rfl | rfl | rfl | rfl <;> rfl)
   (by intro y hy e; simp only [eX,ff,or_false] at hy; rcases hy with rfl | rfl | rfl | rfl | rfl | rfl | rfl | rfl | rfl <;> first | exact ⟨_,rfl⟩ | cases e)) (fun σ _=>AU.of [none,some 3,some 4,some 5,some 6,some 10,some 12] rfl (by
   intro i j x h1 h2;match i,h1,h2 with
   | 0,_,h2=>cases h2
   | 1,h1,h2=>cases h1; cases h2; exact ⟨rfl,.inl rfl,.inl rfl⟩
   | 2,h1,h2=>cases h1; cases h2; exact ⟨rfl,.inl rfl,.inl rfl⟩
   | 3,h1,h2=>cases h1; cases h2; exact ⟨rfl,.inl rfl,.inl rfl⟩
   | 4,h1,h2=>cases h1; cases h2; exact ⟨rfl,.inl rfl,.inl rfl⟩
   | 5,h1,h2=>cases h1; cases h2; exact ⟨rfl,.inl rfl,.inl rfl⟩
   | 6,h1,h2=>cases h1; cases h2; exact ⟨rfl,.inl rfl,.inl rfl⟩
   | n + 7,h1,_=>cases h1)) (Bc K rfl (Au (Aa (pv 8) (Aa (pv 9) Ad))))
   (fun s2 H C fp=>⟨(Ai (i:=0) (show (["_law_house","_law_opening","_law_walks","_law_prices_here","_law_levy","_law_at","_law_place"]:List Str).Nodup by decide +kernel) rfl (Or.inl rfl)),AO,(Au (Aa (pv 1) (Aa (An GWI (hr.mono (by decide)) (by rfl) XWI.mg XWI.F.kp XWI.b .nil A1 (Aa (pv 2) (Aa (pv 5) (Aa (Au (Aa (pv 6) (Aa (pv 0) Ad))) Ad)))) (Aa (pv 3) (Aa (pv 4) Ad)))))⟩))))
  (Af (Ci (Ea PySem.F.plainAttrs_list PySem.F.slot_list_append PySem.F.type_list_append Bj (pv 11) (Aa (Au (Aa (pv 3) (Aa (An GWI (hr.mono (by decide)) (by rfl) XWI.mg XWI.F.kp XWI.b .nil A1 (Aa (pv 4) (Aa (pv 10) (Aa (Au (Aa F2 (Aa (A3 (AE K rfl) (A3 (AE K rfl) (pv 4) (pv 10) (fun _ _=>rfl)) Ag (fun _ _=>rfl)) Ad))) Ad)))) (Aa (pv 5) (Aa (pv 6) Ad))))) Ad)))
  (Af (Ci (Ea PySem.F.plainAttrs_list PySem.F.slot_list_append PySem.F.type_list_append Bj (pv 11) (Aa (Au (Aa (pv 3) (Aa (An GWI (hr.mono (by decide)) (by rfl) XWI.mg XWI.F.kp XWI.b .nil A1 (Aa (pv 4) (Aa (pv 10) (Aa (A3 (AE K rfl) (pv 4) (Aw EO (pv 10) Ag) (fun _ _=>rfl)) Ad)))) (Aa (pv 5) (Aa (pv 6) Ad))))) Ad)))
  (Af (Ax (i:=11) nd rfl (Or.inl rfl) (Aw G7 (pv 11) (B5 (Aa (Au (Aa (pv 3) (Aa (IH (pv 4) (R7 MW Ag)) (Aa (pv 5) (Aa (pv 6) Ad))))) (Aa (Au (Aa (pv 3) (Aa (Aw (BP K rfl) (B4 (Cs K rfl) (pv 4) BD (BC (pv 10))) (B4 (Cs K rfl) (pv 4) (BC (Aw Bg (pv 10) Ag)) BD)) (Aa (pv 5) (Aa (pv 6) Ad))))) Ad)))))
  (Af (Ax (i:=11) nd rfl (Or.inl rfl) (Aw G7 (pv 11) (B5 (Aa (Au (Aa (pv 3) (Aa (pv 4) (Aa (IH (pv 5) (R7 MW Ag)) (Aa (pv 6) Ad))))) (Aa (Au (Aa (pv 3) (Aa (pv 4) (Aa (Aw (BP K rfl) (B4 (Cs K rfl) (pv 5) BD (BC (pv 10))) (B4 (Cs K rfl) (pv 5) (BC (Aw Bg (pv 10) Ag)) BD)) (Aa (pv 6) Ad))))) Ad)))))
  (Af (Ci (Ea PySem.F.plainAttrs_list PySem.F.slot_list_append PySem.F.type_list_append Bj (pv 11) (Aa (Au (Aa (pv 3) (Aa (pv 4) (Aa (An GWI (hr.mono (by decide)) (by rfl) XWI.mg XWI.F.kp XWI.b .nil A1 (Aa (pv 5) (Aa (pv 10) (Aa (Au (Aa (pv 12) (Aa (Aw Bg (A3 (AE K rfl) (A3 (AE K rfl) (pv 5) (pv 10) (fun _ _=>rfl)) Ag (fun _ _=>rfl)) Ag) Ad))) Ad)))) (Aa (pv 6) Ad))))) Ad)))
  (Ak (A7 (Aw G7 (pv 11) (B5 (Aa (Au (Aa (pv 3) (Aa (pv 4) (Aa (An GWI (hr.mono (by decide)) (by rfl) XWI.mg XWI.F.kp XWI.b .nil A1 (Aa (pv 5) (Aa (pv 10) (Aa (Au (Aa F2 (Aa (A3 (AE K rfl) (A3 (AE K rfl) (pv 5) (pv 10) (fun _ _=>rfl)) Ag (fun _ _=>rfl)) Ad))) Ad)))) (Aa (pv 6) Ad))))) Ad)))))))))))),?_⟩
 clear nd;intro W H6 c m pp o t T L n xs ws Am Al x d ss zs qs lv sh ba i SU v0 v1 v2 v7 v12 pf sno snb bno bnb hi0 Ym pa0 ul0 fin;have pg:=pf.pg;obtain ⟨us,ht,du⟩:=pg.wk;obtain ⟨pus,hTp,dp⟩:=pg.pr;obtain ⟨hz,hq,isop,zal,hlv,st⟩:=pf.ok;obtain ⟨t1,t2,Fl,FK,hc,Gf,FG,EV,hd2⟩:=pg.cw.ex;have ul:=EF du;have pl:=A5 dp;have OZ:=A5 FG;have zl:zs.length=Al.length:=by have:=congrArg gK hz; rwa [eU,eU] at this
 have ql:qs.length=Al.length:=by have:=congrArg gK hq; rwa [eU,eU] at this
 have m3:=pf.m3;have l2:=pg.cw.l2;have l1:=pg.cw.l1;have two:=pf.two;have snm:∀ s ∈ Am.map (·.1),s ∈ xs/\AA s=true:=fun s hs=>by
  obtain ⟨r,hr,e⟩:=fi.mp hs;have e':r.1=s:=e;rw [<-e'];exact ⟨pg.cw.ok1.sub r hr,pg.cw.map.at'.nm _ (pg.cw.ok1.sub r hr)⟩
 have hi:i < us.length:=by lia
 have SH6:=Aq.refl H6;obtain ⟨z,tz,ez,eu,htz⟩:=Ei du (eR hi);have zm:=eW ez;have U4:Gu us (i:Int)=some (.ref tz):=by rw [BF (eR hi),eu]
 have enz:(zs.map (·.1))[i]? = some z.1:=by rw [eZ,ez]; rfl
 have enq:(qs.map (·.1))[i]? = some z.1:=by rw [hq,<-hz]; exact enz
 have hiq:i < qs.length:=by lia
 have eqi:=eR hiq;obtain ⟨q,tq,eq,eqv,htq⟩:=Bn dp (eR (show i < pus.length by lia));have qz:q.1=z.1:=by rw [eZ,eq] at enq; exact fV.inj enq
 have atq:Gu pus (i:Int)=some (.ref tq):=by rw [BF (eR (show i < pus.length by lia)),eqv]
 have qm:=eW eq;have nd:(Al.map (·.1)).Nodup:=pg.cw.ok2.nd;have ndz:(zs.map (·.1)).Nodup:=by rw [hz]; exact nd
 have zzo:AA (Str.ofString "zzzzzz")=true:=by decide +kernel
 have zno:Str.ofString "zzzzzz" ∉ Al.map (·.1):=fun h=>by
  obtain ⟨r,hr,e⟩:=fi.mp h;exact pf.nz r.1 (pg.cw.ok2.sub r hr) e
 exists _,rfl,_,rfl,t,_,_,_,rfl,rfl,Az.of ht,U4,tz,_,_,_,rfl,rfl,Az.of htz,rfl;refine ⟨_,rfl,_,rfl,_,rfl,(by show 2<=sizeLine; lia),fun Y hY=>?_⟩;have sYY:=Ac (o:=.tup [.str sh,.str ba]) hY;have Yl:(upd H6 Y (.tup [.str sh,.str ba])) Y=some (.tup [.str sh,.str ba]):=Ab;have Xy:=SH6.trans sYY;generalize upd H6 Y (.tup [.str sh,.str ba])=UH at sYY Yl Xy ⊢;exists Y,rfl,⟨_,Az.of Yl⟩
 refine Bb Bm (xs:=[.str sh,.str ba]) (fun D j Av H' acc=>∃ v0:Option V,Av=[v0,some (.ref o),some (.ref t),some (.ref T),some (.int lv),some (.int (i:Int)),some (.str z.1)]/\Aq UH H'/\H' D=some (.lst acc)/\(∀ u ∈ acc,HY c m n xs ws Am Al x d (fun p=>¬ p) H' u)/\acc.length=j)
  (by show 2 < sizeLine; lia) (fun D hD=>⟨_,rfl,Ac hD,Ab,(fun u hu=>nomatch hu),rfl⟩) (fun D j Av H' acc hD ⟨v0,_,sa,AR,_,al⟩=>⟨Az.of (sa _ _ Yl),AR,al⟩) ?_ ?_
 ·rintro D j Av H' acc x' B hD ex ⟨v0,rfl,sa,AR,pa,al⟩ hB;obtain ⟨y,rfl,yno,ynm⟩:∃ y,x'=.str y/\y ∉ ss/\AA y=true:=by
   match j,ex with
   | 0,ex=>exact ⟨sh,(fV.inj ex).symm,sno,snb⟩
   | 1,ex=>exact ⟨ba,(fV.inj ex).symm,bno,bnb⟩
   | j + 2,ex=>simp at ex
  refine ⟨_,rfl,_,rfl,_,rfl,_,rfl,_,rfl,(by show 2<=sizeLine; lia),fun T3 Sn=>?_⟩;have sT:=Ac (o:=.tup [.str z.1,.str y]) Sn;have Lv:(upd H' T3 (.tup [.str z.1,.str y])) T3=some (.tup [.str z.1,.str y]):=Ab;generalize upd H' T3 (.tup [.str z.1,.str y])=H5a at sT Lv ⊢;have s5:=(Xy.trans sa).trans sT;refine ⟨t,i,.ref T3,us,rfl,s5 _ _ ht,hi,by lia,fun eK t6 s6 h6=>?_⟩;have LZ:=s5.trans s6;have XZ:=(pg.same LZ).putW (LZ _ _ ht) (HD du LZ) (by lia) h6 (DU (z:=(z.1,y)) (s6 _ _ Lv)) ⟨(pg.wn z zm).1,ynm⟩;refine ⟨_,rfl,_,rfl,(by show 4<=sizeLine; lia),fun p6 Vr=>?_⟩;have s7:=Ac (o:=.tup [.ref o,.ref t6,.ref T,.int lv]) Vr;have hv:=XZ.pap (G:=(fun p=>¬ p)) (fun ok=>yno (ok.2.2.2.1 _ KU)) Vr;have Uu:=s7 _ _ (s6 _ _ (sT _ _ AR));exact hB _ _ _ Uu ⟨_,rfl,fun b o' e=>by rw [Ae (Ah e hD)]; exact s7 _ _ (s6 _ _ (sT _ _ (sa _ _ e))),Ab,Cf pa (sT.trans (s6.trans s7)) Uu hv,by rw [eY,al]; rfl⟩
 rintro D8 Av H8 NG hD8 ⟨v0,rfl,s8,dI,pa8,al8⟩;have b8:=Xy.trans s8;have al8':NG.length=2:=al8;have hLLx:=b8 _ _ Ym;have paLx:=Bs pa0 b8;refine ⟨L,D8,_,_,rfl,rfl,hLLx,dI,by lia,fun L9 V1=>?_⟩;have ZT:H6 L9=none:=b8.free V1;have aB:=Ac (o:=.lst (SU ++ NG)) V1;have JL:(upd H8 L9 (.lst (SU ++ NG))) L9=some (.lst (SU ++ NG)):=Ab;have UA:=b8.trans aB;generalize upd H8 L9 (.lst (SU ++ NG))=Th at aB JL UA ⊢;obtain ⟨Q8,Xi⟩:∃ Q8,Q8=SU ++ NG:=⟨_,rfl⟩
 have ul9:Q8.length=SU.length + (NG).length:=by rw [Xi,eY]
 have RG:∀ u ∈ Q8,HY c m n xs ws Am Al x d (fun p=>¬ p) Th u:=fun u hu=>by
  rw [Xi] at hu;rcases fq.mp hu with hu | hu
  ·exact Bs paLx aB u hu
  ·exact Bs pa8 aB u hu
 have JL:Th L9=some (.lst Q8):=by rw [Xi]; exact JL
 refine ⟨_,rfl,.inl ⟨rfl,_,Ba.of JL⟩,_,rfl,_,rfl,_,rfl,_,rfl,_,rfl,t,_,_,_,rfl,rfl,Az.of (UA _ _ ht),U4,tz,_,_,_,rfl,rfl,Az.of (UA _ _ htz),rfl,(by show 2<=sizeLine; lia),fun b6 dA=>?_⟩;have sTA:=Ac (o:=.tup [.str (Str.ofString "zzzzzz"),.str z.2]) dA;have hTA:(upd Th b6 (.tup [.str (Str.ofString "zzzzzz"),.str z.2])) b6=some (.tup [.str (Str.ofString "zzzzzz"),.str z.2]):=Ab;have Xx:=UA.trans sTA;generalize upd Th b6 (.tup [.str (Str.ofString "zzzzzz"),.str z.2])=VP at sTA hTA Xx ⊢;refine ⟨t,i,.ref b6,us,rfl,Xx _ _ ht,hi,by lia,fun HB1 tB1 aF V5=>?_⟩;have U7:=Xx.trans aF;refine ⟨_,rfl,_,rfl,(by show 4<=sizeLine; lia),fun WC Zq=>?_⟩;have Ze:=(((pg.same U7).putW (U7 _ _ ht) (HD du U7) (by lia) V5 (DU (z:=(Str.ofString "zzzzzz",z.2)) (aF _ _ hTA)) ⟨gc (Cv zzo) (by decide),(pg.wn z zm).2⟩)).pap (G:=(fun p=>¬ p)) (fun ok=>zno (by rw [<-ok.1,Dc]; exact KU)) Zq;have Tu:=Ac (o:=.tup [.ref o,.ref tB1,.ref T,.int lv]) Zq;have ao:=U7.trans Tu;generalize upd HB1 WC (.tup [.ref o,.ref tB1,.ref T,.int lv])=X6 at Ze Tu ao ⊢;have Zv:=(sTA.trans (aF.trans Tu)) _ _ JL;exists L9,_,_,rfl,rfl,Zv,by lia
 have W9:=Cf (ys:=Q8 ++ [.ref WC]) RG (sTA.trans (aF.trans Tu)) Zv Ze;have U9:Aq H6 (upd X6 L9 (.lst (Q8 ++ [.ref WC]))):=fun b o' e=>by rw [Ae (Ah e ZT)]; exact ao _ _ e
 have WW:(upd X6 L9 (.lst (Q8 ++ [.ref WC]))) L9=some (.lst (Q8 ++ [.ref WC])):=Ab;generalize upd X6 L9 (.lst (Q8 ++ [.ref WC]))=X4 at W9 U9 WW ⊢;obtain ⟨J6,VC⟩:∃ J6,J6=Q8 ++ [V.ref WC]:=⟨_,rfl⟩
 have ul10:J6.length=Q8.length + 1:=by rw [VC,eY]; rfl
 rw [<-VC] at W9 WW;have JL:=WW;have RG:=W9;obtain ⟨j,jne,jl,atj⟩:=MH (us:=us) (i:=i) hi (by lia);obtain ⟨y,ty,ey,eyu,hty⟩:=Ei du (eR jl);have at2:Gu us ((i:Int) - 1)=some (.ref ty):=by rw [atj,eR jl,eyu]
 have ym:=eW ey;exists _,rfl,.inl ⟨rfl,_,Ba.of JL⟩,_,rfl,_,rfl,_,rfl,_,rfl,_,rfl,_,_,rfl,rfl,t,_,_,_,rfl,rfl,Az.of (U9 _ _ ht),at2;refine ⟨t,i,.ref ty,us,rfl,U9 _ _ ht,hi,by lia,fun HC1 tC1 bT MP=>?_⟩;have SI:=U9.trans bT;refine ⟨_,rfl,_,rfl,(by show 4<=sizeLine; lia),fun WB Zp=>?_⟩;have Zd:=(((pg.same SI).putW (SI _ _ ht) (HD du SI) (by lia) MP (DU (z:=y) (SI _ _ hty)) (pg.wn y ym))).pap (G:=(fun p=>¬ p)) (fun ok=>Wu (A:=zs.map (·.1)) (i:=i) (y:=y.1) (by rw [eU]; lia) (fun h=>jne ((iN (by rw [eU]; lia) ndz).mp ((show (zs.map (·.1))[j]? = some y.1 by rw [eZ,ey]; rfl).trans h.symm))) (by have h:=ok.1; rw [Dc] at h; rw [hz]; rw [hz] at h; exact h)) Zp;have Tt:=Ac (o:=.tup [.ref o,.ref tC1,.ref T,.int lv]) Zp;have ak:=SI.trans Tt;generalize upd HC1 WB (.tup [.ref o,.ref tC1,.ref T,.int lv])=Yy at Zd Tt ak ⊢;have Zu:=(bT.trans Tt) _ _ JL;exists L9,_,_,rfl,rfl,Zu,by lia
 have W8:=Cf (ys:=J6 ++ [.ref WB]) RG (bT.trans Tt) Zu Zd;have Xw:Aq H6 (upd Yy L9 (.lst (J6 ++ [.ref WB]))):=fun b o' e=>by rw [Ae (Ah e ZT)]; exact ak _ _ e
 have WV:(upd Yy L9 (.lst (J6 ++ [.ref WB]))) L9=some (.lst (J6 ++ [.ref WB])):=Ab;generalize upd Yy L9 (.lst (J6 ++ [.ref WB]))=eQ at W8 Xw WV ⊢;obtain ⟨K9,VB⟩:∃ K9,K9=J6 ++ [V.ref WB]:=⟨_,rfl⟩
 have ul11:K9.length=J6.length + 1:=by rw [VB,eY]; rfl
 rw [<-VB] at W8 WV;have JL:=WV;have RG:=W8;have ndq:(qs.map (·.1)).Nodup:=by rw [hq]; exact nd
 refine ⟨_,rfl,_,rfl,_,rfl,t,_,rfl,Az.of (Xw _ _ ht),fun YC cS=>?_⟩;have Wn:=Ac (o:=.tup us.reverse) cS;have ZG:(upd eQ YC (.tup us.reverse)) YC=some (.tup us.reverse):=Ab;have U8:=Xw.trans Wn;generalize upd eQ YC (.tup us.reverse)=H18 at Wn ZG U8 ⊢;refine ⟨_,rfl,_,rfl,(by show 4<=sizeLine; lia),fun IL Vv=>?_⟩;have Vq:=(((pg.same U8).walks' ZG (by rw [iC]; exact Jn (HD du U8)) (by rw [gW]; exact pg.wl) fun y hy=>pg.wn y (iW.mp hy))).pap (G:=(fun p=>¬ p)) (fun ok=>Oz ndz (by rw [eU]; lia) (by have h:=ok.1; rw [iC] at h; rw [h,hz])) Vv;have QZ:=Ac (o:=.tup [.ref o,.ref YC,.ref T,.int lv]) Vv;have Xv:=U8.trans QZ;generalize upd H18 IL (.tup [.ref o,.ref YC,.ref T,.int lv])=eP at Vq QZ Xv ⊢;refine ⟨_,rfl,_,rfl,_,rfl,_,rfl,Pn (Xv _ _ ht) hi fun Z20 HZ20 Wh df=>?_⟩;have VJ:=Xv.trans Wh;exists _,rfl,_,rfl,_,_,rfl,rfl,_,rfl;dsimp only [En];refine Rc (K:=K) (VJ _ _ ht) hi fun Y20 HY20 T7 di=>?_
 have ag:=VJ.trans T7;refine Jq (K:=K) (T7 _ _ df) di (by rw [fJ,gD]; lia) fun X20 eJ Wl dk=>?_
 have OU:=ag.trans Wl;refine ⟨_,rfl,_,rfl,(by show 4<=sizeLine; lia),fun IK Vu=>?_⟩;have Vp:=(((pg.same OU).walks' (zs':=zs.take i ++ zs.drop (i + 1)) dk (by rw [fg,ie,iz]; exact BK (Dq i (HD du OU)) (Dr (i + 1) (HD du OU))) (by rw [eY,fJ,gD]; lia) fun y hy=>pg.wn y ((fq.mp hy).elim gU ip))).pap (G:=(fun p=>¬ p)) (fun ok=>S8 (A:=zs.map (·.1)) (i:=i) (by rw [eU]; lia) (by have h:=ok.1; rw [fg,ie,iz] at h; rw [h,hz])) Vu;have Ov:=Ac (o:=.tup [.ref o,.ref X20,.ref T,.int lv]) Vu;have aj:=OU.trans Ov;generalize upd eJ IK (.tup [.ref o,.ref X20,.ref T,.int lv])=eO at Vp Ov aj ⊢;refine ⟨(by show 2<=sizeLine; lia),fun bB dG=>?_⟩;have Ro:=Ac (o:=.lst [.ref IL,.ref IK]) dG;have Vz:(upd eO bB (.lst [.ref IL,.ref IK])) bB=some (.lst [.ref IL,.ref IK]):=Ab;have NP:=aj.trans Ro;generalize upd eO bB (.lst [.ref IL,.ref IK])=Yx at Ro Vz NP ⊢;have Rr:=((Wn.trans QZ).trans ((Wh.trans (T7.trans Wl)).trans (Ov.trans Ro)))
 have ZL:=Rr _ _ JL;have YH:=Bs RG Rr;have YM:∀ u ∈ [V.ref IL,.ref IK],HY c m n xs ws Am Al x d (fun p=>¬ p) Yx u:=fun u hu=>by
  rcases eX.mp hu with rfl | hu
  ·exact Vq.keepT fun b ys z=>Ro _ _ (Ov _ _ (Wl _ _ (T7 _ _ (Wh _ _ z))))
  ·rw [fo.mp hu];exact Vp.keepT fun b ys z=>Ro _ _ z
 refine ⟨L9,bB,_,_,rfl,rfl,ZL,Vz,(by show _ + 2<=sizeLine; lia),fun Ys ZP=>?_⟩;have frL20:H6 Ys=none:=NP.free ZP;have Tz:=Ac (o:=.lst (K9 ++ [V.ref IL,.ref IK])) ZP;have OJ:(upd Yx Ys (.lst (K9 ++ [V.ref IL,.ref IK]))) Ys=some (.lst (K9 ++ [V.ref IL,.ref IK])):=Ab;have NO:=NP.trans Tz;generalize upd Yx Ys (.lst (K9 ++ [V.ref IL,.ref IK]))=ar at Tz OJ NO ⊢;obtain ⟨Iq,S2⟩:∃ Iq,Iq=K9 ++ [V.ref IL,.ref IK]:=⟨_,rfl⟩
 have ul20:Iq.length=K9.length + 2:=by rw [S2,eY]; rfl
 have YJ:∀ u ∈ Iq,HY c m n xs ws Am Al x d (fun p=>¬ p) ar u:=fun u hu=>by
  rw [S2] at hu;rcases fq.mp hu with hu | hu
  ·exact Bs YH Tz u hu
  ·exact Bs YM Tz u hu
 have OJ:ar Ys=some (.lst Iq):=by rw [S2]; exact OJ
 refine ⟨_,rfl,_,rfl,_,rfl,_,rfl,T,_,rfl,Az.of (NO _ _ hTp),fun YB cR=>?_⟩;have Wm:=Ac (o:=.tup pus.reverse) cR;have ZF:(upd ar YB (.tup pus.reverse)) YB=some (.tup pus.reverse):=Ab;have ML:=NO.trans Wm;generalize upd ar YB (.tup pus.reverse)=bF at Wm ZF ML ⊢;refine ⟨_,rfl,(by show 4<=sizeLine; lia),fun IJ Vt=>?_⟩;have Vo:=(((pg.same ML).prices' ZF (by rw [iC]; exact Jn (AH dp fun b ys z=>ML _ _ z)) (by rw [gW]; exact pg.pl) fun y hy=>⟨pg.pn y (iW.mp hy),pg.lo y (iW.mp hy)⟩)).pap (G:=(fun p=>¬ p)) (fun ok=>Oz ndq (by rw [eU]; lia) (by have h:=ok.2.1; rw [iC] at h; rw [h,hq])) Vt;have QY:=Ac (o:=.tup [.ref o,.ref t,.ref YB,.int lv]) Vt;have MK:=ML.trans QY;generalize upd bF IJ (.tup [.ref o,.ref t,.ref YB,.int lv])=Yw at Vo QY MK ⊢;refine ⟨_,rfl,_,rfl,_,rfl,_,rfl,_,rfl,Pn (MK _ _ hTp) (show i < pus.length by lia) fun Z30 HZ30 Wg de=>?_⟩;have VI:=MK.trans Wg;exists _,rfl,_,rfl,_,_,rfl,rfl,_,rfl;dsimp only [En];refine Rc (K:=K) (VI _ _ hTp) (show i < pus.length by lia) fun Y30 HY30 T6 dh=>?_
 have af:=VI.trans T6;refine Jq (K:=K) (T6 _ _ de) dh (by rw [fJ,gD]; lia) fun X30 eI Wk dj=>?_
 have OT:=af.trans Wk;refine ⟨_,rfl,(by show 4<=sizeLine; lia),fun II Vs=>?_⟩;have Vn:=(((pg.same OT).prices' (qs':=qs.take i ++ qs.drop (i + 1)) dj (by rw [fg,ie,iz]; exact BK (Dq i (AH dp fun b ys z=>OT _ _ z)) (Dr (i + 1) (AH dp fun b ys z=>OT _ _ z))) (by rw [eY,fJ,gD]; lia) fun y hy=>(fun hm=>⟨pg.pn y hm,pg.lo y hm⟩) ((fq.mp hy).elim gU ip))).pap (G:=(fun p=>¬ p)) (fun ok=>S8 (A:=qs.map (·.1)) (i:=i) (by rw [eU]; lia) (by have h:=ok.2.1; rw [fg,ie,iz] at h; rw [h,hq])) Vs;have Ou:=Ac (o:=.tup [.ref o,.ref t,.ref X30,.int lv]) Vs;have Q4:=OT.trans Ou;generalize upd eI II (.tup [.ref o,.ref t,.ref X30,.int lv])=eN at Vn Ou Q4 ⊢;refine ⟨(by show 2<=sizeLine; lia),fun bA dF=>?_⟩;have Rn:=Ac (o:=.lst [.ref IJ,.ref II]) dF;have Vy:(upd eN bA (.lst [.ref IJ,.ref II])) bA=some (.lst [.ref IJ,.ref II]):=Ab;have NM:=Q4.trans Rn;generalize upd eN bA (.lst [.ref IJ,.ref II])=aq at Rn Vy NM ⊢;have Rq:=((Wm.trans QY).trans ((Wg.trans (T6.trans Wk)).trans (Ou.trans Rn)))
 have Xa:=Rq _ _ OJ;have W5:=Bs YJ Rq;have YL:∀ u ∈ [V.ref IJ,.ref II],HY c m n xs ws Am Al x d (fun p=>¬ p) aq u:=fun u hu=>by
  rcases eX.mp hu with rfl | hu
  ·exact Vo.keepT fun b ys z=>Rn _ _ (Ou _ _ (Wk _ _ (T6 _ _ (Wg _ _ z))))
  ·rw [fo.mp hu];exact Vn.keepT fun b ys z=>Rn _ _ z
 refine ⟨Ys,bA,_,_,rfl,rfl,Xa,Vy,(by show _ + 2<=sizeLine; lia),fun SN ZO=>?_⟩;have ZV:H6 SN=none:=NM.free ZO;have Tx:=Ac (o:=.lst (Iq ++ [V.ref IJ,.ref II])) ZO;have Jg:(upd aq SN (.lst (Iq ++ [V.ref IJ,.ref II]))) SN=some (.lst (Iq ++ [V.ref IJ,.ref II])):=Ab;have MJ:=NM.trans Tx;generalize upd aq SN (.lst (Iq ++ [V.ref IJ,.ref II]))=Yv at Tx Jg MJ ⊢;obtain ⟨HJ,S1⟩:∃ HJ,HJ=Iq ++ [V.ref IJ,.ref II]:=⟨_,rfl⟩
 have ul30:HJ.length=Iq.length + 2:=by rw [S1,eY]; rfl
 have RH:∀ u ∈ HJ,HY c m n xs ws Am Al x d (fun p=>¬ p) Yv u:=fun u hu=>by
  rw [S1] at hu;rcases fq.mp hu with hu | hu
  ·exact Bs W5 Tx u hu
  ·exact Bs YL Tx u hu
 have Jg:Yv SN=some (.lst HJ):=by rw [S1]; exact Jg
 refine ⟨_,rfl,.inl ⟨rfl,_,Ba.of Jg⟩,_,rfl,_,rfl,_,rfl,_,rfl,_,rfl,_,rfl,_,rfl,T,_,_,_,rfl,rfl,Az.of (MJ _ _ hTp),atq,tq,_,_,_,rfl,rfl,Az.of (MJ _ _ htq),rfl,_,_,rfl,rfl,(by show 2<=sizeLine; lia),fun b0 dy=>?_⟩;have sTD:=Ac (o:=.tup [.str z.1,.int (q.2 + 1)]) dy;have hTD:(upd Yv b0 (.tup [.str z.1,.int (q.2 + 1)])) b0=some (.tup [.str z.1,.int (q.2 + 1)]):=Ab;have Q3:=MJ.trans sTD;generalize upd Yv b0 (.tup [.str z.1,.int (q.2 + 1)])=eM at sTD hTD Q3 ⊢;refine ⟨T,i,.ref b0,pus,rfl,Q3 _ _ hTp,(show i < pus.length by lia),by lia,fun HE1 TE1 aE hE1=>?_⟩;have Xu:=Q3.trans aE;refine ⟨_,rfl,(by show 4<=sizeLine; lia),fun WA Zm=>?_⟩;have eput:∀ v,Fo qs i (z.1,v)=Bi qs i v:=fun v=>by rw [Ki,Li eq,qz]
 have q0:=pg.lo q qm;have Zc:=(((pg.same Xu).putP (AH dp fun b ys z=>Xu _ _ z) hiq hE1 (DI (u:=(z.1,q.2 + 1)) (aE _ _ hTD)) ⟨by rw [<-qz]; exact pg.pn q qm,by show 0<=q.2 + 1; lia⟩)).pap (G:=(fun p=>¬ p)) (fun ok=>by have h:=ok.2.2.2.2.2; rw [eput,pf.full i q hiq eq] at h; cases h) Zm;have Ts:=Ac (o:=.tup [.ref o,.ref t,.ref TE1,.int lv]) Zm;have SK:=Xu.trans Ts;generalize upd HE1 WA (.tup [.ref o,.ref t,.ref TE1,.int lv])=Yu at Zc Ts SK ⊢;have Zt:=(sTD.trans (aE.trans Ts)) _ _ Jg;exists SN,_,_,rfl,rfl,Zt,by lia
 have W7:=Cf (ys:=HJ ++ [.ref WA]) RH (sTD.trans (aE.trans Ts)) Zt Zc;have JR:Aq H6 (upd Yu SN (.lst (HJ ++ [.ref WA]))):=fun b o' e=>by rw [Ae (Ah e ZV)]; exact SK _ _ e
 have WU:(upd Yu SN (.lst (HJ ++ [.ref WA]))) SN=some (.lst (HJ ++ [.ref WA])):=Ab;generalize upd Yu SN (.lst (HJ ++ [.ref WA]))=bE at W7 JR WU ⊢;obtain ⟨K8,VA⟩:∃ K8,K8=HJ ++ [V.ref WA]:=⟨_,rfl⟩
 have ul40:K8.length=HJ.length + 1:=by rw [VA,eY]; rfl
 rw [<-VA] at W7 WU;have Jg:=WU;have RH:=W7;refine ⟨_,rfl,_,rfl,_,rfl,_,rfl,_,rfl,_,rfl,_,rfl,T,_,_,_,rfl,rfl,Az.of (JR _ _ hTp),atq,tq,_,_,_,rfl,rfl,Az.of (JR _ _ htq),rfl,(by show 2<=sizeLine; lia),fun bz dv=>?_⟩;have sTF:=Ac (o:=.tup [.str (Str.ofString "zzzzzz"),.int q.2]) dv;have hTF:(upd bE bz (.tup [.str (Str.ofString "zzzzzz"),.int q.2])) bz=some (.tup [.str (Str.ofString "zzzzzz"),.int q.2]):=Ab;have NL:=JR.trans sTF;generalize upd bE bz (.tup [.str (Str.ofString "zzzzzz"),.int q.2])=H31 at sTF hTF NL ⊢;refine ⟨T,i,.ref bz,pus,rfl,NL _ _ hTp,(show i < pus.length by lia),by lia,fun HF1 TF1 bR hF1=>?_⟩;have Xt:=NL.trans bR;refine ⟨_,rfl,(by show 4<=sizeLine; lia),fun RI Zl=>?_⟩;have YZ:=(((pg.same Xt).putP (AH dp fun b ys z=>Xt _ _ z) hiq hF1 (DI (u:=(Str.ofString "zzzzzz",q.2)) (bR _ _ hTF)) ⟨zzo,q0⟩)).pap (G:=(fun p=>¬ p)) (fun ok=>zno (by rw [<-ok.2.1,Dc]; exact KU)) Zl;have Wb:=Ac (o:=.tup [.ref o,.ref t,.ref TF1,.int lv]) Zl;have Q2:=Xt.trans Wb;generalize upd HF1 RI (.tup [.ref o,.ref t,.ref TF1,.int lv])=bD at YZ Wb Q2 ⊢;refine ⟨(by show 1<=sizeLine; lia),fun b9 dE=>?_⟩;have T9:=Ac (o:=.lst [.ref RI]) dE;have Vx:(upd bD b9 (.lst [.ref RI])) b9=some (.lst [.ref RI]):=Ab;have Q0:=Q2.trans T9;generalize upd bD b9 (.lst [.ref RI])=X1 at T9 Vx Q0 ⊢;have Rp:=(sTF.trans (bR.trans Wb)).trans T9;have WZ:=Rp _ _ Jg;have W4:=Bs RH Rp;have YK:∀ u ∈ [V.ref RI],HY c m n xs ws Am Al x d (fun p=>¬ p) X1 u:=fun u hu=>by
  rw [fo.mp hu];exact YZ.keepT fun b ys z=>T9 _ _ z
 refine ⟨SN,b9,_,_,rfl,rfl,WZ,Vx,(by show _ + 1<=sizeLine; lia),fun Yr ZN=>?_⟩;have ZU:H6 Yr=none:=Q0.free ZN;have Tw:=Ac (o:=.lst (K8 ++ [V.ref RI])) ZN;have OI:(upd X1 Yr (.lst (K8 ++ [V.ref RI]))) Yr=some (.lst (K8 ++ [V.ref RI])):=Ab;have Qz:=Q0.trans Tw;generalize upd X1 Yr (.lst (K8 ++ [V.ref RI]))=bC at Tw OI Qz ⊢;obtain ⟨OX,Sz⟩:∃ OX,OX=K8 ++ [V.ref RI]:=⟨_,rfl⟩
 have ul50:OX.length=K8.length + 1:=by rw [Sz,eY]; rfl
 have YI:∀ u ∈ OX,HY c m n xs ws Am Al x d (fun p=>¬ p) bC u:=fun u hu=>by
  rw [Sz] at hu;rcases fq.mp hu with hu | hu
  ·exact Bs W4 Tw u hu
  ·exact Bs YK Tw u hu
 have OI:bC Yr=some (.lst OX):=by rw [Sz]; exact OI
 exact fin _ Yr OX Qz ZU OI YI (by lia)
end
section
variable {P:Program} {w:World} {K:eV} {mg:Str->Option Value} {base:Heap}
theorem JC (h_len:mg "len"=none) (h_sorted:mg "sorted"=none) (h_tuple:mg "tuple"=none) {fT:Addr} {fdT:FuncData} (XT:Fn K mg "_law_take" Bw ["_law_pen_here","_law_many"] fT fdT) (GT:A8 P w K mg base B0 1 fT fdT ["_law_pen_here","_law_many"] D5) {fWI:Addr} {fdWI:FuncData} (XWI:Fn K mg "_law_with" C2 ["_law_rows","_law_at","_law_row"] fWI fdWI) (GWI:A8 P w K mg base B0 1 fWI fdWI ["_law_rows","_law_at","_law_row"] KG) {f:Addr} {fd:FuncData} (F:DT K "_law_broken" "_law_broken" B8 f fd):A8 P w K mg base B0 2 f fd ["_law_pen_here","_law_case_here","_law_paper"] (FP (fun p=>¬ p)):=by
 refine F.ok DM (fun vs H Q E h=>?_) (fun cdv A outer s H vs Q E hr h=>?_)
 ·obtain ⟨p,c,m,pp,o,t,T,n,xs,ws,Am,Al,x,d,ss,zs,qs,lv,rfl,_⟩:=h;rfl
 ·obtain ⟨p,c,m,pp,o,t,T,n,xs,ws,Am,Al,x,d,ss,zs,qs,lv,rfl,hP,pf,k⟩:=h;have nd:=DM.nd;have hu:=Dm hr;have big:100000 < sizeLine:=by decide
  obtain ⟨tlB,htB,rdB⟩:=U0 (P:=P) (w:=w) (K:=K) (mg:=mg) (base:=base) XWI GWI (f:=f) (cdv:=cdv) (A:=A) (outer:=outer) (s:=s) (H:=H) (E:=E) hr;refine ⟨_,(Af (Dd (pv 2) (AX K rfl rfl (Aj (Ai (i:=3) nd rfl (Or.inr rfl)) (Aj (Ai (i:=4) nd rfl (Or.inr rfl)) (Aj (Ai (i:=5) nd rfl (Or.inr rfl)) (Aj (Ai (i:=6) nd rfl (Or.inr rfl)) AW))))))
  (Af (Ax (i:=7) nd rfl (Or.inr rfl) (Bf (N:=["_law_place","_law_dues"]) (σ0:=fun _=>[none,none]) rfl (AF.plain (by decide +kernel) (by decide +kernel) rfl (by decide +kernel)) (fun σ _=>AU.none _ _ _ ["_law_place","_law_dues"] σ) (Bc K rfl (A3 (AE K rfl) (pv 1) Ag (fun _ _=>rfl)))
   (fun s2 H C fp=>⟨(AX K rfl (n:=2) rfl (Aj (Ai (i:=0) (show (["_law_place","_law_dues"]:List Str).Nodup by decide +kernel) rfl (Or.inl rfl)) (Aj (Ai (i:=1) (show (["_law_place","_law_dues"]:List Str).Nodup by decide +kernel) rfl (Or.inl rfl)) AW))),AO,(pv 0)⟩)))
  (Af (Ax (i:=8) nd rfl (Or.inl rfl) (A3 (Dk K rfl) (Bf (N:=["_law_place","_law_opening"]) (σ0:=fun σ=>[none,some 3].map fun j=>j.bind fun j=>(σ[j]?).join) rfl (AF.caught (by rfl) (by decide +kernel) rfl (by decide +kernel) (by intro y hy; simp only [eX,ff,or_false] at hy; rcases hy with rfl <;> rfl)
   (by intro y hy e; simp only [eX,ff,or_false] at hy; rcases hy with rfl | rfl | rfl <;> first | exact ⟨_,rfl⟩ | cases e)) (fun σ _=>AU.of [none,some 3] rfl (by
   intro i j x h1 h2;match i,h1,h2 with
   | 0,_,h2=>cases h2
   | 1,h1,h2=>cases h1; cases h2; exact ⟨rfl,.inl rfl,.inl rfl⟩
   | n + 2,h1,_=>cases h1)) (DZ K rfl (pv 7))
   (fun s2 H C fp=>⟨(Ai (i:=0) (show (["_law_place","_law_opening"]:List Str).Nodup by decide +kernel) rfl (Or.inl rfl)),(KW (B9 (Kk K rfl) (pv 0) (pv 1) (by rfl))),(pv 0)⟩)) Ag (fun _ _=>rfl)))
  (Af (Ax (i:=9) nd rfl (Or.inl rfl) (A3 (Dk K rfl) (Bf (N:=["_law_place","_law_sites"]) (σ0:=fun σ=>[none,some 7].map fun j=>j.bind fun j=>(σ[j]?).join) rfl (AF.caught (by rfl) (by decide +kernel) rfl (by decide +kernel) (by intro y hy; simp only [eX,ff,or_false] at hy; rcases hy with rfl <;> rfl)
   (by intro y hy e; simp only [eX,ff,or_false] at hy; rcases hy with rfl | rfl | rfl <;> first | exact ⟨_,rfl⟩ | cases e)) (fun σ _=>AU.of [none,some 7] rfl (by
   intro i j x h1 h2;match i,h1,h2 with
   | 0,_,h2=>cases h2
   | 1,h1,h2=>cases h1; cases h2; exact ⟨rfl,.inl rfl,.inl rfl⟩
   | n + 2,h1,_=>cases h1)) (Bc K rfl (A3 (AE K rfl) (A3 (AE K rfl) (pv 1) Ag (fun _ _=>rfl)) Ag (fun _ _=>rfl)))
   (fun s2 H C fp=>⟨(Ai (i:=0) (show (["_law_place","_law_sites"]:List Str).Nodup by decide +kernel) rfl (Or.inl rfl)),(KW (B9 (Kk K rfl) (pv 0) (pv 1) (by rfl))),(pv 0)⟩)) Ag (fun _ _=>rfl)))
  (Af (Ax (i:=10) nd rfl (Or.inr rfl) (An GT (hr.mono (by decide)) (by rfl) XT.mg XT.F.kp XT.b .nil A1 (Aa (pv 0) (Aa (Ao (Bx K rfl) (by rfl) h_len PySem.boot_len (Aa (pv 4) Ad)) Ad))))
  (Af (Ax (i:=11) nd rfl (Or.inl rfl) (B5 (Aa (Au (Aa (IH (pv 3) (R7 MW Ag)) (Aa (pv 4) (Aa (pv 5) (Aa (pv 6) Ad))))) (Aa (Au (Aa (Aw (BP K rfl) (B4 (Cs K rfl) (pv 3) BD (BC Ag)) (pv 3)) (Aa (pv 4) (Aa (pv 5) (Aa (pv 6) Ad))))) Ad))))
  (Af (C9 (F1 (La (A3 (AE K rfl) (pv 1) Ag (fun _ _=>rfl))))
  (Ak (Ax (i:=11) nd rfl (Or.inl rfl) (Aw G7 (pv 11) (B5 (Aa (Au (Aa (AQ (AS K rfl) (by rfl) h_tuple PyProof.Rows.boot_tuple (Aa (Ao Ej (by rfl) h_sorted PyProof.Rows.boot_sorted (Aa (Aw (BP K rfl) (pv 3) (Au (Aa (pv 9) Ad))) Ad)) Ad)) (Aa (pv 4) (Aa (pv 5) (Aa (pv 6) Ad))))) (Aa (Au (Aa (pv 3) (Aa (pv 4) (Aa (pv 5) (Aa Ag Ad))))) Ad))))))
  (Af (Ci (Ea PySem.F.plainAttrs_list PySem.F.slot_list_append PySem.F.type_list_append Bj (pv 11) (Aa (Au (Aa (AQ (AS K rfl) (by rfl) h_tuple PyProof.Rows.boot_tuple (Aa (Ao Ej (by rfl) h_sorted PyProof.Rows.boot_sorted (Aa (Aw (BP K rfl) (pv 3) (Au (Aa (pv 8) Ad))) Ad)) Ad)) (Aa (pv 4) (Aa (pv 5) (Aa (pv 6) Ad))))) Ad)))
  (Ak (Ci (Ea PySem.F.plainAttrs_list PySem.F.slot_list_append PySem.F.type_list_append Bj (pv 11) (Aa (Au (Aa (pv 3) (Aa (pv 4) (Aa (pv 5) (Aa (Aw EO (pv 6) Ag) Ad))))) Ad))))))
  htB))))))),?_⟩
  clear nd;have pg:=pf.pg;obtain ⟨us,ht,du⟩:=pg.wk;obtain ⟨pus,hTp,dp⟩:=pg.pr;obtain ⟨hz,hq,isop,zal,hlv,st⟩:=pf.ok;obtain ⟨t1,t2,Fl,FK,hc,Gf,FG,EV,hd2⟩:=pg.cw.ex;have ul:=EF du;have pl:=A5 dp;have OZ:=A5 FG;have zl:zs.length=Al.length:=by have:=congrArg gK hz; rwa [eU,eU] at this
  have ql:qs.length=Al.length:=by have:=congrArg gK hq; rwa [eU,eU] at this
  have m3:=pf.m3;have l2:=pg.cw.l2;have l1:=pg.cw.l1;have two:=pf.two;have snm:∀ s ∈ Am.map (·.1),s ∈ xs/\AA s=true:=fun s hs=>by
   obtain ⟨r,hr,e⟩:=fi.mp hs;have e':r.1=s:=e;rw [<-e'];exact ⟨pg.cw.ok1.sub r hr,pg.cw.map.at'.nm _ (pg.cw.ok1.sub r hr)⟩
  obtain ⟨n1,n2,wus,hm,hn1,aX,dw⟩:=pg.cw.map.at'.ex;have l3:=pf.l3;have l4:=pf.l4;have x6:=pf.x6;exists _,rfl,pp,_,rfl,Az.of pf.pap,rfl,_,_,rfl,_,_,rfl,_,_,rfl,_,_,rfl,rfl;exists _,rfl,c,_,_,_,rfl,rfl,Az.of hc,rfl,t1,rfl,⟨_,Az.of Gf⟩
  refine Bb Bm (xs:=Fl) (fun D i Av H' acc=>∃ v0 v1:Option V,Av=[v0,v1]/\Aq H H'/\H' D=some (.lst acc)/\acc=((Am.map (·.1)).take i).map V.str/\acc.length=i)
   (by lia) (fun D hD=>⟨_,_,rfl,Ac hD,Ab,rfl,rfl⟩) (fun D i Av H' acc hD ⟨v0,v1,_,sa,AR,_,al⟩=>⟨Az.of (sa _ _ Gf),AR,al⟩) ?_ ?_
  ·rintro D i Av H' acc x' B hD ex ⟨v0,v1,rfl,sa,AR,ea,al⟩ hB;obtain ⟨q,tt,eq,rfl,htt⟩:=Bn FG ex;exists tt,_,rfl,Az.of (sa _ _ htt),rfl,_,_,rfl,_,_,rfl,rfl;refine ⟨_,rfl,hB _ _ _ AR ⟨_,_,rfl,fun b o e=>by rw [Ae (Ah e hD)]; exact sa _ _ e,Ab,?_,by rw [eY,al]; rfl⟩⟩;rw [ea,fQ,eZ,eq,fg];rfl
  rintro D Av H1 Xq hD ⟨v0,v1,rfl,s1,AR,ea,_⟩;rw [ea,OZ,gZ (by rw [eU]; exact fc _)] at AR;have snd:(Am.map (·.1)).Nodup:=pg.cw.ok1.nd;exists _,rfl,D,rfl,⟨_,Ba.of AR⟩
  refine EM C4 (xs:=(Am.map (·.1)).map V.str) (fun E j Av H' acc=>∃ v0:Option V,Av=[v0,some (.ref o)]/\Aq H1 H'/\H' E=some (.lst acc)/\acc=(((Am.map (·.1)).take j).filter fun s=>!decide (s ∈ ss)).map V.str/\acc.length<=j)
   (by simp only [eU]; lia) (fun E hE=>⟨_,rfl,Ac hE,Ab,rfl,fc _⟩)
   (fun E j Av H' acc hE ⟨v0,_,sa,hEE,_,al⟩=>⟨Ba.of (sa _ _ AR),hEE,al⟩) ?_ ?_
  ·rintro E j Av H' acc x' B N hE ex ⟨v0,rfl,sa,hEE,ea,al⟩ hB hN;obtain ⟨y,ey,rfl⟩:∃ y,(Am.map (·.1))[j]? = some y/\x'=.str y:=by
    rw [eZ] at ex;cases z:(Am.map (·.1))[j]? with
    | none=>rw [z] at ex; cases ex
    | some y=>rw [z] at ex; exact ⟨y,rfl,(fV.inj ex).symm⟩
   exists _,rfl,_,rfl,o,_,rfl,.inr (Az.of (sa _ _ (s1 _ _ pg.op))),rfl,GS _,_,rfl;rw [Jd];refine DP (fun hz=>?_) (fun hz=>?_)
   ·exists _,rfl;refine hB _ _ _ hEE ⟨_,rfl,fun b o' z=>by rw [Ae (Ah z hE)]; exact sa _ _ z,Ab,?_,by rw [eY]; show _ + 1<=_; lia⟩;rw [ea,fQ,ey,iK,fg];simp only [jr,iq,hz,if_true,jg,fU,ir]
   ·refine hN _ _ ⟨_,rfl,sa,hEE,?_,by lia⟩;rw [ea,fQ,ey,iK,fg];have SW:(!decide (y ∈ ss))=false:=by simpa using hz
    simp only [jr,iq,SW,gx,if_false,jg,ir,iG]
  rintro E1 Av H2 Xq hE1 ⟨v0,rfl,s2,V4,ZZ,_⟩;rw [eU,fZ] at ZZ;obtain ⟨sh,shl,esh⟩:∃ y l,(Am.map (·.1)).filter (fun s=>!decide (s ∈ ss))=y :: l:=by
   cases hf:(Am.map (·.1)).filter (fun s=>!decide (s ∈ ss)) with
   | cons y l=>exact ⟨y,l,rfl⟩
   | nil=>
    rw [jR] at hf;exact absurd (show Am.length<=ss.length by have h:=List.Nodup.length_le_of_subset snd (l₂:=ss) (fun s hs=>by simpa using hf s hs); rwa [eU] at h) (by lia)
  have shm:=ib.mp (show sh ∈ (Am.map (·.1)).filter (fun s=>!decide (s ∈ ss)) by rw [esh]; exact fX);have sho:sh ∉ ss:=by simpa using shm.2
  rw [ZZ,esh] at V4;exists E1,_,_,.str sh,rfl,rfl,Ba.of V4,BF (j:=0) rfl;have Y9:=s1.trans s2;exists _,rfl,c,_,_,_,rfl,rfl,Az.of (Y9 _ _ hc),rfl,m,_,_,_,rfl,rfl,Az.of (Y9 _ _ hm),rfl,n1,rfl,⟨_,Az.of (Y9 _ _ hn1)⟩
  refine EM Bm (xs:=(xs).map V.str) (fun E j Av H' acc=>∃ v0:Option V,Av=[v0,some (.ref D)]/\Aq H2 H'/\H' E=some (.lst acc)/\acc=(((xs).take j).filter fun s=>!decide (s ∈ Am.map (·.1))).map V.str/\acc.length<=j)
   (by simp only [eU]; lia) (fun E hE=>⟨_,rfl,Ac hE,Ab,rfl,fc _⟩)
   (fun E j Av H' acc hE ⟨v0,_,sa,hEE,_,al⟩=>⟨Az.of (sa _ _ (Y9 _ _ hn1)),hEE,al⟩) ?_ ?_
  ·rintro E j Av H' acc x' B N hE ex ⟨v0,rfl,sa,hEE,ea,al⟩ hB hN;obtain ⟨y,ey,rfl⟩:∃ y,(xs)[j]? = some y/\x'=.str y:=by
    rw [eZ] at ex;cases z:(xs)[j]? with
    | none=>rw [z] at ex; cases ex
    | some y=>rw [z] at ex; exact ⟨y,rfl,(fV.inj ex).symm⟩
   exists _,rfl,_,rfl,D,_,rfl,.inl (Ba.of (sa _ _ (s2 _ _ AR))),rfl,GS _,_,rfl;rw [Jd];refine DP (fun hz=>?_) (fun hz=>?_)
   ·exists _,rfl;refine hB _ _ _ hEE ⟨_,rfl,fun b o' z=>by rw [Ae (Ah z hE)]; exact sa _ _ z,Ab,?_,by rw [eY]; show _ + 1<=_; lia⟩;rw [ea,fQ,ey,iK,fg];simp only [jr,iq,hz,if_true,jg,fU,ir]
   ·refine hN _ _ ⟨_,rfl,sa,hEE,?_,by lia⟩;rw [ea,fQ,ey,iK,fg];have SW:(!decide (y ∈ Am.map (·.1)))=false:=by simpa using hz
    simp only [jr,iq,SW,gx,if_false,jg,ir,iG]
  rintro E2 Av H3 acc2 hE2 ⟨v0,rfl,s3,V3,ZY,_⟩;rw [eU,fZ] at ZY;obtain ⟨ba,bal,eba⟩:∃ y l,(xs).filter (fun s=>!decide (s ∈ Am.map (·.1)))=y :: l:=by
   cases hf:(xs).filter (fun s=>!decide (s ∈ Am.map (·.1))) with
   | cons y l=>exact ⟨y,l,rfl⟩
   | nil=>
    rw [jR] at hf;exact absurd (show xs.length<=Am.length by have h:=List.Nodup.length_le_of_subset pg.cw.map.at'.nd (l₂:=Am.map (·.1)) (fun s hs=>by have:=hf s hs; simpa using this); rwa [eU] at h) (by lia)
  have bam:=ib.mp (show ba ∈ (xs).filter (fun s=>!decide (s ∈ Am.map (·.1))) by rw [eba]; exact fX);have bao:ba ∉ Am.map (·.1):=by simpa using bam.2
  rw [ZY,eba] at V3;exists E2,_,_,.str ba,rfl,rfl,Ba.of V3,BF (j:=0) rfl;have bZ:=Y9.trans s3;have banb:=pg.cw.map.at'.nm _ bam.1;have P3:=hP.same bZ;refine ⟨_,rfl,_,rfl,t,_,rfl,.inr (Az.of (bZ _ _ ht)),p,_,rfl,P3,by lia,Gd (by lia),fun e a5 b5 c5 e0 e1=>?_⟩;obtain ⟨i,rfl⟩:∃ i:Nat,e=(i:Int):=⟨e.toNat,by lia⟩
  have P5:AG (upd H3 p (.lst (AK a5 b5 c5))) p:=AG.set _ _ _;have Yf:AM p H3 (upd H3 p (.lst (AK a5 b5 c5))):=AM.upd;generalize upd H3 p (.lst (AK a5 b5 c5))=H5 at P5 Yf ⊢;have cI:AM p H H5:=(AM.of_same bZ).trans Yf;have tk5:=KA hP cI;have PL:=pf.keepT tk5;have hc5:=tk5 _ _ hc;have SH5:=Aq.refl H5;refine ⟨_,rfl,o,_,rfl,Az.of PL.pg.op,fun r1 hr1=>?_⟩;have sR1:=Ac (o:=.tup (ss.map V.str).reverse) hr1;have hR1:(upd H5 r1 (.tup (ss.map V.str).reverse)) r1=some (.tup (ss.map V.str).reverse):=Ab;have NP:=SH5.trans sR1;generalize upd H5 r1 (.tup (ss.map V.str).reverse)=Yx at sR1 hR1 NP ⊢;refine ⟨_,rfl,_,rfl,_,rfl,(by show 4<=sizeLine; lia),fun p1 WS=>?_⟩;have Yg:=(((PL.pg.same NP).open' (ss':=ss.reverse) (by rw [iC]; exact hR1) (by rw [gW]; exact pg.sl) fun s hs=>pg.sh s (iW.mp hs))).pap (G:=(fun p=>¬ p)) (fun ok=>Wt isop two ok.2.2.1) WS;have sp1:=Ac (o:=.tup [.ref r1,.ref t,.ref T,.int lv]) WS;have NO:=NP.trans sp1;generalize upd Yx p1 (.tup [.ref r1,.ref t,.ref T,.int lv])=ar at Yg sp1 NO ⊢;refine ⟨_,rfl,_,rfl,Pn (i:=1) (NO _ _ PL.pg.op) (by rw [eU]; lia) fun Z2 HZ2 sZ2 hZ2=>?_⟩;have ae:=NO.trans sZ2;exists _,rfl;refine Jq (K:=K) hZ2 (ae _ _ PL.pg.op) (by rw [fJ,eU]; lia) fun X2 HX2 sX2 hX2=>?_
  have ah:=ae.trans sX2;refine ⟨_,rfl,_,rfl,_,rfl,(by show 4<=sizeLine; lia),fun p2 aW=>?_⟩;have aQ:=(((PL.pg.same ah).open' (ss':=ss.take 1 ++ ss) (by rw [hX2,fg,ie]) (by rw [eY,fJ]; lia) fun s hs=>pg.sh s ((fq.mp hs).elim gU id))).pap (G:=(fun p=>¬ p)) (fun ok=>Xm two ok.2.2.1) aW;have bP:=Ac (o:=.tup [.ref X2,.ref t,.ref T,.int lv]) aW;have ML:=ah.trans bP;generalize upd HX2 p2 (.tup [.ref X2,.ref t,.ref T,.int lv])=bF at aQ bP ML ⊢;refine ⟨(by show 2<=sizeLine; lia),fun L hL=>?_⟩;have frL:H5 L=none:=ML.free hL;have sL:=Ac (o:=.lst [.ref p1,.ref p2]) hL;have hLL:(upd bF L (.lst [.ref p1,.ref p2])) L=some (.lst [.ref p1,.ref p2]):=Ab;have MK:=ML.trans sL;generalize upd bF L (.lst [.ref p1,.ref p2])=Yw at sL hLL MK ⊢;have paL:∀ u ∈ [V.ref p1,.ref p2],HY c m n xs ws Am Al x d (fun p=>¬ p) Yw u:=fun u hu=>by
   rcases eX.mp hu with rfl | hu
   ·exact Yg.keepT fun b ys z=>sL _ _ (bP _ _ (sX2 _ _ (sZ2 _ _ z)))
   ·rw [fo.mp hu];exact aQ.keepT fun b ys z=>sL _ _ z
  exists _,rfl,c,_,_,_,rfl,rfl,Az.of (MK _ _ hc5),rfl,_,rfl;by_cases z0:x=.non
  ·rw [decide_eq_true z0];refine CS ?_;refine ⟨_,rfl,_,rfl,_,rfl,(by show 1<=sizeLine; lia),fun Y3 hY3=>?_⟩;have Wj:=Ac (o:=.tup [.str ba]) hY3;have Z4:(upd Yw Y3 (.tup [.str ba])) Y3=some (.tup [.str ba]):=Ab;have Q4:=MK.trans Wj;generalize upd Yw Y3 (.tup [.str ba])=eN at Wj Z4 Q4 ⊢;refine Jq (K:=K) (Q4 _ _ PL.pg.op) Z4 (by rw [eU]; show _ + 1<=sizeLine; lia) fun X3 HX3 sX3 hX3=>?_
   have eE:=Q4.trans sX3;refine ⟨X3,ss ++ [ba],rfl,by rw [hX3,fg]; rfl,by rw [eY]; show _ + 1 < 64; lia,fun l3 UT hl3 cy=>⟨l3,_,rfl,.inl ⟨Ba.of Ab,fun o3 ho3=>?_⟩⟩⟩;have Wd:=(Ac (o:=.lst (UT.map V.str)) hl3).trans (Ac (o:=.tup (UT.map V.str)) ho3);have Zs:(upd (upd HX3 l3 (.lst (UT.map V.str))) o3 (.tup (UT.map V.str))) o3=some (.tup (UT.map V.str)):=Ab;have NM:=eE.trans Wd;generalize upd (upd HX3 l3 (.lst (UT.map V.str))) o3 (.tup (UT.map V.str))=aq at Wd Zs NM ⊢;have Y7:=cy.length_eq;rw [eY] at Y7;have sol31:UT.length=3:=by rw [Y7,two]; rfl
   refine ⟨_,rfl,_,rfl,_,rfl,(by show 4<=sizeLine; lia),fun p3 Zo=>?_⟩;have hv3:=(((PL.pg.same NM).open' Zs (by lia) fun s hs=>(fq.mp (cy.mem_iff.mp hs)).elim (pg.sh s) fun h=>by rw [fo.mp h]; exact gc (Cv banb) (by decide))).pap (G:=(fun p=>¬ p)) (fun ok=>bao (ok.2.2.1.mem ba (cy.mem_iff.mpr (fm _ (fo.mpr rfl))))) Zo;have bO:=Ac (o:=.tup [.ref o3,.ref t,.ref T,.int lv]) Zo;have MJ:=NM.trans bO;generalize upd aq p3 (.tup [.ref o3,.ref t,.ref T,.int lv])=Yv at hv3 bO MJ ⊢;refine ⟨_,rfl,_,rfl,_,rfl,(by show 4<=sizeLine; lia),fun p4 Zn=>?_⟩;have hv4:=(((PL.pg.same MJ).levy' (lv':=1) (by decide))).pap (G:=(fun p=>¬ p)) (fun ok=>absurd (ok.2.2.2.2.1 z0) (by decide)) Zn;have aA:=Ac (o:=.tup [.ref o,.ref t,.ref T,.int 1]) Zn;have Q3:=MJ.trans aA;generalize upd Yv p4 (.tup [.ref o,.ref t,.ref T,.int 1])=eM at hv4 aA Q3 ⊢;refine ⟨(by show 2<=sizeLine; lia),fun M hM=>?_⟩;have sM:=Ac (o:=.lst [.ref p3,.ref p4]) hM;have ZK:(upd eM M (.lst [.ref p3,.ref p4])) M=some (.lst [.ref p3,.ref p4]):=Ab;have SK:=Q3.trans sM;generalize upd eM M (.lst [.ref p3,.ref p4])=Yu at sM ZK SK ⊢;have sall:=(Wj.trans sX3).trans ((Wd.trans bO).trans (aA.trans sM));refine ⟨L,M,_,_,rfl,rfl,sall _ _ hLL,ZK,(by show 2 + 2<=sizeLine; lia),fun L2 Sq=>?_⟩;have Ow:=Ac (o:=.lst ([.ref p1,.ref p2] ++ [.ref p3,.ref p4])) Sq;have ZM:(upd Yu L2 (.lst ([.ref p1,.ref p2] ++ [.ref p3,.ref p4]))) L2=some (.lst ([.ref p1,.ref p2] ++ [.ref p3,.ref p4])):=Ab;have JR:=SK.trans Ow;generalize upd Yu L2 (.lst ([.ref p1,.ref p2] ++ [.ref p3,.ref p4]))=bE at Ow ZM JR ⊢;have c0:∀ u ∈ [V.ref p1,.ref p2] ++ [.ref p3,.ref p4],HY c m n xs ws Am Al x d (fun p=>¬ p) bE u:=fun u hu=>by
    rcases fq.mp hu with hu | hu
    ·exact Bs paL (sall.trans Ow) u hu
    ·rcases eX.mp hu with rfl | hu
     ·exact hv3.keepT fun b ys z=>Ow _ _ (sM _ _ (aA _ _ z))
     ·rw [fo.mp hu];exact hv4.keepT fun b ys z=>Ow _ _ (sM _ _ z)
   exact rdB _ _ c m pp o t T L2 n xs ws Am Al x d ss zs qs lv sh ba i _ _ _ _ _ _ (PL.keepT fun b ys z=>JR _ _ z) sho (snm sh shm.1).2 (fun h=>bao (isop.mem _ h)) banb (by lia) ZM c0 (by show 4<=10; lia) fun H' L' LA sH Yn Xb W6 RV=>k H' L' LA ((P5.same JR).same sH) (cI.trans (AM.of_same (JR.trans sH))) ((P5.same JR).ne Yn) Xb W6 RV
  ·rw [decide_eq_false z0];refine BO ?_;have x2:x=.int 2:=pf.lim.resolve_left z0;have less:AN ws Am Al qs (lv - 1)=false:=by
    have hiq:0 < qs.length:=by lia
    have eq:=eR hiq;obtain ⟨rr,er,_⟩:=JS.at ⟨hq,pg.lo⟩ eq;exact Nb er eq (pf.full 0 _ hiq eq)
   refine ⟨_,rfl,.inl ⟨rfl,_,Ba.of hLL⟩,_,rfl,_,rfl,(by show 1<=sizeLine; lia),fun Y5 hY5=>?_⟩;have Wi:=Ac (o:=.tup [.str sh]) hY5;have Z0:(upd Yw Y5 (.tup [.str sh])) Y5=some (.tup [.str sh]):=Ab;have NL:=MK.trans Wi;generalize upd Yw Y5 (.tup [.str sh])=H31 at Wi Z0 NL ⊢;refine Jq (K:=K) (NL _ _ PL.pg.op) Z0 (by rw [eU]; show _ + 1<=sizeLine; lia) fun X5 HX5 sX5 Z5=>?_
   have eD:=NL.trans sX5;refine ⟨X5,ss ++ [sh],rfl,by rw [Z5,fg]; rfl,by rw [eY]; show _ + 1 < 64; lia,fun l5 US aZ pm5=>⟨l5,_,rfl,.inl ⟨Ba.of Ab,fun o5 ho5=>?_⟩⟩⟩;have Wc:=(Ac (o:=.lst (US.map V.str)) aZ).trans (Ac (o:=.tup (US.map V.str)) ho5);have Zr:(upd (upd HX5 l5 (.lst (US.map V.str))) o5 (.tup (US.map V.str))) o5=some (.tup (US.map V.str)):=Ab;have Q2:=eD.trans Wc;generalize upd (upd HX5 l5 (.lst (US.map V.str))) o5 (.tup (US.map V.str))=bD at Wc Zr Q2 ⊢;have Y6:=pm5.length_eq;rw [eY] at Y6;have Y4:US.length=3:=by rw [Y6,two]; rfl
   refine ⟨_,rfl,_,rfl,_,rfl,(by show 4<=sizeLine; lia),fun p5 hp5=>?_⟩;have hv5:=(((PL.pg.same Q2).open' Zr (by lia) fun s hs=>(fq.mp (pm5.mem_iff.mp hs)).elim (pg.sh s) fun h=>by rw [fo.mp h]; exact gc (Cv (snm sh shm.1).2) (by decide))).pap (G:=(fun p=>¬ p)) (fun ok=>by have h:=ok.2.2.1.lim; rw [Y4,x2] at h; exact absurd h (by decide)) hp5;have bN:=Ac (o:=.tup [.ref o5,.ref t,.ref T,.int lv]) hp5;have Q0:=Q2.trans bN;generalize upd bD p5 (.tup [.ref o5,.ref t,.ref T,.int lv])=X1 at hv5 bN Q0 ⊢;have UW:=(Wi.trans sX5).trans (Wc.trans bN);have aZ:=UW _ _ hLL;exists L,_,_,rfl,rfl,aZ,(by show 2 < sizeLine; lia)
   have pa5:=Cf (ys:=[V.ref p1,.ref p2] ++ [.ref p5]) paL UW aZ hv5;have Qz:Aq H5 (upd X1 L (.lst ([V.ref p1,.ref p2] ++ [.ref p5]))):=fun b o' e=>by rw [Ae (Ah e frL)]; exact Q0 _ _ e
   have Z5:(upd X1 L (.lst ([V.ref p1,.ref p2] ++ [.ref p5]))) L=some (.lst ([V.ref p1,.ref p2] ++ [.ref p5])):=Ab;generalize upd X1 L (.lst ([V.ref p1,.ref p2] ++ [.ref p5]))=bC at pa5 Qz Z5 ⊢;refine ⟨_,rfl,.inl ⟨rfl,_,Ba.of Z5⟩,_,rfl,_,rfl,_,rfl,_,rfl,_,_,rfl,rfl,(by show 4<=sizeLine; lia),fun p6 Vr=>?_⟩;have hv6:=(((PL.pg.same Qz).levy' (lv':=lv - 1) (by have:=pf.pos x2; lia))).pap (G:=(fun p=>¬ p)) (fun ok=>by have h:=ok.2.2.2.2.2; rw [less] at h; cases h) Vr;have az:=Ac (o:=.tup [.ref o,.ref t,.ref T,.int (lv - 1)]) Vr;have ai:=Qz.trans az;generalize upd bC p6 (.tup [.ref o,.ref t,.ref T,.int (lv - 1)])=eL at hv6 az ai ⊢;have hl6:=az _ _ Z5;exists L,_,_,rfl,rfl,hl6,(by show 3 < sizeLine; lia)
   have Yc:=Cf (ys:=([V.ref p1,.ref p2] ++ [.ref p5]) ++ [.ref p6]) pa5 az hl6 hv6;have SJ:Aq H5 (upd eL L (.lst (([V.ref p1,.ref p2] ++ [.ref p5]) ++ [.ref p6]))):=fun b o' e=>by rw [Ae (Ah e frL)]; exact ai _ _ e
   have hX6:(upd eL L (.lst (([V.ref p1,.ref p2] ++ [.ref p5]) ++ [.ref p6]))) L=some (.lst (([V.ref p1,.ref p2] ++ [.ref p5]) ++ [.ref p6])):=Ab;generalize upd eL L (.lst (([V.ref p1,.ref p2] ++ [.ref p5]) ++ [.ref p6]))=H36 at Yc SJ hX6 ⊢;exact rdB _ _ c m pp o t T L n xs ws Am Al x d ss zs qs lv sh ba i _ _ _ _ _ _ (PL.keepT fun b ys z=>SJ _ _ z) sho (snm sh shm.1).2 (fun h=>bao (isop.mem _ h)) banb (by lia) hX6 Yc (by show 4<=10; lia) fun H' L' LA sH Yn Xb W6 RV=>k H' L' LA ((P5.same SJ).same sH) (cI.trans (AM.of_same (SJ.trans sH))) ((P5.same SJ).ne Yn) Xb W6 RV
end
section
variable {P:Program} {w:World} {K:eV} {mg:Str->Option Value} {base:Heap}
theorem LW (K:eV) {X:Cx} (h:X.K=K):SlR X (rSlL K):=by subst h; exact Tv
theorem Lg (h_sorted:mg "sorted"=none) (h_tuple:mg "tuple"=none) {fT:Addr} {fdT:FuncData} (XT:Fn K mg "_law_take" Bw ["_law_pen_here","_law_many"] fT fdT) (GT:A8 P w K mg base B0 1 fT fdT ["_law_pen_here","_law_many"] D5) {fN:Addr} {fdN:FuncData} (XN:Fn K mg "_law_names" DC ["_law_pen_here","_law_many"] fN fdN) (GN:A8 P w K mg base B0 2 fN fdN ["_law_pen_here","_law_many"] LU) {fW:Addr} {fdW:FuncData} (XW:Fn K mg "_law_ways" Ck ["_law_pen_here","_law_names_here","_law_kind"] fW fdW) (GW:A8 P w K mg base B0 2 fW fdW ["_law_pen_here","_law_names_here","_law_kind"] Of) {f:Addr} {fd:FuncData} (F:DT K "_law_built" "_law_built" DE f fd):A8 P w K mg base B0 3 f fd ["_law_pen_here","_law_limit"] Ot:=by
 refine F.ok FU (fun vs H Q E h=>?_) (fun cdv A outer s H vs Q E hr h=>?_)
 ·obtain ⟨p,x,rfl,_⟩:=h;rfl
 ·obtain ⟨p,x,rfl,hP,hx,k⟩:=h;have nd:=FU.nd;have big:100000 < sizeLine:=by decide
  refine ⟨_,(Af (Ax (i:=2) nd rfl (Or.inl rfl) (An GN (hr.mono (by decide)) (by rfl) XN.mg XN.F.kp XN.b .nil A1 (Aa (pv 0) (Aa Ag Ad))))
  (Af (Ax (i:=3) nd rfl (Or.inl rfl) (An GW (hr.mono (by decide)) (by rfl) XW.mg XW.F.kp XW.b .nil A1 (Aa (pv 0) (Aa (pv 2) (Aa (An GT (hr.mono (by decide)) (by rfl) XT.mg XT.F.kp XT.b .nil A1 (Aa (pv 0) (Aa Ag Ad))) Ad)))))
  (Af (Ax (i:=4) nd rfl (Or.inl rfl) (Aw Bg Ag (An GT (hr.mono (by decide)) (by rfl) XT.mg XT.F.kp XT.b .nil A1 (Aa (pv 0) (Aa Ag Ad)))))
  (Af (Ax (i:=5) nd rfl (Or.inl rfl) (Ao (Dt K rfl) (by rfl) h_sorted PyProof.Rows.boot_sorted (Aa (Bf (N:=["_law_place","_law_pen_here"]) (σ0:=fun σ=>[none,some 0].map fun j=>j.bind fun j=>(σ[j]?).join) rfl (AF.caught (by rfl) (by decide +kernel) rfl (by decide +kernel) (by intro y hy; simp only [eX,ff,or_false] at hy; rcases hy with rfl <;> rfl)
   (by intro y hy e; simp only [eX,ff,or_false] at hy; rcases hy with rfl | rfl | rfl | rfl <;> first | exact ⟨_,rfl⟩ | cases e)) (fun σ _=>AU.of [none,some 0] rfl (by
   intro i j x h1 h2;match i,h1,h2 with
   | 0,_,h2=>cases h2
   | 1,h1,h2=>cases h1; cases h2; exact ⟨rfl,.inl rfl,.inl rfl⟩
   | n + 2,h1,_=>cases h1)) (DZ K rfl (B4 (LW K rfl) (pv 2) BD (BC (pv 4))))
   (fun s2 H C fp=>⟨(Ai (i:=0) (show (["_law_place","_law_pen_here"]:List Str).Nodup by decide +kernel) rfl (Or.inl rfl)),AO,(Au (Aa (pv 0) (Aa (An GT (hr.mono (by decide)) (by rfl) XT.mg XT.F.kp XT.b .nil A1 (Aa (pv 1) (Aa Ag Ad))) Ad)))⟩)) Ad)))
  (Af (Ax (i:=6) nd rfl (Or.inl rfl) (Ao (Dt K rfl) (by rfl) h_sorted PyProof.Rows.boot_sorted (Aa (Bf (N:=["_law_place","_law_pen_here"]) (σ0:=fun σ=>[none,some 0].map fun j=>j.bind fun j=>(σ[j]?).join) rfl (AF.caught (by rfl) (by decide +kernel) rfl (by decide +kernel) (by intro y hy; simp only [eX,ff,or_false] at hy; rcases hy with rfl <;> rfl)
   (by intro y hy e; simp only [eX,ff,or_false] at hy; rcases hy with rfl | rfl | rfl | rfl <;> first | exact ⟨_,rfl⟩ | cases e)) (fun σ _=>AU.of [none,some 0] rfl (by
   intro i j x h1 h2;match i,h1,h2 with
   | 0,_,h2=>cases h2
   | 1,h1,h2=>cases h1; cases h2; exact ⟨rfl,.inl rfl,.inl rfl⟩
   | n + 2,h1,_=>cases h1)) (DZ K rfl (B4 (LW K rfl) (pv 2) (BC (Aw EO Ag (pv 4))) BD))
   (fun s2 H C fp=>⟨(Ai (i:=0) (show (["_law_place","_law_pen_here"]:List Str).Nodup by decide +kernel) rfl (Or.inl rfl)),AO,(Au (Aa (pv 0) (Aa (Aw Bg Ag (An GT (hr.mono (by decide)) (by rfl) XT.mg XT.F.kp XT.b .nil A1 (Aa (pv 1) (Aa Ag Ad)))) Ad)))⟩)) Ad)))
  (Ak (A7 (Au (Aa (Au (Aa (AQ (AS K rfl) (by rfl) h_tuple PyProof.Rows.boot_tuple (Aa (Ao Ek (by rfl) h_sorted PyProof.Rows.boot_sorted (Aa (pv 2) Ad)) Ad)) (Aa (pv 3) Ad))) (Aa (AQ (AS K rfl) (by rfl) h_tuple PyProof.Rows.boot_tuple (Aa (pv 5) Ad)) (Aa (AQ (AS K rfl) (by rfl) h_tuple PyProof.Rows.boot_tuple (Aa (pv 6) Ad)) (Aa (pv 1) Ad)))))))))))),?_⟩
  refine ⟨_,rfl,p,6,rfl,hP,by decide,fun H1 D xs P1 k1 hDn hD xl xnd xnm xnz=>?_⟩;have nDp:D ≠ p:=hP.ne hDn;refine ⟨_,rfl,_,rfl,_,rfl,p,3,rfl,P1,by decide,Gd (by decide),fun d1 a2 b2 c2 et ef=>?_⟩;have P2:AG (upd H1 p (.lst (AK a2 b2 c2))) p:=AG.set _ _ _;have cF:AM p H1 (upd H1 p (.lst (AK a2 b2 c2))):=AM.upd;generalize upd H1 p (.lst (AK a2 b2 c2))=H2 at P2 cF ⊢;have Q9:=cF _ _ nDp hD;refine ⟨p,D,xs,d1,rfl,P2,Q9,nDp,xnd,xnm,by lia,by lia,fun H3 T us ws Gv P3 k3 hT dus wp wc w9 wl=>?_⟩;have Xd:=k3 _ _ nDp Q9;refine ⟨_,rfl,p,2,rfl,P3,by decide,Gd (by decide),fun d2 a4 b4 c4 d20 d21=>⟨_,_,rfl,rfl,?_⟩⟩;have P4:AG (upd H3 p (.lst (AK a4 b4 c4))) p:=AG.set _ _ _;have aN:AM p H3 (upd H3 p (.lst (AK a4 b4 c4))):=AM.upd;generalize upd H3 p (.lst (AK a4 b4 c4))=H4 at P4 aN ⊢;have dO:=aN _ _ nDp Xd;have t4:=KA P3 aN;obtain ⟨mm,emm,mm3,mm4⟩:∃ mm:Nat,(3:Int) + d2=(mm:Int)/\3<=mm/\mm<=4:=⟨(3 + d2).toNat,by lia,by lia,by lia⟩
  have xl':(xs.map V.str).length=6:=by rw [eU]; exact xl
  refine ⟨_,rfl,_,rfl,_,rfl,D,_,rfl,Ba.of dO,fun Ca hCa=>?_⟩;have ecut:HU (xs.map V.str) none (some (3 + d2))=(xs.take mm).map V.str:=by rw [emm,S9 _ mm (by lia),ie]
  rw [ecut];have sCa:=Ac (o:=.lst ((xs.take mm).map V.str)) hCa;have hCCa:(upd H4 Ca (.lst ((xs.take mm).map V.str))) Ca=some (.lst ((xs.take mm).map V.str)):=Ab;have Pa:=P4.same sCa;have nCa:Ca ≠ p:=P4.ne hCa;generalize upd H4 Ca (.lst ((xs.take mm).map V.str))=Ha at sCa hCCa Pa ⊢;have tla:(xs.take mm).length=mm:=by rw [fJ]; lia
  exists Ca,rfl,⟨_,Ba.of hCCa⟩
  refine Bb C4 (xs:=(xs.take mm).map V.str) (fun D i σ H' acc=>∃ (v:Option V) (rs:List AI),σ=[v,some (.ref p)]/\AG H' p/\(∀ b o,b ≠ p->Ha b=some o->H' b=some o)/\H' D=some (.lst acc)/\A2 H' acc (rs.map Ce)/\acc.length=i/\rs.map (·.1)=(xs.take mm).take i/\∀ r ∈ rs,0<=r.2/\r.2<=8)
   (by rw [eU]; lia) (fun D hD=>⟨_,[],rfl,Pa.other (Pa.ne hD),fun b o hb e=>Ac hD _ _ e,Ab,.nil,rfl,rfl,fun r hr=>(nomatch hr)⟩)
   (fun D i σ H' acc hD ⟨v,rs,_,_,kp,AR,_,al,_⟩=>⟨Ba.of (kp _ _ nCa hCCa),AR,al⟩) ?_ ?_
  ·rintro D i σ H' acc x' B hD ex ⟨v,rs,rfl,P2,k2,d2,dd,al,rt,rl⟩ hB;obtain ⟨y,ey,rfl⟩:∃ y,(xs.take mm)[i]? = some y/\x'=.str y:=by
    rw [eZ] at ex;cases z:(xs.take mm)[i]? with
    | none=>rw [z] at ex; cases ex
    | some y=>rw [z] at ex; exact ⟨y,rfl,(fV.inj ex).symm⟩
   have nD:D ≠ p:=Pa.ne hD;refine ⟨_,rfl,_,rfl,p,9,rfl,P2,by decide,Gd (by decide),fun l' a b c la lb=>?_⟩;have hl:0<=l'/\l'<=8:=⟨by lia,by lia⟩
   refine ⟨(by show 2<=sizeLine; lia),fun T hT=>?_⟩;have d3:(upd (upd H' p (.lst (AK a b c))) T (.tup [.str y,.int (l')])) D=some (.lst acc):=Ac hT _ _ (by rw [Ae nD]; exact d2);have nT:T ≠ D:=by intro z; subst z; rw [Ae nD,d2] at hT; cases hT
   have nTp:T ≠ p:=(AG.set (H:=H') (p:=p) a b c).ne hT;refine hB _ _ _ d3 ⟨_,rs ++ [(y,l')],rfl,((AG.set a b c).other nTp).other nD,fun b' o hb e=>?_,Ab,?_,by rw [eY,al]; rfl,?_,fun r hr=>?_⟩
   ·rw [Ae (Ah e hD)];exact Ac hT _ _ (by rw [Ae hb]; exact k2 b' o hb e)
   ·rw [fg];refine BK (AH dd fun b' ys e=>?_) (.cons (DI (u:=(y,l')) (by rw [Ae nT]; exact Ab)) .nil);rw [Ae (by intro z; subst z; rw [d2] at e; cases e)];exact Ac hT _ _ (by rw [Ae (by intro z; subst z; obtain ⟨_,_,_,z⟩:=P2; rw [z] at e; cases e)]; exact e)
   ·rw [fg,rt,fQ,ey];rfl
   ·rcases fq.mp hr with hr | hr
    ·exact rl r hr
    ·rw [fo] at hr;subst hr;exact hl
  rintro Sa σa HSa usa hSa ⟨va,rsa,rfl,PSa,kSa,dSa,dda,ala,rta,rla⟩;rw [eU,fZ] at rta;have rlena:rsa.length=(xs.take mm).length:=by
   have:=congrArg gK rta;rwa [eU] at this
  have nSa:Sa ≠ p:=Pa.ne hSa;refine ⟨Sa,usa,rsa,rfl,Ba.of dSa,dda,(by have:=A5 dda; lia),fun la wsa rra hla ddda pmsa risa=>?_⟩;have sa:=Ac (o:=.lst wsa) hla;have hLLa:(upd HSa la (.lst wsa)) la=some (.lst wsa):=Ab;have PTa:=PSa.same sa;have dTa:A2 (upd HSa la (.lst wsa)) wsa (rra.map Ce):=AH ddda (fun b ys z=>sa _ _ z);generalize upd HSa la (.lst wsa)=HTa at sa hLLa PTa dTa;have nla:la ≠ p:=PSa.ne hla;have qTa:AM p Ha HTa:=fun b o hb e=>sa _ _ (kSa b o hb e)
  have ten:(10:Int) < 10 ^ 30:=by decide
  have oka:DQ xs 0 rsa:=⟨fun r hr=>gU (by rw [<-rta]; exact jt hr),by rw [rta]; exact xnd.sublist (kJ _ _),fun r hr=>⟨(rla r hr).1,by have:=(rla r hr).2; lia⟩,by lia⟩
  have hDa:=qTa _ _ nDp (sCa _ _ dO);exists _,rfl,_,rfl,_,_,rfl,rfl,_,rfl;dsimp only [En];refine ⟨D,_,rfl,Ba.of hDa,fun Cb hCb=>?_⟩;have e6:(6:Int) - (3 + d2)=((5 - mm:Nat):Int) + 1:=by lia
  have ZX:HU (xs.map V.str) (some (6 - (3 + d2))) none=(xs.drop (5 - mm + 1)).map V.str:=by rw [e6,SD _ (5 - mm) (by lia),iz]
  rw [ZX];have sCb:=Ac (o:=.lst ((xs.drop (5 - mm + 1)).map V.str)) hCb;have hCCb:(upd HTa Cb (.lst ((xs.drop (5 - mm + 1)).map V.str))) Cb=some (.lst ((xs.drop (5 - mm + 1)).map V.str)):=Ab;have Pb:=PTa.same sCb;have nCb:Cb ≠ p:=PTa.ne hCb;generalize upd HTa Cb (.lst ((xs.drop (5 - mm + 1)).map V.str))=Hb at sCb hCCb Pb ⊢;have tlb:(xs.drop (5 - mm + 1)).length=mm:=by rw [gD]; lia
  exists Cb,rfl,⟨_,Ba.of hCCb⟩
  refine Bb C4 (xs:=(xs.drop (5 - mm + 1)).map V.str) (fun D i σ H' acc=>∃ (v:Option V) (rs:List AI),σ=[v,some (.ref p)]/\AG H' p/\(∀ b o,b ≠ p->Hb b=some o->H' b=some o)/\H' D=some (.lst acc)/\A2 H' acc (rs.map Ce)/\acc.length=i/\rs.map (·.1)=(xs.drop (5 - mm + 1)).take i/\∀ r ∈ rs,1<=r.2/\r.2<=3)
   (by rw [eU]; lia) (fun D hD=>⟨_,[],rfl,Pb.other (Pb.ne hD),fun b o hb e=>Ac hD _ _ e,Ab,.nil,rfl,rfl,fun r hr=>(nomatch hr)⟩)
   (fun D i σ H' acc hD ⟨v,rs,_,_,kp,AR,_,al,_⟩=>⟨Ba.of (kp _ _ nCb hCCb),AR,al⟩) ?_ ?_
  ·rintro D i σ H' acc x' B hD ex ⟨v,rs,rfl,P2,k2,d2,dd,al,rt,rl⟩ hB;obtain ⟨y,ey,rfl⟩:∃ y,(xs.drop (5 - mm + 1))[i]? = some y/\x'=.str y:=by
    rw [eZ] at ex;cases z:(xs.drop (5 - mm + 1))[i]? with
    | none=>rw [z] at ex; cases ex
    | some y=>rw [z] at ex; exact ⟨y,rfl,(fV.inj ex).symm⟩
   have nD:D ≠ p:=Pb.ne hD;refine ⟨_,rfl,_,rfl,p,3,rfl,P2,by decide,Gd (by decide),fun l' a b c la lb=>⟨_,_,rfl,rfl,?_⟩⟩;have hl:1<=1 + l'/\1 + l'<=3:=⟨by lia,by lia⟩
   refine ⟨(by show 2<=sizeLine; lia),fun T hT=>?_⟩;have d3:(upd (upd H' p (.lst (AK a b c))) T (.tup [.str y,.int (1 + l')])) D=some (.lst acc):=Ac hT _ _ (by rw [Ae nD]; exact d2);have nT:T ≠ D:=by intro z; subst z; rw [Ae nD,d2] at hT; cases hT
   have nTp:T ≠ p:=(AG.set (H:=H') (p:=p) a b c).ne hT;refine hB _ _ _ d3 ⟨_,rs ++ [(y,1 + l')],rfl,((AG.set a b c).other nTp).other nD,fun b' o hb e=>?_,Ab,?_,by rw [eY,al]; rfl,?_,fun r hr=>?_⟩
   ·rw [Ae (Ah e hD)];exact Ac hT _ _ (by rw [Ae hb]; exact k2 b' o hb e)
   ·rw [fg];refine BK (AH dd fun b' ys e=>?_) (.cons (DI (u:=(y,1 + l')) (by rw [Ae nT]; exact Ab)) .nil);rw [Ae (by intro z; subst z; rw [d2] at e; cases e)];exact Ac hT _ _ (by rw [Ae (by intro z; subst z; obtain ⟨_,_,_,z⟩:=P2; rw [z] at e; cases e)]; exact e)
   ·rw [fg,rt,fQ,ey];rfl
   ·rcases fq.mp hr with hr | hr
    ·exact rl r hr
    ·rw [fo] at hr;subst hr;exact hl
  rintro Sb σb HSb usb hSb ⟨vb,rsb,rfl,PSb,kSb,dSb,ddb,alb,rtb,rlb⟩;rw [eU,fZ] at rtb;have rlenb:rsb.length=(xs.drop (5 - mm + 1)).length:=by
   have:=congrArg gK rtb;rwa [eU] at this
  have nSb:Sb ≠ p:=Pb.ne hSb;refine ⟨Sb,usb,rsb,rfl,Ba.of dSb,ddb,(by have:=A5 ddb; lia),fun lb wsb rrb hlb dddb pmsb risb=>?_⟩;have sb:=Ac (o:=.lst wsb) hlb;have hLLb:(upd HSb lb (.lst wsb)) lb=some (.lst wsb):=Ab;have PTb:=PSb.same sb;have dTb:A2 (upd HSb lb (.lst wsb)) wsb (rrb.map Ce):=AH dddb (fun b ys z=>sb _ _ z);generalize upd HSb lb (.lst wsb)=HTb at sb hLLb PTb dTb;have nlb:lb ≠ p:=PSb.ne hlb;have qTb:AM p Hb HTb:=fun b o hb e=>sb _ _ (kSb b o hb e)
  have okb:DQ xs 1 rsb:=⟨fun r hr=>ip (by rw [<-rtb]; exact jt hr),by rw [rtb]; exact xnd.sublist (List.drop_sublist _ _),fun r hr=>⟨(rlb r hr).1,by have:=(rlb r hr).2; lia⟩,by lia⟩
  have cG:AM p HTa HTb:=fun b o hb e=>qTb _ _ hb (sCb _ _ e)
  have aP:AM p H4 HTb:=fun b o hb e=>cG _ _ hb (qTa _ _ hb (sCa _ _ e))
  have hD9:HTb D=some (.lst (xs.map V.str)):=aP _ _ nDp dO;have nTp:T ≠ p:=by intro z; subst z; obtain ⟨_,_,_,z⟩:=P3; rw [z] at hT; cases hT
  have hT9:HTb T=some (.tup us):=aP _ _ nTp (t4 _ _ hT);have dW9:A2 HTb us (ws.map Fj):=CY (CY dus t4) (KA P4 aP);have hA9:HTb la=some (.lst wsa):=cG _ _ nla hLLa;have dA9:A2 HTb wsa (rra.map Ce):=AH dTa (KA PTa cG);have kp9:AM p H HTb:=k1.trans (cF.trans (k3.trans (aN.trans aP)));refine ⟨_,rfl,D,xs,rfl,Ba.of hD9,by lia,fun l1 ps JK pp so=>⟨l1,_,rfl,.inl ⟨Ba.of Ab,fun T1 WX=>?_⟩⟩⟩;have r1:=(Ac (o:=.lst (ps.map V.str)) JK).trans (Ac (o:=.tup (ps.map V.str)) WX);have ZC:(upd (upd HTb l1 (.lst (ps.map V.str))) T1 (.tup (ps.map V.str))) T1=some (.tup (ps.map V.str)):=Ab;generalize upd (upd HTb l1 (.lst (ps.map V.str))) T1 (.tup (ps.map V.str))=MR at r1 ZC ⊢;refine ⟨_,rfl,(by show 2<=sizeLine; lia),fun M hM=>?_⟩;have r3:=Ac (o:=.tup [.ref T1,.ref T]) hM;have hM':(upd MR M (.tup [.ref T1,.ref T])) M=some (.tup [.ref T1,.ref T]):=Ab;generalize upd MR M (.tup [.ref T1,.ref T])=Th at r3 hM' ⊢;have ck:=r1.trans r3;refine ⟨_,rfl,la,_,rfl,.inl ⟨Ba.of (ck _ _ hA9),fun T3 Sn=>?_⟩⟩;have r4:=Ac (o:=.tup wsa) Sn;have Z9:(upd Th T3 (.tup wsa)) T3=some (.tup wsa):=Ab;generalize upd Th T3 (.tup wsa)=VP at r4 Z9 ⊢;refine ⟨_,rfl,lb,_,rfl,.inl ⟨Ba.of (r4 _ _ (ck _ _ hLLb)),fun T4 bg=>?_⟩⟩;have r5:=Ac (o:=.tup wsb) bg;have Z8:(upd VP T4 (.tup wsb)) T4=some (.tup wsb):=Ab;generalize upd VP T4 (.tup wsb)=X6 at r5 Z8 ⊢;refine ⟨_,rfl,(by show 4<=sizeLine; lia),fun U hU=>?_⟩;have r6:=Ac (o:=.tup [.ref M,.ref T3,.ref T4,x]) hU;have hU':(upd X6 U (.tup [.ref M,.ref T3,.ref T4,x])) U=some (.tup [.ref M,.ref T3,.ref T4,x]):=Ab;generalize upd X6 U (.tup [.ref M,.ref T3,.ref T4,x])=X4 at r6 hU' ⊢;have cj:=r4.trans (r5.trans r6);have XY:=ck.trans cj;have pl:=pp.length_eq;have tw:ws.map (Gw 1)=ws:=(iw fun u _=>by show (u.1,u.2.1,u.2.2 * 1)=id u; rw [lz]; rfl).trans (List.map_id _);have mw:Gq X4 M ps.length ps (ws.map (Gw 1)):=Qc (by decide) (by decide) (cj _ _ hM') (cj _ _ (r3 _ _ ZC)) (XY _ _ hT9) (by rw [tw]; exact CY dW9 fun b ys z=>XY _ _ z) pp so xnd xnm wp wc w9 wl;rw [tw] at mw;obtain ⟨dx,lim⟩:∃ dx:PyData,Lim x dx:=by
   rcases hx with rfl | rfl
   ·exact ⟨_,.inl ⟨rfl,rfl⟩⟩
   ·exact ⟨_,.inr ⟨_,rfl,rfl,by decide,by decide⟩⟩
  have la3:=pmsa.length_eq;have lb3:=pmsb.length_eq;exact k X4 U M ps.length ps ws rra rrb dx (PTb.same XY) (kp9.trans (AM.of_same XY)) ⟨⟨T3,T4,wsa,wsb,hU',r6 _ _ (r5 _ _ Z9),AH dA9 (fun b ys z=>XY _ _ z),r6 _ _ Z8,AH dTb (fun b ys z=>XY _ _ z)⟩,mw,by lia,by lia,(oka.perm pmsa).names pp,(okb.perm pmsb).names pp,by lia,by lia,lim⟩ (fun r hr=>by have:=(rlb r (pmsb.mem_iff.mp hr)).2; lia) (Py risa (oka.perm pmsa).nd) (by lia) (by lia) (by lia) (by lia) fun y hy=>xnz y (pp.mem_iff.mp hy)
end
def Oj (K:eV):Sp:=fun vs H Q _=>∃ (a:Addr) (ns:List Int),vs=[.ref a]/\U6 K H a (ns.map V.int)/\ns.length<=63/\∀ H',Q (.bl true) H'
theorem Mx (n:Nat):Vi (.bl false) ((i8 n true).map V.bl)=false/\((i8 n true).map V.bl).all E9=true:=by
 induction n with
 | zero=>exact ⟨rfl,rfl⟩
 | succ n ih=>
  rw [List.replicate_succ,fU];exact ⟨by rw [show Vi (.bl false) (V.bl true :: (i8 n true).map V.bl)=(Tc (V.bl true) (.bl false) || Vi (.bl false) ((i8 n true).map V.bl)) from rfl,ih.1]; rfl,by rw [iS,ih.2]; rfl⟩
theorem Qx {us:List V} {i:Nat} (hi:i < us.length) (h2:2<=us.length):∃ j,j ≠ i/\j < us.length/\Gu us ((i:Int) - 1)=us[j]?:=MH hi h2
section
variable {P:Program} {w:World} {K:eV} {mg:Str->Option Value} {base:Heap}
theorem WJ (h_len:mg "len"=none) (h_min:mg "min"=none) (h_range:mg "range"=none) (h_sorted:mg "sorted"=none) (h_tuple:mg "tuple"=none) {fE:Addr} {fdE:FuncData} (XE:Fn K mg "_law_pen" Ff ["_law_script","_law_k"] fE fdE) (GE:A8 P w K mg base B0 1 fE fdE ["_law_script","_law_k"] (QT K)) {fT:Addr} {fdT:FuncData} (XT:Fn K mg "_law_take" Bw ["_law_pen_here","_law_many"] fT fdT) (GT:A8 P w K mg base B0 1 fT fdT ["_law_pen_here","_law_many"] D5) {fBU:Addr} {fdBU:FuncData} (XBU:Fn K mg "_law_built" DE ["_law_pen_here","_law_limit"] fBU fdBU) (GBU:A8 P w K mg base B0 3 fBU fdBU ["_law_pen_here","_law_limit"] Ot) {fFL:Addr} {fdFL:FuncData} (XFL:Fn K mg "_law_fars" Es ["_law_case_here"] fFL fdFL) (GFL:A8 P w K mg base B0 1 fFL fdFL ["_law_case_here"] Oq) {fFU:Addr} {fdFU:FuncData} (XFU:Fn K mg "_law_full" Er ["_law_case_here","_law_away","_law_levy"] fFU fdFU) (GFU:A8 P w K mg base B0 3 fFU fdFU ["_law_case_here","_law_away","_law_levy"] Oo) {fSI:Addr} {fdSI:FuncData} (XSI:Fn K mg "_law_still" DB ["_law_pen_here","_law_case_here","_law_paper"] fSI fdSI) (GSI:A8 P w K mg base B0 2 fSI fdSI ["_law_pen_here","_law_case_here","_law_paper"] (FP fun p=>p)) {fBR:Addr} {fdBR:FuncData} (XBR:Fn K mg "_law_broken" B8 ["_law_pen_here","_law_case_here","_law_paper"] fBR fdBR) (GBR:A8 P w K mg base B0 2 fBR fdBR ["_law_pen_here","_law_case_here","_law_paper"] (FP fun p=>¬ p)) {fLB:Addr} {fdLB:FuncData} (XLB:Fn K mg "lets_by" Fe ["case","paper"] fLB fdLB) (GLB:A8 P w K mg base B0 7 fLB fdLB ["case","paper"] Oi) {f:Addr} {fd:FuncData}
  (F:DT K "law" "law" Rm f fd):A8 P w K mg base B0 8 f fd ["_law_script"] (Oj K):=by
 refine F.ok Rl (fun vs H Q E h=>?_) (fun cdv A outer s H vs Q E hr h=>?_)
 ·obtain ⟨a,ns,rfl,_⟩:=h;rfl
 ·obtain ⟨a,ns,rfl,hS,hlen,k⟩:=h;have nd:=Rl.nd;have hu:=Dm hr;have Lp:=hr.units;have big:100000 < sizeLine:=by decide
  refine ⟨_,(Af (Cm PassesOwn.never rfl (DY (by rfl) h_range (Aa Ag Ad)) (Ai (i:=1) nd rfl (Or.inl rfl))
  (Af (Ax (i:=2) nd rfl (Or.inl rfl) (An GE (hr.mono (by decide)) (by rfl) XE.mg XE.F.kp XE.b .nil A1 (Aa (pv 0) (Aa (pv 1) Ad))))
  (Af (Ax (i:=3) nd rfl (Or.inr rfl) (An GBU (hr.mono (by decide)) (by rfl) XBU.mg XBU.F.kp XBU.b .nil A1 (Aa (pv 2) (Aa (A3 (Dk K rfl) (B5 (Aa Ag (Aa R8 Ad))) (pv 1) (fun _ _=>rfl)) Ad))))
  (Af (Ax (i:=4) nd rfl (Or.inr rfl) (An GFL (hr.mono (by decide)) (by rfl) XFL.mg XFL.F.kp XFL.b .nil A1 (Aa (pv 3) Ad)))
  (Af (Ax (i:=5) nd rfl (Or.inl rfl) (A3 (Dk K rfl) (B5 (Aa (Aw Bg Ag (An GT (hr.mono (by decide)) (by rfl) XT.mg XT.F.kp XT.b .nil A1 (Aa (pv 2) (Aa Ag Ad)))) (Aa Ag Ad))) (pv 1) (fun _ _=>rfl)))
  (Af (O2 (ix:=6) (N:=["_law_place","_law_dues"]) (σ0:=fun _=>[none,none]) nd rfl (Or.inl rfl) rfl (AF.plain (by decide +kernel) (by decide +kernel) rfl (by decide +kernel)) (fun σ _=>AU.none _ _ _ ["_law_place","_law_dues"] σ) (Bc K rfl (A3 (AE K rfl) (pv 3) Ag (fun _ _=>rfl)))
   (fun s2 H C fp=>⟨(AX K rfl (n:=2) rfl (Aj (Ai (i:=0) (show (["_law_place","_law_dues"]:List Str).Nodup by decide +kernel) rfl (Or.inl rfl)) (Aj (Ai (i:=1) (show (["_law_place","_law_dues"]:List Str).Nodup by decide +kernel) rfl (Or.inl rfl)) AW))),AO,(pv 0)⟩))
  (Af (Ax (i:=7) nd rfl (Or.inl rfl) (An GT (hr.mono (by decide)) (by rfl) XT.mg XT.F.kp XT.b .nil A1 (Aa (pv 2) (Aa (Ao (Bx K rfl) (by rfl) h_len PySem.boot_len (Aa (pv 6) Ad)) Ad))))
  (Af (Ax (i:=8) nd rfl (Or.inr rfl) (AQ (AS K rfl) (by rfl) h_tuple PyProof.Rows.boot_tuple (Aa (Ao Ek (by rfl) h_sorted PyProof.Rows.boot_sorted (Aa (B5 (Aa (A3 (Dk K rfl) (pv 6) (pv 7) (fun _ _=>rfl)) (Aa (A3 (Dk K rfl) (pv 6) (Aw EO (pv 7) Ag) (fun _ _=>rfl)) Ad))) Ad)) Ad)))
  (Af (Ax (i:=9) nd rfl (Or.inl rfl) (AQ (AS K rfl) (by rfl) h_tuple PyProof.Rows.boot_tuple (Aa (RD (fun x=>decide (x=("_law_place":Str))) (N:=["_law_place","_law_many","_law_away","_law_opening"]) (σ0:=fun σ=>[none,none,some 4,some 8].map fun j=>j.bind fun j=>(σ[j]?).join) rfl (Gs.caught (by rfl) rfl (by decide +kernel) (by intro y hy; simp only [eX,ff,or_false] at hy; rcases hy with rfl | rfl <;> rfl) (by refine List.Pairwise.cons (fun y hy=>?_) (iU _ _); rw [fo.mp hy]; show @Ne Nat _ _; lia)
   (by intro y hy e; simp only [eX,ff,or_false] at hy; rcases hy with rfl | rfl | rfl | rfl | rfl | rfl <;> first | exact ⟨_,fX⟩ | exact ⟨_,fK _ fX⟩ | cases e)) (by intro x h; have h':=of_decide_eq_true h; subst h'; decide +kernel) (fun σ _=>AU.of [none,none,some 4,some 8] rfl (by
   intro i j x h1 h2;match i,h1,h2 with
   | 0,_,h2=>cases h2
   | 1,_,h2=>cases h2
   | 2,h1,h2=>cases h1; cases h2; exact ⟨rfl,.inl rfl,.inl rfl⟩
   | 3,h1,h2=>cases h1; cases h2; exact ⟨rfl,.inl rfl,.inl rfl⟩
   | n + 4,h1,_=>cases h1)) (by
   intro σ i x v h1 h2;match i,h1,h2 with
   | 0,_,h2=>cases h2
   | 1,_,h2=>cases h2
   | 2,h1,h2=>cases h1; decide +kernel
   | 3,h1,h2=>cases h1; decide +kernel
   | n + 4,h1,_=>cases h1) (Bc K rfl (A3 (AE K rfl) (pv 3) Ag (fun _ _=>rfl)))
   (fun s2 H C fp=>⟨(AX K rfl (n:=2) rfl (Aj (Ai (i:=0) (show (["_law_place","_law_many","_law_away","_law_opening"]:List Str).Nodup by decide +kernel) rfl (Or.inr rfl) (.inl (by dsimp only; exact decide_eq_true rfl))) (Aj (Ai (i:=1) (show (["_law_place","_law_many","_law_away","_law_opening"]:List Str).Nodup by decide +kernel) rfl (Or.inl rfl)) AW))),AO,(Au (Aa (pv 0) (Aa (A3 (AE K rfl) (Ao (JO rfl Lp) (by rfl) h_min PyProof.Rows.boot_min (Aa (Bf (N:=["_law_one","_law_place","_law_away"]) (σ0:=fun σ=>[none,some 0,some 2].map fun j=>j.bind fun j=>(σ[j]?).join) rfl (AF.caught (by rfl) (by decide +kernel) rfl (by decide +kernel) (by intro y hy; simp only [eX,ff,or_false] at hy; rcases hy with rfl | rfl <;> rfl)
   (by intro y hy e; simp only [eX,ff,or_false] at hy; rcases hy with rfl | rfl | rfl | rfl <;> first | exact ⟨_,rfl⟩ | cases e)) (fun σ _=>AU.of [none,some 0,some 2] rfl (by
   intro i j x h1 h2;match i,h1,h2 with
   | 0,_,h2=>cases h2
   | 1,h1,h2=>cases h1; cases h2; exact ⟨rfl,.inl rfl,.inl rfl⟩
   | 2,h1,h2=>cases h1; cases h2; exact ⟨rfl,.inl rfl,.inl rfl⟩
   | n + 3,h1,_=>cases h1)) (Bc K rfl (pv 3))
   (fun s2 H C fp=>⟨(Ai (i:=0) (show (["_law_one","_law_place","_law_away"]:List Str).Nodup by decide +kernel) rfl (Or.inl rfl)),AO,(Au (Aa (Bl hu (pv 2) (Au (Aa (pv 1) (Aa (pv 0) Ad))) (fun _ _=>rfl)) (Aa (pv 0) Ad)))⟩)) Ad)) Ag (fun _ _=>rfl)) Ad)))⟩)) Ad)))
  (Af (Ax (i:=10) nd rfl (Or.inl rfl) (Au (Aa (pv 8) (Aa (pv 9) (Aa (An GFU (hr.mono (by decide)) (by rfl) XFU.mg XFU.F.kp XFU.b .nil A1 (Aa (pv 3) (Aa (pv 4) (Aa (pv 5) Ad)))) (Aa (pv 5) Ad))))))
  (Af (C9 (B9 Km Fx (Bf (N:=["_law_one","_law_case_here"]) (σ0:=fun σ=>[none,some 3].map fun j=>j.bind fun j=>(σ[j]?).join) rfl (AF.caught (by rfl) (by decide +kernel) rfl (by decide +kernel) (by intro y hy; simp only [eX,ff,or_false] at hy; rcases hy with rfl <;> rfl)
   (by intro y hy e; simp only [eX,ff,or_false] at hy; rcases hy with rfl | rfl | rfl | rfl <;> first | exact ⟨_,rfl⟩ | cases e)) (fun σ _=>AU.of [none,some 3] rfl (by
   intro i j x h1 h2;match i,h1,h2 with
   | 0,_,h2=>cases h2
   | 1,h1,h2=>cases h1; cases h2; exact ⟨rfl,.inl rfl,.inl rfl⟩
   | n + 2,h1,_=>cases h1)) (DZ K rfl (Aw G7 (B5 (Aa (pv 10) Ad)) (An GSI (hr.mono (by decide)) (by rfl) XSI.mg XSI.F.kp XSI.b .nil A1 (Aa (pv 2) (Aa (pv 3) (Aa (pv 10) Ad))))))
   (fun s2 H C fp=>⟨(Ai (i:=0) (show (["_law_one","_law_case_here"]:List Str).Nodup by decide +kernel) rfl (Or.inl rfl)),AO,(An GLB (hr.mono (by decide)) (by rfl) XLB.mg XLB.F.kp XLB.b .nil A1 (Aa (pv 1) (Aa (pv 0) Ad)))⟩)) (by rfl))
  (Ak (A7 Fx))
  BB)
  (Ak (C9 (B9 (PU (Nat.lt_of_succ_lt hu)) (Bf (N:=["_law_one","_law_case_here"]) (σ0:=fun σ=>[none,some 3].map fun j=>j.bind fun j=>(σ[j]?).join) rfl (AF.caught (by rfl) (by decide +kernel) rfl (by decide +kernel) (by intro y hy; simp only [eX,ff,or_false] at hy; rcases hy with rfl <;> rfl)
   (by intro y hy e; simp only [eX,ff,or_false] at hy; rcases hy with rfl | rfl | rfl | rfl <;> first | exact ⟨_,rfl⟩ | cases e)) (fun σ _=>AU.of [none,some 3] rfl (by
   intro i j x h1 h2;match i,h1,h2 with
   | 0,_,h2=>cases h2
   | 1,h1,h2=>cases h1; cases h2; exact ⟨rfl,.inl rfl,.inl rfl⟩
   | n + 2,h1,_=>cases h1)) (DZ K rfl (An GBR (hr.mono (by decide)) (by rfl) XBR.mg XBR.F.kp XBR.b .nil A1 (Aa (pv 2) (Aa (pv 3) (Aa (pv 10) Ad)))))
   (fun s2 H C fp=>⟨(Ai (i:=0) (show (["_law_one","_law_case_here"]:List Str).Nodup by decide +kernel) rfl (Or.inl rfl)),(KW (B9 Mj (An GLB (hr.mono (by decide)) (by rfl) XLB.mg XLB.F.kp XLB.b .nil A1 (Aa (pv 1) (Aa (pv 0) Ad))) Fx (BL _))),(pv 0)⟩)) (B5 Ad) (BL _))
  (Ak (A7 Fx))
  BB)))))))))))))
  (Ak (A7 Fx))),?_⟩
  refine ⟨2,rfl,by decide,by decide,Eh (n:=2) (fun _ σ H'=>(∃ v1 v2 v3 v4 v5 v6 v7 v8 v9 v10,σ=[some (.ref a),v1,v2,v3,v4,v5,v6,v7,v8,v9,v10])/\U6 K H' a (ns.map V.int)) ⟨⟨_,_,_,_,_,_,_,_,_,_,rfl⟩,hS⟩ ?_ (fun σ H' _=>k H')⟩;rintro j σ H0 hj ⟨⟨v1,v2,v3,v4,v5,v6,v7,v8,v9,v10,rfl⟩,S0⟩;refine ⟨_,rfl,_,rfl,a,ns,0 + (j:Int),rfl,S0,by lia,fun p y0 y1 y2 hp=>?_⟩;have P1:AG (upd H0 p (.lst (AK y0 y1 y2))) p:=AG.set _ _ _;have q1:Aq H0 (upd H0 p (.lst (AK y0 y1 y2))):=Ac hp;generalize upd H0 p (.lst (AK y0 y1 y2))=H1 at P1 q1 ⊢;obtain ⟨x,ex,hx,xj⟩:∃ x:V,Gu [V.int 2,.non] (0 + (j:Int))=some x/\(x=.non\/x=.int 2)/\((j=0/\x=.int 2)\/(j=1/\x=.non)):=by
   have:j=0\/j=1:=by lia
   rcases this with rfl | rfl
   ·exact ⟨_,rfl,.inr rfl,.inl ⟨rfl,rfl⟩⟩
   ·exact ⟨_,rfl,.inl rfl,.inr ⟨rfl,rfl⟩⟩
  refine ⟨_,rfl,(by show 2<=sizeLine; lia),fun M hM=>?_⟩;have sM:=Ac (o:=.lst [.int 2,.non]) hM;have ZK:(upd H1 M (.lst [.int 2,.non])) M=some (.lst [.int 2,.non]):=Ab;generalize upd H1 M (.lst [.int 2,.non])=H2 at sM ZK ⊢;exists _,rfl,M,_,_,_,rfl,rfl,Ba.of ZK,ex;refine ⟨p,x,rfl,P1.same sM,hx,fun H3 c m n xs ws Am Al d P3 k3 cw few ri l3 l4 m3 x6 nz=>?_⟩;have k13:AM p H1 H3:=(AM.of_same sM).trans k3;refine ⟨_,rfl,c,m,n,xs,ws,Am,Al,x,d,rfl,cw,fun H4 A0 s4 hA kn=>?_⟩;have P4:=P3.same s4;refine ⟨_,rfl,p,9,rfl,P4,by decide,Gd (by decide),fun d1 a5 b5 c5 et ef=>⟨_,_,rfl,rfl,(by show 2<=sizeLine; lia),fun M2 OH=>?_⟩⟩;have P5:AG (upd (upd H4 p (.lst (AK a5 b5 c5))) M2 (.lst [.int (1 + d1),.int 0])) p:=(AG.set a5 b5 c5).same (Ac OH);have Yf:AM p H4 (upd (upd H4 p (.lst (AK a5 b5 c5))) M2 (.lst [.int (1 + d1),.int 0])):=AM.upd.trans (AM.of_same (Ac OH));have ZJ:(upd (upd H4 p (.lst (AK a5 b5 c5))) M2 (.lst [.int (1 + d1),.int 0])) M2=some (.lst [.int (1 + d1),.int 0]):=Ab;generalize upd (upd H4 p (.lst (AK a5 b5 c5))) M2 (.lst [.int (1 + d1),.int 0])=H5 at P5 Yf ZJ ⊢;obtain ⟨lv,elv,lv0,YU,lpos,lnon⟩:∃ lv:Int,Gu [V.int (1 + d1),.int 0] (0 + (j:Int))=some (.int lv)/\0<=lv/\lv<=100/\(x=.int 2->1<=lv)/\(x=.non->lv=0):=by
   rcases xj with ⟨rfl,rfl⟩ | ⟨rfl,rfl⟩
   ·exact ⟨1 + d1,rfl,by lia,by lia,fun _=>by lia,fun h=>by cases h⟩
   ·exact ⟨0,rfl,by lia,by lia,(fun h=>by cases h),fun _=>rfl⟩
  exists _,rfl,M2,_,_,_,rfl,rfl,Ba.of ZJ,elv;have k35:AM p H3 H5:=(AM.of_same s4).trans Yf;have t35:=KA P3 k35;have cw5:=cw.keepT t35;have kn5:=kn.keep P4 Yf;obtain ⟨t1,t2,Fl,FK,hc,Gf,FG,EV,hd2⟩:=cw5.ex;have OZ:=A5 FG;have Tn:=A5 hd2;have l2:=cw.l2;exists _,rfl,c,_,_,_,rfl,rfl,Az.of hc,rfl,t1,rfl,⟨_,Az.of Gf⟩
  refine Bb Bm (xs:=Fl) (fun D i Av H' acc=>∃ v0 v1:Option V,Av=[v0,v1]/\Aq H5 H'/\H' D=some (.lst acc)/\acc=((Am.map (·.1)).take i).map V.str/\acc.length=i)
   (by lia) (fun D hD=>⟨_,_,rfl,Ac hD,Ab,rfl,rfl⟩) (fun D i Av H' acc hD ⟨v0,v1,_,sa,AR,_,al⟩=>⟨Az.of (sa _ _ Gf),AR,al⟩) ?_ ?_
  ·rintro D i Av H' acc x' B hD ex ⟨v0,v1,rfl,sa,AR,ea,al⟩ hB;obtain ⟨q,tt,eq,rfl,htt⟩:=Bn FG ex;exists tt,_,rfl,Az.of (sa _ _ htt),rfl,_,_,rfl,_,_,rfl,rfl;refine ⟨_,rfl,hB _ _ _ AR ⟨_,_,rfl,fun b o e=>by rw [Ae (Ah e hD)]; exact sa _ _ e,Ab,?_,by rw [eY,al]; rfl⟩⟩;rw [ea,fQ,eZ,eq,fg];rfl
  rintro D Av H6 Xq hD ⟨v0,v1,rfl,s6,AR,ea,_⟩;rw [ea,OZ,gZ (by rw [eU]; exact fc _)] at AR;have P6:=P5.same s6;have nDp:D ≠ p:=P5.ne hD;have snd:(Am.map (·.1)).Nodup:=cw.ok1.nd;have ln:((Am.map (·.1)).map V.str).length=Am.length:=by rw [eU,eU]
  refine ⟨_,rfl,_,rfl,D,_,rfl,.inl (Ba.of AR),p,_,rfl,P6,?_,Gd ?_,fun e a7 b7 c7 e0 e1=>?_⟩
  ·rw [ln]; lia
  ·rw [ln]; lia
  rw [ln] at e1;obtain ⟨g,rfl⟩:∃ g:Nat,e=(g:Int):=⟨e.toNat,by lia⟩
  have P7:AG (upd H6 p (.lst (AK a7 b7 c7))) p:=AG.set _ _ _;have Vg:AM p H6 (upd H6 p (.lst (AK a7 b7 c7))):=AM.upd;generalize upd H6 p (.lst (AK a7 b7 c7))=H7 at P7 Vg ⊢;have Uu:=Vg _ _ nDp AR;have hg:g < ((Am.map (·.1)).map V.str).length:=by rw [ln]; lia
  obtain ⟨g2,gne,g2l,at2⟩:=Qx hg (by rw [ln]; lia);have Sl:g < (Am.map (·.1)).length:=by rw [eU]; lia
  have ZS:g2 < (Am.map (·.1)).length:=by rw [eU] at g2l; exact g2l
  obtain ⟨u1,dY⟩:∃ u,(Am.map (·.1))[g]? = some u:=⟨_,eR Sl⟩
  obtain ⟨u2,dX⟩:∃ u,(Am.map (·.1))[g2]? = some u:=⟨_,eR ZS⟩
  have RP:u1 ≠ u2:=fun h=>gne ((iN ZS snd).mp (dX.trans (by rw [<-h]; exact dY.symm)))
  have U4:Gu ((Am.map (·.1)).map V.str) (g:Int)=some (.str u1):=BF (by rw [eZ,dY]; rfl);have eB:Gu ((Am.map (·.1)).map V.str) ((g:Int) - 1)=some (.str u2):=by rw [at2,eZ,dX]; rfl
  refine ⟨_,rfl,_,rfl,D,_,_,.str u1,rfl,rfl,Ba.of Uu,U4,_,rfl,_,rfl,_,_,rfl,rfl,D,_,_,.str u2,rfl,rfl,Ba.of Uu,eB,(by show 2<=sizeLine; lia),fun M3 hM3=>?_⟩;have sM3:=Ac (o:=.lst [.str u1,.str u2]) hM3;have ZI:(upd H7 M3 (.lst [.str u1,.str u2])) M3=some (.lst ([u1,u2].map V.str)):=Ab;generalize upd H7 M3 (.lst [.str u1,.str u2])=H8 at sM3 ZI ⊢;refine ⟨M3,[u1,u2],rfl,Ba.of ZI,(by show 2 < 64; lia),fun l ss hl pm srt=>⟨l,_,rfl,.inl ⟨Ba.of Ab,fun o ho=>?_⟩⟩⟩;have so:=(Ac (o:=.lst (ss.map V.str)) hl).trans (Ac (o:=.tup (ss.map V.str)) ho);have cU:(upd (upd H8 l (.lst (ss.map V.str))) o (.tup (ss.map V.str))) o=some (.tup (ss.map V.str)):=Ab;generalize upd (upd H8 l (.lst (ss.map V.str))) o (.tup (ss.map V.str))=H9 at so cU ⊢;have two:ss.length=2:=pm.length_eq;have smem:∀ y ∈ ss,y=u1\/y=u2:=fun y hy=>by simpa using pm.mem_iff.mp hy
  have ssub:∀ y ∈ ss,y ∈ Am.map (·.1):=fun y hy=>(smem y hy).elim (fun h=>h ▸ eW dY) (fun h=>h ▸ eW dX)
  have sri:Cy ss:=G3 (Fc srt) (pm.nodup_iff.mpr (by simp [RP]));have snm:∀ y ∈ ss,y ∈ xs/\AA y=true:=fun y hy=>by
   obtain ⟨r,hr,e⟩:=fi.mp (ssub y hy);have e':r.1=y:=e;rw [<-e'];exact ⟨cw.ok1.sub r hr,cw.map.at'.nm _ (cw.ok1.sub r hr)⟩
  have s79:=sM3.trans so;have cH:AM p H5 H9:=((AM.of_same s6).trans Vg).trans (AM.of_same s79);have Y0:=KA P5 cH;have P9:=P7.same s79;have cw9:=cw5.keepT Y0;have kn9:=kn5.keep P5 cH;exists _,rfl,c,_,_,_,rfl,rfl,Az.of (Y0 _ _ hc),rfl,t2,rfl,⟨_,Az.of (Y0 _ _ EV)⟩
  refine Bb Bm (xs:=FK) (fun D2 i Av H' acc=>∃ (v0 v1:Option V) (zs:List (Str × Str)),Av=[v0,v1,some (.ref A0),some (.ref o)]/\Aq H9 H'/\H' D2=some (.lst acc)/\acc.length=i/\A2 H' acc (zs.map EG)/\zs.map (·.1)=(Al.take i).map (·.1)/\∀ z ∈ zs,z.2 ∈ ss)
   (by lia) (fun D2 Q9=>⟨_,_,[],rfl,Ac Q9,Ab,rfl,.nil,rfl,fun z hz=>nomatch hz⟩) (fun D2 i Av H' acc Q9 ⟨v0,v1,zs,_,sa,AR,al,_⟩=>⟨Az.of (sa _ _ (Y0 _ _ EV)),AR,al⟩) ?_ ?_
  ·rintro D2 i Av H' acc x' Bk Q9 ex ⟨v0,v1,zs,rfl,sa,Xc,al,dw,zn,zss⟩ hBk;obtain ⟨r,tt,er,rfl,htt⟩:=Bn hd2 ex;have rx:r.1 ∈ xs:=cw.ok2.sub r (eW er);exists tt,_,rfl,Az.of (sa _ _ (Y0 _ _ htt)),rfl,_,_,rfl,_,_,rfl,rfl;have hoa:=sa _ _ cU;exists _,rfl,_,rfl,o,rfl,⟨_,Az.of hoa⟩
   refine Bb Bm (xs:=ss.map V.str) (fun D3 j Av H2 acc=>∃ (v0:Option V) (ks:List (Int × Str)),Av=[v0,some (.str r.1),some (.ref A0)]/\Aq H' H2/\H2 D3=some (.lst acc)/\acc.length=j/\ks.length=j/\(∀ (q:Nat) w kk,acc[q]? = some w->ks[q]? = some kk->Jv H2 w kk)/\∀ kk ∈ ks,kk.2 ∈ ss)
    (by rw [eU]; lia) (fun D3 Xd=>⟨_,[],rfl,Ac Xd,Ab,rfl,rfl,(fun q w kk e=>by simp at e),fun kk hk=>nomatch hk⟩)
    (fun D3 j Av H2 acc Xd ⟨v0,ks,_,sb,Sr,Yp,_⟩=>⟨Az.of (sb _ _ hoa),Sr,Yp⟩) ?_ ?_
   ·rintro D3 j Av H2 acc x' Bk Xd ex ⟨v0,ks,rfl,sb,Sr,Yp,kl,kp,km⟩ hBk;obtain ⟨y,ey,rfl⟩:∃ y,ss[j]? = some y/\x'=.str y:=by
     rw [eZ] at ex;cases z:ss[j]? with
     | none=>rw [z] at ex; cases ex
     | some y=>rw [z] at ex; exact ⟨y,rfl,(fV.inj ex).symm⟩
    have ym':=eW ey;refine ⟨_,rfl,_,rfl,_,rfl,(by show 2<=sizeLine; lia),fun T hT=>?_⟩;have sT:=Ac (o:=.tup [.str r.1,.str y]) hT;obtain ⟨g2,d0,d1⟩:=(kn9.same ((sa.trans sb).trans sT)).get rx (snm y ym').1 (t:=T) Ab;generalize upd H2 T (.tup [.str r.1,.str y])=H8 at sT g2 ⊢;refine ⟨A0,_,rfl,g2,_,rfl,(by show 2<=sizeLine; lia),fun T2 Tb=>?_⟩;have sT2:=Ac (o:=.tup [.int (dst ws y r.1),.str y]) Tb;have Z7:(upd H8 T2 (.tup [.int (dst ws y r.1),.str y])) T2=some (.tup [.int (dst ws y r.1),.str y]):=Ab;generalize upd H8 T2 (.tup [.int (dst ws y r.1),.str y])=H9 at sT2 Z7 ⊢;have bW:=sT.trans sT2;have hDT:=bW _ _ Sr;have keep:∀ b ys,H9 b=some (.tup ys)->(upd H9 D3 (.lst (acc ++ [.ref T2]))) b=some (.tup ys):=fun b ys z=>by
     rw [Ae (C0 z hDT (fun q=>by cases q))];exact z
    refine hBk _ _ _ hDT ⟨_,ks ++ [(dst ws y r.1,y)],rfl,fun b o' z=>by rw [Ae (Ah z Xd)]; exact bW _ _ (sb _ _ z),Ab,by rw [eY,Yp]; rfl,by rw [eY,kl]; rfl,fun q w kk e1 e2=>?_,fun kk hk=>?_⟩
    ·by_cases hq:q < acc.length
     ·rw [gq hq] at e1;rw [gq (by lia)] at e2;exact (kp q w kk e1 e2).same fun b ys z=>keep b ys (bW _ _ z)
     ·have Yi:=(fh.mp e1).1;rw [eY,jh] at Yi;rw [gj (by lia),show q - acc.length=0 by lia,gF] at e1;rw [gj (by lia),show q - ks.length=0 by lia,gF] at e2;cases e1
      cases e2
      exact ⟨T2,rfl,keep _ _ Z7⟩
    ·rcases fq.mp hk with hk | hk
     ·exact km kk hk
     ·rw [fo.mp hk];exact ym'
   rintro D3 Av H5' eC Xd ⟨v0,ks,rfl,s5',Sr,Yp,kl,kp,km⟩;rw [eU] at Yp kl;refine ⟨D3,eC,ks,rfl,Sr,by lia,fun z=>by rw [z] at kl; simp at kl; lia,kp,fun v kk hkk hpr _=>?_⟩;obtain ⟨tv,rfl,htv⟩:=hpr;have hsm:=km kk hkk;refine ⟨tv,_,_,_,rfl,rfl,Az.of htv,rfl,(by show 2<=sizeLine; lia),fun T3 Sn=>?_⟩;have sT3:=Ac (o:=.tup [.str r.1,.str kk.2]) Sn;have Z6:(upd H5' T3 (.tup [.str r.1,.str kk.2])) T3=some (.tup [.str r.1,.str kk.2]):=Ab;generalize upd H5' T3 (.tup [.str r.1,.str kk.2])=H6' at sT3 Z6 ⊢;have bV:=s5'.trans sT3;have dN:=bV _ _ Xc;have tp:∀ b ys,H6' b=some (.tup ys)->(upd H6' D2 (.lst (acc ++ [.ref T3]))) b=some (.tup ys):=fun b ys z=>by
    rw [Ae (C0 z dN (fun q=>by cases q))];exact z
   refine hBk _ _ _ dN ⟨_,_,zs ++ [(r.1,kk.2)],rfl,fun b o' z=>by rw [Ae (Ah z Q9)]; exact bV _ _ (sa _ _ z),Ab,by rw [eY,al]; rfl,?_,?_,fun z hz=>?_⟩
   ·rw [fg];exact BK (Fb (fun b ys z=>tp b ys (bV _ _ z)) dw) (.cons (DU (z:=(r.1,kk.2)) (tp _ _ Z6)) .nil)
   ·rw [fg,zn,fQ,er,fg];rfl
   ·rcases fq.mp hz with hz | hz
    ·exact zss z hz
    ·rw [fo.mp hz];exact hsm
  rintro D2 Av MR wus Q9 ⟨v0,v1,zs,rfl,XU,Xc,al,dw,zn,zss⟩;rw [Tn,fZ] at zn;refine ⟨D2,_,rfl,.inl ⟨Ba.of Xc,fun tw htw=>?_⟩⟩;have cx:=Ac (o:=.tup wus) htw;have hTW:(upd MR tw (.tup wus)) tw=some (.tup wus):=Ab;generalize upd MR tw (.tup wus)=UH at cx hTW ⊢;have bU:=XU.trans cx;have zl:zs.length=Al.length:=by have:=congrArg gK zn; rwa [eU,eU] at this
  refine ⟨_,rfl,_,rfl,_,rfl,_,rfl,_,rfl,c,m,A0,n,xs,ws,Am,Al,x,d,lv,rfl,cw9.same bU,few,kn9.same bU,lv0,by lia,fun Th T qs SV SE bM dW=>⟨_,rfl,(by show 4<=sizeLine; lia),fun pp hpp=>?_⟩⟩;have cv:=Ac (o:=.tup [.ref o,.ref tw,.ref T,.int lv]) hpp;have hPP:(upd Th pp (.tup [.ref o,.ref tw,.ref T,.int lv])) pp=some (.tup [.ref o,.ref tw,.ref T,.int lv]):=Ab;generalize upd Th pp (.tup [.ref o,.ref tw,.ref T,.int lv])=VP at cv hPP ⊢;have sBD:=SV.trans cv;have aG:=bU.trans sBD;have P13:=P9.same aG;have ql:=SE.ok.len;have e7:=SE.same cv;obtain ⟨pus,hTp,dp⟩:=e7.ex;have pf:PF VP c m pp o tw T n xs ws Am Al x d ss zs qs lv:=by
   refine ⟨⟨cw9.same aG,few,aG _ _ cU,by lia,fun s hs=>gc (Cv (snm s hs).2) (by decide),⟨wus,sBD _ _ hTW,HD dw (cx.trans sBD)⟩,by lia,fun z hz=>⟨?_,(snm _ (zss z hz)).2⟩,⟨pus,hTp,dp⟩,by lia,fun q hq=>?_,SE.ok.lo,lv0⟩,hPP,⟨zn,SE.ok.nm,⟨ss,rfl,(fun e=>by rw [e] at two; cases two),sri,fun s hs=>⟨(snm s hs).2,ssub s hs⟩,?_⟩,zss,lnon,bM⟩,dW,two,ri,l3,l4,m3,x6,hx,lpos,YU,nz⟩
   ·obtain ⟨i,hi,ei⟩:=List.mem_iff_getElem.mp hz;obtain ⟨r,er,rz⟩:=UL zn (show zs[i]? = some z by rw [eR hi,ei]);rw [<-rz];exact gc (Cv (cw.map.at'.nm _ (cw.ok2.sub r (eW er)))) (by decide)
   ·have:q.1 ∈ Al.map (·.1):=by rw [<-SE.ok.nm]; exact jt hq
    obtain ⟨r,hr,e⟩:=fi.mp this;have e':r.1=q.1:=e;rw [<-e'];exact cw.map.at'.nm _ (cw.ok2.sub r hr)
   ·rw [two];rcases hx with rfl | rfl <;> rfl
  have k1D:AM p H1 VP:=(((k13.trans k35).trans cH).trans (AM.of_same aG))
  refine ⟨_,rfl,(by show 1<=sizeLine; lia),fun M4 bh=>?_⟩;have aJ:=Ac (o:=.lst [.ref pp]) bh;have ZH:(upd VP M4 (.lst [.ref pp])) M4=some (.lst [.ref pp]):=Ab;generalize upd VP M4 (.lst [.ref pp])=X6 at aJ ZH ⊢;have P14:=P13.same aJ;have nM4:M4 ≠ p:=P13.ne bh;have YG:=pf.keepT fun b ys z=>aJ _ _ z
  refine ⟨_,rfl,_,rfl,_,rfl,p,c,m,pp,o,tw,T,n,xs,ws,Am,Al,x,d,ss,zs,qs,lv,rfl,P14,YG,fun X4 Ls us P15 k15 nLs hLs pas lus=>?_⟩;have t15:=KA P14 k15;refine ⟨M4,Ls,_,_,rfl,rfl,k15 _ _ nM4 ZH,hLs,(by show 1 + _<=sizeLine; lia),fun L5 So=>?_⟩;have YD:=Ac (o:=.lst ([.ref pp] ++ us)) So;have Us:(upd X4 L5 (.lst ([.ref pp] ++ us))) L5=some (.lst ([.ref pp] ++ us)):=Ab;generalize upd X4 L5 (.lst ([.ref pp] ++ us))=Yy at YD Us ⊢;have P16:=P15.same YD;have Wy:=YG.keepT fun b ys z=>YD _ _ (t15 _ _ z)
  have YN:∀ u ∈ [V.ref pp] ++ us,HY c m n xs ws Am Al x d (fun p=>p) Yy u:=fun u hu=>by
   rcases fq.mp hu with hu | hu
   ·rw [fo.mp hu];exact ⟨pp,o,tw,T,ss,zs,qs,lv,rfl,Wy.pap,Wy.pg,pf.ok⟩
   ·exact (pas u hu).keepT fun b ys z=>YD _ _ z
  have ulen:([V.ref pp] ++ us).length<=101:=by rw [eY]; show 1 + _<=101; lia
  generalize [V.ref pp] ++ us=ul at Us YN ulen;exists L5,rfl,⟨_,Ba.of Us⟩
  refine Bb C4 (xs:=ul) (fun D i Av H' acc=>∃ v0:Option V,Av=[v0,some (.ref c)]/\Aq Yy H'/\H' D=some (.lst acc)/\acc=(i8 i true).map V.bl/\acc.length=i)
   (by lia) (fun D hD=>⟨_,rfl,Ac hD,Ab,rfl,rfl⟩) (fun D i Av H' acc hD ⟨v0,_,sa,AR,_,al⟩=>⟨Ba.of (sa _ _ Us),AR,al⟩) ?_ ?_
  ·rintro D i Av H' acc u B hD eu ⟨v0,rfl,sa,AR,ea,al⟩ hB;refine ⟨_,rfl,_,rfl,c,m,n,xs,ws,Am,Al,x,d,u,(fun p=>p),rfl,(YN u (eW eu)).keepT (fun b ys z=>sa _ _ z),fun b eQ s17 ⟨pr,gp,hb⟩=>?_⟩;have bt:b=true:=hb.mpr gp;subst bt;refine hB _ _ _ (s17 _ _ AR) ⟨_,rfl,fun b' o' z=>by rw [Ae (Ah z hD)]; exact s17 _ _ (sa _ _ z),Ab,?_,by rw [eY,al]; rfl⟩;rw [ea,List.replicate_succ',fg];rfl
  rintro D6 Av H18 acc6 dN ⟨v0,rfl,bX,dM,ea6,_⟩;subst ea6;exists D6,_,rfl,.inl (Ba.of dM),rfl,(Mx _).2,_,rfl;rw [(Mx _).1];refine BO ?_;have P18:=P16.same bX;have cz:=Wy.keepT fun b ys z=>bX _ _ z
  refine ⟨_,rfl,_,rfl,_,rfl,p,c,m,pp,o,tw,T,n,xs,ws,Am,Al,x,d,ss,zs,qs,lv,rfl,P18,cz,fun eP Lb ub P19 k19 nLb hLb pab lub=>?_⟩;exists Lb,rfl,⟨_,Ba.of hLb⟩
  refine EM C4 (xs:=ub) (fun D i Av H' acc=>∃ v0:Option V,Av=[v0,some (.ref c)]/\Aq eP H'/\H' D=some (.lst acc)/\acc=[]/\acc.length<=i)
   (by lia) (fun D hD=>⟨_,rfl,Ac hD,Ab,rfl,fc _⟩) (fun D i Av H' acc hD ⟨v0,_,sa,AR,_,al⟩=>⟨Ba.of (sa _ _ hLb),AR,al⟩) ?_ ?_
  ·rintro D i Av H' acc u B N hD eu ⟨v0,rfl,sa,AR,ea,al⟩ hB hN;refine ⟨_,rfl,_,rfl,c,m,n,xs,ws,Am,Al,x,d,u,(fun p=>¬ p),rfl,(pab u (eW eu)).keepT (fun b ys z=>sa _ _ z),fun b eO s20 ⟨pr,gp,hb⟩=>⟨_,_,rfl,rfl,_,rfl,?_⟩⟩;have bf:b=false:=by
    cases b with
    | false=>rfl
    | true=>exact absurd (hb.mp rfl) gp
   subst bf;refine BO ?_;exact hN _ _ ⟨_,rfl,sa.trans s20,s20 _ _ AR,ea,by lia⟩
  rintro D7 Av Yx acc7 Uu ⟨v0,rfl,s21,dJ,rfl,_⟩;refine ⟨(by show 0<=sizeLine; lia),fun E7 hE7=>⟨D7,E7,[],rfl,rfl,Ba.of (Ac hE7 _ _ dJ),Ba.of Ab,_,rfl,?_⟩⟩;refine BO ?_;have k1E:AM p H1 X4:=(k1D.trans (AM.of_same aJ)).trans k15;have k1F:AM p H1 eP:=(k1E.trans (AM.of_same (YD.trans bX))).trans k19;have kend:=k1F.trans (AM.of_same (s21.trans (Ac (o:=.lst []) hE7)));exact ⟨⟨_,_,_,_,_,_,_,_,_,_,rfl⟩,S0.same fun b o z=>kend b o (Ah z hp) (q1 _ _ z)⟩
end
end K22
namespace L2
open PySem PySem.Spec PyProof.Rows
def At (K:eV) (n:Str) (st:Stmt) (f:Addr) (fd:FuncData):Prop:=g9 K mainGlobals n=some (some (.ref f))/\DT K n n st f fd
section
variable {K:eV} {h:Heap} {mg:Str->Option Value} {n p q r t u:Str} {st:Stmt} {f:Addr} {fd:FuncData}
theorem at_mk {oc:Value} {od an:Option Addr} {osl:Array (Option Value)} {kV doc pm cdv ct:Value} (a:g9 K mainGlobals n=some (some (.ref f))) (l:K.lookup f=some ⟨oc,od,.func (hZ n n (E4 st) (C8 st) (Ap st) .none kV doc pm an cdv ct),osl⟩)
  (c:jb K cdv n=true) (k:iZ K (.ref f)=true):At K n st f (hZ n n (E4 st) (C8 st) (Ap st) .none kV doc pm an cdv ct):=⟨a,Xe l c k⟩
abbrev BA (n:Str) (st:Stmt) (us:List Value) (ps:List (Str × Value)):Prop:=∀ (kV doc pm:Value) (an:Option Addr) (cdv ct:Value),bindArgs (hZ n n (E4 st) (C8 st) (Ap st) .none kV doc pm an cdv ct) ⟨us,[]⟩=pure ps
theorem Xh (X:K.In h) (G:h.Ns mainGlobals mg) (A:At K n st f fd) (hb:∀ x,BA n st [x] [(p,x)]):Fn K mg n st [p] f fd:=⟨A.2,gX X G A.1,A.2.binds fun _ _ _ _ _ _ us hl=>by obtain ⟨x,rfl⟩:=len1 hl; exact hb ..⟩
theorem ON (X:K.In h) (G:h.Ns mainGlobals mg) (A:At K n st f fd) (hb:∀ x y,BA n st [x,y] [(p,x),(q,y)]):Fn K mg n st [p,q] f fd:=⟨A.2,gX X G A.1,A.2.binds fun _ _ _ _ _ _ us hl=>by obtain ⟨x,y,rfl⟩:=len2 hl; exact hb ..⟩
theorem V9 (X:K.In h) (G:h.Ns mainGlobals mg) (A:At K n st f fd) (hb:∀ x y z,BA n st [x,y,z] [(p,x),(q,y),(r,z)]):Fn K mg n st [p,q,r] f fd:=⟨A.2,gX X G A.1,A.2.binds fun _ _ _ _ _ _ us hl=>by obtain ⟨x,y,z,rfl⟩:=len3 hl; exact hb ..⟩
theorem fa4 (X:K.In h) (G:h.Ns mainGlobals mg) (A:At K n st f fd) (hb:∀ x y z w,BA n st [x,y,z,w] [(p,x),(q,y),(r,z),(t,w)]):Fn K mg n st [p,q,r,t] f fd:=⟨A.2,gX X G A.1,A.2.binds fun _ _ _ _ _ _ us hl=>by obtain ⟨x,y,z,w,rfl⟩:=len4 hl; exact hb ..⟩
theorem fa5 (X:K.In h) (G:h.Ns mainGlobals mg) (A:At K n st f fd) (hb:∀ x y z w v,BA n st [x,y,z,w,v] [(p,x),(q,y),(r,z),(t,w),(u,v)]):Fn K mg n st [p,q,r,t,u] f fd:=⟨A.2,gX X G A.1,A.2.binds fun _ _ _ _ _ _ us hl=>by obtain ⟨x,y,z,w,v,rfl⟩:=len5 hl; exact hb ..⟩
end
end L2
namespace K22
open PySem L2
theorem all_mk {l:j6} {w:World} {K:eV} {h:Heap} {mg:Str->Option Value} {fa f1 f2 f3 f4 f5 f6 f7 f8 f9 f10 f11 f12 f13 f14 f15 f16 f17 f18 f19 f20 f21 f22 f23 f24 f25 f26 f27 f28 f29 f30 f31 f32 f33:Addr} {d1 d2 d3 d4 d5 d6 d7 d8 d9 et ef d12 d13 d14 d15 d16 d17 d18 d19 d20 d21 d22 d23 d24 d25 d26 d27 d28 d29 d30 d31 d32 d33:FuncData} (X:K.In h) (G:h.Ns mainGlobals mg) (hfa:mg "law"=some (.ref fa))
  (a1:At K "is_name" CV f1 d1) (a2:At K "are_rising" CM f2 d2) (a3:At K "is_whole" Et f3 d3) (a4:At K "is_whole_from" BH f4 d4) (a5:At K "neighbours" CJ f5 d5) (a6:At K "fars" KO f6 d6) (a7:At K "site_fars" DA f7 d7) (a8:At K "nearest" Fd f8 d8) (a9:At K "is_opening" CL f9 d9) (a10:At K "most_houses" C7 f10 et) (a11:At K "are_folk_rows" BI f11 ef) (a12:At K "are_rows" Eu f12 d12) (a13:At K "is_row_of" DF f13 d13) (a14:At K "gets_from" DG f14 d14) (a15:At K "stand" Ib f15 d15) (a16:At K "stand_by" Eo f16 d16) (a17:At K "are_prices" CN f17 d17) (a18:At K "is_levy" Fg f18 d18) (a19:At K "lets_by" Fe f19 d19) (a20:At K "are_goings" CO f20 d20) (a21:At K "_law_pen" Ff f21 d21) (a22:At K "_law_take" Bw f22 d22) (a23:At K "_law_names" DC f23 d23) (a24:At K "_law_ways" Ck f24 d24) (a25:At K "_law_fars" Es f25 d25) (a26:At K "_law_gets" Ep f26 d26) (a27:At K "_law_raised" CK f27 d27) (a28:At K "_law_built" DE f28 d28) (a29:At K "_law_full" Er f29 d29) (a30:At K "_law_with" C2 f30 d30) (a31:At K "_law_broken" B8 f31 d31) (a32:At K "_law_still" DB f32 d32) (a33:At K "law" Rm f33 d33)
  (z1:g9 K mainGlobals "len"=some none) (z2:g9 K mainGlobals "min"=some none) (z3:g9 K mainGlobals "range"=some none) (z4:g9 K mainGlobals "sorted"=some none) (z5:g9 K mainGlobals "tuple"=some none) (z6:g9 K mainGlobals "abs"=some none) (z7:g9 K mainGlobals "int"=some none) (z8:g9 K mainGlobals "dict"=some none) (z9:g9 K mainGlobals "max"=some none) (z10:g9 K mainGlobals "isinstance"=some none) (z11:g9 K mainGlobals "all"=some none) (z12:g9 K mainGlobals "list"=some none) (z13:g9 K mainGlobals "set"=some none) (z14:g9 K mainGlobals "str"=some none) (z15:g9 K mainGlobals "zip"=some none) (z16:g9 K mainGlobals "bool"=some none) (z17:g9 K mainGlobals "sum"=some none) {tc1:Tok} (w1:g9 K mainGlobals "MOST_LETTERS"=some (some (.int 6 tc1))) :
  ∃ fd:FuncData,(∀ (s:Shared) (v:Value),BindsTo s fd ⟨[v],[]⟩ [("_law_script",v)])/\∀ base:Heap,K.In base->base.Ns mainGlobals mg->A8 l.prog w K mg base B0 8 fa fd ["_law_script"] (Oj K):=by
 cases hfa.symm.trans (gX X G a33.1)
 have y1:=gm X G z1;have y2:=gm X G z2;have y3:=gm X G z3;have y4:=gm X G z4;have y5:=gm X G z5;have y6:=gm X G z6;have y7:=gm X G z7;have y8:=gm X G z8;have y9:=gm X G z9;have Q7:=gm X G z10;have QE:=gm X G z11;have y12:=gm X G z12;have y13:=gm X G z13;have au:=gm X G z14;have y15:=gm X G z15;have y16:=gm X G z16;have y17:=gm X G z17;have n1:=Xh X G a1 (p:="thing") fun _ _ _ _ _ _ _=>rfl
 have n2:=Xh X G a2 (p:="things") fun _ _ _ _ _ _ _=>rfl
 have n3:=Xh X G a3 (p:="thing") fun _ _ _ _ _ _ _=>rfl
 have n4:=ON X G a4 (p:="thing") (q:="least") fun _ _ _ _ _ _ _ _=>rfl
 have n5:=Xh X G a5 (p:="web") fun _ _ _ _ _ _ _=>rfl
 have n6:=ON X G a6 (p:="web") (q:="place") fun _ _ _ _ _ _ _ _=>rfl
 have n7:=Xh X G a7 (p:="case") fun _ _ _ _ _ _ _=>rfl
 have n8:=ON X G a8 (p:="web") (q:="starts") fun _ _ _ _ _ _ _ _=>rfl
 have n9:=ON X G a9 (p:="case") (q:="thing") fun _ _ _ _ _ _ _ _=>rfl
 have n10:=Xh X G a10 (p:="case") fun _ _ _ _ _ _ _=>rfl
 have n11:=ON X G a11 (p:="case") (q:="thing") fun _ _ _ _ _ _ _ _=>rfl
 have n12:=ON X G a12 (p:="thing") (q:="places") fun _ _ _ _ _ _ _ _=>rfl
 have n13:=ON X G a13 (p:="row") (q:="place") fun _ _ _ _ _ _ _ _=>rfl
 have n14:=V9 X G a14 (p:="case") (q:="prices") (r:="away") fun _ _ _ _ _ _ _ _ _=>rfl
 have n15:=V9 X G a15 (p:="case") (q:="prices") (r:="levy") fun _ _ _ _ _ _ _ _ _=>rfl
 have n16:=fa4 X G a16 (p:="case") (q:="aways") (r:="prices") (t:="levy") fun _ _ _ _ _ _ _ _ _ _=>rfl
 have n17:=ON X G a17 (p:="case") (q:="thing") fun _ _ _ _ _ _ _ _=>rfl
 have n18:=ON X G a18 (p:="case") (q:="thing") fun _ _ _ _ _ _ _ _=>rfl
 have n19:=ON X G a19 (p:="case") (q:="paper") fun _ _ _ _ _ _ _ _=>rfl
 have n20:=V9 X G a20 (p:="case") (q:="opening") (r:="thing") fun _ _ _ _ _ _ _ _ _=>rfl
 have n21:=ON X G a21 (p:="_law_script") (q:="_law_k") fun _ _ _ _ _ _ _ _=>rfl
 have Yd:=ON X G a22 (p:="_law_pen_here") (q:="_law_many") fun _ _ _ _ _ _ _ _=>rfl
 have n23:=ON X G a23 (p:="_law_pen_here") (q:="_law_many") fun _ _ _ _ _ _ _ _=>rfl
 have n24:=V9 X G a24 (p:="_law_pen_here") (q:="_law_names_here") (r:="_law_kind") fun _ _ _ _ _ _ _ _ _=>rfl
 have n25:=Xh X G a25 (p:="_law_case_here") fun _ _ _ _ _ _ _=>rfl
 have n26:=fa4 X G a26 (p:="_law_case_here") (q:="_law_away") (r:="_law_prices_here") (t:="_law_site") fun _ _ _ _ _ _ _ _ _ _=>rfl
 have n27:=fa5 X G a27 (p:="_law_case_here") (q:="_law_away") (r:="_law_prices_here") (t:="_law_levy") (u:="_law_at") fun _ _ _ _ _ _ _ _ _ _ _=>rfl
 have n28:=ON X G a28 (p:="_law_pen_here") (q:="_law_limit") fun _ _ _ _ _ _ _ _=>rfl
 have n29:=V9 X G a29 (p:="_law_case_here") (q:="_law_away") (r:="_law_levy") fun _ _ _ _ _ _ _ _ _=>rfl
 have n30:=V9 X G a30 (p:="_law_rows") (q:="_law_at") (r:="_law_row") fun _ _ _ _ _ _ _ _ _=>rfl
 have n31:=V9 X G a31 (p:="_law_pen_here") (q:="_law_case_here") (r:="_law_paper") fun _ _ _ _ _ _ _ _ _=>rfl
 have n32:=V9 X G a32 (p:="_law_pen_here") (q:="_law_case_here") (r:="_law_paper") fun _ _ _ _ _ _ _ _ _=>rfl
 obtain ⟨oc,od,kV,doc,pm,an,cdv,ct,osl,e,lk,hcd⟩:=a33.2.ex;exact ⟨d33,fun s v=>by subst e; exact .of_eq rfl,fun base _ _=>WJ y1 y2 y3 y4 y5 n21 (Nu y6 y1 a21.2) Yd (Cn a22.2) n28 (Lg y4 y5 Yd (Cn a22.2) n23 (Lf y1 y3 Yd (Cn a22.2) a23.2) n24 (Mm y7 y1 y3 y4 y5 Yd (Cn a22.2) a24.2) a28.2) n25 (Mp y7 a25.2) n29 (Mo y1 y3 y5 n27 (JB y8 y9 y2 n26 (Mn y8 y9 a26.2) a27.2) a29.2) n32 (Le y1 y5 Yd (Cn a22.2) n30 (Hr a30.2) a32.2) n31 (JC y1 y4 y5 Yd (Cn a22.2) n30 (Hr a30.2) a31.2) n19 (Nt Q7 y1 y5 n9 (JD QE y8 Q7 y1 y5 n10 (IP y1 y2 a10.2) n2 (JE QE y12 y4 y13 n1 (Ig ⟨y1,Q7,au,QE,⟨_,gX X G w1⟩⟩ a1.2) a2.2) a9.2) n20 (JG QE n11 (Ee n12 (Ht QE Q7 y1 y5 y15 n13 (FZ Q7 y1 y5 n1 (Ig ⟨y1,Q7,au,QE,⟨_,gX X G w1⟩⟩ a1.2) a13.2) a12.2) a11.2) n1 (Ig ⟨y1,Q7,au,QE,⟨_,gX X G w1⟩⟩ a1.2) a20.2) n15 (RO n17 (JF QE n11 (Ee n12 (Ht QE Q7 y1 y5 y15 n13 (FZ Q7 y1 y5 n1 (Ig ⟨y1,Q7,au,QE,⟨_,gX X G w1⟩⟩ a1.2) a13.2) a12.2) a11.2) n4 (Ec n3 (Hs y16 y7 Q7 a3.2) a4.2) a17.2) n18 (Nv n4 (Ec n3 (Hs y16 y7 Q7 a3.2) a4.2) a18.2) n7 (Ld n6 (TZ ⟨⟨n5.F,n5.mg,n5.b⟩,y2,n8.F,n8.mg,n8.b⟩ a6.2) a7.2) n16 (Ml QE n14 (Lh y8 y9 y17 a14.2) a16.2) a15.2) a19.2) a33.2⟩
theorem Wf {K:eV} {H:Hp} {a:Addr} {xs:List V} (o:UC H) (h:Ba K H a xs):U6 K H a xs:=by
 rcases h with (h | ⟨ob,h⟩) | h
 ·rcases o a with z | ⟨ob,ys,z⟩ <;> (rw [h] at z; cases z)
 ·exact .inl ⟨ob,h⟩
 ·exact .inr h
theorem walk {l:j6} {q:Program} {loose:List Str} {XP:(Str->Option Value)->Heap->Prop} {YP:World->Heap->Prop} {d:DefRec} {K:Params->eV} (hn:l.most=some 63) (hdf:d.params.defaults=[])
  (hY:∀ (w:World) (h:Heap),YP w h->(K w.params).In h)
  (F:∀ (w:World) (mg:Str->Option Value) (fa:Addr) (h:Heap),(K w.params).In h->h.Ns mainGlobals mg->mg d.name=some (.ref fa) ->
   ∃ fd:FuncData,(∀ (s:Shared) (u:Value),BindsTo s fd ⟨[u],[]⟩ [("_law_script",u)])/\∀ base:Heap,(K w.params).In base->base.Ns mainGlobals mg->A8 l.prog w (K w.params) mg base B0 8 fa fd ["_law_script"] (Oj (K w.params))) :
  kO q loose XP YP l.row.toRowW d [] (fun f vs=>PySem.call f vs):=
 L2.walk_of (n:=63) (k:=8) (x:="_law_script") (CX:=fun _=>B0) (sp:=fun w=>Oj (K w.params)) hn (by decide) hdf ⟨rfl,by decide,by decide,rfl⟩ hY F (fun _ _ a ns hl ho hS=>⟨a,ns,rfl,Wf ho hS,hl,fun _=>rfl⟩) fun _ _ _ _ _ z=>z
end K22
structure PySem.W.Fast:Prop where
  (tw3608133622480417004 tw11390109034363199848 tw17865527479718995153 tw6316648252659625361 tw360800864967571214 tw9066234156268499709 tw3879692534481666387 tw14896192972760006774 tw12559652161195320658 tw867013648263512472 tw12294781796598379821 tw12837869830262554828 tw4292891871472453303 tw4284345536617769414 tw10940834360294288097 tw5386387938649857744 tw977667223592140077 tw8589562448371386023 tw14935893559120939853 tw16734207122942835514 tw6848284655284321005 tw16017567549408163968 tw646111139878913904 tw17905331889059591595 tw1562336439288671568 tw17469143980914130944 tw5204282289898923906 tw11263774551345744445 tw14765508292334882381 tw11238193217198787457 tw4999260740970073104 tw1609745307754387801 tw3941520066849704065 tw14650311633034012130 tw14137381568877687799 tw4355029137627589927 tw9944202559031501256 tw2187642633419175112 tw7001841104621128354 tw13676052038414108241 tw6771124144122126651 tw4728771525362903535 tw17020076966940137276 tw8224941605922408694 tw18186173003566548149 tw7589557526543945392 tw11406146141206466372 tw5365191351067402185 tw11132152183303894231 tw12549243043766565843 tw17180974580023667297 tw1058796731991417513 tw13115872728679504047 tw12059656798626861224 tw5056859787947631521 tw13622085555165782714 tw11468145954653634887 tw12602967493950183044 tw12266669955104731918 tw18175346451706147968 tw16487882701058111737 tw12116441222893483513 tw848199916555832671 tw3959177776341648738 tw15890743857985099041 tw9754515785822463890 tw15499687293761599813 tw7394642039659962076 tw11324133584211958808 tw12737487452305147320 tw10838299484636457922 tw574540666207873236 tw9739954023589243799 tw4100447251642391687 tw13112464302589596780 tw9576113523504935804 tw2505208868467203842 tw1380244439105415676 tw1905728004869310391 tw90798040991705884 tw15222358504050086818 tw2096858801937031428 tw7007103039982279487 tw9176432096755083902 tw3848114222711863252 tw3044584095697820280 tw10419457417440427479 tw3485262221435168435 tw7960158976516730174 tw12200207759799574775 tw631879706263760745 tw14350571978006449070 tw14560917223105399992 tw2280259166430572664 tw923726330802863970 tw2180353643617892853 tw2906127903814956073 tw6171780759842556742 tw823872035594581787 tw5719077505459550644 tw9236089272481380387 tw140455650379670661 tw12384893980513768912 tw4069216033728442505 tw2646887306221984649 tw17750940067671614237 tw12821540761930541182 tw10477476696753329507 tw12929805397733143092 tw3662242503065348920 tw6344210927070033946 tw311974033658453043 tw12958567542708553014 tw12365963350196325267 tw8318295145233343322:True)
open PySem PySem.W PyProof.Rows
set_option maxRecDepth 100000 in
set_option maxHeartbeats 0 in
theorem PySem.Challenge.cw_openhouses_k22_each_condition_of_a_paper_holds : PySem.Challenge.rw_openhouses_k22_each_condition_of_a_paper.Holds := by
 w_on; o_law; k_head; (case hw=>w_witness2)
 k_fill
 refine K22.walk (l:=PySem.Challenge.rw_openhouses_k22_each_condition_of_a_paper) rfl rfl (fun w h Y=>PySem.W.kIn_of Y) ?F
 case F=>
  intro w mg fa h KX G hmg;refine' K22.all_mk KX G hmg (L2.at_mk ?a1 ?l1 ?c1 ?k1) (L2.at_mk ?a2 ?l2 ?c2 ?k2) (L2.at_mk ?a3 ?l3 ?c3 ?k3) (L2.at_mk ?a4 ?l4 ?c4 ?k4) (L2.at_mk ?a5 ?l5 ?c5 ?k5) (L2.at_mk ?a6 ?l6 ?c6 ?k6) (L2.at_mk ?a7 ?l7 ?c7 ?k7) (L2.at_mk ?a8 ?l8 ?c8 ?k8) (L2.at_mk ?a9 ?l9 ?c9 ?k9) (L2.at_mk ?a10 ?l10 ?c10 ?k10) (L2.at_mk ?a11 ?l11 ?c11 ?k11) (L2.at_mk ?a12 ?l12 ?c12 ?k12) (L2.at_mk ?a13 ?l13 ?c13 ?k13) (L2.at_mk ?a14 ?l14 ?c14 ?k14) (L2.at_mk ?a15 ?l15 ?c15 ?k15) (L2.at_mk ?a16 ?l16 ?c16 ?k16) (L2.at_mk ?a17 ?l17 ?c17 ?k17) (L2.at_mk ?a18 ?l18 ?c18 ?k18) (L2.at_mk ?a19 ?l19 ?c19 ?k19) (L2.at_mk ?a20 ?l20 ?c20 ?k20) (L2.at_mk ?a21 ?l21 ?c21 ?k21) (L2.at_mk ?a22 ?l22 ?c22 ?k22) (L2.at_mk ?a23 ?l23 ?c23 ?k23) (L2.at_mk ?a24 ?l24 ?c24 ?k24) (L2.at_mk ?a25 ?l25 ?c25 ?k25) (L2.at_mk ?a26 ?l26 ?c26 ?k26) (L2.at_mk ?a27 ?l27 ?c27 ?k27) (L2.at_mk ?a28 ?l28 ?c28 ?k28) (L2.at_mk ?a29 ?l29 ?c29 ?k29) (L2.at_mk ?a30 ?l30 ?c30 ?k30) (L2.at_mk ?a31 ?l31 ?c31 ?k31) (L2.at_mk ?a32 ?l32 ?c32 ?k32) (L2.at_mk ?a33 ?l33 ?c33 ?k33) ?z1 ?z2 ?z3 ?z4 ?z5 ?z6 ?z7 ?z8 ?z9 ?z10 ?z11 ?z12 ?z13 ?z14 ?z15 ?z16 ?z17 ?w1;any_goals k_is
